import PyProof.Rows.All
import Wide.All
import OpenK.AllK
import Wide.FinOn
import HandS.ForMost
import HandS.IsInst
import HandS.Conv
import HandS.Style
import HandS.More
import HandS.Evl
import HandS.Zip
import HandS.SetFor
import HandS.Sort
import HandS.Wide
import HandS.Deep
import KE.SortData
import PySem.Challenge.RW_farorders_k03_how_far_by_each_way
set_option Elab.async false
set_option linter.all false
set_option maxRecDepth 100000
namespace Fo
open PySem PySem.Spec PyProof.Rows L2
/-! ### lists and orders -/
def rg (n : Nat) : List Int := (List.range n).map fun k => ((k : Nat) : Int)
def IsOrd (n : Nat) (ns : List Int) : Prop := ns.Perm (rg n)
theorem rg_len (n : Nat) : (rg n).length = n := by
  unfold rg
  rw [List.length_map, List.length_range]
theorem rg_mem {n : Nat} {x : Int} : x ∈ rg n ↔ 0 ≤ x ∧ x < n := by
  unfold rg
  rw [List.mem_map]
  constructor
  · rintro ⟨k, hk, rfl⟩
    have := List.mem_range.mp hk
    omega
  · rintro ⟨h0, h1⟩
    exact ⟨x.toNat, List.mem_range.mpr (by omega), by omega⟩
theorem rg_nodup (n : Nat) : (rg n).Nodup := by
  unfold rg
  exact List.Pairwise.map _ (fun a b h e => h (by omega)) List.nodup_range
theorem rg_sorted (n : Nat) : (rg n).Pairwise (· ≤ ·) := by
  unfold rg
  exact List.Pairwise.map _ (fun a b h => by omega) List.pairwise_lt_range
theorem rg_V (n : Nat) : rgV 0 (n : Int) = (rg n).map V.int := by
  unfold rgV rg
  rw [List.map_map, show ((n : Int) - 0).toNat = n by omega]
  apply List.map_congr_left
  intro a _
  show V.int (0 + (a : Int)) = V.int (a : Int)
  rw [Int.zero_add]
theorem IsOrd.len {n : Nat} {ns : List Int} (h : IsOrd n ns) : ns.length = n := (List.Perm.length_eq h).trans (rg_len n)
theorem IsOrd.mem {n : Nat} {ns : List Int} (h : IsOrd n ns) {x : Int} (m : x ∈ ns) : 0 ≤ x ∧ x < n := rg_mem.mp ((List.Perm.mem_iff h).mp m)
theorem IsOrd.nodup {n : Nat} {ns : List Int} (h : IsOrd n ns) : ns.Nodup := (List.Perm.nodup_iff h).mpr (rg_nodup n)
/-- two sorted lists of the same things are one -/
theorem sorted_eq : ∀ {a b : List Int}, a.Perm b → a.Pairwise (· ≤ ·) → b.Pairwise (· ≤ ·) → a = b := by
  intro a b hp ha hb
  exact List.Perm.eq_of_pairwise (fun x y _ _ h1 h2 => by omega) ha hb hp
/-- the things at p and p + 1 change places -/
def sw (xs : List Int) (p : Nat) : List Int := (xs.set p (xs.getD (p + 1) 0)).set (p + 1) (xs.getD p 0)
theorem split2 : ∀ {xs : List Int} {p : Nat}, p + 1 < xs.length → ∃ A a b B, xs = A ++ a :: b :: B ∧ A.length = p
  | [], p, h => by simp at h
  | [_], p, h => by simp at h
  | a :: b :: r, 0, _ => ⟨[], a, b, r, rfl, rfl⟩
  | a :: b :: r, p + 1, h => by
    obtain ⟨A, x, y, B, e, l⟩ := split2 (xs := b :: r) (p := p) (by simpa using h)
    exact ⟨a :: A, x, y, B, by rw [e]; rfl, by rw [List.length_cons, l]⟩
theorem sw_at : ∀ (A : List Int) (a b : Int) (B : List Int), sw (A ++ a :: b :: B) A.length = A ++ b :: a :: B
  | [], a, b, B => rfl
  | x :: A, a, b, B => by
    have ih := sw_at A a b B
    unfold sw at ih ⊢
    show x :: _ = x :: _
    exact congrArg (x :: ·) ih
theorem sw_perm {xs : List Int} {p : Nat} (h : p + 1 < xs.length) : (sw xs p).Perm xs := by
  obtain ⟨A, a, b, B, rfl, rfl⟩ := split2 h
  rw [sw_at]
  exact List.Perm.append_left A (List.Perm.swap a b B)
theorem sw_len (xs : List Int) (p : Nat) : (sw xs p).length = xs.length := by
  unfold sw
  rw [List.length_set, List.length_set]
theorem sw_ord {n : Nat} {xs : List Int} {p : Nat} (o : IsOrd n xs) (h : p + 1 < n) : IsOrd n (sw xs p) :=
  (sw_perm (by rw [o.len]; exact h)).trans o
theorem sw_V {xs : List Int} {p : Nat} {a b : Int} (ha : xs[p]? = some a) (hb : xs[p + 1]? = some b) : ((xs.map V.int).set p (V.int b)).set (p + 1) (V.int a) = (sw xs p).map V.int := by
  unfold sw
  rw [List.getD_eq_getElem?_getD, List.getD_eq_getElem?_getD, ha, hb, List.map_set, List.map_set]
  rfl
theorem pop_ins {xs : List Int} {p : Nat} {a : Int} (h : p + 1 < xs.length) (ha : xs[p]? = some a) : (xs.eraseIdx p).take (p + 1) ++ [a] ++ (xs.eraseIdx p).drop (p + 1) = sw xs p := by
  obtain ⟨A, x, y, B, rfl, rfl⟩ := split2 h
  have ex : x = a := by
    rw [List.getElem?_append_right (Nat.le_refl _), Nat.sub_self] at ha
    exact Option.some.inj ha
  subst ex
  rw [sw_at, List.eraseIdx_append_of_length_le (Nat.le_refl _), Nat.sub_self]
  show (A ++ y :: B).take (A.length + 1) ++ [x] ++ (A ++ y :: B).drop (A.length + 1) = _
  rw [List.take_append, List.drop_append]
  have t : A.length + 1 - A.length = 1 := by omega
  rw [t, List.take_of_length_le (by omega), List.drop_of_length_le (by omega)]
  simp
/-- the order at a walk's end -/
def wEnd (xs : List Int) (ws : List Int) : List Int := ws.foldl (fun x p => sw x p.toNat) xs
theorem wEnd_more {xs ws : List Int} {i : Nat} {p : Int} (h : ws[i]? = some p) : wEnd xs (ws.take (i + 1)) = sw (wEnd xs (ws.take i)) p.toNat := by
  unfold wEnd
  rw [List.take_add_one, h, List.foldl_append]
  rfl
theorem wEnd_ord {n : Nat} {xs : List Int} (o : IsOrd n xs) : ∀ {ws : List Int}, (∀ p ∈ ws, 0 ≤ p ∧ p + 1 < n) → IsOrd n (wEnd xs ws) := by
  intro ws
  induction ws generalizing xs with
  | nil => intro _; exact o
  | cons p ws ih =>
    intro h
    have hp := h p List.mem_cons_self
    exact ih (sw_ord o (by omega)) fun q hq => h q (List.mem_cons_of_mem _ hq)
theorem nodup_len : ∀ {l m : List Int}, l.Nodup → (∀ x ∈ l, x ∈ m) → l.length ≤ m.length
  | [], m, _, _ => Nat.zero_le _
  | a :: l, m, hn, hs => by
    obtain ⟨h1, h2⟩ := List.nodup_cons.mp hn
    have ha := hs a List.mem_cons_self
    have ih := nodup_len (l := l) (m := m.erase a) h2 fun x hx => by
      have ne : x ≠ a := fun e => h1 (by rw [← e]; exact hx)
      exact (List.mem_erase_of_ne ne).mpr (hs x (List.mem_cons_of_mem _ hx))
    rw [List.length_erase_of_mem ha] at ih
    have : 0 < m.length := List.length_pos_of_mem ha
    rw [List.length_cons]
    omega
theorem int_at {ns : List Int} {i : Nat} {x : Int} (h : ns[i]? = some x) : (ns.map V.int)[i]? = some (V.int x) := by
  rw [List.getElem?_map, h]
  rfl
theorem int_at_inv {ns : List Int} {i : Nat} {v : V} (h : (ns.map V.int)[i]? = some v) : ∃ x, ns[i]? = some x ∧ v = V.int x := by
  rw [List.getElem?_map] at h
  cases e : ns[i]? with
  | none => rw [e] at h; cases h
  | some x => rw [e] at h; exact ⟨x, rfl, (Option.some.inj h).symm⟩
theorem line_small {n : Nat} (h : n ≤ 16777216) : n ≤ sizeLine := by rw [sizeLine_eq]; exact h
theorem line_lt {n : Nat} (h : n < 16777216) : n < sizeLine := by rw [sizeLine_eq]; exact h
/-! ### data of ints -/
theorem dp_ints {K : PySem.W.Frag} {H : Hp} : ∀ ns : List Int, DpAll K H (ns.map V.int) (ns.map PyData.int)
  | [] => .nil
  | n :: r => .cons (.int n) (dp_ints r)
theorem dp_list {K : PySem.W.Frag} {H : Hp} {a : Addr} {ns : List Int} (h : H a = some (.lst (ns.map V.int))) : Dp K H (.ref a) (.list (ns.map PyData.int)) := .lst (SqL.of h) (dp_ints ns)
theorem eqv_int (i j : Int) : PyData.eqv (.int i) (.int j) = (i == j) := rfl
end Fo
namespace Fo
open PySem PySem.Spec PyProof.Rows L2
abbrev dI (ns : List Int) : List PyData := ns.map PyData.int
abbrev dL (ns : List Int) : PyData := .list (dI ns)
abbrev dLL (l : List (List Int)) : PyData := .list (l.map dL)
theorem lay_ints : ∀ ns : List Int, PyData.canLayAll0 (dI ns) = true
  | [] => rfl
  | n :: r => by
    show (PyData.canLay0 (.int n) && PyData.canLayAll0 (dI r)) = true
    rw [lay_ints r]
    rfl
theorem depth_ints : ∀ ns : List Int, PyData.depthAll (dI ns) = 0
  | [] => by simp [PyData.depthAll]
  | n :: r => by
    show PyData.depthAll (.int n :: dI r) = 0
    rw [PyData.depthAll, depth_ints r]
    simp [PyData.depth]
theorem lay_list (ns : List Int) : PyData.canLay0 (dL ns) = true := by
  rw [PyData.canLay0]
  exact lay_ints ns
theorem depth_list (ns : List Int) : PyData.depth (dL ns) = 1 := by
  rw [PyData.depth, depth_ints]
theorem shaped_list (ns : List Int) : SeqAt.shaped (dL ns) = true := by
  unfold SeqAt.shaped
  rw [lay_list, depth_list]
  rfl
theorem lay_lists : ∀ l : List (List Int), PyData.canLayAll0 (l.map dL) = true
  | [] => rfl
  | n :: r => by
    show (PyData.canLay0 (dL n) && PyData.canLayAll0 (r.map dL)) = true
    rw [lay_lists r, lay_list]
    rfl
theorem depth_lists : ∀ l : List (List Int), PyData.depthAll (l.map dL) ≤ 1
  | [] => by simp [PyData.depthAll]
  | n :: r => by
    show PyData.depthAll (dL n :: r.map dL) ≤ 1
    rw [PyData.depthAll, depth_list]
    have := depth_lists r
    omega
theorem shaped_lists (l : List (List Int)) : SeqAt.shaped (dLL l) = true := by
  unfold SeqAt.shaped
  rw [Bool.and_eq_true_iff]
  constructor
  · rw [PyData.canLay0]
    exact lay_lists l
  · apply decide_eq_true
    rw [PyData.depth]
    have := depth_lists l
    omega
theorem eqv_list (ns : List Int) : PyData.eqv (dL ns) (dL ns) = true := SeqAt.eqv_refl _ (lay_list ns)
theorem eqv_lists (l : List (List Int)) : PyData.eqv (dLL l) (dLL l) = true := SeqAt.eqv_refl _ (SeqAt.canLay_of_shaped (shaped_lists l))
theorem eqvAll_ints : ∀ a b : List Int, PyData.eqvAll (dI a) (dI b) = decide (a = b)
  | [], [] => by simp [PyData.eqvAll]
  | [], _ :: _ => by simp [PyData.eqvAll]
  | _ :: _, [] => by simp [PyData.eqvAll]
  | x :: a, y :: b => by
    show PyData.eqvAll (.int x :: dI a) (.int y :: dI b) = _
    rw [PyData.eqvAll, eqvAll_ints a b]
    show ((x == y) && decide (a = b)) = decide (x :: a = y :: b)
    by_cases h : x = y
    · subst h
      simp
    · simp [h]
theorem eqv_ints (a b : List Int) : PyData.eqv (dL a) (dL b) = decide (a = b) := by
  rw [PyData.eqv]
  exact eqvAll_ints a b
end Fo
namespace Fo
open PySem PySem.Spec PyProof.Rows L2
/-! ### slices of ints -/
def cutI (ws : List Int) (lo hi : Option Int) : List Int := (ws.drop (HT.sIx ws.length 0 lo)).take (HT.sIx ws.length ws.length hi - HT.sIx ws.length 0 lo)
theorem cut_ints (ws : List Int) (lo hi : Option Int) : cutV (ws.map V.int) lo hi = (cutI ws lo hi).map V.int := by
  unfold cutV cutI
  rw [List.length_map, List.map_take, List.map_drop]
theorem cutI_mem {ws : List Int} {lo hi : Option Int} {x : Int} (h : x ∈ cutI ws lo hi) : x ∈ ws := List.mem_of_mem_drop (List.mem_of_mem_take h)
theorem cutI_len (ws : List Int) (lo hi : Option Int) : (cutI ws lo hi).length ≤ ws.length := by
  unfold cutI
  rw [List.length_take, List.length_drop]
  omega
theorem cutI_head (ws : List Int) (k : Nat) : cutI ws none (some (k : Int)) = ws.take k := by
  unfold cutI
  rw [HT.sIx_none, HT.sIx_nat, List.drop_zero, Nat.sub_zero]
  by_cases h : k ≤ ws.length
  · rw [Nat.min_eq_left h]
  · rw [Nat.min_eq_right (by omega), List.take_length, List.take_of_length_le (by omega)]
theorem cutI_tail (ws : List Int) (k : Nat) : cutI ws (some (k : Int)) none = ws.drop k := by
  unfold cutI
  rw [HT.sIx_none, HT.sIx_nat]
  by_cases h : k ≤ ws.length
  · rw [Nat.min_eq_left h, List.take_of_length_le (by rw [List.length_drop]; exact Nat.le_refl _)]
  · rw [Nat.min_eq_right (by omega), List.drop_of_length_le (Nat.le_refl _), List.drop_of_length_le (by omega), List.take_nil]
end Fo
namespace Fo
open PySem PySem.Spec PyProof.Rows L2
/-! ### the text -/
def topS (i : Nat) : Stmt := PySem.Challenge.pw_farorders_k03_how_far_by_each_way.main.body.getD i (.Pass ⟨0, 0, 0, 0⟩)
abbrev s_OrderError : Stmt := topS 1
abbrev s_NoOrder : Stmt := topS 2
abbrev s_NoWay : Stmt := topS 3
abbrev s_NoFit : Stmt := topS 4
abbrev s_is_whole : Stmt := topS 7
abbrev s_check_way : Stmt := topS 8
abbrev s_is_order : Stmt := topS 11
abbrev s_check_order : Stmt := topS 12
abbrev s_check_orders : Stmt := topS 13
abbrev s_check_fit : Stmt := topS 14
abbrev s_places_in : Stmt := topS 15
abbrev s_seats_in : Stmt := topS 16
abbrev s_how_far : Stmt := topS 17
abbrev s_known_far : Stmt := topS 18
abbrev s_far_by_swap : Stmt := topS 19
abbrev s_far_by_spot : Stmt := topS 20
abbrev s_far_by_shift : Stmt := topS 21
abbrev s_law_deck : Stmt := topS 23
abbrev s_law_draw : Stmt := topS 24
abbrev s_law_order : Stmt := topS 25
abbrev s_law_things : Stmt := topS 26
abbrev s_law_near : Stmt := topS 27
abbrev s_law_due : Stmt := topS 28
abbrev s_law : Stmt := topS 29
/-- a def of the text, where it stands -/
structure Df (K : PySem.W.Frag) (mg : Str → Option Value) (x : Str) (st : Stmt) (ps : List Str) (f : Addr) (fd : FuncData) : Prop where
  F : Fun K x x st f fd
  b : Binds K fd ps []
  g : mg x = some (.ref f)
/-- the built-in names as they were -/
structure Bi (mg : Str → Option Value) : Prop where
  abs : mg "abs" = none
  all : mg "all" = none
  bool : mg "bool" = none
  enumerate : mg "enumerate" = none
  int : mg "int" = none
  isinstance : mg "isinstance" = none
  len : mg "len" = none
  list : mg "list" = none
  max : mg "max" = none
  min : mg "min" = none
  range : mg "range" = none
  sorted : mg "sorted" = none
  str : mg "str" = none
  sum : mg "sum" = none
end Fo
namespace Fo
open PySem PySem.Spec PyProof.Rows L2
theorem same_new {H : Hp} {p : Addr} {o : HO} (h : H p = none) : Same H (upd H p o) := fun b x e => by
  rw [upd_ne (ne_of_none e h)]
  exact e
theorem at2_0 {x y : V} : atI [x, y] 0 = some x := rfl
theorem at2_1 {x y : V} : atI [x, y] 1 = some y := rfl
end Fo
namespace Fo
open PySem PySem.Spec PyProof.Rows L2
theorem pop_perm : ∀ {xs : List Int} {k : Nat} {y : Int}, xs[k]? = some y → (y :: xs.eraseIdx k).Perm xs
  | [], k, y, h => by simp at h
  | a :: r, 0, y, h => by
    have e : a = y := Option.some.inj h
    subst e
    exact List.Perm.refl _
  | a :: r, k + 1, y, h => by
    have ih := pop_perm (xs := r) (k := k) (y := y) h
    show (y :: a :: r.eraseIdx k).Perm (a :: r)
    exact (List.Perm.swap a y _).trans (List.Perm.cons a ih)
theorem map_erase : ∀ (xs : List Int) (k : Nat), (xs.map V.int).eraseIdx k = (xs.eraseIdx k).map V.int
  | [], k => rfl
  | a :: r, 0 => rfl
  | a :: r, k + 1 => congrArg (V.int a :: ·) (map_erase r k)
/-- what len asks of a list or a tuple -/
abbrev rLenS (K : PySem.W.Frag) : List V → Hp → VK → Prop := fun xs H Q => ∃ p ys, xs = [.ref p] ∧ (SqL K H p ys ∨ SqT K H p ys) ∧ Q (.int ys.length) H
theorem seq_ix {i : Int} {k n : Nat} (e : i = (k : Int)) (h : k < n) : seqIndex? i n = some k := by
  subst e
  unfold seqIndex?
  have h1 : ¬ ((k : Int) < 0) := by omega
  simp only [h1, if_false]
  have h2 : (decide ((0 : Int) ≤ (k : Int)) && decide ((k : Int) < (n : Int))) = true := by
    simp
    omega
  rw [if_pos h2, Int.toNat_natCast]
theorem ix_n {i : Int} {k n : Nat} (e : i = (k : Int)) (h : k < n) : ixN n i = some k := by
  subst e
  unfold ixN
  rw [if_pos (by omega), if_pos (by omega), Int.toNat_natCast]
end Fo
namespace Fo
open PySem PySem.Spec PyProof.Rows L2
/-! ### the deck: a list of its pools and a number; a pool: three numbers -/
structure Dk where
  d : Addr
  pl : Addr
  as : List Addr
def Dk.Foot (D : Dk) (b : Addr) : Prop := b = D.d ∨ b = D.pl ∨ b ∈ D.as
structure DkAt (H : Hp) (D : Dk) : Prop where
  top : ∃ i : Int, H D.d = some (.lst [.ref D.pl, .int i])
  pools : H D.pl = some (.lst (D.as.map V.ref))
  len : 0 < D.as.length
  len2 : D.as.length ≤ 63
  at_ : ∀ a ∈ D.as, ∃ x y z : Int, H a = some (.lst [.int x, .int y, .int z])
def Keep (D : Dk) (H H' : Hp) : Prop := ∀ b o, H b = some o → ¬ D.Foot b → H' b = some o
theorem Keep.refl {D : Dk} (H : Hp) : Keep D H H := fun _ _ e _ => e
theorem Keep.trans {D : Dk} {H H1 H2 : Hp} (a : Keep D H H1) (b : Keep D H1 H2) : Keep D H H2 := fun c o e f => b c o (a c o e f) f
theorem Keep.new {D : Dk} {H : Hp} {p : Addr} {o : HO} (e : H p = none) : Keep D H (upd H p o) := fun b u h _ => by
  rw [upd_ne (ne_of_none h e)]
  exact h
theorem Keep.foot {D : Dk} {H : Hp} {p : Addr} {o : HO} (f : D.Foot p) : Keep D H (upd H p o) := fun b u h nf => by
  rw [upd_ne (fun e => nf (by rw [e]; exact f))]
  exact h
theorem Keep.of_same {D : Dk} {H H' : Hp} (h : Same H H') : Keep D H H' := fun b o e _ => h b o e
section
variable {H : Hp} {D : Dk}
theorem DkAt.tracked (h : DkAt H D) {b : Addr} (f : D.Foot b) : ∃ o, H b = some o := by
  rcases f with rfl | rfl | f
  · obtain ⟨i, e⟩ := h.top
    exact ⟨_, e⟩
  · exact ⟨_, h.pools⟩
  · obtain ⟨x, y, z, e⟩ := h.at_ b f
    exact ⟨_, e⟩
theorem DkAt.notFoot (h : DkAt H D) {p : Addr} (e : H p = none) : ¬ D.Foot p := fun f => by
  obtain ⟨o, q⟩ := h.tracked f
  rw [e] at q
  cases q
theorem DkAt.upd (h : DkAt H D) {p : Addr} {o : HO} (nf : ¬ D.Foot p) : DkAt (upd H p o) D where
  top := by
    obtain ⟨i, e⟩ := h.top
    exact ⟨i, by rw [upd_ne (fun q => nf (.inl q.symm))]; exact e⟩
  pools := by
    rw [upd_ne (fun q => nf (.inr (.inl q.symm)))]
    exact h.pools
  len := h.len
  len2 := h.len2
  at_ := fun a ha => by
    obtain ⟨x, y, z, e⟩ := h.at_ a ha
    exact ⟨x, y, z, by rw [upd_ne (fun q => nf (.inr (.inr (by rw [← q]; exact ha))))]; exact e⟩
theorem DkAt.new (h : DkAt H D) {p : Addr} {o : HO} (e : H p = none) : DkAt (L2.upd H p o) D := h.upd (h.notFoot e)
theorem DkAt.same (h : DkAt H D) {H' : Hp} (s : Same H H') : DkAt H' D := ⟨by obtain ⟨i, e⟩ := h.top; exact ⟨i, s _ _ e⟩, s _ _ h.pools, h.len, h.len2, fun a ha => by
  obtain ⟨x, y, z, e⟩ := h.at_ a ha
  exact ⟨x, y, z, s _ _ e⟩⟩
theorem DkAt.a_ne_d (h : DkAt H D) {a : Addr} (ha : a ∈ D.as) : a ≠ D.d := by
  obtain ⟨x, y, z, e⟩ := h.at_ a ha
  obtain ⟨i, e2⟩ := h.top
  exact ne_of e e2 (by intro q; cases q)
theorem DkAt.a_ne_pl (h : DkAt H D) {a : Addr} (ha : a ∈ D.as) : a ≠ D.pl := by
  obtain ⟨x, y, z, e⟩ := h.at_ a ha
  refine ne_of e h.pools ?_
  cases q : D.as with
  | nil => intro z; cases z
  | cons b r => intro z; cases z
theorem DkAt.d_ne_pl (h : DkAt H D) : D.d ≠ D.pl := by
  obtain ⟨i, e⟩ := h.top
  refine ne_of e h.pools ?_
  rcases q : D.as with _ | ⟨b, _ | ⟨c, r⟩⟩ <;> (intro z; cases z)
theorem DkAt.pool (h : DkAt H D) {a : Addr} (ha : a ∈ D.as) {x y z : Int} : DkAt (L2.upd H a (.lst [.int x, .int y, .int z])) D where
  top := by
    obtain ⟨i, e⟩ := h.top
    exact ⟨i, by rw [upd_ne (h.a_ne_d ha).symm]; exact e⟩
  pools := by
    rw [upd_ne (h.a_ne_pl ha).symm]
    exact h.pools
  len := h.len
  len2 := h.len2
  at_ := fun b hb => by
    by_cases q : b = a
    · subst q
      exact ⟨x, y, z, upd_same⟩
    · obtain ⟨x', y', z', e⟩ := h.at_ b hb
      exact ⟨x', y', z', by rw [upd_ne q]; exact e⟩
theorem DkAt.step (h : DkAt H D) {i : Int} : DkAt (L2.upd H D.d (.lst [.ref D.pl, .int i])) D where
  top := ⟨i, upd_same⟩
  pools := by
    rw [upd_ne h.d_ne_pl.symm]
    exact h.pools
  len := h.len
  len2 := h.len2
  at_ := fun b hb => by
    obtain ⟨x', y', z', e⟩ := h.at_ b hb
    exact ⟨x', y', z', by rw [upd_ne (h.a_ne_d hb)]; exact e⟩
end
/-! ### the promises of the law's own defs -/
def spDeck (K : PySem.W.Frag) : Sp := fun vs H Q _ => ∃ (a : Addr) (ns : List Int), vs = [.ref a] ∧ SqL K H a (ns.map V.int) ∧ ns.length ≤ 63 ∧
  ∀ (D : Dk) (H' : Hp), DkAt H' D → Same H H' → (∀ b, D.Foot b → H b = none) → Q (.ref D.d) H'
def spDraw : Sp := fun vs H Q _ => ∃ (D : Dk) (many : Int), vs = [.ref D.d, .int many] ∧ DkAt H D ∧ 0 < many ∧ many < 1000000 ∧
  ∀ (v : Int) (H' : Hp), 0 ≤ v → v < many → DkAt H' D → Keep D H H' → Q (.int v) H'
def spThings : Sp := fun vs H Q _ => ∃ (D : Dk), vs = [.ref D.d] ∧ DkAt H D ∧
  ∀ (n : Nat) (H' : Hp), 1 ≤ n → n ≤ 12 → DkAt H' D → Keep D H H' → Q (.int n) H'
def spOrder : Sp := fun vs H Q _ => ∃ (D : Dk) (n : Nat), vs = [.ref D.d, .int n] ∧ DkAt H D ∧ 1 ≤ n ∧ n ≤ 12 ∧
  ∀ (ns : List Int) (l : Addr) (H' : Hp), IsOrd n ns → H l = none → H' l = some (.lst (ns.map V.int)) → ¬ D.Foot l → DkAt H' D → Keep D H H' → Q (.ref l) H'
section
variable {P : Program} {w : World} {K : PySem.W.Frag} {mg : Str → Option Value} {base : Heap}
/-! ### a draw -/
theorem scDraw : FnScope ["deck", "many", "pool", "found", "number"] ["deck", "many"] (defScope s_law_draw) := ⟨rfl, rfl, rfl, by decide +kernel, rfl, by decide +kernel, by decide +kernel⟩
theorem at3_0 {x y z : V} : atI [x, y, z] 0 = some x := rfl
theorem at3_1 {x y z : V} : atI [x, y, z] 1 = some y := rfl
theorem at3_2 {x y z : V} : atI [x, y, z] 2 = some z := rfl
set_option maxHeartbeats 2000000 in
theorem ok_draw {f : Addr} {fd : FuncData} {k : Nat} (T : Df K mg "_law_draw" s_law_draw ["deck", "many"] f fd) (B : Bi mg) : FnOk P w K mg base CX0 (k + 1) f fd ["deck", "many"] spDraw := by
  refine T.F.ok scDraw (fun vs H Q E h => ?_) (fun cdv A outer s H vs Q E hr h => ?_)
  · obtain ⟨D, m, rfl, _⟩ := h
    rfl
  · obtain ⟨D, m, rfl, hD, hm0, hm1, q⟩ := h
    refine ⟨_, pss_cons (ps_set (i := 2) scDraw.nd rfl (.inl rfl) (pe_ix ix_list (pe_ix ix_list (pv 0) pe_int (fun _ _ => rfl)) (pe_op op_mod (pe_ix ix_list (pv 0) pe_int (fun _ _ => rfl)) (pe_callB call_len_seq (by rfl) B.len PySem.boot_len (pa_cons (pe_ix ix_list (pv 0) pe_int (fun _ _ => rfl)) pa_nil))) (fun _ _ => rfl)))
      (pss_cons (ps_asg (pe_op op_add (pe_ix ix_list (pv 0) pe_int (fun _ _ => rfl)) pe_int) (pg_sub (pv 0) pe_int set_list))
      (Evl.pss_cut (ps_if (PW.pt (pw_and (pt_cmpR op_eq (pe_ix ix_list (pv 2) pe_int (fun _ _ => rfl)) pe_int (nomark _)) (pw_and1 (pt_cmpR op_gt (pe_ix ix_list (pv 2) pe_int (fun _ _ => rfl)) pe_int (nomark _)))))
        (pss_cons (ps_set (i := 3) scDraw.nd rfl (.inl rfl) (pe_op op_mod (pe_ix ix_list (pv 2) pe_int (fun _ _ => rfl)) (pv 1)))
        (pss_cons (ps_asg (pe_op op_fdiv (pe_ix ix_list (pv 2) pe_int (fun _ _ => rfl)) (pv 1)) (pg_sub (pv 2) pe_int set_list))
        (pss_one (ps_ret (pv 3))))) pss_nil)
      (pss_cons (ps_asg (pe_op op_add (pe_ix ix_list (pv 2) pe_int (fun _ _ => rfl)) pe_int) (pg_sub (pv 2) pe_int set_list))
      (pss_cons (ps_set (i := 4) scDraw.nd rfl (.inl rfl) (pe_op op_mod (pe_op op_add (pe_op op_mod (pe_ix ix_list (pv 2) pe_int (fun _ _ => rfl)) pe_int) (pe_op op_mul pe_int (pe_ix ix_list (pv 2) pe_int (fun _ _ => rfl)))) pe_int))
      (pss_cons (ps_set (i := 4) scDraw.nd rfl (.inl rfl) (pe_op op_mod (pe_op op_mul (pv 4) (pv 4)) pe_int))
      (pss_cons (ps_set (i := 4) scDraw.nd rfl (.inl rfl) (pe_op op_mod (pe_op op_mul (pv 4) (pe_op op_add (pv 4) pe_int)) pe_int))
      (pss_one (ps_ret (pe_op op_mod (pe_op op_fdiv (pv 4) pe_int) (pv 1)))))))))), ?_⟩
    obtain ⟨i, hd⟩ := hD.top
    have hl := hD.len
    -- pool = deck[0][deck[1] % len(deck[0])]
    obtain ⟨j, hj, ej⟩ : ∃ j : Nat, j < D.as.length ∧ i % (((D.as.map V.ref).length : Nat) : Int) = (j : Int) := by
      rw [List.length_map]
      have h1 := Int.emod_nonneg i (show ((D.as.length : Nat) : Int) ≠ 0 by omega)
      have h2 := Int.emod_lt_of_pos i (show (0 : Int) < ((D.as.length : Nat) : Int) by omega)
      exact ⟨(i % ((D.as.length : Nat) : Int)).toNat, by omega, by omega⟩
    obtain ⟨a, ea⟩ : ∃ a, D.as[j]? = some a := ⟨D.as[j], List.getElem?_eq_getElem hj⟩
    have ha : a ∈ D.as := List.mem_of_getElem? ea
    have eV : (D.as.map V.ref)[j]? = some (V.ref a) := by rw [List.getElem?_map, ea]; rfl
    obtain ⟨x, y, z, hp⟩ := hD.at_ a ha
    refine ⟨_, rfl, D.d, _, 0, _, rfl, rfl, SqL.of hd, at2_0, _, rfl, D.d, _, 1, _, rfl, rfl, SqL.of hd, at2_1, _, rfl, D.d, _, 0, _, rfl, rfl, SqL.of hd, at2_0, D.pl, _, rfl, .inl (SqL.of hD.pools), i, _, rfl, rfl, ?_, D.pl, _, _, .ref a, rfl, rfl, SqL.of hD.pools, at_of ej eV, ?_⟩
    · rw [List.length_map]; omega
    -- deck[1] = deck[1] + 1
    refine ⟨_, rfl, D.d, _, 1, _, rfl, rfl, SqL.of hd, at2_1, i, 1, rfl, rfl, _, rfl, D.d, _, 1, 1, rfl, rfl, hd, rfl, ?_⟩
    have hD1 : DkAt (upd H D.d (.lst [.ref D.pl, .int (i + 1)])) D := hD.step
    have k1 : Keep D H (upd H D.d (.lst [.ref D.pl, .int (i + 1)])) := Keep.foot (.inl rfl)
    have hp1 : (upd H D.d (.lst [.ref D.pl, .int (i + 1)])) a = some (.lst [.int x, .int y, .int z]) := by
      rw [upd_ne (hD.a_ne_d ha)]
      exact hp
    refine ⟨fun σ' H' => σ' = [some (.ref D.d), some (.int m), some (.ref a), none, none] ∧ H' = upd H D.d (.lst [.ref D.pl, .int (i + 1)]), ?_, fun σ' H' hM => ?_⟩
    · -- if pool[1] == 1 and pool[0] > 0
      refine ⟨_, rfl, a, _, 1, _, rfl, rfl, SqL.of hp1, at3_1, rfl, _, rfl, ite2 (fun _ => ?_) (fun _ => iteF ⟨rfl, rfl⟩)⟩
      refine ⟨_, rfl, a, _, 0, _, rfl, rfl, SqL.of hp1, at3_0, x, 0, rfl, rfl, _, rfl, ite2 (fun _ => ?_) (fun _ => ⟨rfl, rfl⟩)⟩
      -- found = pool[0] % many; pool[0] = pool[0] // many
      refine ⟨_, rfl, a, _, 0, _, rfl, rfl, SqL.of hp1, at3_0, _, rfl, x, m, rfl, rfl, hm0, ?_⟩
      refine ⟨_, rfl, a, _, 0, _, rfl, rfl, SqL.of hp1, at3_0, _, rfl, x, m, rfl, rfl, ⟨hm0, by omega⟩, _, rfl, a, _, 0, 0, rfl, rfl, hp1, rfl, ?_⟩
      exact ⟨_, rfl, q _ _ (Int.emod_nonneg x (by omega)) (Int.emod_lt_of_pos x hm0) (hD1.pool ha) (k1.trans (Keep.foot (.inr (.inr ha))))⟩
    · obtain ⟨rfl, rfl⟩ := hM
      -- pool[2] = pool[2] + 1
      refine ⟨_, rfl, a, _, 2, _, rfl, rfl, SqL.of hp1, at3_2, z, 1, rfl, rfl, _, rfl, a, _, 2, 2, rfl, rfl, hp1, rfl, ?_⟩
      have hD2 : DkAt (upd (upd H D.d (.lst [.ref D.pl, .int (i + 1)])) a (.lst [.int x, .int y, .int (z + 1)])) D := hD1.pool ha
      have k2 : Keep D H (upd (upd H D.d (.lst [.ref D.pl, .int (i + 1)])) a (.lst [.int x, .int y, .int (z + 1)])) := k1.trans (Keep.foot (.inr (.inr ha)))
      have hp2 : (upd (upd H D.d (.lst [.ref D.pl, .int (i + 1)])) a (.lst [.int x, .int y, .int (z + 1)])) a = some (.lst [.int x, .int y, .int (z + 1)]) := upd_same
      refine ⟨_, rfl, a, _, 0, _, rfl, rfl, SqL.of hp2, at3_0, x, 99999999977, rfl, rfl, (show (0 : Int) < 99999999977 by decide), _, rfl, a, _, 2, _, rfl, rfl, SqL.of hp2, at3_2, 700001, z + 1, rfl, rfl, .inl ⟨by decide, by decide⟩, _, _, rfl, rfl, _, 99999999947, rfl, rfl, (show (0 : Int) < 99999999947 by decide), ?_⟩
      have b1 := Int.emod_nonneg (x % 99999999977 + 700001 * (z + 1)) (show (99999999947 : Int) ≠ 0 by decide)
      have b2 := Int.emod_lt_of_pos (x % 99999999977 + 700001 * (z + 1)) (show (0 : Int) < 99999999947 by decide)
      refine ⟨_, rfl, _, rfl, _, _, rfl, rfl, .inl ⟨?_, ?_⟩, _, 99999999821, rfl, rfl, (show (0 : Int) < 99999999821 by decide), ?_⟩
      · exact Int.lt_of_lt_of_le (by decide) b1
      · exact Int.lt_trans b2 (by decide)
      generalize hn : (x % 99999999977 + 700001 * (z + 1)) % 99999999947 = n1
      have c1 := Int.emod_nonneg (n1 * n1) (show (99999999821 : Int) ≠ 0 by decide)
      have c2 := Int.emod_lt_of_pos (n1 * n1) (show (0 : Int) < 99999999821 by decide)
      refine ⟨_, rfl, _, rfl, _, 19, rfl, rfl, _, _, rfl, rfl, .inl ⟨?_, ?_⟩, _, 9999999967, rfl, rfl, (show (0 : Int) < 9999999967 by decide), ?_⟩
      · exact Int.lt_of_lt_of_le (by decide) c1
      · exact Int.lt_trans c2 (by decide)
      refine ⟨_, rfl, _, 13, rfl, rfl, ⟨by decide, by decide⟩, _, rfl, _, m, rfl, rfl, hm0, ?_⟩
      exact q _ _ (Int.emod_nonneg _ (by omega)) (Int.emod_lt_of_pos _ hm0) hD2 k2
end
end Fo
namespace Fo
open PySem PySem.Spec PyProof.Rows L2
section
variable {P : Program} {w : World} {K : PySem.W.Frag} {mg : Str → Option Value} {base : Heap}
/-! ### how many things -/
theorem scThings : FnScope ["deck"] ["deck"] (defScope s_law_things) := ⟨rfl, rfl, rfl, by decide +kernel, rfl, by decide +kernel, by decide +kernel⟩
set_option maxHeartbeats 2000000 in
theorem ok_things {f fD : Addr} {fd fdD : FuncData} {k : Nat} (T : Df K mg "_law_things" s_law_things ["deck"] f fd) (TD : Df K mg "_law_draw" s_law_draw ["deck", "many"] fD fdD) (B : Bi mg) : FnOk P w K mg base CX0 (k + 2) f fd ["deck"] spThings := by
  have GD : FnOk P w K mg base CX0 (k + 1) fD fdD ["deck", "many"] spDraw := ok_draw TD B
  refine T.F.ok scThings (fun vs H Q E h => ?_) (fun cdv A outer s H vs Q E hr h => ?_)
  · obtain ⟨D, rfl, _⟩ := h
    rfl
  · obtain ⟨D, rfl, hD, q⟩ := h
    refine ⟨_, pss_one (ps_ret (pe_ix ix_list (pe_lst
      (pa_cons (pe_op op_add pe_int (pe_call GD hr (by rfl) TD.g TD.F.kp TD.b .nil pass0 (pa_cons (pv 0) (pa_cons pe_int pa_nil))))
      (pa_cons (pe_op op_add pe_int (pe_call GD hr (by rfl) TD.g TD.F.kp TD.b .nil pass0 (pa_cons (pv 0) (pa_cons pe_int pa_nil))))
      (pa_cons (pe_op op_add pe_int (pe_call GD hr (by rfl) TD.g TD.F.kp TD.b .nil pass0 (pa_cons (pv 0) (pa_cons pe_int pa_nil))))
      (pa_cons pe_int pa_nil)))))
      (pe_call GD hr (by rfl) TD.g TD.F.kp TD.b .nil pass0 (pa_cons (pv 0) (pa_cons pe_int pa_nil))) (fun _ _ => rfl))), ?_⟩
    refine ⟨_, rfl, D, 4, rfl, hD, by decide, by decide, fun v1 H1 l1 u1 D1 k1 => ⟨1, v1, rfl, rfl, ?_⟩⟩
    refine ⟨_, rfl, D, 8, rfl, D1, by decide, by decide, fun v2 H2 l2 u2 D2 k2 => ⟨1, v2, rfl, rfl, ?_⟩⟩
    refine ⟨_, rfl, D, 12, rfl, D2, by decide, by decide, fun v3 H3 l3 u3 D3 k3 => ⟨1, v3, rfl, rfl, ?_⟩⟩
    refine ⟨line_small (by show 4 ≤ 16777216; decide), fun p np => ?_⟩
    refine ⟨_, rfl, D, 4, rfl, D3.new np, by decide, by decide, fun v4 H4 l4 u4 D4 k4 => ?_⟩
    have hp : H4 p = some (.lst [.int (1 + v1), .int (1 + v2), .int (1 + v3), .int 12]) := k4 p _ upd_same (D3.notFoot np)
    have kk : Keep D H H4 := ((k1.trans k2).trans k3).trans ((Keep.new np).trans k4)
    have fin : ∀ v : Int, 1 ≤ v → v ≤ 12 → Q (.int v) H4 := fun v h1 h2 => by
      have z := q v.toNat H4 (by omega) (by omega) D4 kk
      rw [Int.toNat_of_nonneg (by omega)] at z
      exact z
    have hv : v4 = 0 ∨ v4 = 1 ∨ v4 = 2 ∨ v4 = 3 := by omega
    rcases hv with rfl | rfl | rfl | rfl
    · exact ⟨p, _, 0, _, rfl, rfl, SqL.of hp, rfl, fin _ (by omega) (by omega)⟩
    · exact ⟨p, _, 1, _, rfl, rfl, SqL.of hp, rfl, fin _ (by omega) (by omega)⟩
    · exact ⟨p, _, 2, _, rfl, rfl, SqL.of hp, rfl, fin _ (by omega) (by omega)⟩
    · exact ⟨p, _, 3, _, rfl, rfl, SqL.of hp, rfl, fin _ (by omega) (by omega)⟩
/-! ### the deck is made -/
theorem scDeck : FnScope ["script", "pools", "k", "cell"] ["script"] (defScope s_law_deck) := ⟨rfl, rfl, rfl, by decide +kernel, rfl, by decide +kernel, by decide +kernel⟩
set_option maxHeartbeats 2000000 in
theorem ok_deck {f : Addr} {fd : FuncData} {k : Nat} (T : Df K mg "_law_deck" s_law_deck ["script"] f fd) (B : Bi mg) : FnOk P w K mg base CX0 (k + 1) f fd ["script"] (spDeck K) := by
  refine T.F.ok scDeck (fun vs H Q E h => ?_) (fun cdv A outer s H vs Q E hr h => ?_)
  · obtain ⟨a, ns, rfl, _⟩ := h
    rfl
  · obtain ⟨a, ns, rfl, hS, hlen, q⟩ := h
    refine ⟨_, pss_cons (ps_set (i := 1) scDeck.nd rfl (.inl rfl) (pe_lst pa_nil))
      (pss_cons (ps_for PassesOwn.never rfl (pi_range1 (by rfl) B.range (pa_cons (pe_callB (call_max2 rfl) (by rfl) B.max (by decide +kernel) (pa_cons pe_int (pa_cons (pe_callB (call_min2 rfl) (by rfl) B.min (by decide +kernel) (pa_cons pe_int (pa_cons (pe_callB call_len_seq (by rfl) B.len PySem.boot_len (pa_cons (pv 0) pa_nil)) pa_nil))) pa_nil))) pa_nil)) (pg_name (i := 2) scDeck.nd rfl (.inl rfl))
        (pss_cons (ps_set (i := 3) scDeck.nd rfl (.inl rfl) pe_int)
        (Evl.pss_cut (ps_if (pt_cmpR op_lt (pv 2) (pe_callB call_len_seq (by rfl) B.len PySem.boot_len (pa_cons (pv 0) pa_nil)) (nomark _)) (pss_one (ps_set (i := 3) scDeck.nd rfl (.inl rfl) (pe_ix ix_list (pv 0) (pv 2) (fun _ _ => rfl)))) pss_nil)
        (pss_one (ps_expr (pe_bm PySem.F.plainAttrs_list PySem.F.slot_list_append PySem.F.type_list_append mt_append (pv 1) (pa_cons (pe_lst (pa_cons (pv 3) (pa_cons (pe_callTy call_int1 (by rfl) B.int (by decide +kernel) (pa_cons (pe_cmpR op_ge (pv 3) (pe_op op_pow pe_int pe_int) (nomark _)) pa_nil)) (pa_cons (pe_op op_mul pe_int (pv 2)) pa_nil)))) pa_nil)))))))
      (pss_one (ps_ret (pe_lst (pa_cons (pv 1) (pa_cons pe_int pa_nil)))))), ?_⟩
    refine ⟨Nat.zero_le _, fun pl np => ?_⟩
    have s1 : Same H (upd H pl (.lst [])) := same_new np
    have hlm : (ns.map V.int).length = ns.length := List.length_map _
    obtain ⟨m, hm1, hm2, em⟩ : ∃ m : Nat, 1 ≤ m ∧ m ≤ 63 ∧ (if (if ((ns.map V.int).length : Int) < 63 then ((ns.map V.int).length : Int) else 63) > 1 then (if ((ns.map V.int).length : Int) < 63 then ((ns.map V.int).length : Int) else 63) else 1) = (m : Int) := by
      rw [hlm]
      refine ⟨max 1 (min 63 ns.length), by omega, by omega, ?_⟩
      split <;> split <;> omega
    refine ⟨.ref a, rfl, a, _, rfl, .inl (s1.seq hS), 63, _, rfl, 1, _, rfl, _, rfl, ?_, ?_, ?_⟩
    · rw [em]; omega
    · rw [em]; omega
    · rw [em, Int.toNat_natCast]
      refine for_range (n := m) (fun i σ H3 => ∃ (as : List Addr) (yk yc : Option V), σ = [some (.ref a), some (.ref pl), yk, yc] ∧ as.length = i ∧ H3 pl = some (.lst (as.map V.ref)) ∧ (∀ b ∈ as, (∃ x y z : Int, H3 b = some (.lst [.int x, .int y, .int z])) ∧ H b = none) ∧ Same H H3)
        ⟨[], none, none, rfl, rfl, upd_same, (fun b hb => absurd hb List.not_mem_nil), s1⟩ (fun i σ H3 hi hP => ?_) (fun σ H3 hP => ?_)
      · obtain ⟨as, yk, yc, rfl, el, hpl, hat, sm⟩ := hP
        refine ⟨fun σ' H' => ∃ c : Int, σ' = [some (.ref a), some (.ref pl), some (.int (0 + i)), some (.int c)] ∧ H' = H3, ?_, fun σ' H' hM => ?_⟩
        · refine ⟨_, rfl, .ref a, rfl, a, _, rfl, .inl (sm.seq hS), _, _, rfl, rfl, _, rfl, ite2 (fun hc => ?_) (fun _ => ⟨0, rfl, rfl⟩)⟩
          have hlt : (0 + (i : Int)) < (ns.map V.int).length := of_decide_eq_true hc
          rw [hlm] at hlt
          have hix : i < ns.length := by omega
          exact ⟨_, rfl, _, rfl, a, _, _, _, rfl, rfl, sm.seq hS, at_of (j := i) (by omega) (int_at (List.getElem?_eq_getElem hix)), ns[i], rfl, rfl⟩
        · obtain ⟨c, rfl, rfl⟩ := hM
          refine ⟨_, rfl, .inl ⟨rfl, _, SqL.of hpl⟩, _, rfl, _, rfl, 10, 18, rfl, rfl, ⟨by decide, by decide, by decide⟩, _, _, rfl, rfl, .inr ⟨_, rfl, _, rfl, 31, _, rfl, rfl, .inl ⟨by decide, by decide⟩, line_small (by show 3 ≤ 16777216; decide), fun p np2 => ?_⟩⟩
          have hpl2 : (upd H' p (.lst [.int c, .int (if decide ((10 : Int) ^ (18 : Int).toNat ≤ c) = true then 1 else 0), .int (31 * (0 + (i : Int)))])) pl = some (.lst (as.map V.ref)) := same_new np2 _ _ hpl
          refine ⟨pl, _, _, rfl, rfl, hpl2, line_lt (by rw [List.length_map]; omega), ?_⟩
          have npl : p ≠ pl := (ne_of_none hpl np2).symm
          refine ⟨as ++ [p], _, _, rfl, by rw [List.length_append, el]; rfl, by rw [upd_same, List.map_append]; rfl, fun b hb => ?_, fun b o e => ?_⟩
          · rcases List.mem_append.mp hb with hb | hb
            · obtain ⟨⟨x, y, z, e⟩, n⟩ := hat b hb
              refine ⟨⟨x, y, z, ?_⟩, n⟩
              rw [upd_ne (show b ≠ pl from ?_), upd_ne (ne_of_none e np2)]
              · exact e
              · intro z
                rw [z] at e
                rw [hpl] at e
                cases as with
                | nil => cases e
                | cons u r => cases e
            · have eb : b = p := List.mem_singleton.mp hb
              subst eb
              exact ⟨⟨_, _, _, by rw [upd_ne npl]; exact upd_same⟩, sm.free np2⟩
          · rw [upd_ne (ne_of_none e np), upd_ne (ne_of_none (sm _ _ e) np2)]
            exact sm _ _ e
      · obtain ⟨as, yk, yc, rfl, el, hpl, hat, sm⟩ := hP
        refine ⟨_, rfl, line_small (by show 2 ≤ 16777216; decide), fun d nd => ?_⟩
        refine q ⟨d, pl, as⟩ _ ⟨⟨0, upd_same⟩, ?_, ?_, ?_, fun b hb => ?_⟩ (sm.trans (same_new nd)) (fun b hb => ?_)
        · exact same_new nd _ _ hpl
        · show 0 < as.length
          omega
        · show as.length ≤ 63
          omega
        · obtain ⟨⟨x, y, z, e⟩, n⟩ := hat b hb
          exact ⟨x, y, z, same_new nd _ _ e⟩
        · rcases hb with rfl | rfl | hb
          · exact sm.free nd
          · exact np
          · exact (hat b hb).2
end
end Fo
namespace Fo
open PySem PySem.Spec PyProof.Rows L2
section
variable {P : Program} {w : World} {K : PySem.W.Frag} {mg : Str → Option Value} {base : Heap}
theorem scOrder : FnScope ["deck", "n", "left", "way", "k", "p"] ["deck", "n"] (defScope s_law_order) := ⟨rfl, rfl, rfl, by decide +kernel, rfl, by decide +kernel, by decide +kernel⟩
set_option maxHeartbeats 4000000 in
theorem ok_order {f fD : Addr} {fd fdD : FuncData} {k : Nat} (T : Df K mg "_law_order" s_law_order ["deck", "n"] f fd) (TD : Df K mg "_law_draw" s_law_draw ["deck", "many"] fD fdD) (B : Bi mg) : FnOk P w K mg base CX0 (k + 2) f fd ["deck", "n"] spOrder := by
  have GD : FnOk P w K mg base CX0 (k + 1) fD fdD ["deck", "many"] spDraw := ok_draw TD B
  refine T.F.ok scOrder (fun vs H Q E h => ?_) (fun cdv A outer s H vs Q E hr h => ?_)
  · obtain ⟨D, n, rfl, _⟩ := h
    rfl
  · obtain ⟨D, n, rfl, hD, hn1, hn2, q⟩ := h
    refine ⟨_, pss_cons (ps_set (i := 2) scOrder.nd rfl (.inr rfl) (pe_listRg rfl (by rfl) B.list (prg_1 (by rfl) B.range (pv 1))))
      (pss_cons (ps_set (i := 3) scOrder.nd rfl (.inl rfl) (pe_call GD hr (by rfl) TD.g TD.F.kp TD.b .nil pass0 (pa_cons (pv 0) (pa_cons pe_int pa_nil))))
      (pss_cons (ps_if (pt_cmpR op_eq (pv 3) pe_int (nomark _)) (pss_one (ps_ret (pe_lc (own := [("k", 4)]) (g := gName 4) (tt := tYes) (te := tBM K "list" rPopAt (tVar 2) (tCons (tCall spDraw [] E0 (tCons (tVar 0) (tCons (tCB (rLenS K) (tCons (tVar 2) tNil)) tNil))) tNil)) rfl scOrder.nd (pi_range1 (by rfl) B.range (pa_cons (pv 1) pa_nil)) (blkOk_by (N := ["deck", "n", "left", "way", "k", "p"]) (sc := defScope s_law_order) (by decide +kernel)) (fun _ _ _ _ _ => pg_name (i := 4) scOrder.nd rfl (.inl rfl)) (fun _ _ _ _ _ => pts_nil)
          (fun _ _ _ _ _ => pe_bm PySem.F.plainAttrs_list PySem.F.slot_list_pop PySem.F.type_list_pop mt_popAt (pv 2) (pa_cons (pe_call GD hr (by rfl) TD.g TD.F.kp TD.b .nil pass0 (pa_cons (pv 0) (pa_cons (pe_callB call_len_seq (by rfl) B.len PySem.boot_len (pa_cons (pv 2) pa_nil)) pa_nil))) pa_nil))))) pss_nil)
      (Evl.pss_cut (ps_if (pt_cmpR op_eq (pv 3) pe_int (nomark _)) (pss_one (ps_set (i := 2) scOrder.nd rfl (.inr rfl) (pe_revL (pv 2)))) pss_nil)
      (pss_cons (ps_for PassesOwn.never rfl (pi_range1 (by rfl) B.range (pa_cons (pe_op op_mul (pe_call GD hr (by rfl) TD.g TD.F.kp TD.b .nil pass0 (pa_cons (pv 0) (pa_cons pe_int pa_nil))) (pe_callTy call_int1 (by rfl) B.int (by decide +kernel) (pa_cons (pe_cmpR op_gt (pv 1) pe_int (nomark _)) pa_nil))) pa_nil)) (pg_name (i := 4) scOrder.nd rfl (.inl rfl))
        (pss_cons (ps_set (i := 5) scOrder.nd rfl (.inl rfl) (pe_call GD hr (by rfl) TD.g TD.F.kp TD.b .nil pass0 (pa_cons (pv 0) (pa_cons (pe_op op_sub (pv 1) pe_int) pa_nil))))
        (pss_one (ps_asg (pe_tup (pa_cons (pe_ix ix_list (pv 2) (pe_op op_add (pv 5) pe_int) (fun _ _ => rfl)) (pa_cons (pe_ix ix_list (pv 2) (pv 5) (fun _ _ => rfl)) pa_nil))) (pg_tup (by rfl) (pgs_cons (pg_sub (pv 2) (pv 5) set_list) (pgs_cons (pg_sub (pv 2) (pe_op op_add (pv 5) pe_int) set_list) pgs_nil)))))))
      (pss_one (ps_ret (pv 2))))))), ?_⟩
    -- left = list(range(n))
    refine ⟨_, rfl, n, rfl, RgOk.of_le (by omega) (by omega) (by omega) (by omega), fun l nl => ?_⟩
    have hl0 : (upd H l (.lst (rgV 0 (n : Int)))) l = some (.lst ((rg n).map V.int)) := by rw [upd_same, rg_V]
    have D0 := hD.new (o := .lst (rgV 0 (n : Int))) nl
    have nf := hD.notFoot nl
    -- way = draw 4
    refine ⟨_, rfl, D, 4, rfl, D0, by decide, by decide, fun way H1 w0 w1 D1 k1 => ?_⟩
    have hl1 := k1 l _ hl0 nf
    have kk1 : Keep D H H1 := (Keep.new nl).trans k1
    -- if way == 0
    refine ⟨_, rfl, rfl, _, rfl, ite2 (fun _ => ?_) (fun _ => ?_)⟩
    · refine ⟨_, rfl, n, rfl, by omega, by omega, ?_⟩
      rw [Int.toNat_natCast]
      intro p np
      have npf := D1.notFoot np
      have lp : l ≠ p := ne_of_none hl1 np
      refine lc_range (lo := 0) (n := n) (fun i H3 => ∃ (rest acc : List Int), (acc ++ rest).Perm (rg n) ∧ acc.length = i ∧ H3 l = some (.lst (rest.map V.int)) ∧ H3 p = some (.lst (acc.map V.int)) ∧ DkAt H3 D ∧ ∀ b o, H b = some o → ¬ D.Foot b → H3 b = some o)
        ⟨rg n, [], List.Perm.refl _, rfl, by rw [upd_ne lp]; exact hl1, upd_same, D1.new np, fun b o e f => by rw [upd_ne (ne_of_none (kk1 b o e f) np)]; exact kk1 b o e f⟩ (fun i H3 hi hP => ?_) (fun H3 hP => ?_)
      · obtain ⟨rest, acc, hperm, el, hl3, hp3, D3, kp3⟩ := hP
        have hlen : rest.length = n - i := by
          have := List.Perm.length_eq hperm
          rw [List.length_append, rg_len] at this
          omega
        have hlm : (rest.map V.int).length = rest.length := List.length_map _
        refine ⟨rfl, ?_⟩
        refine ⟨_, rfl, .inl ⟨rfl, _, SqL.of hl3⟩, _, rfl, _, rfl, l, _, rfl, .inl (SqL.of hl3), D, _, rfl, D3, by rw [hlm]; omega, by rw [hlm]; omega, fun v H4 v0 v1 D4 k4 => ?_⟩
        rw [hlm] at v1
        obtain ⟨y, ey⟩ : ∃ y, rest[v.toNat]? = some y := ⟨rest[v.toNat]'(by omega), List.getElem?_eq_getElem (by omega)⟩
        have hl4 := k4 l _ hl3 nf
        have hp4 := k4 p _ hp3 npf
        refine ⟨l, _, v, v.toNat, _, rfl, rfl, hl4, by omega, by omega, seq_ix (by omega) (by rw [hlm]; omega), int_at ey, ?_⟩
        refine ⟨acc.map V.int, by rw [upd_ne lp.symm]; exact hp4, line_lt (by rw [List.length_map]; omega), rest.eraseIdx v.toNat, acc ++ [y], ?_, by rw [List.length_append, el]; rfl, ?_, by rw [upd_same, List.map_append]; rfl, ?_, fun b o e f => ?_⟩
        · rw [List.append_assoc]
          exact (List.Perm.append_left acc (pop_perm ey)).trans hperm
        · rw [upd_ne lp, upd_same, map_erase]
        · exact (D4.upd nf).upd npf
        · have e4 := k4 b o (kp3 b o e f) f
          have nbl : b ≠ l := ne_of_none e nl
          have nbp : b ≠ p := ne_of_none (kk1 b o e f) np
          rw [upd_ne nbp, upd_ne nbl]
          exact e4
      · obtain ⟨rest, acc, hperm, el, hl3, hp3, D3, kp3⟩ := hP
        have hr0 : rest = [] := by
          have := List.Perm.length_eq hperm
          rw [List.length_append, rg_len] at this
          exact List.eq_nil_of_length_eq_zero (by omega)
        subst hr0
        rw [List.append_nil] at hperm
        have hHp : H p = none := by
          cases e : H p with
          | none => rfl
          | some o =>
            have z := kk1 p o e npf
            rw [np] at z
            cases z
        exact q acc p H3 hperm hHp hp3 npf D3 kp3
    · -- if way == 1: left = left[::-1]
      refine ⟨fun σ' H' => ∃ (l2 : Addr) (ns : List Int), σ' = [some (.ref D.d), some (.int n), some (.ref l2), some (.int way), none, none] ∧ IsOrd n ns ∧ H' l2 = some (.lst (ns.map V.int)) ∧ H l2 = none ∧ DkAt H' D ∧ Keep D H H', ?_, fun σ' H' hM => ?_⟩
      · refine ⟨_, rfl, rfl, _, rfl, ite2 (fun _ => ?_) (fun _ => ⟨l, rg n, rfl, List.Perm.refl _, hl1, nl, D1, kk1⟩)⟩
        refine ⟨_, rfl, l, _, rfl, SqL.of hl1, fun p np => ?_⟩
        have npf := D1.notFoot np
        refine ⟨p, (rg n).reverse, rfl, List.reverse_perm _, by rw [upd_same, List.map_reverse], ?_, D1.new np, kk1.trans (Keep.new np)⟩
        cases e : H p with
        | none => rfl
        | some o =>
          have z := kk1 p o e npf
          rw [np] at z
          cases z
      · obtain ⟨l2, ns, rfl, ho, hl2, nl2, D2, k2⟩ := hM
        have nf2 := hD.notFoot nl2
        refine ⟨_, rfl, D, 7, rfl, D2, by decide, by decide, fun v H3 v0 v1 D3 k3 => ⟨_, rfl, _, 1, rfl, rfl, .inr ⟨_, rfl, v, _, rfl, rfl, .inl ⟨by omega, by omega⟩, _, rfl, ?_⟩⟩⟩
        have hl3 := k3 l2 _ hl2 nf2
        obtain ⟨m, em, hm⟩ : ∃ m : Nat, v * (if decide ((1 : Int) < (n : Int)) = true then 1 else 0) = (m : Int) ∧ (m ≤ 6 ∧ (n = 1 → m = 0)) := by
          by_cases c : (1 : Int) < (n : Int)
          · rw [decide_eq_true c, if_pos rfl, Int.mul_one]
            exact ⟨v.toNat, by omega, by omega, by omega⟩
          · rw [decide_eq_false c, if_neg (by decide), Int.mul_zero]
            exact ⟨0, by omega, by omega, fun _ => rfl⟩
        refine ⟨by rw [em]; omega, by rw [em]; omega, ?_⟩
        rw [em, Int.toNat_natCast]
        refine for_range (n := m) (fun i σ H4 => ∃ (y4 y5 : Option V) (ns : List Int), σ = [some (.ref D.d), some (.int n), some (.ref l2), some (.int way), y4, y5] ∧ IsOrd n ns ∧ H4 l2 = some (.lst (ns.map V.int)) ∧ DkAt H4 D ∧ Keep D H H4)
          ⟨_, _, ns, rfl, ho, hl3, D3, k2.trans k3⟩ (fun i σ H4 hi hP => ?_) (fun σ H4 hP => ?_)
        · obtain ⟨y4, y5, xs, rfl, ho4, hl4, D4, k4⟩ := hP
          have hn : 2 ≤ n := by
            by_cases c : n = 1
            · have := hm.2 c
              omega
            · omega
          refine ⟨_, rfl, _, rfl, (n : Int), 1, rfl, rfl, D, _, rfl, D4, by omega, by omega, fun p H5 p0 p1 D5 k5 => ?_⟩
          have hl5 := k5 l2 _ hl4 nf2
          have hxl : xs.length = n := ho4.len
          obtain ⟨a, ea⟩ : ∃ a, xs[p.toNat]? = some a := ⟨xs[p.toNat]'(by omega), List.getElem?_eq_getElem (by omega)⟩
          obtain ⟨b, eb⟩ : ∃ b, xs[p.toNat + 1]? = some b := ⟨xs[p.toNat + 1]'(by omega), List.getElem?_eq_getElem (by omega)⟩
          refine ⟨_, rfl, _, rfl, p, 1, rfl, rfl, l2, _, _, _, rfl, rfl, SqL.of hl5, at_of (j := p.toNat + 1) (by omega) (int_at eb), _, rfl, _, rfl, l2, _, _, _, rfl, rfl, SqL.of hl5, at_of (j := p.toNat) (by omega) (int_at ea), line_small (by show 2 ≤ 16777216; decide), fun t nt => ?_⟩
          have ntl : l2 ≠ t := ne_of_none hl5 nt
          have hl6 : (upd H5 t (.tup [.int b, .int a])) l2 = some (.lst (xs.map V.int)) := same_new nt _ _ hl5
          refine ⟨t, _, rfl, .inl (.inl upd_same), rfl, _, _, rfl, _, rfl, _, rfl, l2, _, _, p.toNat, rfl, rfl, hl6, ix_n (by omega) (by rw [List.length_map]; omega), ?_⟩
          refine ⟨_, _, rfl, _, rfl, _, rfl, p, 1, rfl, rfl, l2, _, _, p.toNat + 1, rfl, rfl, upd_same, ix_n (by omega) (by rw [List.length_set, List.length_map]; omega), ?_⟩
          refine ⟨rfl, _, _, sw xs p.toNat, rfl, sw_ord ho4 (by omega), by rw [upd_same, sw_V ea eb], ((D5.new nt).upd nf2).upd nf2, fun c o e f => ?_⟩
          have nc : c ≠ l2 := ne_of_none e nl2
          have e5 := k5 c o (k4 c o e f) f
          rw [upd_ne nc, upd_ne nc]
          exact same_new nt _ _ e5
        · obtain ⟨y4, y5, xs, rfl, ho4, hl4, D4, k4⟩ := hP
          exact ⟨_, rfl, q xs l2 H4 ho4 nl2 hl4 nf2 D4 k4⟩
end
end Fo
namespace Fo
open PySem PySem.Spec PyProof.Rows L2
abbrev rMax2 : List V → Hp → VK → Prop := fun xs H Q => ∃ i j, xs = [.int i, .int j] ∧ Q (.int (if j > i then j else i)) H
abbrev rMin2 : List V → Hp → VK → Prop := fun xs H Q => ∃ i j, xs = [.int i, .int j] ∧ Q (.int (if j < i then j else i)) H
abbrev rInt1 : List V → Hp → VK → Prop := fun xs H Q => (∃ i, xs = [.int i] ∧ Q (.int i) H) ∨ ∃ k, xs = [.bl k] ∧ Q (.int (if k then 1 else 0)) H
theorem filter_more {l : List Int} {m : Nat} {x : Int} (p : Int → Bool) (h : l[m]? = some x) : (l.take (m + 1)).filter p = (l.take m).filter p ++ (if p x then [x] else []) := by
  rw [List.take_add_one, h, List.filter_append]
  show _ ++ List.filter p [x] = _
  rw [List.filter_cons]
  rfl
end Fo
namespace Fo
open PySem PySem.Spec PyProof.Rows L2
def spWhole : Sp := fun vs H Q _ => ∃ i : Int, vs = [.int i] ∧ Q (.bl true) H
section
variable {P : Program} {w : World} {K : PySem.W.Frag} {mg : Str → Option Value} {base : Heap}
theorem scWhole : FnScope ["thing"] ["thing"] (defScope s_is_whole) := ⟨rfl, rfl, rfl, by decide +kernel, rfl, by decide +kernel, by decide +kernel⟩
theorem ok_whole {f : Addr} {fd : FuncData} {k : Nat} (T : Df K mg "is_whole" s_is_whole ["thing"] f fd) (B : Bi mg) : FnOk P w K mg base CX0 (k + 1) f fd ["thing"] spWhole := by
  refine T.F.ok scWhole (fun vs H Q E h => ?_) (fun cdv A outer s H vs Q E hr h => ?_)
  · obtain ⟨i, rfl, _⟩ := h
    rfl
  · obtain ⟨i, rfl, q⟩ := h
    refine ⟨_, pss_one (ps_ret (pe_and (pe_callB call_isi (by rfl) B.isinstance (by decide +kernel) (pa_cons (pv 0) (pa_cons (pe_bltn (v := .ty "int") (by rfl) B.int (by decide +kernel) rfl) pa_nil)))
      (pe_one (pe_not (pe_callB call_isi (by rfl) B.isinstance (by decide +kernel) (pa_cons (pv 0) (pa_cons (pe_bltn (v := .ty "bool") (by rfl) B.bool (by decide +kernel) rfl) pa_nil))))))), ?_⟩
    refine ⟨_, rfl, _, _, _, _, true, rfl, .ty _, .base (.int _), kit_ty (by decide +kernel), true, rfl, iteT ?_⟩
    exact ⟨_, rfl, _, _, _, _, false, rfl, .ty _, .base (.int _), kit_ty (by decide +kernel), false, rfl, q⟩
end
end Fo
namespace Fo
open PySem PySem.Spec PyProof.Rows L2
/-! ### whole numbers, orders -/
def spIsOrd : Sp := fun vs H Q _ => ∃ (a : Addr) (n : Nat) (ns : List Int), vs = [.ref a] ∧ H a = some (.lst (ns.map V.int)) ∧ IsOrd n ns ∧ 1 ≤ n ∧ n ≤ 12 ∧ ∀ H', Same H H' → Q (.bl true) H'
def spCheck : Sp := fun vs H Q _ => ∃ (a : Addr) (n : Nat) (ns : List Int), vs = [.ref a] ∧ H a = some (.lst (ns.map V.int)) ∧ IsOrd n ns ∧ 1 ≤ n ∧ n ≤ 12 ∧ ∀ H', Same H H' → Q .non H'
section
variable {P : Program} {w : World} {K : PySem.W.Frag} {mg : Str → Option Value} {base : Heap}
theorem scIsOrd : FnScope ["thing", "number"] ["thing"] (defScope s_is_order) := ⟨rfl, rfl, rfl, by decide +kernel, rfl, by decide +kernel, by decide +kernel⟩
theorem all_true (n : Nat) : (List.replicate n true).all id = true := by simp
set_option maxHeartbeats 2000000 in
theorem ok_is_order {f fW : Addr} {fd fdW : FuncData} {k : Nat} {t : Tok} (T : Df K mg "is_order" s_is_order ["thing"] f fd) (TW : Df K mg "is_whole" s_is_whole ["thing"] fW fdW) (B : Bi mg) (mM : mg "MOST_THINGS" = some (.int 12 t)) : FnOk P w K mg base CX0 (k + 2) f fd ["thing"] spIsOrd := by
  have GW : FnOk P w K mg base CX0 (k + 1) fW fdW ["thing"] spWhole := ok_whole TW B
  refine T.F.ok scIsOrd (fun vs H Q E h => ?_) (fun cdv A outer s H vs Q E hr h => ?_)
  · obtain ⟨a, n, ns, rfl, _⟩ := h
    rfl
  · obtain ⟨a, n, ns, rfl, hl, ho, hn1, hn2, q⟩ := h
    have hlm : (ns.map V.int).length = n := by rw [List.length_map, ho.len]
    refine ⟨_, pss_cons (ps_if (PW.pt (pw_or (pt_not (pt_val (pe_callB call_isi (by rfl) B.isinstance (by decide +kernel) (pa_cons (pv 0) (pa_cons (pe_bltn (v := .ty "list") (by rfl) B.list (by decide +kernel) rfl) pa_nil)))))
        (pw_or (pt_cmpR op_lt (pe_callB call_len_seq (by rfl) B.len PySem.boot_len (pa_cons (pv 0) pa_nil)) pe_int (nomark _)) (pw_or1 (pt_cmpR op_gt (pe_callB call_len_seq (by rfl) B.len PySem.boot_len (pa_cons (pv 0) pa_nil)) (pe_glob (v := .int 12) (by rfl) mM ⟨_, rfl⟩) (nomark _))))))
        (pss_one (ps_ret pe_bl)) pss_nil)
      (pss_cons (ps_if (pt_not (pt_val (pe_callB (cr_all rfl) (by rfl) B.all (by decide +kernel) (pa_cons (pe_lc (own := [("number", 1)]) (g := gName 1) (tt := tYes) (te := tCall spWhole [] E0 (tCons (tVar 1) tNil)) rfl scIsOrd.nd (pi_list (pv 0)) (blkOk_by (N := ["thing", "number"]) (sc := defScope s_is_order) (by decide +kernel)) (fun _ _ _ _ _ => pg_name (i := 1) scIsOrd.nd rfl (.inl rfl)) (fun _ _ _ _ _ => pts_nil)
          (fun _ _ _ _ _ => pe_call GW hr (by rfl) TW.g TW.F.kp TW.b .nil pass0 (pa_cons (pv 1) pa_nil))) pa_nil)))) (pss_one (ps_ret pe_bl)) pss_nil)
      (pss_one (ps_ret (pe_cmpR (op_eqD hr.units) (pe_callB cr_sorted (by rfl) B.sorted (by decide +kernel) (pa_cons (pv 0) pa_nil)) (pe_listRg rfl (by rfl) B.list (prg_1 (by rfl) B.range (pe_callB call_len_seq (by rfl) B.len PySem.boot_len (pa_cons (pv 0) pa_nil)))) (nomark _))))), ?_⟩
    refine ⟨_, rfl, _, _, _, _, true, rfl, .ty _, .base (.lst hl), kit_ty (by decide +kernel), true, rfl, iteF ?_⟩
    refine ⟨_, rfl, a, _, rfl, .inl (SqL.of hl), _, 1, rfl, rfl, _, rfl, ite2 (fun c => absurd (of_decide_eq_true c) (by rw [hlm]; omega)) (fun _ => ?_)⟩
    refine ⟨_, rfl, a, _, rfl, .inl (SqL.of hl), _, 12, rfl, rfl, _, rfl, ite2 (fun c => absurd (of_decide_eq_true c) (by rw [hlm]; omega)) (fun _ => ?_)⟩
    refine ⟨_, rfl, a, rfl, ⟨_, SqL.of hl⟩, fun p np => ?_⟩
    refine lc_list (K := K) (a := a) (xs := ns.map V.int) (fun i H3 => H3 p = some (.lst ((List.replicate i true).map V.bl)) ∧ Same H H3) ⟨upd_same, same_new np⟩ (fun i H3 _ hP => SqL.of (hP.2 _ _ hl)) (fun i x H3 hx hP => ?_) (fun H3 hP => ?_)
    · obtain ⟨y, ey, rfl⟩ := int_at_inv hx
      obtain ⟨hp3, sm⟩ := hP
      refine ⟨rfl, _, rfl, y, rfl, _, hp3, line_lt (by
        rw [List.length_map, List.length_replicate]
        have := (List.getElem?_eq_some_iff.mp hx).1
        omega), ?_, fun b o e => ?_⟩
      · rw [upd_same, List.replicate_succ', List.map_append]
        rfl
      · rw [upd_ne (ne_of_none e np)]
        exact sm _ _ e
    · obtain ⟨hp3, sm⟩ := hP
      have hl3 := sm _ _ hl
      refine ⟨p, _, rfl, SqL.of hp3, _, rfl, ?_⟩
      rw [all_true]
      refine iteF ?_
      refine ⟨_, rfl, a, ns, rfl, SqL.of hl3, by rw [ho.len]; omega, fun ns' s1 hperm hsrt ns1 => ?_⟩
      have hl4 := same_new (o := .lst (ns'.map V.int)) ns1 _ _ hl3
      refine ⟨_, rfl, a, _, rfl, .inl (SqL.of hl4), _, rfl, RgOk.of_le (by omega) (by rw [hlm]; omega) (by omega) (by omega), fun s2 ns2 => ?_⟩
      have e1 : ns' = rg n := sorted_eq (hperm.trans ho) hsrt (rg_sorted n)
      subst e1
      rw [hlm]
      have h1 : (upd (upd H3 s1 (.lst ((rg n).map V.int))) s2 (.lst (rgV 0 (n : Int)))) s1 = some (.lst ((rg n).map V.int)) := same_new ns2 _ _ upd_same
      have h2 : (upd (upd H3 s1 (.lst ((rg n).map V.int))) s2 (.lst (rgV 0 (n : Int)))) s2 = some (.lst ((rg n).map V.int)) := by rw [upd_same, rg_V]
      refine ⟨_, _, dp_list h1, dp_list h2, shaped_list _, shaped_list _, ?_⟩
      rw [eqv_list]
      exact q _ ((sm.trans (same_new ns1)).trans (same_new ns2))
theorem scCheck : FnScope ["thing"] ["thing"] (defScope s_check_order) := ⟨rfl, rfl, rfl, by decide +kernel, rfl, by decide +kernel, by decide +kernel⟩
theorem ok_check {f fO fW : Addr} {fd fdO fdW : FuncData} {k : Nat} {t : Tok} (T : Df K mg "check_order" s_check_order ["thing"] f fd) (TO : Df K mg "is_order" s_is_order ["thing"] fO fdO) (TW : Df K mg "is_whole" s_is_whole ["thing"] fW fdW) (B : Bi mg) (mM : mg "MOST_THINGS" = some (.int 12 t)) : FnOk P w K mg base CX0 (k + 3) f fd ["thing"] spCheck := by
  have GO : FnOk P w K mg base CX0 (k + 2) fO fdO ["thing"] spIsOrd := ok_is_order TO TW B mM
  refine T.F.ok scCheck (fun vs H Q E h => ?_) (fun cdv A outer s H vs Q E hr h => ?_)
  · obtain ⟨a, n, ns, rfl, _⟩ := h
    rfl
  · obtain ⟨a, n, ns, rfl, hl, ho, hn1, hn2, q⟩ := h
    refine ⟨_, pss_one (ps_if (pt_not (pt_val (pe_call GO hr (by rfl) TO.g TO.F.kp TO.b .nil pass0 (pa_cons (pv 0) pa_nil)))) (pss_one ps_never) pss_nil), ?_⟩
    exact ⟨_, rfl, a, n, ns, rfl, hl, ho, hn1, hn2, fun H' sm => ⟨_, rfl, iteF (q H' sm)⟩⟩
end
end Fo
namespace Fo
open PySem PySem.Spec PyProof.Rows L2
def IsWay (w : Str) : Prop := w = "swap" ∨ w = "spot" ∨ w = "shift"
theorem n1 : ¬ (("spot" : Str) = "swap") := by decide +kernel
theorem n2 : ¬ (("shift" : Str) = "swap") := by decide +kernel
theorem n3 : ¬ (("shift" : Str) = "spot") := by decide +kernel
/-- the ways as the top has written them -/
structure Wy (K : PySem.W.Frag) (mg : Str → Option Value) (aW : Addr) : Prop where
  g : mg "WAYS" = some (.ref aW)
  t : ∀ H : Hp, SqT K H aW [.str "swap", .str "spot", .str "shift"]
theorem wy_mk {K : PySem.W.Frag} {mg : Str → Option Value} {aW : Addr} {dd : Option Addr} {n : Nat} {t1 t2 t3 : Tok} {sl : Array (Option Value)} (g : mg "WAYS" = some (.ref aW)) (l : K.lookup aW = some ⟨.type "tuple", dd, .seq #[.str "swap" t1, .str "spot" t2, .str "shift" t3] n, sl⟩) : Wy K mg aW :=
  ⟨g, fun H => .inr ⟨_, _, _, l, rfl, rfl, line_small (by show 3 ≤ 16777216; decide), .cons ⟨_, rfl⟩ (.cons ⟨_, rfl⟩ (.cons ⟨_, rfl⟩ .nil))⟩⟩
def spWay : Sp := fun vs H Q _ => ∃ (w : Str), vs = [.str w] ∧ IsWay w ∧ Q .non H
section
variable {P : Program} {w : World} {K : PySem.W.Frag} {mg : Str → Option Value} {base : Heap}
theorem scWay : FnScope ["thing"] ["thing"] (defScope s_check_way) := ⟨rfl, rfl, rfl, by decide +kernel, rfl, by decide +kernel, by decide +kernel⟩
theorem ok_way {f aW : Addr} {fd : FuncData} {k : Nat} (T : Df K mg "check_way" s_check_way ["thing"] f fd) (W : Wy K mg aW) (B : Bi mg) : FnOk P w K mg base CX0 (k + 1) f fd ["thing"] spWay := by
  refine T.F.ok scWay (fun vs H Q E h => ?_) (fun cdv A outer s H vs Q E hr h => ?_)
  · obtain ⟨z, rfl, _⟩ := h
    rfl
  · obtain ⟨z, rfl, hz, q⟩ := h
    refine ⟨_, 
      (pss_one (ps_if (PW.pt (pw_or (pt_not (pt_val (pe_callB call_isi (by rfl) B.isinstance (by decide +kernel) (pa_cons (pv 0) (pa_cons (pe_bltn (v := .ty "str") (by rfl) B.str (by decide +kernel) rfl) pa_nil))))) (pw_or1 (pt_cmpR op_notIn_seq (pv 0) (pe_glob (v := .ref aW) (by rfl) W.g rfl) (by rfl)))))
        (pss_one ps_never)
        pss_nil)), ?_⟩
    refine ⟨_, rfl, _, _, _, _, true, rfl, .ty _, .base (.str _), kit_ty (by decide +kernel), true, rfl, iteF ?_⟩
    rcases hz with rfl | rfl | rfl
    · exact ⟨_, rfl, aW, _, rfl, .inr (W.t H), rfl, rfl, _, rfl, ite2 (fun c => absurd c (by decide +kernel)) (fun _ => q)⟩
    · exact ⟨_, rfl, aW, _, rfl, .inr (W.t H), rfl, rfl, _, rfl, ite2 (fun c => absurd c (by decide +kernel)) (fun _ => q)⟩
    · exact ⟨_, rfl, aW, _, rfl, .inr (W.t H), rfl, rfl, _, rfl, ite2 (fun c => absurd c (by decide +kernel)) (fun _ => q)⟩
end
end Fo
namespace Fo
open PySem PySem.Spec PyProof.Rows L2
theorem ins_perm (xs : List Int) (k : Nat) (y : Int) : (xs.take k ++ [y] ++ xs.drop k).Perm (y :: xs) := by
  rw [List.append_assoc]
  have h1 : (xs.take k ++ ([y] ++ xs.drop k)).Perm ([y] ++ (xs.take k ++ xs.drop k)) := by
    rw [← List.append_assoc, ← List.append_assoc]
    exact List.Perm.append_right _ List.perm_append_comm
  rw [List.take_append_drop] at h1
  exact h1
theorem set2_perm {xs : List Int} {p q : Nat} {a b : Int} (ha : xs[p]? = some a) (hb : xs[q]? = some b) : ((xs.set p b).set q a).Perm xs := by
  obtain ⟨h1, e1⟩ := List.getElem?_eq_some_iff.mp ha
  obtain ⟨h2, e2⟩ := List.getElem?_eq_some_iff.mp hb
  rw [← e1, ← e2]
  exact List.set_set_perm h1 h2
theorem set2_V (xs : List Int) (p q : Nat) (a b : Int) : ((xs.map V.int).set p (V.int b)).set q (V.int a) = ((xs.set p b).set q a).map V.int := by
  rw [List.map_set, List.map_set]
def spNear : Sp := fun vs H Q _ => ∃ (D : Dk) (o : Addr) (n : Nat) (ns : List Int), vs = [.ref D.d, .ref o] ∧ DkAt H D ∧ H o = some (.lst (ns.map V.int)) ∧ IsOrd n ns ∧ 1 ≤ n ∧ n ≤ 12 ∧
  ∀ (ms : List Int) (l : Addr) (H' : Hp), IsOrd n ms → H l = none → H' l = some (.lst (ms.map V.int)) → ¬ D.Foot l → DkAt H' D → Keep D H H' → Q (.ref l) H'
theorem keep_none {D : Dk} {H H1 : Hp} (k : Keep D H H1) {p : Addr} (np : H1 p = none) (nf : ¬ D.Foot p) : H p = none := by
  cases e : H p with
  | none => rfl
  | some o =>
    have z := k p o e nf
    rw [np] at z
    cases z
section
variable {P : Program} {w : World} {K : PySem.W.Frag} {mg : Str → Option Value} {base : Heap}
theorem scNear : FnScope ["deck", "order", "found", "n", "way", "thing", "k", "p", "q"] ["deck", "order"] (defScope s_law_near) := ⟨rfl, rfl, rfl, by decide +kernel, rfl, by decide +kernel, by decide +kernel⟩
set_option maxHeartbeats 4000000 in
theorem ok_near {f fD fO : Addr} {fd fdD fdO : FuncData} {k : Nat} (T : Df K mg "_law_near" s_law_near ["deck", "order"] f fd) (T__law_draw : Df K mg "_law_draw" s_law_draw ["deck", "many"] fD fdD) (T__law_order : Df K mg "_law_order" s_law_order ["deck", "n"] fO fdO) (B : Bi mg) : FnOk P w K mg base CX0 (k + 3) f fd ["deck", "order"] spNear := by
  have G__law_draw : FnOk P w K mg base CX0 (k + 2) fD fdD ["deck", "many"] spDraw := ok_draw (k := k + 1) T__law_draw B
  have G__law_order : FnOk P w K mg base CX0 (k + 2) fO fdO ["deck", "n"] spOrder := ok_order T__law_order T__law_draw B
  refine T.F.ok scNear (fun vs H Q E h => ?_) (fun cdv A outer s H vs Q E hr h => ?_)
  · obtain ⟨D, o, n, ns, rfl, _⟩ := h
    rfl
  · obtain ⟨D, o, n, ns, rfl, hD, h0, ho, hn1, hn2, q⟩ := h
    have hlm : (ns.map V.int).length = n := by rw [List.length_map, ho.len]
    refine ⟨_, 
      (pss_cons (ps_set (i := 2) scNear.nd rfl (.inl rfl) (pe_callTy call_list_of (by rfl) B.list (by decide +kernel) (pa_cons (pv 1) pa_nil)))
      (pss_cons (ps_set (i := 3) scNear.nd rfl (.inl rfl) (pe_callB call_len_seq (by rfl) B.len PySem.boot_len (pa_cons (pv 1) pa_nil)))
      (pss_cons (ps_set (i := 4) scNear.nd rfl (.inl rfl) (pe_call G__law_draw hr (by rfl) T__law_draw.g T__law_draw.F.kp T__law_draw.b .nil pass0 (pa_cons (pv 0) (pa_cons pe_int pa_nil))))
      (pss_cons (ps_if (pt_cmpR op_eq (pv 4) pe_int (nomark _))
        (pss_one (ps_ret (pe_call G__law_order hr (by rfl) T__law_order.g T__law_order.F.kp T__law_order.b .nil pass0 (pa_cons (pv 0) (pa_cons (pv 3) pa_nil)))))
        pss_nil)
      (pss_cons (ps_if (pt_cmpR op_eq (pv 4) pe_int (nomark _))
        (pss_one (ps_ret (pe_revL (pv 2))))
        pss_nil)
      (pss_cons (ps_if (pt_cmpR op_eq (pv 4) pe_int (nomark _))
        (pss_cons (ps_set (i := 5) scNear.nd rfl (.inl rfl) (pe_bm PySem.F.plainAttrs_list PySem.F.slot_list_pop PySem.F.type_list_pop mt_popAt (pv 2) (pa_cons (pe_call G__law_draw hr (by rfl) T__law_draw.g T__law_draw.F.kp T__law_draw.b .nil pass0 (pa_cons (pv 0) (pa_cons (pv 3) pa_nil))) pa_nil)))
        (pss_cons (ps_expr (pe_bm PySem.F.plainAttrs_list PySem.F.slot_list_insert PySem.F.type_list_insert mt_insert (pv 2) (pa_cons (pe_call G__law_draw hr (by rfl) T__law_draw.g T__law_draw.F.kp T__law_draw.b .nil pass0 (pa_cons (pv 0) (pa_cons (pv 3) pa_nil))) (pa_cons (pv 5) pa_nil))))
        (pss_one (ps_ret (pv 2)))))
        pss_nil)
      (pss_cons (ps_for PassesOwn.never rfl (pi_range1 (by rfl) B.range (pa_cons (pe_call G__law_draw hr (by rfl) T__law_draw.g T__law_draw.F.kp T__law_draw.b .nil pass0 (pa_cons (pv 0) (pa_cons pe_int pa_nil))) pa_nil)) (pg_name (i := 6) scNear.nd rfl (.inl rfl))
        (pss_cons (ps_set (i := 7) scNear.nd rfl (.inl rfl) (pe_call G__law_draw hr (by rfl) T__law_draw.g T__law_draw.F.kp T__law_draw.b .nil pass0 (pa_cons (pv 0) (pa_cons (pv 3) pa_nil))))
        (pss_cons (ps_set (i := 8) scNear.nd rfl (.inl rfl) (pe_ix ix_list (pe_lst (pa_cons (pe_call G__law_draw hr (by rfl) T__law_draw.g T__law_draw.F.kp T__law_draw.b .nil pass0 (pa_cons (pv 0) (pa_cons (pv 3) pa_nil))) (pa_cons (pe_callB (call_min2 rfl) (by rfl) B.min (by decide +kernel) (pa_cons (pe_op op_sub (pv 3) pe_int) (pa_cons (pe_op op_add (pv 7) pe_int) pa_nil))) pa_nil))) (pe_op op_sub (pv 4) pe_int) (fun _ _ => rfl)))
        (pss_one (ps_asg (pe_tup (pa_cons (pe_ix ix_list (pv 2) (pv 8) (fun _ _ => rfl)) (pa_cons (pe_ix ix_list (pv 2) (pv 7) (fun _ _ => rfl)) pa_nil))) (pg_tup (by rfl) (pgs_cons (pg_sub (pv 2) (pv 7) set_list) (pgs_cons (pg_sub (pv 2) (pv 8) set_list) pgs_nil))))))))
      (pss_one (ps_ret (pv 2)))))))))), ?_⟩
    -- found = list(order); n = len(order)
    refine ⟨_, rfl, o, _, rfl, .inl (SqL.of h0), fun l nl => ?_⟩
    have s0 := same_new (o := .lst (ns.map V.int)) nl
    refine ⟨_, rfl, o, _, rfl, .inl (SqL.of (s0 _ _ h0)), ?_⟩
    have D0 := hD.new (o := .lst (ns.map V.int)) nl
    have nf := hD.notFoot nl
    -- way
    refine ⟨_, rfl, D, 5, rfl, D0, by decide, by decide, fun way H1 w0 w1 D1 k1 => ?_⟩
    have hl1 := k1 l _ upd_same nf
    have kk1 : Keep D H H1 := (Keep.of_same s0).trans k1
    -- way == 0
    refine ⟨_, rfl, rfl, _, rfl, ite2 (fun _ => ?_) (fun z0 => ?_)⟩
    · refine ⟨_, rfl, _, rfl, D, n, by rw [hlm]; rfl, D1, hn1, hn2, fun ms l2 H2 o2 n2 h2 f2 D2 k2 => ?_⟩
      exact q ms l2 H2 o2 (keep_none kk1 n2 f2) h2 f2 D2 (kk1.trans k2)
    -- way == 1
    refine ⟨_, rfl, rfl, _, rfl, ite2 (fun _ => ?_) (fun z1 => ?_)⟩
    · refine ⟨_, rfl, l, _, rfl, SqL.of hl1, fun p np => ?_⟩
      exact q ns.reverse p _ ((List.reverse_perm ns).trans ho) (keep_none kk1 np (D1.notFoot np)) (by rw [upd_same, List.map_reverse]) (D1.notFoot np) (D1.new np) (kk1.trans (Keep.new np))
    -- way == 2
    refine ⟨_, rfl, rfl, _, rfl, ite2 (fun _ => ?_) (fun z2 => ?_)⟩
    · refine ⟨_, rfl, .inl ⟨rfl, _, SqL.of hl1⟩, _, rfl, _, rfl, D, n, by rw [hlm]; rfl, D1, by omega, by omega, fun v H2 v0 v1 D2 k2 => ?_⟩
      have hl2 := k2 l _ hl1 nf
      obtain ⟨y, ey⟩ : ∃ y, ns[v.toNat]? = some y := ⟨ns[v.toNat]'(by rw [ho.len]; omega), List.getElem?_eq_getElem (by rw [ho.len]; omega)⟩
      refine ⟨l, _, v, v.toNat, _, rfl, rfl, hl2, by omega, by omega, seq_ix (by omega) (by rw [hlm]; omega), int_at ey, ?_⟩
      have D3 := D2.upd (o := .lst ((ns.map V.int).eraseIdx v.toNat)) nf
      refine ⟨_, rfl, .inl ⟨rfl, _, SqL.of upd_same⟩, _, rfl, _, rfl, D, n, by rw [hlm]; rfl, D3, by omega, by omega, fun u H4 u0 u1 D4 k4 => ?_⟩
      have hl4 := k4 l _ upd_same nf
      refine ⟨_, rfl, l, _, _, _, rfl, rfl, hl4, line_lt (by rw [map_erase, List.length_map, List.length_eraseIdx, ho.len]; split <;> omega), by omega, by omega, ?_⟩
      have nHl : H l = none := nl
      refine ⟨_, rfl, q ((ns.eraseIdx v.toNat).take u.toNat ++ [y] ++ (ns.eraseIdx v.toNat).drop u.toNat) l _ (((ins_perm _ _ _).trans (pop_perm ey)).trans ho) nHl ?_ nf (D4.upd nf) fun c x e f => ?_⟩
      · rw [upd_same, map_erase, List.map_append, List.map_append, List.map_take, List.map_drop]
        rfl
      · have nc : c ≠ l := ne_of_none e nl
        have e2 := k2 c x (kk1 c x e f) f
        rw [upd_ne nc]
        exact k4 c x (by rw [upd_ne nc]; exact e2) f
    -- the loop
    have hw : way = 3 ∨ way = 4 := by
      have a0 : way ≠ 0 := fun e => by subst e; exact z0 (decide_eq_true rfl)
      have a1 : way ≠ 1 := fun e => by subst e; exact z1 (decide_eq_true rfl)
      have a2 : way ≠ 2 := fun e => by subst e; exact z2 (decide_eq_true rfl)
      omega
    refine ⟨_, rfl, D, 5, rfl, D1, by decide, by decide, fun v H2 v0 v1 D2 k2 => ⟨v, rfl, by omega, by omega, ?_⟩⟩
    refine for_range (n := v.toNat) (fun i σ H3 => ∃ (y5 y6 y7 y8 : Option V) (xs : List Int), σ = [some (.ref D.d), some (.ref o), some (.ref l), some (.int n), some (.int way), y5, y6, y7, y8] ∧ IsOrd n xs ∧ H3 l = some (.lst (xs.map V.int)) ∧ DkAt H3 D ∧ Keep D H H3)
      ⟨none, none, none, none, ns, by rw [hlm]; rfl, ho, k2 l _ hl1 nf, D2, kk1.trans k2⟩ (fun i σ H3 hi hP => ?_) (fun σ H3 hP => ?_)
    · obtain ⟨y5, y6, y7, y8, xs, rfl, o3, hl3, D3, k3⟩ := hP
      have hxl := o3.len
      refine ⟨_, rfl, _, rfl, D, n, rfl, D3, by omega, by omega, fun p H4 p0 p1 D4 k4 => ?_⟩
      have hl4 := k4 l _ hl3 nf
      refine ⟨_, rfl, _, rfl, D, n, rfl, D4, by omega, by omega, fun u H5 u0 u1 D5 k5 => ?_⟩
      have hl5 := k5 l _ hl4 nf
      refine ⟨_, rfl, (n : Int), 1, rfl, rfl, _, rfl, p, 1, rfl, rfl, _, _, rfl, line_small (by show 2 ≤ 16777216; decide), fun t nt => ?_⟩
      have s6 := same_new (o := .lst [.int u, .int (if p + 1 < (n : Int) - 1 then p + 1 else (n : Int) - 1)]) nt
      obtain ⟨z, ez, z0, z1⟩ : ∃ z : Int, atI [V.int u, V.int (if p + 1 < (n : Int) - 1 then p + 1 else (n : Int) - 1)] (way - 3) = some (.int z) ∧ 0 ≤ z ∧ z < n := by
        rcases hw with rfl | rfl
        · exact ⟨u, rfl, u0, u1⟩
        · refine ⟨_, rfl, ?_, ?_⟩ <;> split <;> omega
      refine ⟨_, rfl, way, 3, rfl, rfl, t, _, _, _, rfl, rfl, SqL.of upd_same, ez, ?_⟩
      obtain ⟨a, ea⟩ : ∃ a, xs[p.toNat]? = some a := ⟨xs[p.toNat]'(by omega), List.getElem?_eq_getElem (by omega)⟩
      obtain ⟨b, eb⟩ : ∃ b, xs[z.toNat]? = some b := ⟨xs[z.toNat]'(by omega), List.getElem?_eq_getElem (by omega)⟩
      have hl6 := s6 _ _ hl5
      refine ⟨_, rfl, _, rfl, l, _, _, _, rfl, rfl, SqL.of hl6, at_of (j := z.toNat) (by omega) (int_at eb), _, rfl, _, rfl, l, _, _, _, rfl, rfl, SqL.of hl6, at_of (j := p.toNat) (by omega) (int_at ea), line_small (by show 2 ≤ 16777216; decide), fun t2 nt2 => ?_⟩
      have hl7 := same_new (o := .tup [.int b, .int a]) nt2 _ _ hl6
      refine ⟨t2, _, rfl, .inl (.inl upd_same), rfl, _, _, rfl, _, rfl, _, rfl, l, _, _, p.toNat, rfl, rfl, hl7, ix_n (by omega) (by rw [List.length_map]; omega), ?_⟩
      refine ⟨_, _, rfl, _, rfl, _, rfl, l, _, _, z.toNat, rfl, rfl, upd_same, ix_n (by omega) (by rw [List.length_set, List.length_map]; omega), ?_⟩
      refine ⟨rfl, _, _, _, _, (xs.set p.toNat b).set z.toNat a, rfl, (set2_perm ea eb).trans o3, by rw [upd_same, set2_V], (((D5.new nt).new nt2).upd nf).upd nf, fun c x e f => ?_⟩
      have nc : c ≠ l := ne_of_none e nl
      rw [upd_ne nc, upd_ne nc]
      exact same_new nt2 _ _ (s6 _ _ (k5 c x (k4 c x (k3 c x e f) f) f))
    · obtain ⟨y5, y6, y7, y8, xs, rfl, o3, hl3, D3, k3⟩ := hP
      exact ⟨_, rfl, q xs l H3 o3 nl hl3 nf D3 k3⟩
end
end Fo
namespace Fo
open PySem PySem.Spec PyProof.Rows L2
/-- a loop over enumerate of a list that stands still -/
theorem for_enumL {K : PySem.W.Frag} {a : Addr} {xs : List V} {g : TG} {tb : TS} {D : Ends} {σ : L2.St} {H : Hp} (Pv : Nat → L2.St → Hp → Prop) (h0 : Pv 0 σ H) (hq : ∀ i σ H, Pv i σ H → SqL K H a xs)
    (hs : ∀ (i : Nat) (x : V) (T : Addr) (σ : L2.St) (H : Hp), xs[i]? = some x → Pv i σ H → H T = none → g (.ref T) σ (upd H T (.tup [.int (i : Nat), x])) fun σ2 H2 => tb { D with nx := Pv (i + 1), ct := Pv (i + 1), bk := D.nx } σ2 H2) (hd : ∀ σ H, Pv xs.length σ H → D.nx σ H) :
    ∃ W : Nat → Nat → L2.St → Hp → Prop, (∃ m, W 0 m σ H) ∧ ∀ i m σ H, W i m σ H →
      ((Ite K a).stop i H ∧ D.nx σ H) ∨ ((Ite K a).go i H ∧ ∃ N : L2.St → Hp → Prop, (∀ σ' H', N σ' H' → ∃ m', m' < m ∧ W (i + 1) m' σ' H') ∧ ∀ v H', (Ite K a).yld i H v H' → g v σ H' fun σ2 H2 => tb { D with nx := N, ct := N, bk := D.nx } σ2 H2) := by
  refine ⟨fun i m σ H => m = xs.length - i ∧ i ≤ xs.length ∧ Pv i σ H, ⟨xs.length, rfl, Nat.zero_le _, h0⟩, ?_⟩
  rintro i m σ H ⟨rfl, hi, p⟩
  have qx := hq i σ H p
  by_cases hlt : i < xs.length
  · have hx : xs[i]? = some xs[i] := List.getElem?_eq_getElem hlt
    refine .inr ⟨⟨xs, _, qx, hx⟩, Pv (i + 1), fun σ' H' p' => ⟨xs.length - (i + 1), by omega, rfl, hlt, p'⟩, fun v H' y => ?_⟩
    obtain ⟨T, x', rfl, hT, rfl, f1⟩ := y
    exact hs i x' T σ H (f1 xs qx) p hT
  · have e : i = xs.length := by omega
    subst e
    exact .inl ⟨⟨xs, qx, Nat.le_refl _⟩, hd σ H p⟩
/-- a comprehension over enumerate of a list that stands still -/
theorem lc_enumL {K : PySem.W.Frag} {a : Addr} {xs : List V} {g : TG} {tt : TT} {te : TE} {vs : List Nat} {σ : L2.St} {H1 : Hp} {D : Addr} {Qd : Hp → Prop} (Pv : Nat → Hp → Prop) (h0 : Pv 0 (upd H1 D (.lst []))) (hl : ∀ i H, i ≤ xs.length → Pv i H → SqL K H a xs)
    (hs : ∀ (i : Nat) (x : V) (T : Addr) (H : Hp), xs[i]? = some x → Pv i H → H T = none → g (.ref T) (wipe σ vs) (upd H T (.tup [.int (i : Nat), x])) fun σ2 H2 => wipe σ2 vs = wipe σ vs ∧ tt σ2 H2 fun b H3 =>
      if b = true then te σ2 H3 fun y H4 => ∃ acc, H4 D = some (.lst acc) ∧ acc.length < sizeLine ∧ Pv (i + 1) (upd H4 D (.lst (acc ++ [y]))) else Pv (i + 1) H3) (hd : ∀ H, Pv xs.length H → Qd H) :
    ∃ W : Nat → Nat → Hp → Prop, (∃ m, W 0 m (upd H1 D (.lst []))) ∧ ∀ i m H, W i m H →
      ((Ite K a).stop i H ∧ Qd H) ∨ ((Ite K a).go i H ∧ ∃ Nx : Hp → Prop, (∀ H', Nx H' → ∃ m', m' < m ∧ W (i + 1) m' H') ∧ ∀ x H', (Ite K a).yld i H x H' → g x (wipe σ vs) H' fun σ2 H2 => wipe σ2 vs = wipe σ vs ∧ tt σ2 H2 fun b H3 =>
        if b = true then te σ2 H3 fun y H4 => ∃ acc, H4 D = some (.lst acc) ∧ acc.length < sizeLine ∧ Nx (upd H4 D (.lst (acc ++ [y]))) else Nx H3) := by
  refine ⟨fun i m H => m = xs.length - i ∧ i ≤ xs.length ∧ Pv i H, ⟨xs.length, by simp, Nat.zero_le _, h0⟩, ?_⟩
  rintro i m H ⟨rfl, hi, p⟩
  have q := hl i H hi p
  by_cases hlt : i < xs.length
  · refine .inr ⟨⟨xs, xs[i], q, by simp [hlt]⟩, Pv (i + 1), fun H' p' => ⟨xs.length - (i + 1), by omega, rfl, hlt, p'⟩, fun x H' y => ?_⟩
    obtain ⟨T, x', rfl, hT, rfl, f1⟩ := y
    exact hs i x' T H (f1 xs q) p hT
  · have e : i = xs.length := by omega
    subst e
    exact .inl ⟨⟨xs, q, Nat.le_refl _⟩, hd H p⟩
/-! ### the back of an order -/
def IsBack (ns ps : List Int) : Prop := ps.length = ns.length ∧ ∀ (j : Nat) (x : Int), ns[j]? = some x → ps[x.toNat]? = some (j : Int)
theorem ord_at {n : Nat} {ns : List Int} (o : IsOrd n ns) {t : Nat} (h : t < n) : ∃ j : Nat, j < n ∧ ns[j]? = some (t : Int) := by
  have m : (t : Int) ∈ ns := (List.Perm.mem_iff o).mpr (rg_mem.mpr ⟨by omega, by omega⟩)
  obtain ⟨j, hj⟩ := List.mem_iff_getElem?.mp m
  exact ⟨j, by have := (List.getElem?_eq_some_iff.mp hj).1; rw [o.len] at this; exact this, hj⟩
theorem ord_ix {n : Nat} {ns : List Int} (o : IsOrd n ns) {j : Nat} (h : j < n) : ∃ x : Int, ns[j]? = some x ∧ 0 ≤ x ∧ x < n := by
  have hj : j < ns.length := by rw [o.len]; exact h
  exact ⟨ns[j], List.getElem?_eq_getElem hj, o.mem (List.getElem_mem hj)⟩
theorem back_eq {n : Nat} {ns a b : List Int} (o : IsOrd n ns) (ha : IsBack ns a) (hb : IsBack ns b) : a = b := by
  apply List.ext_getElem?
  intro t
  by_cases h : t < n
  · obtain ⟨j, _, hj⟩ := ord_at o h
    have h1 := ha.2 j _ hj
    have h2 := hb.2 j _ hj
    rw [Int.toNat_natCast] at h1 h2
    rw [h1, h2]
  · rw [List.getElem?_eq_none (by rw [ha.1, o.len]; omega), List.getElem?_eq_none (by rw [hb.1, o.len]; omega)]
def behindL (ns ms : List Int) : List Int := ms.map fun p => ns.getD p.toNat 0
theorem behind_at {ns ms : List Int} {i : Nat} {p x : Int} (hp : ms[i]? = some p) (hx : ns[p.toNat]? = some x) : (behindL ns ms)[i]? = some x := by
  unfold behindL
  rw [List.getElem?_map, hp]
  show some (ns.getD p.toNat 0) = some x
  rw [List.getD_eq_getElem?_getD, hx]
  rfl
theorem behind_len (ns ms : List Int) : (behindL ns ms).length = ms.length := by
  unfold behindL
  rw [List.length_map]
theorem take_more {l : List Int} {i : Nat} {x : Int} (h : l[i]? = some x) : l.take (i + 1) = l.take i ++ [x] := by
  rw [List.take_add_one, h]
  rfl
theorem flat_ints : ∀ ns : List Int, (ns.map V.int).all flatV = true
  | [] => rfl
  | n :: r => by
    show (flatV (V.int n) && (r.map V.int).all flatV) = true
    rw [flat_ints r]
    rfl
theorem eqV_int (i j : Int) : eqV (.int i) (.int j) = (i == j) := rfl
end Fo
namespace Fo
open PySem PySem.Spec PyProof.Rows L2
def spChecks : Sp := fun vs H Q _ => ∃ (a b : Addr) (n m : Nat) (ns ms : List Int), vs = [.ref a, .ref b] ∧ H a = some (.lst (ns.map V.int)) ∧ H b = some (.lst (ms.map V.int)) ∧ IsOrd n ns ∧ 1 ≤ n ∧ n ≤ 12 ∧ IsOrd m ms ∧ 1 ≤ m ∧ m ≤ 12 ∧ ∀ H', Same H H' → Q .non H'
def spFit : Sp := fun vs H Q _ => ∃ (a b : Addr) (ns ms : List Int), vs = [.ref a, .ref b] ∧ H a = some (.lst (ns.map V.int)) ∧ H b = some (.lst (ms.map V.int)) ∧ ns.length = ms.length ∧ Q .non H
def spBehind : Sp := fun vs H Q _ => ∃ (a b : Addr) (n : Nat) (ns ms : List Int), vs = [.ref a, .ref b] ∧ H a = some (.lst (ns.map V.int)) ∧ H b = some (.lst (ms.map V.int)) ∧ IsOrd n ns ∧ IsOrd n ms ∧ 1 ≤ n ∧ n ≤ 12 ∧
  ∀ (l : Addr) (H' : Hp), H l = none → H' l = some (.lst ((behindL ns ms).map V.int)) → Same H H' → Q (.ref l) H'
section
variable {P : Program} {w : World} {K : PySem.W.Frag} {mg : Str → Option Value} {base : Heap}
theorem scChecks : FnScope ["one", "other"] ["one", "other"] (defScope s_check_orders) := ⟨rfl, rfl, rfl, by decide +kernel, rfl, by decide +kernel, by decide +kernel⟩
theorem ok_checks {f fC : Addr} {fd fdC : FuncData} {k : Nat} (T : Df K mg "check_orders" s_check_orders ["one", "other"] f fd) (T_check_order : Df K mg "check_order" s_check_order ["thing"] fC fdC) (G_check_order : FnOk P w K mg base CX0 k fC fdC ["thing"] spCheck) : FnOk P w K mg base CX0 (k + 1) f fd ["one", "other"] spChecks := by
  refine T.F.ok scChecks (fun vs H Q E h => ?_) (fun cdv A outer s H vs Q E hr h => ?_)
  · obtain ⟨a, b, n, m, ns, ms, rfl, _⟩ := h
    rfl
  · obtain ⟨a, b, n, m, ns, ms, rfl, ha, hb, o1, n1, n2, o2, m1, m2, q⟩ := h
    refine ⟨_, 
      (pss_cons (ps_expr (pe_call G_check_order hr (by rfl) T_check_order.g T_check_order.F.kp T_check_order.b .nil pass0 (pa_cons (pv 0) pa_nil)))
      (pss_one (ps_expr (pe_call G_check_order hr (by rfl) T_check_order.g T_check_order.F.kp T_check_order.b .nil pass0 (pa_cons (pv 1) pa_nil))))), ?_⟩
    refine ⟨_, rfl, a, n, ns, rfl, ha, o1, n1, n2, fun H1 s1 => ?_⟩
    exact ⟨_, rfl, b, m, ms, rfl, s1 _ _ hb, o2, m1, m2, fun H2 s2 => q H2 (s1.trans s2)⟩
theorem scFit : FnScope ["one", "other"] ["one", "other"] (defScope s_check_fit) := ⟨rfl, rfl, rfl, by decide +kernel, rfl, by decide +kernel, by decide +kernel⟩
theorem ok_fit {f : Addr} {fd : FuncData} {k : Nat} (T : Df K mg "check_fit" s_check_fit ["one", "other"] f fd) (B : Bi mg) : FnOk P w K mg base CX0 (k + 1) f fd ["one", "other"] spFit := by
  refine T.F.ok scFit (fun vs H Q E h => ?_) (fun cdv A outer s H vs Q E hr h => ?_)
  · obtain ⟨a, b, ns, ms, rfl, _⟩ := h
    rfl
  · obtain ⟨a, b, ns, ms, rfl, ha, hb, e, q⟩ := h
    refine ⟨_, 
      (pss_one (ps_if (pt_cmpR op_ne (pe_callB call_len_seq (by rfl) B.len PySem.boot_len (pa_cons (pv 0) pa_nil)) (pe_callB call_len_seq (by rfl) B.len PySem.boot_len (pa_cons (pv 1) pa_nil)) (nomark _))
        (pss_one ps_never)
        pss_nil)), ?_⟩
    refine ⟨_, rfl, a, _, rfl, .inl (SqL.of ha), _, rfl, b, _, rfl, .inl (SqL.of hb), rfl, _, rfl, ?_⟩
    rw [List.length_map, List.length_map, e]
    exact iteNS rfl q
end
end Fo
namespace Fo
open PySem PySem.Spec PyProof.Rows L2
def spPlaces : Sp := fun vs H Q _ => ∃ (a : Addr) (n : Nat) (ns : List Int), vs = [.ref a] ∧ H a = some (.lst (ns.map V.int)) ∧ IsOrd n ns ∧ 1 ≤ n ∧ n ≤ 12 ∧
  ∀ (ps : List Int) (l : Addr) (H' : Hp), IsBack ns ps → H l = none → H' l = some (.lst (ps.map V.int)) → Same H H' → Q (.ref l) H'
section
variable {P : Program} {w : World} {K : PySem.W.Frag} {mg : Str → Option Value} {base : Heap}
theorem scPlaces : FnScope ["order", "places", "place", "thing"] ["order"] (defScope s_places_in) := ⟨rfl, rfl, rfl, by decide +kernel, rfl, by decide +kernel, by decide +kernel⟩
set_option maxHeartbeats 2000000 in
theorem ok_places {f : Addr} {fd : FuncData} {k : Nat} (T : Df K mg "places_in" s_places_in ["order"] f fd) (B : Bi mg) : FnOk P w K mg base CX0 (k + 1) f fd ["order"] spPlaces := by
  refine T.F.ok scPlaces (fun vs H Q E h => ?_) (fun cdv A outer s H vs Q E hr h => ?_)
  · obtain ⟨a, n, ns, rfl, _⟩ := h
    rfl
  · obtain ⟨a, n, ns, rfl, ha, ho, hn1, hn2, q⟩ := h
    have hlm : (ns.map V.int).length = n := by rw [List.length_map, ho.len]
    have hz : ∀ m : Nat, (List.replicate m [V.int 0]).flatten = (List.replicate m (0 : Int)).map V.int := by
      intro m
      induction m with
      | zero => rfl
      | succ m ih => rw [List.replicate_succ, List.replicate_succ, List.flatten_cons, ih]; rfl
    refine ⟨_, 
      (pss_cons (ps_set (i := 1) scPlaces.nd rfl (.inl rfl) (pe_op op_rep (pe_lst (pa_cons pe_int pa_nil)) (pe_callB call_len_seq (by rfl) B.len PySem.boot_len (pa_cons (pv 0) pa_nil))))
      (pss_cons (ps_for PassesOwn.never rfl (pi_enum (by rfl) B.enumerate (pa_cons (pv 0) pa_nil)) (pg_tup (by rfl) (pgs_cons (pg_name (i := 2) scPlaces.nd rfl (.inl rfl)) (pgs_cons (pg_name (i := 3) scPlaces.nd rfl (.inl rfl)) pgs_nil)))
        (pss_one (ps_asg (pv 2) (pg_sub (pv 1) (pv 3) set_list))))
      (pss_one (ps_ret (pv 1))))), ?_⟩
    refine ⟨line_small (by show 1 ≤ 16777216; decide), fun z nz => ?_⟩
    have s1 := same_new (o := .lst [.int 0]) nz
    refine ⟨_, rfl, a, _, rfl, .inl (SqL.of (s1 _ _ ha)), z, _, _, rfl, rfl, upd_same, by omega, by rw [hlm]; omega, line_small (by rw [hlm, Int.toNat_natCast]; show 1 * n ≤ _; omega), fun l nl => ?_⟩
    have s2 := s1.trans (same_new (o := .lst (List.replicate (((ns.map V.int).length : Nat) : Int).toNat [V.int 0]).flatten) nl)
    have nHl : H l = none := s1.free nl
    refine ⟨_, rfl, a, _, rfl, SqL.of (s2 _ _ ha), ?_⟩
    refine for_enumL (xs := ns.map V.int) (fun i σ H3 => ∃ (y2 y3 : Option V) (ps : List Int), σ = [some (.ref a), some (.ref l), y2, y3] ∧ H3 l = some (.lst (ps.map V.int)) ∧ ps.length = n ∧ (∀ (j : Nat) (x : Int), j < i → ns[j]? = some x → ps[x.toNat]? = some (j : Int)) ∧ Same H H3)
      ⟨none, none, List.replicate n 0, rfl, by rw [upd_same, hz, hlm, Int.toNat_natCast], by rw [List.length_replicate], fun j x hj => absurd hj (Nat.not_lt_zero _), s2⟩ (fun i σ H3 hP => by obtain ⟨_, _, _, _, _, _, _, sm⟩ := hP; exact SqL.of (sm _ _ ha)) (fun i x t σ H3 hx hP nt => ?_) (fun σ H3 hP => ?_)
    · obtain ⟨y2, y3, ps, rfl, hl3, el, hat, sm⟩ := hP
      obtain ⟨y, ey, rfl⟩ := int_at_inv hx
      have hy := ho.mem (List.mem_of_getElem? ey)
      have s3 := same_new (o := .tup [.int (i : Nat), .int y]) nt
      have hl4 := s3 _ _ hl3
      refine ⟨t, _, rfl, .inl (.inl upd_same), rfl, _, _, rfl, _, _, rfl, rfl, ?_⟩
      refine ⟨_, rfl, _, rfl, _, rfl, l, _, _, y.toNat, rfl, rfl, hl4, ix_n (by omega) (by rw [List.length_map]; omega), ?_⟩
      refine ⟨_, _, ps.set y.toNat (i : Int), rfl, by rw [upd_same, List.map_set], by rw [List.length_set]; exact el, fun j x hj hx2 => ?_, fun c o e => ?_⟩
      · by_cases c : j = i
        · subst c
          have e1 : x = y := Option.some.inj (hx2.symm.trans ey)
          subst e1
          rw [List.getElem?_set_self (by omega)]
        · have hx3 := ho.mem (List.mem_of_getElem? hx2)
          have ne : y.toNat ≠ x.toNat := fun e => c (nd_ix ho.nodup hx2 (by rw [ey]; congr 1; omega))
          rw [List.getElem?_set_ne ne]
          exact hat j x (by omega) hx2
      · rw [upd_ne (ne_of_none e nHl)]
        exact s3 _ _ (sm _ _ e)
    · obtain ⟨y2, y3, ps, rfl, hl3, el, hat, sm⟩ := hP
      rw [hlm] at hat
      refine ⟨_, rfl, q ps l H3 ⟨by rw [el, ho.len], fun j x hx => hat j x ?_ hx⟩ nHl hl3 sm⟩
      have := (List.getElem?_eq_some_iff.mp hx).1
      rw [ho.len] at this
      exact this
end
end Fo
namespace Fo
open PySem PySem.Spec PyProof.Rows L2
/-! ### sums -/
def ind (b : Bool) : Nat := if b then 1 else 0
def sumN (l : List Int) (f : Int → Nat) : Nat := (l.map f).sum
theorem sumN_nil (f : Int → Nat) : sumN [] f = 0 := rfl
theorem sumN_cons (a : Int) (l : List Int) (f : Int → Nat) : sumN (a :: l) f = f a + sumN l f := by
  unfold sumN
  rw [List.map_cons, List.sum_cons]
theorem sumN_append (l m : List Int) (f : Int → Nat) : sumN (l ++ m) f = sumN l f + sumN m f := by
  unfold sumN
  rw [List.map_append, List.sum_append]
theorem sumN_perm {l m : List Int} (h : l.Perm m) (f : Int → Nat) : sumN l f = sumN m f := by
  induction h with
  | nil => rfl
  | cons x _ ih => rw [sumN_cons, sumN_cons, ih]
  | swap x y l => rw [sumN_cons, sumN_cons, sumN_cons, sumN_cons]; omega
  | trans _ _ h1 h2 => exact h1.trans h2
theorem sumN_congr {l : List Int} {f g : Int → Nat} (h : ∀ x ∈ l, f x = g x) : sumN l f = sumN l g := by
  unfold sumN
  rw [List.map_congr_left h]
theorem sumN_map (l : List Int) (g : Int → Int) (f : Int → Nat) : sumN (l.map g) f = sumN l (fun x => f (g x)) := by
  unfold sumN
  rw [List.map_map]
  rfl
theorem sumN_zero {l : List Int} {f : Int → Nat} (h : ∀ x ∈ l, f x = 0) : sumN l f = 0 := by
  rw [sumN_congr h]
  induction l with
  | nil => rfl
  | cons a l ih => rw [sumN_cons, ih fun x hx => h x (List.mem_cons_of_mem _ hx)]
theorem sumN_add (l : List Int) (f g : Int → Nat) : sumN l (fun x => f x + g x) = sumN l f + sumN l g := by
  induction l with
  | nil => rfl
  | cons a l ih => rw [sumN_cons, sumN_cons, sumN_cons, ih]; omega
theorem sumN_swap (l m : List Int) (f : Int → Int → Nat) : sumN l (fun i => sumN m (fun j => f i j)) = sumN m (fun j => sumN l (fun i => f i j)) := by
  induction l with
  | nil => exact (sumN_zero fun x _ => rfl).symm
  | cons a l ih =>
    rw [sumN_cons, ih, ← sumN_add]
    exact sumN_congr fun x _ => by rw [sumN_cons]
theorem filter_len (l : List Int) (p : Int → Bool) : (l.filter p).length = sumN l (fun x => ind (p x)) := by
  induction l with
  | nil => rfl
  | cons a l ih =>
    rw [sumN_cons, List.filter_cons]
    unfold ind at ih ⊢
    cases p a
    · simp only [Bool.false_eq_true, if_false]; omega
    · simp only [if_true, List.length_cons]; omega
/-! ### a list by its places -/
def g0 (s : List Int) (i : Int) : Int := s.getD i.toNat 0
theorem g0_at {s : List Int} {i : Nat} {x : Int} (h : s[i]? = some x) : g0 s (i : Int) = x := by
  unfold g0
  rw [Int.toNat_natCast, List.getD_eq_getElem?_getD, h]
  rfl
theorem by_places (s : List Int) : s = (rg s.length).map (g0 s) := by
  apply List.ext_getElem?
  intro i
  unfold rg
  rw [List.getElem?_map, List.getElem?_map]
  by_cases h : i < s.length
  · rw [List.getElem?_range h, List.getElem?_eq_getElem h]
    show some s[i] = some (g0 s (i : Int))
    rw [g0_at (List.getElem?_eq_getElem h)]
  · rw [List.getElem?_eq_none (by omega), List.getElem?_eq_none (by rw [List.length_range]; omega)]
    rfl
theorem rg_succ (n : Nat) : rg (n + 1) = rg n ++ [(n : Int)] := by
  unfold rg
  rw [List.range_succ, List.map_append]
  rfl
/-- how many of the later ones are less -/
def cntL (s : List Int) (i : Nat) : Nat := ((s.drop (i + 1)).filter (fun x => decide (x < g0 s i))).length
def invF (n : Nat) (a : Int → Int) : Nat := sumN (rg n) fun i => sumN (rg n) fun j => ind (decide (i < j) && decide (a j < a i))
def invN (s : List Int) : Nat := sumN (rg s.length) fun i => cntL s i.toNat
theorem drop_sum (n i : Nat) (f : Int → Nat) : sumN ((rg n).drop (i + 1)) f = sumN (rg n) fun j => if (i : Int) < j then f j else 0 := by
  induction n with
  | zero => rfl
  | succ n ih =>
    rw [rg_succ, sumN_append, ← ih, List.drop_append, sumN_append, rg_len]
    congr 1
    by_cases h : i + 1 ≤ n
    · rw [show i + 1 - n = 0 by omega, List.drop_zero, sumN_cons, sumN_cons, sumN_nil, sumN_nil, if_pos (by omega)]
    · rw [show i + 1 - n = (i - n) + 1 by omega, List.drop_succ_cons, List.drop_nil, sumN_cons, sumN_nil, sumN_nil, if_neg (by omega)]
theorem cnt_sum (s : List Int) (i : Nat) : cntL s i = sumN (rg s.length) fun j => ind (decide ((i : Int) < j) && decide (g0 s j < g0 s i)) := by
  unfold cntL
  rw [filter_len]
  have e : s.drop (i + 1) = ((rg s.length).drop (i + 1)).map (g0 s) := by
    rw [List.map_drop, ← by_places]
  rw [e, sumN_map, drop_sum]
  apply sumN_congr
  intro j _
  unfold ind
  by_cases h : (i : Int) < j
  · simp [h]
  · simp [h]
theorem inv_eq (s : List Int) : invN s = invF s.length (g0 s) := by
  unfold invN invF
  apply sumN_congr
  intro i hi
  have := rg_mem.mp hi
  rw [cnt_sum, Int.toNat_of_nonneg this.1]
/-! ### places of things -/
def pos (ys : List Int) (x : Int) : Int := ((ys.idxOf x : Nat) : Int)
def seatsL (xs ys : List Int) : List Int := xs.map (pos ys)
theorem pos_of {n : Nat} {ys : List Int} (o : IsOrd n ys) {j : Nat} {x : Int} (h : ys[j]? = some x) : pos ys x = (j : Int) := by
  obtain ⟨hj, e⟩ := List.getElem?_eq_some_iff.mp h
  have m : x ∈ ys := List.mem_of_getElem? h
  have hi : ys.idxOf x < ys.length := List.idxOf_lt_length_iff.mpr m
  have h2 : ys[ys.idxOf x]? = some x := by
    rw [List.getElem?_eq_getElem hi]
    exact congrArg some (List.getElem_idxOf hi)
  unfold pos
  rw [nd_ix o.nodup h2 h]
theorem pos_at {n : Nat} {ys : List Int} (o : IsOrd n ys) {x : Int} (h0 : 0 ≤ x) (h1 : x < n) : ∃ j : Nat, j < n ∧ ys[j]? = some x ∧ pos ys x = (j : Int) := by
  obtain ⟨j, hj, e⟩ := ord_at o (t := x.toNat) (by omega)
  rw [Int.toNat_of_nonneg h0] at e
  exact ⟨j, hj, e, pos_of o e⟩
theorem back_pos {n : Nat} {ys ps : List Int} (o : IsOrd n ys) (h : IsBack ys ps) {x : Int} (h0 : 0 ≤ x) (h1 : x < n) : ps[x.toNat]? = some (pos ys x) := by
  obtain ⟨j, hj, e, ep⟩ := pos_at o h0 h1
  rw [ep]
  exact h.2 j x e
theorem seats_len (xs ys : List Int) : (seatsL xs ys).length = xs.length := by
  unfold seatsL
  rw [List.length_map]
theorem seats_at {xs ys : List Int} {i : Nat} {x : Int} (h : xs[i]? = some x) : (seatsL xs ys)[i]? = some (pos ys x) := by
  unfold seatsL
  rw [List.getElem?_map, h]
  rfl
theorem seats_self {n : Nat} {ys : List Int} (o : IsOrd n ys) : seatsL ys ys = rg n := by
  apply List.ext_getElem?
  intro i
  by_cases h : i < n
  · obtain ⟨x, hx, _⟩ := ord_ix o h
    rw [seats_at hx, pos_of o hx]
    unfold rg
    rw [List.getElem?_map, List.getElem?_range h]
    rfl
  · rw [List.getElem?_eq_none (by rw [seats_len, o.len]; omega), List.getElem?_eq_none (by rw [rg_len]; omega)]
theorem seats_ord {n : Nat} {xs ys : List Int} (ox : IsOrd n xs) (oy : IsOrd n ys) : IsOrd n (seatsL xs ys) := by
  have h : (seatsL xs ys).Perm (seatsL ys ys) := List.Perm.map _ (ox.trans oy.symm)
  rw [seats_self oy] at h
  exact h
theorem g0_ord {n : Nat} {s : List Int} (o : IsOrd n s) : s = (rg n).map (g0 s) := by
  have e := by_places s
  rw [o.len] at e
  exact e
/-- inversions from the other side -/
theorem inv_turn {n : Nat} {s t : List Int} (os : IsOrd n s) (ot : IsOrd n t) (h : ∀ u ∈ rg n, g0 s (g0 t u) = u) : invN s = invN t := by
  rw [inv_eq, inv_eq, os.len, ot.len]
  unfold invF
  have p1 : ∀ f : Int → Nat, sumN (rg n) f = sumN (rg n) fun u => f (g0 t u) := fun f => by
    have e : sumN ((rg n).map (g0 t)) f = sumN (rg n) fun u => f (g0 t u) := sumN_map _ _ _
    rw [← e, ← g0_ord ot]
    exact (sumN_perm ot f).symm
  rw [p1]
  rw [sumN_congr (g := fun u => sumN (rg n) fun v => ind (decide (g0 t u < g0 t v) && decide (v < u))) (fun u hu => by
    rw [p1]
    exact sumN_congr fun v hv => by rw [h u hu, h v hv])]
  rw [sumN_swap]
  apply sumN_congr
  intro v _
  apply sumN_congr
  intro u _
  rw [Bool.and_comm]
theorem seats_turn {n : Nat} {xs ys : List Int} (ox : IsOrd n xs) (oy : IsOrd n ys) : ∀ u ∈ rg n, g0 (seatsL xs ys) (g0 (seatsL ys xs) u) = u := by
  intro u hu
  have hb := rg_mem.mp hu
  obtain ⟨y, hy, y0, y1⟩ := ord_ix oy (j := u.toNat) (by omega)
  have e1 : g0 (seatsL ys xs) u = pos xs y := by
    have := g0_at (seats_at (ys := xs) hy)
    rw [Int.toNat_of_nonneg hb.1] at this
    exact this
  obtain ⟨j, hj, ej, pj⟩ := pos_at ox y0 y1
  rw [e1, pj, g0_at (seats_at (ys := ys) ej), pos_of oy hy]
  omega
/-! ### how far two orders are -/
def farSwap (xs ys : List Int) : Int := ((invN (seatsL xs ys) : Nat) : Int)
def spotL (xs ys : List Int) : List Int := (rg xs.length).filter fun p => !decide (g0 xs p = g0 ys p)
def farSpot (xs ys : List Int) : Int := (((spotL xs ys).length : Nat) : Int)
def absI (i : Int) : Int := if i < 0 then -i else i
def gapsL (xs ys : List Int) : List Int := (rg xs.length).map fun p => absI (p - g0 (seatsL xs ys) p)
def maxL (l : List Int) : Int := l.foldr max 0
def farShift (xs ys : List Int) : Int := maxL (gapsL xs ys)
theorem maxL_of : ∀ {l : List Int} {m : Int}, (∀ x ∈ l, 0 ≤ x) → m ∈ l → (∀ x ∈ l, x ≤ m) → maxL l = m := by
  intro l m h0 hm hle
  have key : ∀ l : List Int, (∀ x ∈ l, x ≤ m) → maxL l ≤ m := by
    intro l hl
    induction l with
    | nil => exact h0 m hm
    | cons a l ih =>
      show max a (maxL l) ≤ m
      have h1 := hl a List.mem_cons_self
      have h2 := ih fun x hx => hl x (List.mem_cons_of_mem _ hx)
      omega
  have key2 : ∀ l : List Int, ∀ x ∈ l, x ≤ maxL l := by
    intro l
    induction l with
    | nil => intro x hx; exact absurd hx List.not_mem_nil
    | cons a l ih =>
      intro x hx
      show x ≤ max a (maxL l)
      rcases List.mem_cons.mp hx with rfl | hx
      · omega
      · have := ih x hx
        omega
  have := key l hle
  have := key2 l m hm
  omega
theorem gaps_nonneg (xs ys : List Int) : ∀ x ∈ gapsL xs ys, 0 ≤ x := by
  intro x hx
  obtain ⟨p, _, rfl⟩ := List.mem_map.mp hx
  unfold absI
  split <;> omega
theorem maxL_mem {l : List Int} (h0 : ∀ x ∈ l, 0 ≤ x) (hl : 0 < l.length) : maxL l ∈ l ∧ ∀ x ∈ l, x ≤ maxL l := by
  induction l with
  | nil => exact absurd hl (Nat.lt_irrefl _)
  | cons a l ih =>
    show max a (maxL l) ∈ a :: l ∧ ∀ x ∈ a :: l, x ≤ max a (maxL l)
    by_cases c : 0 < l.length
    · obtain ⟨h1, h2⟩ := ih (fun x hx => h0 x (List.mem_cons_of_mem _ hx)) c
      constructor
      · by_cases d : maxL l ≤ a
        · rw [Int.max_eq_left d]
          exact List.mem_cons_self
        · rw [Int.max_eq_right (by omega)]
          exact List.mem_cons_of_mem _ h1
      · intro x hx
        rcases List.mem_cons.mp hx with rfl | hx
        · omega
        · have := h2 x hx
          omega
    · have e : l = [] := List.eq_nil_of_length_eq_zero (by omega)
      subst e
      have := h0 a List.mem_cons_self
      have e2 : max a (maxL []) = a := by show max a 0 = a; omega
      rw [e2]
      exact ⟨List.mem_cons_self, fun x hx => by rw [List.mem_singleton.mp hx]; exact Int.le_refl _⟩
theorem farSwap_turn {n : Nat} {xs ys : List Int} (ox : IsOrd n xs) (oy : IsOrd n ys) : farSwap ys xs = farSwap xs ys := by
  unfold farSwap
  rw [inv_turn (seats_ord ox oy) (seats_ord oy ox) (seats_turn ox oy)]
theorem inv_rg (n : Nat) : invN (rg n) = 0 := by
  rw [inv_eq]
  unfold invF
  apply sumN_zero
  intro i hi
  apply sumN_zero
  intro j hj
  rw [rg_len] at hi hj
  have hi2 := rg_mem.mp hi
  have hj2 := rg_mem.mp hj
  have e : ∀ k : Int, k ∈ rg n → g0 (rg n) k = k := fun k hk => by
    have := rg_mem.mp hk
    have z : (rg n)[k.toNat]? = some k := by
      unfold rg
      rw [List.getElem?_map, List.getElem?_range (by omega)]
      show some ((k.toNat : Nat) : Int) = some k
      rw [Int.toNat_of_nonneg this.1]
    have z2 := g0_at z
    rw [Int.toNat_of_nonneg this.1] at z2
    exact z2
  rw [e i hi, e j hj]
  unfold ind
  by_cases c : i < j
  · have d : ¬ j < i := by omega
    simp [c, d]
  · simp [c]
theorem farSwap_self {n : Nat} {xs : List Int} (ox : IsOrd n xs) : farSwap xs xs = 0 := by
  unfold farSwap
  rw [seats_self ox, inv_rg]
  rfl
theorem farSpot_turn {xs ys : List Int} (h : xs.length = ys.length) : farSpot ys xs = farSpot xs ys := by
  unfold farSpot spotL
  rw [h]
  congr 3
  funext p
  congr 1
  by_cases c : g0 ys p = g0 xs p
  · rw [decide_eq_true c, decide_eq_true c.symm]
  · rw [decide_eq_false c, decide_eq_false fun e => c e.symm]
theorem farSpot_self (xs : List Int) : farSpot xs xs = 0 := by
  unfold farSpot spotL
  have e : ((rg xs.length).filter fun p => !decide (g0 xs p = g0 xs p)) = [] := by
    rw [List.filter_eq_nil_iff]
    intro a _
    simp
  rw [e]
  rfl
theorem gaps_len (xs ys : List Int) : (gapsL xs ys).length = xs.length := by
  unfold gapsL
  rw [List.length_map, rg_len]
theorem gaps_sub {n : Nat} {xs ys : List Int} (ox : IsOrd n xs) (oy : IsOrd n ys) : ∀ g ∈ gapsL ys xs, g ∈ gapsL xs ys := by
  intro g hg
  obtain ⟨u, hu, rfl⟩ := List.mem_map.mp hg
  rw [oy.len] at hu
  have hb := (seats_ord oy ox).mem (x := g0 (seatsL ys xs) u) (by
    have e := g0_ord (seats_ord oy ox)
    rw [e]
    exact List.mem_map.mpr ⟨u, hu, by rw [← e]⟩)
  refine List.mem_map.mpr ⟨g0 (seatsL ys xs) u, by rw [ox.len]; exact rg_mem.mpr hb, ?_⟩
  rw [seats_turn ox oy u hu]
  unfold absI
  split <;> split <;> omega
theorem farShift_turn {n : Nat} {xs ys : List Int} (ox : IsOrd n xs) (oy : IsOrd n ys) (hn : 1 ≤ n) : farShift ys xs = farShift xs ys := by
  unfold farShift
  obtain ⟨h1, h2⟩ := maxL_mem (gaps_nonneg xs ys) (by rw [gaps_len, ox.len]; exact hn)
  exact maxL_of (gaps_nonneg ys xs) (gaps_sub oy ox _ h1) fun x hx => h2 x (gaps_sub ox oy x hx)
theorem farShift_self {n : Nat} {xs : List Int} (ox : IsOrd n xs) (hn : 1 ≤ n) : farShift xs xs = 0 := by
  unfold farShift
  have z : ∀ g ∈ gapsL xs xs, g = 0 := by
    intro g hg
    obtain ⟨u, hu, rfl⟩ := List.mem_map.mp hg
    rw [ox.len] at hu
    have hb := rg_mem.mp hu
    rw [seats_self ox]
    have e : (rg n)[u.toNat]? = some u := by
      unfold rg
      rw [List.getElem?_map, List.getElem?_range (by omega)]
      show some ((u.toNat : Nat) : Int) = some u
      rw [Int.toNat_of_nonneg hb.1]
    have z2 := g0_at e
    rw [Int.toNat_of_nonneg hb.1] at z2
    rw [z2]
    unfold absI
    split <;> omega
  obtain ⟨h1, _⟩ := maxL_mem (gaps_nonneg xs xs) (by rw [gaps_len, ox.len]; exact hn)
  exact z _ h1
end Fo
namespace Fo
open PySem PySem.Spec PyProof.Rows L2
def farW (w : Str) (xs ys : List Int) : Int := if w = "swap" then farSwap xs ys else if w = "spot" then farSpot xs ys else farShift xs ys
theorem farW_swap (xs ys : List Int) : farW "swap" xs ys = farSwap xs ys := if_pos rfl
theorem farW_spot (xs ys : List Int) : farW "spot" xs ys = farSpot xs ys := by
  unfold farW
  rw [if_neg n1, if_pos rfl]
theorem farW_shift (xs ys : List Int) : farW "shift" xs ys = farShift xs ys := by
  unfold farW
  rw [if_neg n2, if_neg n3]
theorem farW_turn {w : Str} {n : Nat} {xs ys : List Int} (ox : IsOrd n xs) (oy : IsOrd n ys) (hn : 1 ≤ n) : farW w ys xs = farW w xs ys := by
  unfold farW
  rw [farSwap_turn ox oy, farSpot_turn (by rw [ox.len, oy.len]), farShift_turn ox oy hn]
theorem farW_self {w : Str} {n : Nat} {xs : List Int} (ox : IsOrd n xs) (hn : 1 ≤ n) : farW w xs xs = 0 := by
  unfold farW
  rw [farSwap_self ox, farSpot_self, farShift_self ox hn]
  split
  · rfl
  · split <;> rfl
abbrev rAbs : List V → Hp → VK → Prop := fun xs H Q => ∃ i, xs = [.int i] ∧ Q (.int (if i < 0 then -i else i)) H
def spFar : Sp := fun vs H Q _ => ∃ (w : Str) (a b : Addr) (n : Nat) (xs ys : List Int), vs = [.str w, .ref a, .ref b] ∧ IsWay w ∧ H a = some (.lst (xs.map V.int)) ∧ H b = some (.lst (ys.map V.int)) ∧ IsOrd n xs ∧ IsOrd n ys ∧ 1 ≤ n ∧ n ≤ 12 ∧ ∀ (H' : Hp), Same H H' → Q (.int (farW w xs ys)) H'
end Fo
namespace Fo
open PySem PySem.Spec PyProof.Rows L2
def two (vs : List V) (H : Hp) (a b : Addr) (n : Nat) (xs ys : List Int) : Prop := vs = [.ref a, .ref b] ∧ H a = some (.lst (xs.map V.int)) ∧ H b = some (.lst (ys.map V.int)) ∧ IsOrd n xs ∧ IsOrd n ys ∧ 1 ≤ n ∧ n ≤ 12
end Fo
namespace Fo
open PySem PySem.Spec PyProof.Rows L2
theorem g0_getD {s : List Int} {i : Nat} {x : Int} (h : s[i]? = some x) : g0 s i = x := g0_at h
def spSeats : Sp := fun vs H Q _ => ∃ (a b : Addr) (n : Nat) (xs ys : List Int), two vs H a b n xs ys ∧ ∀ (l : Addr) (H' : Hp), H l = none → H' l = some (.lst ((seatsL xs ys).map V.int)) → Same H H' → Q (.ref l) H'
section
variable {P : Program} {w : World} {K : PySem.W.Frag} {mg : Str → Option Value} {base : Heap}
theorem scSeats : FnScope ["one", "other", "places", "thing"] ["one", "other"] (defScope s_seats_in) := ⟨rfl, rfl, rfl, by decide +kernel, rfl, by decide +kernel, by decide +kernel⟩
set_option maxHeartbeats 2000000 in
theorem ok_seats {f fP : Addr} {fd fdP : FuncData} {k : Nat} (T : Df K mg "seats_in" s_seats_in ["one", "other"] f fd) (T_places_in : Df K mg "places_in" s_places_in ["order"] fP fdP) (B : Bi mg) : FnOk P w K mg base CX0 (k + 2) f fd ["one", "other"] spSeats := by
  have G_places_in : FnOk P w K mg base CX0 (k + 1) fP fdP ["order"] spPlaces := ok_places T_places_in B
  refine T.F.ok scSeats (fun vs H Q E h => ?_) (fun cdv A outer s H vs Q E hr h => ?_)
  · obtain ⟨a, b, n, xs, ys, ⟨rfl, _⟩, _⟩ := h
    rfl
  · obtain ⟨a, b, n, xs, ys, ⟨rfl, ha, hb, ox, oy, hn1, hn2⟩, q⟩ := h
    refine ⟨_, 
      (pss_cons (ps_set (i := 2) scSeats.nd rfl (.inr rfl) (pe_call G_places_in hr (by rfl) T_places_in.g T_places_in.F.kp T_places_in.b .nil pass0 (pa_cons (pv 1) pa_nil)))
      (pss_one (ps_ret (pe_lc (own := [("thing", 3)]) (g := (gName 3)) (tt := tYes) (te := (tOp (rIxL K) (tVar 2) (tVar 3))) rfl scSeats.nd (pi_list (pv 0)) (blkOk_by (N := ["one", "other", "places", "thing"]) (sc := defScope s_seats_in) (by decide +kernel)) (fun _ _ _ _ _ => (pg_name (i := 3) scSeats.nd rfl (.inl rfl))) (fun _ _ _ _ _ => pts_nil) (fun _ _ _ _ _ => (pe_ix ix_list (pv 2) (pv 3) (fun _ _ => rfl))))))), ?_⟩
    refine ⟨_, rfl, b, n, ys, rfl, hb, oy, hn1, hn2, fun ps l H1 hps nl hl s1 => ?_⟩
    refine ⟨_, rfl, a, rfl, ⟨_, SqL.of (s1 _ _ ha)⟩, fun D nD => ?_⟩
    have nHD : H D = none := s1.free nD
    refine lc_list (K := K) (a := a) (xs := xs.map V.int) (fun i H3 => H3 D = some (.lst (((seatsL xs ys).take i).map V.int)) ∧ H3 l = some (.lst (ps.map V.int)) ∧ Same H H3) ⟨upd_same, same_new nD _ _ hl, s1.trans (same_new nD)⟩ (fun i H3 _ hP => SqL.of (hP.2.2 _ _ ha)) (fun i x H3 hx hP => ?_) (fun H3 hP => ?_)
    · obtain ⟨y, ey, rfl⟩ := int_at_inv hx
      obtain ⟨hD3, hl3, sm⟩ := hP
      have hy := ox.mem (List.mem_of_getElem? ey)
      have hi := (List.getElem?_eq_some_iff.mp ey).1
      rw [ox.len] at hi
      refine ⟨rfl, _, rfl, _, rfl, l, _, _, _, rfl, rfl, SqL.of hl3, at_of (j := y.toNat) (by omega) (int_at (back_pos oy hps hy.1 hy.2)), _, hD3, line_lt (by rw [List.length_map, List.length_take]; omega), ?_, ?_, fun c o e => ?_⟩
      · rw [upd_same, take_more (seats_at ey), List.map_append]
        rfl
      · rw [upd_ne (ne_of_none hl nD)]
        exact hl3
      · rw [upd_ne (ne_of_none e nHD)]
        exact sm _ _ e
    · obtain ⟨hD3, hl3, sm⟩ := hP
      rw [List.take_of_length_le (by rw [seats_len, List.length_map]; exact Nat.le_refl _)] at hD3
      exact q D H3 nHD hD3 sm
end
end Fo
namespace Fo
open PySem PySem.Spec PyProof.Rows L2
def spSwap : Sp := fun vs H Q _ => ∃ (a b : Addr) (n : Nat) (xs ys : List Int), two vs H a b n xs ys ∧ ∀ (H' : Hp), Same H H' → Q (.int (farSwap xs ys)) H'
def spSpot : Sp := fun vs H Q _ => ∃ (a b : Addr) (n : Nat) (xs ys : List Int), two vs H a b n xs ys ∧ ∀ (H' : Hp), Same H H' → Q (.int (farSpot xs ys)) H'
def spShift : Sp := fun vs H Q _ => ∃ (a b : Addr) (n : Nat) (xs ys : List Int), two vs H a b n xs ys ∧ ∀ (H' : Hp), Same H H' → Q (.int (farShift xs ys)) H'
section
variable {P : Program} {w : World} {K : PySem.W.Frag} {mg : Str → Option Value} {base : Heap}
theorem scSwap : FnScope ["one", "other", "seats", "turned", "place", "seat", "later"] ["one", "other"] (defScope s_far_by_swap) := ⟨rfl, rfl, rfl, by decide +kernel, rfl, by decide +kernel, by decide +kernel⟩
set_option maxHeartbeats 2000000 in
theorem ok_swap {f fP : Addr} {fd fdP : FuncData} {k : Nat} (T : Df K mg "far_by_swap" s_far_by_swap ["one", "other"] f fd) (T_seats_in : Df K mg "seats_in" s_seats_in ["one", "other"] fP fdP) (G_seats_in : FnOk P w K mg base CX0 k fP fdP ["one", "other"] spSeats) (B : Bi mg) : FnOk P w K mg base CX0 (k + 1) f fd ["one", "other"] spSwap := by
  refine T.F.ok scSwap (fun vs H Q E h => ?_) (fun cdv A outer s H vs Q E hr h => ?_)
  · obtain ⟨a, b, n, xs, ys, ⟨rfl, _⟩, _⟩ := h
    rfl
  · obtain ⟨a, b, n, xs, ys, ⟨rfl, ha, hb, ox, oy, hn1, hn2⟩, q⟩ := h
    refine ⟨_, 
      (pss_cons (ps_set (i := 2) scSwap.nd rfl (.inl rfl) (pe_call G_seats_in hr (by rfl) T_seats_in.g T_seats_in.F.kp T_seats_in.b .nil pass0 (pa_cons (pv 0) (pa_cons (pv 1) pa_nil))))
      (pss_cons (ps_set (i := 3) scSwap.nd rfl (.inl rfl) pe_int)
      (pss_cons (ps_for PassesOwn.never rfl (pi_enum (by rfl) B.enumerate (pa_cons (pv 2) pa_nil)) (pg_tup (by rfl) (pgs_cons (pg_name (i := 4) scSwap.nd rfl (.inl rfl)) (pgs_cons (pg_name (i := 5) scSwap.nd rfl (.inr rfl)) pgs_nil)))
        (pss_one (ps_aug (i := 3) scSwap.nd rfl (.inl rfl) (pe_callB call_len_seq (by rfl) B.len PySem.boot_len (pa_cons (pe_lc (own := [("later", 6)]) (g := (gName 6)) (tt := (tTest (tOp (rI0 fun i j => .bl (decide (i < j))) (tVar 6) (tVar 5)))) (te := (tVar 6)) rfl scSwap.nd (pi_list (pe_slice sl_list (pv 2) (po_some (pe_op op_add (pv 4) pe_int)) po_none)) (blkOk_by (N := ["one", "other", "seats", "turned", "place", "seat", "later"]) (sc := defScope s_far_by_swap) (by decide +kernel)) (fun _ _ _ _ _ => (pg_name (i := 6) scSwap.nd rfl (.inl rfl))) (fun _ _ _ _ _ => (pts_one (pt_cmpR op_lt (pv 6) (pv 5) (nomark _)))) (fun _ _ _ _ _ => (pv 6))) pa_nil)) ip_add)))
      (pss_one (ps_ret (pv 3)))))), ?_⟩
    refine ⟨_, rfl, _, rfl, a, b, n, xs, ys, ⟨rfl, ha, hb, ox, oy, hn1, hn2⟩, fun l H1 nl hl s1 => ?_⟩
    have os := seats_ord ox oy
    refine ⟨_, rfl, l, _, rfl, SqL.of hl, ?_⟩
    refine for_enumL (xs := (seatsL xs ys).map V.int) (fun i σ H3 => ∃ (y4 y5 y6 : Option V), σ = [some (.ref a), some (.ref b), some (.ref l), some (.int ((sumN (rg i) (fun p => cntL (seatsL xs ys) p.toNat) : Nat) : Int)), y4, y5, y6] ∧ H3 l = some (.lst ((seatsL xs ys).map V.int)) ∧ Same H H3)
      ⟨none, none, none, rfl, hl, s1⟩ (fun i σ H3 hP => by obtain ⟨_, _, _, _, hl3, _⟩ := hP; exact SqL.of hl3) (fun i x t σ H3 hx hP nt => ?_) (fun σ H3 hP => ?_)
    · obtain ⟨y4, y5, y6, rfl, hl3, sm⟩ := hP
      obtain ⟨y, ey, rfl⟩ := int_at_inv hx
      have hi := (List.getElem?_eq_some_iff.mp ey).1
      rw [os.len] at hi
      have s3 := same_new (o := .tup [.int (i : Nat), .int y]) nt
      refine ⟨t, _, rfl, .inl (.inl upd_same), rfl, _, _, rfl, _, _, rfl, rfl, ?_⟩
      refine ⟨_, rfl, _, rfl, _, rfl, (i : Int), 1, rfl, rfl, _, rfl, l, _, rfl, SqL.of (s3 _ _ hl3), fun c nc => ?_⟩
      have s4 := s3.trans (same_new (o := .lst (cutV ((seatsL xs ys).map V.int) (some ((i : Int) + 1)) none)) nc)
      have ecut : cutV ((seatsL xs ys).map V.int) (some ((i : Int) + 1)) none = (((seatsL xs ys).drop (i + 1)).map V.int) := by
        rw [cut_ints, show (i : Int) + 1 = ((i + 1 : Nat) : Int) by omega, cutI_tail]
      have hc4 : (upd (upd H3 t (.tup [.int (i : Nat), .int y])) c (.lst (cutV ((seatsL xs ys).map V.int) (some ((i : Int) + 1)) none))) c = some (.lst (((seatsL xs ys).drop (i + 1)).map V.int)) := by rw [upd_same, ecut]
      refine ⟨c, rfl, ⟨_, SqL.of hc4⟩, fun D nD => ?_⟩
      have ncD : c ≠ D := ne_of_none hc4 nD
      refine lc_list (K := K) (a := c) (xs := ((seatsL xs ys).drop (i + 1)).map V.int) (fun m H5 => H5 D = some (.lst (((((seatsL xs ys).drop (i + 1)).take m).filter (fun z => decide (z < g0 (seatsL xs ys) i))).map V.int)) ∧ H5 c = some (.lst (((seatsL xs ys).drop (i + 1)).map V.int)) ∧ Same H3 H5)
        ⟨upd_same, by rw [upd_ne ncD]; exact hc4, s4.trans (same_new nD)⟩ (fun m H5 _ hP => SqL.of hP.2.1) (fun m x H5 hx hP => ?_) (fun H5 hP => ?_)
      · obtain ⟨hD5, hc5, s5⟩ := hP
        obtain ⟨z, ez, rfl⟩ := int_at_inv hx
        have eg : g0 (seatsL xs ys) i = y := g0_at ey
        refine ⟨rfl, _, rfl, _, rfl, z, y, rfl, rfl, _, rfl, ite2 (fun c => ?_) (fun c => ?_)⟩
        · have hz : z < y := of_decide_eq_true c
          refine ⟨_, rfl, _, hD5, line_lt ?_, ?_, by rw [upd_ne ncD]; exact hc5, fun u o e => ?_⟩
          · rw [List.length_map]
            refine Nat.lt_of_le_of_lt (List.length_filter_le _ _) ?_
            rw [List.length_take, List.length_drop, os.len]
            omega
          · rw [upd_same, filter_more _ ez, eg, decide_eq_true hz, if_pos rfl, List.map_append]
            rfl
          · rw [upd_ne (ne_of_none (s4 _ _ e) nD)]
            exact s5 _ _ e
        · refine ⟨?_, hc5, s5⟩
          rw [filter_more _ ez, eg, decide_eq_false (fun hz => c (decide_eq_true hz)), if_neg (by decide), List.append_nil]
          rw [eg] at hD5
          exact hD5
      · obtain ⟨hD5, hc5, s5⟩ := hP
        rw [List.length_map, List.take_length] at hD5
        refine ⟨D, _, rfl, .inl (SqL.of hD5), _, _, rfl, rfl, ?_⟩
        refine ⟨some (.int (i : Int)), some (.int y), y6, ?_, s5 _ _ hl3, sm.trans s5⟩
        rw [rg_succ, sumN_append, sumN_cons, sumN_nil, List.length_map]
        show [some (.ref a), some (.ref b), some (.ref l), some (V.int (((sumN (rg i) (fun p => cntL (seatsL xs ys) p.toNat) : Nat) : Int) + ((cntL (seatsL xs ys) i : Nat) : Int))), some (.int (i : Int)), some (.int y), y6] = _
        rw [Int.toNat_natCast, Int.natCast_add, Nat.add_zero]
    · obtain ⟨y4, y5, y6, rfl, hl3, sm⟩ := hP
      refine ⟨_, rfl, ?_⟩
      have z := q H3 sm
      unfold farSwap invN at z
      rw [List.length_map]
      exact z
theorem scSpot : FnScope ["one", "other", "place"] ["one", "other"] (defScope s_far_by_spot) := ⟨rfl, rfl, rfl, by decide +kernel, rfl, by decide +kernel, by decide +kernel⟩
set_option maxHeartbeats 2000000 in
theorem ok_spot {f : Addr} {fd : FuncData} {k : Nat} (T : Df K mg "far_by_spot" s_far_by_spot ["one", "other"] f fd) (B : Bi mg) : FnOk P w K mg base CX0 (k + 1) f fd ["one", "other"] spSpot := by
  refine T.F.ok scSpot (fun vs H Q E h => ?_) (fun cdv A outer s H vs Q E hr h => ?_)
  · obtain ⟨a, b, n, xs, ys, ⟨rfl, _⟩, _⟩ := h
    rfl
  · obtain ⟨a, b, n, xs, ys, ⟨rfl, ha, hb, ox, oy, hn1, hn2⟩, q⟩ := h
    have hxl : (xs.map V.int).length = n := by rw [List.length_map, ox.len]
    refine ⟨_, 
      (pss_one (ps_ret (pe_callB call_len_seq (by rfl) B.len PySem.boot_len (pa_cons (pe_lc (own := [("place", 2)]) (g := (gName 2)) (tt := (tTest (tOp rNe (tOp (rIxL K) (tVar 0) (tVar 2)) (tOp (rIxL K) (tVar 1) (tVar 2))))) (te := (tVar 2)) rfl scSpot.nd (pi_range1 (by rfl) B.range (pa_cons (pe_callB call_len_seq (by rfl) B.len PySem.boot_len (pa_cons (pv 0) pa_nil)) pa_nil)) (blkOk_by (N := ["one", "other", "place"]) (sc := defScope s_far_by_spot) (by decide +kernel)) (fun _ _ _ _ _ => (pg_name (i := 2) scSpot.nd rfl (.inl rfl))) (fun _ _ _ _ _ => (pts_one (pt_cmpR op_ne (pe_ix ix_list (pv 0) (pv 2) (fun _ _ => rfl)) (pe_ix ix_list (pv 1) (pv 2) (fun _ _ => rfl)) (nomark _)))) (fun _ _ _ _ _ => (pv 2))) pa_nil)))), ?_⟩
    refine ⟨_, rfl, a, _, rfl, .inl (SqL.of ha), _, rfl, by omega, by rw [hxl]; omega, fun D nD => ?_⟩
    rw [hxl, Int.toNat_natCast]
    refine lc_range (lo := 0) (n := n) (fun m H3 => H3 D = some (.lst (((rg m).filter (fun p => !decide (g0 xs p = g0 ys p))).map V.int)) ∧ Same H H3) ⟨upd_same, same_new nD⟩ (fun m H3 hm hP => ?_) (fun H3 hP => ?_)
    · obtain ⟨hD3, sm⟩ := hP
      obtain ⟨x, ex, _⟩ := ord_ix ox hm
      obtain ⟨y, ey, _⟩ := ord_ix oy hm
      have gx : g0 xs (m : Int) = x := g0_at ex
      have gy : g0 ys (m : Int) = y := g0_at ey
      have fm : ((rg (m + 1)).filter fun p => !decide (g0 xs p = g0 ys p)) = ((rg m).filter fun p => !decide (g0 xs p = g0 ys p)) ++ (if x = y then [] else [(m : Int)]) := by
        rw [rg_succ, List.filter_append, List.filter_cons, gx, gy]
        congr 1
        by_cases c : x = y
        · simp [c]
        · simp [c]
      refine ⟨rfl, _, rfl, _, rfl, a, _, _, _, rfl, rfl, SqL.of (sm _ _ ha), at_of (j := m) (by omega) (int_at ex), _, rfl, _, rfl, b, _, _, _, rfl, rfl, SqL.of (sm _ _ hb), at_of (j := m) (by omega) (int_at ey), rfl, _, rfl, ?_⟩
      by_cases c : x = y
      · subst c
        refine iteNS rfl ⟨?_, sm⟩
        rw [fm, if_pos rfl, List.append_nil]
        exact hD3
      · rw [decide_eq_false (fun e => c (V.int.inj e))]
        refine iteT ⟨_, rfl, _, hD3, line_lt ?_, ?_, fun u o e => ?_⟩
        · rw [List.length_map]
          refine Nat.lt_of_le_of_lt (List.length_filter_le _ _) ?_
          rw [rg_len]
          omega
        · rw [upd_same, fm, if_neg c, List.map_append, Int.zero_add]
          rfl
        · rw [upd_ne (ne_of_none e nD)]
          exact sm _ _ e
    · obtain ⟨hD3, sm⟩ := hP
      refine ⟨D, _, rfl, .inl (SqL.of hD3), ?_⟩
      have z := q H3 sm
      unfold farSpot spotL at z
      rw [ox.len] at z
      rw [List.length_map]
      exact z
theorem scShift : FnScope ["one", "other", "place", "seat"] ["one", "other"] (defScope s_far_by_shift) := ⟨rfl, rfl, rfl, by decide +kernel, rfl, by decide +kernel, by decide +kernel⟩
set_option maxHeartbeats 2000000 in
theorem ok_shift {f fP : Addr} {fd fdP : FuncData} {k : Nat} (T : Df K mg "far_by_shift" s_far_by_shift ["one", "other"] f fd) (T_seats_in : Df K mg "seats_in" s_seats_in ["one", "other"] fP fdP) (G_seats_in : FnOk P w K mg base CX0 k fP fdP ["one", "other"] spSeats) (B : Bi mg) : FnOk P w K mg base CX0 (k + 1) f fd ["one", "other"] spShift := by
  refine T.F.ok scShift (fun vs H Q E h => ?_) (fun cdv A outer s H vs Q E hr h => ?_)
  · obtain ⟨a, b, n, xs, ys, ⟨rfl, _⟩, _⟩ := h
    rfl
  · obtain ⟨a, b, n, xs, ys, ⟨rfl, ha, hb, ox, oy, hn1, hn2⟩, q⟩ := h
    refine ⟨_, 
      (pss_one (ps_ret (pe_callB (cr_max rfl) (by rfl) B.max (by decide +kernel) (pa_cons (pe_lc (own := [("place", 2), ("seat", 3)]) (g := (gTup K 2 (gCons (gName 2) (gCons (gName 3) gNil)))) (tt := tYes) (te := (tCB rAbs (tCons (tOp (rI0 fun i j => .int (i - j)) (tVar 2) (tVar 3)) tNil))) rfl scShift.nd (pi_enum (by rfl) B.enumerate (pa_cons (pe_call G_seats_in hr (by rfl) T_seats_in.g T_seats_in.F.kp T_seats_in.b .nil pass0 (pa_cons (pv 0) (pa_cons (pv 1) pa_nil))) pa_nil)) (blkOk_by (N := ["one", "other", "place", "seat"]) (sc := defScope s_far_by_shift) (by decide +kernel)) (fun _ _ _ _ _ => (pg_tup (by rfl) (pgs_cons (pg_name (i := 2) scShift.nd rfl (.inl rfl)) (pgs_cons (pg_name (i := 3) scShift.nd rfl (.inl rfl)) pgs_nil)))) (fun _ _ _ _ _ => pts_nil) (fun _ _ _ _ _ => (pe_callB call_abs (by rfl) B.abs (by decide +kernel) (pa_cons (pe_op op_sub (pv 2) (pv 3)) pa_nil)))) pa_nil)))), ?_⟩
    have os := seats_ord ox oy
    refine ⟨_, rfl, _, rfl, a, b, n, xs, ys, ⟨rfl, ha, hb, ox, oy, hn1, hn2⟩, fun l H1 nl hl s1 => ?_⟩
    refine ⟨l, _, rfl, SqL.of hl, fun D nD => ?_⟩
    have nlD : l ≠ D := ne_of_none hl nD
    have nHD : H D = none := s1.free nD
    refine lc_enumL (K := K) (a := l) (xs := (seatsL xs ys).map V.int) (fun m H3 => H3 D = some (.lst (((gapsL xs ys).take m).map V.int)) ∧ H3 l = some (.lst ((seatsL xs ys).map V.int)) ∧ Same H H3) ⟨upd_same, by rw [upd_ne nlD]; exact hl, s1.trans (same_new nD)⟩ (fun m H3 _ hP => SqL.of hP.2.1) (fun m x t H3 hx hP nt => ?_) (fun H3 hP => ?_)
    · obtain ⟨hD3, hl3, sm⟩ := hP
      obtain ⟨y, ey, rfl⟩ := int_at_inv hx
      have hi := (List.getElem?_eq_some_iff.mp ey).1
      rw [os.len] at hi
      have s3 := same_new (o := .tup [.int (m : Nat), .int y]) nt
      have eg : (gapsL xs ys)[m]? = some (absI ((m : Int) - y)) := by
        unfold gapsL rg
        rw [List.map_map, List.getElem?_map, List.getElem?_range (by rw [ox.len]; exact hi)]
        show some (absI ((m : Int) - g0 (seatsL xs ys) (m : Int))) = _
        rw [g0_at ey]
      refine ⟨t, _, rfl, .inl (.inl upd_same), rfl, _, _, rfl, _, _, rfl, rfl, rfl, ?_⟩
      refine ⟨_, rfl, _, rfl, (m : Int), y, rfl, rfl, _, rfl, _, s3 _ _ hD3, line_lt (by rw [List.length_map, List.length_take, gaps_len, ox.len]; omega), ?_, ?_, fun u o e => ?_⟩
      · rw [upd_same, take_more eg, List.map_append]
        rfl
      · rw [upd_ne nlD]
        exact s3 _ _ hl3
      · rw [upd_ne (ne_of_none e nHD)]
        exact s3 _ _ (sm _ _ e)
    · obtain ⟨hD3, hl3, sm⟩ := hP
      rw [List.take_of_length_le (by rw [gaps_len, List.length_map, seats_len]; exact Nat.le_refl _)] at hD3
      refine ⟨D, gapsL xs ys, rfl, SqL.of hD3, by rw [gaps_len, ox.len]; exact hn1, fun m hm hle => ?_⟩
      have e : farShift xs ys = m := maxL_of (gaps_nonneg xs ys) hm hle
      rw [← e]
      exact q H3 sm
theorem scKnown : FnScope ["way", "one", "other"] ["way", "one", "other"] (defScope s_known_far) := ⟨rfl, rfl, rfl, by decide +kernel, rfl, by decide +kernel, by decide +kernel⟩
theorem ok_known {f f4 f5 f6 : Addr} {fd d4 d5 d6 : FuncData} {k : Nat} (T : Df K mg "known_far" s_known_far ["way", "one", "other"] f fd) (T_far_by_swap : Df K mg "far_by_swap" s_far_by_swap ["one", "other"] f4 d4) (T_far_by_spot : Df K mg "far_by_spot" s_far_by_spot ["one", "other"] f5 d5) (T_far_by_shift : Df K mg "far_by_shift" s_far_by_shift ["one", "other"] f6 d6)
    (G_far_by_swap : FnOk P w K mg base CX0 k f4 d4 ["one", "other"] spSwap) (G_far_by_spot : FnOk P w K mg base CX0 k f5 d5 ["one", "other"] spSpot) (G_far_by_shift : FnOk P w K mg base CX0 k f6 d6 ["one", "other"] spShift) :
    FnOk P w K mg base CX0 (k + 1) f fd ["way", "one", "other"] spFar := by
  refine T.F.ok scKnown (fun vs H Q E h => ?_) (fun cdv A outer s H vs Q E hr h => ?_)
  · obtain ⟨z, a, b, n, xs, ys, rfl, _⟩ := h
    rfl
  · obtain ⟨z, a, b, n, xs, ys, rfl, hz, ha, hb, ox, oy, hn1, hn2, q⟩ := h
    refine ⟨_, 
      (pss_cons (ps_if (pt_cmpR op_eq (pv 0) pe_str (nomark _))
        (pss_one (ps_ret (pe_call G_far_by_swap hr (by rfl) T_far_by_swap.g T_far_by_swap.F.kp T_far_by_swap.b .nil pass0 (pa_cons (pv 1) (pa_cons (pv 2) pa_nil)))))
        pss_nil)
      (pss_cons (ps_if (pt_cmpR op_eq (pv 0) pe_str (nomark _))
        (pss_one (ps_ret (pe_call G_far_by_spot hr (by rfl) T_far_by_spot.g T_far_by_spot.F.kp T_far_by_spot.b .nil pass0 (pa_cons (pv 1) (pa_cons (pv 2) pa_nil)))))
        pss_nil)
      (pss_one (ps_ret (pe_call G_far_by_shift hr (by rfl) T_far_by_shift.g T_far_by_shift.F.kp T_far_by_shift.b .nil pass0 (pa_cons (pv 1) (pa_cons (pv 2) pa_nil))))))), ?_⟩
    rcases hz with rfl | rfl | rfl
    · refine ⟨_, rfl, rfl, _, rfl, ite2 (fun _ => ?_) (fun c => absurd (by decide +kernel) c)⟩
      exact ⟨_, rfl, _, rfl, a, b, n, xs, ys, ⟨rfl, ha, hb, ox, oy, hn1, hn2⟩, fun H2 s2 => by rw [← farW_swap]; exact q H2 s2⟩
    · refine ⟨_, rfl, rfl, _, rfl, ite2 (fun c => absurd c (by decide +kernel)) (fun _ => ?_)⟩
      refine ⟨_, rfl, rfl, _, rfl, ite2 (fun _ => ?_) (fun c => absurd (by decide +kernel) c)⟩
      exact ⟨_, rfl, _, rfl, a, b, n, xs, ys, ⟨rfl, ha, hb, ox, oy, hn1, hn2⟩, fun H2 s2 => by rw [← farW_spot]; exact q H2 s2⟩
    · refine ⟨_, rfl, rfl, _, rfl, ite2 (fun c => absurd c (by decide +kernel)) (fun _ => ?_)⟩
      refine ⟨_, rfl, rfl, _, rfl, ite2 (fun c => absurd c (by decide +kernel)) (fun _ => ?_)⟩
      exact ⟨_, rfl, _, rfl, a, b, n, xs, ys, ⟨rfl, ha, hb, ox, oy, hn1, hn2⟩, fun H2 s2 => by rw [← farW_shift]; exact q H2 s2⟩
end
end Fo
namespace Fo
open PySem PySem.Spec PyProof.Rows L2
section
variable {P : Program} {w : World} {K : PySem.W.Frag} {mg : Str → Option Value} {base : Heap}
theorem scFar : FnScope ["way", "one", "other"] ["way", "one", "other"] (defScope s_how_far) := ⟨rfl, rfl, rfl, by decide +kernel, rfl, by decide +kernel, by decide +kernel⟩
theorem ok_far {f f1 f2 f3 f4 : Addr} {fd d1 d2 d3 d4 : FuncData} {k : Nat} (T : Df K mg "how_far" s_how_far ["way", "one", "other"] f fd) (T_check_orders : Df K mg "check_orders" s_check_orders ["one", "other"] f1 d1) (T_check_way : Df K mg "check_way" s_check_way ["thing"] f2 d2) (T_check_fit : Df K mg "check_fit" s_check_fit ["one", "other"] f3 d3) (T_known_far : Df K mg "known_far" s_known_far ["way", "one", "other"] f4 d4)
    (G_check_orders : FnOk P w K mg base CX0 k f1 d1 ["one", "other"] spChecks) (G_check_way : FnOk P w K mg base CX0 k f2 d2 ["thing"] spWay) (G_check_fit : FnOk P w K mg base CX0 k f3 d3 ["one", "other"] spFit) (G_known_far : FnOk P w K mg base CX0 k f4 d4 ["way", "one", "other"] spFar) :
    FnOk P w K mg base CX0 (k + 1) f fd ["way", "one", "other"] spFar := by
  refine T.F.ok scFar (fun vs H Q E h => ?_) (fun cdv A outer s H vs Q E hr h => ?_)
  · obtain ⟨z, a, b, n, xs, ys, rfl, _⟩ := h
    rfl
  · obtain ⟨z, a, b, n, xs, ys, rfl, hz, ha, hb, ox, oy, hn1, hn2, q⟩ := h
    refine ⟨_, 
      (pss_cons (ps_expr (pe_call G_check_orders hr (by rfl) T_check_orders.g T_check_orders.F.kp T_check_orders.b .nil pass0 (pa_cons (pv 1) (pa_cons (pv 2) pa_nil))))
      (pss_cons (ps_expr (pe_call G_check_way hr (by rfl) T_check_way.g T_check_way.F.kp T_check_way.b .nil pass0 (pa_cons (pv 0) pa_nil)))
      (pss_cons (ps_expr (pe_call G_check_fit hr (by rfl) T_check_fit.g T_check_fit.F.kp T_check_fit.b .nil pass0 (pa_cons (pv 1) (pa_cons (pv 2) pa_nil))))
      (pss_one (ps_ret (pe_call G_known_far hr (by rfl) T_known_far.g T_known_far.F.kp T_known_far.b .nil pass0 (pa_cons (pv 0) (pa_cons (pv 1) (pa_cons (pv 2) pa_nil))))))))), ?_⟩
    refine ⟨_, rfl, _, rfl, a, b, n, n, xs, ys, rfl, ha, hb, ox, hn1, hn2, oy, hn1, hn2, fun H1 s1 => ?_⟩
    refine ⟨_, rfl, z, rfl, hz, ?_⟩
    refine ⟨_, rfl, _, rfl, a, b, xs, ys, rfl, s1 _ _ ha, s1 _ _ hb, by rw [ox.len, oy.len], ?_⟩
    exact ⟨_, rfl, _, rfl, _, rfl, z, a, b, n, xs, ys, rfl, hz, s1 _ _ ha, s1 _ _ hb, ox, oy, hn1, hn2, fun H2 s2 => q H2 (s1.trans s2)⟩
end
end Fo
namespace Fo
open PySem PySem.Spec PyProof.Rows L2
/-- where a thing stands in an order -/
theorem idx_read {K : PySem.W.Frag} {H : Hp} {a : Addr} {n : Nat} {ys : List Int} {x : Int} {Q : VK} (o : IsOrd n ys) (h : H a = some (.lst (ys.map V.int))) (x0 : 0 ≤ x) (x1 : x < n) (q : Q (.int (pos ys x)) H) : rIndex K (.ref a) [.int x] H Q := by
  obtain ⟨j, hj, ej, pj⟩ := pos_at o x0 x1
  refine ⟨a, _, _, j, _, rfl, rfl, SqL.of h, rfl, flat_ints ys, int_at ej, ?_, fun u z' hu hz' => ?_, ?_⟩
  · show (x == x) = true
    exact beq_self_eq_true _
  · obtain ⟨y, ey, rfl⟩ := int_at_inv hz'
    show (y == x) = false
    rw [beq_eq_false_iff_ne]
    intro e
    subst e
    exact absurd (nd_ix o.nodup ey ej) (by omega)
  · rw [← pj]
    exact q
theorem idx_facts {n : Nat} {ys : List Int} {x : Int} (o : IsOrd n ys) (x0 : 0 ≤ x) (x1 : x < n) : ∃ j : Nat, (ys.map V.int)[j]? = some (V.int x) ∧ eqV (V.int x) (V.int x) = true ∧ (∀ (m : Nat) (z' : V), m < j → (ys.map V.int)[m]? = some z' → eqV z' (V.int x) = false) ∧ ((j : Nat) : Int) = pos ys x := by
  obtain ⟨j, hj, ej, pj⟩ := pos_at o x0 x1
  refine ⟨j, int_at ej, ?_, fun u z' hu hz' => ?_, pj.symm⟩
  · show (x == x) = true
    exact beq_self_eq_true _
  · obtain ⟨y, ey, rfl⟩ := int_at_inv hz'
    show (y == x) = false
    rw [beq_eq_false_iff_ne]
    intro e
    subst e
    exact absurd (nd_ix o.nodup ey ej) (by omega)
end Fo
namespace Fo
open PySem PySem.Spec PyProof.Rows L2
theorem h12 : ¬ (("swap" : Str) = "spot") := by decide +kernel
theorem h13 : ¬ (("swap" : Str) = "shift") := by decide +kernel
theorem h23 : ¬ (("spot" : Str) = "shift") := by decide +kernel
theorem val3 (x y z : V) {w : Str} (h : IsWay w) : valV (mergeK [] [((.inr "swap" : Key), x), (.inr "spot", y), (.inr "shift", z)]) (.inr w) = some (if w = "swap" then x else if w = "spot" then y else z) := by
  have e : mergeK [] [((.inr "swap" : Key), x), (.inr "spot", y), (.inr "shift", z)] = [((.inr "swap" : Key), x), (.inr "spot", y), (.inr "shift", z)] := by
    simp [mergeK, putK, h12, h13, h23]
  rw [e]
  rcases h with rfl | rfl | rfl
  · rw [valV_pos rfl, if_pos rfl]
  · rw [valV_neg (fun q => h12 (Sum.inr.inj q)), valV_pos rfl, if_neg n1, if_pos rfl]
  · rw [valV_neg (fun q => h13 (Sum.inr.inj q)), valV_neg (fun q => h23 (Sum.inr.inj q)), valV_pos rfl, if_neg n2, if_neg n3]
def spDue : Sp := fun vs H Q _ => ∃ (a b : Addr) (n : Nat) (xs ys : List Int), two vs H a b n xs ys ∧ ∀ (d : Addr) (kvs : List (Key × V)) (H' : Hp), H' d = some (.dK kvs) → (∀ w, IsWay w → valV kvs (.inr w) = some (.int (farW w xs ys))) → Same H H' → Q (.ref d) H'
def spLaw (K : PySem.W.Frag) : Sp := fun vs H Q _ => ∃ (a : Addr) (ns : List Int), vs = [.ref a] ∧ SqL K H a (ns.map V.int) ∧ ns.length ≤ 63 ∧ ∀ H', Q (.bl true) H'
theorem sum_ind (l : List Int) (p : Int → Bool) : (l.map fun x => if p x then (1 : Int) else 0).sum = (((l.filter p).length : Nat) : Int) := by
  induction l with
  | nil => rfl
  | cons a l ih =>
    rw [List.map_cons, List.sum_cons, ih, List.filter_cons]
    cases p a
    · simp
    · simp
      omega
section
variable {P : Program} {w : World} {K : PySem.W.Frag} {mg : Str → Option Value} {base : Heap}
theorem scDue : FnScope ["one", "other", "n", "swap", "p", "q", "spot", "shift"] ["one", "other"] (defScope s_law_due) := ⟨rfl, rfl, rfl, by decide +kernel, rfl, by decide +kernel, by decide +kernel⟩
set_option maxHeartbeats 4000000 in
theorem ok_due {f : Addr} {fd : FuncData} {k : Nat} (T : Df K mg "_law_due" s_law_due ["one", "other"] f fd) (B : Bi mg) : FnOk P w K mg base CX0 (k + 1) f fd ["one", "other"] spDue := by
  refine T.F.ok scDue (fun vs H Q E h => ?_) (fun cdv A outer s H vs Q E hr h => ?_)
  · obtain ⟨a, b, n, xs, ys, ⟨rfl, _⟩, _⟩ := h
    rfl
  · obtain ⟨a, b, n, xs, ys, ⟨rfl, ha, hb, ox, oy, hn1, hn2⟩, q⟩ := h
    have hxl : (xs.map V.int).length = n := by rw [List.length_map, ox.len]
    have os := seats_ord ox oy
    refine ⟨_, 
      (pss_cons (ps_set (i := 2) scDue.nd rfl (.inl rfl) (pe_callB call_len_seq (by rfl) B.len PySem.boot_len (pa_cons (pv 0) pa_nil)))
      (pss_cons (ps_set (i := 3) scDue.nd rfl (.inl rfl) pe_int)
      (pss_cons (ps_for PassesOwn.never rfl (pi_range1 (by rfl) B.range (pa_cons (pv 2) pa_nil)) (pg_name (i := 4) scDue.nd rfl (.inl rfl))
        (pss_one (ps_for PassesOwn.never rfl (pi_range2 (by rfl) B.range (pa_cons (pe_op op_add (pv 4) pe_int) (pa_cons (pv 2) pa_nil))) (pg_name (i := 5) scDue.nd rfl (.inl rfl))
          (pss_one (ps_set (i := 3) scDue.nd rfl (.inl rfl) (pe_op op_add (pv 3) (pe_callTy call_int1 (by rfl) B.int (by decide +kernel) (pa_cons (pe_cmpR op_gt (pe_bm PySem.F.plainAttrs_list PySem.F.slot_list_index PySem.F.type_list_index mt_index (pv 1) (pa_cons (pe_ix ix_list (pv 0) (pv 4) (fun _ _ => rfl)) pa_nil)) (pe_bm PySem.F.plainAttrs_list PySem.F.slot_list_index PySem.F.type_list_index mt_index (pv 1) (pa_cons (pe_ix ix_list (pv 0) (pv 5) (fun _ _ => rfl)) pa_nil)) (nomark _)) pa_nil))))))))
      (pss_cons (ps_set (i := 6) scDue.nd rfl (.inl rfl) (pe_callB (cr_sum rfl) (by rfl) B.sum (by decide +kernel) (pa_cons (pe_lc (own := [("p", 4)]) (g := (gName 4)) (tt := tYes) (te := (tCB rInt1 (tCons (tOp rNe (tOp (rIxL K) (tVar 0) (tVar 4)) (tOp (rIxL K) (tVar 1) (tVar 4))) tNil))) rfl scDue.nd (pi_range1 (by rfl) B.range (pa_cons (pv 2) pa_nil)) (blkOk_by (N := ["one", "other", "n", "swap", "p", "q", "spot", "shift"]) (sc := defScope s_law_due) (by decide +kernel)) (fun _ _ _ _ _ => (pg_name (i := 4) scDue.nd rfl (.inl rfl))) (fun _ _ _ _ _ => pts_nil) (fun _ _ _ _ _ => (pe_callTy call_int1 (by rfl) B.int (by decide +kernel) (pa_cons (pe_cmpR op_ne (pe_ix ix_list (pv 0) (pv 4) (fun _ _ => rfl)) (pe_ix ix_list (pv 1) (pv 4) (fun _ _ => rfl)) (nomark _)) pa_nil)))) pa_nil)))
      (pss_cons (ps_set (i := 7) scDue.nd rfl (.inl rfl) (pe_callB (cr_max rfl) (by rfl) B.max (by decide +kernel) (pa_cons (pe_lc (own := [("p", 4)]) (g := (gName 4)) (tt := tYes) (te := (tCB rMax2 (tCons (tOp (rI0 fun i j => .int (i - j)) (tVar 4) (tBM K "list" (rIndex K) (tVar 1) (tCons (tOp (rIxL K) (tVar 0) (tVar 4)) tNil))) (tCons (tOp (rI0 fun i j => .int (i - j)) (tBM K "list" (rIndex K) (tVar 1) (tCons (tOp (rIxL K) (tVar 0) (tVar 4)) tNil)) (tVar 4)) tNil)))) rfl scDue.nd (pi_range1 (by rfl) B.range (pa_cons (pv 2) pa_nil)) (blkOk_by (N := ["one", "other", "n", "swap", "p", "q", "spot", "shift"]) (sc := defScope s_law_due) (by decide +kernel)) (fun _ _ _ _ _ => (pg_name (i := 4) scDue.nd rfl (.inl rfl))) (fun _ _ _ _ _ => pts_nil) (fun _ _ _ _ _ => (pe_callB (call_max2 rfl) (by rfl) B.max (by decide +kernel) (pa_cons (pe_op op_sub (pv 4) (pe_bm PySem.F.plainAttrs_list PySem.F.slot_list_index PySem.F.type_list_index mt_index (pv 1) (pa_cons (pe_ix ix_list (pv 0) (pv 4) (fun _ _ => rfl)) pa_nil))) (pa_cons (pe_op op_sub (pe_bm PySem.F.plainAttrs_list PySem.F.slot_list_index PySem.F.type_list_index mt_index (pv 1) (pa_cons (pe_ix ix_list (pv 0) (pv 4) (fun _ _ => rfl)) pa_nil)) (pv 4)) pa_nil))))) pa_nil)))
      (pss_one (ps_ret (pe_disp (pps_cons pe_str (pv 3) (pps_cons pe_str (pv 6) (pps_cons pe_str (pv 7) pps_nil))) (by rfl) (by rfl) (fun z => by cases z) (by decide))))))))), ?_⟩
    refine ⟨_, rfl, a, _, rfl, .inl (SqL.of ha), ?_⟩
    -- the pairs
    refine ⟨_, rfl, _, rfl, by omega, by rw [hxl]; omega, ?_⟩
    rw [hxl, Int.toNat_natCast]
    refine for_range (n := n) (fun i σ H3 => ∃ (y4 y5 : Option V), σ = [some (.ref a), some (.ref b), some (.int n), some (.int ((sumN (rg i) (fun p => cntL (seatsL xs ys) p.toNat) : Nat) : Int)), y4, y5, none, none] ∧ H3 = H)
      ⟨none, none, rfl, rfl⟩ (fun i σ H3 hi hP => ?_) (fun σ H3 hP => ?_)
    · obtain ⟨y4, y5, rfl, rfl⟩ := hP
      obtain ⟨x, ex, x0, x1⟩ := ord_ix ox hi
      have es : (seatsL xs ys)[i]? = some (pos ys x) := seats_at ex
      have eg : g0 (seatsL xs ys) i = pos ys x := g0_at es
      refine ⟨_, rfl, (0 + (i : Int)), 1, rfl, rfl, _, rfl, _, _, rfl, ⟨by omega, by omega, by omega, by omega⟩, ?_⟩
      refine for_range (lo := 0 + (i : Int) + 1) (n := ((n : Int) - (0 + (i : Int) + 1)).toNat) (fun m σ H4 => ∃ (y5 : Option V), σ = [some (.ref a), some (.ref b), some (.int n), some (.int (((sumN (rg i) (fun p => cntL (seatsL xs ys) p.toNat) : Nat) : Int) + ((((((seatsL xs ys).drop (i + 1)).take m).filter (fun z => decide (z < g0 (seatsL xs ys) i))).length : Nat) : Int))), some (.int (0 + (i : Int))), y5, none, none] ∧ H4 = H3)
        ⟨y5, by rw [List.take_zero, List.filter_nil]; show _ = [_, _, _, some (V.int (_ + 0)), _, _, _, _]; rw [Int.add_zero]; rfl, rfl⟩ (fun m σ H4 hm hP => ?_) (fun σ H4 hP => ?_)
      · obtain ⟨z5, rfl, rfl⟩ := hP
        obtain ⟨y, ey, y0, y1⟩ := ord_ix ox (j := i + 1 + m) (by omega)
        have et : ((seatsL xs ys).drop (i + 1))[m]? = some (pos ys y) := by rw [List.getElem?_drop]; exact seats_at ey
        refine ⟨_, rfl, _, rfl, .inl ⟨rfl, _, SqL.of hb⟩, _, rfl, _, rfl, a, _, _, _, rfl, rfl, SqL.of ha, at_of (j := i) (by omega) (int_at ex), ?_⟩
        obtain ⟨j1, a1, b1, c1, p1⟩ := idx_facts oy x0 x1
        refine ⟨b, _, _, j1, _, rfl, rfl, SqL.of hb, rfl, flat_ints ys, a1, b1, c1, ?_⟩
        rw [p1]
        refine ⟨_, rfl, .inl ⟨rfl, _, SqL.of hb⟩, _, rfl, _, rfl, a, _, _, _, rfl, rfl, SqL.of ha, at_of (j := i + 1 + m) (by omega) (int_at ey), ?_⟩
        obtain ⟨j2, a2, b2, c2, p2⟩ := idx_facts oy y0 y1
        refine ⟨b, _, _, j2, _, rfl, rfl, SqL.of hb, rfl, flat_ints ys, a2, b2, c2, ?_⟩
        rw [p2]
        refine ⟨_, _, rfl, rfl, .inr ⟨_, rfl, _, _, rfl, rfl, some (.int (0 + (i : Int) + 1 + m)), ?_, rfl⟩⟩
        rw [filter_more _ et, eg, List.length_append, Int.natCast_add, Int.add_assoc]
        by_cases c : pos ys y < pos ys x
        · rw [decide_eq_true c, if_pos rfl, if_pos rfl]
          rfl
        · rw [decide_eq_false c, if_neg (by decide), if_neg (by decide)]
          rfl
      · obtain ⟨z5, rfl, rfl⟩ := hP
        refine ⟨some (.int (0 + (i : Int))), z5, ?_, rfl⟩
        rw [List.take_of_length_le (by rw [List.length_drop, os.len]; omega), rg_succ, sumN_append, sumN_cons, sumN_nil, Int.toNat_natCast, Nat.add_zero, Int.natCast_add]
        rfl
    · obtain ⟨y4, y5, rfl, rfl⟩ := hP
      -- the places
      refine ⟨_, rfl, _, rfl, by omega, by omega, fun D nD => ?_⟩
      rw [Int.toNat_natCast]
      refine lc_range (lo := 0) (n := n) (fun m H4 => H4 D = some (.lst (((rg m).map fun p => if (!decide (g0 xs p = g0 ys p)) = true then (1 : Int) else 0).map V.int)) ∧ Same H3 H4) ⟨upd_same, same_new nD⟩ (fun m H4 hm hP => ?_) (fun H4 hP => ?_)
      · obtain ⟨hD4, s4⟩ := hP
        obtain ⟨x, ex, _⟩ := ord_ix ox hm
        obtain ⟨y, ey, _⟩ := ord_ix oy hm
        have gx : g0 xs (m : Int) = x := g0_at ex
        have gy : g0 ys (m : Int) = y := g0_at ey
        refine ⟨rfl, _, rfl, _, rfl, a, _, _, _, rfl, rfl, SqL.of (s4 _ _ ha), at_of (j := m) (by omega) (int_at ex), _, rfl, _, rfl, b, _, _, _, rfl, rfl, SqL.of (s4 _ _ hb), at_of (j := m) (by omega) (int_at ey), rfl, .inr ⟨_, rfl, _, hD4, line_lt (by rw [List.length_map, List.length_map, rg_len]; omega), ?_, fun u o e => ?_⟩⟩
        · rw [upd_same, rg_succ, List.map_append, List.map_append, List.map_cons, List.map_nil, List.map_cons, List.map_nil, gx, gy]
          congr 4
          by_cases c : x = y
          · subst c
            simp
          · have c2 : ¬ (V.int x = V.int y) := fun e => c (V.int.inj e)
            simp [c, c2]
        · rw [upd_ne (ne_of_none e nD)]
          exact s4 _ _ e
      · obtain ⟨hD4, s4⟩ := hP
        refine ⟨D, _, rfl, SqL.of hD4, ?_⟩
        rw [sum_ind]
        -- the shifts
        refine ⟨_, rfl, _, rfl, by omega, by omega, fun D2 nD2 => ?_⟩
        rw [Int.toNat_natCast]
        refine lc_range (lo := 0) (n := n) (fun m H5 => H5 D2 = some (.lst (((gapsL xs ys).take m).map V.int)) ∧ Same H4 H5) ⟨upd_same, same_new nD2⟩ (fun m H5 hm hP => ?_) (fun H5 hP => ?_)
        · obtain ⟨hD5, s5⟩ := hP
          obtain ⟨x, ex, x0, x1⟩ := ord_ix ox hm
          have t5 := s4.trans s5
          have eg : (gapsL xs ys)[m]? = some (absI ((m : Int) - pos ys x)) := by
            unfold gapsL rg
            rw [List.map_map, List.getElem?_map, List.getElem?_range (by rw [ox.len]; exact hm)]
            show some (absI ((m : Int) - g0 (seatsL xs ys) (m : Int))) = _
            rw [g0_at (seats_at ex)]
          refine ⟨rfl, _, rfl, _, rfl, .inl ⟨rfl, _, SqL.of (t5 _ _ hb)⟩, _, rfl, _, rfl, a, _, _, _, rfl, rfl, SqL.of (t5 _ _ ha), at_of (j := m) (by omega) (int_at ex), ?_⟩
          obtain ⟨j3, a3, b3, c3, p3⟩ := idx_facts oy x0 x1
          refine ⟨b, _, _, j3, _, rfl, rfl, SqL.of (t5 _ _ hb), rfl, flat_ints ys, a3, b3, c3, ?_⟩
          rw [p3]
          refine ⟨_, _, rfl, rfl, _, rfl, .inl ⟨rfl, _, SqL.of (t5 _ _ hb)⟩, _, rfl, _, rfl, a, _, _, _, rfl, rfl, SqL.of (t5 _ _ ha), at_of (j := m) (by omega) (int_at ex), ?_⟩
          obtain ⟨j4, a4, b4, c4, p4⟩ := idx_facts oy x0 x1
          refine ⟨b, _, _, j4, _, rfl, rfl, SqL.of (t5 _ _ hb), rfl, flat_ints ys, a4, b4, c4, ?_⟩
          rw [p4]
          refine ⟨_, rfl, _, _, rfl, rfl, _, _, rfl, _, hD5, line_lt (by rw [List.length_map, List.length_take, gaps_len, ox.len]; omega), ?_, fun u o e => ?_⟩
          · have em : (if pos ys x - (0 + (m : Int)) > (0 + (m : Int)) - pos ys x then pos ys x - (0 + (m : Int)) else (0 + (m : Int)) - pos ys x) = absI ((m : Int) - pos ys x) := by
              unfold absI
              split <;> split <;> omega
            rw [upd_same, take_more eg, List.map_append]
            show some (HO.lst (_ ++ [V.int (if pos ys x - (0 + (m : Int)) > (0 + (m : Int)) - pos ys x then pos ys x - (0 + (m : Int)) else (0 + (m : Int)) - pos ys x)])) = _
            rw [em]
            rfl
          · rw [upd_ne (ne_of_none e nD2)]
            exact s5 _ _ e
        · obtain ⟨hD5, s5⟩ := hP
          rw [List.take_of_length_le (by rw [gaps_len, ox.len]; exact Nat.le_refl _)] at hD5
          refine ⟨D2, gapsL xs ys, rfl, SqL.of hD5, by rw [gaps_len, ox.len]; exact hn1, fun m hm hle => ?_⟩
          have e : farShift xs ys = m := maxL_of (gaps_nonneg xs ys) hm hle
          rw [← e]
          -- the dict
          refine fun d nd => ⟨_, rfl, _, rfl, _, rfl, upd_same, [(.inr "swap", _), (.inr "spot", _), (.inr "shift", _)], rfl, (by show 3 ≤ 15; decide), ?_⟩
          refine q d _ _ upd_same (fun w hw => ?_) ((s4.trans s5).trans fun u o e => ?_)
          · rw [val3 _ _ _ hw]
            unfold farW farSwap farSpot spotL invN
            rw [seats_len, ox.len]
            rcases hw with rfl | rfl | rfl
            · rw [if_pos rfl, if_pos rfl]
            · rw [if_neg n1, if_pos rfl, if_neg n1, if_pos rfl]
            · rw [if_neg n2, if_neg n3, if_neg n2, if_neg n3]
          · rw [upd_ne (ne_of_none e nd), upd_ne (ne_of_none e nd)]
            exact e
theorem scLaw : FnScope ["script", "deck", "k", "one", "other", "due", "handed", "way", "found"] ["script"] (defScope s_law) := ⟨rfl, rfl, rfl, by decide +kernel, rfl, by decide +kernel, by decide +kernel⟩
set_option maxHeartbeats 4000000 in
theorem ok_law {f f1 f2 f3 f4 f5 f6 : Addr} {fd d1 d2 d3 d4 d5 d6 : FuncData} (T : Fun K "law" "law" s_law f fd) (T__law_deck : Df K mg "_law_deck" s_law_deck ["script"] f1 d1) (T__law_order : Df K mg "_law_order" s_law_order ["deck", "n"] f2 d2) (T__law_things : Df K mg "_law_things" s_law_things ["deck"] f3 d3) (T__law_near : Df K mg "_law_near" s_law_near ["deck", "order"] f4 d4) (T__law_due : Df K mg "_law_due" s_law_due ["one", "other"] f5 d5) (T_how_far : Df K mg "how_far" s_how_far ["way", "one", "other"] f6 d6)
    (G__law_deck : FnOk P w K mg base CX0 5 f1 d1 ["script"] (spDeck K)) (G__law_order : FnOk P w K mg base CX0 5 f2 d2 ["deck", "n"] spOrder) (G__law_things : FnOk P w K mg base CX0 5 f3 d3 ["deck"] spThings) (G__law_near : FnOk P w K mg base CX0 5 f4 d4 ["deck", "order"] spNear) (G__law_due : FnOk P w K mg base CX0 5 f5 d5 ["one", "other"] spDue) (G_how_far : FnOk P w K mg base CX0 5 f6 d6 ["way", "one", "other"] spFar)
    (B : Bi mg) : FnOk P w K mg base CX0 6 f fd ["script"] (spLaw K) := by
  refine T.ok scLaw (fun vs H Q E h => ?_) (fun cdv A outer s H vs Q E hr h => ?_)
  · obtain ⟨a, ns, rfl, _⟩ := h
    rfl
  · obtain ⟨a, ns, rfl, hS, hlen, q⟩ := h
    refine ⟨_, 
      (pss_cons (ps_set (i := 1) scLaw.nd rfl (.inl rfl) (pe_call G__law_deck hr (by rfl) T__law_deck.g T__law_deck.F.kp T__law_deck.b .nil pass0 (pa_cons (pv 0) pa_nil)))
      (pss_cons (ps_for PassesOwn.never rfl (pi_range1 (by rfl) B.range (pa_cons pe_int pa_nil)) (pg_name (i := 2) scLaw.nd rfl (.inl rfl))
        (pss_cons (ps_set (i := 3) scLaw.nd rfl (.inl rfl) (pe_call G__law_order hr (by rfl) T__law_order.g T__law_order.F.kp T__law_order.b .nil pass0 (pa_cons (pv 1) (pa_cons (pe_call G__law_things hr (by rfl) T__law_things.g T__law_things.F.kp T__law_things.b .nil pass0 (pa_cons (pv 1) pa_nil)) pa_nil))))
        (pss_cons (ps_set (i := 4) scLaw.nd rfl (.inl rfl) (pe_call G__law_near hr (by rfl) T__law_near.g T__law_near.F.kp T__law_near.b .nil pass0 (pa_cons (pv 1) (pa_cons (pv 3) pa_nil))))
        (pss_cons (ps_set (i := 5) scLaw.nd rfl (.inl rfl) (pe_call G__law_due hr (by rfl) T__law_due.g T__law_due.F.kp T__law_due.b .nil pass0 (pa_cons (pv 3) (pa_cons (pv 4) pa_nil))))
        (pss_cons (ps_set (i := 6) scLaw.nd rfl (.inl rfl) (pe_lst (pa_cons (pe_callTy call_list_of (by rfl) B.list (by decide +kernel) (pa_cons (pv 3) pa_nil)) (pa_cons (pe_callTy call_list_of (by rfl) B.list (by decide +kernel) (pa_cons (pv 4) pa_nil)) pa_nil))))
        (pss_cons (ps_for PassesOwn.never rfl (pi_list (pe_lst (pa_cons pe_str (pa_cons pe_str (pa_cons pe_str pa_nil))))) (pg_name (i := 7) scLaw.nd rfl (.inl rfl))
          (pss_cons (ps_set (i := 8) scLaw.nd rfl (.inl rfl) (pe_call G_how_far hr (by rfl) T_how_far.g T_how_far.F.kp T_how_far.b .nil pass0 (pa_cons (pv 7) (pa_cons (pe_ix ix_list (pv 6) pe_int (fun _ _ => rfl)) (pa_cons (pe_ix ix_list (pv 6) pe_int (fun _ _ => rfl)) pa_nil)))))
          (pss_cons (ps_if (PW.pt (pw_or (pt_not (pt_val (pe_callB call_isi (by rfl) B.isinstance (by decide +kernel) (pa_cons (pv 8) (pa_cons (pe_bltn (v := .ty "int") (by rfl) B.int (by decide +kernel) rfl) pa_nil))))) (pw_or (pt_val (pe_callB call_isi (by rfl) B.isinstance (by decide +kernel) (pa_cons (pv 8) (pa_cons (pe_bltn (v := .ty "bool") (by rfl) B.bool (by decide +kernel) rfl) pa_nil)))) (pw_or1 (pt_cmpR op_ne (pv 8) (pe_dget (hu_of hr) (pv 5) (pv 7) (fun _ _ => rfl)) (nomark _))))))
            (pss_one (ps_ret pe_bl))
            pss_nil)
          (pss_one (ps_if (PW.pt (pw_or (pt_cmpR op_ne (pe_call G_how_far hr (by rfl) T_how_far.g T_how_far.F.kp T_how_far.b .nil pass0 (pa_cons (pv 7) (pa_cons (pe_ix ix_list (pv 6) pe_int (fun _ _ => rfl)) (pa_cons (pe_ix ix_list (pv 6) pe_int (fun _ _ => rfl)) pa_nil)))) (pv 8) (nomark _)) (pw_or1 (pt_cmpR op_ne (pe_call G_how_far hr (by rfl) T_how_far.g T_how_far.F.kp T_how_far.b .nil pass0 (pa_cons (pv 7) (pa_cons (pe_ix ix_list (pv 6) pe_int (fun _ _ => rfl)) (pa_cons (pe_ix ix_list (pv 6) pe_int (fun _ _ => rfl)) pa_nil)))) pe_int (nomark _)))))
            (pss_one (ps_ret pe_bl))
            pss_nil)))))
        (pss_one (ps_if (pt_cmpR (op_neD hr.units) (pv 6) (pe_lst (pa_cons (pv 3) (pa_cons (pv 4) pa_nil))) (nomark _))
          (pss_one (ps_ret pe_bl))
          pss_nil))))))))
      (pss_one (ps_ret (pe_and (pe_cmpR op_eq (pe_call G_how_far hr (by rfl) T_how_far.g T_how_far.F.kp T_how_far.b .nil pass0 (pa_cons pe_str (pa_cons (pe_lst (pa_cons pe_int (pa_cons pe_int (pa_cons pe_int pa_nil)))) (pa_cons (pe_lst (pa_cons pe_int (pa_cons pe_int (pa_cons pe_int pa_nil)))) pa_nil)))) pe_int (nomark _)) (pe_one (pe_cmpR op_eq (pe_call G_how_far hr (by rfl) T_how_far.g T_how_far.F.kp T_how_far.b .nil pass0 (pa_cons pe_str (pa_cons (pe_lst (pa_cons pe_int (pa_cons pe_int (pa_cons pe_int pa_nil)))) (pa_cons (pe_lst (pa_cons pe_int (pa_cons pe_int (pa_cons pe_int pa_nil)))) pa_nil)))) pe_int (nomark _)))))))), ?_⟩
    refine ⟨_, rfl, a, ns, rfl, hS, hlen, fun D H0 D0 _ _ => ?_⟩
    refine ⟨12, rfl, by decide, by decide, ?_⟩
    refine for_range (n := 12) (fun i σ H1 => ∃ y2 y3 y4 y5 y6 y7 y8, σ = [some (.ref a), some (.ref D.d), y2, y3, y4, y5, y6, y7, y8] ∧ DkAt H1 D)
      ⟨_, _, _, _, _, _, _, rfl, D0⟩ (fun i σ H1 _ hP => ?_) (fun σ H1 hP => ?_)
    · obtain ⟨y2, y3, y4, y5, y6, y7, y8, rfl, D1⟩ := hP
      refine ⟨_, rfl, _, rfl, D, rfl, D1, fun n H2 hn1 hn2 D2 k2 => ?_⟩
      refine ⟨D, n, rfl, D2, hn1, hn2, fun xs o H3 ho no h3 nfo D3 k3 => ?_⟩
      refine ⟨_, rfl, _, rfl, D, o, n, xs, rfl, D3, h3, ho, hn1, hn2, fun zs p H4 hz np h4 nfp D4 k4 => ?_⟩
      have ho4 := k4 o _ h3 nfo
      -- due
      refine ⟨_, rfl, _, rfl, o, p, n, xs, zs, ⟨rfl, ho4, h4, ho, hz, hn1, hn2⟩, fun du kvs H5 hdu hval s5 => ?_⟩
      have ho5 := s5 _ _ ho4
      have hp5 := s5 _ _ h4
      -- handed
      refine ⟨_, rfl, o, _, rfl, .inl (SqL.of ho5), fun h1 n1 => ?_⟩
      have s1 := same_new (o := .lst (xs.map V.int)) n1
      refine ⟨_, rfl, p, _, rfl, .inl (SqL.of (s1 _ _ hp5)), fun h2 n2 => ?_⟩
      have s2 := same_new (o := .lst (zs.map V.int)) n2
      refine ⟨line_small (by show 2 ≤ 16777216; decide), fun hh n3 => ?_⟩
      have s3 := same_new (o := .lst [.ref h1, .ref h2]) n3
      have ss := (s1.trans s2).trans s3
      have hh1 := s3 _ _ (s2 _ _ (upd_same (H := H5) (a := h1) (o := .lst (xs.map V.int))))
      have hh2 := s3 _ _ (upd_same (H := upd H5 h1 (.lst (xs.map V.int))) (a := h2) (o := .lst (zs.map V.int)))
      have hh3 := upd_same (H := upd (upd H5 h1 (.lst (xs.map V.int))) h2 (.lst (zs.map V.int))) (a := hh) (o := .lst [.ref h1, .ref h2])
      have ho6 := ss _ _ ho5
      have hp6 := ss _ _ hp5
      have hd6 := ss _ _ hdu
      have D6 := (D4.same s5).same ss
      generalize upd (upd (upd H5 h1 (.lst (xs.map V.int))) h2 (.lst (zs.map V.int))) hh (.lst [.ref h1, .ref h2]) = H6 at ho6 hp6 hd6 D6 hh1 hh2 hh3 ⊢
      -- each way
      refine ⟨line_small (by show 3 ≤ 16777216; decide), fun wl nwl => ?_⟩
      have s7 := same_new (o := .lst [.str "swap", .str "spot", .str "shift"]) nwl
      refine ⟨wl, rfl, ⟨_, SqL.of upd_same⟩, ?_⟩
      refine for_list (xs := [.str "swap", .str "spot", .str "shift"]) (fun m σ H7 => ∃ (y7 y8 : Option V), σ = [some (.ref a), some (.ref D.d), some (.int (0 + i)), some (.ref o), some (.ref p), some (.ref du), some (.ref hh), y7, y8] ∧ H7 wl = some (.lst [.str "swap", .str "spot", .str "shift"]) ∧ Same H6 H7)
        ⟨_, _, rfl, upd_same, s7⟩ (fun m σ H7 _ hP => by obtain ⟨_, _, _, hw, _⟩ := hP; exact SqL.of hw) (fun m x σ H7 hx hP => ?_) (fun σ H7 hP => ?_)
      · obtain ⟨z7, z8, rfl, hw7, s7⟩ := hP
        obtain ⟨wy, rfl, hwy⟩ : ∃ wy : Str, x = .str wy ∧ IsWay wy := by
          match m, hx with
          | 0, hx => exact ⟨"swap", (Option.some.inj hx).symm, .inl rfl⟩
          | 1, hx => exact ⟨"spot", (Option.some.inj hx).symm, .inr (.inl rfl)⟩
          | 2, hx => exact ⟨"shift", (Option.some.inj hx).symm, .inr (.inr rfl)⟩
          | m + 3, hx => simp at hx
        -- found
        refine ⟨_, rfl, _, rfl, hh, _, 0, _, rfl, rfl, SqL.of (s7 _ _ hh3), at2_0, _, rfl, hh, _, 1, _, rfl, rfl, SqL.of (s7 _ _ hh3), at2_1, wy, h1, h2, n, xs, zs, rfl, hwy, s7 _ _ hh1, s7 _ _ hh2, ho, hz, hn1, hn2, fun H8 s8 => ?_⟩
        have t8 := s7.trans s8
        refine ⟨_, rfl, _, _, _, _, true, rfl, .ty _, .base (.int _), kit_ty (by decide +kernel), true, rfl, iteF ?_⟩
        refine ⟨_, rfl, _, _, _, _, false, rfl, .ty _, .base (.int _), kit_ty (by decide +kernel), false, rfl, iteF ?_⟩
        refine ⟨_, rfl, _, rfl, _, rfl, du, .int (farW wy xs zs), rfl, .inl ⟨kvs, .inr wy, .inl (t8 _ _ hd6), rfl, (hval wy hwy).symm⟩, rfl, _, rfl, iteNS rfl ?_⟩
        -- the other way about, and of one and itself
        refine ⟨_, rfl, _, rfl, hh, _, 1, _, rfl, rfl, SqL.of (t8 _ _ hh3), at2_1, _, rfl, hh, _, 0, _, rfl, rfl, SqL.of (t8 _ _ hh3), at2_0, wy, h2, h1, n, zs, xs, rfl, hwy, t8 _ _ hh2, t8 _ _ hh1, hz, ho, hn1, hn2, fun H9 s9 => ?_⟩
        have t9 := t8.trans s9
        refine ⟨_, rfl, rfl, _, rfl, ?_⟩
        rw [farW_turn ho hz hn1]
        refine iteNS rfl ?_
        refine ⟨_, rfl, _, rfl, hh, _, 0, _, rfl, rfl, SqL.of (t9 _ _ hh3), at2_0, _, rfl, hh, _, 0, _, rfl, rfl, SqL.of (t9 _ _ hh3), at2_0, wy, h1, h1, n, xs, xs, rfl, hwy, t9 _ _ hh1, t9 _ _ hh1, ho, ho, hn1, hn2, fun H10 s10 => ?_⟩
        refine ⟨rfl, _, rfl, ?_⟩
        rw [farW_self ho hn1]
        exact iteNS rfl ⟨_, _, rfl, s10 _ _ (s9 _ _ (s8 _ _ hw7)), t9.trans s10⟩
      · obtain ⟨z7, z8, rfl, hw7, s7⟩ := hP
        refine ⟨_, rfl, _, rfl, _, rfl, line_small (by show 2 ≤ 16777216; decide), fun e ne => ?_⟩
        have se := same_new (o := .lst [.ref o, .ref p]) ne
        have te := s7.trans se
        refine ⟨dLL [xs, zs], dLL [xs, zs], .lst (SqL.of (te _ _ hh3)) (.cons (dp_list (te _ _ hh1)) (.cons (dp_list (te _ _ hh2)) .nil)), .lst (SqL.of upd_same) (.cons (dp_list (te _ _ ho6)) (.cons (dp_list (te _ _ hp6)) .nil)), shaped_lists _, shaped_lists _, _, rfl, ?_⟩
        rw [eqv_lists]
        exact iteF ⟨_, _, _, _, _, _, _, rfl, D6.same te⟩
    · obtain ⟨y2, y3, y4, y5, y6, y7, y8, rfl, D1⟩ := hP
      refine ⟨line_small (by show 3 ≤ 16777216; decide), fun a1 na1 => ⟨line_small (by show 3 ≤ 16777216; decide), fun b1 nb1 => ?_⟩⟩
      refine ⟨"swap", a1, b1, 3, [0, 1, 2], [2, 1, 0], rfl, .inl rfl, same_new nb1 _ _ upd_same, upd_same, (show List.Perm [0, 1, 2] (rg 3) by decide), (show List.Perm [2, 1, 0] (rg 3) by decide), by decide, by decide, fun H2 s2 => ?_⟩
      refine ⟨rfl, _, rfl, ?_⟩
      rw [farW_swap, show farSwap [0, 1, 2] [2, 1, 0] = 3 by decide +kernel]
      refine iteT ?_
      refine ⟨line_small (by show 3 ≤ 16777216; decide), fun a2 na2 => ⟨line_small (by show 3 ≤ 16777216; decide), fun b2 nb2 => ?_⟩⟩
      refine ⟨"shift", a2, b2, 3, [0, 1, 2], [1, 2, 0], rfl, .inr (.inr rfl), same_new nb2 _ _ upd_same, upd_same, (show List.Perm [0, 1, 2] (rg 3) by decide), (show List.Perm [1, 2, 0] (rg 3) by decide), by decide, by decide, fun H3 s3 => ?_⟩
      refine ⟨rfl, ?_⟩
      rw [farW_shift, show farShift [0, 1, 2] [1, 2, 0] = 2 by decide +kernel]
      exact q _
end
end Fo
--LAWCALL ok_law F_law T__law_deck T__law_order T__law_things T__law_near T__law_due T_how_far (ok_deck (k := 4) T__law_deck B) (ok_order (k := 3) T__law_order T__law_draw B) (ok_things (k := 3) T__law_things T__law_draw B) (ok_near (k := 2) T__law_near T__law_draw T__law_order B) (ok_due (k := 4) T__law_due B) (ok_far (k := 4) T_how_far T_check_orders T_check_way T_check_fit T_known_far (ok_checks (k := 3) T_check_orders T_check_order (ok_check (k := 0) T_check_order T_is_order T_is_whole B m_MOST_THINGS)) (ok_way (k := 3) T_check_way m_WAYS B) (ok_fit (k := 3) T_check_fit B) (ok_known (k := 3) T_known_far T_far_by_swap T_far_by_spot T_far_by_shift (ok_swap (k := 2) T_far_by_swap T_seats_in (ok_seats (k := 0) T_seats_in T_places_in B) B) (ok_spot (k := 2) T_far_by_spot B) (ok_shift (k := 2) T_far_by_shift T_seats_in (ok_seats (k := 0) T_seats_in T_places_in B) B))) B
namespace Fo
open PySem PySem.Spec PyProof.Rows L2
set_option maxHeartbeats 8000000 in
theorem all_mk {l : PySem.W.OpenLaw} {w : World} {K : PySem.W.Frag} {h : Heap} {mg : Str → Option Value} {fa : Addr} (X : K.In h) (G : h.Ns mainGlobals mg) (hfa : mg "law" = some (.ref fa))
    {f0 f1 f2 f3 f4 f5 f6 f7 f8 f9 f10 f11 f12 f13 f14 f15 f16 f17 f18 f19 : Addr} {od0 an0 od1 an1 od2 an2 od3 an3 od4 an4 od5 an5 od6 an6 od7 an7 od8 an8 od9 an9 od10 an10 od11 an11 od12 an12 od13 an13 od14 an14 od15 an15 od16 an16 od17 an17 od18 an18 od19 an19 : Option Addr} {sl0 sl1 sl2 sl3 sl4 sl5 sl6 sl7 sl8 sl9 sl10 sl11 sl12 sl13 sl14 sl15 sl16 sl17 sl18 sl19 : Array (Option Value)} {oc0 kV0 dc0 pm0 cd0 ct0 oc1 kV1 dc1 pm1 cd1 ct1 oc2 kV2 dc2 pm2 cd2 ct2 oc3 kV3 dc3 pm3 cd3 ct3 oc4 kV4 dc4 pm4 cd4 ct4 oc5 kV5 dc5 pm5 cd5 ct5 oc6 kV6 dc6 pm6 cd6 ct6 oc7 kV7 dc7 pm7 cd7 ct7 oc8 kV8 dc8 pm8 cd8 ct8 oc9 kV9 dc9 pm9 cd9 ct9 oc10 kV10 dc10 pm10 cd10 ct10 oc11 kV11 dc11 pm11 cd11 ct11 oc12 kV12 dc12 pm12 cd12 ct12 oc13 kV13 dc13 pm13 cd13 ct13 oc14 kV14 dc14 pm14 cd14 ct14 oc15 kV15 dc15 pm15 cd15 ct15 oc16 kV16 dc16 pm16 cd16 ct16 oc17 kV17 dc17 pm17 cd17 ct17 oc18 kV18 dc18 pm18 cd18 ct18 oc19 kV19 dc19 pm19 cd19 ct19 : Value} {tk_MOST_THINGS : Tok} {aW : Addr} {ddW : Option Addr} {nW : Nat} {tW1 tW2 tW3 : Tok} {slW : Array (Option Value)}
    (a0 : PySem.W.nsIn K mainGlobals "is_whole" = some (some (.ref f0))) (l0 : K.lookup f0 = some ⟨oc0, od0, .func (PySem.W.fnOf "is_whole" "is_whole" (defArgs s_is_whole) (defBody s_is_whole) (defScope s_is_whole) .none kV0 dc0 pm0 an0 cd0 ct0), sl0⟩) (c0 : PySem.W.codeIn K cd0 "is_whole" = true) (k0 : PySem.W.keepIn K (.ref f0) = true)
    (a1 : PySem.W.nsIn K mainGlobals "check_way" = some (some (.ref f1))) (l1 : K.lookup f1 = some ⟨oc1, od1, .func (PySem.W.fnOf "check_way" "check_way" (defArgs s_check_way) (defBody s_check_way) (defScope s_check_way) .none kV1 dc1 pm1 an1 cd1 ct1), sl1⟩) (c1 : PySem.W.codeIn K cd1 "check_way" = true) (k1 : PySem.W.keepIn K (.ref f1) = true)
    (a2 : PySem.W.nsIn K mainGlobals "is_order" = some (some (.ref f2))) (l2 : K.lookup f2 = some ⟨oc2, od2, .func (PySem.W.fnOf "is_order" "is_order" (defArgs s_is_order) (defBody s_is_order) (defScope s_is_order) .none kV2 dc2 pm2 an2 cd2 ct2), sl2⟩) (c2 : PySem.W.codeIn K cd2 "is_order" = true) (k2 : PySem.W.keepIn K (.ref f2) = true)
    (a3 : PySem.W.nsIn K mainGlobals "check_order" = some (some (.ref f3))) (l3 : K.lookup f3 = some ⟨oc3, od3, .func (PySem.W.fnOf "check_order" "check_order" (defArgs s_check_order) (defBody s_check_order) (defScope s_check_order) .none kV3 dc3 pm3 an3 cd3 ct3), sl3⟩) (c3 : PySem.W.codeIn K cd3 "check_order" = true) (k3 : PySem.W.keepIn K (.ref f3) = true)
    (a4 : PySem.W.nsIn K mainGlobals "check_orders" = some (some (.ref f4))) (l4 : K.lookup f4 = some ⟨oc4, od4, .func (PySem.W.fnOf "check_orders" "check_orders" (defArgs s_check_orders) (defBody s_check_orders) (defScope s_check_orders) .none kV4 dc4 pm4 an4 cd4 ct4), sl4⟩) (c4 : PySem.W.codeIn K cd4 "check_orders" = true) (k4 : PySem.W.keepIn K (.ref f4) = true)
    (a5 : PySem.W.nsIn K mainGlobals "check_fit" = some (some (.ref f5))) (l5 : K.lookup f5 = some ⟨oc5, od5, .func (PySem.W.fnOf "check_fit" "check_fit" (defArgs s_check_fit) (defBody s_check_fit) (defScope s_check_fit) .none kV5 dc5 pm5 an5 cd5 ct5), sl5⟩) (c5 : PySem.W.codeIn K cd5 "check_fit" = true) (k5 : PySem.W.keepIn K (.ref f5) = true)
    (a6 : PySem.W.nsIn K mainGlobals "places_in" = some (some (.ref f6))) (l6 : K.lookup f6 = some ⟨oc6, od6, .func (PySem.W.fnOf "places_in" "places_in" (defArgs s_places_in) (defBody s_places_in) (defScope s_places_in) .none kV6 dc6 pm6 an6 cd6 ct6), sl6⟩) (c6 : PySem.W.codeIn K cd6 "places_in" = true) (k6 : PySem.W.keepIn K (.ref f6) = true)
    (a7 : PySem.W.nsIn K mainGlobals "seats_in" = some (some (.ref f7))) (l7 : K.lookup f7 = some ⟨oc7, od7, .func (PySem.W.fnOf "seats_in" "seats_in" (defArgs s_seats_in) (defBody s_seats_in) (defScope s_seats_in) .none kV7 dc7 pm7 an7 cd7 ct7), sl7⟩) (c7 : PySem.W.codeIn K cd7 "seats_in" = true) (k7 : PySem.W.keepIn K (.ref f7) = true)
    (a8 : PySem.W.nsIn K mainGlobals "how_far" = some (some (.ref f8))) (l8 : K.lookup f8 = some ⟨oc8, od8, .func (PySem.W.fnOf "how_far" "how_far" (defArgs s_how_far) (defBody s_how_far) (defScope s_how_far) .none kV8 dc8 pm8 an8 cd8 ct8), sl8⟩) (c8 : PySem.W.codeIn K cd8 "how_far" = true) (k8 : PySem.W.keepIn K (.ref f8) = true)
    (a9 : PySem.W.nsIn K mainGlobals "known_far" = some (some (.ref f9))) (l9 : K.lookup f9 = some ⟨oc9, od9, .func (PySem.W.fnOf "known_far" "known_far" (defArgs s_known_far) (defBody s_known_far) (defScope s_known_far) .none kV9 dc9 pm9 an9 cd9 ct9), sl9⟩) (c9 : PySem.W.codeIn K cd9 "known_far" = true) (k9 : PySem.W.keepIn K (.ref f9) = true)
    (a10 : PySem.W.nsIn K mainGlobals "far_by_swap" = some (some (.ref f10))) (l10 : K.lookup f10 = some ⟨oc10, od10, .func (PySem.W.fnOf "far_by_swap" "far_by_swap" (defArgs s_far_by_swap) (defBody s_far_by_swap) (defScope s_far_by_swap) .none kV10 dc10 pm10 an10 cd10 ct10), sl10⟩) (c10 : PySem.W.codeIn K cd10 "far_by_swap" = true) (k10 : PySem.W.keepIn K (.ref f10) = true)
    (a11 : PySem.W.nsIn K mainGlobals "far_by_spot" = some (some (.ref f11))) (l11 : K.lookup f11 = some ⟨oc11, od11, .func (PySem.W.fnOf "far_by_spot" "far_by_spot" (defArgs s_far_by_spot) (defBody s_far_by_spot) (defScope s_far_by_spot) .none kV11 dc11 pm11 an11 cd11 ct11), sl11⟩) (c11 : PySem.W.codeIn K cd11 "far_by_spot" = true) (k11 : PySem.W.keepIn K (.ref f11) = true)
    (a12 : PySem.W.nsIn K mainGlobals "far_by_shift" = some (some (.ref f12))) (l12 : K.lookup f12 = some ⟨oc12, od12, .func (PySem.W.fnOf "far_by_shift" "far_by_shift" (defArgs s_far_by_shift) (defBody s_far_by_shift) (defScope s_far_by_shift) .none kV12 dc12 pm12 an12 cd12 ct12), sl12⟩) (c12 : PySem.W.codeIn K cd12 "far_by_shift" = true) (k12 : PySem.W.keepIn K (.ref f12) = true)
    (a13 : PySem.W.nsIn K mainGlobals "_law_deck" = some (some (.ref f13))) (l13 : K.lookup f13 = some ⟨oc13, od13, .func (PySem.W.fnOf "_law_deck" "_law_deck" (defArgs s_law_deck) (defBody s_law_deck) (defScope s_law_deck) .none kV13 dc13 pm13 an13 cd13 ct13), sl13⟩) (c13 : PySem.W.codeIn K cd13 "_law_deck" = true) (k13 : PySem.W.keepIn K (.ref f13) = true)
    (a14 : PySem.W.nsIn K mainGlobals "_law_draw" = some (some (.ref f14))) (l14 : K.lookup f14 = some ⟨oc14, od14, .func (PySem.W.fnOf "_law_draw" "_law_draw" (defArgs s_law_draw) (defBody s_law_draw) (defScope s_law_draw) .none kV14 dc14 pm14 an14 cd14 ct14), sl14⟩) (c14 : PySem.W.codeIn K cd14 "_law_draw" = true) (k14 : PySem.W.keepIn K (.ref f14) = true)
    (a15 : PySem.W.nsIn K mainGlobals "_law_order" = some (some (.ref f15))) (l15 : K.lookup f15 = some ⟨oc15, od15, .func (PySem.W.fnOf "_law_order" "_law_order" (defArgs s_law_order) (defBody s_law_order) (defScope s_law_order) .none kV15 dc15 pm15 an15 cd15 ct15), sl15⟩) (c15 : PySem.W.codeIn K cd15 "_law_order" = true) (k15 : PySem.W.keepIn K (.ref f15) = true)
    (a16 : PySem.W.nsIn K mainGlobals "_law_things" = some (some (.ref f16))) (l16 : K.lookup f16 = some ⟨oc16, od16, .func (PySem.W.fnOf "_law_things" "_law_things" (defArgs s_law_things) (defBody s_law_things) (defScope s_law_things) .none kV16 dc16 pm16 an16 cd16 ct16), sl16⟩) (c16 : PySem.W.codeIn K cd16 "_law_things" = true) (k16 : PySem.W.keepIn K (.ref f16) = true)
    (a17 : PySem.W.nsIn K mainGlobals "_law_near" = some (some (.ref f17))) (l17 : K.lookup f17 = some ⟨oc17, od17, .func (PySem.W.fnOf "_law_near" "_law_near" (defArgs s_law_near) (defBody s_law_near) (defScope s_law_near) .none kV17 dc17 pm17 an17 cd17 ct17), sl17⟩) (c17 : PySem.W.codeIn K cd17 "_law_near" = true) (k17 : PySem.W.keepIn K (.ref f17) = true)
    (a18 : PySem.W.nsIn K mainGlobals "_law_due" = some (some (.ref f18))) (l18 : K.lookup f18 = some ⟨oc18, od18, .func (PySem.W.fnOf "_law_due" "_law_due" (defArgs s_law_due) (defBody s_law_due) (defScope s_law_due) .none kV18 dc18 pm18 an18 cd18 ct18), sl18⟩) (c18 : PySem.W.codeIn K cd18 "_law_due" = true) (k18 : PySem.W.keepIn K (.ref f18) = true)
    (a19 : PySem.W.nsIn K mainGlobals "law" = some (some (.ref f19))) (l19 : K.lookup f19 = some ⟨oc19, od19, .func (PySem.W.fnOf "law" "law" (defArgs s_law) (defBody s_law) (defScope s_law) .none kV19 dc19 pm19 an19 cd19 ct19), sl19⟩) (c19 : PySem.W.codeIn K cd19 "law" = true) (k19 : PySem.W.keepIn K (.ref f19) = true)
    (g_MOST_THINGS : PySem.W.nsIn K mainGlobals "MOST_THINGS" = some (some (.int 12 tk_MOST_THINGS)))
    (g_WAYS : PySem.W.nsIn K mainGlobals "WAYS" = some (some (.ref aW))) (l_WAYS : K.lookup aW = some ⟨.type "tuple", ddW, .seq #[.str "swap" tW1, .str "spot" tW2, .str "shift" tW3] nW, slW⟩)
    (z_abs : PySem.W.nsIn K mainGlobals "abs" = some none)
    (z_all : PySem.W.nsIn K mainGlobals "all" = some none)
    (z_bool : PySem.W.nsIn K mainGlobals "bool" = some none)
    (z_enumerate : PySem.W.nsIn K mainGlobals "enumerate" = some none)
    (z_int : PySem.W.nsIn K mainGlobals "int" = some none)
    (z_isinstance : PySem.W.nsIn K mainGlobals "isinstance" = some none)
    (z_len : PySem.W.nsIn K mainGlobals "len" = some none)
    (z_list : PySem.W.nsIn K mainGlobals "list" = some none)
    (z_max : PySem.W.nsIn K mainGlobals "max" = some none)
    (z_min : PySem.W.nsIn K mainGlobals "min" = some none)
    (z_range : PySem.W.nsIn K mainGlobals "range" = some none)
    (z_sorted : PySem.W.nsIn K mainGlobals "sorted" = some none)
    (z_str : PySem.W.nsIn K mainGlobals "str" = some none)
    (z_sum : PySem.W.nsIn K mainGlobals "sum" = some none)
    : ∃ fd : FuncData, (∀ (s : Shared) (v : Value), BindsTo s fd ⟨[v], []⟩ [("script", v)]) ∧ ∀ base : Heap, K.In base → base.Ns mainGlobals mg → FnOk l.prog w K mg base CX0 6 fa fd ["script"] (spLaw K) := by
  have e := hfa.symm.trans (PySem.W.mg_of X G a19)
  cases e
  have F0 := fun_mk (st := s_is_whole) l0 c0 k0
  have F1 := fun_mk (st := s_check_way) l1 c1 k1
  have F2 := fun_mk (st := s_is_order) l2 c2 k2
  have F3 := fun_mk (st := s_check_order) l3 c3 k3
  have F4 := fun_mk (st := s_check_orders) l4 c4 k4
  have F5 := fun_mk (st := s_check_fit) l5 c5 k5
  have F6 := fun_mk (st := s_places_in) l6 c6 k6
  have F7 := fun_mk (st := s_seats_in) l7 c7 k7
  have F8 := fun_mk (st := s_how_far) l8 c8 k8
  have F9 := fun_mk (st := s_known_far) l9 c9 k9
  have F10 := fun_mk (st := s_far_by_swap) l10 c10 k10
  have F11 := fun_mk (st := s_far_by_spot) l11 c11 k11
  have F12 := fun_mk (st := s_far_by_shift) l12 c12 k12
  have F13 := fun_mk (st := s_law_deck) l13 c13 k13
  have F14 := fun_mk (st := s_law_draw) l14 c14 k14
  have F15 := fun_mk (st := s_law_order) l15 c15 k15
  have F16 := fun_mk (st := s_law_things) l16 c16 k16
  have F17 := fun_mk (st := s_law_near) l17 c17 k17
  have F18 := fun_mk (st := s_law_due) l18 c18 k18
  have F19 := fun_mk (st := s_law) l19 c19 k19
  have T_is_whole : Df K mg "is_whole" s_is_whole ["thing"] f0 _ := ⟨F0, F0.binds (ps := ["thing"]) (fun _ _ _ _ _ _ us hl => match us, hl with | [_], _ => rfl), PySem.W.mg_of X G a0⟩
  have T_check_way : Df K mg "check_way" s_check_way ["thing"] f1 _ := ⟨F1, F1.binds (ps := ["thing"]) (fun _ _ _ _ _ _ us hl => match us, hl with | [_], _ => rfl), PySem.W.mg_of X G a1⟩
  have T_is_order : Df K mg "is_order" s_is_order ["thing"] f2 _ := ⟨F2, F2.binds (ps := ["thing"]) (fun _ _ _ _ _ _ us hl => match us, hl with | [_], _ => rfl), PySem.W.mg_of X G a2⟩
  have T_check_order : Df K mg "check_order" s_check_order ["thing"] f3 _ := ⟨F3, F3.binds (ps := ["thing"]) (fun _ _ _ _ _ _ us hl => match us, hl with | [_], _ => rfl), PySem.W.mg_of X G a3⟩
  have T_check_orders : Df K mg "check_orders" s_check_orders ["one", "other"] f4 _ := ⟨F4, F4.binds (ps := ["one", "other"]) (fun _ _ _ _ _ _ us hl => match us, hl with | [_, _], _ => rfl), PySem.W.mg_of X G a4⟩
  have T_check_fit : Df K mg "check_fit" s_check_fit ["one", "other"] f5 _ := ⟨F5, F5.binds (ps := ["one", "other"]) (fun _ _ _ _ _ _ us hl => match us, hl with | [_, _], _ => rfl), PySem.W.mg_of X G a5⟩
  have T_places_in : Df K mg "places_in" s_places_in ["order"] f6 _ := ⟨F6, F6.binds (ps := ["order"]) (fun _ _ _ _ _ _ us hl => match us, hl with | [_], _ => rfl), PySem.W.mg_of X G a6⟩
  have T_seats_in : Df K mg "seats_in" s_seats_in ["one", "other"] f7 _ := ⟨F7, F7.binds (ps := ["one", "other"]) (fun _ _ _ _ _ _ us hl => match us, hl with | [_, _], _ => rfl), PySem.W.mg_of X G a7⟩
  have T_how_far : Df K mg "how_far" s_how_far ["way", "one", "other"] f8 _ := ⟨F8, F8.binds (ps := ["way", "one", "other"]) (fun _ _ _ _ _ _ us hl => match us, hl with | [_, _, _], _ => rfl), PySem.W.mg_of X G a8⟩
  have T_known_far : Df K mg "known_far" s_known_far ["way", "one", "other"] f9 _ := ⟨F9, F9.binds (ps := ["way", "one", "other"]) (fun _ _ _ _ _ _ us hl => match us, hl with | [_, _, _], _ => rfl), PySem.W.mg_of X G a9⟩
  have T_far_by_swap : Df K mg "far_by_swap" s_far_by_swap ["one", "other"] f10 _ := ⟨F10, F10.binds (ps := ["one", "other"]) (fun _ _ _ _ _ _ us hl => match us, hl with | [_, _], _ => rfl), PySem.W.mg_of X G a10⟩
  have T_far_by_spot : Df K mg "far_by_spot" s_far_by_spot ["one", "other"] f11 _ := ⟨F11, F11.binds (ps := ["one", "other"]) (fun _ _ _ _ _ _ us hl => match us, hl with | [_, _], _ => rfl), PySem.W.mg_of X G a11⟩
  have T_far_by_shift : Df K mg "far_by_shift" s_far_by_shift ["one", "other"] f12 _ := ⟨F12, F12.binds (ps := ["one", "other"]) (fun _ _ _ _ _ _ us hl => match us, hl with | [_, _], _ => rfl), PySem.W.mg_of X G a12⟩
  have T__law_deck : Df K mg "_law_deck" s_law_deck ["script"] f13 _ := ⟨F13, F13.binds (ps := ["script"]) (fun _ _ _ _ _ _ us hl => match us, hl with | [_], _ => rfl), PySem.W.mg_of X G a13⟩
  have T__law_draw : Df K mg "_law_draw" s_law_draw ["deck", "many"] f14 _ := ⟨F14, F14.binds (ps := ["deck", "many"]) (fun _ _ _ _ _ _ us hl => match us, hl with | [_, _], _ => rfl), PySem.W.mg_of X G a14⟩
  have T__law_order : Df K mg "_law_order" s_law_order ["deck", "n"] f15 _ := ⟨F15, F15.binds (ps := ["deck", "n"]) (fun _ _ _ _ _ _ us hl => match us, hl with | [_, _], _ => rfl), PySem.W.mg_of X G a15⟩
  have T__law_things : Df K mg "_law_things" s_law_things ["deck"] f16 _ := ⟨F16, F16.binds (ps := ["deck"]) (fun _ _ _ _ _ _ us hl => match us, hl with | [_], _ => rfl), PySem.W.mg_of X G a16⟩
  have T__law_near : Df K mg "_law_near" s_law_near ["deck", "order"] f17 _ := ⟨F17, F17.binds (ps := ["deck", "order"]) (fun _ _ _ _ _ _ us hl => match us, hl with | [_, _], _ => rfl), PySem.W.mg_of X G a17⟩
  have T__law_due : Df K mg "_law_due" s_law_due ["one", "other"] f18 _ := ⟨F18, F18.binds (ps := ["one", "other"]) (fun _ _ _ _ _ _ us hl => match us, hl with | [_, _], _ => rfl), PySem.W.mg_of X G a18⟩
  have B : Bi mg := ⟨PySem.W.mg_none_of X G z_abs, PySem.W.mg_none_of X G z_all, PySem.W.mg_none_of X G z_bool, PySem.W.mg_none_of X G z_enumerate, PySem.W.mg_none_of X G z_int, PySem.W.mg_none_of X G z_isinstance, PySem.W.mg_none_of X G z_len, PySem.W.mg_none_of X G z_list, PySem.W.mg_none_of X G z_max, PySem.W.mg_none_of X G z_min, PySem.W.mg_none_of X G z_range, PySem.W.mg_none_of X G z_sorted, PySem.W.mg_none_of X G z_str, PySem.W.mg_none_of X G z_sum⟩
  have m_WAYS := wy_mk (PySem.W.mg_of X G g_WAYS) l_WAYS
  have m_MOST_THINGS := PySem.W.mg_of X G g_MOST_THINGS
  exact ⟨PySem.W.fnOf "law" "law" (defArgs s_law) (defBody s_law) (defScope s_law) .none kV19 dc19 pm19 an19 cd19 ct19, fun s v => .of_eq rfl, fun base _ _ => ok_law F19 T__law_deck T__law_order T__law_things T__law_near T__law_due T_how_far (ok_deck (k := 4) T__law_deck B) (ok_order (k := 3) T__law_order T__law_draw B) (ok_things (k := 3) T__law_things T__law_draw B) (ok_near (k := 2) T__law_near T__law_draw T__law_order B) (ok_due (k := 4) T__law_due B) (ok_far (k := 4) T_how_far T_check_orders T_check_way T_check_fit T_known_far (ok_checks (k := 3) T_check_orders T_check_order (ok_check (k := 0) T_check_order T_is_order T_is_whole B m_MOST_THINGS)) (ok_way (k := 3) T_check_way m_WAYS B) (ok_fit (k := 3) T_check_fit B) (ok_known (k := 3) T_known_far T_far_by_swap T_far_by_spot T_far_by_shift (ok_swap (k := 2) T_far_by_swap T_seats_in (ok_seats (k := 0) T_seats_in T_places_in B) B) (ok_spot (k := 2) T_far_by_spot B) (ok_shift (k := 2) T_far_by_shift T_seats_in (ok_seats (k := 0) T_seats_in T_places_in B) B))) B⟩
end Fo
open PySem PySem.W PyProof.Rows
set_option maxRecDepth 100000 in
set_option maxHeartbeats 0 in
theorem PySem.Challenge.cw_farorders_k03_how_far_by_each_way_holds : PySem.Challenge.rw_farorders_k03_how_far_by_each_way.Holds := by
  w_on; o_law; k_head; (case hw => w_witness2)
  k_fill
  refine L2.walk_of (l := PySem.Challenge.rw_farorders_k03_how_far_by_each_way) (n := 63) (k := 6) (x := "script") (CX := fun _ => L2.CX0) (sp := fun w => Fo.spLaw _) rfl (by decide) rfl ⟨rfl, by decide, by decide⟩ (fun w h Y => PySem.W.kIn_of Y) ?F (fun _ _ a ns hl _ hS => ⟨a, ns, rfl, hS, hl, fun _ => rfl⟩) (fun _ _ _ _ _ h => h)
  case F =>
    intro w mg fa h KX G hmg
    refine' Fo.all_mk KX G hmg ?a0 ?l0 ?c0 ?k0 ?a1 ?l1 ?c1 ?k1 ?a2 ?l2 ?c2 ?k2 ?a3 ?l3 ?c3 ?k3 ?a4 ?l4 ?c4 ?k4 ?a5 ?l5 ?c5 ?k5 ?a6 ?l6 ?c6 ?k6 ?a7 ?l7 ?c7 ?k7 ?a8 ?l8 ?c8 ?k8 ?a9 ?l9 ?c9 ?k9 ?a10 ?l10 ?c10 ?k10 ?a11 ?l11 ?c11 ?k11 ?a12 ?l12 ?c12 ?k12 ?a13 ?l13 ?c13 ?k13 ?a14 ?l14 ?c14 ?k14 ?a15 ?l15 ?c15 ?k15 ?a16 ?l16 ?c16 ?k16 ?a17 ?l17 ?c17 ?k17 ?a18 ?l18 ?c18 ?k18 ?a19 ?l19 ?c19 ?k19 ?g_MOST_THINGS ?g_WAYS ?l_WAYS ?z_abs ?z_all ?z_bool ?z_enumerate ?z_int ?z_isinstance ?z_len ?z_list ?z_max ?z_min ?z_range ?z_sorted ?z_str ?z_sum
    (case a0 => k_is); (case l0 => k_is); (case c0 => k_is); (case k0 => k_is); (case a1 => k_is); (case l1 => k_is); (case c1 => k_is); (case k1 => k_is); (case a2 => k_is); (case l2 => k_is); (case c2 => k_is); (case k2 => k_is); (case a3 => k_is); (case l3 => k_is); (case c3 => k_is); (case k3 => k_is); (case a4 => k_is); (case l4 => k_is); (case c4 => k_is); (case k4 => k_is); (case a5 => k_is); (case l5 => k_is); (case c5 => k_is); (case k5 => k_is); (case a6 => k_is); (case l6 => k_is); (case c6 => k_is); (case k6 => k_is); (case a7 => k_is); (case l7 => k_is); (case c7 => k_is); (case k7 => k_is); (case a8 => k_is); (case l8 => k_is); (case c8 => k_is); (case k8 => k_is); (case a9 => k_is); (case l9 => k_is); (case c9 => k_is); (case k9 => k_is); (case a10 => k_is); (case l10 => k_is); (case c10 => k_is); (case k10 => k_is); (case a11 => k_is); (case l11 => k_is); (case c11 => k_is); (case k11 => k_is); (case a12 => k_is); (case l12 => k_is); (case c12 => k_is); (case k12 => k_is); (case a13 => k_is); (case l13 => k_is); (case c13 => k_is); (case k13 => k_is); (case a14 => k_is); (case l14 => k_is); (case c14 => k_is); (case k14 => k_is); (case a15 => k_is); (case l15 => k_is); (case c15 => k_is); (case k15 => k_is); (case a16 => k_is); (case l16 => k_is); (case c16 => k_is); (case k16 => k_is); (case a17 => k_is); (case l17 => k_is); (case c17 => k_is); (case k17 => k_is); (case a18 => k_is); (case l18 => k_is); (case c18 => k_is); (case k18 => k_is); (case a19 => k_is); (case l19 => k_is); (case c19 => k_is); (case k19 => k_is); (case g_MOST_THINGS => k_is); (case g_WAYS => k_is); (case l_WAYS => k_is); (case z_abs => k_is); (case z_all => k_is); (case z_bool => k_is); (case z_enumerate => k_is); (case z_int => k_is); (case z_isinstance => k_is); (case z_len => k_is); (case z_list => k_is); (case z_max => k_is); (case z_min => k_is); (case z_range => k_is); (case z_sorted => k_is); (case z_str => k_is); (case z_sum => k_is)

