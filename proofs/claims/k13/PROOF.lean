import PyProof.Rows.All
import Wide.All
import OpenK.AllK
import Wide.FinOn
import HandS.ForMost
import HandS.IsInst
import HandS.Conv
import HandS.Style
import HandS.More
import HandS.Evl
import HandS.Zip
import HandS.SetFor
import HandS.Sort
import HandS.Wide
import HandS.Deep
import KE.SortData
import PySem.Challenge.RW_farorders_k13_whole_walks_there_and_back
set_option Elab.async false
set_option linter.all false
set_option maxRecDepth 100000
namespace Fo
open PySem PySem.Spec PyProof.Rows L2
/-! ### lists and orders -/
def rg (n : Nat) : List Int := (List.range n).map fun k => ((k : Nat) : Int)
def IsOrd (n : Nat) (ns : List Int) : Prop := ns.Perm (rg n)
theorem rg_len (n : Nat) : (rg n).length = n := by
  unfold rg
  rw [List.length_map, List.length_range]
theorem rg_mem {n : Nat} {x : Int} : x ∈ rg n ↔ 0 ≤ x ∧ x < n := by
  unfold rg
  rw [List.mem_map]
  constructor
  · rintro ⟨k, hk, rfl⟩
    have := List.mem_range.mp hk
    omega
  · rintro ⟨h0, h1⟩
    exact ⟨x.toNat, List.mem_range.mpr (by omega), by omega⟩
theorem rg_nodup (n : Nat) : (rg n).Nodup := by
  unfold rg
  exact List.Pairwise.map _ (fun a b h e => h (by omega)) List.nodup_range
theorem rg_sorted (n : Nat) : (rg n).Pairwise (· ≤ ·) := by
  unfold rg
  exact List.Pairwise.map _ (fun a b h => by omega) List.pairwise_lt_range
theorem rg_V (n : Nat) : rgV 0 (n : Int) = (rg n).map V.int := by
  unfold rgV rg
  rw [List.map_map, show ((n : Int) - 0).toNat = n by omega]
  apply List.map_congr_left
  intro a _
  show V.int (0 + (a : Int)) = V.int (a : Int)
  rw [Int.zero_add]
theorem IsOrd.len {n : Nat} {ns : List Int} (h : IsOrd n ns) : ns.length = n := (List.Perm.length_eq h).trans (rg_len n)
theorem IsOrd.mem {n : Nat} {ns : List Int} (h : IsOrd n ns) {x : Int} (m : x ∈ ns) : 0 ≤ x ∧ x < n := rg_mem.mp ((List.Perm.mem_iff h).mp m)
theorem IsOrd.nodup {n : Nat} {ns : List Int} (h : IsOrd n ns) : ns.Nodup := (List.Perm.nodup_iff h).mpr (rg_nodup n)
/-- two sorted lists of the same things are one -/
theorem sorted_eq : ∀ {a b : List Int}, a.Perm b → a.Pairwise (· ≤ ·) → b.Pairwise (· ≤ ·) → a = b := by
  intro a b hp ha hb
  exact List.Perm.eq_of_pairwise (fun x y _ _ h1 h2 => by omega) ha hb hp
/-- the things at p and p + 1 change places -/
def sw (xs : List Int) (p : Nat) : List Int := (xs.set p (xs.getD (p + 1) 0)).set (p + 1) (xs.getD p 0)
theorem split2 : ∀ {xs : List Int} {p : Nat}, p + 1 < xs.length → ∃ A a b B, xs = A ++ a :: b :: B ∧ A.length = p
  | [], p, h => by simp at h
  | [_], p, h => by simp at h
  | a :: b :: r, 0, _ => ⟨[], a, b, r, rfl, rfl⟩
  | a :: b :: r, p + 1, h => by
    obtain ⟨A, x, y, B, e, l⟩ := split2 (xs := b :: r) (p := p) (by simpa using h)
    exact ⟨a :: A, x, y, B, by rw [e]; rfl, by rw [List.length_cons, l]⟩
theorem sw_at : ∀ (A : List Int) (a b : Int) (B : List Int), sw (A ++ a :: b :: B) A.length = A ++ b :: a :: B
  | [], a, b, B => rfl
  | x :: A, a, b, B => by
    have ih := sw_at A a b B
    unfold sw at ih ⊢
    show x :: _ = x :: _
    exact congrArg (x :: ·) ih
theorem sw_perm {xs : List Int} {p : Nat} (h : p + 1 < xs.length) : (sw xs p).Perm xs := by
  obtain ⟨A, a, b, B, rfl, rfl⟩ := split2 h
  rw [sw_at]
  exact List.Perm.append_left A (List.Perm.swap a b B)
theorem sw_len (xs : List Int) (p : Nat) : (sw xs p).length = xs.length := by
  unfold sw
  rw [List.length_set, List.length_set]
theorem sw_ord {n : Nat} {xs : List Int} {p : Nat} (o : IsOrd n xs) (h : p + 1 < n) : IsOrd n (sw xs p) :=
  (sw_perm (by rw [o.len]; exact h)).trans o
theorem sw_V {xs : List Int} {p : Nat} {a b : Int} (ha : xs[p]? = some a) (hb : xs[p + 1]? = some b) : ((xs.map V.int).set p (V.int b)).set (p + 1) (V.int a) = (sw xs p).map V.int := by
  unfold sw
  rw [List.getD_eq_getElem?_getD, List.getD_eq_getElem?_getD, ha, hb, List.map_set, List.map_set]
  rfl
theorem pop_ins {xs : List Int} {p : Nat} {a : Int} (h : p + 1 < xs.length) (ha : xs[p]? = some a) : (xs.eraseIdx p).take (p + 1) ++ [a] ++ (xs.eraseIdx p).drop (p + 1) = sw xs p := by
  obtain ⟨A, x, y, B, rfl, rfl⟩ := split2 h
  have ex : x = a := by
    rw [List.getElem?_append_right (Nat.le_refl _), Nat.sub_self] at ha
    exact Option.some.inj ha
  subst ex
  rw [sw_at, List.eraseIdx_append_of_length_le (Nat.le_refl _), Nat.sub_self]
  show (A ++ y :: B).take (A.length + 1) ++ [x] ++ (A ++ y :: B).drop (A.length + 1) = _
  rw [List.take_append, List.drop_append]
  have t : A.length + 1 - A.length = 1 := by omega
  rw [t, List.take_of_length_le (by omega), List.drop_of_length_le (by omega)]
  simp
/-- the order at a walk's end -/
def wEnd (xs : List Int) (ws : List Int) : List Int := ws.foldl (fun x p => sw x p.toNat) xs
theorem wEnd_more {xs ws : List Int} {i : Nat} {p : Int} (h : ws[i]? = some p) : wEnd xs (ws.take (i + 1)) = sw (wEnd xs (ws.take i)) p.toNat := by
  unfold wEnd
  rw [List.take_add_one, h, List.foldl_append]
  rfl
theorem wEnd_ord {n : Nat} {xs : List Int} (o : IsOrd n xs) : ∀ {ws : List Int}, (∀ p ∈ ws, 0 ≤ p ∧ p + 1 < n) → IsOrd n (wEnd xs ws) := by
  intro ws
  induction ws generalizing xs with
  | nil => intro _; exact o
  | cons p ws ih =>
    intro h
    have hp := h p List.mem_cons_self
    exact ih (sw_ord o (by omega)) fun q hq => h q (List.mem_cons_of_mem _ hq)
theorem nodup_len : ∀ {l m : List Int}, l.Nodup → (∀ x ∈ l, x ∈ m) → l.length ≤ m.length
  | [], m, _, _ => Nat.zero_le _
  | a :: l, m, hn, hs => by
    obtain ⟨h1, h2⟩ := List.nodup_cons.mp hn
    have ha := hs a List.mem_cons_self
    have ih := nodup_len (l := l) (m := m.erase a) h2 fun x hx => by
      have ne : x ≠ a := fun e => h1 (by rw [← e]; exact hx)
      exact (List.mem_erase_of_ne ne).mpr (hs x (List.mem_cons_of_mem _ hx))
    rw [List.length_erase_of_mem ha] at ih
    have : 0 < m.length := List.length_pos_of_mem ha
    rw [List.length_cons]
    omega
theorem int_at {ns : List Int} {i : Nat} {x : Int} (h : ns[i]? = some x) : (ns.map V.int)[i]? = some (V.int x) := by
  rw [List.getElem?_map, h]
  rfl
theorem int_at_inv {ns : List Int} {i : Nat} {v : V} (h : (ns.map V.int)[i]? = some v) : ∃ x, ns[i]? = some x ∧ v = V.int x := by
  rw [List.getElem?_map] at h
  cases e : ns[i]? with
  | none => rw [e] at h; cases h
  | some x => rw [e] at h; exact ⟨x, rfl, (Option.some.inj h).symm⟩
theorem line_small {n : Nat} (h : n ≤ 16777216) : n ≤ sizeLine := by rw [sizeLine_eq]; exact h
theorem line_lt {n : Nat} (h : n < 16777216) : n < sizeLine := by rw [sizeLine_eq]; exact h
/-! ### data of ints -/
theorem dp_ints {K : PySem.W.Frag} {H : Hp} : ∀ ns : List Int, DpAll K H (ns.map V.int) (ns.map PyData.int)
  | [] => .nil
  | n :: r => .cons (.int n) (dp_ints r)
theorem dp_list {K : PySem.W.Frag} {H : Hp} {a : Addr} {ns : List Int} (h : H a = some (.lst (ns.map V.int))) : Dp K H (.ref a) (.list (ns.map PyData.int)) := .lst (SqL.of h) (dp_ints ns)
theorem eqv_int (i j : Int) : PyData.eqv (.int i) (.int j) = (i == j) := rfl
end Fo
namespace Fo
open PySem PySem.Spec PyProof.Rows L2
abbrev dI (ns : List Int) : List PyData := ns.map PyData.int
abbrev dL (ns : List Int) : PyData := .list (dI ns)
abbrev dLL (l : List (List Int)) : PyData := .list (l.map dL)
theorem lay_ints : ∀ ns : List Int, PyData.canLayAll0 (dI ns) = true
  | [] => rfl
  | n :: r => by
    show (PyData.canLay0 (.int n) && PyData.canLayAll0 (dI r)) = true
    rw [lay_ints r]
    rfl
theorem depth_ints : ∀ ns : List Int, PyData.depthAll (dI ns) = 0
  | [] => by simp [PyData.depthAll]
  | n :: r => by
    show PyData.depthAll (.int n :: dI r) = 0
    rw [PyData.depthAll, depth_ints r]
    simp [PyData.depth]
theorem lay_list (ns : List Int) : PyData.canLay0 (dL ns) = true := by
  rw [PyData.canLay0]
  exact lay_ints ns
theorem depth_list (ns : List Int) : PyData.depth (dL ns) = 1 := by
  rw [PyData.depth, depth_ints]
theorem shaped_list (ns : List Int) : SeqAt.shaped (dL ns) = true := by
  unfold SeqAt.shaped
  rw [lay_list, depth_list]
  rfl
theorem lay_lists : ∀ l : List (List Int), PyData.canLayAll0 (l.map dL) = true
  | [] => rfl
  | n :: r => by
    show (PyData.canLay0 (dL n) && PyData.canLayAll0 (r.map dL)) = true
    rw [lay_lists r, lay_list]
    rfl
theorem depth_lists : ∀ l : List (List Int), PyData.depthAll (l.map dL) ≤ 1
  | [] => by simp [PyData.depthAll]
  | n :: r => by
    show PyData.depthAll (dL n :: r.map dL) ≤ 1
    rw [PyData.depthAll, depth_list]
    have := depth_lists r
    omega
theorem shaped_lists (l : List (List Int)) : SeqAt.shaped (dLL l) = true := by
  unfold SeqAt.shaped
  rw [Bool.and_eq_true_iff]
  constructor
  · rw [PyData.canLay0]
    exact lay_lists l
  · apply decide_eq_true
    rw [PyData.depth]
    have := depth_lists l
    omega
theorem eqv_list (ns : List Int) : PyData.eqv (dL ns) (dL ns) = true := SeqAt.eqv_refl _ (lay_list ns)
theorem eqv_lists (l : List (List Int)) : PyData.eqv (dLL l) (dLL l) = true := SeqAt.eqv_refl _ (SeqAt.canLay_of_shaped (shaped_lists l))
theorem eqvAll_ints : ∀ a b : List Int, PyData.eqvAll (dI a) (dI b) = decide (a = b)
  | [], [] => by simp [PyData.eqvAll]
  | [], _ :: _ => by simp [PyData.eqvAll]
  | _ :: _, [] => by simp [PyData.eqvAll]
  | x :: a, y :: b => by
    show PyData.eqvAll (.int x :: dI a) (.int y :: dI b) = _
    rw [PyData.eqvAll, eqvAll_ints a b]
    show ((x == y) && decide (a = b)) = decide (x :: a = y :: b)
    by_cases h : x = y
    · subst h
      simp
    · simp [h]
theorem eqv_ints (a b : List Int) : PyData.eqv (dL a) (dL b) = decide (a = b) := by
  rw [PyData.eqv]
  exact eqvAll_ints a b
end Fo
namespace Fo
open PySem PySem.Spec PyProof.Rows L2
/-! ### slices of ints -/
def cutI (ws : List Int) (lo hi : Option Int) : List Int := (ws.drop (HT.sIx ws.length 0 lo)).take (HT.sIx ws.length ws.length hi - HT.sIx ws.length 0 lo)
theorem cut_ints (ws : List Int) (lo hi : Option Int) : cutV (ws.map V.int) lo hi = (cutI ws lo hi).map V.int := by
  unfold cutV cutI
  rw [List.length_map, List.map_take, List.map_drop]
theorem cutI_mem {ws : List Int} {lo hi : Option Int} {x : Int} (h : x ∈ cutI ws lo hi) : x ∈ ws := List.mem_of_mem_drop (List.mem_of_mem_take h)
theorem cutI_len (ws : List Int) (lo hi : Option Int) : (cutI ws lo hi).length ≤ ws.length := by
  unfold cutI
  rw [List.length_take, List.length_drop]
  omega
theorem cutI_head (ws : List Int) (k : Nat) : cutI ws none (some (k : Int)) = ws.take k := by
  unfold cutI
  rw [HT.sIx_none, HT.sIx_nat, List.drop_zero, Nat.sub_zero]
  by_cases h : k ≤ ws.length
  · rw [Nat.min_eq_left h]
  · rw [Nat.min_eq_right (by omega), List.take_length, List.take_of_length_le (by omega)]
theorem cutI_tail (ws : List Int) (k : Nat) : cutI ws (some (k : Int)) none = ws.drop k := by
  unfold cutI
  rw [HT.sIx_none, HT.sIx_nat]
  by_cases h : k ≤ ws.length
  · rw [Nat.min_eq_left h, List.take_of_length_le (by rw [List.length_drop]; exact Nat.le_refl _)]
  · rw [Nat.min_eq_right (by omega), List.drop_of_length_le (Nat.le_refl _), List.drop_of_length_le (by omega), List.take_nil]
end Fo
namespace Fo
open PySem PySem.Spec PyProof.Rows L2
/-! ### the text -/
def topS (i : Nat) : Stmt := PySem.Challenge.pw_farorders_k13_whole_walks_there_and_back.main.body.getD i (.Pass ⟨0, 0, 0, 0⟩)
abbrev s_OrderError : Stmt := topS 1
abbrev s_NoOrder : Stmt := topS 2
abbrev s_NoWay : Stmt := topS 3
abbrev s_NoFit : Stmt := topS 4
abbrev s_NoPlace : Stmt := topS 5
abbrev s_is_whole : Stmt := topS 8
abbrev s_check_way : Stmt := topS 9
abbrev s_is_order : Stmt := topS 12
abbrev s_check_order : Stmt := topS 13
abbrev s_check_orders : Stmt := topS 14
abbrev s_check_fit : Stmt := topS 15
abbrev s_places_in : Stmt := topS 16
abbrev s_seats_in : Stmt := topS 17
abbrev s_how_far : Stmt := topS 18
abbrev s_known_far : Stmt := topS 19
abbrev s_far_by_swap : Stmt := topS 20
abbrev s_far_by_spot : Stmt := topS 21
abbrev s_far_by_shift : Stmt := topS 22
abbrev s_is_walk : Stmt := topS 24
abbrev s_walk_end : Stmt := topS 25
abbrev s_exchange : Stmt := topS 26
abbrev s_short_walk : Stmt := topS 27
abbrev s_first_turned : Stmt := topS 28
abbrev s_rounds_between : Stmt := topS 29
abbrev s_followers_between : Stmt := topS 30
abbrev s_round_from : Stmt := topS 31
abbrev s_steps_between : Stmt := topS 32
abbrev s_law_deck : Stmt := topS 34
abbrev s_law_draw : Stmt := topS 35
abbrev s_law_order : Stmt := topS 36
abbrev s_law_things : Stmt := topS 37
abbrev s_law_near : Stmt := topS 38
abbrev s_law_walk_right : Stmt := topS 39
abbrev s_law_rounds_right : Stmt := topS 40
abbrev s_law : Stmt := topS 41
/-- a def of the text, where it stands -/
structure Df (K : PySem.W.Frag) (mg : Str → Option Value) (x : Str) (st : Stmt) (ps : List Str) (f : Addr) (fd : FuncData) : Prop where
  F : Fun K x x st f fd
  b : Binds K fd ps []
  g : mg x = some (.ref f)
/-- the built-in names as they were -/
structure Bi (mg : Str → Option Value) : Prop where
  abs : mg "abs" = none
  all : mg "all" = none
  bool : mg "bool" = none
  enumerate : mg "enumerate" = none
  int : mg "int" = none
  isinstance : mg "isinstance" = none
  len : mg "len" = none
  list : mg "list" = none
  max : mg "max" = none
  min : mg "min" = none
  range : mg "range" = none
  sorted : mg "sorted" = none
  str : mg "str" = none
  sum : mg "sum" = none
  zip : mg "zip" = none
end Fo
namespace Fo
open PySem PySem.Spec PyProof.Rows L2
theorem same_new {H : Hp} {p : Addr} {o : HO} (h : H p = none) : Same H (upd H p o) := fun b x e => by
  rw [upd_ne (ne_of_none e h)]
  exact e
theorem at2_0 {x y : V} : atI [x, y] 0 = some x := rfl
theorem at2_1 {x y : V} : atI [x, y] 1 = some y := rfl
end Fo
namespace Fo
open PySem PySem.Spec PyProof.Rows L2
theorem pop_perm : ∀ {xs : List Int} {k : Nat} {y : Int}, xs[k]? = some y → (y :: xs.eraseIdx k).Perm xs
  | [], k, y, h => by simp at h
  | a :: r, 0, y, h => by
    have e : a = y := Option.some.inj h
    subst e
    exact List.Perm.refl _
  | a :: r, k + 1, y, h => by
    have ih := pop_perm (xs := r) (k := k) (y := y) h
    show (y :: a :: r.eraseIdx k).Perm (a :: r)
    exact (List.Perm.swap a y _).trans (List.Perm.cons a ih)
theorem map_erase : ∀ (xs : List Int) (k : Nat), (xs.map V.int).eraseIdx k = (xs.eraseIdx k).map V.int
  | [], k => rfl
  | a :: r, 0 => rfl
  | a :: r, k + 1 => congrArg (V.int a :: ·) (map_erase r k)
/-- what len asks of a list or a tuple -/
abbrev rLenS (K : PySem.W.Frag) : List V → Hp → VK → Prop := fun xs H Q => ∃ p ys, xs = [.ref p] ∧ (SqL K H p ys ∨ SqT K H p ys) ∧ Q (.int ys.length) H
theorem seq_ix {i : Int} {k n : Nat} (e : i = (k : Int)) (h : k < n) : seqIndex? i n = some k := by
  subst e
  unfold seqIndex?
  have h1 : ¬ ((k : Int) < 0) := by omega
  simp only [h1, if_false]
  have h2 : (decide ((0 : Int) ≤ (k : Int)) && decide ((k : Int) < (n : Int))) = true := by
    simp
    omega
  rw [if_pos h2, Int.toNat_natCast]
theorem ix_n {i : Int} {k n : Nat} (e : i = (k : Int)) (h : k < n) : ixN n i = some k := by
  subst e
  unfold ixN
  rw [if_pos (by omega), if_pos (by omega), Int.toNat_natCast]
end Fo
namespace Fo
open PySem PySem.Spec PyProof.Rows L2
/-! ### the deck: a list of its pools and a number; a pool: three numbers -/
structure Dk where
  d : Addr
  pl : Addr
  as : List Addr
def Dk.Foot (D : Dk) (b : Addr) : Prop := b = D.d ∨ b = D.pl ∨ b ∈ D.as
structure DkAt (H : Hp) (D : Dk) : Prop where
  top : ∃ i : Int, H D.d = some (.lst [.ref D.pl, .int i])
  pools : H D.pl = some (.lst (D.as.map V.ref))
  len : 0 < D.as.length
  len2 : D.as.length ≤ 63
  at_ : ∀ a ∈ D.as, ∃ x y z : Int, H a = some (.lst [.int x, .int y, .int z])
def Keep (D : Dk) (H H' : Hp) : Prop := ∀ b o, H b = some o → ¬ D.Foot b → H' b = some o
theorem Keep.refl {D : Dk} (H : Hp) : Keep D H H := fun _ _ e _ => e
theorem Keep.trans {D : Dk} {H H1 H2 : Hp} (a : Keep D H H1) (b : Keep D H1 H2) : Keep D H H2 := fun c o e f => b c o (a c o e f) f
theorem Keep.new {D : Dk} {H : Hp} {p : Addr} {o : HO} (e : H p = none) : Keep D H (upd H p o) := fun b u h _ => by
  rw [upd_ne (ne_of_none h e)]
  exact h
theorem Keep.foot {D : Dk} {H : Hp} {p : Addr} {o : HO} (f : D.Foot p) : Keep D H (upd H p o) := fun b u h nf => by
  rw [upd_ne (fun e => nf (by rw [e]; exact f))]
  exact h
theorem Keep.of_same {D : Dk} {H H' : Hp} (h : Same H H') : Keep D H H' := fun b o e _ => h b o e
section
variable {H : Hp} {D : Dk}
theorem DkAt.tracked (h : DkAt H D) {b : Addr} (f : D.Foot b) : ∃ o, H b = some o := by
  rcases f with rfl | rfl | f
  · obtain ⟨i, e⟩ := h.top
    exact ⟨_, e⟩
  · exact ⟨_, h.pools⟩
  · obtain ⟨x, y, z, e⟩ := h.at_ b f
    exact ⟨_, e⟩
theorem DkAt.notFoot (h : DkAt H D) {p : Addr} (e : H p = none) : ¬ D.Foot p := fun f => by
  obtain ⟨o, q⟩ := h.tracked f
  rw [e] at q
  cases q
theorem DkAt.upd (h : DkAt H D) {p : Addr} {o : HO} (nf : ¬ D.Foot p) : DkAt (upd H p o) D where
  top := by
    obtain ⟨i, e⟩ := h.top
    exact ⟨i, by rw [upd_ne (fun q => nf (.inl q.symm))]; exact e⟩
  pools := by
    rw [upd_ne (fun q => nf (.inr (.inl q.symm)))]
    exact h.pools
  len := h.len
  len2 := h.len2
  at_ := fun a ha => by
    obtain ⟨x, y, z, e⟩ := h.at_ a ha
    exact ⟨x, y, z, by rw [upd_ne (fun q => nf (.inr (.inr (by rw [← q]; exact ha))))]; exact e⟩
theorem DkAt.new (h : DkAt H D) {p : Addr} {o : HO} (e : H p = none) : DkAt (L2.upd H p o) D := h.upd (h.notFoot e)
theorem DkAt.same (h : DkAt H D) {H' : Hp} (s : Same H H') : DkAt H' D := ⟨by obtain ⟨i, e⟩ := h.top; exact ⟨i, s _ _ e⟩, s _ _ h.pools, h.len, h.len2, fun a ha => by
  obtain ⟨x, y, z, e⟩ := h.at_ a ha
  exact ⟨x, y, z, s _ _ e⟩⟩
theorem DkAt.a_ne_d (h : DkAt H D) {a : Addr} (ha : a ∈ D.as) : a ≠ D.d := by
  obtain ⟨x, y, z, e⟩ := h.at_ a ha
  obtain ⟨i, e2⟩ := h.top
  exact ne_of e e2 (by intro q; cases q)
theorem DkAt.a_ne_pl (h : DkAt H D) {a : Addr} (ha : a ∈ D.as) : a ≠ D.pl := by
  obtain ⟨x, y, z, e⟩ := h.at_ a ha
  refine ne_of e h.pools ?_
  cases q : D.as with
  | nil => intro z; cases z
  | cons b r => intro z; cases z
theorem DkAt.d_ne_pl (h : DkAt H D) : D.d ≠ D.pl := by
  obtain ⟨i, e⟩ := h.top
  refine ne_of e h.pools ?_
  rcases q : D.as with _ | ⟨b, _ | ⟨c, r⟩⟩ <;> (intro z; cases z)
theorem DkAt.pool (h : DkAt H D) {a : Addr} (ha : a ∈ D.as) {x y z : Int} : DkAt (L2.upd H a (.lst [.int x, .int y, .int z])) D where
  top := by
    obtain ⟨i, e⟩ := h.top
    exact ⟨i, by rw [upd_ne (h.a_ne_d ha).symm]; exact e⟩
  pools := by
    rw [upd_ne (h.a_ne_pl ha).symm]
    exact h.pools
  len := h.len
  len2 := h.len2
  at_ := fun b hb => by
    by_cases q : b = a
    · subst q
      exact ⟨x, y, z, upd_same⟩
    · obtain ⟨x', y', z', e⟩ := h.at_ b hb
      exact ⟨x', y', z', by rw [upd_ne q]; exact e⟩
theorem DkAt.step (h : DkAt H D) {i : Int} : DkAt (L2.upd H D.d (.lst [.ref D.pl, .int i])) D where
  top := ⟨i, upd_same⟩
  pools := by
    rw [upd_ne h.d_ne_pl.symm]
    exact h.pools
  len := h.len
  len2 := h.len2
  at_ := fun b hb => by
    obtain ⟨x', y', z', e⟩ := h.at_ b hb
    exact ⟨x', y', z', by rw [upd_ne (h.a_ne_d hb)]; exact e⟩
end
/-! ### the promises of the law's own defs -/
def spDeck (K : PySem.W.Frag) : Sp := fun vs H Q _ => ∃ (a : Addr) (ns : List Int), vs = [.ref a] ∧ SqL K H a (ns.map V.int) ∧ ns.length ≤ 63 ∧
  ∀ (D : Dk) (H' : Hp), DkAt H' D → Same H H' → (∀ b, D.Foot b → H b = none) → Q (.ref D.d) H'
def spDraw : Sp := fun vs H Q _ => ∃ (D : Dk) (many : Int), vs = [.ref D.d, .int many] ∧ DkAt H D ∧ 0 < many ∧ many < 1000000 ∧
  ∀ (v : Int) (H' : Hp), 0 ≤ v → v < many → DkAt H' D → Keep D H H' → Q (.int v) H'
def spThings : Sp := fun vs H Q _ => ∃ (D : Dk), vs = [.ref D.d] ∧ DkAt H D ∧
  ∀ (n : Nat) (H' : Hp), 1 ≤ n → n ≤ 12 → DkAt H' D → Keep D H H' → Q (.int n) H'
def spOrder : Sp := fun vs H Q _ => ∃ (D : Dk) (n : Nat), vs = [.ref D.d, .int n] ∧ DkAt H D ∧ 1 ≤ n ∧ n ≤ 12 ∧
  ∀ (ns : List Int) (l : Addr) (H' : Hp), IsOrd n ns → H l = none → H' l = some (.lst (ns.map V.int)) → ¬ D.Foot l → DkAt H' D → Keep D H H' → Q (.ref l) H'
section
variable {P : Program} {w : World} {K : PySem.W.Frag} {mg : Str → Option Value} {base : Heap}
/-! ### a draw -/
theorem scDraw : FnScope ["deck", "many", "pool", "found", "number"] ["deck", "many"] (defScope s_law_draw) := ⟨rfl, rfl, rfl, by decide +kernel, rfl, by decide +kernel, by decide +kernel⟩
theorem at3_0 {x y z : V} : atI [x, y, z] 0 = some x := rfl
theorem at3_1 {x y z : V} : atI [x, y, z] 1 = some y := rfl
theorem at3_2 {x y z : V} : atI [x, y, z] 2 = some z := rfl
set_option maxHeartbeats 2000000 in
theorem ok_draw {f : Addr} {fd : FuncData} {k : Nat} (T : Df K mg "_law_draw" s_law_draw ["deck", "many"] f fd) (B : Bi mg) : FnOk P w K mg base CX0 (k + 1) f fd ["deck", "many"] spDraw := by
  refine T.F.ok scDraw (fun vs H Q E h => ?_) (fun cdv A outer s H vs Q E hr h => ?_)
  · obtain ⟨D, m, rfl, _⟩ := h
    rfl
  · obtain ⟨D, m, rfl, hD, hm0, hm1, q⟩ := h
    refine ⟨_, pss_cons (ps_set (i := 2) scDraw.nd rfl (.inl rfl) (pe_ix ix_list (pe_ix ix_list (pv 0) pe_int (fun _ _ => rfl)) (pe_op op_mod (pe_ix ix_list (pv 0) pe_int (fun _ _ => rfl)) (pe_callB call_len_seq (by rfl) B.len PySem.boot_len (pa_cons (pe_ix ix_list (pv 0) pe_int (fun _ _ => rfl)) pa_nil))) (fun _ _ => rfl)))
      (pss_cons (ps_asg (pe_op op_add (pe_ix ix_list (pv 0) pe_int (fun _ _ => rfl)) pe_int) (pg_sub (pv 0) pe_int set_list))
      (Evl.pss_cut (ps_if (PW.pt (pw_and (pt_cmpR op_eq (pe_ix ix_list (pv 2) pe_int (fun _ _ => rfl)) pe_int (nomark _)) (pw_and1 (pt_cmpR op_gt (pe_ix ix_list (pv 2) pe_int (fun _ _ => rfl)) pe_int (nomark _)))))
        (pss_cons (ps_set (i := 3) scDraw.nd rfl (.inl rfl) (pe_op op_mod (pe_ix ix_list (pv 2) pe_int (fun _ _ => rfl)) (pv 1)))
        (pss_cons (ps_asg (pe_op op_fdiv (pe_ix ix_list (pv 2) pe_int (fun _ _ => rfl)) (pv 1)) (pg_sub (pv 2) pe_int set_list))
        (pss_one (ps_ret (pv 3))))) pss_nil)
      (pss_cons (ps_asg (pe_op op_add (pe_ix ix_list (pv 2) pe_int (fun _ _ => rfl)) pe_int) (pg_sub (pv 2) pe_int set_list))
      (pss_cons (ps_set (i := 4) scDraw.nd rfl (.inl rfl) (pe_op op_mod (pe_op op_add (pe_op op_mod (pe_ix ix_list (pv 2) pe_int (fun _ _ => rfl)) pe_int) (pe_op op_mul pe_int (pe_ix ix_list (pv 2) pe_int (fun _ _ => rfl)))) pe_int))
      (pss_cons (ps_set (i := 4) scDraw.nd rfl (.inl rfl) (pe_op op_mod (pe_op op_mul (pv 4) (pv 4)) pe_int))
      (pss_cons (ps_set (i := 4) scDraw.nd rfl (.inl rfl) (pe_op op_mod (pe_op op_mul (pv 4) (pe_op op_add (pv 4) pe_int)) pe_int))
      (pss_one (ps_ret (pe_op op_mod (pe_op op_fdiv (pv 4) pe_int) (pv 1)))))))))), ?_⟩
    obtain ⟨i, hd⟩ := hD.top
    have hl := hD.len
    -- pool = deck[0][deck[1] % len(deck[0])]
    obtain ⟨j, hj, ej⟩ : ∃ j : Nat, j < D.as.length ∧ i % (((D.as.map V.ref).length : Nat) : Int) = (j : Int) := by
      rw [List.length_map]
      have h1 := Int.emod_nonneg i (show ((D.as.length : Nat) : Int) ≠ 0 by omega)
      have h2 := Int.emod_lt_of_pos i (show (0 : Int) < ((D.as.length : Nat) : Int) by omega)
      exact ⟨(i % ((D.as.length : Nat) : Int)).toNat, by omega, by omega⟩
    obtain ⟨a, ea⟩ : ∃ a, D.as[j]? = some a := ⟨D.as[j], List.getElem?_eq_getElem hj⟩
    have ha : a ∈ D.as := List.mem_of_getElem? ea
    have eV : (D.as.map V.ref)[j]? = some (V.ref a) := by rw [List.getElem?_map, ea]; rfl
    obtain ⟨x, y, z, hp⟩ := hD.at_ a ha
    refine ⟨_, rfl, D.d, _, 0, _, rfl, rfl, SqL.of hd, at2_0, _, rfl, D.d, _, 1, _, rfl, rfl, SqL.of hd, at2_1, _, rfl, D.d, _, 0, _, rfl, rfl, SqL.of hd, at2_0, D.pl, _, rfl, .inl (SqL.of hD.pools), i, _, rfl, rfl, ?_, D.pl, _, _, .ref a, rfl, rfl, SqL.of hD.pools, at_of ej eV, ?_⟩
    · rw [List.length_map]; omega
    -- deck[1] = deck[1] + 1
    refine ⟨_, rfl, D.d, _, 1, _, rfl, rfl, SqL.of hd, at2_1, i, 1, rfl, rfl, _, rfl, D.d, _, 1, 1, rfl, rfl, hd, rfl, ?_⟩
    have hD1 : DkAt (upd H D.d (.lst [.ref D.pl, .int (i + 1)])) D := hD.step
    have k1 : Keep D H (upd H D.d (.lst [.ref D.pl, .int (i + 1)])) := Keep.foot (.inl rfl)
    have hp1 : (upd H D.d (.lst [.ref D.pl, .int (i + 1)])) a = some (.lst [.int x, .int y, .int z]) := by
      rw [upd_ne (hD.a_ne_d ha)]
      exact hp
    refine ⟨fun σ' H' => σ' = [some (.ref D.d), some (.int m), some (.ref a), none, none] ∧ H' = upd H D.d (.lst [.ref D.pl, .int (i + 1)]), ?_, fun σ' H' hM => ?_⟩
    · -- if pool[1] == 1 and pool[0] > 0
      refine ⟨_, rfl, a, _, 1, _, rfl, rfl, SqL.of hp1, at3_1, rfl, _, rfl, ite2 (fun _ => ?_) (fun _ => iteF ⟨rfl, rfl⟩)⟩
      refine ⟨_, rfl, a, _, 0, _, rfl, rfl, SqL.of hp1, at3_0, x, 0, rfl, rfl, _, rfl, ite2 (fun _ => ?_) (fun _ => ⟨rfl, rfl⟩)⟩
      -- found = pool[0] % many; pool[0] = pool[0] // many
      refine ⟨_, rfl, a, _, 0, _, rfl, rfl, SqL.of hp1, at3_0, _, rfl, x, m, rfl, rfl, hm0, ?_⟩
      refine ⟨_, rfl, a, _, 0, _, rfl, rfl, SqL.of hp1, at3_0, _, rfl, x, m, rfl, rfl, ⟨hm0, by omega⟩, _, rfl, a, _, 0, 0, rfl, rfl, hp1, rfl, ?_⟩
      exact ⟨_, rfl, q _ _ (Int.emod_nonneg x (by omega)) (Int.emod_lt_of_pos x hm0) (hD1.pool ha) (k1.trans (Keep.foot (.inr (.inr ha))))⟩
    · obtain ⟨rfl, rfl⟩ := hM
      -- pool[2] = pool[2] + 1
      refine ⟨_, rfl, a, _, 2, _, rfl, rfl, SqL.of hp1, at3_2, z, 1, rfl, rfl, _, rfl, a, _, 2, 2, rfl, rfl, hp1, rfl, ?_⟩
      have hD2 : DkAt (upd (upd H D.d (.lst [.ref D.pl, .int (i + 1)])) a (.lst [.int x, .int y, .int (z + 1)])) D := hD1.pool ha
      have k2 : Keep D H (upd (upd H D.d (.lst [.ref D.pl, .int (i + 1)])) a (.lst [.int x, .int y, .int (z + 1)])) := k1.trans (Keep.foot (.inr (.inr ha)))
      have hp2 : (upd (upd H D.d (.lst [.ref D.pl, .int (i + 1)])) a (.lst [.int x, .int y, .int (z + 1)])) a = some (.lst [.int x, .int y, .int (z + 1)]) := upd_same
      refine ⟨_, rfl, a, _, 0, _, rfl, rfl, SqL.of hp2, at3_0, x, 99999999977, rfl, rfl, (show (0 : Int) < 99999999977 by decide), _, rfl, a, _, 2, _, rfl, rfl, SqL.of hp2, at3_2, 700001, z + 1, rfl, rfl, .inl ⟨by decide, by decide⟩, _, _, rfl, rfl, _, 99999999947, rfl, rfl, (show (0 : Int) < 99999999947 by decide), ?_⟩
      have b1 := Int.emod_nonneg (x % 99999999977 + 700001 * (z + 1)) (show (99999999947 : Int) ≠ 0 by decide)
      have b2 := Int.emod_lt_of_pos (x % 99999999977 + 700001 * (z + 1)) (show (0 : Int) < 99999999947 by decide)
      refine ⟨_, rfl, _, rfl, _, _, rfl, rfl, .inl ⟨?_, ?_⟩, _, 99999999821, rfl, rfl, (show (0 : Int) < 99999999821 by decide), ?_⟩
      · exact Int.lt_of_lt_of_le (by decide) b1
      · exact Int.lt_trans b2 (by decide)
      generalize hn : (x % 99999999977 + 700001 * (z + 1)) % 99999999947 = n1
      have c1 := Int.emod_nonneg (n1 * n1) (show (99999999821 : Int) ≠ 0 by decide)
      have c2 := Int.emod_lt_of_pos (n1 * n1) (show (0 : Int) < 99999999821 by decide)
      refine ⟨_, rfl, _, rfl, _, 19, rfl, rfl, _, _, rfl, rfl, .inl ⟨?_, ?_⟩, _, 9999999967, rfl, rfl, (show (0 : Int) < 9999999967 by decide), ?_⟩
      · exact Int.lt_of_lt_of_le (by decide) c1
      · exact Int.lt_trans c2 (by decide)
      refine ⟨_, rfl, _, 13, rfl, rfl, ⟨by decide, by decide⟩, _, rfl, _, m, rfl, rfl, hm0, ?_⟩
      exact q _ _ (Int.emod_nonneg _ (by omega)) (Int.emod_lt_of_pos _ hm0) hD2 k2
end
end Fo
namespace Fo
open PySem PySem.Spec PyProof.Rows L2
section
variable {P : Program} {w : World} {K : PySem.W.Frag} {mg : Str → Option Value} {base : Heap}
/-! ### how many things -/
theorem scThings : FnScope ["deck"] ["deck"] (defScope s_law_things) := ⟨rfl, rfl, rfl, by decide +kernel, rfl, by decide +kernel, by decide +kernel⟩
set_option maxHeartbeats 2000000 in
theorem ok_things {f fD : Addr} {fd fdD : FuncData} {k : Nat} (T : Df K mg "_law_things" s_law_things ["deck"] f fd) (TD : Df K mg "_law_draw" s_law_draw ["deck", "many"] fD fdD) (B : Bi mg) : FnOk P w K mg base CX0 (k + 2) f fd ["deck"] spThings := by
  have GD : FnOk P w K mg base CX0 (k + 1) fD fdD ["deck", "many"] spDraw := ok_draw TD B
  refine T.F.ok scThings (fun vs H Q E h => ?_) (fun cdv A outer s H vs Q E hr h => ?_)
  · obtain ⟨D, rfl, _⟩ := h
    rfl
  · obtain ⟨D, rfl, hD, q⟩ := h
    refine ⟨_, pss_one (ps_ret (pe_ix ix_list (pe_lst
      (pa_cons (pe_op op_add pe_int (pe_call GD hr (by rfl) TD.g TD.F.kp TD.b .nil pass0 (pa_cons (pv 0) (pa_cons pe_int pa_nil))))
      (pa_cons (pe_op op_add pe_int (pe_call GD hr (by rfl) TD.g TD.F.kp TD.b .nil pass0 (pa_cons (pv 0) (pa_cons pe_int pa_nil))))
      (pa_cons (pe_op op_add pe_int (pe_call GD hr (by rfl) TD.g TD.F.kp TD.b .nil pass0 (pa_cons (pv 0) (pa_cons pe_int pa_nil))))
      (pa_cons pe_int pa_nil)))))
      (pe_call GD hr (by rfl) TD.g TD.F.kp TD.b .nil pass0 (pa_cons (pv 0) (pa_cons pe_int pa_nil))) (fun _ _ => rfl))), ?_⟩
    refine ⟨_, rfl, D, 4, rfl, hD, by decide, by decide, fun v1 H1 l1 u1 D1 k1 => ⟨1, v1, rfl, rfl, ?_⟩⟩
    refine ⟨_, rfl, D, 8, rfl, D1, by decide, by decide, fun v2 H2 l2 u2 D2 k2 => ⟨1, v2, rfl, rfl, ?_⟩⟩
    refine ⟨_, rfl, D, 12, rfl, D2, by decide, by decide, fun v3 H3 l3 u3 D3 k3 => ⟨1, v3, rfl, rfl, ?_⟩⟩
    refine ⟨line_small (by show 4 ≤ 16777216; decide), fun p np => ?_⟩
    refine ⟨_, rfl, D, 4, rfl, D3.new np, by decide, by decide, fun v4 H4 l4 u4 D4 k4 => ?_⟩
    have hp : H4 p = some (.lst [.int (1 + v1), .int (1 + v2), .int (1 + v3), .int 12]) := k4 p _ upd_same (D3.notFoot np)
    have kk : Keep D H H4 := ((k1.trans k2).trans k3).trans ((Keep.new np).trans k4)
    have fin : ∀ v : Int, 1 ≤ v → v ≤ 12 → Q (.int v) H4 := fun v h1 h2 => by
      have z := q v.toNat H4 (by omega) (by omega) D4 kk
      rw [Int.toNat_of_nonneg (by omega)] at z
      exact z
    have hv : v4 = 0 ∨ v4 = 1 ∨ v4 = 2 ∨ v4 = 3 := by omega
    rcases hv with rfl | rfl | rfl | rfl
    · exact ⟨p, _, 0, _, rfl, rfl, SqL.of hp, rfl, fin _ (by omega) (by omega)⟩
    · exact ⟨p, _, 1, _, rfl, rfl, SqL.of hp, rfl, fin _ (by omega) (by omega)⟩
    · exact ⟨p, _, 2, _, rfl, rfl, SqL.of hp, rfl, fin _ (by omega) (by omega)⟩
    · exact ⟨p, _, 3, _, rfl, rfl, SqL.of hp, rfl, fin _ (by omega) (by omega)⟩
/-! ### the deck is made -/
theorem scDeck : FnScope ["script", "pools", "k", "cell"] ["script"] (defScope s_law_deck) := ⟨rfl, rfl, rfl, by decide +kernel, rfl, by decide +kernel, by decide +kernel⟩
set_option maxHeartbeats 2000000 in
theorem ok_deck {f : Addr} {fd : FuncData} {k : Nat} (T : Df K mg "_law_deck" s_law_deck ["script"] f fd) (B : Bi mg) : FnOk P w K mg base CX0 (k + 1) f fd ["script"] (spDeck K) := by
  refine T.F.ok scDeck (fun vs H Q E h => ?_) (fun cdv A outer s H vs Q E hr h => ?_)
  · obtain ⟨a, ns, rfl, _⟩ := h
    rfl
  · obtain ⟨a, ns, rfl, hS, hlen, q⟩ := h
    refine ⟨_, pss_cons (ps_set (i := 1) scDeck.nd rfl (.inl rfl) (pe_lst pa_nil))
      (pss_cons (ps_for PassesOwn.never rfl (pi_range1 (by rfl) B.range (pa_cons (pe_callB (call_max2 rfl) (by rfl) B.max (by decide +kernel) (pa_cons pe_int (pa_cons (pe_callB (call_min2 rfl) (by rfl) B.min (by decide +kernel) (pa_cons pe_int (pa_cons (pe_callB call_len_seq (by rfl) B.len PySem.boot_len (pa_cons (pv 0) pa_nil)) pa_nil))) pa_nil))) pa_nil)) (pg_name (i := 2) scDeck.nd rfl (.inl rfl))
        (pss_cons (ps_set (i := 3) scDeck.nd rfl (.inl rfl) pe_int)
        (Evl.pss_cut (ps_if (pt_cmpR op_lt (pv 2) (pe_callB call_len_seq (by rfl) B.len PySem.boot_len (pa_cons (pv 0) pa_nil)) (nomark _)) (pss_one (ps_set (i := 3) scDeck.nd rfl (.inl rfl) (pe_ix ix_list (pv 0) (pv 2) (fun _ _ => rfl)))) pss_nil)
        (pss_one (ps_expr (pe_bm PySem.F.plainAttrs_list PySem.F.slot_list_append PySem.F.type_list_append mt_append (pv 1) (pa_cons (pe_lst (pa_cons (pv 3) (pa_cons (pe_callTy call_int1 (by rfl) B.int (by decide +kernel) (pa_cons (pe_cmpR op_ge (pv 3) (pe_op op_pow pe_int pe_int) (nomark _)) pa_nil)) (pa_cons (pe_op op_mul pe_int (pv 2)) pa_nil)))) pa_nil)))))))
      (pss_one (ps_ret (pe_lst (pa_cons (pv 1) (pa_cons pe_int pa_nil)))))), ?_⟩
    refine ⟨Nat.zero_le _, fun pl np => ?_⟩
    have s1 : Same H (upd H pl (.lst [])) := same_new np
    have hlm : (ns.map V.int).length = ns.length := List.length_map _
    obtain ⟨m, hm1, hm2, em⟩ : ∃ m : Nat, 1 ≤ m ∧ m ≤ 63 ∧ (if (if ((ns.map V.int).length : Int) < 63 then ((ns.map V.int).length : Int) else 63) > 1 then (if ((ns.map V.int).length : Int) < 63 then ((ns.map V.int).length : Int) else 63) else 1) = (m : Int) := by
      rw [hlm]
      refine ⟨max 1 (min 63 ns.length), by omega, by omega, ?_⟩
      split <;> split <;> omega
    refine ⟨.ref a, rfl, a, _, rfl, .inl (s1.seq hS), 63, _, rfl, 1, _, rfl, _, rfl, ?_, ?_, ?_⟩
    · rw [em]; omega
    · rw [em]; omega
    · rw [em, Int.toNat_natCast]
      refine for_range (n := m) (fun i σ H3 => ∃ (as : List Addr) (yk yc : Option V), σ = [some (.ref a), some (.ref pl), yk, yc] ∧ as.length = i ∧ H3 pl = some (.lst (as.map V.ref)) ∧ (∀ b ∈ as, (∃ x y z : Int, H3 b = some (.lst [.int x, .int y, .int z])) ∧ H b = none) ∧ Same H H3)
        ⟨[], none, none, rfl, rfl, upd_same, (fun b hb => absurd hb List.not_mem_nil), s1⟩ (fun i σ H3 hi hP => ?_) (fun σ H3 hP => ?_)
      · obtain ⟨as, yk, yc, rfl, el, hpl, hat, sm⟩ := hP
        refine ⟨fun σ' H' => ∃ c : Int, σ' = [some (.ref a), some (.ref pl), some (.int (0 + i)), some (.int c)] ∧ H' = H3, ?_, fun σ' H' hM => ?_⟩
        · refine ⟨_, rfl, .ref a, rfl, a, _, rfl, .inl (sm.seq hS), _, _, rfl, rfl, _, rfl, ite2 (fun hc => ?_) (fun _ => ⟨0, rfl, rfl⟩)⟩
          have hlt : (0 + (i : Int)) < (ns.map V.int).length := of_decide_eq_true hc
          rw [hlm] at hlt
          have hix : i < ns.length := by omega
          exact ⟨_, rfl, _, rfl, a, _, _, _, rfl, rfl, sm.seq hS, at_of (j := i) (by omega) (int_at (List.getElem?_eq_getElem hix)), ns[i], rfl, rfl⟩
        · obtain ⟨c, rfl, rfl⟩ := hM
          refine ⟨_, rfl, .inl ⟨rfl, _, SqL.of hpl⟩, _, rfl, _, rfl, 10, 18, rfl, rfl, ⟨by decide, by decide, by decide⟩, _, _, rfl, rfl, .inr ⟨_, rfl, _, rfl, 31, _, rfl, rfl, .inl ⟨by decide, by decide⟩, line_small (by show 3 ≤ 16777216; decide), fun p np2 => ?_⟩⟩
          have hpl2 : (upd H' p (.lst [.int c, .int (if decide ((10 : Int) ^ (18 : Int).toNat ≤ c) = true then 1 else 0), .int (31 * (0 + (i : Int)))])) pl = some (.lst (as.map V.ref)) := same_new np2 _ _ hpl
          refine ⟨pl, _, _, rfl, rfl, hpl2, line_lt (by rw [List.length_map]; omega), ?_⟩
          have npl : p ≠ pl := (ne_of_none hpl np2).symm
          refine ⟨as ++ [p], _, _, rfl, by rw [List.length_append, el]; rfl, by rw [upd_same, List.map_append]; rfl, fun b hb => ?_, fun b o e => ?_⟩
          · rcases List.mem_append.mp hb with hb | hb
            · obtain ⟨⟨x, y, z, e⟩, n⟩ := hat b hb
              refine ⟨⟨x, y, z, ?_⟩, n⟩
              rw [upd_ne (show b ≠ pl from ?_), upd_ne (ne_of_none e np2)]
              · exact e
              · intro z
                rw [z] at e
                rw [hpl] at e
                cases as with
                | nil => cases e
                | cons u r => cases e
            · have eb : b = p := List.mem_singleton.mp hb
              subst eb
              exact ⟨⟨_, _, _, by rw [upd_ne npl]; exact upd_same⟩, sm.free np2⟩
          · rw [upd_ne (ne_of_none e np), upd_ne (ne_of_none (sm _ _ e) np2)]
            exact sm _ _ e
      · obtain ⟨as, yk, yc, rfl, el, hpl, hat, sm⟩ := hP
        refine ⟨_, rfl, line_small (by show 2 ≤ 16777216; decide), fun d nd => ?_⟩
        refine q ⟨d, pl, as⟩ _ ⟨⟨0, upd_same⟩, ?_, ?_, ?_, fun b hb => ?_⟩ (sm.trans (same_new nd)) (fun b hb => ?_)
        · exact same_new nd _ _ hpl
        · show 0 < as.length
          omega
        · show as.length ≤ 63
          omega
        · obtain ⟨⟨x, y, z, e⟩, n⟩ := hat b hb
          exact ⟨x, y, z, same_new nd _ _ e⟩
        · rcases hb with rfl | rfl | hb
          · exact sm.free nd
          · exact np
          · exact (hat b hb).2
end
end Fo
namespace Fo
open PySem PySem.Spec PyProof.Rows L2
section
variable {P : Program} {w : World} {K : PySem.W.Frag} {mg : Str → Option Value} {base : Heap}
theorem scOrder : FnScope ["deck", "n", "left", "way", "k", "p"] ["deck", "n"] (defScope s_law_order) := ⟨rfl, rfl, rfl, by decide +kernel, rfl, by decide +kernel, by decide +kernel⟩
set_option maxHeartbeats 4000000 in
theorem ok_order {f fD : Addr} {fd fdD : FuncData} {k : Nat} (T : Df K mg "_law_order" s_law_order ["deck", "n"] f fd) (TD : Df K mg "_law_draw" s_law_draw ["deck", "many"] fD fdD) (B : Bi mg) : FnOk P w K mg base CX0 (k + 2) f fd ["deck", "n"] spOrder := by
  have GD : FnOk P w K mg base CX0 (k + 1) fD fdD ["deck", "many"] spDraw := ok_draw TD B
  refine T.F.ok scOrder (fun vs H Q E h => ?_) (fun cdv A outer s H vs Q E hr h => ?_)
  · obtain ⟨D, n, rfl, _⟩ := h
    rfl
  · obtain ⟨D, n, rfl, hD, hn1, hn2, q⟩ := h
    refine ⟨_, pss_cons (ps_set (i := 2) scOrder.nd rfl (.inr rfl) (pe_listRg rfl (by rfl) B.list (prg_1 (by rfl) B.range (pv 1))))
      (pss_cons (ps_set (i := 3) scOrder.nd rfl (.inl rfl) (pe_call GD hr (by rfl) TD.g TD.F.kp TD.b .nil pass0 (pa_cons (pv 0) (pa_cons pe_int pa_nil))))
      (pss_cons (ps_if (pt_cmpR op_eq (pv 3) pe_int (nomark _)) (pss_one (ps_ret (pe_lc (own := [("k", 4)]) (g := gName 4) (tt := tYes) (te := tBM K "list" rPopAt (tVar 2) (tCons (tCall spDraw [] E0 (tCons (tVar 0) (tCons (tCB (rLenS K) (tCons (tVar 2) tNil)) tNil))) tNil)) rfl scOrder.nd (pi_range1 (by rfl) B.range (pa_cons (pv 1) pa_nil)) (blkOk_by (N := ["deck", "n", "left", "way", "k", "p"]) (sc := defScope s_law_order) (by decide +kernel)) (fun _ _ _ _ _ => pg_name (i := 4) scOrder.nd rfl (.inl rfl)) (fun _ _ _ _ _ => pts_nil)
          (fun _ _ _ _ _ => pe_bm PySem.F.plainAttrs_list PySem.F.slot_list_pop PySem.F.type_list_pop mt_popAt (pv 2) (pa_cons (pe_call GD hr (by rfl) TD.g TD.F.kp TD.b .nil pass0 (pa_cons (pv 0) (pa_cons (pe_callB call_len_seq (by rfl) B.len PySem.boot_len (pa_cons (pv 2) pa_nil)) pa_nil))) pa_nil))))) pss_nil)
      (Evl.pss_cut (ps_if (pt_cmpR op_eq (pv 3) pe_int (nomark _)) (pss_one (ps_set (i := 2) scOrder.nd rfl (.inr rfl) (pe_revL (pv 2)))) pss_nil)
      (pss_cons (ps_for PassesOwn.never rfl (pi_range1 (by rfl) B.range (pa_cons (pe_op op_mul (pe_call GD hr (by rfl) TD.g TD.F.kp TD.b .nil pass0 (pa_cons (pv 0) (pa_cons pe_int pa_nil))) (pe_callTy call_int1 (by rfl) B.int (by decide +kernel) (pa_cons (pe_cmpR op_gt (pv 1) pe_int (nomark _)) pa_nil))) pa_nil)) (pg_name (i := 4) scOrder.nd rfl (.inl rfl))
        (pss_cons (ps_set (i := 5) scOrder.nd rfl (.inl rfl) (pe_call GD hr (by rfl) TD.g TD.F.kp TD.b .nil pass0 (pa_cons (pv 0) (pa_cons (pe_op op_sub (pv 1) pe_int) pa_nil))))
        (pss_one (ps_asg (pe_tup (pa_cons (pe_ix ix_list (pv 2) (pe_op op_add (pv 5) pe_int) (fun _ _ => rfl)) (pa_cons (pe_ix ix_list (pv 2) (pv 5) (fun _ _ => rfl)) pa_nil))) (pg_tup (by rfl) (pgs_cons (pg_sub (pv 2) (pv 5) set_list) (pgs_cons (pg_sub (pv 2) (pe_op op_add (pv 5) pe_int) set_list) pgs_nil)))))))
      (pss_one (ps_ret (pv 2))))))), ?_⟩
    -- left = list(range(n))
    refine ⟨_, rfl, n, rfl, RgOk.of_le (by omega) (by omega) (by omega) (by omega), fun l nl => ?_⟩
    have hl0 : (upd H l (.lst (rgV 0 (n : Int)))) l = some (.lst ((rg n).map V.int)) := by rw [upd_same, rg_V]
    have D0 := hD.new (o := .lst (rgV 0 (n : Int))) nl
    have nf := hD.notFoot nl
    -- way = draw 4
    refine ⟨_, rfl, D, 4, rfl, D0, by decide, by decide, fun way H1 w0 w1 D1 k1 => ?_⟩
    have hl1 := k1 l _ hl0 nf
    have kk1 : Keep D H H1 := (Keep.new nl).trans k1
    -- if way == 0
    refine ⟨_, rfl, rfl, _, rfl, ite2 (fun _ => ?_) (fun _ => ?_)⟩
    · refine ⟨_, rfl, n, rfl, by omega, by omega, ?_⟩
      rw [Int.toNat_natCast]
      intro p np
      have npf := D1.notFoot np
      have lp : l ≠ p := ne_of_none hl1 np
      refine lc_range (lo := 0) (n := n) (fun i H3 => ∃ (rest acc : List Int), (acc ++ rest).Perm (rg n) ∧ acc.length = i ∧ H3 l = some (.lst (rest.map V.int)) ∧ H3 p = some (.lst (acc.map V.int)) ∧ DkAt H3 D ∧ ∀ b o, H b = some o → ¬ D.Foot b → H3 b = some o)
        ⟨rg n, [], List.Perm.refl _, rfl, by rw [upd_ne lp]; exact hl1, upd_same, D1.new np, fun b o e f => by rw [upd_ne (ne_of_none (kk1 b o e f) np)]; exact kk1 b o e f⟩ (fun i H3 hi hP => ?_) (fun H3 hP => ?_)
      · obtain ⟨rest, acc, hperm, el, hl3, hp3, D3, kp3⟩ := hP
        have hlen : rest.length = n - i := by
          have := List.Perm.length_eq hperm
          rw [List.length_append, rg_len] at this
          omega
        have hlm : (rest.map V.int).length = rest.length := List.length_map _
        refine ⟨rfl, ?_⟩
        refine ⟨_, rfl, .inl ⟨rfl, _, SqL.of hl3⟩, _, rfl, _, rfl, l, _, rfl, .inl (SqL.of hl3), D, _, rfl, D3, by rw [hlm]; omega, by rw [hlm]; omega, fun v H4 v0 v1 D4 k4 => ?_⟩
        rw [hlm] at v1
        obtain ⟨y, ey⟩ : ∃ y, rest[v.toNat]? = some y := ⟨rest[v.toNat]'(by omega), List.getElem?_eq_getElem (by omega)⟩
        have hl4 := k4 l _ hl3 nf
        have hp4 := k4 p _ hp3 npf
        refine ⟨l, _, v, v.toNat, _, rfl, rfl, hl4, by omega, by omega, seq_ix (by omega) (by rw [hlm]; omega), int_at ey, ?_⟩
        refine ⟨acc.map V.int, by rw [upd_ne lp.symm]; exact hp4, line_lt (by rw [List.length_map]; omega), rest.eraseIdx v.toNat, acc ++ [y], ?_, by rw [List.length_append, el]; rfl, ?_, by rw [upd_same, List.map_append]; rfl, ?_, fun b o e f => ?_⟩
        · rw [List.append_assoc]
          exact (List.Perm.append_left acc (pop_perm ey)).trans hperm
        · rw [upd_ne lp, upd_same, map_erase]
        · exact (D4.upd nf).upd npf
        · have e4 := k4 b o (kp3 b o e f) f
          have nbl : b ≠ l := ne_of_none e nl
          have nbp : b ≠ p := ne_of_none (kk1 b o e f) np
          rw [upd_ne nbp, upd_ne nbl]
          exact e4
      · obtain ⟨rest, acc, hperm, el, hl3, hp3, D3, kp3⟩ := hP
        have hr0 : rest = [] := by
          have := List.Perm.length_eq hperm
          rw [List.length_append, rg_len] at this
          exact List.eq_nil_of_length_eq_zero (by omega)
        subst hr0
        rw [List.append_nil] at hperm
        have hHp : H p = none := by
          cases e : H p with
          | none => rfl
          | some o =>
            have z := kk1 p o e npf
            rw [np] at z
            cases z
        exact q acc p H3 hperm hHp hp3 npf D3 kp3
    · -- if way == 1: left = left[::-1]
      refine ⟨fun σ' H' => ∃ (l2 : Addr) (ns : List Int), σ' = [some (.ref D.d), some (.int n), some (.ref l2), some (.int way), none, none] ∧ IsOrd n ns ∧ H' l2 = some (.lst (ns.map V.int)) ∧ H l2 = none ∧ DkAt H' D ∧ Keep D H H', ?_, fun σ' H' hM => ?_⟩
      · refine ⟨_, rfl, rfl, _, rfl, ite2 (fun _ => ?_) (fun _ => ⟨l, rg n, rfl, List.Perm.refl _, hl1, nl, D1, kk1⟩)⟩
        refine ⟨_, rfl, l, _, rfl, SqL.of hl1, fun p np => ?_⟩
        have npf := D1.notFoot np
        refine ⟨p, (rg n).reverse, rfl, List.reverse_perm _, by rw [upd_same, List.map_reverse], ?_, D1.new np, kk1.trans (Keep.new np)⟩
        cases e : H p with
        | none => rfl
        | some o =>
          have z := kk1 p o e npf
          rw [np] at z
          cases z
      · obtain ⟨l2, ns, rfl, ho, hl2, nl2, D2, k2⟩ := hM
        have nf2 := hD.notFoot nl2
        refine ⟨_, rfl, D, 7, rfl, D2, by decide, by decide, fun v H3 v0 v1 D3 k3 => ⟨_, rfl, _, 1, rfl, rfl, .inr ⟨_, rfl, v, _, rfl, rfl, .inl ⟨by omega, by omega⟩, _, rfl, ?_⟩⟩⟩
        have hl3 := k3 l2 _ hl2 nf2
        obtain ⟨m, em, hm⟩ : ∃ m : Nat, v * (if decide ((1 : Int) < (n : Int)) = true then 1 else 0) = (m : Int) ∧ (m ≤ 6 ∧ (n = 1 → m = 0)) := by
          by_cases c : (1 : Int) < (n : Int)
          · rw [decide_eq_true c, if_pos rfl, Int.mul_one]
            exact ⟨v.toNat, by omega, by omega, by omega⟩
          · rw [decide_eq_false c, if_neg (by decide), Int.mul_zero]
            exact ⟨0, by omega, by omega, fun _ => rfl⟩
        refine ⟨by rw [em]; omega, by rw [em]; omega, ?_⟩
        rw [em, Int.toNat_natCast]
        refine for_range (n := m) (fun i σ H4 => ∃ (y4 y5 : Option V) (ns : List Int), σ = [some (.ref D.d), some (.int n), some (.ref l2), some (.int way), y4, y5] ∧ IsOrd n ns ∧ H4 l2 = some (.lst (ns.map V.int)) ∧ DkAt H4 D ∧ Keep D H H4)
          ⟨_, _, ns, rfl, ho, hl3, D3, k2.trans k3⟩ (fun i σ H4 hi hP => ?_) (fun σ H4 hP => ?_)
        · obtain ⟨y4, y5, xs, rfl, ho4, hl4, D4, k4⟩ := hP
          have hn : 2 ≤ n := by
            by_cases c : n = 1
            · have := hm.2 c
              omega
            · omega
          refine ⟨_, rfl, _, rfl, (n : Int), 1, rfl, rfl, D, _, rfl, D4, by omega, by omega, fun p H5 p0 p1 D5 k5 => ?_⟩
          have hl5 := k5 l2 _ hl4 nf2
          have hxl : xs.length = n := ho4.len
          obtain ⟨a, ea⟩ : ∃ a, xs[p.toNat]? = some a := ⟨xs[p.toNat]'(by omega), List.getElem?_eq_getElem (by omega)⟩
          obtain ⟨b, eb⟩ : ∃ b, xs[p.toNat + 1]? = some b := ⟨xs[p.toNat + 1]'(by omega), List.getElem?_eq_getElem (by omega)⟩
          refine ⟨_, rfl, _, rfl, p, 1, rfl, rfl, l2, _, _, _, rfl, rfl, SqL.of hl5, at_of (j := p.toNat + 1) (by omega) (int_at eb), _, rfl, _, rfl, l2, _, _, _, rfl, rfl, SqL.of hl5, at_of (j := p.toNat) (by omega) (int_at ea), line_small (by show 2 ≤ 16777216; decide), fun t nt => ?_⟩
          have ntl : l2 ≠ t := ne_of_none hl5 nt
          have hl6 : (upd H5 t (.tup [.int b, .int a])) l2 = some (.lst (xs.map V.int)) := same_new nt _ _ hl5
          refine ⟨t, _, rfl, .inl (.inl upd_same), rfl, _, _, rfl, _, rfl, _, rfl, l2, _, _, p.toNat, rfl, rfl, hl6, ix_n (by omega) (by rw [List.length_map]; omega), ?_⟩
          refine ⟨_, _, rfl, _, rfl, _, rfl, p, 1, rfl, rfl, l2, _, _, p.toNat + 1, rfl, rfl, upd_same, ix_n (by omega) (by rw [List.length_set, List.length_map]; omega), ?_⟩
          refine ⟨rfl, _, _, sw xs p.toNat, rfl, sw_ord ho4 (by omega), by rw [upd_same, sw_V ea eb], ((D5.new nt).upd nf2).upd nf2, fun c o e f => ?_⟩
          have nc : c ≠ l2 := ne_of_none e nl2
          have e5 := k5 c o (k4 c o e f) f
          rw [upd_ne nc, upd_ne nc]
          exact same_new nt _ _ e5
        · obtain ⟨y4, y5, xs, rfl, ho4, hl4, D4, k4⟩ := hP
          exact ⟨_, rfl, q xs l2 H4 ho4 nl2 hl4 nf2 D4 k4⟩
end
end Fo
namespace Fo
open PySem PySem.Spec PyProof.Rows L2
abbrev rMax2 : List V → Hp → VK → Prop := fun xs H Q => ∃ i j, xs = [.int i, .int j] ∧ Q (.int (if j > i then j else i)) H
abbrev rMin2 : List V → Hp → VK → Prop := fun xs H Q => ∃ i j, xs = [.int i, .int j] ∧ Q (.int (if j < i then j else i)) H
abbrev rInt1 : List V → Hp → VK → Prop := fun xs H Q => (∃ i, xs = [.int i] ∧ Q (.int i) H) ∨ ∃ k, xs = [.bl k] ∧ Q (.int (if k then 1 else 0)) H
theorem filter_more {l : List Int} {m : Nat} {x : Int} (p : Int → Bool) (h : l[m]? = some x) : (l.take (m + 1)).filter p = (l.take m).filter p ++ (if p x then [x] else []) := by
  rw [List.take_add_one, h, List.filter_append]
  show _ ++ List.filter p [x] = _
  rw [List.filter_cons]
  rfl
end Fo
namespace Fo
open PySem PySem.Spec PyProof.Rows L2
def spWhole : Sp := fun vs H Q _ => ∃ i : Int, vs = [.int i] ∧ Q (.bl true) H
section
variable {P : Program} {w : World} {K : PySem.W.Frag} {mg : Str → Option Value} {base : Heap}
theorem scWhole : FnScope ["thing"] ["thing"] (defScope s_is_whole) := ⟨rfl, rfl, rfl, by decide +kernel, rfl, by decide +kernel, by decide +kernel⟩
theorem ok_whole {f : Addr} {fd : FuncData} {k : Nat} (T : Df K mg "is_whole" s_is_whole ["thing"] f fd) (B : Bi mg) : FnOk P w K mg base CX0 (k + 1) f fd ["thing"] spWhole := by
  refine T.F.ok scWhole (fun vs H Q E h => ?_) (fun cdv A outer s H vs Q E hr h => ?_)
  · obtain ⟨i, rfl, _⟩ := h
    rfl
  · obtain ⟨i, rfl, q⟩ := h
    refine ⟨_, pss_one (ps_ret (pe_and (pe_callB call_isi (by rfl) B.isinstance (by decide +kernel) (pa_cons (pv 0) (pa_cons (pe_bltn (v := .ty "int") (by rfl) B.int (by decide +kernel) rfl) pa_nil)))
      (pe_one (pe_not (pe_callB call_isi (by rfl) B.isinstance (by decide +kernel) (pa_cons (pv 0) (pa_cons (pe_bltn (v := .ty "bool") (by rfl) B.bool (by decide +kernel) rfl) pa_nil))))))), ?_⟩
    refine ⟨_, rfl, _, _, _, _, true, rfl, .ty _, .base (.int _), kit_ty (by decide +kernel), true, rfl, iteT ?_⟩
    exact ⟨_, rfl, _, _, _, _, false, rfl, .ty _, .base (.int _), kit_ty (by decide +kernel), false, rfl, q⟩
end
end Fo
namespace Fo
open PySem PySem.Spec PyProof.Rows L2
/-! ### whole numbers, orders -/
def spIsOrd : Sp := fun vs H Q _ => ∃ (a : Addr) (n : Nat) (ns : List Int), vs = [.ref a] ∧ H a = some (.lst (ns.map V.int)) ∧ IsOrd n ns ∧ 1 ≤ n ∧ n ≤ 12 ∧ ∀ H', Same H H' → Q (.bl true) H'
def spCheck : Sp := fun vs H Q _ => ∃ (a : Addr) (n : Nat) (ns : List Int), vs = [.ref a] ∧ H a = some (.lst (ns.map V.int)) ∧ IsOrd n ns ∧ 1 ≤ n ∧ n ≤ 12 ∧ ∀ H', Same H H' → Q .non H'
section
variable {P : Program} {w : World} {K : PySem.W.Frag} {mg : Str → Option Value} {base : Heap}
theorem scIsOrd : FnScope ["thing", "number"] ["thing"] (defScope s_is_order) := ⟨rfl, rfl, rfl, by decide +kernel, rfl, by decide +kernel, by decide +kernel⟩
theorem all_true (n : Nat) : (List.replicate n true).all id = true := by simp
set_option maxHeartbeats 2000000 in
theorem ok_is_order {f fW : Addr} {fd fdW : FuncData} {k : Nat} {t : Tok} (T : Df K mg "is_order" s_is_order ["thing"] f fd) (TW : Df K mg "is_whole" s_is_whole ["thing"] fW fdW) (B : Bi mg) (mM : mg "MOST_THINGS" = some (.int 12 t)) : FnOk P w K mg base CX0 (k + 2) f fd ["thing"] spIsOrd := by
  have GW : FnOk P w K mg base CX0 (k + 1) fW fdW ["thing"] spWhole := ok_whole TW B
  refine T.F.ok scIsOrd (fun vs H Q E h => ?_) (fun cdv A outer s H vs Q E hr h => ?_)
  · obtain ⟨a, n, ns, rfl, _⟩ := h
    rfl
  · obtain ⟨a, n, ns, rfl, hl, ho, hn1, hn2, q⟩ := h
    have hlm : (ns.map V.int).length = n := by rw [List.length_map, ho.len]
    refine ⟨_, pss_cons (ps_if (PW.pt (pw_or (pt_not (pt_val (pe_callB call_isi (by rfl) B.isinstance (by decide +kernel) (pa_cons (pv 0) (pa_cons (pe_bltn (v := .ty "list") (by rfl) B.list (by decide +kernel) rfl) pa_nil)))))
        (pw_or (pt_cmpR op_lt (pe_callB call_len_seq (by rfl) B.len PySem.boot_len (pa_cons (pv 0) pa_nil)) pe_int (nomark _)) (pw_or1 (pt_cmpR op_gt (pe_callB call_len_seq (by rfl) B.len PySem.boot_len (pa_cons (pv 0) pa_nil)) (pe_glob (v := .int 12) (by rfl) mM ⟨_, rfl⟩) (nomark _))))))
        (pss_one (ps_ret pe_bl)) pss_nil)
      (pss_cons (ps_if (pt_not (pt_val (pe_callB (cr_all rfl) (by rfl) B.all (by decide +kernel) (pa_cons (pe_lc (own := [("number", 1)]) (g := gName 1) (tt := tYes) (te := tCall spWhole [] E0 (tCons (tVar 1) tNil)) rfl scIsOrd.nd (pi_list (pv 0)) (blkOk_by (N := ["thing", "number"]) (sc := defScope s_is_order) (by decide +kernel)) (fun _ _ _ _ _ => pg_name (i := 1) scIsOrd.nd rfl (.inl rfl)) (fun _ _ _ _ _ => pts_nil)
          (fun _ _ _ _ _ => pe_call GW hr (by rfl) TW.g TW.F.kp TW.b .nil pass0 (pa_cons (pv 1) pa_nil))) pa_nil)))) (pss_one (ps_ret pe_bl)) pss_nil)
      (pss_one (ps_ret (pe_cmpR (op_eqD hr.units) (pe_callB cr_sorted (by rfl) B.sorted (by decide +kernel) (pa_cons (pv 0) pa_nil)) (pe_listRg rfl (by rfl) B.list (prg_1 (by rfl) B.range (pe_callB call_len_seq (by rfl) B.len PySem.boot_len (pa_cons (pv 0) pa_nil)))) (nomark _))))), ?_⟩
    refine ⟨_, rfl, _, _, _, _, true, rfl, .ty _, .base (.lst hl), kit_ty (by decide +kernel), true, rfl, iteF ?_⟩
    refine ⟨_, rfl, a, _, rfl, .inl (SqL.of hl), _, 1, rfl, rfl, _, rfl, ite2 (fun c => absurd (of_decide_eq_true c) (by rw [hlm]; omega)) (fun _ => ?_)⟩
    refine ⟨_, rfl, a, _, rfl, .inl (SqL.of hl), _, 12, rfl, rfl, _, rfl, ite2 (fun c => absurd (of_decide_eq_true c) (by rw [hlm]; omega)) (fun _ => ?_)⟩
    refine ⟨_, rfl, a, rfl, ⟨_, SqL.of hl⟩, fun p np => ?_⟩
    refine lc_list (K := K) (a := a) (xs := ns.map V.int) (fun i H3 => H3 p = some (.lst ((List.replicate i true).map V.bl)) ∧ Same H H3) ⟨upd_same, same_new np⟩ (fun i H3 _ hP => SqL.of (hP.2 _ _ hl)) (fun i x H3 hx hP => ?_) (fun H3 hP => ?_)
    · obtain ⟨y, ey, rfl⟩ := int_at_inv hx
      obtain ⟨hp3, sm⟩ := hP
      refine ⟨rfl, _, rfl, y, rfl, _, hp3, line_lt (by
        rw [List.length_map, List.length_replicate]
        have := (List.getElem?_eq_some_iff.mp hx).1
        omega), ?_, fun b o e => ?_⟩
      · rw [upd_same, List.replicate_succ', List.map_append]
        rfl
      · rw [upd_ne (ne_of_none e np)]
        exact sm _ _ e
    · obtain ⟨hp3, sm⟩ := hP
      have hl3 := sm _ _ hl
      refine ⟨p, _, rfl, SqL.of hp3, _, rfl, ?_⟩
      rw [all_true]
      refine iteF ?_
      refine ⟨_, rfl, a, ns, rfl, SqL.of hl3, by rw [ho.len]; omega, fun ns' s1 hperm hsrt ns1 => ?_⟩
      have hl4 := same_new (o := .lst (ns'.map V.int)) ns1 _ _ hl3
      refine ⟨_, rfl, a, _, rfl, .inl (SqL.of hl4), _, rfl, RgOk.of_le (by omega) (by rw [hlm]; omega) (by omega) (by omega), fun s2 ns2 => ?_⟩
      have e1 : ns' = rg n := sorted_eq (hperm.trans ho) hsrt (rg_sorted n)
      subst e1
      rw [hlm]
      have h1 : (upd (upd H3 s1 (.lst ((rg n).map V.int))) s2 (.lst (rgV 0 (n : Int)))) s1 = some (.lst ((rg n).map V.int)) := same_new ns2 _ _ upd_same
      have h2 : (upd (upd H3 s1 (.lst ((rg n).map V.int))) s2 (.lst (rgV 0 (n : Int)))) s2 = some (.lst ((rg n).map V.int)) := by rw [upd_same, rg_V]
      refine ⟨_, _, dp_list h1, dp_list h2, shaped_list _, shaped_list _, ?_⟩
      rw [eqv_list]
      exact q _ ((sm.trans (same_new ns1)).trans (same_new ns2))
theorem scCheck : FnScope ["thing"] ["thing"] (defScope s_check_order) := ⟨rfl, rfl, rfl, by decide +kernel, rfl, by decide +kernel, by decide +kernel⟩
theorem ok_check {f fO fW : Addr} {fd fdO fdW : FuncData} {k : Nat} {t : Tok} (T : Df K mg "check_order" s_check_order ["thing"] f fd) (TO : Df K mg "is_order" s_is_order ["thing"] fO fdO) (TW : Df K mg "is_whole" s_is_whole ["thing"] fW fdW) (B : Bi mg) (mM : mg "MOST_THINGS" = some (.int 12 t)) : FnOk P w K mg base CX0 (k + 3) f fd ["thing"] spCheck := by
  have GO : FnOk P w K mg base CX0 (k + 2) fO fdO ["thing"] spIsOrd := ok_is_order TO TW B mM
  refine T.F.ok scCheck (fun vs H Q E h => ?_) (fun cdv A outer s H vs Q E hr h => ?_)
  · obtain ⟨a, n, ns, rfl, _⟩ := h
    rfl
  · obtain ⟨a, n, ns, rfl, hl, ho, hn1, hn2, q⟩ := h
    refine ⟨_, pss_one (ps_if (pt_not (pt_val (pe_call GO hr (by rfl) TO.g TO.F.kp TO.b .nil pass0 (pa_cons (pv 0) pa_nil)))) (pss_one ps_never) pss_nil), ?_⟩
    exact ⟨_, rfl, a, n, ns, rfl, hl, ho, hn1, hn2, fun H' sm => ⟨_, rfl, iteF (q H' sm)⟩⟩
end
end Fo
namespace Fo
open PySem PySem.Spec PyProof.Rows L2
def IsWay (w : Str) : Prop := w = "swap" ∨ w = "spot" ∨ w = "shift"
theorem n1 : ¬ (("spot" : Str) = "swap") := by decide +kernel
theorem n2 : ¬ (("shift" : Str) = "swap") := by decide +kernel
theorem n3 : ¬ (("shift" : Str) = "spot") := by decide +kernel
/-- the ways as the top has written them -/
structure Wy (K : PySem.W.Frag) (mg : Str → Option Value) (aW : Addr) : Prop where
  g : mg "WAYS" = some (.ref aW)
  t : ∀ H : Hp, SqT K H aW [.str "swap", .str "spot", .str "shift"]
theorem wy_mk {K : PySem.W.Frag} {mg : Str → Option Value} {aW : Addr} {dd : Option Addr} {n : Nat} {t1 t2 t3 : Tok} {sl : Array (Option Value)} (g : mg "WAYS" = some (.ref aW)) (l : K.lookup aW = some ⟨.type "tuple", dd, .seq #[.str "swap" t1, .str "spot" t2, .str "shift" t3] n, sl⟩) : Wy K mg aW :=
  ⟨g, fun H => .inr ⟨_, _, _, l, rfl, rfl, line_small (by show 3 ≤ 16777216; decide), .cons ⟨_, rfl⟩ (.cons ⟨_, rfl⟩ (.cons ⟨_, rfl⟩ .nil))⟩⟩
def spWay : Sp := fun vs H Q _ => ∃ (w : Str), vs = [.str w] ∧ IsWay w ∧ Q .non H
section
variable {P : Program} {w : World} {K : PySem.W.Frag} {mg : Str → Option Value} {base : Heap}
theorem scWay : FnScope ["thing"] ["thing"] (defScope s_check_way) := ⟨rfl, rfl, rfl, by decide +kernel, rfl, by decide +kernel, by decide +kernel⟩
theorem ok_way {f aW : Addr} {fd : FuncData} {k : Nat} (T : Df K mg "check_way" s_check_way ["thing"] f fd) (W : Wy K mg aW) (B : Bi mg) : FnOk P w K mg base CX0 (k + 1) f fd ["thing"] spWay := by
  refine T.F.ok scWay (fun vs H Q E h => ?_) (fun cdv A outer s H vs Q E hr h => ?_)
  · obtain ⟨z, rfl, _⟩ := h
    rfl
  · obtain ⟨z, rfl, hz, q⟩ := h
    refine ⟨_, 
      (pss_one (ps_if (PW.pt (pw_or (pt_not (pt_val (pe_callB call_isi (by rfl) B.isinstance (by decide +kernel) (pa_cons (pv 0) (pa_cons (pe_bltn (v := .ty "str") (by rfl) B.str (by decide +kernel) rfl) pa_nil))))) (pw_or1 (pt_cmpR op_notIn_seq (pv 0) (pe_glob (v := .ref aW) (by rfl) W.g rfl) (by rfl)))))
        (pss_one ps_never)
        pss_nil)), ?_⟩
    refine ⟨_, rfl, _, _, _, _, true, rfl, .ty _, .base (.str _), kit_ty (by decide +kernel), true, rfl, iteF ?_⟩
    rcases hz with rfl | rfl | rfl
    · exact ⟨_, rfl, aW, _, rfl, .inr (W.t H), rfl, rfl, _, rfl, ite2 (fun c => absurd c (by decide +kernel)) (fun _ => q)⟩
    · exact ⟨_, rfl, aW, _, rfl, .inr (W.t H), rfl, rfl, _, rfl, ite2 (fun c => absurd c (by decide +kernel)) (fun _ => q)⟩
    · exact ⟨_, rfl, aW, _, rfl, .inr (W.t H), rfl, rfl, _, rfl, ite2 (fun c => absurd c (by decide +kernel)) (fun _ => q)⟩
end
end Fo
namespace Fo
open PySem PySem.Spec PyProof.Rows L2
theorem ins_perm (xs : List Int) (k : Nat) (y : Int) : (xs.take k ++ [y] ++ xs.drop k).Perm (y :: xs) := by
  rw [List.append_assoc]
  have h1 : (xs.take k ++ ([y] ++ xs.drop k)).Perm ([y] ++ (xs.take k ++ xs.drop k)) := by
    rw [← List.append_assoc, ← List.append_assoc]
    exact List.Perm.append_right _ List.perm_append_comm
  rw [List.take_append_drop] at h1
  exact h1
theorem set2_perm {xs : List Int} {p q : Nat} {a b : Int} (ha : xs[p]? = some a) (hb : xs[q]? = some b) : ((xs.set p b).set q a).Perm xs := by
  obtain ⟨h1, e1⟩ := List.getElem?_eq_some_iff.mp ha
  obtain ⟨h2, e2⟩ := List.getElem?_eq_some_iff.mp hb
  rw [← e1, ← e2]
  exact List.set_set_perm h1 h2
theorem set2_V (xs : List Int) (p q : Nat) (a b : Int) : ((xs.map V.int).set p (V.int b)).set q (V.int a) = ((xs.set p b).set q a).map V.int := by
  rw [List.map_set, List.map_set]
def spNear : Sp := fun vs H Q _ => ∃ (D : Dk) (o : Addr) (n : Nat) (ns : List Int), vs = [.ref D.d, .ref o] ∧ DkAt H D ∧ H o = some (.lst (ns.map V.int)) ∧ IsOrd n ns ∧ 1 ≤ n ∧ n ≤ 12 ∧
  ∀ (ms : List Int) (l : Addr) (H' : Hp), IsOrd n ms → H l = none → H' l = some (.lst (ms.map V.int)) → ¬ D.Foot l → DkAt H' D → Keep D H H' → Q (.ref l) H'
theorem keep_none {D : Dk} {H H1 : Hp} (k : Keep D H H1) {p : Addr} (np : H1 p = none) (nf : ¬ D.Foot p) : H p = none := by
  cases e : H p with
  | none => rfl
  | some o =>
    have z := k p o e nf
    rw [np] at z
    cases z
section
variable {P : Program} {w : World} {K : PySem.W.Frag} {mg : Str → Option Value} {base : Heap}
theorem scNear : FnScope ["deck", "order", "found", "n", "way", "thing", "k", "p", "q"] ["deck", "order"] (defScope s_law_near) := ⟨rfl, rfl, rfl, by decide +kernel, rfl, by decide +kernel, by decide +kernel⟩
set_option maxHeartbeats 4000000 in
theorem ok_near {f fD fO : Addr} {fd fdD fdO : FuncData} {k : Nat} (T : Df K mg "_law_near" s_law_near ["deck", "order"] f fd) (T__law_draw : Df K mg "_law_draw" s_law_draw ["deck", "many"] fD fdD) (T__law_order : Df K mg "_law_order" s_law_order ["deck", "n"] fO fdO) (B : Bi mg) : FnOk P w K mg base CX0 (k + 3) f fd ["deck", "order"] spNear := by
  have G__law_draw : FnOk P w K mg base CX0 (k + 2) fD fdD ["deck", "many"] spDraw := ok_draw (k := k + 1) T__law_draw B
  have G__law_order : FnOk P w K mg base CX0 (k + 2) fO fdO ["deck", "n"] spOrder := ok_order T__law_order T__law_draw B
  refine T.F.ok scNear (fun vs H Q E h => ?_) (fun cdv A outer s H vs Q E hr h => ?_)
  · obtain ⟨D, o, n, ns, rfl, _⟩ := h
    rfl
  · obtain ⟨D, o, n, ns, rfl, hD, h0, ho, hn1, hn2, q⟩ := h
    have hlm : (ns.map V.int).length = n := by rw [List.length_map, ho.len]
    refine ⟨_, 
      (pss_cons (ps_set (i := 2) scNear.nd rfl (.inl rfl) (pe_callTy call_list_of (by rfl) B.list (by decide +kernel) (pa_cons (pv 1) pa_nil)))
      (pss_cons (ps_set (i := 3) scNear.nd rfl (.inl rfl) (pe_callB call_len_seq (by rfl) B.len PySem.boot_len (pa_cons (pv 1) pa_nil)))
      (pss_cons (ps_set (i := 4) scNear.nd rfl (.inl rfl) (pe_call G__law_draw hr (by rfl) T__law_draw.g T__law_draw.F.kp T__law_draw.b .nil pass0 (pa_cons (pv 0) (pa_cons pe_int pa_nil))))
      (pss_cons (ps_if (pt_cmpR op_eq (pv 4) pe_int (nomark _))
        (pss_one (ps_ret (pe_call G__law_order hr (by rfl) T__law_order.g T__law_order.F.kp T__law_order.b .nil pass0 (pa_cons (pv 0) (pa_cons (pv 3) pa_nil)))))
        pss_nil)
      (pss_cons (ps_if (pt_cmpR op_eq (pv 4) pe_int (nomark _))
        (pss_one (ps_ret (pe_revL (pv 2))))
        pss_nil)
      (pss_cons (ps_if (pt_cmpR op_eq (pv 4) pe_int (nomark _))
        (pss_cons (ps_set (i := 5) scNear.nd rfl (.inl rfl) (pe_bm PySem.F.plainAttrs_list PySem.F.slot_list_pop PySem.F.type_list_pop mt_popAt (pv 2) (pa_cons (pe_call G__law_draw hr (by rfl) T__law_draw.g T__law_draw.F.kp T__law_draw.b .nil pass0 (pa_cons (pv 0) (pa_cons (pv 3) pa_nil))) pa_nil)))
        (pss_cons (ps_expr (pe_bm PySem.F.plainAttrs_list PySem.F.slot_list_insert PySem.F.type_list_insert mt_insert (pv 2) (pa_cons (pe_call G__law_draw hr (by rfl) T__law_draw.g T__law_draw.F.kp T__law_draw.b .nil pass0 (pa_cons (pv 0) (pa_cons (pv 3) pa_nil))) (pa_cons (pv 5) pa_nil))))
        (pss_one (ps_ret (pv 2)))))
        pss_nil)
      (pss_cons (ps_for PassesOwn.never rfl (pi_range1 (by rfl) B.range (pa_cons (pe_call G__law_draw hr (by rfl) T__law_draw.g T__law_draw.F.kp T__law_draw.b .nil pass0 (pa_cons (pv 0) (pa_cons pe_int pa_nil))) pa_nil)) (pg_name (i := 6) scNear.nd rfl (.inl rfl))
        (pss_cons (ps_set (i := 7) scNear.nd rfl (.inl rfl) (pe_call G__law_draw hr (by rfl) T__law_draw.g T__law_draw.F.kp T__law_draw.b .nil pass0 (pa_cons (pv 0) (pa_cons (pv 3) pa_nil))))
        (pss_cons (ps_set (i := 8) scNear.nd rfl (.inl rfl) (pe_ix ix_list (pe_lst (pa_cons (pe_call G__law_draw hr (by rfl) T__law_draw.g T__law_draw.F.kp T__law_draw.b .nil pass0 (pa_cons (pv 0) (pa_cons (pv 3) pa_nil))) (pa_cons (pe_callB (call_min2 rfl) (by rfl) B.min (by decide +kernel) (pa_cons (pe_op op_sub (pv 3) pe_int) (pa_cons (pe_op op_add (pv 7) pe_int) pa_nil))) pa_nil))) (pe_op op_sub (pv 4) pe_int) (fun _ _ => rfl)))
        (pss_one (ps_asg (pe_tup (pa_cons (pe_ix ix_list (pv 2) (pv 8) (fun _ _ => rfl)) (pa_cons (pe_ix ix_list (pv 2) (pv 7) (fun _ _ => rfl)) pa_nil))) (pg_tup (by rfl) (pgs_cons (pg_sub (pv 2) (pv 7) set_list) (pgs_cons (pg_sub (pv 2) (pv 8) set_list) pgs_nil))))))))
      (pss_one (ps_ret (pv 2)))))))))), ?_⟩
    -- found = list(order); n = len(order)
    refine ⟨_, rfl, o, _, rfl, .inl (SqL.of h0), fun l nl => ?_⟩
    have s0 := same_new (o := .lst (ns.map V.int)) nl
    refine ⟨_, rfl, o, _, rfl, .inl (SqL.of (s0 _ _ h0)), ?_⟩
    have D0 := hD.new (o := .lst (ns.map V.int)) nl
    have nf := hD.notFoot nl
    -- way
    refine ⟨_, rfl, D, 5, rfl, D0, by decide, by decide, fun way H1 w0 w1 D1 k1 => ?_⟩
    have hl1 := k1 l _ upd_same nf
    have kk1 : Keep D H H1 := (Keep.of_same s0).trans k1
    -- way == 0
    refine ⟨_, rfl, rfl, _, rfl, ite2 (fun _ => ?_) (fun z0 => ?_)⟩
    · refine ⟨_, rfl, _, rfl, D, n, by rw [hlm]; rfl, D1, hn1, hn2, fun ms l2 H2 o2 n2 h2 f2 D2 k2 => ?_⟩
      exact q ms l2 H2 o2 (keep_none kk1 n2 f2) h2 f2 D2 (kk1.trans k2)
    -- way == 1
    refine ⟨_, rfl, rfl, _, rfl, ite2 (fun _ => ?_) (fun z1 => ?_)⟩
    · refine ⟨_, rfl, l, _, rfl, SqL.of hl1, fun p np => ?_⟩
      exact q ns.reverse p _ ((List.reverse_perm ns).trans ho) (keep_none kk1 np (D1.notFoot np)) (by rw [upd_same, List.map_reverse]) (D1.notFoot np) (D1.new np) (kk1.trans (Keep.new np))
    -- way == 2
    refine ⟨_, rfl, rfl, _, rfl, ite2 (fun _ => ?_) (fun z2 => ?_)⟩
    · refine ⟨_, rfl, .inl ⟨rfl, _, SqL.of hl1⟩, _, rfl, _, rfl, D, n, by rw [hlm]; rfl, D1, by omega, by omega, fun v H2 v0 v1 D2 k2 => ?_⟩
      have hl2 := k2 l _ hl1 nf
      obtain ⟨y, ey⟩ : ∃ y, ns[v.toNat]? = some y := ⟨ns[v.toNat]'(by rw [ho.len]; omega), List.getElem?_eq_getElem (by rw [ho.len]; omega)⟩
      refine ⟨l, _, v, v.toNat, _, rfl, rfl, hl2, by omega, by omega, seq_ix (by omega) (by rw [hlm]; omega), int_at ey, ?_⟩
      have D3 := D2.upd (o := .lst ((ns.map V.int).eraseIdx v.toNat)) nf
      refine ⟨_, rfl, .inl ⟨rfl, _, SqL.of upd_same⟩, _, rfl, _, rfl, D, n, by rw [hlm]; rfl, D3, by omega, by omega, fun u H4 u0 u1 D4 k4 => ?_⟩
      have hl4 := k4 l _ upd_same nf
      refine ⟨_, rfl, l, _, _, _, rfl, rfl, hl4, line_lt (by rw [map_erase, List.length_map, List.length_eraseIdx, ho.len]; split <;> omega), by omega, by omega, ?_⟩
      have nHl : H l = none := nl
      refine ⟨_, rfl, q ((ns.eraseIdx v.toNat).take u.toNat ++ [y] ++ (ns.eraseIdx v.toNat).drop u.toNat) l _ (((ins_perm _ _ _).trans (pop_perm ey)).trans ho) nHl ?_ nf (D4.upd nf) fun c x e f => ?_⟩
      · rw [upd_same, map_erase, List.map_append, List.map_append, List.map_take, List.map_drop]
        rfl
      · have nc : c ≠ l := ne_of_none e nl
        have e2 := k2 c x (kk1 c x e f) f
        rw [upd_ne nc]
        exact k4 c x (by rw [upd_ne nc]; exact e2) f
    -- the loop
    have hw : way = 3 ∨ way = 4 := by
      have a0 : way ≠ 0 := fun e => by subst e; exact z0 (decide_eq_true rfl)
      have a1 : way ≠ 1 := fun e => by subst e; exact z1 (decide_eq_true rfl)
      have a2 : way ≠ 2 := fun e => by subst e; exact z2 (decide_eq_true rfl)
      omega
    refine ⟨_, rfl, D, 5, rfl, D1, by decide, by decide, fun v H2 v0 v1 D2 k2 => ⟨v, rfl, by omega, by omega, ?_⟩⟩
    refine for_range (n := v.toNat) (fun i σ H3 => ∃ (y5 y6 y7 y8 : Option V) (xs : List Int), σ = [some (.ref D.d), some (.ref o), some (.ref l), some (.int n), some (.int way), y5, y6, y7, y8] ∧ IsOrd n xs ∧ H3 l = some (.lst (xs.map V.int)) ∧ DkAt H3 D ∧ Keep D H H3)
      ⟨none, none, none, none, ns, by rw [hlm]; rfl, ho, k2 l _ hl1 nf, D2, kk1.trans k2⟩ (fun i σ H3 hi hP => ?_) (fun σ H3 hP => ?_)
    · obtain ⟨y5, y6, y7, y8, xs, rfl, o3, hl3, D3, k3⟩ := hP
      have hxl := o3.len
      refine ⟨_, rfl, _, rfl, D, n, rfl, D3, by omega, by omega, fun p H4 p0 p1 D4 k4 => ?_⟩
      have hl4 := k4 l _ hl3 nf
      refine ⟨_, rfl, _, rfl, D, n, rfl, D4, by omega, by omega, fun u H5 u0 u1 D5 k5 => ?_⟩
      have hl5 := k5 l _ hl4 nf
      refine ⟨_, rfl, (n : Int), 1, rfl, rfl, _, rfl, p, 1, rfl, rfl, _, _, rfl, line_small (by show 2 ≤ 16777216; decide), fun t nt => ?_⟩
      have s6 := same_new (o := .lst [.int u, .int (if p + 1 < (n : Int) - 1 then p + 1 else (n : Int) - 1)]) nt
      obtain ⟨z, ez, z0, z1⟩ : ∃ z : Int, atI [V.int u, V.int (if p + 1 < (n : Int) - 1 then p + 1 else (n : Int) - 1)] (way - 3) = some (.int z) ∧ 0 ≤ z ∧ z < n := by
        rcases hw with rfl | rfl
        · exact ⟨u, rfl, u0, u1⟩
        · refine ⟨_, rfl, ?_, ?_⟩ <;> split <;> omega
      refine ⟨_, rfl, way, 3, rfl, rfl, t, _, _, _, rfl, rfl, SqL.of upd_same, ez, ?_⟩
      obtain ⟨a, ea⟩ : ∃ a, xs[p.toNat]? = some a := ⟨xs[p.toNat]'(by omega), List.getElem?_eq_getElem (by omega)⟩
      obtain ⟨b, eb⟩ : ∃ b, xs[z.toNat]? = some b := ⟨xs[z.toNat]'(by omega), List.getElem?_eq_getElem (by omega)⟩
      have hl6 := s6 _ _ hl5
      refine ⟨_, rfl, _, rfl, l, _, _, _, rfl, rfl, SqL.of hl6, at_of (j := z.toNat) (by omega) (int_at eb), _, rfl, _, rfl, l, _, _, _, rfl, rfl, SqL.of hl6, at_of (j := p.toNat) (by omega) (int_at ea), line_small (by show 2 ≤ 16777216; decide), fun t2 nt2 => ?_⟩
      have hl7 := same_new (o := .tup [.int b, .int a]) nt2 _ _ hl6
      refine ⟨t2, _, rfl, .inl (.inl upd_same), rfl, _, _, rfl, _, rfl, _, rfl, l, _, _, p.toNat, rfl, rfl, hl7, ix_n (by omega) (by rw [List.length_map]; omega), ?_⟩
      refine ⟨_, _, rfl, _, rfl, _, rfl, l, _, _, z.toNat, rfl, rfl, upd_same, ix_n (by omega) (by rw [List.length_set, List.length_map]; omega), ?_⟩
      refine ⟨rfl, _, _, _, _, (xs.set p.toNat b).set z.toNat a, rfl, (set2_perm ea eb).trans o3, by rw [upd_same, set2_V], (((D5.new nt).new nt2).upd nf).upd nf, fun c x e f => ?_⟩
      have nc : c ≠ l := ne_of_none e nl
      rw [upd_ne nc, upd_ne nc]
      exact same_new nt2 _ _ (s6 _ _ (k5 c x (k4 c x (k3 c x e f) f) f))
    · obtain ⟨y5, y6, y7, y8, xs, rfl, o3, hl3, D3, k3⟩ := hP
      exact ⟨_, rfl, q xs l H3 o3 nl hl3 nf D3 k3⟩
end
end Fo
namespace Fo
open PySem PySem.Spec PyProof.Rows L2
/-- a loop over enumerate of a list that stands still -/
theorem for_enumL {K : PySem.W.Frag} {a : Addr} {xs : List V} {g : TG} {tb : TS} {D : Ends} {σ : L2.St} {H : Hp} (Pv : Nat → L2.St → Hp → Prop) (h0 : Pv 0 σ H) (hq : ∀ i σ H, Pv i σ H → SqL K H a xs)
    (hs : ∀ (i : Nat) (x : V) (T : Addr) (σ : L2.St) (H : Hp), xs[i]? = some x → Pv i σ H → H T = none → g (.ref T) σ (upd H T (.tup [.int (i : Nat), x])) fun σ2 H2 => tb { D with nx := Pv (i + 1), ct := Pv (i + 1), bk := D.nx } σ2 H2) (hd : ∀ σ H, Pv xs.length σ H → D.nx σ H) :
    ∃ W : Nat → Nat → L2.St → Hp → Prop, (∃ m, W 0 m σ H) ∧ ∀ i m σ H, W i m σ H →
      ((Ite K a).stop i H ∧ D.nx σ H) ∨ ((Ite K a).go i H ∧ ∃ N : L2.St → Hp → Prop, (∀ σ' H', N σ' H' → ∃ m', m' < m ∧ W (i + 1) m' σ' H') ∧ ∀ v H', (Ite K a).yld i H v H' → g v σ H' fun σ2 H2 => tb { D with nx := N, ct := N, bk := D.nx } σ2 H2) := by
  refine ⟨fun i m σ H => m = xs.length - i ∧ i ≤ xs.length ∧ Pv i σ H, ⟨xs.length, rfl, Nat.zero_le _, h0⟩, ?_⟩
  rintro i m σ H ⟨rfl, hi, p⟩
  have qx := hq i σ H p
  by_cases hlt : i < xs.length
  · have hx : xs[i]? = some xs[i] := List.getElem?_eq_getElem hlt
    refine .inr ⟨⟨xs, _, qx, hx⟩, Pv (i + 1), fun σ' H' p' => ⟨xs.length - (i + 1), by omega, rfl, hlt, p'⟩, fun v H' y => ?_⟩
    obtain ⟨T, x', rfl, hT, rfl, f1⟩ := y
    exact hs i x' T σ H (f1 xs qx) p hT
  · have e : i = xs.length := by omega
    subst e
    exact .inl ⟨⟨xs, qx, Nat.le_refl _⟩, hd σ H p⟩
/-- a comprehension over enumerate of a list that stands still -/
theorem lc_enumL {K : PySem.W.Frag} {a : Addr} {xs : List V} {g : TG} {tt : TT} {te : TE} {vs : List Nat} {σ : L2.St} {H1 : Hp} {D : Addr} {Qd : Hp → Prop} (Pv : Nat → Hp → Prop) (h0 : Pv 0 (upd H1 D (.lst []))) (hl : ∀ i H, i ≤ xs.length → Pv i H → SqL K H a xs)
    (hs : ∀ (i : Nat) (x : V) (T : Addr) (H : Hp), xs[i]? = some x → Pv i H → H T = none → g (.ref T) (wipe σ vs) (upd H T (.tup [.int (i : Nat), x])) fun σ2 H2 => wipe σ2 vs = wipe σ vs ∧ tt σ2 H2 fun b H3 =>
      if b = true then te σ2 H3 fun y H4 => ∃ acc, H4 D = some (.lst acc) ∧ acc.length < sizeLine ∧ Pv (i + 1) (upd H4 D (.lst (acc ++ [y]))) else Pv (i + 1) H3) (hd : ∀ H, Pv xs.length H → Qd H) :
    ∃ W : Nat → Nat → Hp → Prop, (∃ m, W 0 m (upd H1 D (.lst []))) ∧ ∀ i m H, W i m H →
      ((Ite K a).stop i H ∧ Qd H) ∨ ((Ite K a).go i H ∧ ∃ Nx : Hp → Prop, (∀ H', Nx H' → ∃ m', m' < m ∧ W (i + 1) m' H') ∧ ∀ x H', (Ite K a).yld i H x H' → g x (wipe σ vs) H' fun σ2 H2 => wipe σ2 vs = wipe σ vs ∧ tt σ2 H2 fun b H3 =>
        if b = true then te σ2 H3 fun y H4 => ∃ acc, H4 D = some (.lst acc) ∧ acc.length < sizeLine ∧ Nx (upd H4 D (.lst (acc ++ [y]))) else Nx H3) := by
  refine ⟨fun i m H => m = xs.length - i ∧ i ≤ xs.length ∧ Pv i H, ⟨xs.length, by simp, Nat.zero_le _, h0⟩, ?_⟩
  rintro i m H ⟨rfl, hi, p⟩
  have q := hl i H hi p
  by_cases hlt : i < xs.length
  · refine .inr ⟨⟨xs, xs[i], q, by simp [hlt]⟩, Pv (i + 1), fun H' p' => ⟨xs.length - (i + 1), by omega, rfl, hlt, p'⟩, fun x H' y => ?_⟩
    obtain ⟨T, x', rfl, hT, rfl, f1⟩ := y
    exact hs i x' T H (f1 xs q) p hT
  · have e : i = xs.length := by omega
    subst e
    exact .inl ⟨⟨xs, q, Nat.le_refl _⟩, hd H p⟩
/-! ### the back of an order -/
def IsBack (ns ps : List Int) : Prop := ps.length = ns.length ∧ ∀ (j : Nat) (x : Int), ns[j]? = some x → ps[x.toNat]? = some (j : Int)
theorem ord_at {n : Nat} {ns : List Int} (o : IsOrd n ns) {t : Nat} (h : t < n) : ∃ j : Nat, j < n ∧ ns[j]? = some (t : Int) := by
  have m : (t : Int) ∈ ns := (List.Perm.mem_iff o).mpr (rg_mem.mpr ⟨by omega, by omega⟩)
  obtain ⟨j, hj⟩ := List.mem_iff_getElem?.mp m
  exact ⟨j, by have := (List.getElem?_eq_some_iff.mp hj).1; rw [o.len] at this; exact this, hj⟩
theorem ord_ix {n : Nat} {ns : List Int} (o : IsOrd n ns) {j : Nat} (h : j < n) : ∃ x : Int, ns[j]? = some x ∧ 0 ≤ x ∧ x < n := by
  have hj : j < ns.length := by rw [o.len]; exact h
  exact ⟨ns[j], List.getElem?_eq_getElem hj, o.mem (List.getElem_mem hj)⟩
theorem back_eq {n : Nat} {ns a b : List Int} (o : IsOrd n ns) (ha : IsBack ns a) (hb : IsBack ns b) : a = b := by
  apply List.ext_getElem?
  intro t
  by_cases h : t < n
  · obtain ⟨j, _, hj⟩ := ord_at o h
    have h1 := ha.2 j _ hj
    have h2 := hb.2 j _ hj
    rw [Int.toNat_natCast] at h1 h2
    rw [h1, h2]
  · rw [List.getElem?_eq_none (by rw [ha.1, o.len]; omega), List.getElem?_eq_none (by rw [hb.1, o.len]; omega)]
def behindL (ns ms : List Int) : List Int := ms.map fun p => ns.getD p.toNat 0
theorem behind_at {ns ms : List Int} {i : Nat} {p x : Int} (hp : ms[i]? = some p) (hx : ns[p.toNat]? = some x) : (behindL ns ms)[i]? = some x := by
  unfold behindL
  rw [List.getElem?_map, hp]
  show some (ns.getD p.toNat 0) = some x
  rw [List.getD_eq_getElem?_getD, hx]
  rfl
theorem behind_len (ns ms : List Int) : (behindL ns ms).length = ms.length := by
  unfold behindL
  rw [List.length_map]
theorem take_more {l : List Int} {i : Nat} {x : Int} (h : l[i]? = some x) : l.take (i + 1) = l.take i ++ [x] := by
  rw [List.take_add_one, h]
  rfl
theorem flat_ints : ∀ ns : List Int, (ns.map V.int).all flatV = true
  | [] => rfl
  | n :: r => by
    show (flatV (V.int n) && (r.map V.int).all flatV) = true
    rw [flat_ints r]
    rfl
theorem eqV_int (i j : Int) : eqV (.int i) (.int j) = (i == j) := rfl
end Fo
namespace Fo
open PySem PySem.Spec PyProof.Rows L2
def spChecks : Sp := fun vs H Q _ => ∃ (a b : Addr) (n m : Nat) (ns ms : List Int), vs = [.ref a, .ref b] ∧ H a = some (.lst (ns.map V.int)) ∧ H b = some (.lst (ms.map V.int)) ∧ IsOrd n ns ∧ 1 ≤ n ∧ n ≤ 12 ∧ IsOrd m ms ∧ 1 ≤ m ∧ m ≤ 12 ∧ ∀ H', Same H H' → Q .non H'
def spFit : Sp := fun vs H Q _ => ∃ (a b : Addr) (ns ms : List Int), vs = [.ref a, .ref b] ∧ H a = some (.lst (ns.map V.int)) ∧ H b = some (.lst (ms.map V.int)) ∧ ns.length = ms.length ∧ Q .non H
def spBehind : Sp := fun vs H Q _ => ∃ (a b : Addr) (n : Nat) (ns ms : List Int), vs = [.ref a, .ref b] ∧ H a = some (.lst (ns.map V.int)) ∧ H b = some (.lst (ms.map V.int)) ∧ IsOrd n ns ∧ IsOrd n ms ∧ 1 ≤ n ∧ n ≤ 12 ∧
  ∀ (l : Addr) (H' : Hp), H l = none → H' l = some (.lst ((behindL ns ms).map V.int)) → Same H H' → Q (.ref l) H'
section
variable {P : Program} {w : World} {K : PySem.W.Frag} {mg : Str → Option Value} {base : Heap}
theorem scChecks : FnScope ["one", "other"] ["one", "other"] (defScope s_check_orders) := ⟨rfl, rfl, rfl, by decide +kernel, rfl, by decide +kernel, by decide +kernel⟩
theorem ok_checks {f fC : Addr} {fd fdC : FuncData} {k : Nat} (T : Df K mg "check_orders" s_check_orders ["one", "other"] f fd) (T_check_order : Df K mg "check_order" s_check_order ["thing"] fC fdC) (G_check_order : FnOk P w K mg base CX0 k fC fdC ["thing"] spCheck) : FnOk P w K mg base CX0 (k + 1) f fd ["one", "other"] spChecks := by
  refine T.F.ok scChecks (fun vs H Q E h => ?_) (fun cdv A outer s H vs Q E hr h => ?_)
  · obtain ⟨a, b, n, m, ns, ms, rfl, _⟩ := h
    rfl
  · obtain ⟨a, b, n, m, ns, ms, rfl, ha, hb, o1, n1, n2, o2, m1, m2, q⟩ := h
    refine ⟨_, 
      (pss_cons (ps_expr (pe_call G_check_order hr (by rfl) T_check_order.g T_check_order.F.kp T_check_order.b .nil pass0 (pa_cons (pv 0) pa_nil)))
      (pss_one (ps_expr (pe_call G_check_order hr (by rfl) T_check_order.g T_check_order.F.kp T_check_order.b .nil pass0 (pa_cons (pv 1) pa_nil))))), ?_⟩
    refine ⟨_, rfl, a, n, ns, rfl, ha, o1, n1, n2, fun H1 s1 => ?_⟩
    exact ⟨_, rfl, b, m, ms, rfl, s1 _ _ hb, o2, m1, m2, fun H2 s2 => q H2 (s1.trans s2)⟩
theorem scFit : FnScope ["one", "other"] ["one", "other"] (defScope s_check_fit) := ⟨rfl, rfl, rfl, by decide +kernel, rfl, by decide +kernel, by decide +kernel⟩
theorem ok_fit {f : Addr} {fd : FuncData} {k : Nat} (T : Df K mg "check_fit" s_check_fit ["one", "other"] f fd) (B : Bi mg) : FnOk P w K mg base CX0 (k + 1) f fd ["one", "other"] spFit := by
  refine T.F.ok scFit (fun vs H Q E h => ?_) (fun cdv A outer s H vs Q E hr h => ?_)
  · obtain ⟨a, b, ns, ms, rfl, _⟩ := h
    rfl
  · obtain ⟨a, b, ns, ms, rfl, ha, hb, e, q⟩ := h
    refine ⟨_, 
      (pss_one (ps_if (pt_cmpR op_ne (pe_callB call_len_seq (by rfl) B.len PySem.boot_len (pa_cons (pv 0) pa_nil)) (pe_callB call_len_seq (by rfl) B.len PySem.boot_len (pa_cons (pv 1) pa_nil)) (nomark _))
        (pss_one ps_never)
        pss_nil)), ?_⟩
    refine ⟨_, rfl, a, _, rfl, .inl (SqL.of ha), _, rfl, b, _, rfl, .inl (SqL.of hb), rfl, _, rfl, ?_⟩
    rw [List.length_map, List.length_map, e]
    exact iteNS rfl q
end
end Fo
namespace Fo
open PySem PySem.Spec PyProof.Rows L2
def spPlaces : Sp := fun vs H Q _ => ∃ (a : Addr) (n : Nat) (ns : List Int), vs = [.ref a] ∧ H a = some (.lst (ns.map V.int)) ∧ IsOrd n ns ∧ 1 ≤ n ∧ n ≤ 12 ∧
  ∀ (ps : List Int) (l : Addr) (H' : Hp), IsBack ns ps → H l = none → H' l = some (.lst (ps.map V.int)) → Same H H' → Q (.ref l) H'
section
variable {P : Program} {w : World} {K : PySem.W.Frag} {mg : Str → Option Value} {base : Heap}
theorem scPlaces : FnScope ["order", "places", "place", "thing"] ["order"] (defScope s_places_in) := ⟨rfl, rfl, rfl, by decide +kernel, rfl, by decide +kernel, by decide +kernel⟩
set_option maxHeartbeats 2000000 in
theorem ok_places {f : Addr} {fd : FuncData} {k : Nat} (T : Df K mg "places_in" s_places_in ["order"] f fd) (B : Bi mg) : FnOk P w K mg base CX0 (k + 1) f fd ["order"] spPlaces := by
  refine T.F.ok scPlaces (fun vs H Q E h => ?_) (fun cdv A outer s H vs Q E hr h => ?_)
  · obtain ⟨a, n, ns, rfl, _⟩ := h
    rfl
  · obtain ⟨a, n, ns, rfl, ha, ho, hn1, hn2, q⟩ := h
    have hlm : (ns.map V.int).length = n := by rw [List.length_map, ho.len]
    have hz : ∀ m : Nat, (List.replicate m [V.int 0]).flatten = (List.replicate m (0 : Int)).map V.int := by
      intro m
      induction m with
      | zero => rfl
      | succ m ih => rw [List.replicate_succ, List.replicate_succ, List.flatten_cons, ih]; rfl
    refine ⟨_, 
      (pss_cons (ps_set (i := 1) scPlaces.nd rfl (.inl rfl) (pe_op op_rep (pe_lst (pa_cons pe_int pa_nil)) (pe_callB call_len_seq (by rfl) B.len PySem.boot_len (pa_cons (pv 0) pa_nil))))
      (pss_cons (ps_for PassesOwn.never rfl (pi_enum (by rfl) B.enumerate (pa_cons (pv 0) pa_nil)) (pg_tup (by rfl) (pgs_cons (pg_name (i := 2) scPlaces.nd rfl (.inl rfl)) (pgs_cons (pg_name (i := 3) scPlaces.nd rfl (.inl rfl)) pgs_nil)))
        (pss_one (ps_asg (pv 2) (pg_sub (pv 1) (pv 3) set_list))))
      (pss_one (ps_ret (pv 1))))), ?_⟩
    refine ⟨line_small (by show 1 ≤ 16777216; decide), fun z nz => ?_⟩
    have s1 := same_new (o := .lst [.int 0]) nz
    refine ⟨_, rfl, a, _, rfl, .inl (SqL.of (s1 _ _ ha)), z, _, _, rfl, rfl, upd_same, by omega, by rw [hlm]; omega, line_small (by rw [hlm, Int.toNat_natCast]; show 1 * n ≤ _; omega), fun l nl => ?_⟩
    have s2 := s1.trans (same_new (o := .lst (List.replicate (((ns.map V.int).length : Nat) : Int).toNat [V.int 0]).flatten) nl)
    have nHl : H l = none := s1.free nl
    refine ⟨_, rfl, a, _, rfl, SqL.of (s2 _ _ ha), ?_⟩
    refine for_enumL (xs := ns.map V.int) (fun i σ H3 => ∃ (y2 y3 : Option V) (ps : List Int), σ = [some (.ref a), some (.ref l), y2, y3] ∧ H3 l = some (.lst (ps.map V.int)) ∧ ps.length = n ∧ (∀ (j : Nat) (x : Int), j < i → ns[j]? = some x → ps[x.toNat]? = some (j : Int)) ∧ Same H H3)
      ⟨none, none, List.replicate n 0, rfl, by rw [upd_same, hz, hlm, Int.toNat_natCast], by rw [List.length_replicate], fun j x hj => absurd hj (Nat.not_lt_zero _), s2⟩ (fun i σ H3 hP => by obtain ⟨_, _, _, _, _, _, _, sm⟩ := hP; exact SqL.of (sm _ _ ha)) (fun i x t σ H3 hx hP nt => ?_) (fun σ H3 hP => ?_)
    · obtain ⟨y2, y3, ps, rfl, hl3, el, hat, sm⟩ := hP
      obtain ⟨y, ey, rfl⟩ := int_at_inv hx
      have hy := ho.mem (List.mem_of_getElem? ey)
      have s3 := same_new (o := .tup [.int (i : Nat), .int y]) nt
      have hl4 := s3 _ _ hl3
      refine ⟨t, _, rfl, .inl (.inl upd_same), rfl, _, _, rfl, _, _, rfl, rfl, ?_⟩
      refine ⟨_, rfl, _, rfl, _, rfl, l, _, _, y.toNat, rfl, rfl, hl4, ix_n (by omega) (by rw [List.length_map]; omega), ?_⟩
      refine ⟨_, _, ps.set y.toNat (i : Int), rfl, by rw [upd_same, List.map_set], by rw [List.length_set]; exact el, fun j x hj hx2 => ?_, fun c o e => ?_⟩
      · by_cases c : j = i
        · subst c
          have e1 : x = y := Option.some.inj (hx2.symm.trans ey)
          subst e1
          rw [List.getElem?_set_self (by omega)]
        · have hx3 := ho.mem (List.mem_of_getElem? hx2)
          have ne : y.toNat ≠ x.toNat := fun e => c (nd_ix ho.nodup hx2 (by rw [ey]; congr 1; omega))
          rw [List.getElem?_set_ne ne]
          exact hat j x (by omega) hx2
      · rw [upd_ne (ne_of_none e nHl)]
        exact s3 _ _ (sm _ _ e)
    · obtain ⟨y2, y3, ps, rfl, hl3, el, hat, sm⟩ := hP
      rw [hlm] at hat
      refine ⟨_, rfl, q ps l H3 ⟨by rw [el, ho.len], fun j x hx => hat j x ?_ hx⟩ nHl hl3 sm⟩
      have := (List.getElem?_eq_some_iff.mp hx).1
      rw [ho.len] at this
      exact this
end
end Fo
namespace Fo
open PySem PySem.Spec PyProof.Rows L2
/-! ### lists of lists -/
def LL (H : Hp) : List Addr → List (List Int) → Prop
  | [], [] => True
  | a :: as, r :: rs => H a = some (.lst (r.map V.int)) ∧ LL H as rs
  | _, _ => False
theorem LL.len {H : Hp} : ∀ {as : List Addr} {rs : List (List Int)}, LL H as rs → as.length = rs.length
  | [], [], _ => rfl
  | [], _ :: _, h => h.elim
  | _ :: _, [], h => h.elim
  | a :: as, r :: rs, h => by rw [List.length_cons, List.length_cons, LL.len h.2]
theorem LL.keep {H H' : Hp} : ∀ {as : List Addr} {rs : List (List Int)}, LL H as rs → (∀ a ∈ as, ∀ o, H a = some o → H' a = some o) → LL H' as rs
  | [], [], _, _ => trivial
  | [], _ :: _, h, _ => h.elim
  | _ :: _, [], h, _ => h.elim
  | a :: as, r :: rs, h, k => ⟨k a List.mem_cons_self _ h.1, LL.keep h.2 fun b hb => k b (List.mem_cons_of_mem _ hb)⟩
theorem LL.same {H H' : Hp} {as : List Addr} {rs : List (List Int)} (h : LL H as rs) (s : Same H H') : LL H' as rs := h.keep fun a _ o e => s a o e
theorem LL.get {H : Hp} : ∀ {as : List Addr} {rs : List (List Int)} {i : Nat} {a : Addr}, LL H as rs → as[i]? = some a → ∃ r, rs[i]? = some r ∧ H a = some (.lst (r.map V.int))
  | [], [], _, _, _, e => by simp at e
  | [], _ :: _, _, _, h, _ => h.elim
  | _ :: _, [], _, _, h, _ => h.elim
  | a :: as, r :: rs, 0, b, h, e => by
    have e2 : a = b := Option.some.inj e
    subst e2
    exact ⟨r, rfl, h.1⟩
  | a :: as, r :: rs, i + 1, b, h, e => LL.get (i := i) h.2 e
theorem LL.tracked {H : Hp} {as : List Addr} {rs : List (List Int)} (h : LL H as rs) {a : Addr} (ha : a ∈ as) : ∃ o, H a = some o := by
  obtain ⟨i, hi⟩ := List.mem_iff_getElem?.mp ha
  obtain ⟨r, _, e⟩ := h.get hi
  exact ⟨_, e⟩
theorem LL.snoc {H : Hp} : ∀ {as : List Addr} {rs : List (List Int)} {a : Addr} {r : List Int}, LL H as rs → H a = some (.lst (r.map V.int)) → LL H (as ++ [a]) (rs ++ [r])
  | [], [], _, _, _, e => ⟨e, trivial⟩
  | [], _ :: _, _, _, h, _ => h.elim
  | _ :: _, [], _, _, h, _ => h.elim
  | b :: as, s :: rs, _, _, h, e => ⟨h.1, LL.snoc h.2 e⟩
theorem LL.drop {H : Hp} : ∀ {as : List Addr} {rs : List (List Int)} (k : Nat), LL H as rs → LL H (as.drop k) (rs.drop k)
  | as, rs, 0, h => h
  | [], [], k + 1, _ => trivial
  | [], _ :: _, _ + 1, h => h.elim
  | _ :: _, [], _ + 1, h => h.elim
  | _ :: as, _ :: rs, k + 1, h => LL.drop k h.2
theorem dp_LL {K : PySem.W.Frag} {H : Hp} : ∀ {as : List Addr} {rs : List (List Int)}, LL H as rs → DpAll K H (as.map V.ref) (rs.map dL)
  | [], [], _ => .nil
  | [], _ :: _, h => h.elim
  | _ :: _, [], h => h.elim
  | _ :: _, _ :: _, h => .cons (dp_list h.1) (dp_LL h.2)
theorem dp_lists {K : PySem.W.Frag} {H : Hp} {l : Addr} {as : List Addr} {rs : List (List Int)} (hl : H l = some (.lst (as.map V.ref))) (h : LL H as rs) : Dp K H (.ref l) (dLL rs) := .lst (SqL.of hl) (dp_LL h)
theorem ref_at {as : List Addr} {i : Nat} {a : Addr} (h : as[i]? = some a) : (as.map V.ref)[i]? = some (V.ref a) := by
  rw [List.getElem?_map, h]
  rfl
theorem ref_at_inv {as : List Addr} {i : Nat} {v : V} (h : (as.map V.ref)[i]? = some v) : ∃ a, as[i]? = some a ∧ v = V.ref a := by
  rw [List.getElem?_map] at h
  cases e : as[i]? with
  | none => rw [e] at h; cases h
  | some x => rw [e] at h; exact ⟨x, rfl, (Option.some.inj h).symm⟩
theorem cutV_tail (xs : List V) (k : Nat) : cutV xs (some (k : Int)) none = xs.drop k := by
  unfold cutV
  rw [HT.sIx_none, HT.sIx_nat]
  by_cases h : k ≤ xs.length
  · rw [Nat.min_eq_left h, List.take_of_length_le (by rw [List.length_drop]; exact Nat.le_refl _)]
  · rw [Nat.min_eq_right (by omega), List.drop_of_length_le (Nat.le_refl _), List.drop_of_length_le (by omega), List.take_nil]
end Fo
namespace Fo
open PySem PySem.Spec PyProof.Rows L2
/-! ### sums -/
def ind (b : Bool) : Nat := if b then 1 else 0
def sumN (l : List Int) (f : Int → Nat) : Nat := (l.map f).sum
theorem sumN_nil (f : Int → Nat) : sumN [] f = 0 := rfl
theorem sumN_cons (a : Int) (l : List Int) (f : Int → Nat) : sumN (a :: l) f = f a + sumN l f := by
  unfold sumN
  rw [List.map_cons, List.sum_cons]
theorem sumN_append (l m : List Int) (f : Int → Nat) : sumN (l ++ m) f = sumN l f + sumN m f := by
  unfold sumN
  rw [List.map_append, List.sum_append]
theorem sumN_perm {l m : List Int} (h : l.Perm m) (f : Int → Nat) : sumN l f = sumN m f := by
  induction h with
  | nil => rfl
  | cons x _ ih => rw [sumN_cons, sumN_cons, ih]
  | swap x y l => rw [sumN_cons, sumN_cons, sumN_cons, sumN_cons]; omega
  | trans _ _ h1 h2 => exact h1.trans h2
theorem sumN_congr {l : List Int} {f g : Int → Nat} (h : ∀ x ∈ l, f x = g x) : sumN l f = sumN l g := by
  unfold sumN
  rw [List.map_congr_left h]
theorem sumN_map (l : List Int) (g : Int → Int) (f : Int → Nat) : sumN (l.map g) f = sumN l (fun x => f (g x)) := by
  unfold sumN
  rw [List.map_map]
  rfl
theorem sumN_zero {l : List Int} {f : Int → Nat} (h : ∀ x ∈ l, f x = 0) : sumN l f = 0 := by
  rw [sumN_congr h]
  induction l with
  | nil => rfl
  | cons a l ih => rw [sumN_cons, ih fun x hx => h x (List.mem_cons_of_mem _ hx)]
theorem sumN_add (l : List Int) (f g : Int → Nat) : sumN l (fun x => f x + g x) = sumN l f + sumN l g := by
  induction l with
  | nil => rfl
  | cons a l ih => rw [sumN_cons, sumN_cons, sumN_cons, ih]; omega
theorem sumN_swap (l m : List Int) (f : Int → Int → Nat) : sumN l (fun i => sumN m (fun j => f i j)) = sumN m (fun j => sumN l (fun i => f i j)) := by
  induction l with
  | nil => exact (sumN_zero fun x _ => rfl).symm
  | cons a l ih =>
    rw [sumN_cons, ih, ← sumN_add]
    exact sumN_congr fun x _ => by rw [sumN_cons]
theorem filter_len (l : List Int) (p : Int → Bool) : (l.filter p).length = sumN l (fun x => ind (p x)) := by
  induction l with
  | nil => rfl
  | cons a l ih =>
    rw [sumN_cons, List.filter_cons]
    unfold ind at ih ⊢
    cases p a
    · simp only [Bool.false_eq_true, if_false]; omega
    · simp only [if_true, List.length_cons]; omega
/-! ### a list by its places -/
def g0 (s : List Int) (i : Int) : Int := s.getD i.toNat 0
theorem g0_at {s : List Int} {i : Nat} {x : Int} (h : s[i]? = some x) : g0 s (i : Int) = x := by
  unfold g0
  rw [Int.toNat_natCast, List.getD_eq_getElem?_getD, h]
  rfl
theorem by_places (s : List Int) : s = (rg s.length).map (g0 s) := by
  apply List.ext_getElem?
  intro i
  unfold rg
  rw [List.getElem?_map, List.getElem?_map]
  by_cases h : i < s.length
  · rw [List.getElem?_range h, List.getElem?_eq_getElem h]
    show some s[i] = some (g0 s (i : Int))
    rw [g0_at (List.getElem?_eq_getElem h)]
  · rw [List.getElem?_eq_none (by omega), List.getElem?_eq_none (by rw [List.length_range]; omega)]
    rfl
theorem rg_succ (n : Nat) : rg (n + 1) = rg n ++ [(n : Int)] := by
  unfold rg
  rw [List.range_succ, List.map_append]
  rfl
/-- how many of the later ones are less -/
def cntL (s : List Int) (i : Nat) : Nat := ((s.drop (i + 1)).filter (fun x => decide (x < g0 s i))).length
def invF (n : Nat) (a : Int → Int) : Nat := sumN (rg n) fun i => sumN (rg n) fun j => ind (decide (i < j) && decide (a j < a i))
def invN (s : List Int) : Nat := sumN (rg s.length) fun i => cntL s i.toNat
theorem drop_sum (n i : Nat) (f : Int → Nat) : sumN ((rg n).drop (i + 1)) f = sumN (rg n) fun j => if (i : Int) < j then f j else 0 := by
  induction n with
  | zero => rfl
  | succ n ih =>
    rw [rg_succ, sumN_append, ← ih, List.drop_append, sumN_append, rg_len]
    congr 1
    by_cases h : i + 1 ≤ n
    · rw [show i + 1 - n = 0 by omega, List.drop_zero, sumN_cons, sumN_cons, sumN_nil, sumN_nil, if_pos (by omega)]
    · rw [show i + 1 - n = (i - n) + 1 by omega, List.drop_succ_cons, List.drop_nil, sumN_cons, sumN_nil, sumN_nil, if_neg (by omega)]
theorem cnt_sum (s : List Int) (i : Nat) : cntL s i = sumN (rg s.length) fun j => ind (decide ((i : Int) < j) && decide (g0 s j < g0 s i)) := by
  unfold cntL
  rw [filter_len]
  have e : s.drop (i + 1) = ((rg s.length).drop (i + 1)).map (g0 s) := by
    rw [List.map_drop, ← by_places]
  rw [e, sumN_map, drop_sum]
  apply sumN_congr
  intro j _
  unfold ind
  by_cases h : (i : Int) < j
  · simp [h]
  · simp [h]
theorem inv_eq (s : List Int) : invN s = invF s.length (g0 s) := by
  unfold invN invF
  apply sumN_congr
  intro i hi
  have := rg_mem.mp hi
  rw [cnt_sum, Int.toNat_of_nonneg this.1]
/-! ### places of things -/
def pos (ys : List Int) (x : Int) : Int := ((ys.idxOf x : Nat) : Int)
def seatsL (xs ys : List Int) : List Int := xs.map (pos ys)
theorem pos_of {n : Nat} {ys : List Int} (o : IsOrd n ys) {j : Nat} {x : Int} (h : ys[j]? = some x) : pos ys x = (j : Int) := by
  obtain ⟨hj, e⟩ := List.getElem?_eq_some_iff.mp h
  have m : x ∈ ys := List.mem_of_getElem? h
  have hi : ys.idxOf x < ys.length := List.idxOf_lt_length_iff.mpr m
  have h2 : ys[ys.idxOf x]? = some x := by
    rw [List.getElem?_eq_getElem hi]
    exact congrArg some (List.getElem_idxOf hi)
  unfold pos
  rw [nd_ix o.nodup h2 h]
theorem pos_at {n : Nat} {ys : List Int} (o : IsOrd n ys) {x : Int} (h0 : 0 ≤ x) (h1 : x < n) : ∃ j : Nat, j < n ∧ ys[j]? = some x ∧ pos ys x = (j : Int) := by
  obtain ⟨j, hj, e⟩ := ord_at o (t := x.toNat) (by omega)
  rw [Int.toNat_of_nonneg h0] at e
  exact ⟨j, hj, e, pos_of o e⟩
theorem back_pos {n : Nat} {ys ps : List Int} (o : IsOrd n ys) (h : IsBack ys ps) {x : Int} (h0 : 0 ≤ x) (h1 : x < n) : ps[x.toNat]? = some (pos ys x) := by
  obtain ⟨j, hj, e, ep⟩ := pos_at o h0 h1
  rw [ep]
  exact h.2 j x e
theorem seats_len (xs ys : List Int) : (seatsL xs ys).length = xs.length := by
  unfold seatsL
  rw [List.length_map]
theorem seats_at {xs ys : List Int} {i : Nat} {x : Int} (h : xs[i]? = some x) : (seatsL xs ys)[i]? = some (pos ys x) := by
  unfold seatsL
  rw [List.getElem?_map, h]
  rfl
theorem seats_self {n : Nat} {ys : List Int} (o : IsOrd n ys) : seatsL ys ys = rg n := by
  apply List.ext_getElem?
  intro i
  by_cases h : i < n
  · obtain ⟨x, hx, _⟩ := ord_ix o h
    rw [seats_at hx, pos_of o hx]
    unfold rg
    rw [List.getElem?_map, List.getElem?_range h]
    rfl
  · rw [List.getElem?_eq_none (by rw [seats_len, o.len]; omega), List.getElem?_eq_none (by rw [rg_len]; omega)]
theorem seats_ord {n : Nat} {xs ys : List Int} (ox : IsOrd n xs) (oy : IsOrd n ys) : IsOrd n (seatsL xs ys) := by
  have h : (seatsL xs ys).Perm (seatsL ys ys) := List.Perm.map _ (ox.trans oy.symm)
  rw [seats_self oy] at h
  exact h
theorem g0_ord {n : Nat} {s : List Int} (o : IsOrd n s) : s = (rg n).map (g0 s) := by
  have e := by_places s
  rw [o.len] at e
  exact e
/-- inversions from the other side -/
theorem inv_turn {n : Nat} {s t : List Int} (os : IsOrd n s) (ot : IsOrd n t) (h : ∀ u ∈ rg n, g0 s (g0 t u) = u) : invN s = invN t := by
  rw [inv_eq, inv_eq, os.len, ot.len]
  unfold invF
  have p1 : ∀ f : Int → Nat, sumN (rg n) f = sumN (rg n) fun u => f (g0 t u) := fun f => by
    have e : sumN ((rg n).map (g0 t)) f = sumN (rg n) fun u => f (g0 t u) := sumN_map _ _ _
    rw [← e, ← g0_ord ot]
    exact (sumN_perm ot f).symm
  rw [p1]
  rw [sumN_congr (g := fun u => sumN (rg n) fun v => ind (decide (g0 t u < g0 t v) && decide (v < u))) (fun u hu => by
    rw [p1]
    exact sumN_congr fun v hv => by rw [h u hu, h v hv])]
  rw [sumN_swap]
  apply sumN_congr
  intro v _
  apply sumN_congr
  intro u _
  rw [Bool.and_comm]
theorem seats_turn {n : Nat} {xs ys : List Int} (ox : IsOrd n xs) (oy : IsOrd n ys) : ∀ u ∈ rg n, g0 (seatsL xs ys) (g0 (seatsL ys xs) u) = u := by
  intro u hu
  have hb := rg_mem.mp hu
  obtain ⟨y, hy, y0, y1⟩ := ord_ix oy (j := u.toNat) (by omega)
  have e1 : g0 (seatsL ys xs) u = pos xs y := by
    have := g0_at (seats_at (ys := xs) hy)
    rw [Int.toNat_of_nonneg hb.1] at this
    exact this
  obtain ⟨j, hj, ej, pj⟩ := pos_at ox y0 y1
  rw [e1, pj, g0_at (seats_at (ys := ys) ej), pos_of oy hy]
  omega
/-! ### how far two orders are -/
def farSwap (xs ys : List Int) : Int := ((invN (seatsL xs ys) : Nat) : Int)
def spotL (xs ys : List Int) : List Int := (rg xs.length).filter fun p => !decide (g0 xs p = g0 ys p)
def farSpot (xs ys : List Int) : Int := (((spotL xs ys).length : Nat) : Int)
def absI (i : Int) : Int := if i < 0 then -i else i
def gapsL (xs ys : List Int) : List Int := (rg xs.length).map fun p => absI (p - g0 (seatsL xs ys) p)
def maxL (l : List Int) : Int := l.foldr max 0
def farShift (xs ys : List Int) : Int := maxL (gapsL xs ys)
theorem maxL_of : ∀ {l : List Int} {m : Int}, (∀ x ∈ l, 0 ≤ x) → m ∈ l → (∀ x ∈ l, x ≤ m) → maxL l = m := by
  intro l m h0 hm hle
  have key : ∀ l : List Int, (∀ x ∈ l, x ≤ m) → maxL l ≤ m := by
    intro l hl
    induction l with
    | nil => exact h0 m hm
    | cons a l ih =>
      show max a (maxL l) ≤ m
      have h1 := hl a List.mem_cons_self
      have h2 := ih fun x hx => hl x (List.mem_cons_of_mem _ hx)
      omega
  have key2 : ∀ l : List Int, ∀ x ∈ l, x ≤ maxL l := by
    intro l
    induction l with
    | nil => intro x hx; exact absurd hx List.not_mem_nil
    | cons a l ih =>
      intro x hx
      show x ≤ max a (maxL l)
      rcases List.mem_cons.mp hx with rfl | hx
      · omega
      · have := ih x hx
        omega
  have := key l hle
  have := key2 l m hm
  omega
theorem gaps_nonneg (xs ys : List Int) : ∀ x ∈ gapsL xs ys, 0 ≤ x := by
  intro x hx
  obtain ⟨p, _, rfl⟩ := List.mem_map.mp hx
  unfold absI
  split <;> omega
theorem maxL_mem {l : List Int} (h0 : ∀ x ∈ l, 0 ≤ x) (hl : 0 < l.length) : maxL l ∈ l ∧ ∀ x ∈ l, x ≤ maxL l := by
  induction l with
  | nil => exact absurd hl (Nat.lt_irrefl _)
  | cons a l ih =>
    show max a (maxL l) ∈ a :: l ∧ ∀ x ∈ a :: l, x ≤ max a (maxL l)
    by_cases c : 0 < l.length
    · obtain ⟨h1, h2⟩ := ih (fun x hx => h0 x (List.mem_cons_of_mem _ hx)) c
      constructor
      · by_cases d : maxL l ≤ a
        · rw [Int.max_eq_left d]
          exact List.mem_cons_self
        · rw [Int.max_eq_right (by omega)]
          exact List.mem_cons_of_mem _ h1
      · intro x hx
        rcases List.mem_cons.mp hx with rfl | hx
        · omega
        · have := h2 x hx
          omega
    · have e : l = [] := List.eq_nil_of_length_eq_zero (by omega)
      subst e
      have := h0 a List.mem_cons_self
      have e2 : max a (maxL []) = a := by show max a 0 = a; omega
      rw [e2]
      exact ⟨List.mem_cons_self, fun x hx => by rw [List.mem_singleton.mp hx]; exact Int.le_refl _⟩
theorem farSwap_turn {n : Nat} {xs ys : List Int} (ox : IsOrd n xs) (oy : IsOrd n ys) : farSwap ys xs = farSwap xs ys := by
  unfold farSwap
  rw [inv_turn (seats_ord ox oy) (seats_ord oy ox) (seats_turn ox oy)]
theorem inv_rg (n : Nat) : invN (rg n) = 0 := by
  rw [inv_eq]
  unfold invF
  apply sumN_zero
  intro i hi
  apply sumN_zero
  intro j hj
  rw [rg_len] at hi hj
  have hi2 := rg_mem.mp hi
  have hj2 := rg_mem.mp hj
  have e : ∀ k : Int, k ∈ rg n → g0 (rg n) k = k := fun k hk => by
    have := rg_mem.mp hk
    have z : (rg n)[k.toNat]? = some k := by
      unfold rg
      rw [List.getElem?_map, List.getElem?_range (by omega)]
      show some ((k.toNat : Nat) : Int) = some k
      rw [Int.toNat_of_nonneg this.1]
    have z2 := g0_at z
    rw [Int.toNat_of_nonneg this.1] at z2
    exact z2
  rw [e i hi, e j hj]
  unfold ind
  by_cases c : i < j
  · have d : ¬ j < i := by omega
    simp [c, d]
  · simp [c]
theorem farSwap_self {n : Nat} {xs : List Int} (ox : IsOrd n xs) : farSwap xs xs = 0 := by
  unfold farSwap
  rw [seats_self ox, inv_rg]
  rfl
theorem farSpot_turn {xs ys : List Int} (h : xs.length = ys.length) : farSpot ys xs = farSpot xs ys := by
  unfold farSpot spotL
  rw [h]
  congr 3
  funext p
  congr 1
  by_cases c : g0 ys p = g0 xs p
  · rw [decide_eq_true c, decide_eq_true c.symm]
  · rw [decide_eq_false c, decide_eq_false fun e => c e.symm]
theorem farSpot_self (xs : List Int) : farSpot xs xs = 0 := by
  unfold farSpot spotL
  have e : ((rg xs.length).filter fun p => !decide (g0 xs p = g0 xs p)) = [] := by
    rw [List.filter_eq_nil_iff]
    intro a _
    simp
  rw [e]
  rfl
theorem gaps_len (xs ys : List Int) : (gapsL xs ys).length = xs.length := by
  unfold gapsL
  rw [List.length_map, rg_len]
theorem gaps_sub {n : Nat} {xs ys : List Int} (ox : IsOrd n xs) (oy : IsOrd n ys) : ∀ g ∈ gapsL ys xs, g ∈ gapsL xs ys := by
  intro g hg
  obtain ⟨u, hu, rfl⟩ := List.mem_map.mp hg
  rw [oy.len] at hu
  have hb := (seats_ord oy ox).mem (x := g0 (seatsL ys xs) u) (by
    have e := g0_ord (seats_ord oy ox)
    rw [e]
    exact List.mem_map.mpr ⟨u, hu, by rw [← e]⟩)
  refine List.mem_map.mpr ⟨g0 (seatsL ys xs) u, by rw [ox.len]; exact rg_mem.mpr hb, ?_⟩
  rw [seats_turn ox oy u hu]
  unfold absI
  split <;> split <;> omega
theorem farShift_turn {n : Nat} {xs ys : List Int} (ox : IsOrd n xs) (oy : IsOrd n ys) (hn : 1 ≤ n) : farShift ys xs = farShift xs ys := by
  unfold farShift
  obtain ⟨h1, h2⟩ := maxL_mem (gaps_nonneg xs ys) (by rw [gaps_len, ox.len]; exact hn)
  exact maxL_of (gaps_nonneg ys xs) (gaps_sub oy ox _ h1) fun x hx => h2 x (gaps_sub ox oy x hx)
theorem farShift_self {n : Nat} {xs : List Int} (ox : IsOrd n xs) (hn : 1 ≤ n) : farShift xs xs = 0 := by
  unfold farShift
  have z : ∀ g ∈ gapsL xs xs, g = 0 := by
    intro g hg
    obtain ⟨u, hu, rfl⟩ := List.mem_map.mp hg
    rw [ox.len] at hu
    have hb := rg_mem.mp hu
    rw [seats_self ox]
    have e : (rg n)[u.toNat]? = some u := by
      unfold rg
      rw [List.getElem?_map, List.getElem?_range (by omega)]
      show some ((u.toNat : Nat) : Int) = some u
      rw [Int.toNat_of_nonneg hb.1]
    have z2 := g0_at e
    rw [Int.toNat_of_nonneg hb.1] at z2
    rw [z2]
    unfold absI
    split <;> omega
  obtain ⟨h1, _⟩ := maxL_mem (gaps_nonneg xs xs) (by rw [gaps_len, ox.len]; exact hn)
  exact z _ h1
end Fo
namespace Fo
open PySem PySem.Spec PyProof.Rows L2
/-! ### turned pairs, one after the other -/
def invR : List Int → Nat
  | [] => 0
  | x :: r => (r.filter (fun z => decide (z < x))).length + invR r
theorem rg_cons (n : Nat) : rg (n + 1) = 0 :: (rg n).map (· + 1) := by
  unfold rg
  rw [List.range_succ_eq_map, List.map_cons, List.map_map, List.map_map]
  rfl
theorem inv_NR : ∀ s : List Int, invN s = invR s
  | [] => rfl
  | x :: r => by
    have ih := inv_NR r
    unfold invN at ih ⊢
    rw [List.length_cons, rg_cons, sumN_cons, sumN_map]
    show cntL (x :: r) (0 : Int).toNat + _ = (r.filter (fun z => decide (z < x))).length + invR r
    rw [← ih]
    have e1 : cntL (x :: r) (0 : Int).toNat = (r.filter (fun z => decide (z < x))).length := rfl
    rw [e1]
    congr 1
    apply sumN_congr
    intro i hi
    have hb := rg_mem.mp hi
    obtain ⟨j, rfl⟩ : ∃ j : Nat, i = (j : Int) := ⟨i.toNat, by omega⟩
    rw [show ((j : Int) + 1).toNat = j + 1 by omega, Int.toNat_natCast]
    unfold cntL
    have e2 : g0 (x :: r) ((j + 1 : Nat) : Int) = g0 r (j : Int) := by
      unfold g0
      rw [Int.toNat_natCast, Int.toNat_natCast]
      rfl
    rw [e2]
    rfl
theorem filt_perm {a b : List Int} (h : a.Perm b) (p : Int → Bool) : (a.filter p).length = (b.filter p).length := (h.filter p).length_eq
theorem invR_at : ∀ (A : List Int) (a b : Int) (B : List Int), b < a → invR (A ++ a :: b :: B) = invR (A ++ b :: a :: B) + 1
  | [], a, b, B, h => by
    show ((b :: B).filter (fun z => decide (z < a))).length + ((B.filter (fun z => decide (z < b))).length + invR B) = ((a :: B).filter (fun z => decide (z < b))).length + ((B.filter (fun z => decide (z < a))).length + invR B) + 1
    rw [List.filter_cons, List.filter_cons, decide_eq_true h, decide_eq_false (show ¬ a < b by omega), if_pos rfl, if_neg (by decide), List.length_cons]
    omega
  | x :: A, a, b, B, h => by
    have ih := invR_at A a b B h
    show ((A ++ a :: b :: B).filter (fun z => decide (z < x))).length + invR (A ++ a :: b :: B) = ((A ++ b :: a :: B).filter (fun z => decide (z < x))).length + invR (A ++ b :: a :: B) + 1
    rw [ih, filt_perm (List.Perm.append_left A (List.Perm.swap b a B))]
    omega
theorem invR_sw {s : List Int} {p : Nat} {a b : Int} (ha : s[p]? = some a) (hb : s[p + 1]? = some b) (h : b < a) : invR s = invR (sw s p) + 1 := by
  have hl := (List.getElem?_eq_some_iff.mp hb).1
  obtain ⟨A, x, y, B, rfl, rfl⟩ := split2 hl
  have ex : x = a := by
    rw [List.getElem?_append_right (Nat.le_refl _), Nat.sub_self] at ha
    exact Option.some.inj ha
  have ey : y = b := by
    rw [List.getElem?_append_right (by omega), show A.length + 1 - A.length = 1 by omega] at hb
    exact Option.some.inj hb
  subst ex ey
  rw [sw_at, invR_at A x y B h]
def firstDesc : List Int → Option Nat
  | [] => none
  | [_] => none
  | x :: y :: r => if y < x then some 0 else (firstDesc (y :: r)).map (· + 1)
theorem fd_cons (x y : Int) (r : List Int) : firstDesc (x :: y :: r) = if y < x then some 0 else (firstDesc (y :: r)).map (· + 1) := by rw [firstDesc]
theorem fd_some : ∀ {s : List Int} {p : Nat} {a b : Int}, (∀ (j : Nat) (u v : Int), j < p → s[j]? = some u → s[j + 1]? = some v → u ≤ v) → s[p]? = some a → s[p + 1]? = some b → b < a → firstDesc s = some p
  | [], p, a, b, _, ha, _, _ => by simp at ha
  | [_], p, a, b, _, _, hb, _ => by simp at hb
  | x :: y :: r, 0, a, b, _, ha, hb, h => by
    have e1 : x = a := Option.some.inj ha
    have e2 : y = b := Option.some.inj hb
    rw [fd_cons, if_pos (by omega)]
  | x :: y :: r, p + 1, a, b, hl, ha, hb, h => by
    have h0 : x ≤ y := hl 0 x y (by omega) rfl rfl
    have ih := fd_some (s := y :: r) (p := p) (a := a) (b := b) (fun j u v hj hu hv => hl (j + 1) u v (by omega) hu hv) ha hb h
    rw [fd_cons, if_neg (by omega), ih]
    rfl
theorem fd_none : ∀ {s : List Int}, (∀ (j : Nat) (u v : Int), s[j]? = some u → s[j + 1]? = some v → u ≤ v) → firstDesc s = none
  | [], _ => rfl
  | [_], _ => rfl
  | x :: y :: r, hl => by
    have h0 : x ≤ y := hl 0 x y rfl rfl
    have ih := fd_none (s := y :: r) (fun j u v hu hv => hl (j + 1) u v hu hv)
    rw [fd_cons, if_neg (by omega), ih]
    rfl
theorem fd_at : ∀ {s : List Int} {p : Nat}, firstDesc s = some p → ∃ a b, s[p]? = some a ∧ s[p + 1]? = some b ∧ b < a ∧ ∀ (j : Nat) (u v : Int), j < p → s[j]? = some u → s[j + 1]? = some v → u ≤ v
  | [], p, h => by cases h
  | [_], p, h => by cases h
  | x :: y :: r, p, h => by
    rw [fd_cons] at h
    by_cases c : y < x
    · rw [if_pos c] at h
      cases h
      exact ⟨x, y, rfl, rfl, c, fun j u v hj => absurd hj (Nat.not_lt_zero _)⟩
    · rw [if_neg c] at h
      cases e : firstDesc (y :: r) with
      | none => rw [e] at h; cases h
      | some q =>
        rw [e] at h
        have ep : q + 1 = p := Option.some.inj h
        subst ep
        obtain ⟨a, b, ha, hb, hlt, hl⟩ := fd_at e
        refine ⟨a, b, ha, hb, hlt, fun j u v hj hu hv => ?_⟩
        cases j with
        | zero =>
          have e1 : x = u := Option.some.inj hu
          have e2 : y = v := Option.some.inj hv
          omega
        | succ j => exact hl j u v (by omega) hu hv
theorem fd_sorted : ∀ {s : List Int}, firstDesc s = none → s.Pairwise (· ≤ ·)
  | [], _ => List.Pairwise.nil
  | [_], _ => List.pairwise_singleton _ _
  | x :: y :: r, h => by
    rw [fd_cons] at h
    by_cases c : y < x
    · rw [if_pos c] at h; cases h
    · rw [if_neg c] at h
      have e : firstDesc (y :: r) = none := by
        cases e : firstDesc (y :: r) with
        | none => rfl
        | some q => rw [e] at h; cases h
      have ih := fd_sorted e
      refine List.Pairwise.cons (fun z hz => ?_) ih
      rcases List.mem_cons.mp hz with rfl | hz
      · omega
      · have := (List.pairwise_cons.mp ih).1 z hz
        omega
theorem invR_sorted : ∀ {s : List Int}, s.Pairwise (· ≤ ·) → invR s = 0
  | [], _ => rfl
  | x :: r, h => by
    obtain ⟨h1, h2⟩ := List.pairwise_cons.mp h
    show (r.filter (fun z => decide (z < x))).length + invR r = 0
    rw [invR_sorted h2, List.filter_eq_nil_iff.mpr (fun z hz => by
      have := h1 z hz
      simp
      omega)]
    rfl
theorem fd_pos {s : List Int} (h : 0 < invR s) : ∃ p, firstDesc s = some p := by
  cases e : firstDesc s with
  | none => rw [invR_sorted (fd_sorted e)] at h; omega
  | some p => exact ⟨p, rfl⟩
/-- the first of the shortest walks, of at most m places -/
def gw : Nat → List Int → List Int
  | 0, _ => []
  | m + 1, s => match firstDesc s with
    | none => []
    | some p => (p : Int) :: gw m (sw s p)
abbrev walkL (s : List Int) : List Int := gw (invR s) s
theorem walk_none {s : List Int} (h : firstDesc s = none) : walkL s = [] := by
  unfold walkL
  rw [invR_sorted (fd_sorted h)]
  rfl
theorem walk_some {s : List Int} {p : Nat} (h : firstDesc s = some p) : walkL s = (p : Int) :: walkL (sw s p) := by
  obtain ⟨a, b, ha, hb, hlt, _⟩ := fd_at h
  unfold walkL
  rw [invR_sw ha hb hlt, gw, h]
theorem walk_len : ∀ (m : Nat) (s : List Int), invR s = m → (walkL s).length = m
  | 0, s, h => by
    unfold walkL
    rw [h]
    rfl
  | m + 1, s, h => by
    obtain ⟨p, hp⟩ := fd_pos (s := s) (by omega)
    obtain ⟨a, b, ha, hb, hlt, _⟩ := fd_at hp
    rw [walk_some hp, List.length_cons, walk_len m (sw s p) (by have := invR_sw ha hb hlt; omega)]
theorem invR_len (s : List Int) : invR s ≤ s.length * s.length := by
  induction s with
  | nil => exact Nat.le_refl _
  | cons x r ih =>
    show (r.filter _).length + invR r ≤ (r.length + 1) * (r.length + 1)
    have h1 : (r.filter (fun z => decide (z < x))).length ≤ r.length := List.length_filter_le _ _
    have h2 : (r.length + 1) * (r.length + 1) = r.length * r.length + r.length + r.length + 1 := by
      rw [Nat.add_mul, Nat.mul_add]
      omega
    omega
theorem seats_sw {xs ys : List Int} {p : Nat} (h : p + 1 < xs.length) : seatsL (sw xs p) ys = sw (seatsL xs ys) p := by
  obtain ⟨A, a, b, B, rfl, rfl⟩ := split2 h
  rw [sw_at]
  unfold seatsL
  rw [List.map_append, List.map_cons, List.map_cons, List.map_append, List.map_cons, List.map_cons]
  have e := sw_at (A.map (pos ys)) (pos ys a) (pos ys b) (B.map (pos ys))
  rw [List.length_map] at e
  exact e.symm
theorem cut_sw {xs : List Int} {p : Nat} {a b : Int} (ha : xs[p]? = some a) (hb : xs[p + 1]? = some b) : xs.take p ++ [b, a] ++ xs.drop (p + 2) = sw xs p := by
  have hl := (List.getElem?_eq_some_iff.mp hb).1
  obtain ⟨A, x, y, B, rfl, rfl⟩ := split2 hl
  have ex : x = a := by
    rw [List.getElem?_append_right (Nat.le_refl _), Nat.sub_self] at ha
    exact Option.some.inj ha
  have ey : y = b := by
    rw [List.getElem?_append_right (by omega), show A.length + 1 - A.length = 1 by omega] at hb
    exact Option.some.inj hb
  subst ex ey
  rw [sw_at, List.take_left, List.drop_append, List.drop_of_length_le (by omega), show A.length + 2 - A.length = 2 by omega]
  simp
theorem filt_map (l : List Int) (f : Int → Int) (p : Int → Bool) : ((l.map f).filter p).length = (l.filter (fun x => p (f x))).length := by
  rw [List.filter_map, List.length_map]
  rfl
end Fo
namespace Fo
open PySem PySem.Spec PyProof.Rows L2
theorem pos_ord {n : Nat} {xs : List Int} (o : IsOrd n xs) : IsOrd n ((rg n).map (pos xs)) := by
  have h : ((rg n).map (pos xs)).Perm (seatsL xs xs) := List.Perm.map _ o.symm
  rw [seats_self o] at h
  exact h
theorem pos_in {n : Nat} {xs : List Int} (o : IsOrd n xs) {t : Int} (h : t ∈ rg n) : pos xs t ∈ rg n := by
  have := (pos_ord o).mem (List.mem_map.mpr ⟨t, h, rfl⟩)
  exact rg_mem.mpr this
theorem pos_inj {n : Nat} {xs : List Int} (o : IsOrd n xs) {t u : Int} (ht : t ∈ rg n) (hu : u ∈ rg n) (e : pos xs t = pos xs u) : t = u := by
  have h1 := rg_mem.mp ht
  have h2 := rg_mem.mp hu
  obtain ⟨i, _, ei, pi⟩ := pos_at o h1.1 h1.2
  obtain ⟨j, _, ej, pj⟩ := pos_at o h2.1 h2.2
  have : i = j := by omega
  subst this
  exact Option.some.inj (ei.symm.trans ej)
/-- a sum over the places is a sum over the things -/
theorem sum_pos {n : Nat} {xs : List Int} (o : IsOrd n xs) (f : Int → Nat) : sumN (rg n) f = sumN (rg n) fun t => f (pos xs t) := by
  have e : sumN ((rg n).map (pos xs)) f = sumN (rg n) fun t => f (pos xs t) := sumN_map _ _ _
  rw [← e]
  exact (sumN_perm (pos_ord o) f).symm
theorem sum_g0 {n : Nat} {xs : List Int} (o : IsOrd n xs) (f : Int → Nat) : sumN (rg n) f = sumN (rg n) fun p => f (g0 xs p) := by
  have e : sumN ((rg n).map (g0 xs)) f = sumN (rg n) fun t => f (g0 xs t) := sumN_map _ _ _
  rw [← e, ← g0_ord o]
  exact (sumN_perm o f).symm
theorem g0_pos {n : Nat} {xs : List Int} (o : IsOrd n xs) {t : Int} (h : t ∈ rg n) : g0 xs (pos xs t) = t := by
  have h1 := rg_mem.mp h
  obtain ⟨j, _, ej, pj⟩ := pos_at o h1.1 h1.2
  rw [pj]
  exact g0_at ej
theorem pos_g0 {n : Nat} {xs : List Int} (o : IsOrd n xs) {p : Int} (h : p ∈ rg n) : pos xs (g0 xs p) = p := by
  have h1 := rg_mem.mp h
  obtain ⟨x, hx, _⟩ := ord_ix o (j := p.toNat) (by omega)
  have e := g0_at hx
  rw [Int.toNat_of_nonneg h1.1] at e
  rw [e, pos_of o hx]
  omega
theorem g0_in {n : Nat} {xs : List Int} (o : IsOrd n xs) {p : Int} (h : p ∈ rg n) : g0 xs p ∈ rg n := by
  have h1 := rg_mem.mp h
  obtain ⟨x, hx, x0, x1⟩ := ord_ix o (j := p.toNat) (by omega)
  have e := g0_at hx
  rw [Int.toNat_of_nonneg h1.1] at e
  rw [e]
  exact rg_mem.mpr ⟨x0, x1⟩
end Fo
namespace Fo
open PySem PySem.Spec PyProof.Rows L2
/-! ### rounds -/
def it (f : Int → Int) : Nat → Int → Int
  | 0, t => t
  | j + 1, t => f (it f j t)
theorem it_add (f : Int → Int) (i j : Nat) (t : Int) : it f (i + j) t = it f i (it f j t) := by
  induction i with
  | zero => rw [Nat.zero_add]; rfl
  | succ i ih => rw [Nat.succ_add]; show f (it f (i + j) t) = f (it f i (it f j t)); rw [ih]
/-- f leads things to things, no two to one -/
structure Bij (n : Nat) (f : Int → Int) : Prop where
  into : ∀ t ∈ rg n, f t ∈ rg n
  inj : ∀ t ∈ rg n, ∀ u ∈ rg n, f t = f u → t = u
section
variable {n : Nat} {f : Int → Int}
theorem Bij.it_in (b : Bij n f) {t : Int} (ht : t ∈ rg n) : ∀ j, it f j t ∈ rg n
  | 0 => ht
  | j + 1 => b.into _ (b.it_in ht j)
theorem Bij.it_inj (b : Bij n f) {t u : Int} (ht : t ∈ rg n) (hu : u ∈ rg n) : ∀ j, it f j t = it f j u → t = u
  | 0, e => e
  | j + 1, e => b.it_inj ht hu j (b.inj _ (b.it_in ht j) _ (b.it_in hu j) e)
theorem Bij.again (b : Bij n f) {t : Int} (ht : t ∈ rg n) : ∃ j, j < n ∧ it f (j + 1) t = t := by
  by_cases h : ∃ j, j < n ∧ it f (j + 1) t = t
  · exact h
  · exfalso
    have nd : ((List.range (n + 1)).map (fun j => it f j t)).Nodup := by
      have : (List.range (n + 1)).Pairwise (fun i j => it f i t ≠ it f j t) := by
        have hp : (List.range (n + 1)).Pairwise (fun i j => i < j ∧ j < n + 1) := by
          rw [List.pairwise_iff_getElem]
          intro i j hi hj hij
          rw [List.getElem_range, List.getElem_range]
          rw [List.length_range] at hj
          exact ⟨hij, hj⟩
        refine hp.imp fun {i j} hij e => ?_
        have ej : it f j t = it f i (it f (j - i) t) := by rw [← it_add, show i + (j - i) = j by omega]
        rw [ej] at e
        have z := b.it_inj ht (b.it_in ht (j - i)) i e
        exact h ⟨j - i - 1, by omega, by rw [show j - i - 1 + 1 = j - i by omega]; exact z.symm⟩
      exact List.Pairwise.map _ (fun i j h => h) this
    have hl := nodup_len (m := rg n) nd fun x hx => by
      obtain ⟨j, _, rfl⟩ := List.mem_map.mp hx
      exact b.it_in ht j
    rw [List.length_map, List.length_range, rg_len] at hl
    omega
end
def per (n : Nat) (f : Int → Int) (t : Int) : Nat := ((List.range n).find? (fun j => decide (it f (j + 1) t = t))).getD 0 + 1
def cyc (n : Nat) (f : Int → Int) (t : Int) : List Int := (List.range (per n f t)).map fun j => it f j t
section
variable {n : Nat} {f : Int → Int}
theorem Bij.per_spec (b : Bij n f) {t : Int} (ht : t ∈ rg n) : 1 ≤ per n f t ∧ per n f t ≤ n ∧ it f (per n f t) t = t ∧ ∀ j, 1 ≤ j → j < per n f t → it f j t ≠ t := by
  obtain ⟨j0, h0, e0⟩ := b.again ht
  cases e : (List.range n).find? (fun j => decide (it f (j + 1) t = t)) with
  | none =>
    have := List.find?_eq_none.mp e j0 (List.mem_range.mpr h0)
    simp [e0] at this
  | some i =>
    obtain ⟨h1, h2, h3⟩ := List.find?_range_eq_some.mp e
    have hp : per n f t = i + 1 := by
      unfold per
      rw [e]
      rfl
    rw [hp]
    have hi := List.mem_range.mp h2
    refine ⟨by omega, by omega, of_decide_eq_true h1, fun j hj1 hj2 ez => ?_⟩
    have := h3 (j - 1) (by omega)
    rw [show j - 1 + 1 = j by omega, decide_eq_true ez] at this
    cases this
theorem cyc_len (t : Int) : (cyc n f t).length = per n f t := by
  unfold cyc
  rw [List.length_map, List.length_range]
theorem cyc_at {t : Int} {j : Nat} (h : j < per n f t) : (cyc n f t)[j]? = some (it f j t) := by
  unfold cyc
  rw [List.getElem?_map, List.getElem?_range h]
  rfl
theorem Bij.cyc_in (b : Bij n f) {t u : Int} (ht : t ∈ rg n) (h : u ∈ cyc n f t) : u ∈ rg n := by
  obtain ⟨j, _, rfl⟩ := List.mem_map.mp h
  exact b.it_in ht j
theorem Bij.cyc_it (b : Bij n f) {t : Int} (ht : t ∈ rg n) : ∀ m, it f m t ∈ cyc n f t := by
  obtain ⟨p1, p2, p3, p4⟩ := b.per_spec ht
  intro m
  induction m with
  | zero => exact List.mem_map.mpr ⟨0, List.mem_range.mpr p1, rfl⟩
  | succ m ih =>
    obtain ⟨j, hj, e⟩ := List.mem_map.mp ih
    have hj2 := List.mem_range.mp hj
    show f (it f m t) ∈ _
    rw [← e]
    by_cases c : j + 1 < per n f t
    · exact List.mem_map.mpr ⟨j + 1, List.mem_range.mpr c, rfl⟩
    · have : j + 1 = per n f t := by omega
      have e2 : f (it f j t) = t := by
        have z := p3
        rw [← this] at z
        exact z
      rw [e2]
      exact List.mem_map.mpr ⟨0, List.mem_range.mpr p1, rfl⟩
theorem Bij.cyc_self (b : Bij n f) {t : Int} (ht : t ∈ rg n) : t ∈ cyc n f t := b.cyc_it ht 0
theorem Bij.cyc_symm (b : Bij n f) {t u : Int} (ht : t ∈ rg n) (h : u ∈ cyc n f t) : t ∈ cyc n f u := by
  obtain ⟨p1, p2, p3, p4⟩ := b.per_spec ht
  have hu := b.cyc_in ht h
  obtain ⟨j, hj, rfl⟩ := List.mem_map.mp h
  have hj2 := List.mem_range.mp hj
  have := b.cyc_it hu (per n f t - j)
  rw [← it_add, show per n f t - j + j = per n f t by omega, p3] at this
  exact this
theorem Bij.cyc_trans (b : Bij n f) {t u v : Int} (ht : t ∈ rg n) (h1 : u ∈ cyc n f t) (h2 : v ∈ cyc n f u) : v ∈ cyc n f t := by
  obtain ⟨i, _, rfl⟩ := List.mem_map.mp h1
  obtain ⟨j, _, rfl⟩ := List.mem_map.mp h2
  rw [← it_add]
  exact b.cyc_it ht _
end
def mnL : List Int → Int
  | [] => 0
  | [a] => a
  | a :: b :: r => min a (mnL (b :: r))
theorem mnL_spec : ∀ {l : List Int}, 0 < l.length → mnL l ∈ l ∧ ∀ x ∈ l, mnL l ≤ x
  | [], h => absurd h (Nat.lt_irrefl _)
  | [a], _ => ⟨List.mem_cons_self, fun x hx => by rw [List.mem_singleton.mp hx]; exact Int.le_refl _⟩
  | a :: b :: r, _ => by
    obtain ⟨h1, h2⟩ := mnL_spec (l := b :: r) (by simp)
    show min a (mnL (b :: r)) ∈ _ ∧ ∀ x ∈ _, min a (mnL (b :: r)) ≤ x
    constructor
    · by_cases c : a ≤ mnL (b :: r)
      · rw [Int.min_eq_left c]
        exact List.mem_cons_self
      · rw [Int.min_eq_right (by omega)]
        exact List.mem_cons_of_mem _ h1
    · intro x hx
      rcases List.mem_cons.mp hx with rfl | hx
      · omega
      · have := h2 x hx
        omega
theorem mnL_of {l : List Int} {m : Int} (hm : m ∈ l) (h : ∀ x ∈ l, m ≤ x) : mnL l = m := by
  obtain ⟨h1, h2⟩ := mnL_spec (l := l) (List.length_pos_of_mem hm)
  have := h2 m hm
  have := h _ h1
  omega
def mn (n : Nat) (f : Int → Int) (t : Int) : Int := mnL (cyc n f t)
section
variable {n : Nat} {f : Int → Int}
theorem Bij.mn_spec (b : Bij n f) {t : Int} (ht : t ∈ rg n) : mn n f t ∈ cyc n f t ∧ ∀ u ∈ cyc n f t, mn n f t ≤ u :=
  mnL_spec (by rw [cyc_len]; exact (b.per_spec ht).1)
theorem Bij.mn_same (b : Bij n f) {t u : Int} (ht : t ∈ rg n) (h : u ∈ cyc n f t) : mn n f u = mn n f t := by
  have hu := b.cyc_in ht h
  obtain ⟨h1, h2⟩ := b.mn_spec ht
  refine mnL_of (b.cyc_trans hu (b.cyc_symm ht h) h1) fun x hx => h2 x (b.cyc_trans ht h hx)
theorem Bij.mn_mn (b : Bij n f) {t : Int} (ht : t ∈ rg n) : mn n f (mn n f t) = mn n f t := b.mn_same ht (b.mn_spec ht).1
theorem Bij.mn_in (b : Bij n f) {t : Int} (ht : t ∈ rg n) : mn n f t ∈ rg n := b.cyc_in ht (b.mn_spec ht).1
theorem Bij.mn_le (b : Bij n f) {t : Int} (ht : t ∈ rg n) : mn n f t ≤ t := (b.mn_spec ht).2 t (b.cyc_self ht)
/-- whose least is t lies in t's round -/
theorem Bij.of_mn (b : Bij n f) {t x : Int} (ht : t ∈ rg n) (hx : x ∈ rg n) (e : mn n f x = t) : x ∈ cyc n f t := by
  have h := (b.mn_spec hx).1
  rw [e] at h
  exact b.cyc_symm hx h
/-- a round that is told -/
def told (n : Nat) (f : Int → Int) (t : Int) : Bool := decide (1 < per n f t) && decide (t = mn n f t)
def roundsL (n : Nat) (f : Int → Int) : List (List Int) := ((rg n).filter (told n f)).map (cyc n f)
def leftL (n : Nat) (f : Int → Int) (T : Int) : List Int := (rg n).filter fun x => decide (T ≤ mn n f x)
def doneL (n : Nat) (f : Int → Int) (T : Int) : List (List Int) := ((rg n).filter fun u => decide (u < T) && told n f u).map (cyc n f)
theorem Bij.left_all (b : Bij n f) : leftL n f 0 = rg n := by
  unfold leftL
  rw [List.filter_eq_self]
  intro x hx
  apply decide_eq_true
  exact (rg_mem.mp (b.mn_in hx)).1
theorem done_none : doneL n f 0 = [] := by
  unfold doneL
  rw [List.filter_eq_nil_iff.mpr]
  · rfl
  · intro x hx
    have := (rg_mem.mp hx).1
    simp
    omega
theorem Bij.done_all (b : Bij n f) {T : Int} (h : leftL n f T = []) : doneL n f T = roundsL n f := by
  unfold doneL roundsL
  congr 1
  apply List.filter_congr
  intro u hu
  have hm : ¬ T ≤ mn n f u := by
    have := List.filter_eq_nil_iff.mp h u hu
    simpa using this
  by_cases c : told n f u = true
  · have c2 := c
    unfold told at c2
    rw [Bool.and_eq_true] at c2
    have e := of_decide_eq_true c2.2
    rw [c, decide_eq_true (show u < T by omega)]
    rfl
  · have c3 : told n f u = false := by simpa using c
    rw [c3, Bool.and_false]
/-- t the least of what is left -/
theorem Bij.least (b : Bij n f) {T t : Int} (hm : t ∈ leftL n f T) (hle : ∀ x ∈ leftL n f T, t ≤ x) : t ∈ rg n ∧ T ≤ t ∧ mn n f t = t ∧ ∀ x ∈ rg n, T ≤ mn n f x → t ≤ mn n f x := by
  obtain ⟨h1, h2⟩ := List.mem_filter.mp hm
  have h2' : T ≤ mn n f t := of_decide_eq_true h2
  have key : ∀ x ∈ rg n, T ≤ mn n f x → t ≤ mn n f x := fun x hx hT => hle _ (List.mem_filter.mpr ⟨b.mn_in hx, decide_eq_true (by rw [b.mn_mn hx]; exact hT)⟩)
  have a1 := key t h1 h2'
  have a2 := b.mn_le h1
  exact ⟨h1, by omega, by omega, key⟩
theorem Bij.left_step (b : Bij n f) {T t : Int} (hm : t ∈ leftL n f T) (hle : ∀ x ∈ leftL n f T, t ≤ x) : (leftL n f T).filter (fun x => !decide (x ∈ cyc n f t)) = leftL n f (t + 1) := by
  obtain ⟨ht, hT, e, key⟩ := b.least hm hle
  unfold leftL
  rw [List.filter_filter]
  apply List.filter_congr
  intro x hx
  by_cases c : x ∈ cyc n f t
  · have := b.mn_same ht c
    rw [decide_eq_true c, decide_eq_false (show ¬ t + 1 ≤ mn n f x by omega)]
    rfl
  · have ne : mn n f x ≠ t := fun z => c (b.of_mn ht hx z)
    rw [decide_eq_false c]
    by_cases d : T ≤ mn n f x
    · have := key x hx d
      rw [decide_eq_true d, decide_eq_true (show t + 1 ≤ mn n f x by omega)]
      rfl
    · rw [decide_eq_false d, decide_eq_false (show ¬ t + 1 ≤ mn n f x by omega)]
      rfl
theorem rg_split {n : Nat} {t : Int} (ht : t ∈ rg n) : ∃ B : List Int, rg n = rg t.toNat ++ t :: B ∧ ∀ x ∈ B, t < x := by
  induction n with
  | zero => exact absurd ht List.not_mem_nil
  | succ n ih =>
    have hb := rg_mem.mp ht
    by_cases c : t = (n : Int)
    · subst c
      exact ⟨[], by rw [rg_succ, Int.toNat_natCast], fun x hx => absurd hx List.not_mem_nil⟩
    · obtain ⟨B, e, hB⟩ := ih (rg_mem.mpr ⟨hb.1, by omega⟩)
      refine ⟨B ++ [(n : Int)], by rw [rg_succ, e, List.append_assoc]; rfl, fun x hx => ?_⟩
      rcases List.mem_append.mp hx with hx | hx
      · exact hB x hx
      · rw [List.mem_singleton.mp hx]
        omega
theorem Bij.done_step (b : Bij n f) {T t : Int} (hm : t ∈ leftL n f T) (hle : ∀ x ∈ leftL n f T, t ≤ x) : doneL n f (t + 1) = doneL n f T ++ (if 1 < per n f t then [cyc n f t] else []) := by
  obtain ⟨ht, hT, e, key⟩ := b.least hm hle
  obtain ⟨B, eB, hB⟩ := rg_split ht
  unfold doneL
  rw [eB, List.filter_append, List.filter_append, List.filter_cons, List.filter_cons]
  have f1 : (rg t.toNat).filter (fun u => decide (u < t + 1) && told n f u) = (rg t.toNat).filter (fun u => decide (u < T) && told n f u) := by
    apply List.filter_congr
    intro u hu
    have hub := rg_mem.mp hu
    have htb := rg_mem.mp ht
    have hun : u ∈ rg n := rg_mem.mpr ⟨hub.1, by omega⟩
    rw [decide_eq_true (show u < t + 1 by omega)]
    by_cases c : told n f u = true
    · have c2 := c
      unfold told at c2
      rw [Bool.and_eq_true] at c2
      have e2 := of_decide_eq_true c2.2
      have : u < T := by
        by_cases d : T ≤ mn n f u
        · have := key u hun d
          omega
        · omega
      rw [decide_eq_true this]
    · have c3 : told n f u = false := by simpa using c
      rw [c3, Bool.and_false, Bool.and_false]
  have f2 : B.filter (fun u => decide (u < t + 1) && told n f u) = [] := by
    rw [List.filter_eq_nil_iff]
    intro x hx
    have := hB x hx
    rw [decide_eq_false (show ¬ x < t + 1 by omega)]
    simp
  have f3 : B.filter (fun u => decide (u < T) && told n f u) = [] := by
    rw [List.filter_eq_nil_iff]
    intro x hx
    have := hB x hx
    rw [decide_eq_false (show ¬ x < T by omega)]
    simp
  have et : told n f t = decide (1 < per n f t) := by
    unfold told
    rw [decide_eq_true e.symm, Bool.and_true]
  rw [f1, f2, f3, et, decide_eq_true (show t < t + 1 by omega), decide_eq_false (show ¬ t < T by omega)]
  by_cases c : 1 < per n f t
  · rw [decide_eq_true c, if_pos c]
    simp
  · rw [decide_eq_false c, if_neg c]
    simp
theorem per_id {t : Int} (hn : 1 ≤ n) : per n (fun x => x) t = 1 := by
  unfold per
  have : (List.range n).find? (fun j => decide (it (fun x => x) (j + 1) t = t)) = some 0 := by
    rw [List.find?_range_eq_some]
    exact ⟨decide_eq_true rfl, List.mem_range.mpr (by omega), fun j hj => absurd hj (Nat.not_lt_zero _)⟩
  rw [this]
  rfl
end
/-! ### the follower of a thing -/
def fol (xs ys : List Int) (t : Int) : Int := g0 xs (pos ys t)
theorem fol_bij {n : Nat} {xs ys : List Int} (ox : IsOrd n xs) (oy : IsOrd n ys) : Bij n (fol xs ys) := by
  refine ⟨fun t ht => g0_in ox (pos_in oy ht), fun t ht u hu e => ?_⟩
  have h1 := pos_g0 ox (pos_in oy ht)
  have h2 := pos_g0 ox (pos_in oy hu)
  unfold fol at e
  rw [e] at h1
  exact pos_inj oy ht hu (h1.symm.trans h2)
theorem fol_self {n : Nat} {xs : List Int} (ox : IsOrd n xs) : ∀ t ∈ rg n, fol xs xs t = t := fun t ht => g0_pos ox ht
end Fo
namespace Fo
open PySem PySem.Spec PyProof.Rows L2
def farW (w : Str) (xs ys : List Int) : Int := if w = "swap" then farSwap xs ys else if w = "spot" then farSpot xs ys else farShift xs ys
theorem farW_swap (xs ys : List Int) : farW "swap" xs ys = farSwap xs ys := if_pos rfl
theorem farW_spot (xs ys : List Int) : farW "spot" xs ys = farSpot xs ys := by
  unfold farW
  rw [if_neg n1, if_pos rfl]
theorem farW_shift (xs ys : List Int) : farW "shift" xs ys = farShift xs ys := by
  unfold farW
  rw [if_neg n2, if_neg n3]
theorem farW_turn {w : Str} {n : Nat} {xs ys : List Int} (ox : IsOrd n xs) (oy : IsOrd n ys) (hn : 1 ≤ n) : farW w ys xs = farW w xs ys := by
  unfold farW
  rw [farSwap_turn ox oy, farSpot_turn (by rw [ox.len, oy.len]), farShift_turn ox oy hn]
theorem farW_self {w : Str} {n : Nat} {xs : List Int} (ox : IsOrd n xs) (hn : 1 ≤ n) : farW w xs xs = 0 := by
  unfold farW
  rw [farSwap_self ox, farSpot_self, farShift_self ox hn]
  split
  · rfl
  · split <;> rfl
abbrev rAbs : List V → Hp → VK → Prop := fun xs H Q => ∃ i, xs = [.int i] ∧ Q (.int (if i < 0 then -i else i)) H
def spFar : Sp := fun vs H Q _ => ∃ (w : Str) (a b : Addr) (n : Nat) (xs ys : List Int), vs = [.str w, .ref a, .ref b] ∧ IsWay w ∧ H a = some (.lst (xs.map V.int)) ∧ H b = some (.lst (ys.map V.int)) ∧ IsOrd n xs ∧ IsOrd n ys ∧ 1 ≤ n ∧ n ≤ 12 ∧ ∀ (H' : Hp), Same H H' → Q (.int (farW w xs ys)) H'
end Fo
namespace Fo
open PySem PySem.Spec PyProof.Rows L2
def two (vs : List V) (H : Hp) (a b : Addr) (n : Nat) (xs ys : List Int) : Prop := vs = [.ref a, .ref b] ∧ H a = some (.lst (xs.map V.int)) ∧ H b = some (.lst (ys.map V.int)) ∧ IsOrd n xs ∧ IsOrd n ys ∧ 1 ≤ n ∧ n ≤ 12
end Fo
namespace Fo
open PySem PySem.Spec PyProof.Rows L2
theorem g0_getD {s : List Int} {i : Nat} {x : Int} (h : s[i]? = some x) : g0 s i = x := g0_at h
def spSeats : Sp := fun vs H Q _ => ∃ (a b : Addr) (n : Nat) (xs ys : List Int), two vs H a b n xs ys ∧ ∀ (l : Addr) (H' : Hp), H l = none → H' l = some (.lst ((seatsL xs ys).map V.int)) → Same H H' → Q (.ref l) H'
section
variable {P : Program} {w : World} {K : PySem.W.Frag} {mg : Str → Option Value} {base : Heap}
theorem scSeats : FnScope ["one", "other", "places", "thing"] ["one", "other"] (defScope s_seats_in) := ⟨rfl, rfl, rfl, by decide +kernel, rfl, by decide +kernel, by decide +kernel⟩
set_option maxHeartbeats 2000000 in
theorem ok_seats {f fP : Addr} {fd fdP : FuncData} {k : Nat} (T : Df K mg "seats_in" s_seats_in ["one", "other"] f fd) (T_places_in : Df K mg "places_in" s_places_in ["order"] fP fdP) (B : Bi mg) : FnOk P w K mg base CX0 (k + 2) f fd ["one", "other"] spSeats := by
  have G_places_in : FnOk P w K mg base CX0 (k + 1) fP fdP ["order"] spPlaces := ok_places T_places_in B
  refine T.F.ok scSeats (fun vs H Q E h => ?_) (fun cdv A outer s H vs Q E hr h => ?_)
  · obtain ⟨a, b, n, xs, ys, ⟨rfl, _⟩, _⟩ := h
    rfl
  · obtain ⟨a, b, n, xs, ys, ⟨rfl, ha, hb, ox, oy, hn1, hn2⟩, q⟩ := h
    refine ⟨_, 
      (pss_cons (ps_set (i := 2) scSeats.nd rfl (.inr rfl) (pe_call G_places_in hr (by rfl) T_places_in.g T_places_in.F.kp T_places_in.b .nil pass0 (pa_cons (pv 1) pa_nil)))
      (pss_one (ps_ret (pe_lc (own := [("thing", 3)]) (g := (gName 3)) (tt := tYes) (te := (tOp (rIxL K) (tVar 2) (tVar 3))) rfl scSeats.nd (pi_list (pv 0)) (blkOk_by (N := ["one", "other", "places", "thing"]) (sc := defScope s_seats_in) (by decide +kernel)) (fun _ _ _ _ _ => (pg_name (i := 3) scSeats.nd rfl (.inl rfl))) (fun _ _ _ _ _ => pts_nil) (fun _ _ _ _ _ => (pe_ix ix_list (pv 2) (pv 3) (fun _ _ => rfl))))))), ?_⟩
    refine ⟨_, rfl, b, n, ys, rfl, hb, oy, hn1, hn2, fun ps l H1 hps nl hl s1 => ?_⟩
    refine ⟨_, rfl, a, rfl, ⟨_, SqL.of (s1 _ _ ha)⟩, fun D nD => ?_⟩
    have nHD : H D = none := s1.free nD
    refine lc_list (K := K) (a := a) (xs := xs.map V.int) (fun i H3 => H3 D = some (.lst (((seatsL xs ys).take i).map V.int)) ∧ H3 l = some (.lst (ps.map V.int)) ∧ Same H H3) ⟨upd_same, same_new nD _ _ hl, s1.trans (same_new nD)⟩ (fun i H3 _ hP => SqL.of (hP.2.2 _ _ ha)) (fun i x H3 hx hP => ?_) (fun H3 hP => ?_)
    · obtain ⟨y, ey, rfl⟩ := int_at_inv hx
      obtain ⟨hD3, hl3, sm⟩ := hP
      have hy := ox.mem (List.mem_of_getElem? ey)
      have hi := (List.getElem?_eq_some_iff.mp ey).1
      rw [ox.len] at hi
      refine ⟨rfl, _, rfl, _, rfl, l, _, _, _, rfl, rfl, SqL.of hl3, at_of (j := y.toNat) (by omega) (int_at (back_pos oy hps hy.1 hy.2)), _, hD3, line_lt (by rw [List.length_map, List.length_take]; omega), ?_, ?_, fun c o e => ?_⟩
      · rw [upd_same, take_more (seats_at ey), List.map_append]
        rfl
      · rw [upd_ne (ne_of_none hl nD)]
        exact hl3
      · rw [upd_ne (ne_of_none e nHD)]
        exact sm _ _ e
    · obtain ⟨hD3, hl3, sm⟩ := hP
      rw [List.take_of_length_le (by rw [seats_len, List.length_map]; exact Nat.le_refl _)] at hD3
      exact q D H3 nHD hD3 sm
end
end Fo
namespace Fo
open PySem PySem.Spec PyProof.Rows L2
def spExch : Sp := fun vs H Q _ => ∃ (a : Addr) (p : Int) (xs : List Int), vs = [.ref a, .int p] ∧ H a = some (.lst (xs.map V.int)) ∧ 0 ≤ p ∧ p + 1 < xs.length ∧
  ∀ H', H' a = some (.lst ((sw xs p.toNat).map V.int)) → (∀ b o, b ≠ a → H b = some o → H' b = some o) → Q .non H'
section
variable {P : Program} {w : World} {K : PySem.W.Frag} {mg : Str → Option Value} {base : Heap}
theorem scExch : FnScope ["row", "place"] ["row", "place"] (defScope s_exchange) := ⟨rfl, rfl, rfl, by decide +kernel, rfl, by decide +kernel, by decide +kernel⟩
theorem ok_exch {f : Addr} {fd : FuncData} {k : Nat} (T : Df K mg "exchange" s_exchange ["row", "place"] f fd) : FnOk P w K mg base CX0 (k + 1) f fd ["row", "place"] spExch := by
  refine T.F.ok scExch (fun vs H Q E h => ?_) (fun cdv A outer s H vs Q E hr h => ?_)
  · obtain ⟨a, p, xs, rfl, _⟩ := h
    rfl
  · obtain ⟨l2, p, xs, rfl, hl5, p0, p1, q⟩ := h
    refine ⟨_, pss_one (ps_asg (pe_tup (pa_cons (pe_ix ix_list (pv 0) (pe_op op_add (pv 1) pe_int) (fun _ _ => rfl)) (pa_cons (pe_ix ix_list (pv 0) (pv 1) (fun _ _ => rfl)) pa_nil))) (pg_tup (by rfl) (pgs_cons (pg_sub (pv 0) (pv 1) set_list) (pgs_cons (pg_sub (pv 0) (pe_op op_add (pv 1) pe_int) set_list) pgs_nil)))), ?_⟩
    obtain ⟨a, ea⟩ : ∃ a, xs[p.toNat]? = some a := ⟨xs[p.toNat]'(by omega), List.getElem?_eq_getElem (by omega)⟩
    obtain ⟨b, eb⟩ : ∃ b, xs[p.toNat + 1]? = some b := ⟨xs[p.toNat + 1]'(by omega), List.getElem?_eq_getElem (by omega)⟩
    refine ⟨_, rfl, _, rfl, p, 1, rfl, rfl, l2, _, _, _, rfl, rfl, SqL.of hl5, at_of (j := p.toNat + 1) (by omega) (int_at eb), _, rfl, _, rfl, l2, _, _, _, rfl, rfl, SqL.of hl5, at_of (j := p.toNat) (by omega) (int_at ea), line_small (by show 2 ≤ 16777216; decide), fun t nt => ?_⟩
    have hl6 : (upd H t (.tup [.int b, .int a])) l2 = some (.lst (xs.map V.int)) := same_new nt _ _ hl5
    refine ⟨t, _, rfl, .inl (.inl upd_same), rfl, _, _, rfl, _, rfl, _, rfl, l2, _, _, p.toNat, rfl, rfl, hl6, ix_n (by omega) (by rw [List.length_map]; omega), ?_⟩
    refine ⟨_, _, rfl, _, rfl, _, rfl, p, 1, rfl, rfl, l2, _, _, p.toNat + 1, rfl, rfl, upd_same, ix_n (by omega) (by rw [List.length_set, List.length_map]; omega), ?_⟩
    refine ⟨rfl, q _ (by rw [upd_same, sw_V ea eb]) fun c o nc e => ?_⟩
    rw [upd_ne nc, upd_ne nc]
    exact same_new nt _ _ e
end
end Fo
namespace Fo
open PySem PySem.Spec PyProof.Rows L2
def spSwap : Sp := fun vs H Q _ => ∃ (a b : Addr) (n : Nat) (xs ys : List Int), two vs H a b n xs ys ∧ ∀ (H' : Hp), Same H H' → Q (.int (farSwap xs ys)) H'
def spSpot : Sp := fun vs H Q _ => ∃ (a b : Addr) (n : Nat) (xs ys : List Int), two vs H a b n xs ys ∧ ∀ (H' : Hp), Same H H' → Q (.int (farSpot xs ys)) H'
def spShift : Sp := fun vs H Q _ => ∃ (a b : Addr) (n : Nat) (xs ys : List Int), two vs H a b n xs ys ∧ ∀ (H' : Hp), Same H H' → Q (.int (farShift xs ys)) H'
section
variable {P : Program} {w : World} {K : PySem.W.Frag} {mg : Str → Option Value} {base : Heap}
theorem scSwap : FnScope ["one", "other", "seats", "turned", "place", "seat", "later"] ["one", "other"] (defScope s_far_by_swap) := ⟨rfl, rfl, rfl, by decide +kernel, rfl, by decide +kernel, by decide +kernel⟩
set_option maxHeartbeats 2000000 in
theorem ok_swap {f fP : Addr} {fd fdP : FuncData} {k : Nat} (T : Df K mg "far_by_swap" s_far_by_swap ["one", "other"] f fd) (T_seats_in : Df K mg "seats_in" s_seats_in ["one", "other"] fP fdP) (G_seats_in : FnOk P w K mg base CX0 k fP fdP ["one", "other"] spSeats) (B : Bi mg) : FnOk P w K mg base CX0 (k + 1) f fd ["one", "other"] spSwap := by
  refine T.F.ok scSwap (fun vs H Q E h => ?_) (fun cdv A outer s H vs Q E hr h => ?_)
  · obtain ⟨a, b, n, xs, ys, ⟨rfl, _⟩, _⟩ := h
    rfl
  · obtain ⟨a, b, n, xs, ys, ⟨rfl, ha, hb, ox, oy, hn1, hn2⟩, q⟩ := h
    refine ⟨_, 
      (pss_cons (ps_set (i := 2) scSwap.nd rfl (.inl rfl) (pe_call G_seats_in hr (by rfl) T_seats_in.g T_seats_in.F.kp T_seats_in.b .nil pass0 (pa_cons (pv 0) (pa_cons (pv 1) pa_nil))))
      (pss_cons (ps_set (i := 3) scSwap.nd rfl (.inl rfl) pe_int)
      (pss_cons (ps_for PassesOwn.never rfl (pi_enum (by rfl) B.enumerate (pa_cons (pv 2) pa_nil)) (pg_tup (by rfl) (pgs_cons (pg_name (i := 4) scSwap.nd rfl (.inl rfl)) (pgs_cons (pg_name (i := 5) scSwap.nd rfl (.inr rfl)) pgs_nil)))
        (pss_one (ps_aug (i := 3) scSwap.nd rfl (.inl rfl) (pe_callB call_len_seq (by rfl) B.len PySem.boot_len (pa_cons (pe_lc (own := [("later", 6)]) (g := (gName 6)) (tt := (tTest (tOp (rI0 fun i j => .bl (decide (i < j))) (tVar 6) (tVar 5)))) (te := (tVar 6)) rfl scSwap.nd (pi_list (pe_slice sl_list (pv 2) (po_some (pe_op op_add (pv 4) pe_int)) po_none)) (blkOk_by (N := ["one", "other", "seats", "turned", "place", "seat", "later"]) (sc := defScope s_far_by_swap) (by decide +kernel)) (fun _ _ _ _ _ => (pg_name (i := 6) scSwap.nd rfl (.inl rfl))) (fun _ _ _ _ _ => (pts_one (pt_cmpR op_lt (pv 6) (pv 5) (nomark _)))) (fun _ _ _ _ _ => (pv 6))) pa_nil)) ip_add)))
      (pss_one (ps_ret (pv 3)))))), ?_⟩
    refine ⟨_, rfl, _, rfl, a, b, n, xs, ys, ⟨rfl, ha, hb, ox, oy, hn1, hn2⟩, fun l H1 nl hl s1 => ?_⟩
    have os := seats_ord ox oy
    refine ⟨_, rfl, l, _, rfl, SqL.of hl, ?_⟩
    refine for_enumL (xs := (seatsL xs ys).map V.int) (fun i σ H3 => ∃ (y4 y5 y6 : Option V), σ = [some (.ref a), some (.ref b), some (.ref l), some (.int ((sumN (rg i) (fun p => cntL (seatsL xs ys) p.toNat) : Nat) : Int)), y4, y5, y6] ∧ H3 l = some (.lst ((seatsL xs ys).map V.int)) ∧ Same H H3)
      ⟨none, none, none, rfl, hl, s1⟩ (fun i σ H3 hP => by obtain ⟨_, _, _, _, hl3, _⟩ := hP; exact SqL.of hl3) (fun i x t σ H3 hx hP nt => ?_) (fun σ H3 hP => ?_)
    · obtain ⟨y4, y5, y6, rfl, hl3, sm⟩ := hP
      obtain ⟨y, ey, rfl⟩ := int_at_inv hx
      have hi := (List.getElem?_eq_some_iff.mp ey).1
      rw [os.len] at hi
      have s3 := same_new (o := .tup [.int (i : Nat), .int y]) nt
      refine ⟨t, _, rfl, .inl (.inl upd_same), rfl, _, _, rfl, _, _, rfl, rfl, ?_⟩
      refine ⟨_, rfl, _, rfl, _, rfl, (i : Int), 1, rfl, rfl, _, rfl, l, _, rfl, SqL.of (s3 _ _ hl3), fun c nc => ?_⟩
      have s4 := s3.trans (same_new (o := .lst (cutV ((seatsL xs ys).map V.int) (some ((i : Int) + 1)) none)) nc)
      have ecut : cutV ((seatsL xs ys).map V.int) (some ((i : Int) + 1)) none = (((seatsL xs ys).drop (i + 1)).map V.int) := by
        rw [cut_ints, show (i : Int) + 1 = ((i + 1 : Nat) : Int) by omega, cutI_tail]
      have hc4 : (upd (upd H3 t (.tup [.int (i : Nat), .int y])) c (.lst (cutV ((seatsL xs ys).map V.int) (some ((i : Int) + 1)) none))) c = some (.lst (((seatsL xs ys).drop (i + 1)).map V.int)) := by rw [upd_same, ecut]
      refine ⟨c, rfl, ⟨_, SqL.of hc4⟩, fun D nD => ?_⟩
      have ncD : c ≠ D := ne_of_none hc4 nD
      refine lc_list (K := K) (a := c) (xs := ((seatsL xs ys).drop (i + 1)).map V.int) (fun m H5 => H5 D = some (.lst (((((seatsL xs ys).drop (i + 1)).take m).filter (fun z => decide (z < g0 (seatsL xs ys) i))).map V.int)) ∧ H5 c = some (.lst (((seatsL xs ys).drop (i + 1)).map V.int)) ∧ Same H3 H5)
        ⟨upd_same, by rw [upd_ne ncD]; exact hc4, s4.trans (same_new nD)⟩ (fun m H5 _ hP => SqL.of hP.2.1) (fun m x H5 hx hP => ?_) (fun H5 hP => ?_)
      · obtain ⟨hD5, hc5, s5⟩ := hP
        obtain ⟨z, ez, rfl⟩ := int_at_inv hx
        have eg : g0 (seatsL xs ys) i = y := g0_at ey
        refine ⟨rfl, _, rfl, _, rfl, z, y, rfl, rfl, _, rfl, ite2 (fun c => ?_) (fun c => ?_)⟩
        · have hz : z < y := of_decide_eq_true c
          refine ⟨_, rfl, _, hD5, line_lt ?_, ?_, by rw [upd_ne ncD]; exact hc5, fun u o e => ?_⟩
          · rw [List.length_map]
            refine Nat.lt_of_le_of_lt (List.length_filter_le _ _) ?_
            rw [List.length_take, List.length_drop, os.len]
            omega
          · rw [upd_same, filter_more _ ez, eg, decide_eq_true hz, if_pos rfl, List.map_append]
            rfl
          · rw [upd_ne (ne_of_none (s4 _ _ e) nD)]
            exact s5 _ _ e
        · refine ⟨?_, hc5, s5⟩
          rw [filter_more _ ez, eg, decide_eq_false (fun hz => c (decide_eq_true hz)), if_neg (by decide), List.append_nil]
          rw [eg] at hD5
          exact hD5
      · obtain ⟨hD5, hc5, s5⟩ := hP
        rw [List.length_map, List.take_length] at hD5
        refine ⟨D, _, rfl, .inl (SqL.of hD5), _, _, rfl, rfl, ?_⟩
        refine ⟨some (.int (i : Int)), some (.int y), y6, ?_, s5 _ _ hl3, sm.trans s5⟩
        rw [rg_succ, sumN_append, sumN_cons, sumN_nil, List.length_map]
        show [some (.ref a), some (.ref b), some (.ref l), some (V.int (((sumN (rg i) (fun p => cntL (seatsL xs ys) p.toNat) : Nat) : Int) + ((cntL (seatsL xs ys) i : Nat) : Int))), some (.int (i : Int)), some (.int y), y6] = _
        rw [Int.toNat_natCast, Int.natCast_add, Nat.add_zero]
    · obtain ⟨y4, y5, y6, rfl, hl3, sm⟩ := hP
      refine ⟨_, rfl, ?_⟩
      have z := q H3 sm
      unfold farSwap invN at z
      rw [List.length_map]
      exact z
theorem scSpot : FnScope ["one", "other", "place"] ["one", "other"] (defScope s_far_by_spot) := ⟨rfl, rfl, rfl, by decide +kernel, rfl, by decide +kernel, by decide +kernel⟩
set_option maxHeartbeats 2000000 in
theorem ok_spot {f : Addr} {fd : FuncData} {k : Nat} (T : Df K mg "far_by_spot" s_far_by_spot ["one", "other"] f fd) (B : Bi mg) : FnOk P w K mg base CX0 (k + 1) f fd ["one", "other"] spSpot := by
  refine T.F.ok scSpot (fun vs H Q E h => ?_) (fun cdv A outer s H vs Q E hr h => ?_)
  · obtain ⟨a, b, n, xs, ys, ⟨rfl, _⟩, _⟩ := h
    rfl
  · obtain ⟨a, b, n, xs, ys, ⟨rfl, ha, hb, ox, oy, hn1, hn2⟩, q⟩ := h
    have hxl : (xs.map V.int).length = n := by rw [List.length_map, ox.len]
    refine ⟨_, 
      (pss_one (ps_ret (pe_callB call_len_seq (by rfl) B.len PySem.boot_len (pa_cons (pe_lc (own := [("place", 2)]) (g := (gName 2)) (tt := (tTest (tOp rNe (tOp (rIxL K) (tVar 0) (tVar 2)) (tOp (rIxL K) (tVar 1) (tVar 2))))) (te := (tVar 2)) rfl scSpot.nd (pi_range1 (by rfl) B.range (pa_cons (pe_callB call_len_seq (by rfl) B.len PySem.boot_len (pa_cons (pv 0) pa_nil)) pa_nil)) (blkOk_by (N := ["one", "other", "place"]) (sc := defScope s_far_by_spot) (by decide +kernel)) (fun _ _ _ _ _ => (pg_name (i := 2) scSpot.nd rfl (.inl rfl))) (fun _ _ _ _ _ => (pts_one (pt_cmpR op_ne (pe_ix ix_list (pv 0) (pv 2) (fun _ _ => rfl)) (pe_ix ix_list (pv 1) (pv 2) (fun _ _ => rfl)) (nomark _)))) (fun _ _ _ _ _ => (pv 2))) pa_nil)))), ?_⟩
    refine ⟨_, rfl, a, _, rfl, .inl (SqL.of ha), _, rfl, by omega, by rw [hxl]; omega, fun D nD => ?_⟩
    rw [hxl, Int.toNat_natCast]
    refine lc_range (lo := 0) (n := n) (fun m H3 => H3 D = some (.lst (((rg m).filter (fun p => !decide (g0 xs p = g0 ys p))).map V.int)) ∧ Same H H3) ⟨upd_same, same_new nD⟩ (fun m H3 hm hP => ?_) (fun H3 hP => ?_)
    · obtain ⟨hD3, sm⟩ := hP
      obtain ⟨x, ex, _⟩ := ord_ix ox hm
      obtain ⟨y, ey, _⟩ := ord_ix oy hm
      have gx : g0 xs (m : Int) = x := g0_at ex
      have gy : g0 ys (m : Int) = y := g0_at ey
      have fm : ((rg (m + 1)).filter fun p => !decide (g0 xs p = g0 ys p)) = ((rg m).filter fun p => !decide (g0 xs p = g0 ys p)) ++ (if x = y then [] else [(m : Int)]) := by
        rw [rg_succ, List.filter_append, List.filter_cons, gx, gy]
        congr 1
        by_cases c : x = y
        · simp [c]
        · simp [c]
      refine ⟨rfl, _, rfl, _, rfl, a, _, _, _, rfl, rfl, SqL.of (sm _ _ ha), at_of (j := m) (by omega) (int_at ex), _, rfl, _, rfl, b, _, _, _, rfl, rfl, SqL.of (sm _ _ hb), at_of (j := m) (by omega) (int_at ey), rfl, _, rfl, ?_⟩
      by_cases c : x = y
      · subst c
        refine iteNS rfl ⟨?_, sm⟩
        rw [fm, if_pos rfl, List.append_nil]
        exact hD3
      · rw [decide_eq_false (fun e => c (V.int.inj e))]
        refine iteT ⟨_, rfl, _, hD3, line_lt ?_, ?_, fun u o e => ?_⟩
        · rw [List.length_map]
          refine Nat.lt_of_le_of_lt (List.length_filter_le _ _) ?_
          rw [rg_len]
          omega
        · rw [upd_same, fm, if_neg c, List.map_append, Int.zero_add]
          rfl
        · rw [upd_ne (ne_of_none e nD)]
          exact sm _ _ e
    · obtain ⟨hD3, sm⟩ := hP
      refine ⟨D, _, rfl, .inl (SqL.of hD3), ?_⟩
      have z := q H3 sm
      unfold farSpot spotL at z
      rw [ox.len] at z
      rw [List.length_map]
      exact z
theorem scShift : FnScope ["one", "other", "place", "seat"] ["one", "other"] (defScope s_far_by_shift) := ⟨rfl, rfl, rfl, by decide +kernel, rfl, by decide +kernel, by decide +kernel⟩
set_option maxHeartbeats 2000000 in
theorem ok_shift {f fP : Addr} {fd fdP : FuncData} {k : Nat} (T : Df K mg "far_by_shift" s_far_by_shift ["one", "other"] f fd) (T_seats_in : Df K mg "seats_in" s_seats_in ["one", "other"] fP fdP) (G_seats_in : FnOk P w K mg base CX0 k fP fdP ["one", "other"] spSeats) (B : Bi mg) : FnOk P w K mg base CX0 (k + 1) f fd ["one", "other"] spShift := by
  refine T.F.ok scShift (fun vs H Q E h => ?_) (fun cdv A outer s H vs Q E hr h => ?_)
  · obtain ⟨a, b, n, xs, ys, ⟨rfl, _⟩, _⟩ := h
    rfl
  · obtain ⟨a, b, n, xs, ys, ⟨rfl, ha, hb, ox, oy, hn1, hn2⟩, q⟩ := h
    refine ⟨_, 
      (pss_one (ps_ret (pe_callB (cr_max rfl) (by rfl) B.max (by decide +kernel) (pa_cons (pe_lc (own := [("place", 2), ("seat", 3)]) (g := (gTup K 2 (gCons (gName 2) (gCons (gName 3) gNil)))) (tt := tYes) (te := (tCB rAbs (tCons (tOp (rI0 fun i j => .int (i - j)) (tVar 2) (tVar 3)) tNil))) rfl scShift.nd (pi_enum (by rfl) B.enumerate (pa_cons (pe_call G_seats_in hr (by rfl) T_seats_in.g T_seats_in.F.kp T_seats_in.b .nil pass0 (pa_cons (pv 0) (pa_cons (pv 1) pa_nil))) pa_nil)) (blkOk_by (N := ["one", "other", "place", "seat"]) (sc := defScope s_far_by_shift) (by decide +kernel)) (fun _ _ _ _ _ => (pg_tup (by rfl) (pgs_cons (pg_name (i := 2) scShift.nd rfl (.inl rfl)) (pgs_cons (pg_name (i := 3) scShift.nd rfl (.inl rfl)) pgs_nil)))) (fun _ _ _ _ _ => pts_nil) (fun _ _ _ _ _ => (pe_callB call_abs (by rfl) B.abs (by decide +kernel) (pa_cons (pe_op op_sub (pv 2) (pv 3)) pa_nil)))) pa_nil)))), ?_⟩
    have os := seats_ord ox oy
    refine ⟨_, rfl, _, rfl, a, b, n, xs, ys, ⟨rfl, ha, hb, ox, oy, hn1, hn2⟩, fun l H1 nl hl s1 => ?_⟩
    refine ⟨l, _, rfl, SqL.of hl, fun D nD => ?_⟩
    have nlD : l ≠ D := ne_of_none hl nD
    have nHD : H D = none := s1.free nD
    refine lc_enumL (K := K) (a := l) (xs := (seatsL xs ys).map V.int) (fun m H3 => H3 D = some (.lst (((gapsL xs ys).take m).map V.int)) ∧ H3 l = some (.lst ((seatsL xs ys).map V.int)) ∧ Same H H3) ⟨upd_same, by rw [upd_ne nlD]; exact hl, s1.trans (same_new nD)⟩ (fun m H3 _ hP => SqL.of hP.2.1) (fun m x t H3 hx hP nt => ?_) (fun H3 hP => ?_)
    · obtain ⟨hD3, hl3, sm⟩ := hP
      obtain ⟨y, ey, rfl⟩ := int_at_inv hx
      have hi := (List.getElem?_eq_some_iff.mp ey).1
      rw [os.len] at hi
      have s3 := same_new (o := .tup [.int (m : Nat), .int y]) nt
      have eg : (gapsL xs ys)[m]? = some (absI ((m : Int) - y)) := by
        unfold gapsL rg
        rw [List.map_map, List.getElem?_map, List.getElem?_range (by rw [ox.len]; exact hi)]
        show some (absI ((m : Int) - g0 (seatsL xs ys) (m : Int))) = _
        rw [g0_at ey]
      refine ⟨t, _, rfl, .inl (.inl upd_same), rfl, _, _, rfl, _, _, rfl, rfl, rfl, ?_⟩
      refine ⟨_, rfl, _, rfl, (m : Int), y, rfl, rfl, _, rfl, _, s3 _ _ hD3, line_lt (by rw [List.length_map, List.length_take, gaps_len, ox.len]; omega), ?_, ?_, fun u o e => ?_⟩
      · rw [upd_same, take_more eg, List.map_append]
        rfl
      · rw [upd_ne nlD]
        exact s3 _ _ hl3
      · rw [upd_ne (ne_of_none e nHD)]
        exact s3 _ _ (sm _ _ e)
    · obtain ⟨hD3, hl3, sm⟩ := hP
      rw [List.take_of_length_le (by rw [gaps_len, List.length_map, seats_len]; exact Nat.le_refl _)] at hD3
      refine ⟨D, gapsL xs ys, rfl, SqL.of hD3, by rw [gaps_len, ox.len]; exact hn1, fun m hm hle => ?_⟩
      have e : farShift xs ys = m := maxL_of (gaps_nonneg xs ys) hm hle
      rw [← e]
      exact q H3 sm
theorem scKnown : FnScope ["way", "one", "other"] ["way", "one", "other"] (defScope s_known_far) := ⟨rfl, rfl, rfl, by decide +kernel, rfl, by decide +kernel, by decide +kernel⟩
theorem ok_known {f f4 f5 f6 : Addr} {fd d4 d5 d6 : FuncData} {k : Nat} (T : Df K mg "known_far" s_known_far ["way", "one", "other"] f fd) (T_far_by_swap : Df K mg "far_by_swap" s_far_by_swap ["one", "other"] f4 d4) (T_far_by_spot : Df K mg "far_by_spot" s_far_by_spot ["one", "other"] f5 d5) (T_far_by_shift : Df K mg "far_by_shift" s_far_by_shift ["one", "other"] f6 d6)
    (G_far_by_swap : FnOk P w K mg base CX0 k f4 d4 ["one", "other"] spSwap) (G_far_by_spot : FnOk P w K mg base CX0 k f5 d5 ["one", "other"] spSpot) (G_far_by_shift : FnOk P w K mg base CX0 k f6 d6 ["one", "other"] spShift) :
    FnOk P w K mg base CX0 (k + 1) f fd ["way", "one", "other"] spFar := by
  refine T.F.ok scKnown (fun vs H Q E h => ?_) (fun cdv A outer s H vs Q E hr h => ?_)
  · obtain ⟨z, a, b, n, xs, ys, rfl, _⟩ := h
    rfl
  · obtain ⟨z, a, b, n, xs, ys, rfl, hz, ha, hb, ox, oy, hn1, hn2, q⟩ := h
    refine ⟨_, 
      (pss_cons (ps_if (pt_cmpR op_eq (pv 0) pe_str (nomark _))
        (pss_one (ps_ret (pe_call G_far_by_swap hr (by rfl) T_far_by_swap.g T_far_by_swap.F.kp T_far_by_swap.b .nil pass0 (pa_cons (pv 1) (pa_cons (pv 2) pa_nil)))))
        pss_nil)
      (pss_cons (ps_if (pt_cmpR op_eq (pv 0) pe_str (nomark _))
        (pss_one (ps_ret (pe_call G_far_by_spot hr (by rfl) T_far_by_spot.g T_far_by_spot.F.kp T_far_by_spot.b .nil pass0 (pa_cons (pv 1) (pa_cons (pv 2) pa_nil)))))
        pss_nil)
      (pss_one (ps_ret (pe_call G_far_by_shift hr (by rfl) T_far_by_shift.g T_far_by_shift.F.kp T_far_by_shift.b .nil pass0 (pa_cons (pv 1) (pa_cons (pv 2) pa_nil))))))), ?_⟩
    rcases hz with rfl | rfl | rfl
    · refine ⟨_, rfl, rfl, _, rfl, ite2 (fun _ => ?_) (fun c => absurd (by decide +kernel) c)⟩
      exact ⟨_, rfl, _, rfl, a, b, n, xs, ys, ⟨rfl, ha, hb, ox, oy, hn1, hn2⟩, fun H2 s2 => by rw [← farW_swap]; exact q H2 s2⟩
    · refine ⟨_, rfl, rfl, _, rfl, ite2 (fun c => absurd c (by decide +kernel)) (fun _ => ?_)⟩
      refine ⟨_, rfl, rfl, _, rfl, ite2 (fun _ => ?_) (fun c => absurd (by decide +kernel) c)⟩
      exact ⟨_, rfl, _, rfl, a, b, n, xs, ys, ⟨rfl, ha, hb, ox, oy, hn1, hn2⟩, fun H2 s2 => by rw [← farW_spot]; exact q H2 s2⟩
    · refine ⟨_, rfl, rfl, _, rfl, ite2 (fun c => absurd c (by decide +kernel)) (fun _ => ?_)⟩
      refine ⟨_, rfl, rfl, _, rfl, ite2 (fun c => absurd c (by decide +kernel)) (fun _ => ?_)⟩
      exact ⟨_, rfl, _, rfl, a, b, n, xs, ys, ⟨rfl, ha, hb, ox, oy, hn1, hn2⟩, fun H2 s2 => by rw [← farW_shift]; exact q H2 s2⟩
end
end Fo
namespace Fo
open PySem PySem.Spec PyProof.Rows L2
section
variable {P : Program} {w : World} {K : PySem.W.Frag} {mg : Str → Option Value} {base : Heap}
theorem scFar : FnScope ["way", "one", "other"] ["way", "one", "other"] (defScope s_how_far) := ⟨rfl, rfl, rfl, by decide +kernel, rfl, by decide +kernel, by decide +kernel⟩
theorem ok_far {f f1 f2 f3 f4 : Addr} {fd d1 d2 d3 d4 : FuncData} {k : Nat} (T : Df K mg "how_far" s_how_far ["way", "one", "other"] f fd) (T_check_orders : Df K mg "check_orders" s_check_orders ["one", "other"] f1 d1) (T_check_way : Df K mg "check_way" s_check_way ["thing"] f2 d2) (T_check_fit : Df K mg "check_fit" s_check_fit ["one", "other"] f3 d3) (T_known_far : Df K mg "known_far" s_known_far ["way", "one", "other"] f4 d4)
    (G_check_orders : FnOk P w K mg base CX0 k f1 d1 ["one", "other"] spChecks) (G_check_way : FnOk P w K mg base CX0 k f2 d2 ["thing"] spWay) (G_check_fit : FnOk P w K mg base CX0 k f3 d3 ["one", "other"] spFit) (G_known_far : FnOk P w K mg base CX0 k f4 d4 ["way", "one", "other"] spFar) :
    FnOk P w K mg base CX0 (k + 1) f fd ["way", "one", "other"] spFar := by
  refine T.F.ok scFar (fun vs H Q E h => ?_) (fun cdv A outer s H vs Q E hr h => ?_)
  · obtain ⟨z, a, b, n, xs, ys, rfl, _⟩ := h
    rfl
  · obtain ⟨z, a, b, n, xs, ys, rfl, hz, ha, hb, ox, oy, hn1, hn2, q⟩ := h
    refine ⟨_, 
      (pss_cons (ps_expr (pe_call G_check_orders hr (by rfl) T_check_orders.g T_check_orders.F.kp T_check_orders.b .nil pass0 (pa_cons (pv 1) (pa_cons (pv 2) pa_nil))))
      (pss_cons (ps_expr (pe_call G_check_way hr (by rfl) T_check_way.g T_check_way.F.kp T_check_way.b .nil pass0 (pa_cons (pv 0) pa_nil)))
      (pss_cons (ps_expr (pe_call G_check_fit hr (by rfl) T_check_fit.g T_check_fit.F.kp T_check_fit.b .nil pass0 (pa_cons (pv 1) (pa_cons (pv 2) pa_nil))))
      (pss_one (ps_ret (pe_call G_known_far hr (by rfl) T_known_far.g T_known_far.F.kp T_known_far.b .nil pass0 (pa_cons (pv 0) (pa_cons (pv 1) (pa_cons (pv 2) pa_nil))))))))), ?_⟩
    refine ⟨_, rfl, _, rfl, a, b, n, n, xs, ys, rfl, ha, hb, ox, hn1, hn2, oy, hn1, hn2, fun H1 s1 => ?_⟩
    refine ⟨_, rfl, z, rfl, hz, ?_⟩
    refine ⟨_, rfl, _, rfl, a, b, xs, ys, rfl, s1 _ _ ha, s1 _ _ hb, by rw [ox.len, oy.len], ?_⟩
    exact ⟨_, rfl, _, rfl, _, rfl, z, a, b, n, xs, ys, rfl, hz, s1 _ _ ha, s1 _ _ hb, ox, oy, hn1, hn2, fun H2 s2 => q H2 (s1.trans s2)⟩
end
end Fo
namespace Fo
open PySem PySem.Spec PyProof.Rows L2
def turnedV : Option Nat → V
  | none => .non
  | some p => .int p
def spTurned : Sp := fun vs H Q _ => ∃ (a : Addr) (s : List Int), vs = [.ref a] ∧ H a = some (.lst (s.map V.int)) ∧ s.length ≤ 1000 ∧ 1 ≤ s.length ∧ Q (turnedV (firstDesc s)) H
def spShort : Sp := fun vs H Q _ => ∃ (a b : Addr) (n : Nat) (xs ys : List Int), two vs H a b n xs ys ∧ ∀ (l : Addr) (H' : Hp), H l = none → H' l = some (.lst ((walkL (seatsL xs ys)).map V.int)) → Same H H' → Q (.ref l) H'
section
variable {P : Program} {w : World} {K : PySem.W.Frag} {mg : Str → Option Value} {base : Heap}
theorem scTurned : FnScope ["seats", "place"] ["seats"] (defScope s_first_turned) := ⟨rfl, rfl, rfl, by decide +kernel, rfl, by decide +kernel, by decide +kernel⟩
set_option maxHeartbeats 2000000 in
theorem ok_turned {f : Addr} {fd : FuncData} {k : Nat} (T : Df K mg "first_turned" s_first_turned ["seats"] f fd) (B : Bi mg) : FnOk P w K mg base CX0 (k + 1) f fd ["seats"] spTurned := by
  refine T.F.ok scTurned (fun vs H Q E h => ?_) (fun cdv A outer s H vs Q E hr h => ?_)
  · obtain ⟨a, t, rfl, _⟩ := h
    rfl
  · obtain ⟨a, t, rfl, ha, hl, hl1, q⟩ := h
    have hlm : (t.map V.int).length = t.length := List.length_map _
    refine ⟨_, 
      (pss_cons (ps_for PassesOwn.never rfl (pi_range1 (by rfl) B.range (pa_cons (pe_op op_sub (pe_callB call_len_seq (by rfl) B.len PySem.boot_len (pa_cons (pv 0) pa_nil)) pe_int) pa_nil)) (pg_name (i := 1) scTurned.nd rfl (.inl rfl))
        (pss_one (ps_if (pt_cmpR op_gt (pe_ix ix_list (pv 0) (pv 1) (fun _ _ => rfl)) (pe_ix ix_list (pv 0) (pe_op op_add (pv 1) pe_int) (fun _ _ => rfl)) (nomark _))
          (pss_one (ps_ret (pv 1)))
          pss_nil)))
      (pss_one (ps_ret pe_non))), ?_⟩
    refine ⟨_, rfl, a, _, rfl, .inl (SqL.of ha), _, 1, rfl, rfl, _, rfl, by rw [hlm]; omega, by rw [hlm]; omega, ?_⟩
    refine for_range (n := (((t.map V.int).length : Nat) - (1 : Int)).toNat) (fun i σ H3 => ∃ y1 : Option V, σ = [some (.ref a), y1] ∧ H3 = H ∧ ∀ (j : Nat) (u v : Int), j < i → t[j]? = some u → t[j + 1]? = some v → u ≤ v)
      ⟨_, rfl, rfl, fun j u v hj => absurd hj (Nat.not_lt_zero _)⟩ (fun i σ H3 hi hP => ?_) (fun σ H3 hP => ?_)
    · obtain ⟨y1, rfl, rfl, hle⟩ := hP
      rw [hlm] at hi
      obtain ⟨x, ex⟩ : ∃ x, t[i]? = some x := ⟨t[i]'(by omega), List.getElem?_eq_getElem (by omega)⟩
      obtain ⟨y, ey⟩ : ∃ y, t[i + 1]? = some y := ⟨t[i + 1]'(by omega), List.getElem?_eq_getElem (by omega)⟩
      refine ⟨_, rfl, _, rfl, a, _, _, _, rfl, rfl, SqL.of ha, at_of (j := i) (by omega) (int_at ex), _, rfl, _, rfl, _, 1, rfl, rfl, a, _, _, _, rfl, rfl, SqL.of ha, at_of (j := i + 1) (by omega) (int_at ey), x, y, rfl, rfl, _, rfl, ite2 (fun c => ?_) (fun c => ?_)⟩
      · have hlt : y < x := of_decide_eq_true c
        rw [fd_some hle ex ey hlt] at q
        refine ⟨_, rfl, ?_⟩
        rw [Int.zero_add]
        exact q
      · refine ⟨_, rfl, rfl, fun j u v hj hu hv => ?_⟩
        by_cases d : j = i
        · subst d
          have e1 : x = u := Option.some.inj (ex.symm.trans hu)
          have e2 : y = v := Option.some.inj (ey.symm.trans hv)
          have hn : ¬ y < x := fun z => c (decide_eq_true z)
          omega
        · exact hle j u v (by omega) hu hv
    · obtain ⟨y1, rfl, rfl, hle⟩ := hP
      rw [fd_none (fun j u v hu hv => hle j u v (by
        have := (List.getElem?_eq_some_iff.mp hv).1
        rw [hlm]
        omega) hu hv)] at q
      exact q
theorem scShort : FnScope ["one", "other", "seats", "walk", "place"] ["one", "other"] (defScope s_short_walk) := ⟨rfl, rfl, rfl, by decide +kernel, rfl, by decide +kernel, by decide +kernel⟩
set_option maxHeartbeats 2000000 in
theorem ok_short {f f1 f2 f3 f4 f5 : Addr} {fd d1 d2 d3 d4 d5 : FuncData} {k : Nat} (T : Df K mg "short_walk" s_short_walk ["one", "other"] f fd) (T_check_orders : Df K mg "check_orders" s_check_orders ["one", "other"] f1 d1) (T_check_fit : Df K mg "check_fit" s_check_fit ["one", "other"] f2 d2) (T_seats_in : Df K mg "seats_in" s_seats_in ["one", "other"] f3 d3) (T_first_turned : Df K mg "first_turned" s_first_turned ["seats"] f4 d4) (T_exchange : Df K mg "exchange" s_exchange ["row", "place"] f5 d5)
    (G_check_orders : FnOk P w K mg base CX0 (k + 1) f1 d1 ["one", "other"] spChecks) (G_seats_in : FnOk P w K mg base CX0 (k + 1) f3 d3 ["one", "other"] spSeats) (B : Bi mg) : FnOk P w K mg base CX0 (k + 2) f fd ["one", "other"] spShort := by
  have G_check_fit : FnOk P w K mg base CX0 (k + 1) f2 d2 ["one", "other"] spFit := ok_fit T_check_fit B
  have G_first_turned : FnOk P w K mg base CX0 (k + 1) f4 d4 ["seats"] spTurned := ok_turned T_first_turned B
  have G_exchange : FnOk P w K mg base CX0 (k + 1) f5 d5 ["row", "place"] spExch := ok_exch T_exchange
  refine T.F.ok scShort (fun vs H Q E h => ?_) (fun cdv A outer s H vs Q E hr h => ?_)
  · obtain ⟨a, b, n, xs, ys, ⟨rfl, _⟩, _⟩ := h
    rfl
  · obtain ⟨a, b, n, xs, ys, ⟨rfl, ha, hb, ox, oy, hn1, hn2⟩, q⟩ := h
    refine ⟨_, 
      (pss_cons (ps_expr (pe_call G_check_orders hr (by rfl) T_check_orders.g T_check_orders.F.kp T_check_orders.b .nil pass0 (pa_cons (pv 0) (pa_cons (pv 1) pa_nil))))
      (pss_cons (ps_expr (pe_call G_check_fit hr (by rfl) T_check_fit.g T_check_fit.F.kp T_check_fit.b .nil pass0 (pa_cons (pv 0) (pa_cons (pv 1) pa_nil))))
      (pss_cons (ps_set (i := 2) scShort.nd rfl (.inl rfl) (pe_call G_seats_in hr (by rfl) T_seats_in.g T_seats_in.F.kp T_seats_in.b .nil pass0 (pa_cons (pv 0) (pa_cons (pv 1) pa_nil))))
      (pss_cons (ps_set (i := 3) scShort.nd rfl (.inl rfl) (pe_lst pa_nil))
      (pss_cons (ps_set (i := 4) scShort.nd rfl (.inl rfl) (pe_call G_first_turned hr (by rfl) T_first_turned.g T_first_turned.F.kp T_first_turned.b .nil pass0 (pa_cons (pv 2) pa_nil)))
      (pss_cons (ps_while PassesOwn.never (pt_cmpR op_notN (pv 4) pe_non (nomark _))
        (pss_cons (ps_expr (pe_call G_exchange hr (by rfl) T_exchange.g T_exchange.F.kp T_exchange.b .nil pass0 (pa_cons (pv 2) (pa_cons (pv 4) pa_nil))))
        (pss_cons (ps_expr (pe_bm PySem.F.plainAttrs_list PySem.F.slot_list_append PySem.F.type_list_append mt_append (pv 3) (pa_cons (pv 4) pa_nil)))
        (pss_one (ps_set (i := 4) scShort.nd rfl (.inl rfl) (pe_call G_first_turned hr (by rfl) T_first_turned.g T_first_turned.F.kp T_first_turned.b .nil pass0 (pa_cons (pv 2) pa_nil)))))))
      (pss_one (ps_ret (pv 3))))))))), ?_⟩
    refine ⟨_, rfl, _, rfl, a, b, n, n, xs, ys, rfl, ha, hb, ox, hn1, hn2, oy, hn1, hn2, fun H1 s1 => ?_⟩
    refine ⟨_, rfl, _, rfl, a, b, xs, ys, rfl, s1 _ _ ha, s1 _ _ hb, by rw [ox.len, oy.len], ?_⟩
    refine ⟨_, rfl, _, rfl, a, b, n, xs, ys, ⟨rfl, s1 _ _ ha, s1 _ _ hb, ox, oy, hn1, hn2⟩, fun sd H2 nsd hsd s2 => ?_⟩
    have s12 := s1.trans s2
    have nHsd : H sd = none := s1.free nsd
    refine ⟨Nat.zero_le _, fun wl nwl => ?_⟩
    have s3 := s12.trans (same_new (o := .lst []) nwl)
    have nHwl : H wl = none := s12.free nwl
    have nsw : sd ≠ wl := ne_of_none hsd nwl
    have hsd3 := same_new (o := .lst []) nwl _ _ hsd
    have hls : (seatsL xs ys).length = n := by rw [seats_len, ox.len]
    refine ⟨_, rfl, sd, seatsL xs ys, rfl, hsd3, by omega, by omega, ?_⟩
    refine ⟨fun m σ H4 => ∃ (t : List Int) (fs : List Int), σ = [some (.ref a), some (.ref b), some (.ref sd), some (.ref wl), some (turnedV (firstDesc t))] ∧ m = invR t ∧ t.length = n ∧ fs ++ walkL t = walkL (seatsL xs ys) ∧ fs.length + invR t = invR (seatsL xs ys) ∧ H4 sd = some (.lst (t.map V.int)) ∧ H4 wl = some (.lst (fs.map V.int)) ∧ Same H H4,
      ⟨_, seatsL xs ys, [], rfl, rfl, hls, rfl, by rw [List.length_nil]; omega, hsd3, upd_same, s3⟩, fun m σ H4 hW => ?_⟩
    obtain ⟨t, fs, rfl, rfl, el, ew, ei, hs4, hw4, sm⟩ := hW
    cases ef : firstDesc t with
    | none =>
      refine ⟨_, rfl, rfl, _, rfl, ?_⟩
      refine iteF ⟨_, rfl, q wl H4 nHwl ?_ sm⟩
      rw [walk_none ef, List.append_nil] at ew
      rw [← ew]
      exact hw4
    | some p =>
      obtain ⟨x, y, hx, hy, hlt, _⟩ := fd_at ef
      have hp := (List.getElem?_eq_some_iff.mp hy).1
      have hinv := invR_sw hx hy hlt
      refine ⟨_, rfl, rfl, _, rfl, ?_⟩
      refine iteT ⟨fun σ' H' => ∃ (t' fs' : List Int), σ' = [some (.ref a), some (.ref b), some (.ref sd), some (.ref wl), some (turnedV (firstDesc t'))] ∧ invR t' < invR t ∧ t'.length = n ∧ fs' ++ walkL t' = walkL (seatsL xs ys) ∧ fs'.length + invR t' = invR (seatsL xs ys) ∧ H' sd = some (.lst (t'.map V.int)) ∧ H' wl = some (.lst (fs'.map V.int)) ∧ Same H H', fun σ' H' hN => ?_, ?_⟩
      · obtain ⟨t', fs', e, lt, r⟩ := hN
        exact ⟨invR t', lt, t', fs', e, rfl, r⟩
      · refine ⟨_, rfl, _, rfl, sd, (p : Int), t, rfl, hs4, by omega, by omega, fun H5 h5 kp => ?_⟩
        rw [Int.toNat_natCast] at h5
        have hw5 := kp wl _ nsw.symm hw4
        have hbig : fs.length < 16777216 := by
          have := invR_len (seatsL xs ys)
          rw [hls] at this
          have h2 : n * n ≤ 12 * 12 := Nat.mul_le_mul hn2 hn2
          omega
        refine ⟨_, rfl, .inl ⟨rfl, _, SqL.of hw5⟩, _, rfl, wl, _, _, rfl, rfl, hw5, line_lt (by rw [List.length_map]; exact hbig), ?_⟩
        have hs6 : (upd H5 wl (.lst (fs.map V.int ++ [.int (p : Int)]))) sd = some (.lst ((sw t p).map V.int)) := by rw [upd_ne nsw]; exact h5
        refine ⟨_, rfl, sd, sw t p, rfl, hs6, by rw [sw_len]; omega, by rw [sw_len]; omega, ?_⟩
        refine ⟨sw t p, fs ++ [(p : Int)], rfl, by omega, by rw [sw_len]; exact el, ?_, ?_, hs6, by rw [upd_same, List.map_append]; rfl, fun c o e => ?_⟩
        · rw [List.append_assoc]
          show fs ++ ((p : Int) :: walkL (sw t p)) = _
          rw [← walk_some ef]
          exact ew
        · rw [List.length_append, List.length_singleton]
          omega
        · rw [upd_ne (ne_of_none e nHwl)]
          exact kp c o (ne_of_none e nHsd) (sm _ _ e)
end
end Fo
namespace Fo
open PySem PySem.Spec PyProof.Rows L2
/-! ### walks -/
def IsWalk (n : Nat) (ws : List Int) : Prop := ∀ p ∈ ws, 0 ≤ p ∧ p + 1 < n
def spIsWalk : Sp := fun vs H Q _ => ∃ (b : Addr) (n : Nat) (ws : List Int), vs = [.ref b, .int n] ∧ H b = some (.lst (ws.map V.int)) ∧ IsWalk n ws ∧ ws.length ≤ 1000 ∧ ∀ H', Same H H' → Q (.bl true) H'
def spWalkEnd : Sp := fun vs H Q _ => ∃ (a b : Addr) (n : Nat) (ns ws : List Int), vs = [.ref a, .ref b] ∧ H a = some (.lst (ns.map V.int)) ∧ H b = some (.lst (ws.map V.int)) ∧ IsOrd n ns ∧ 1 ≤ n ∧ n ≤ 12 ∧ IsWalk n ws ∧ ws.length ≤ 1000 ∧
  ∀ (H' : Hp) (l : Addr), Same H H' → H l = none → H' l = some (.lst ((wEnd ns ws).map V.int)) → Q (.ref l) H'
section
variable {P : Program} {w : World} {K : PySem.W.Frag} {mg : Str → Option Value} {base : Heap}
theorem scIsWalk : FnScope ["thing", "n", "place"] ["thing", "n"] (defScope s_is_walk) := ⟨rfl, rfl, rfl, by decide +kernel, rfl, by decide +kernel, by decide +kernel⟩
set_option maxHeartbeats 2000000 in
theorem ok_is_walk {f fW : Addr} {fd fdW : FuncData} {k : Nat} (T : Df K mg "is_walk" s_is_walk ["thing", "n"] f fd) (TW : Df K mg "is_whole" s_is_whole ["thing"] fW fdW) (B : Bi mg) : FnOk P w K mg base CX0 (k + 2) f fd ["thing", "n"] spIsWalk := by
  have GW : FnOk P w K mg base CX0 (k + 1) fW fdW ["thing"] spWhole := ok_whole TW B
  refine T.F.ok scIsWalk (fun vs H Q E h => ?_) (fun cdv A outer s H vs Q E hr h => ?_)
  · obtain ⟨b, n, ws, rfl, _⟩ := h
    rfl
  · obtain ⟨a, n, ws, rfl, hl, hw, hlen, q⟩ := h
    refine ⟨_, pss_cons (ps_if (pt_not (pt_val (pe_callB call_isi (by rfl) B.isinstance (by decide +kernel) (pa_cons (pv 0) (pa_cons (pe_bltn (v := .ty "list") (by rfl) B.list (by decide +kernel) rfl) pa_nil))))) (pss_one (ps_ret pe_bl)) pss_nil)
      (pss_one (ps_ret (pe_callB (cr_all rfl) (by rfl) B.all (by decide +kernel) (pa_cons (pe_lc (own := [("place", 2)]) (g := gName 2) (tt := tYes) (te := tAndV (tCall spWhole [] E0 (tCons (tVar 2) tNil)) (tChain (rI0 fun i j => .bl (decide (i ≤ j))) (rI0 fun i j => .bl (decide (i < j))) (tC (.int 0)) (tVar 2) (tOp (rI0 fun i j => .int (i - j)) (tVar 1) (tC (.int 1))))) rfl scIsWalk.nd (pi_list (pv 0)) (blkOk_by (N := ["thing", "n", "place"]) (sc := defScope s_is_walk) (by decide +kernel)) (fun _ _ _ _ _ => pg_name (i := 2) scIsWalk.nd rfl (.inl rfl)) (fun _ _ _ _ _ => pts_nil)
          (fun _ _ _ _ _ => pe_and (pe_call GW hr (by rfl) TW.g TW.F.kp TW.b .nil pass0 (pa_cons (pv 2) pa_nil)) (pe_one (pe_chain op_le op_lt pe_int (pv 2) (pe_op op_sub (pv 1) pe_int))))) pa_nil)))), ?_⟩
    refine ⟨_, rfl, _, _, _, _, true, rfl, .ty _, .base (.lst hl), kit_ty (by decide +kernel), true, rfl, iteF ?_⟩
    refine ⟨_, rfl, a, rfl, ⟨_, SqL.of hl⟩, fun p np => ?_⟩
    refine lc_list (K := K) (a := a) (xs := ws.map V.int) (fun i H3 => H3 p = some (.lst ((List.replicate i true).map V.bl)) ∧ Same H H3) ⟨upd_same, same_new np⟩ (fun i H3 _ hP => SqL.of (hP.2 _ _ hl)) (fun i x H3 hx hP => ?_) (fun H3 hP => ?_)
    · obtain ⟨y, ey, rfl⟩ := int_at_inv hx
      obtain ⟨hp3, sm⟩ := hP
      have hy := hw y (List.mem_of_getElem? ey)
      refine ⟨rfl, _, rfl, y, rfl, _, rfl, iteT ?_⟩
      refine ⟨_, rfl, 0, y, rfl, rfl, _, rfl, ?_⟩
      rw [decide_eq_true hy.1]
      refine iteT ⟨_, rfl, (n : Int), 1, rfl, rfl, y, _, rfl, rfl, ?_⟩
      dsimp only
      rw [decide_eq_true (show y < (n : Int) - 1 by omega)]
      refine ⟨_, hp3, line_lt (by
        rw [List.length_map, List.length_replicate]
        have := (List.getElem?_eq_some_iff.mp ey).1
        omega), ?_, fun b o e => ?_⟩
      · rw [upd_same, List.replicate_succ', List.map_append]
        rfl
      · rw [upd_ne (ne_of_none e np)]
        exact sm _ _ e
    · obtain ⟨hp3, sm⟩ := hP
      refine ⟨p, _, rfl, SqL.of hp3, ?_⟩
      rw [all_true]
      exact q H3 sm
theorem scWalkEnd : FnScope ["order", "walk", "end", "place"] ["order", "walk"] (defScope s_walk_end) := ⟨rfl, rfl, rfl, by decide +kernel, rfl, by decide +kernel, by decide +kernel⟩
set_option maxHeartbeats 2000000 in
theorem ok_walk_end {f fC fO fW fI fE : Addr} {fd fdC fdO fdW fdI fdE : FuncData} {k : Nat} {t : Tok} (T : Df K mg "walk_end" s_walk_end ["order", "walk"] f fd) (TC : Df K mg "check_order" s_check_order ["thing"] fC fdC) (TO : Df K mg "is_order" s_is_order ["thing"] fO fdO) (TW : Df K mg "is_whole" s_is_whole ["thing"] fW fdW)
    (TI : Df K mg "is_walk" s_is_walk ["thing", "n"] fI fdI) (TE : Df K mg "exchange" s_exchange ["row", "place"] fE fdE) (B : Bi mg) (mM : mg "MOST_THINGS" = some (.int 12 t)) : FnOk P w K mg base CX0 (k + 4) f fd ["order", "walk"] spWalkEnd := by
  have GC : FnOk P w K mg base CX0 (k + 3) fC fdC ["thing"] spCheck := ok_check TC TO TW B mM
  have GI : FnOk P w K mg base CX0 (k + 3) fI fdI ["thing", "n"] spIsWalk := ok_is_walk (k := k + 1) TI TW B
  have GE : FnOk P w K mg base CX0 (k + 3) fE fdE ["row", "place"] spExch := ok_exch (k := k + 2) TE
  refine T.F.ok scWalkEnd (fun vs H Q E h => ?_) (fun cdv A outer s H vs Q E hr h => ?_)
  · obtain ⟨a, b, n, ns, ws, rfl, _⟩ := h
    rfl
  · obtain ⟨a, b, n, ns, ws, rfl, ha, hb, ho, hn1, hn2, hw, hlen, q⟩ := h
    have hlm : (ns.map V.int).length = n := by rw [List.length_map, ho.len]
    refine ⟨_, pss_cons (ps_expr (pe_call GC hr (by rfl) TC.g TC.F.kp TC.b .nil pass0 (pa_cons (pv 0) pa_nil)))
      (pss_cons (ps_if (pt_not (pt_val (pe_call GI hr (by rfl) TI.g TI.F.kp TI.b .nil pass0 (pa_cons (pv 1) (pa_cons (pe_callB call_len_seq (by rfl) B.len PySem.boot_len (pa_cons (pv 0) pa_nil)) pa_nil))))) (pss_one ps_never) pss_nil)
      (pss_cons (ps_set (i := 2) scWalkEnd.nd rfl (.inl rfl) (pe_callTy call_list_of (by rfl) B.list (by decide +kernel) (pa_cons (pv 0) pa_nil)))
      (pss_cons (ps_for PassesOwn.never rfl (pi_list (pv 1)) (pg_name (i := 3) scWalkEnd.nd rfl (.inl rfl)) (pss_one (ps_expr (pe_call GE hr (by rfl) TE.g TE.F.kp TE.b .nil pass0 (pa_cons (pv 2) (pa_cons (pv 3) pa_nil))))))
      (pss_one (ps_ret (pv 2)))))), ?_⟩
    refine ⟨_, rfl, a, n, ns, rfl, ha, ho, hn1, hn2, fun H1 s1 => ?_⟩
    refine ⟨_, rfl, _, rfl, a, _, rfl, .inl (SqL.of (s1 _ _ ha)), b, n, ws, by rw [hlm]; rfl, s1 _ _ hb, hw, hlen, fun H2 s2 => ⟨_, rfl, iteF ?_⟩⟩
    have s12 := s1.trans s2
    refine ⟨_, rfl, a, _, rfl, .inl (SqL.of (s12 _ _ ha)), fun l nl => ?_⟩
    have s3 := s12.trans (same_new (o := .lst (ns.map V.int)) nl)
    have nHl : H l = none := s12.free nl
    have nbl : b ≠ l := ne_of_none hb nHl
    refine ⟨_, rfl, b, rfl, ⟨_, SqL.of (s3 _ _ hb)⟩, ?_⟩
    refine for_list (xs := ws.map V.int) (fun i σ H3 => ∃ y3, σ = [some (.ref a), some (.ref b), some (.ref l), y3] ∧ H3 l = some (.lst ((wEnd ns (ws.take i)).map V.int)) ∧ Same H H3)
      ⟨none, rfl, upd_same, s3⟩ (fun i σ H3 _ hP => by obtain ⟨y3, _, _, sm⟩ := hP; exact SqL.of (sm _ _ hb)) (fun i x σ H3 hx hP => ?_) (fun σ H3 hP => ?_)
    · obtain ⟨y3, rfl, hl3, sm⟩ := hP
      obtain ⟨p, ep, rfl⟩ := int_at_inv hx
      have hp := hw p (List.mem_of_getElem? ep)
      have ho3 : IsOrd n (wEnd ns (ws.take i)) := wEnd_ord ho fun z hz => hw z (List.mem_of_mem_take hz)
      refine ⟨_, rfl, _, rfl, l, p, _, rfl, hl3, hp.1, by rw [ho3.len]; exact hp.2, fun H4 h4 kp => ⟨_, rfl, by rw [wEnd_more ep]; exact h4, fun c o e => ?_⟩⟩
      exact kp c o (ne_of_none e nHl) (sm _ _ e)
    · obtain ⟨y3, rfl, hl3, sm⟩ := hP
      rw [List.length_map, List.take_length] at hl3
      exact ⟨_, rfl, q H3 l sm nHl hl3⟩
end
end Fo
namespace Fo
open PySem PySem.Spec PyProof.Rows L2
def spFol : Sp := fun vs H Q _ => ∃ (a b : Addr) (n : Nat) (xs ys : List Int), two vs H a b n xs ys ∧ ∀ (l : Addr) (H' : Hp), H l = none → H' l = some (.lst (((rg n).map (fol xs ys)).map V.int)) → Same H H' → Q (.ref l) H'
def spRound : Sp := fun vs H Q _ => ∃ (t : Int) (l : Addr) (n : Nat) (f : Int → Int), vs = [.int t, .ref l] ∧ H l = some (.lst (((rg n).map f).map V.int)) ∧ Bij n f ∧ t ∈ rg n ∧ n ≤ 12 ∧ ∀ (r : Addr) (H' : Hp), H r = none → H' r = some (.lst ((cyc n f t).map V.int)) → Same H H' → Q (.ref r) H'
def spRounds : Sp := fun vs H Q _ => ∃ (a b : Addr) (n : Nat) (xs ys : List Int), two vs H a b n xs ys ∧ ∀ (l : Addr) (as : List Addr) (H' : Hp), H l = none → H' l = some (.lst (as.map V.ref)) → LL H' as (roundsL n (fol xs ys)) → (∀ a ∈ as, H a = none ∧ a ≠ l) → as.Nodup → Same H H' → Q (.ref l) H'
def stepsI (n : Nat) (f : Int → Int) : Int := ((roundsL n f).map fun r => (r.length : Int) - 1).sum
def spSteps : Sp := fun vs H Q _ => ∃ (a b : Addr) (n : Nat) (xs ys : List Int), two vs H a b n xs ys ∧ ∀ (H' : Hp), Same H H' → Q (.int (stepsI n (fol xs ys))) H'
theorem rg_at {n : Nat} {f : Int → Int} {t : Int} (h : t ∈ rg n) : ((rg n).map f)[t.toNat]? = some (f t) := by
  have hb := rg_mem.mp h
  unfold rg
  rw [List.map_map, List.getElem?_map, List.getElem?_range (by omega)]
  show some (f ((t.toNat : Nat) : Int)) = some (f t)
  rw [Int.toNat_of_nonneg hb.1]
theorem rounds_len {n : Nat} {f : Int → Int} : (roundsL n f).length ≤ n := by
  unfold roundsL
  rw [List.length_map]
  have := List.length_filter_le (told n f) (rg n)
  rw [rg_len] at this
  exact this
section
variable {P : Program} {w : World} {K : PySem.W.Frag} {mg : Str → Option Value} {base : Heap}
theorem scFol : FnScope ["one", "other", "followers", "follower", "thing"] ["one", "other"] (defScope s_followers_between) := ⟨rfl, rfl, rfl, by decide +kernel, rfl, by decide +kernel, by decide +kernel⟩
set_option maxHeartbeats 2000000 in
theorem ok_fol {f : Addr} {fd : FuncData} {k : Nat} (T : Df K mg "followers_between" s_followers_between ["one", "other"] f fd) (B : Bi mg) : FnOk P w K mg base CX0 (k + 1) f fd ["one", "other"] spFol := by
  refine T.F.ok scFol (fun vs H Q E h => ?_) (fun cdv A outer s H vs Q E hr h => ?_)
  · obtain ⟨a, b, n, xs, ys, ⟨rfl, _⟩, _⟩ := h
    rfl
  · obtain ⟨a, b, n, xs, ys, ⟨rfl, ha, hb, ox, oy, hn1, hn2⟩, q⟩ := h
    have hxl : (xs.map V.int).length = n := by rw [List.length_map, ox.len]
    have hyl : (ys.map V.int).length = n := by rw [List.length_map, oy.len]
    have hz : ∀ m : Nat, (List.replicate m [V.int 0]).flatten = (List.replicate m (0 : Int)).map V.int := by
      intro m
      induction m with
      | zero => rfl
      | succ m ih => rw [List.replicate_succ, List.replicate_succ, List.flatten_cons, ih]; rfl
    refine ⟨_, 
      (pss_cons (ps_set (i := 2) scFol.nd rfl (.inl rfl) (pe_op op_rep (pe_lst (pa_cons pe_int pa_nil)) (pe_callB call_len_seq (by rfl) B.len PySem.boot_len (pa_cons (pv 0) pa_nil))))
      (pss_cons (ps_for PassesOwn.never rfl (pi_zip (by rfl) B.zip (pa_cons (pv 0) (pa_cons (pv 1) pa_nil))) (pg_tup (by rfl) (pgs_cons (pg_name (i := 3) scFol.nd rfl (.inl rfl)) (pgs_cons (pg_name (i := 4) scFol.nd rfl (.inl rfl)) pgs_nil)))
        (pss_one (ps_asg (pv 3) (pg_sub (pv 2) (pv 4) set_list))))
      (pss_one (ps_ret (pv 2))))), ?_⟩
    refine ⟨line_small (by show 1 ≤ 16777216; decide), fun z nz => ?_⟩
    have s1 := same_new (o := .lst [.int 0]) nz
    refine ⟨_, rfl, a, _, rfl, .inl (SqL.of (s1 _ _ ha)), z, _, _, rfl, rfl, upd_same, by omega, by rw [hxl]; omega, line_small (by rw [hxl, Int.toNat_natCast]; show 1 * n ≤ _; omega), fun l nl => ?_⟩
    have s2 := s1.trans (same_new (o := .lst (List.replicate (((xs.map V.int).length : Nat) : Int).toNat [V.int 0]).flatten) nl)
    have nHl : H l = none := s1.free nl
    refine ⟨_, rfl, _, rfl, a, b, _, _, rfl, SqL.of (s2 _ _ ha), SqL.of (s2 _ _ hb), ?_⟩
    refine RZ.for_zipL (xs := xs.map V.int) (ys := ys.map V.int) (by rw [hxl, hyl]) (fun i σ H3 => ∃ (y3 y4 : Option V) (ps : List Int), σ = [some (.ref a), some (.ref b), some (.ref l), y3, y4] ∧ H3 l = some (.lst (ps.map V.int)) ∧ ps.length = n ∧ (∀ (j : Nat) (x y : Int), j < i → xs[j]? = some x → ys[j]? = some y → ps[y.toNat]? = some x) ∧ Same H H3)
      ⟨none, none, List.replicate n 0, rfl, by rw [upd_same, hz, hxl, Int.toNat_natCast], by rw [List.length_replicate], fun j x y hj => absurd hj (Nat.not_lt_zero _), s2⟩ (fun i σ H3 hP => by obtain ⟨_, _, _, _, _, _, _, sm⟩ := hP; exact ⟨SqL.of (sm _ _ ha), SqL.of (sm _ _ hb)⟩) (fun i x y t σ H3 hx hy hP nt => ?_) (fun σ H3 hP => ?_)
    · obtain ⟨y3, y4, ps, rfl, hl3, el, hat, sm⟩ := hP
      obtain ⟨u, eu, rfl⟩ := int_at_inv hx
      obtain ⟨v, ev, rfl⟩ := int_at_inv hy
      have hv := oy.mem (List.mem_of_getElem? ev)
      have s3 := same_new (o := .tup [.int u, .int v]) nt
      have hl4 := s3 _ _ hl3
      refine ⟨t, _, rfl, .inl (.inl upd_same), rfl, _, _, rfl, _, _, rfl, rfl, ?_⟩
      refine ⟨_, rfl, _, rfl, _, rfl, l, _, _, v.toNat, rfl, rfl, hl4, ix_n (by omega) (by rw [List.length_map]; omega), ?_⟩
      refine ⟨_, _, ps.set v.toNat u, rfl, by rw [upd_same, List.map_set], by rw [List.length_set]; exact el, fun j x y hj hx2 hy2 => ?_, fun c o e => ?_⟩
      · by_cases c : j = i
        · subst c
          have e1 : x = u := Option.some.inj (hx2.symm.trans eu)
          have e2 : y = v := Option.some.inj (hy2.symm.trans ev)
          subst e1 e2
          rw [List.getElem?_set_self (by omega)]
        · have hy3 := oy.mem (List.mem_of_getElem? hy2)
          have ne : v.toNat ≠ y.toNat := fun e => c (nd_ix oy.nodup hy2 (by rw [ev]; congr 1; omega))
          rw [List.getElem?_set_ne ne]
          exact hat j x y (by omega) hx2 hy2
      · rw [upd_ne (ne_of_none e nHl)]
        exact s3 _ _ (sm _ _ e)
    · obtain ⟨y3, y4, ps, rfl, hl3, el, hat, sm⟩ := hP
      rw [hxl] at hat
      have eps : ps = (rg n).map (fol xs ys) := by
        apply List.ext_getElem?
        intro t
        by_cases c : t < n
        · obtain ⟨j, hj, ej⟩ := ord_at oy c
          obtain ⟨x, hx, _⟩ := ord_ix ox hj
          have e1 := hat j x _ hj hx ej
          rw [Int.toNat_natCast] at e1
          have e2 := rg_at (n := n) (f := fol xs ys) (t := (t : Int)) (rg_mem.mpr ⟨by omega, by omega⟩)
          rw [Int.toNat_natCast] at e2
          rw [e1, e2]
          unfold fol
          rw [pos_of oy ej, g0_at hx]
        · rw [List.getElem?_eq_none (by omega), List.getElem?_eq_none (by rw [List.length_map, rg_len]; omega)]
      subst eps
      exact ⟨_, rfl, q l H3 nHl hl3 sm⟩
theorem scRound : FnScope ["thing", "followers", "things", "follower"] ["thing", "followers"] (defScope s_round_from) := ⟨rfl, rfl, rfl, by decide +kernel, rfl, by decide +kernel, by decide +kernel⟩
set_option maxHeartbeats 2000000 in
theorem ok_round {f : Addr} {fd : FuncData} {k : Nat} (T : Df K mg "round_from" s_round_from ["thing", "followers"] f fd) : FnOk P w K mg base CX0 (k + 1) f fd ["thing", "followers"] spRound := by
  refine T.F.ok scRound (fun vs H Q E h => ?_) (fun cdv A outer s H vs Q E hr h => ?_)
  · obtain ⟨t, l, n, g, rfl, _⟩ := h
    rfl
  · obtain ⟨t, l, n, g, rfl, hl, hb, ht, hn, q⟩ := h
    have htb := rg_mem.mp ht
    obtain ⟨p1, p2, p3, p4⟩ := hb.per_spec ht
    refine ⟨_, 
      (pss_cons (ps_set (i := 2) scRound.nd rfl (.inl rfl) (pe_lst (pa_cons (pv 0) pa_nil)))
      (pss_cons (ps_set (i := 3) scRound.nd rfl (.inl rfl) (pe_ix ix_list (pv 1) (pv 0) (fun _ _ => rfl)))
      (pss_cons (ps_while PassesOwn.never (pt_cmpR op_ne (pv 3) (pv 0) (nomark _))
        (pss_cons (ps_expr (pe_bm PySem.F.plainAttrs_list PySem.F.slot_list_append PySem.F.type_list_append mt_append (pv 2) (pa_cons (pv 3) pa_nil)))
        (pss_one (ps_set (i := 3) scRound.nd rfl (.inl rfl) (pe_ix ix_list (pv 1) (pv 3) (fun _ _ => rfl))))))
      (pss_one (ps_ret (pv 2)))))), ?_⟩
    refine ⟨_, rfl, line_small (by show 1 ≤ 16777216; decide), fun r nr => ?_⟩
    have s1 := same_new (o := .lst [.int t]) nr
    refine ⟨_, rfl, _, rfl, l, _, _, _, rfl, rfl, SqL.of (s1 _ _ hl), at_of (j := t.toNat) (by omega) (int_at (rg_at ht)), ?_⟩
    refine ⟨fun m σ H3 => ∃ j : Nat, 1 ≤ j ∧ j ≤ per n g t ∧ m = per n g t - j ∧ σ = [some (.int t), some (.ref l), some (.ref r), some (.int (it g j t))] ∧ H3 r = some (.lst (((cyc n g t).take j).map V.int)) ∧ Same H H3,
      ⟨_, 1, by omega, p1, rfl, rfl, ?_, s1⟩, fun m σ H3 hW => ?_⟩
    · rw [upd_same, take_more (l := cyc n g t) (i := 0) (cyc_at p1)]
      rfl
    obtain ⟨j, j1, j2, rfl, rfl, hr3, sm⟩ := hW
    refine ⟨_, rfl, _, rfl, rfl, _, rfl, ?_⟩
    by_cases c : it g j t = t
    · have ej : j = per n g t := by
        by_cases d : j < per n g t
        · exact absurd c (p4 j j1 d)
        · omega
      refine iteNS (congrArg V.int c) ⟨_, rfl, q r H3 nr ?_ sm⟩
      rw [ej, List.take_of_length_le (by rw [cyc_len]; exact Nat.le_refl _)] at hr3
      exact hr3
    · have hj : j < per n g t := by
        by_cases d : j = per n g t
        · rw [d] at c
          exact absurd p3 c
        · omega
      rw [decide_eq_false (fun e => c (V.int.inj e))]
      have hin := hb.it_in ht j
      have hib := rg_mem.mp hin
      refine iteT ⟨fun σ' H' => σ' = [some (.int t), some (.ref l), some (.ref r), some (.int (it g (j + 1) t))] ∧ H' r = some (.lst (((cyc n g t).take (j + 1)).map V.int)) ∧ Same H H', fun σ' H' hN => ?_, ?_⟩
      · obtain ⟨e1, e2, e3⟩ := hN
        exact ⟨per n g t - (j + 1), by omega, j + 1, by omega, by omega, rfl, e1, e2, e3⟩
      · refine ⟨_, rfl, .inl ⟨rfl, _, SqL.of hr3⟩, _, rfl, r, _, _, rfl, rfl, hr3, line_lt (by rw [List.length_map, List.length_take]; omega), ?_⟩
        have nlr : l ≠ r := ne_of_none hl nr
        refine ⟨_, rfl, _, rfl, l, _, _, _, rfl, rfl, SqL.of (by rw [upd_ne nlr]; exact sm _ _ hl), at_of (j := (it g j t).toNat) (by omega) (int_at (rg_at hin)), rfl, ?_, fun u o e => ?_⟩
        · rw [upd_same, take_more (cyc_at hj), List.map_append]
          rfl
        · rw [upd_ne (ne_of_none e nr)]
          exact sm _ _ e
theorem scRounds : FnScope ["one", "other", "followers", "starts", "thing", "things"] ["one", "other"] (defScope s_rounds_between) := ⟨rfl, rfl, rfl, by decide +kernel, rfl, by decide +kernel, by decide +kernel⟩
set_option maxHeartbeats 4000000 in
theorem ok_rounds {f f1 f2 f3 f4 : Addr} {fd d1 d2 d3 d4 : FuncData} {k : Nat} (T : Df K mg "rounds_between" s_rounds_between ["one", "other"] f fd) (T_check_orders : Df K mg "check_orders" s_check_orders ["one", "other"] f1 d1) (T_check_fit : Df K mg "check_fit" s_check_fit ["one", "other"] f2 d2) (T_followers_between : Df K mg "followers_between" s_followers_between ["one", "other"] f3 d3) (T_round_from : Df K mg "round_from" s_round_from ["thing", "followers"] f4 d4)
    (G_check_orders : FnOk P w K mg base CX0 (k + 1) f1 d1 ["one", "other"] spChecks) (B : Bi mg) : FnOk P w K mg base CX0 (k + 2) f fd ["one", "other"] spRounds := by
  have G_check_fit : FnOk P w K mg base CX0 (k + 1) f2 d2 ["one", "other"] spFit := ok_fit T_check_fit B
  have G_followers_between : FnOk P w K mg base CX0 (k + 1) f3 d3 ["one", "other"] spFol := ok_fol T_followers_between B
  have G_round_from : FnOk P w K mg base CX0 (k + 1) f4 d4 ["thing", "followers"] spRound := ok_round T_round_from
  refine T.F.ok scRounds (fun vs H Q E h => ?_) (fun cdv A outer s H vs Q E hr h => ?_)
  · obtain ⟨a, b, n, xs, ys, ⟨rfl, _⟩, _⟩ := h
    rfl
  · obtain ⟨a, b, n, xs, ys, ⟨rfl, ha, hb, ox, oy, hn1, hn2⟩, q⟩ := h
    have hxl : (xs.map V.int).length = n := by rw [List.length_map, ox.len]
    have bj := fol_bij ox oy
    refine ⟨_, 
      (pss_cons (ps_expr (pe_call G_check_orders hr (by rfl) T_check_orders.g T_check_orders.F.kp T_check_orders.b .nil pass0 (pa_cons (pv 0) (pa_cons (pv 1) pa_nil))))
      (pss_cons (ps_expr (pe_call G_check_fit hr (by rfl) T_check_fit.g T_check_fit.F.kp T_check_fit.b .nil pass0 (pa_cons (pv 0) (pa_cons (pv 1) pa_nil))))
      (pss_cons (ps_set (i := 2) scRounds.nd rfl (.inr rfl) (pe_call G_followers_between hr (by rfl) T_followers_between.g T_followers_between.F.kp T_followers_between.b .nil pass0 (pa_cons (pv 0) (pa_cons (pv 1) pa_nil))))
      (pss_cons (ps_setLc (i := 3) (own := [("thing", 4)]) (g := (gName 4)) (tt := tYes) (te := (tCall spRound [] E0 (tCons (tVar 4) (tCons (tVar 2) tNil)))) (by rfl) scRounds.nd rfl rfl (sw_true rfl rfl rfl (by decide +kernel)) (pi_range1 (by rfl) B.range (pa_cons (pe_callB call_len_seq (by rfl) B.len PySem.boot_len (pa_cons (pv 0) pa_nil)) pa_nil)) (blkOk_by (N := ["one", "other", "followers", "starts", "thing", "things"]) (sc := defScope s_rounds_between) (by decide +kernel)) (fun _ _ _ _ _ => (pg_name (i := 4) scRounds.nd rfl (.inl rfl))) (fun _ _ _ _ _ => pts_nil) (fun _ _ _ _ _ => (pe_call G_round_from hr (by rfl) T_round_from.g T_round_from.F.kp T_round_from.b .nil pass0 (pa_cons (pv 4) (pa_cons (pv 2) pa_nil)))))
      (pss_one (ps_ret (pe_lc (own := [("things", 5)]) (g := (gName 5)) (tt := (tAnd (tTest (tOp (rI0 fun i j => .bl (decide (j < i))) (tCB (rLenS K) (tCons (tVar 5) tNil)) (tC (.int 1)))) (tTest (tOp rEq (tOp (rIxL K) (tVar 5) (tC (.int 0))) (tCB (rMin K) (tCons (tVar 5) tNil)))))) (te := (tVar 5)) rfl scRounds.nd (pi_list (pv 3)) (blkOk_by (N := ["one", "other", "followers", "starts", "thing", "things"]) (sc := defScope s_rounds_between) (by decide +kernel)) (fun _ _ _ _ _ => (pg_name (i := 5) scRounds.nd rfl (.inl rfl))) (fun _ _ _ _ _ => (pts_one (PW.pt (pw_and (pt_cmpR op_gt (pe_callB call_len_seq (by rfl) B.len PySem.boot_len (pa_cons (pv 5) pa_nil)) pe_int (nomark _)) (pw_and1 (pt_cmpR op_eq (pe_ix ix_list (pv 5) pe_int (fun _ _ => rfl)) (pe_callB (cr_min rfl) (by rfl) B.min (by decide +kernel) (pa_cons (pv 5) pa_nil)) (nomark _))))))) (fun _ _ _ _ _ => (pv 5))))))))), ?_⟩
    refine ⟨_, rfl, _, rfl, a, b, n, n, xs, ys, rfl, ha, hb, ox, hn1, hn2, oy, hn1, hn2, fun H1 s1 => ?_⟩
    refine ⟨_, rfl, _, rfl, a, b, xs, ys, rfl, s1 _ _ ha, s1 _ _ hb, by rw [ox.len, oy.len], ?_⟩
    refine ⟨_, rfl, _, rfl, a, b, n, xs, ys, ⟨rfl, s1 _ _ ha, s1 _ _ hb, ox, oy, hn1, hn2⟩, fun fl H2 nfl hfl s2 => ?_⟩
    have s12 := s1.trans s2
    -- starts
    refine ⟨_, rfl, a, _, rfl, .inl (SqL.of (s12 _ _ ha)), _, rfl, by omega, by rw [hxl]; omega, fun D nD => ?_⟩
    rw [hxl, Int.toNat_natCast]
    have nHD : H D = none := s12.free nD
    have nflD : fl ≠ D := ne_of_none hfl nD
    refine lc_range (lo := 0) (n := n) (fun m H3 => ∃ as : List Addr, H3 D = some (.lst (as.map V.ref)) ∧ LL H3 as ((rg m).map (cyc n (fol xs ys))) ∧ (∀ c ∈ as, H c = none ∧ c ≠ D) ∧ as.Nodup ∧ H3 fl = some (.lst (((rg n).map (fol xs ys)).map V.int)) ∧ Same H H3)
      ⟨[], upd_same, trivial, fun c hc => absurd hc List.not_mem_nil, List.nodup_nil, by rw [upd_ne nflD]; exact hfl, s12.trans (same_new nD)⟩ (fun m H3 hm hP => ?_) (fun H3 hP => ?_)
    · obtain ⟨as, hD3, hLL, hfr, hnd, hf3, sm⟩ := hP
      have hmr : (0 + (m : Int)) ∈ rg n := rg_mem.mpr ⟨by omega, by omega⟩
      refine ⟨rfl, _, rfl, _, rfl, 0 + (m : Int), fl, n, fol xs ys, rfl, hf3, bj, hmr, hn2, fun r H4 nr hr4 s4 => ?_⟩
      have hlen := hLL.len
      rw [List.length_map, rg_len] at hlen
      have nrD : r ≠ D := (ne_of_none hD3 nr).symm
      refine ⟨_, s4 _ _ hD3, line_lt (by rw [List.length_map]; omega), as ++ [r], by rw [upd_same, List.map_append]; rfl, ?_, fun c hc => ?_, ?_, by rw [upd_ne nflD]; exact s4 _ _ hf3, fun u o e => ?_⟩
      · rw [rg_succ, List.map_append]
        have h1 : LL (upd H4 D (.lst (as.map V.ref ++ [.ref r]))) as ((rg m).map (cyc n (fol xs ys))) := hLL.keep fun c hc o e => by rw [upd_ne (hfr c hc).2]; exact s4 _ _ e
        refine h1.snoc ?_
        rw [upd_ne nrD, ← Int.zero_add (m : Int)]
        exact hr4
      · rcases List.mem_append.mp hc with hc | hc
        · exact hfr c hc
        · rw [List.mem_singleton.mp hc]
          exact ⟨sm.free nr, nrD⟩
      · rw [List.nodup_append]
        refine ⟨hnd, List.nodup_cons.mpr ⟨List.not_mem_nil, List.nodup_nil⟩, fun x hx y hy e => ?_⟩
        rw [List.mem_singleton.mp hy] at e
        obtain ⟨o, eo⟩ := hLL.tracked hx
        rw [e, nr] at eo
        cases eo
      · rw [upd_ne (ne_of_none e nHD)]
        exact s4 _ _ (sm _ _ e)
    · obtain ⟨as, hD3, hLL, hfr, hnd, hf3, sm⟩ := hP
      have hlen := hLL.len
      rw [List.length_map, rg_len] at hlen
      refine ⟨_, rfl, D, rfl, ⟨_, SqL.of hD3⟩, fun G nG => ?_⟩
      have nHG : H G = none := sm.free nG
      refine lc_list (K := K) (a := D) (xs := as.map V.ref) (fun m H4 => ∃ bs : List Addr, H4 G = some (.lst (bs.map V.ref)) ∧ LL H4 bs (((rg m).filter (told n (fol xs ys))).map (cyc n (fol xs ys))) ∧ bs.Sublist (as.take m) ∧ Same H3 H4)
        ⟨[], upd_same, trivial, List.nil_sublist _, same_new nG⟩ (fun m H4 _ hP => by obtain ⟨_, _, _, _, s4⟩ := hP; exact SqL.of (s4 _ _ hD3)) (fun m x H4 hx hP => ?_) (fun H4 hP => ?_)
      · obtain ⟨bs, hG4, hLb, hsub, s4⟩ := hP
        obtain ⟨r, er, rfl⟩ := ref_at_inv hx
        have hm : m < n := by
          have := (List.getElem?_eq_some_iff.mp er).1
          omega
        obtain ⟨row, erow, hrow⟩ := hLL.get er
        have erow2 : row = cyc n (fol xs ys) (m : Int) := by
          unfold rg at erow
          rw [List.map_map, List.getElem?_map, List.getElem?_range hm] at erow
          exact (Option.some.inj erow).symm
        subst erow2
        have hrow4 := s4 _ _ hrow
        have hmr : (m : Int) ∈ rg n := rg_mem.mpr ⟨by omega, by omega⟩
        have hper := bj.per_spec hmr
        have ner : r ≠ G := ne_of_none hrow nG
        have hclen : ((cyc n (fol xs ys) (m : Int)).map V.int).length = per n (fol xs ys) (m : Int) := by rw [List.length_map, cyc_len]
        have etk : as.take (m + 1) = as.take m ++ [r] := by rw [List.take_add_one, er]; rfl
        have efm : (rg (m + 1)).filter (told n (fol xs ys)) = (rg m).filter (told n (fol xs ys)) ++ (if told n (fol xs ys) (m : Int) then [(m : Int)] else []) := by
          rw [rg_succ, List.filter_append, List.filter_cons]
          rfl
        have no : told n (fol xs ys) (m : Int) = false → ∃ bs : List Addr, H4 G = some (.lst (bs.map V.ref)) ∧ LL H4 bs (((rg (m + 1)).filter (told n (fol xs ys))).map (cyc n (fol xs ys))) ∧ bs.Sublist (as.take (m + 1)) ∧ Same H3 H4 := fun et => by
          refine ⟨bs, hG4, ?_, ?_, s4⟩
          · rw [efm, et]
            simpa using hLb
          · rw [etk]
            exact hsub.trans (List.sublist_append_left _ _)
        refine ⟨rfl, _, rfl, r, _, rfl, .inl (SqL.of hrow4), _, 1, rfl, rfl, _, rfl, ite2 (fun c => ?_) (fun c => ?_)⟩
        · have hp : 1 < per n (fol xs ys) (m : Int) := by
            have : (1 : Int) < ((((cyc n (fol xs ys) (m : Int)).map V.int).length : Nat) : Int) := of_decide_eq_true c
            rw [hclen] at this
            omega
          refine ⟨_, rfl, r, _, 0, _, rfl, rfl, SqL.of hrow4, atI_nat (j := 0) (int_at (cyc_at (j := 0) (by omega))), _, rfl, r, cyc n (fol xs ys) (m : Int), rfl, SqL.of hrow4, by rw [cyc_len]; omega, fun z hz hzle => ?_⟩
          have ez : mn n (fol xs ys) (m : Int) = z := mnL_of hz hzle
          have eit : it (fol xs ys) 0 (m : Int) = (m : Int) := rfl
          rw [eit]
          refine ⟨rfl, _, rfl, ?_⟩
          by_cases d : (m : Int) = z
          · have et : told n (fol xs ys) (m : Int) = true := by
              unfold told
              rw [decide_eq_true hp, decide_eq_true (show (m : Int) = mn n (fol xs ys) (m : Int) by rw [ez]; exact d)]
              rfl
            rw [decide_eq_true (congrArg V.int d)]
            refine iteT ⟨_, rfl, _, hG4, line_lt ?_, bs ++ [r], by rw [upd_same, List.map_append]; rfl, ?_, ?_, fun u o e => ?_⟩
            · rw [List.length_map]
              have := hsub.length_le
              rw [List.length_take] at this
              omega
            · rw [efm, et, if_pos rfl, List.map_append]
              have h1 : LL (upd H4 G (.lst (bs.map V.ref ++ [.ref r]))) bs (((rg m).filter (told n (fol xs ys))).map (cyc n (fol xs ys))) := hLb.keep fun c hc o e => by
                have hca : c ∈ as := List.mem_of_mem_take (hsub.subset hc)
                obtain ⟨o2, e2⟩ := hLL.tracked hca
                rw [upd_ne (ne_of_none e2 nG)]
                exact e
              refine h1.snoc ?_
              rw [upd_ne ner]
              exact hrow4
            · rw [etk]
              exact hsub.append (List.Sublist.refl _)
            · rw [upd_ne (ne_of_none e nG)]
              exact s4 _ _ e
          · have et : told n (fol xs ys) (m : Int) = false := by
              unfold told
              rw [decide_eq_false (show ¬ ((m : Int) = mn n (fol xs ys) (m : Int)) by rw [ez]; exact d), Bool.and_false]
            rw [decide_eq_false (fun e => d (V.int.inj e))]
            exact iteF (no et)
        · have et : told n (fol xs ys) (m : Int) = false := by
            unfold told
            rw [decide_eq_false (fun hp => c (decide_eq_true (by rw [hclen]; omega))), Bool.false_and]
          exact iteF (no et)
      · obtain ⟨bs, hG4, hLb, hsub, s4⟩ := hP
        rw [List.length_map, hlen] at hLb hsub
        refine q G bs H4 nHG hG4 hLb (fun c hc => ?_) ?_ (sm.trans s4)
        · have hca : c ∈ as := List.mem_of_mem_take (hsub.subset hc)
          obtain ⟨o2, e2⟩ := hLL.tracked hca
          exact ⟨(hfr c hca).1, ne_of_none e2 nG⟩
        · exact (hnd.sublist (List.take_sublist n as)).sublist hsub
theorem scSteps : FnScope ["one", "other", "things"] ["one", "other"] (defScope s_steps_between) := ⟨rfl, rfl, rfl, by decide +kernel, rfl, by decide +kernel, by decide +kernel⟩
set_option maxHeartbeats 2000000 in
theorem ok_steps {f f1 : Addr} {fd d1 : FuncData} {k : Nat} (T : Df K mg "steps_between" s_steps_between ["one", "other"] f fd) (T_rounds_between : Df K mg "rounds_between" s_rounds_between ["one", "other"] f1 d1) (G_rounds_between : FnOk P w K mg base CX0 k f1 d1 ["one", "other"] spRounds) (B : Bi mg) : FnOk P w K mg base CX0 (k + 1) f fd ["one", "other"] spSteps := by
  refine T.F.ok scSteps (fun vs H Q E h => ?_) (fun cdv A outer s H vs Q E hr h => ?_)
  · obtain ⟨a, b, n, xs, ys, ⟨rfl, _⟩, _⟩ := h
    rfl
  · obtain ⟨a, b, n, xs, ys, ⟨rfl, ha, hb, ox, oy, hn1, hn2⟩, q⟩ := h
    refine ⟨_, 
      (pss_one (ps_ret (pe_callB (cr_sum rfl) (by rfl) B.sum (by decide +kernel) (pa_cons (pe_lc (own := [("things", 2)]) (g := (gName 2)) (tt := tYes) (te := (tOp (rI0 fun i j => .int (i - j)) (tCB (rLenS K) (tCons (tVar 2) tNil)) (tC (.int 1)))) rfl scSteps.nd (pi_list (pe_call G_rounds_between hr (by rfl) T_rounds_between.g T_rounds_between.F.kp T_rounds_between.b .nil pass0 (pa_cons (pv 0) (pa_cons (pv 1) pa_nil)))) (blkOk_by (N := ["one", "other", "things"]) (sc := defScope s_steps_between) (by decide +kernel)) (fun _ _ _ _ _ => (pg_name (i := 2) scSteps.nd rfl (.inl rfl))) (fun _ _ _ _ _ => pts_nil) (fun _ _ _ _ _ => (pe_op op_sub (pe_callB call_len_seq (by rfl) B.len PySem.boot_len (pa_cons (pv 2) pa_nil)) pe_int))) pa_nil)))), ?_⟩
    refine ⟨_, rfl, _, rfl, a, b, n, xs, ys, ⟨rfl, ha, hb, ox, oy, hn1, hn2⟩, fun l as H1 nl hl hLL hfr hnd s1 => ?_⟩
    refine ⟨l, rfl, ⟨_, SqL.of hl⟩, fun D nD => ?_⟩
    have hlen := hLL.len
    have hrl := rounds_len (n := n) (f := fol xs ys)
    refine lc_list (K := K) (a := l) (xs := as.map V.ref) (fun m H3 => H3 D = some (.lst ((((roundsL n (fol xs ys)).map fun r => (r.length : Int) - 1).take m).map V.int)) ∧ Same H1 H3) ⟨upd_same, same_new nD⟩ (fun m H3 _ hP => SqL.of (hP.2 _ _ hl)) (fun m x H3 hx hP => ?_) (fun H3 hP => ?_)
    · obtain ⟨r, er, rfl⟩ := ref_at_inv hx
      obtain ⟨hD3, sm⟩ := hP
      obtain ⟨row, erow, hrow⟩ := hLL.get er
      have em : ((roundsL n (fol xs ys)).map fun r => (r.length : Int) - 1)[m]? = some ((row.length : Int) - 1) := by rw [List.getElem?_map, erow]; rfl
      refine ⟨rfl, _, rfl, r, _, rfl, .inl (SqL.of (sm _ _ hrow)), _, 1, rfl, rfl, _, hD3, line_lt (by rw [List.length_map, List.length_take, List.length_map]; omega), ?_, fun u o e => ?_⟩
      · rw [upd_same, take_more em, List.map_append, List.length_map]
        rfl
      · rw [upd_ne (ne_of_none e nD)]
        exact sm _ _ e
    · obtain ⟨hD3, sm⟩ := hP
      rw [List.take_of_length_le (by rw [List.length_map, List.length_map, hlen]; exact Nat.le_refl _)] at hD3
      exact ⟨D, _, rfl, SqL.of hD3, q H3 (s1.trans sm)⟩
end
end Fo
namespace Fo
open PySem PySem.Spec PyProof.Rows L2
/-! ### how far, by things -/
theorem sumN_le {l : List Int} {f g : Int → Nat} (h : ∀ x ∈ l, f x ≤ g x) : sumN l f ≤ sumN l g := by
  induction l with
  | nil => exact Nat.le_refl _
  | cons a l ih =>
    rw [sumN_cons, sumN_cons]
    have h1 := h a List.mem_cons_self
    have h2 := ih fun x hx => h x (List.mem_cons_of_mem _ hx)
    omega
theorem sumN_one {l : List Int} {f : Int → Nat} {x : Int} (h : x ∈ l) : f x ≤ sumN l f := by
  induction l with
  | nil => exact absurd h List.not_mem_nil
  | cons a l ih =>
    rw [sumN_cons]
    rcases List.mem_cons.mp h with rfl | h
    · omega
    · have := ih h
      omega
theorem ind_le {a : Bool} {n : Nat} (h : a = true → 1 ≤ n) : ind a ≤ n := by
  unfold ind
  cases a
  · exact Nat.zero_le _
  · exact h rfl
theorem ind_true {a : Bool} (h : a = true) : ind a = 1 := by rw [h]; rfl
theorem g0_seats {n : Nat} {xs ys : List Int} (o : IsOrd n xs) {p : Int} (h : p ∈ rg n) : g0 (seatsL xs ys) p = pos ys (g0 xs p) := by
  have h1 := rg_mem.mp h
  obtain ⟨x, hx, _⟩ := ord_ix o (j := p.toNat) (by omega)
  have e := g0_at hx
  have e2 := g0_at (seats_at (ys := ys) hx)
  rw [Int.toNat_of_nonneg h1.1] at e e2
  rw [e, e2]
def dT (xs ys : List Int) (t u : Int) : Nat := ind (decide (pos xs t < pos xs u) && decide (pos ys u < pos ys t))
def swT (n : Nat) (xs ys : List Int) : Nat := sumN (rg n) fun t => sumN (rg n) fun u => dT xs ys t u
def spT (n : Nat) (xs ys : List Int) : Nat := sumN (rg n) fun t => ind (!decide (pos xs t = pos ys t))
def shL (n : Nat) (xs ys : List Int) : List Int := (rg n).map fun t => absI (pos xs t - pos ys t)
theorem swap_T {n : Nat} {xs ys : List Int} (ox : IsOrd n xs) (oy : IsOrd n ys) : farSwap xs ys = ((swT n xs ys : Nat) : Int) := by
  unfold farSwap
  rw [inv_eq, seats_len, ox.len]
  unfold invF swT
  congr 1
  rw [sum_pos ox]
  apply sumN_congr
  intro t ht
  rw [sum_pos ox]
  apply sumN_congr
  intro u hu
  unfold dT
  rw [g0_seats ox (pos_in ox ht), g0_seats ox (pos_in ox hu), g0_pos ox ht, g0_pos ox hu]
theorem spot_T {n : Nat} {xs ys : List Int} (ox : IsOrd n xs) (oy : IsOrd n ys) : farSpot xs ys = ((spT n xs ys : Nat) : Int) := by
  unfold farSpot spotL spT
  rw [filter_len, ox.len]
  congr 1
  rw [sum_g0 ox (fun t => ind (!decide (pos xs t = pos ys t)))]
  apply sumN_congr
  intro p hp
  rw [pos_g0 ox hp]
  by_cases c : g0 xs p = g0 ys p
  · rw [decide_eq_true c, c, pos_g0 oy hp, decide_eq_true rfl]
  · have d : ¬ (p = pos ys (g0 xs p)) := fun e => c (by
      have := g0_pos oy (g0_in ox hp)
      rw [← e] at this
      exact this.symm)
    rw [decide_eq_false c, decide_eq_false d]
theorem shift_mem {n : Nat} {xs ys : List Int} (ox : IsOrd n xs) : ∀ g, g ∈ gapsL xs ys ↔ g ∈ shL n xs ys := by
  intro g
  unfold gapsL shL
  rw [ox.len, List.mem_map, List.mem_map]
  constructor
  · rintro ⟨p, hp, rfl⟩
    exact ⟨g0 xs p, g0_in ox hp, by rw [pos_g0 ox hp, g0_seats ox hp]⟩
  · rintro ⟨t, ht, rfl⟩
    exact ⟨pos xs t, pos_in ox ht, by rw [g0_seats ox (pos_in ox ht), g0_pos ox ht]⟩
theorem shift_T {n : Nat} {xs ys : List Int} (ox : IsOrd n xs) (hn : 1 ≤ n) : (∃ t ∈ rg n, farShift xs ys = absI (pos xs t - pos ys t)) ∧ ∀ t ∈ rg n, absI (pos xs t - pos ys t) ≤ farShift xs ys := by
  obtain ⟨h1, h2⟩ := maxL_mem (gaps_nonneg xs ys) (by rw [gaps_len, ox.len]; exact hn)
  constructor
  · obtain ⟨t, ht, e⟩ := List.mem_map.mp ((shift_mem ox _).mp h1)
    exact ⟨t, ht, e.symm⟩
  · intro t ht
    exact h2 _ ((shift_mem ox _).mpr (List.mem_map.mpr ⟨t, ht, rfl⟩))
theorem shift_of {n : Nat} {xs ys : List Int} {m : Int} (ox : IsOrd n xs) (h : ∃ t ∈ rg n, m = absI (pos xs t - pos ys t)) (hle : ∀ t ∈ rg n, absI (pos xs t - pos ys t) ≤ m) : farShift xs ys = m := by
  obtain ⟨t, ht, e⟩ := h
  refine maxL_of (gaps_nonneg xs ys) ((shift_mem ox _).mpr (List.mem_map.mpr ⟨t, ht, e.symm⟩)) fun x hx => ?_
  obtain ⟨u, hu, rfl⟩ := List.mem_map.mp ((shift_mem ox _).mp hx)
  exact hle u hu
/-! ### alike just where 0 -/
theorem invR_zero : ∀ {s : List Int}, invR s = 0 → s.Pairwise (· ≤ ·)
  | [], _ => List.Pairwise.nil
  | x :: r, h => by
    have h' : (r.filter (fun z => decide (z < x))).length + invR r = 0 := h
    refine List.Pairwise.cons (fun z hz => ?_) (invR_zero (by omega))
    have e : r.filter (fun z => decide (z < x)) = [] := List.eq_nil_of_length_eq_zero (by omega)
    have := List.filter_eq_nil_iff.mp e z hz
    simp at this
    exact this
theorem same_of_pos {n : Nat} {xs ys : List Int} (ox : IsOrd n xs) (oy : IsOrd n ys) (h : ∀ p ∈ rg n, pos ys (g0 xs p) = p) : xs = ys := by
  rw [g0_ord ox, g0_ord oy]
  apply List.map_congr_left
  intro p hp
  have e := g0_pos oy (g0_in ox hp)
  rw [h p hp] at e
  exact e.symm
theorem farW_zero {w : Str} {n : Nat} {xs ys : List Int} (hw : IsWay w) (ox : IsOrd n xs) (oy : IsOrd n ys) (hn : 1 ≤ n) (h : farW w xs ys = 0) : xs = ys := by
  rcases hw with rfl | rfl | rfl
  · rw [farW_swap] at h
    unfold farSwap at h
    rw [inv_NR] at h
    have hs := invR_zero (s := seatsL xs ys) (by omega)
    have e := sorted_eq (seats_ord ox oy) hs (rg_sorted n)
    refine same_of_pos ox oy fun p hp => ?_
    rw [← g0_seats ox hp, e]
    have h1 := rg_mem.mp hp
    have z : (rg n)[p.toNat]? = some p := by
      unfold rg
      rw [List.getElem?_map, List.getElem?_range (by omega)]
      show some ((p.toNat : Nat) : Int) = some p
      rw [Int.toNat_of_nonneg h1.1]
    have z2 := g0_at z
    rw [Int.toNat_of_nonneg h1.1] at z2
    exact z2
  · rw [farW_spot] at h
    unfold farSpot spotL at h
    have e : ((rg xs.length).filter fun p => !decide (g0 xs p = g0 ys p)) = [] := List.eq_nil_of_length_eq_zero (by omega)
    rw [g0_ord ox, g0_ord oy]
    apply List.map_congr_left
    intro p hp
    have := List.filter_eq_nil_iff.mp e p (by rw [ox.len]; exact hp)
    simpa using this
  · rw [farW_shift] at h
    have h2 := (shift_T (ys := ys) ox hn).2
    rw [h] at h2
    refine same_of_pos ox oy fun p hp => ?_
    have := h2 _ (g0_in ox hp)
    rw [pos_g0 ox hp] at this
    unfold absI at this
    split at this <;> omega
/-! ### by a third one never shorter -/
theorem farW_third {w : Str} {n : Nat} {xs ys zs : List Int} (hw : IsWay w) (ox : IsOrd n xs) (oy : IsOrd n ys) (oz : IsOrd n zs) (hn : 1 ≤ n) : farW w xs ys ≤ farW w xs zs + farW w zs ys := by
  rcases hw with rfl | rfl | rfl
  · rw [farW_swap, farW_swap, farW_swap, swap_T ox oy, swap_T ox oz, swap_T oz oy]
    have : swT n xs ys ≤ swT n xs zs + swT n zs ys := by
      unfold swT
      rw [← sumN_add]
      apply sumN_le
      intro t ht
      rw [← sumN_add]
      apply sumN_le
      intro u hu
      unfold dT
      apply ind_le
      intro h
      rw [Bool.and_eq_true] at h
      have h1 := of_decide_eq_true h.1
      have h2 := of_decide_eq_true h.2
      by_cases c : pos zs u < pos zs t
      · rw [ind_true (by rw [decide_eq_true h1, decide_eq_true c]; rfl)]
        omega
      · have ne : pos zs t ≠ pos zs u := fun e => by
          have := pos_inj oz ht hu e
          subst this
          omega
        rw [ind_true (a := decide (pos zs t < pos zs u) && decide (pos ys u < pos ys t)) (by rw [decide_eq_true (show pos zs t < pos zs u by omega), decide_eq_true h2]; rfl)]
        omega
    omega
  · rw [farW_spot, farW_spot, farW_spot, spot_T ox oy, spot_T ox oz, spot_T oz oy]
    have : spT n xs ys ≤ spT n xs zs + spT n zs ys := by
      unfold spT
      rw [← sumN_add]
      apply sumN_le
      intro t _
      apply ind_le
      intro h
      by_cases c : pos xs t = pos zs t
      · have d : ¬ (pos zs t = pos ys t) := fun e => by
          rw [c, e] at h
          simp at h
        rw [ind_true (a := !decide (pos zs t = pos ys t)) (by rw [decide_eq_false d]; rfl)]
        omega
      · rw [ind_true (a := !decide (pos xs t = pos zs t)) (by rw [decide_eq_false c]; rfl)]
        omega
    omega
  · rw [farW_shift, farW_shift, farW_shift]
    obtain ⟨t, ht, e⟩ := (shift_T (ys := ys) ox hn).1
    have h1 := (shift_T (ys := zs) ox hn).2 t ht
    have h2 := (shift_T (ys := ys) oz hn).2 t ht
    rw [e]
    unfold absI at h1 h2 ⊢
    split at h1 <;> split at h2 <;> split <;> omega
/-! ### called otherwise, and from behind -/
/-- two pairs of orders whose things stand alike -/
theorem farW_called {w : Str} {n : Nat} {xs ys xs' ys' : List Int} {r : Int → Int} (hw : IsWay w) (ox : IsOrd n xs) (oy : IsOrd n ys) (ox' : IsOrd n xs') (oy' : IsOrd n ys') (hn : 1 ≤ n) (hr : IsOrd n ((rg n).map r)) (h1 : ∀ t ∈ rg n, pos xs' (r t) = pos xs t) (h2 : ∀ t ∈ rg n, pos ys' (r t) = pos ys t) : farW w xs' ys' = farW w xs ys := by
  have sr : ∀ f : Int → Nat, sumN (rg n) f = sumN (rg n) fun t => f (r t) := fun f => by
    have e : sumN ((rg n).map r) f = sumN (rg n) fun t => f (r t) := sumN_map _ _ _
    rw [← e]
    exact (sumN_perm hr f).symm
  have rin : ∀ t ∈ rg n, r t ∈ rg n := fun t ht => rg_mem.mpr (hr.mem (List.mem_map.mpr ⟨t, ht, rfl⟩))
  have ron : ∀ t' ∈ rg n, ∃ t ∈ rg n, r t = t' := fun t' ht' => List.mem_map.mp ((List.Perm.mem_iff hr).mpr ht')
  rcases hw with rfl | rfl | rfl
  · rw [farW_swap, farW_swap, swap_T ox' oy', swap_T ox oy]
    congr 1
    unfold swT
    rw [sr]
    apply sumN_congr
    intro t ht
    rw [sr]
    apply sumN_congr
    intro u hu
    unfold dT
    rw [h1 t ht, h1 u hu, h2 t ht, h2 u hu]
  · rw [farW_spot, farW_spot, spot_T ox' oy', spot_T ox oy]
    congr 1
    unfold spT
    rw [sr]
    apply sumN_congr
    intro t ht
    rw [h1 t ht, h2 t ht]
  · rw [farW_shift, farW_shift]
    obtain ⟨⟨t, ht, e⟩, hle⟩ := shift_T (ys := ys) ox hn
    refine shift_of ox' ⟨r t, rin t ht, by rw [h1 t ht, h2 t ht]; exact e⟩ fun t' ht' => ?_
    obtain ⟨u, hu, rfl⟩ := ron t' ht'
    rw [h1 u hu, h2 u hu]
    exact hle u hu
theorem behind_ord {n : Nat} {ns ms : List Int} (o1 : IsOrd n ns) (o2 : IsOrd n ms) : IsOrd n (behindL ns ms) := by
  have h : (behindL ns ms).Perm ((rg n).map (g0 ns)) := List.Perm.map _ o2
  rw [← g0_ord o1] at h
  exact h.trans o1
theorem behind_pos {n : Nat} {zs xs : List Int} (oz : IsOrd n zs) (ox : IsOrd n xs) : ∀ t ∈ rg n, pos (behindL zs xs) (g0 zs t) = pos xs t := by
  intro t ht
  have h1 := rg_mem.mp ht
  obtain ⟨j, _, ej, pj⟩ := pos_at ox h1.1 h1.2
  obtain ⟨z, hz, _⟩ := ord_ix oz (j := t.toNat) (by omega)
  have e := g0_at hz
  rw [Int.toNat_of_nonneg h1.1] at e
  rw [e, pj]
  exact pos_of (behind_ord oz ox) (behind_at ej hz)
theorem rev_pos {n : Nat} {xs : List Int} (ox : IsOrd n xs) : ∀ t ∈ rg n, pos xs.reverse t = (n : Int) - 1 - pos xs t := by
  intro t ht
  have h1 := rg_mem.mp ht
  obtain ⟨j, hj, ej, pj⟩ := pos_at ox h1.1 h1.2
  have hl := ox.len
  have er : xs.reverse[n - 1 - j]? = some t := by
    rw [List.getElem?_reverse (by omega), hl, show n - 1 - (n - 1 - j) = j by omega]
    exact ej
  rw [pj, pos_of (n := n) ((List.reverse_perm xs).trans ox) er]
  omega
theorem farW_rev {w : Str} {n : Nat} {xs ys : List Int} (hw : IsWay w) (ox : IsOrd n xs) (oy : IsOrd n ys) (hn : 1 ≤ n) : farW w xs.reverse ys.reverse = farW w xs ys := by
  have ox' : IsOrd n xs.reverse := (List.reverse_perm xs).trans ox
  have oy' : IsOrd n ys.reverse := (List.reverse_perm ys).trans oy
  rcases hw with rfl | rfl | rfl
  · rw [farW_swap, farW_swap, swap_T ox' oy', swap_T ox oy]
    congr 1
    unfold swT
    rw [sumN_swap]
    apply sumN_congr
    intro t ht
    apply sumN_congr
    intro u hu
    unfold dT
    rw [rev_pos ox u hu, rev_pos ox t ht, rev_pos oy u hu, rev_pos oy t ht]
    congr 1
    congr 1
    · by_cases c : pos xs t < pos xs u
      · rw [decide_eq_true c, decide_eq_true (by omega)]
      · rw [decide_eq_false c, decide_eq_false (by omega)]
    · by_cases c : pos ys u < pos ys t
      · rw [decide_eq_true c, decide_eq_true (by omega)]
      · rw [decide_eq_false c, decide_eq_false (by omega)]
  · rw [farW_spot, farW_spot, spot_T ox' oy', spot_T ox oy]
    congr 1
    unfold spT
    apply sumN_congr
    intro t ht
    rw [rev_pos ox t ht, rev_pos oy t ht]
    by_cases c : pos xs t = pos ys t
    · rw [decide_eq_true c, decide_eq_true (by omega)]
    · rw [decide_eq_false c, decide_eq_false (by omega)]
  · rw [farW_shift, farW_shift]
    have ea : ∀ t ∈ rg n, absI (pos xs.reverse t - pos ys.reverse t) = absI (pos xs t - pos ys t) := fun t ht => by
      rw [rev_pos ox t ht, rev_pos oy t ht]
      unfold absI
      split <;> split <;> omega
    obtain ⟨⟨t, ht, e⟩, hle⟩ := shift_T (ys := ys) ox hn
    exact shift_of ox' ⟨t, ht, by rw [ea t ht]; exact e⟩ fun u hu => by rw [ea u hu]; exact hle u hu
/-! ### how far at most -/
theorem invR_two (s : List Int) : 2 * invR s + s.length ≤ s.length * s.length := by
  induction s with
  | nil => exact Nat.le_refl _
  | cons x r ih =>
    show 2 * ((r.filter _).length + invR r) + (r.length + 1) ≤ (r.length + 1) * (r.length + 1)
    have h1 : (r.filter (fun z => decide (z < x))).length ≤ r.length := List.length_filter_le _ _
    have h2 : (r.length + 1) * (r.length + 1) = r.length * r.length + r.length + r.length + 1 := by
      rw [Nat.add_mul, Nat.mul_add]
      omega
    omega
theorem swap_most {n : Nat} {xs ys : List Int} (ox : IsOrd n xs) : 2 * farSwap xs ys ≤ (n : Int) * ((n : Int) - 1) := by
  unfold farSwap
  rw [inv_NR]
  have h := invR_two (seatsL xs ys)
  rw [seats_len, ox.len] at h
  have e : (n : Int) * ((n : Int) - 1) = ((n * n : Nat) : Int) - (n : Int) := by
    rw [Int.mul_sub, Int.mul_one, Int.natCast_mul]
  rw [e]
  omega
theorem spot_most {n : Nat} {xs ys : List Int} (ox : IsOrd n xs) : farSpot xs ys ≤ n := by
  unfold farSpot spotL
  rw [ox.len]
  have h := List.length_filter_le (fun p => !decide (g0 xs p = g0 ys p)) (rg n)
  rw [rg_len] at h
  omega
theorem spot_one {n : Nat} {xs ys : List Int} (ox : IsOrd n xs) (oy : IsOrd n ys) : farSpot xs ys ≠ 1 := by
  intro h
  unfold farSpot at h
  obtain ⟨p, hp⟩ := List.length_eq_one_iff.mp (show (spotL xs ys).length = 1 by omega)
  have mem : ∀ q, q ∈ spotL xs ys ↔ q ∈ rg n ∧ g0 xs q ≠ g0 ys q := fun q => by
    unfold spotL
    rw [List.mem_filter, ox.len]
    simp
  have hpm := (mem p).mp (by rw [hp]; exact List.mem_cons_self)
  have hq := pos_in oy (g0_in ox hpm.1)
  have e := g0_pos oy (g0_in ox hpm.1)
  have nq : pos ys (g0 xs p) ≠ p := fun z => hpm.2 (by rw [z] at e; exact e.symm)
  have same : g0 xs (pos ys (g0 xs p)) = g0 ys (pos ys (g0 xs p)) := by
    by_cases c : g0 xs (pos ys (g0 xs p)) = g0 ys (pos ys (g0 xs p))
    · exact c
    · have := (mem _).mpr ⟨hq, c⟩
      rw [hp] at this
      exact absurd (List.mem_singleton.mp this) nq
  rw [e] at same
  have e2 := pos_g0 ox hq
  rw [same, pos_g0 ox hpm.1] at e2
  exact nq e2.symm
theorem shift_most {n : Nat} {xs ys : List Int} (ox : IsOrd n xs) (oy : IsOrd n ys) (hn : 1 ≤ n) : farShift xs ys ≤ (n : Int) - 1 := by
  obtain ⟨t, ht, e⟩ := (shift_T (ys := ys) ox hn).1
  have h1 := rg_mem.mp (pos_in ox ht)
  have h2 := rg_mem.mp (pos_in oy ht)
  rw [e]
  unfold absI
  split <;> omega
theorem below_sum (n : Nat) : ∀ b : Nat, b ≤ n → sumN (rg n) (fun j => ind (decide (j < (b : Int)))) = b := by
  induction n with
  | zero => intro b hb; have : b = 0 := by omega
            subst this; rfl
  | succ n ih =>
    intro b hb
    rw [rg_succ, sumN_append, sumN_cons, sumN_nil]
    by_cases c : b = n + 1
    · subst c
      rw [sumN_congr (g := fun j => ind (decide (j < (n : Int)))) (fun j hj => by
        have := rg_mem.mp hj
        rw [decide_eq_true this.2, decide_eq_true (show j < ((n + 1 : Nat) : Int) by omega)]), ih n (Nat.le_refl _), ind_true (decide_eq_true (by omega))]
    · rw [ih b (by omega), decide_eq_false (show ¬ ((n : Int) < (b : Int)) by omega)]
      rfl
/-- so many others stand the other way round as a thing is shifted -/
theorem turned_most {n : Nat} {xs ys : List Int} (ox : IsOrd n xs) (oy : IsOrd n ys) {t : Int} (ht : t ∈ rg n) : pos ys t - pos xs t ≤ ((sumN (rg n) (fun u => dT xs ys t u) : Nat) : Int) := by
  have h1 := rg_mem.mp (pos_in ox ht)
  have h2 := rg_mem.mp (pos_in oy ht)
  have ea := below_sum n (pos xs t).toNat (by omega)
  have eb := below_sum n (pos ys t).toNat (by omega)
  rw [sum_pos ox] at ea
  rw [sum_pos oy] at eb
  rw [Int.toNat_of_nonneg h1.1] at ea
  rw [Int.toNat_of_nonneg h2.1] at eb
  have : sumN (rg n) (fun u => ind (decide (pos ys u < pos ys t))) ≤ sumN (rg n) (fun u => ind (decide (pos xs u < pos xs t))) + sumN (rg n) (fun u => dT xs ys t u) := by
    rw [← sumN_add]
    apply sumN_le
    intro u hu
    apply ind_le
    intro h
    have hlt := of_decide_eq_true h
    by_cases c : pos xs u < pos xs t
    · rw [ind_true (decide_eq_true c)]
      omega
    · have ne : pos xs t ≠ pos xs u := fun e => by
        have := pos_inj ox ht hu e
        subst this
        omega
      unfold dT
      rw [ind_true (a := decide (pos xs t < pos xs u) && decide (pos ys u < pos ys t)) (by rw [decide_eq_true (show pos xs t < pos xs u by omega), decide_eq_true hlt]; rfl)]
      omega
  omega
theorem dT_turn (xs ys : List Int) (t u : Int) : dT ys xs t u = dT xs ys u t := by
  unfold dT
  rw [Bool.and_comm]
theorem turned_abs {n : Nat} {xs ys : List Int} (ox : IsOrd n xs) (oy : IsOrd n ys) {t : Int} (ht : t ∈ rg n) : absI (pos xs t - pos ys t) ≤ ((sumN (rg n) (fun u => dT xs ys t u) : Nat) : Int) + ((sumN (rg n) (fun u => dT xs ys u t) : Nat) : Int) := by
  have h1 := turned_most ox oy ht
  have h2 := turned_most oy ox ht
  rw [sumN_congr (g := fun u => dT xs ys u t) (fun u _ => dT_turn xs ys t u)] at h2
  unfold absI
  split <;> omega
theorem shift_swap {n : Nat} {xs ys : List Int} (ox : IsOrd n xs) (oy : IsOrd n ys) (hn : 1 ≤ n) : farShift xs ys ≤ farSwap xs ys := by
  obtain ⟨t, ht, e⟩ := (shift_T (ys := ys) ox hn).1
  have h1 := turned_most ox oy ht
  have h2 := turned_most oy ox ht
  have b1 : sumN (rg n) (fun u => dT xs ys t u) ≤ swT n xs ys := sumN_one (f := fun t => sumN (rg n) fun u => dT xs ys t u) ht
  have b2 : sumN (rg n) (fun u => dT ys xs t u) ≤ swT n ys xs := sumN_one (f := fun t => sumN (rg n) fun u => dT ys xs t u) ht
  have e1 := swap_T ox oy
  have e2 := swap_T oy ox
  have e3 := farSwap_turn ox oy
  rw [e]
  unfold absI
  split <;> omega
theorem spot_swap {n : Nat} {xs ys : List Int} (ox : IsOrd n xs) (oy : IsOrd n ys) : farSpot xs ys ≤ 2 * farSwap xs ys := by
  rw [spot_T ox oy, swap_T ox oy]
  have : spT n xs ys ≤ swT n xs ys + swT n xs ys := by
    have e : swT n xs ys = sumN (rg n) fun t => sumN (rg n) fun u => dT xs ys u t := by
      unfold swT
      rw [sumN_swap]
    have e2 : swT n xs ys + swT n xs ys = sumN (rg n) fun t => sumN (rg n) (fun u => dT xs ys t u) + sumN (rg n) (fun u => dT xs ys u t) := by
      rw [sumN_add, ← e]
      rfl
    rw [e2]
    unfold spT
    apply sumN_le
    intro t ht
    apply ind_le
    intro h
    have ha := turned_abs ox oy ht
    have ne : ¬ (pos xs t = pos ys t) := fun z => by
      rw [z] at h
      simp at h
    unfold absI at ha
    split at ha <;> omega
  omega
/-! ### backs -/
theorem back_list {n : Nat} {ns ps : List Int} (o : IsOrd n ns) (h : IsBack ns ps) : ps = (rg n).map (pos ns) := by
  apply List.ext_getElem?
  intro t
  by_cases c : t < n
  · have e := back_pos o h (x := (t : Int)) (by omega) (by omega)
    rw [Int.toNat_natCast] at e
    rw [e]
    unfold rg
    rw [List.map_map, List.getElem?_map, List.getElem?_range c]
    rfl
  · rw [List.getElem?_eq_none (by rw [h.1, o.len]; omega), List.getElem?_eq_none (by rw [List.length_map, rg_len]; omega)]
theorem back_ord {n : Nat} {ns ps : List Int} (o : IsOrd n ns) (h : IsBack ns ps) : IsOrd n ps := by
  rw [back_list o h]
  exact pos_ord o
theorem back_g0 {n : Nat} {ns ps : List Int} (o : IsOrd n ns) (h : IsBack ns ps) : ∀ t ∈ rg n, g0 ps t = pos ns t := by
  intro t ht
  have h1 := rg_mem.mp ht
  have e := g0_at (back_pos o h h1.1 h1.2)
  rw [Int.toNat_of_nonneg h1.1] at e
  exact e
theorem back_back {n : Nat} {ns ps : List Int} (o : IsOrd n ns) (h : IsBack ns ps) : IsBack ps ns := by
  refine ⟨h.1.symm, fun j x hx => ?_⟩
  have hj := (List.getElem?_eq_some_iff.mp hx).1
  rw [h.1, o.len] at hj
  obtain ⟨i, hi, ei, pi⟩ := pos_at o (x := (j : Int)) (by omega) (by omega)
  have e := back_pos o h (x := (j : Int)) (by omega) (by omega)
  rw [Int.toNat_natCast, hx] at e
  have ex : x = (i : Int) := (Option.some.inj e).trans pi
  rw [ex, Int.toNat_natCast]
  exact ei
theorem spot_back {n : Nat} {xs ys ps qs : List Int} (ox : IsOrd n xs) (oy : IsOrd n ys) (hp : IsBack xs ps) (hq : IsBack ys qs) : farSpot ps qs = farSpot xs ys := by
  rw [spot_T ox oy]
  unfold farSpot spotL spT
  rw [filter_len, hp.1, ox.len]
  congr 1
  apply sumN_congr
  intro t ht
  rw [back_g0 ox hp t ht, back_g0 oy hq t ht]
theorem behind_back {n : Nat} {xs ps : List Int} (ox : IsOrd n xs) (hp : IsBack xs ps) : behindL xs ps = rg n := by
  rw [back_list ox hp]
  unfold behindL
  rw [List.map_map]
  have e : (rg n).map ((fun p => xs.getD p.toNat 0) ∘ pos xs) = (rg n).map (fun t => t) := List.map_congr_left fun t ht => g0_pos ox ht
  rw [e, List.map_id']
theorem behind_assoc {n : Nat} {xs ys zs : List Int} (ox : IsOrd n xs) (oy : IsOrd n ys) (oz : IsOrd n zs) : behindL (behindL xs ys) zs = behindL xs (behindL ys zs) := by
  apply List.ext_getElem?
  intro i
  by_cases c : i < n
  · obtain ⟨z, hz, z0, z1⟩ := ord_ix oz c
    obtain ⟨y, hy, y0, y1⟩ := ord_ix oy (j := z.toNat) (by omega)
    obtain ⟨x, hx, _⟩ := ord_ix ox (j := y.toNat) (by omega)
    rw [behind_at hz (behind_at hy hx), behind_at (behind_at hz hy) hx]
  · rw [List.getElem?_eq_none (by rw [behind_len, oz.len]; omega), List.getElem?_eq_none (by rw [behind_len, behind_len, oz.len]; omega)]
end Fo
namespace Fo
open PySem PySem.Spec PyProof.Rows L2
section
variable {n : Nat} {f : Int → Int}
theorem Bij.cyc_nodup (b : Bij n f) {t : Int} (ht : t ∈ rg n) : (cyc n f t).Nodup := by
  obtain ⟨p1, p2, p3, p4⟩ := b.per_spec ht
  unfold cyc
  have hp : (List.range (per n f t)).Pairwise (fun i j => i < j ∧ j < per n f t) := by
    rw [List.pairwise_iff_getElem]
    intro i j hi hj hij
    rw [List.getElem_range, List.getElem_range]
    rw [List.length_range] at hj
    exact ⟨hij, hj⟩
  refine List.Pairwise.map _ (fun i j h => h) (hp.imp fun {i j} hij e => ?_)
  have ej : it f j t = it f i (it f (j - i) t) := by rw [← it_add, show i + (j - i) = j by omega]
  rw [ej] at e
  have z := b.it_inj ht (b.it_in ht (j - i)) i e
  exact p4 (j - i) (by omega) (by omega) z.symm
theorem Bij.cyc_new (b : Bij n f) {t : Int} (ht : t ∈ rg n) {j : Nat} (hj : j < per n f t) : it f j t ∉ (cyc n f t).take j := by
  intro h
  obtain ⟨i, hi⟩ := List.mem_iff_getElem?.mp h
  have hil : i < j := by
    have := (List.getElem?_eq_some_iff.mp hi).1
    rw [List.length_take] at this
    omega
  rw [List.getElem?_take_of_lt hil] at hi
  have := nd_ix (b.cyc_nodup ht) hi (cyc_at hj)
  omega
theorem left_nodup (T : Int) : (leftL n f T).Nodup := List.Pairwise.filter _ (rg_nodup n)
theorem rows_len (b : Bij n f) : ∀ r ∈ roundsL n f, r.length ≤ n := by
  intro r hr
  obtain ⟨t, ht, rfl⟩ := List.mem_map.mp hr
  rw [cyc_len]
  exact (b.per_spec (List.mem_filter.mp ht).1).2.1
end
theorem steps_sum (rs : List (List Int)) : (rs.map fun r => (r.length : Int) - 1).sum = (rs.map fun r => (r.length : Int)).sum - (rs.length : Int) := by
  induction rs with
  | nil => rfl
  | cons r rs ih =>
    rw [List.map_cons, List.sum_cons, ih, List.map_cons, List.sum_cons, List.length_cons]
    omega
theorem rounds_self {n : Nat} {xs : List Int} (ox : IsOrd n xs) (hn : 1 ≤ n) : roundsL n (fol xs xs) = [] := by
  unfold roundsL
  rw [List.filter_eq_nil_iff.mpr]
  · rfl
  · intro t ht
    have hp : per n (fol xs xs) t = 1 := by
      unfold per
      have : (List.range n).find? (fun j => decide (it (fol xs xs) (j + 1) t = t)) = some 0 := by
        rw [List.find?_range_eq_some]
        exact ⟨decide_eq_true (fol_self ox t ht), List.mem_range.mpr (by omega), fun j hj => absurd hj (Nat.not_lt_zero _)⟩
      rw [this]
      rfl
    unfold told
    rw [hp]
    simp
end Fo
namespace Fo
open PySem PySem.Spec PyProof.Rows L2
/-! ### where a shortest walk leads -/
theorem seats_same {n : Nat} {xs ys : List Int} (ox : IsOrd n xs) (oy : IsOrd n ys) (hn : 1 ≤ n) (h : invR (seatsL xs ys) = 0) : xs = ys :=
  farW_zero (w := "swap") (.inl rfl) ox oy hn (by rw [farW_swap]; unfold farSwap; rw [inv_NR, h]; rfl)
theorem wEnd_cons (xs : List Int) (p : Int) (w : List Int) : wEnd xs (p :: w) = wEnd (sw xs p.toNat) w := rfl
theorem wEnd_append (xs u v : List Int) : wEnd xs (u ++ v) = wEnd (wEnd xs u) v := by
  unfold wEnd
  rw [List.foldl_append]
/-- one step of a shortest walk -/
theorem walk_step {n : Nat} {xs ys : List Int} (ox : IsOrd n xs) {m : Nat} (h : invR (seatsL xs ys) = m + 1) : ∃ p : Nat, p + 1 < n ∧ firstDesc (seatsL xs ys) = some p ∧ walkL (seatsL xs ys) = (p : Int) :: walkL (seatsL (sw xs p) ys) ∧ invR (seatsL (sw xs p) ys) = m ∧ IsOrd n (sw xs p) := by
  obtain ⟨p, hp⟩ := fd_pos (s := seatsL xs ys) (by omega)
  obtain ⟨a, b, ha, hb, hlt, _⟩ := fd_at hp
  have hl := (List.getElem?_eq_some_iff.mp hb).1
  rw [seats_len, ox.len] at hl
  have e := seats_sw (ys := ys) (show p + 1 < xs.length by rw [ox.len]; exact hl)
  have hinv := invR_sw ha hb hlt
  exact ⟨p, hl, hp, by rw [e]; exact walk_some hp, by rw [e]; omega, sw_ord ox hl⟩
theorem walk_nil {s : List Int} (h : invR s = 0) : walkL s = [] := by
  unfold walkL
  rw [h]
  rfl
theorem walk_to {n : Nat} {ys : List Int} (oy : IsOrd n ys) (hn : 1 ≤ n) : ∀ (m : Nat) (xs : List Int), IsOrd n xs → invR (seatsL xs ys) = m → wEnd xs (walkL (seatsL xs ys)) = ys
  | 0, xs, ox, h => by
    rw [walk_nil h]
    exact seats_same ox oy hn h
  | m + 1, xs, ox, h => by
    obtain ⟨p, hp, _, e, hi, o⟩ := walk_step ox h
    rw [e, wEnd_cons, Int.toNat_natCast]
    exact walk_to oy hn m _ o hi
theorem walk_is {n : Nat} {ys : List Int} : ∀ (m : Nat) (xs : List Int), IsOrd n xs → invR (seatsL xs ys) = m → IsWalk n (walkL (seatsL xs ys))
  | 0, xs, ox, h => by
    rw [walk_nil h]
    exact fun p hp => absurd hp List.not_mem_nil
  | m + 1, xs, ox, h => by
    obtain ⟨p, hp, _, e, hi, o⟩ := walk_step ox h
    rw [e]
    intro q hq
    rcases List.mem_cons.mp hq with rfl | hq
    · omega
    · exact walk_is m _ o hi q hq
theorem sw_sw {xs : List Int} {p : Nat} (h : p + 1 < xs.length) : sw (sw xs p) p = xs := by
  obtain ⟨A, a, b, B, rfl, rfl⟩ := split2 h
  rw [sw_at, sw_at]
theorem walk_back {n : Nat} : ∀ (w : List Int) (xs : List Int), IsOrd n xs → IsWalk n w → wEnd (wEnd xs w) w.reverse = xs
  | [], xs, _, _ => rfl
  | p :: w, xs, ox, hw => by
    have hp := hw p List.mem_cons_self
    have ih := walk_back w (sw xs p.toNat) (sw_ord ox (by omega)) fun q hq => hw q (List.mem_cons_of_mem _ hq)
    rw [wEnd_cons, List.reverse_cons, wEnd_append, ih]
    exact sw_sw (by rw [ox.len]; omega)
theorem walk_rest {n : Nat} {ys : List Int} : ∀ (m k : Nat) (xs : List Int), IsOrd n xs → invR (seatsL xs ys) = m → k ≤ m → walkL (seatsL (wEnd xs ((walkL (seatsL xs ys)).take k)) ys) = (walkL (seatsL xs ys)).drop k ∧ invR (seatsL (wEnd xs ((walkL (seatsL xs ys)).take k)) ys) = m - k
  | m, 0, xs, ox, h, _ => ⟨rfl, h⟩
  | 0, k + 1, xs, ox, h, hk => by omega
  | m + 1, k + 1, xs, ox, h, hk => by
    obtain ⟨p, hp, _, e, hi, o⟩ := walk_step ox h
    rw [e, List.take_succ_cons, List.drop_succ_cons, wEnd_cons, Int.toNat_natCast]
    have ih := walk_rest m k _ o hi (by omega)
    exact ⟨ih.1, by rw [ih.2]; omega⟩
theorem pos_sw {n : Nat} {xs : List Int} (ox : IsOrd n xs) {p : Nat} (hp : p + 1 < n) {t : Int} (ht : t ∈ rg n) : pos (sw xs p) t = if pos xs t = p then (p : Int) + 1 else if pos xs t = (p : Int) + 1 then (p : Int) else pos xs t := by
  have hb := rg_mem.mp ht
  obtain ⟨j, hj, ej, pj⟩ := pos_at ox hb.1 hb.2
  obtain ⟨x, hx, _⟩ := ord_ix ox (j := p) (by omega)
  obtain ⟨y, hy, _⟩ := ord_ix ox (j := p + 1) (by omega)
  have o := sw_ord ox hp
  have hl := ox.len
  have es : sw xs p = (xs.set p y).set (p + 1) x := by
    unfold sw
    rw [List.getD_eq_getElem?_getD, List.getD_eq_getElem?_getD, hx, hy]
    rfl
  rw [pj]
  by_cases c1 : j = p
  · subst c1
    have e1 : x = t := Option.some.inj (hx.symm.trans ej)
    rw [if_pos rfl, pos_of o (j := j + 1) (by rw [es, List.getElem?_set_self (by rw [List.length_set]; omega), e1])]
    rfl
  · rw [if_neg (by omega)]
    by_cases c2 : j = p + 1
    · subst c2
      have e1 : y = t := Option.some.inj (hy.symm.trans ej)
      rw [if_pos (by omega), pos_of o (j := p) (by rw [es, List.getElem?_set_ne (by omega), List.getElem?_set_self (by omega), e1])]
    · rw [if_neg (by omega), pos_of o (j := j) (by rw [es, List.getElem?_set_ne (by omega), List.getElem?_set_ne (by omega)]; exact ej)]
/-- two things that stand the same way round as at the end stay so on the way -/
theorem walk_stay {n : Nat} {ys : List Int} (oy : IsOrd n ys) {t u : Int} (ht : t ∈ rg n) (hu : u ∈ rg n) (hy : pos ys t < pos ys u) : ∀ (m k : Nat) (xs : List Int), IsOrd n xs → invR (seatsL xs ys) = m → pos xs t < pos xs u → pos (wEnd xs ((walkL (seatsL xs ys)).take k)) t < pos (wEnd xs ((walkL (seatsL xs ys)).take k)) u
  | m, 0, xs, ox, h, hx => hx
  | 0, k + 1, xs, ox, h, hx => by
    rw [walk_nil h]
    exact hx
  | m + 1, k + 1, xs, ox, h, hx => by
    obtain ⟨p, hp, hfd, e, hi, o⟩ := walk_step ox h
    rw [e, List.take_succ_cons, wEnd_cons, Int.toNat_natCast]
    refine walk_stay oy ht hu hy m k _ o hi ?_
    rw [pos_sw ox hp ht, pos_sw ox hp hu]
    obtain ⟨a, b, ha, hb, hlt, _⟩ := fd_at hfd
    by_cases c : pos xs t = p ∧ pos xs u = (p : Int) + 1
    · exfalso
      have e1 : g0 (seatsL xs ys) (p : Int) = a := g0_at ha
      have e2 : g0 (seatsL xs ys) ((p + 1 : Nat) : Int) = b := g0_at hb
      have et : g0 (seatsL xs ys) (p : Int) = pos ys t := by
        rw [← c.1, g0_seats ox (pos_in ox ht), g0_pos ox ht]
      have eu : g0 (seatsL xs ys) ((p + 1 : Nat) : Int) = pos ys u := by
        have : ((p + 1 : Nat) : Int) = pos xs u := by omega
        rw [this, g0_seats ox (pos_in ox hu), g0_pos ox hu]
      omega
    · split <;> split <;> (try split) <;> (try split) <;> omega
/-- each beginning of a shortest walk is the shortest walk there -/
theorem walk_begin {n : Nat} {ys : List Int} (oy : IsOrd n ys) : ∀ (m k : Nat) (xs : List Int), IsOrd n xs → invR (seatsL xs ys) = m → k ≤ m → walkL (seatsL xs (wEnd xs ((walkL (seatsL xs ys)).take k))) = (walkL (seatsL xs ys)).take k
  | m, 0, xs, ox, h, _ => by
    show walkL (seatsL xs xs) = []
    rw [seats_self ox]
    exact walk_nil (by rw [← inv_NR, inv_rg])
  | 0, k + 1, xs, ox, h, hk => by omega
  | m + 1, k + 1, xs, ox, h, hk => by
    obtain ⟨p, hp, hfd, e, hi, o⟩ := walk_step ox h
    have ih := walk_begin oy m k _ o hi (by omega)
    have hW := walk_is (ys := ys) _ xs ox rfl
    have oA : IsOrd n (wEnd xs ((walkL (seatsL xs ys)).take (k + 1))) := wEnd_ord ox fun q hq => hW q (List.mem_of_mem_take hq)
    obtain ⟨a, b, ha, hb, hlt, hle⟩ := fd_at hfd
    have eA : wEnd xs ((walkL (seatsL xs ys)).take (k + 1)) = wEnd (sw xs p) ((walkL (seatsL (sw xs p) ys)).take k) := by
      rw [e, List.take_succ_cons, wEnd_cons, Int.toNat_natCast]
    obtain ⟨x, hx, x0, x1⟩ := ord_ix ox (j := p) (by omega)
    obtain ⟨y, hy, y0, y1⟩ := ord_ix ox (j := p + 1) (by omega)
    have xr : x ∈ rg n := rg_mem.mpr ⟨x0, x1⟩
    have yr : y ∈ rg n := rg_mem.mpr ⟨y0, y1⟩
    have ea : pos ys x = a := Option.some.inj ((seats_at (ys := ys) hx).symm.trans ha)
    have eb : pos ys y = b := Option.some.inj ((seats_at (ys := ys) hy).symm.trans hb)
    have hturn : pos (wEnd xs ((walkL (seatsL xs ys)).take (k + 1))) y < pos (wEnd xs ((walkL (seatsL xs ys)).take (k + 1))) x := by
      rw [eA]
      refine walk_stay oy yr xr (by omega) m k _ o hi ?_
      rw [pos_sw ox hp yr, pos_sw ox hp xr, pos_of ox hx, pos_of ox hy, if_neg (by omega), if_pos (by omega), if_pos rfl]
      omega
    have hfd2 : firstDesc (seatsL xs (wEnd xs ((walkL (seatsL xs ys)).take (k + 1)))) = some p := by
      refine fd_some (fun j u v hj hu hv => ?_) (seats_at hx) (seats_at hy) hturn
      obtain ⟨z1, hz1, z10, z11⟩ := ord_ix ox (j := j) (by omega)
      obtain ⟨z2, hz2, z20, z21⟩ := ord_ix ox (j := j + 1) (by omega)
      have r1 : z1 ∈ rg n := rg_mem.mpr ⟨z10, z11⟩
      have r2 : z2 ∈ rg n := rg_mem.mpr ⟨z20, z21⟩
      have eu : pos (wEnd xs ((walkL (seatsL xs ys)).take (k + 1))) z1 = u := Option.some.inj ((seats_at hz1).symm.trans hu)
      have ev : pos (wEnd xs ((walkL (seatsL xs ys)).take (k + 1))) z2 = v := Option.some.inj ((seats_at hz2).symm.trans hv)
      have hle2 := hle j _ _ hj (seats_at (ys := ys) hz1) (seats_at (ys := ys) hz2)
      have ne : pos ys z1 ≠ pos ys z2 := fun ez => by
        have := pos_inj oy r1 r2 ez
        subst this
        have := nd_ix ox.nodup hz1 hz2
        omega
      have := walk_stay oy r1 r2 (by omega) (m + 1) (k + 1) xs ox h (by rw [pos_of ox hz1, pos_of ox hz2]; omega)
      omega
    rw [walk_some hfd2, ← seats_sw (by rw [ox.len]; exact hp)]
    rw [eA, ih, e, List.take_succ_cons]
/-! ### rounds from the other side -/
theorem fol_turn {n : Nat} {xs ys : List Int} (ox : IsOrd n xs) (oy : IsOrd n ys) : ∀ t ∈ rg n, fol ys xs (fol xs ys t) = t := by
  intro t ht
  unfold fol
  rw [pos_g0 ox (pos_in oy ht), g0_pos oy ht]
section
variable {n : Nat} {f g : Int → Int}
/-- g leads back where f led from -/
structure Inv2 (n : Nat) (f g : Int → Int) : Prop where
  bf : Bij n f
  bg : Bij n g
  gf : ∀ t ∈ rg n, g (f t) = t
theorem Inv2.it_back (v : Inv2 n f g) {t : Int} (ht : t ∈ rg n) : ∀ i j, i ≤ j → it g i (it f j t) = it f (j - i) t
  | 0, j, _ => rfl
  | i + 1, j, h => by
    show g (it g i (it f j t)) = _
    rw [v.it_back ht i j (by omega), show j - i = (j - (i + 1)) + 1 by omega]
    exact v.gf _ (v.bf.it_in ht _)
theorem Inv2.it_iff (v : Inv2 n f g) {t : Int} (ht : t ∈ rg n) (j : Nat) : it g j t = t ↔ it f j t = t := by
  have e := v.it_back ht j j (Nat.le_refl _)
  rw [Nat.sub_self] at e
  have e' : it g j (it f j t) = t := e
  constructor
  · intro h
    exact v.bg.it_inj (v.bf.it_in ht j) ht j (e'.trans h.symm)
  · intro h
    rw [h] at e'
    exact e'
theorem Inv2.per_eq (v : Inv2 n f g) {t : Int} (ht : t ∈ rg n) : per n g t = per n f t := by
  unfold per
  have : (fun j => decide (it g (j + 1) t = t)) = fun j => decide (it f (j + 1) t = t) := by
    funext j
    by_cases c : it f (j + 1) t = t
    · rw [decide_eq_true c, decide_eq_true ((v.it_iff ht _).mpr c)]
    · rw [decide_eq_false c, decide_eq_false (fun e => c ((v.it_iff ht _).mp e))]
  rw [this]
def flip1 (r : List Int) : List Int := r.take 1 ++ (r.drop 1).reverse
theorem Inv2.cyc_eq (v : Inv2 n f g) {t : Int} (ht : t ∈ rg n) : cyc n g t = flip1 (cyc n f t) := by
  obtain ⟨p1, p2, p3, p4⟩ := v.bf.per_spec ht
  have hl := cyc_len (n := n) (f := f) t
  apply List.ext_getElem?
  intro j
  unfold flip1
  by_cases c : j < per n f t
  · rw [cyc_at (by rw [v.per_eq ht]; exact c)]
    by_cases d : j = 0
    · subst d
      rw [List.getElem?_append_left (by rw [List.length_take]; omega), List.getElem?_take_of_lt (by omega), cyc_at p1]
      rfl
    · rw [List.getElem?_append_right (by rw [List.length_take]; omega), List.length_take, hl, List.getElem?_reverse (by rw [List.length_drop]; omega), List.length_drop, hl, List.getElem?_drop, show 1 + (per n f t - 1 - 1 - (j - min 1 (per n f t))) = per n f t - j by omega, cyc_at (by omega)]
      have e := v.it_back ht j (per n f t) (by omega)
      rw [p3] at e
      rw [e]
  · rw [List.getElem?_eq_none (by rw [cyc_len, v.per_eq ht]; omega), List.getElem?_eq_none (by rw [List.length_append, List.length_reverse, List.length_take, List.length_drop, hl]; omega)]
theorem flip1_perm (r : List Int) : (flip1 r).Perm r := by
  unfold flip1
  have h : (r.take 1 ++ (r.drop 1).reverse).Perm (r.take 1 ++ r.drop 1) := List.Perm.append_left _ (List.reverse_perm _)
  rw [List.take_append_drop] at h
  exact h
theorem Inv2.mn_eq (v : Inv2 n f g) {t : Int} (ht : t ∈ rg n) : mn n g t = mn n f t := by
  obtain ⟨h1, h2⟩ := v.bf.mn_spec ht
  unfold mn
  refine mnL_of ?_ fun x hx => h2 x ?_
  · rw [v.cyc_eq ht]
    exact (flip1_perm _).mem_iff.mpr h1
  · rw [v.cyc_eq ht] at hx
    exact (flip1_perm _).mem_iff.mp hx
theorem Inv2.rounds_eq (v : Inv2 n f g) : roundsL n g = (roundsL n f).map flip1 := by
  unfold roundsL
  rw [List.map_map]
  have e : (rg n).filter (told n g) = (rg n).filter (told n f) := by
    apply List.filter_congr
    intro t ht
    unfold told
    rw [v.per_eq ht, v.mn_eq ht]
  rw [e]
  apply List.map_congr_left
  intro t ht
  exact v.cyc_eq (List.mem_filter.mp ht).1
/-! ### how many rounds, with those of one thing -/
def cN (n : Nat) (f : Int → Int) : Nat := sumN (rg n) fun t => ind (decide (mn n f t = t))
theorem ind_one {m : Int} (hm : m ∈ rg n) : sumN (rg n) (fun x => ind (decide (x = m))) = 1 := by
  obtain ⟨B, e, hB⟩ := rg_split hm
  rw [e, sumN_append, sumN_cons, sumN_zero (l := rg m.toNat) (fun x hx => by
    have := rg_mem.mp hx
    have := rg_mem.mp hm
    rw [decide_eq_false (by omega)]
    rfl), sumN_zero (l := B) (fun x hx => by
    have := hB x hx
    rw [decide_eq_false (by omega)]
    rfl), ind_true (decide_eq_true rfl)]
theorem len_sum : ∀ {l : List Int}, l.Nodup → (∀ x ∈ l, x ∈ rg n) → l.length = sumN (rg n) fun x => ind (decide (x ∈ l))
  | [], _, _ => by
    rw [sumN_zero fun x _ => by rw [decide_eq_false List.not_mem_nil]; rfl]
    rfl
  | a :: l, hn, hs => by
    obtain ⟨h1, h2⟩ := List.nodup_cons.mp hn
    have ih := len_sum h2 fun x hx => hs x (List.mem_cons_of_mem _ hx)
    have e : (sumN (rg n) fun x => ind (decide (x ∈ a :: l))) = sumN (rg n) (fun x => ind (decide (x = a))) + sumN (rg n) (fun x => ind (decide (x ∈ l))) := by
      rw [← sumN_add]
      apply sumN_congr
      intro x _
      by_cases c : x = a
      · subst c
        rw [decide_eq_true List.mem_cons_self, decide_eq_true rfl, decide_eq_false h1]
        rfl
      · by_cases d : x ∈ l
        · rw [decide_eq_true (List.mem_cons_of_mem _ d), decide_eq_true d, decide_eq_false c]
          rfl
        · rw [decide_eq_false (by rw [List.mem_cons]; exact fun h => h.elim c d), decide_eq_false d, decide_eq_false c]
          rfl
    rw [e, ind_one (hs a List.mem_cons_self), List.length_cons, ih]
    omega
/-- things are counted round by round -/
theorem Bij.by_rounds (b : Bij n f) (P : Int → Bool) : (sumN (rg n) fun t => if (decide (mn n f t = t) && P t) = true then per n f t else 0) = sumN (rg n) fun u => ind (P (mn n f u)) := by
  have e1 : ∀ t ∈ rg n, (if (decide (mn n f t = t) && P t) = true then per n f t else 0) = sumN (rg n) fun u => ind (decide (t = mn n f u) && P (mn n f u)) := by
    intro t ht
    by_cases c : (decide (mn n f t = t) && P t) = true
    · rw [if_pos c]
      rw [Bool.and_eq_true] at c
      have c1 := of_decide_eq_true c.1
      rw [← cyc_len (n := n) (f := f) t, len_sum (b.cyc_nodup ht) fun x hx => b.cyc_in ht hx]
      apply sumN_congr
      intro u hu
      by_cases d : u ∈ cyc n f t
      · have := b.mn_same ht d
        rw [decide_eq_true d, this, c1, decide_eq_true rfl, c.2]
        rfl
      · have : ¬ t = mn n f u := fun e => d (b.of_mn ht hu e.symm)
        rw [decide_eq_false d, decide_eq_false this]
        rfl
    · rw [if_neg c]
      symm
      apply sumN_zero
      intro u hu
      by_cases d : t = mn n f u
      · have em : mn n f t = t := by rw [d]; exact b.mn_mn hu
        have : P t = false := by
          by_cases z : P t = true
          · exact absurd (by rw [decide_eq_true em, z]; rfl) c
          · simpa using z
        rw [← d, this, Bool.and_false]
        rfl
      · rw [decide_eq_false d]
        rfl
  rw [sumN_congr e1, sumN_swap]
  apply sumN_congr
  intro u hu
  have e2 : ∀ t ∈ rg n, ind (decide (t = mn n f u) && P (mn n f u)) = if P (mn n f u) = true then ind (decide (t = mn n f u)) else 0 := fun t _ => by
    cases P (mn n f u)
    · rw [Bool.and_false]; rfl
    · rw [Bool.and_true]; rfl
  rw [sumN_congr e2]
  cases P (mn n f u)
  · exact sumN_zero fun x _ => rfl
  · show sumN (rg n) (fun t => ind (decide (t = mn n f u))) = 1
    exact ind_one (b.mn_in hu)
theorem sumI_filter (l : List Int) (p : Int → Bool) (k : Int → Nat) : ((l.filter p).map fun t => (k t : Int)).sum = ((sumN l fun t => if p t = true then k t else 0 : Nat) : Int) := by
  induction l with
  | nil => rfl
  | cons a l ih =>
    rw [sumN_cons, List.filter_cons]
    cases h : p a
    · rw [if_neg (by decide), ih, if_neg (by decide), Nat.zero_add]
    · rw [if_pos rfl, List.map_cons, List.sum_cons, ih, if_pos rfl]
      omega
/-- steps and rounds together are all things -/
theorem Bij.steps_c (b : Bij n f) : stepsI n f = (n : Int) - ((cN n f : Nat) : Int) := by
  have e0 : stepsI n f = (((rg n).filter (told n f)).map fun t => ((per n f t - 1 : Nat) : Int)).sum := by
    unfold stepsI roundsL
    rw [List.map_map]
    congr 1
    apply List.map_congr_left
    intro t ht
    have hp := (b.per_spec (List.mem_filter.mp ht).1).1
    show ((cyc n f t).length : Int) - 1 = _
    rw [cyc_len]
    omega
  rw [e0, sumI_filter]
  have h1 := b.by_rounds (fun _ => true)
  have h2 : (sumN (rg n) fun u => ind ((fun _ : Int => true) (mn n f u))) = n := by
    have : ∀ m : Nat, sumN (rg m) (fun _ => 1) = m := fun m => by
      induction m with
      | zero => rfl
      | succ m ih => rw [rg_succ, sumN_append, ih]; rfl
    exact this n
  rw [h2] at h1
  have h3 : (sumN (rg n) fun t => if (decide (mn n f t = t) && (fun _ : Int => true) t) = true then per n f t else 0) = (sumN (rg n) fun t => if told n f t = true then per n f t - 1 else 0) + cN n f := by
    unfold cN
    rw [← sumN_add]
    apply sumN_congr
    intro t ht
    obtain ⟨p1, _⟩ := b.per_spec ht
    unfold told
    by_cases c : mn n f t = t
    · rw [decide_eq_true c, decide_eq_true c.symm]
      by_cases d : 1 < per n f t
      · rw [decide_eq_true d]
        show per n f t = (per n f t - 1) + 1
        omega
      · rw [decide_eq_false d]
        show per n f t = 0 + 1
        omega
    · rw [decide_eq_false c, decide_eq_false (show ¬ (t = mn n f t) from fun e => c e.symm), Bool.and_false]
      rfl
  rw [h3] at h1
  omega
/-- the things of the told rounds are those that do not stay -/
theorem Bij.told_len (b : Bij n f) : ((roundsL n f).map fun r => (r.length : Int)).sum = ((sumN (rg n) fun u => ind (!decide (f u = u)) : Nat) : Int) := by
  have e0 : ((roundsL n f).map fun r => (r.length : Int)).sum = (((rg n).filter (told n f)).map fun t => ((per n f t : Nat) : Int)).sum := by
    unfold roundsL
    rw [List.map_map]
    congr 1
    apply List.map_congr_left
    intro t ht
    show ((cyc n f t).length : Int) = _
    rw [cyc_len]
  rw [e0, sumI_filter]
  congr 1
  have h1 := b.by_rounds (fun t => decide (1 < per n f t))
  have h2 : (sumN (rg n) fun t => if told n f t = true then per n f t else 0) = sumN (rg n) fun t => if (decide (mn n f t = t) && (fun t => decide (1 < per n f t)) t) = true then per n f t else 0 := by
    apply sumN_congr
    intro t _
    unfold told
    have e : (decide (1 < per n f t) && decide (t = mn n f t)) = (decide (mn n f t = t) && (fun t => decide (1 < per n f t)) t) := by
      rw [Bool.and_comm]
      congr 1
      by_cases c : mn n f t = t
      · rw [decide_eq_true c, decide_eq_true c.symm]
      · rw [decide_eq_false c, decide_eq_false (fun e => c e.symm)]
    rw [e]
  rw [h2, h1]
  apply sumN_congr
  intro u hu
  congr 1
  have hm := b.mn_in hu
  have hu2 : u ∈ cyc n f (mn n f u) := b.of_mn hm hu rfl
  show decide (1 < per n f (mn n f u)) = !decide (f u = u)
  by_cases c : f u = u
  · rw [decide_eq_true c]
    apply decide_eq_false
    intro hp
    have hpu : per n f u = 1 := by
      obtain ⟨p1, _, _, p4⟩ := b.per_spec hu
      by_cases d : 1 < per n f u
      · exact absurd c (p4 1 (Nat.le_refl _) d)
      · omega
    have hmu := b.cyc_symm hm hu2
    obtain ⟨j, hj, ej⟩ := List.mem_map.mp hmu
    rw [hpu] at hj
    have : j = 0 := by
      have := List.mem_range.mp hj
      omega
    subst this
    have e : u = mn n f u := ej
    rw [← e, hpu] at hp
    omega
  · rw [decide_eq_false c]
    apply decide_eq_true
    obtain ⟨p1, p2, p3, p4⟩ := b.per_spec hm
    by_cases d : 1 < per n f (mn n f u)
    · exact d
    · exfalso
      have hp1 : per n f (mn n f u) = 1 := by omega
      obtain ⟨j, hj, ej⟩ := List.mem_map.mp hu2
      rw [hp1] at hj p3
      have : j = 0 := by
        have := List.mem_range.mp hj
        omega
      subst this
      have e : mn n f u = u := ej
      rw [e] at p3
      exact c p3
end
end Fo
namespace Fo
open PySem PySem.Spec PyProof.Rows L2
section
variable {n : Nat} {f g : Int → Int}
/-- g is f with a and b exchanged ahead of it -/
structure Exch (n : Nat) (f g : Int → Int) (a b : Int) : Prop where
  bf : Bij n f
  bg : Bij n g
  ha : a ∈ rg n
  hb : b ∈ rg n
  ne : a ≠ b
  ga : g a = f b
  gb : g b = f a
  gx : ∀ x ∈ rg n, x ≠ a → x ≠ b → g x = f x
theorem Exch.turn {a b : Int} (e : Exch n f g a b) : Exch n g f a b := ⟨e.bg, e.bf, e.ha, e.hb, e.ne, e.gb.symm, e.ga.symm, fun x hx h1 h2 => (e.gx x hx h1 h2).symm⟩
/-- away from both rounds nothing changes -/
theorem Exch.away {a b x : Int} (e : Exch n f g a b) (hx : x ∈ rg n) (h1 : x ∉ cyc n f a) (h2 : x ∉ cyc n f b) : cyc n g x = cyc n f x := by
  have key : ∀ j, it g j x = it f j x := by
    intro j
    induction j with
    | zero => rfl
    | succ j ih =>
      show g (it g j x) = f (it f j x)
      rw [ih]
      refine e.gx _ (e.bf.it_in hx j) (fun z => h1 ?_) (fun z => h2 ?_)
      · have := e.bf.cyc_it hx j
        rw [z] at this
        exact e.bf.cyc_symm hx this
      · have := e.bf.cyc_it hx j
        rw [z] at this
        exact e.bf.cyc_symm hx this
  unfold cyc per
  have : (fun j => decide (it g (j + 1) x = x)) = fun j => decide (it f (j + 1) x = x) := by
    funext j
    rw [key]
  rw [this]
  apply List.map_congr_left
  intro j _
  exact key j
theorem Exch.merge {a b : Int} (e : Exch n f g a b) (hab : b ∉ cyc n f a) : cN n f = cN n g + 1 := by
  have hba : a ∉ cyc n f b := fun h => hab (e.bf.cyc_symm e.hb h)
  obtain ⟨p1, p2, p3, p4⟩ := e.bf.per_spec e.hb
  obtain ⟨q1, q2, q3, q4⟩ := e.bf.per_spec e.ha
  -- from a by g: through the round of b
  have w1 : ∀ j, 1 ≤ j → j ≤ per n f b → it g j a = it f j b := by
    intro j
    induction j with
    | zero => intro h; omega
    | succ j ih =>
      intro _ hj
      by_cases c : j = 0
      · subst c
        exact e.ga
      · show g (it g j a) = f (it f j b)
        rw [ih (by omega) (by omega)]
        refine e.gx _ (e.bf.it_in e.hb j) (fun z => hba ?_) (p4 j (by omega) (by omega))
        have := e.bf.cyc_it e.hb j
        rw [z] at this
        exact this
  have wb : it g (per n f b) a = b := by rw [w1 _ p1 (Nat.le_refl _), p3]
  have w2 : ∀ j, 1 ≤ j → j ≤ per n f a → it g (per n f b + j) a = it f j a := by
    intro j
    induction j with
    | zero => intro h; omega
    | succ j ih =>
      intro _ hj
      by_cases c : j = 0
      · subst c
        show g (it g (per n f b) a) = f a
        rw [wb]
        exact e.gb
      · show g (it g (per n f b + j) a) = f (it f j a)
        rw [ih (by omega) (by omega)]
        refine e.gx _ (e.bf.it_in e.ha j) (q4 j (by omega) (by omega)) (fun z => hab ?_)
        have := e.bf.cyc_it e.ha j
        rw [z] at this
        exact this
  have inB : ∀ x ∈ cyc n f b, x ∈ cyc n g a := by
    intro x hx
    obtain ⟨j, hj, rfl⟩ := List.mem_map.mp hx
    have hj2 := List.mem_range.mp hj
    by_cases c : j = 0
    · subst c
      show b ∈ _
      have := e.bg.cyc_it e.ha (per n f b)
      rw [wb] at this
      exact this
    · have := e.bg.cyc_it e.ha j
      rw [w1 j (by omega) (by omega)] at this
      exact this
  have inA : ∀ x ∈ cyc n f a, x ∈ cyc n g a := by
    intro x hx
    obtain ⟨j, hj, rfl⟩ := List.mem_map.mp hx
    have hj2 := List.mem_range.mp hj
    by_cases c : j = 0
    · subst c
      exact e.bg.cyc_self e.ha
    · have := e.bg.cyc_it e.ha (per n f b + j)
      rw [w2 j (by omega) (by omega)] at this
      exact this
  have out : ∀ x ∈ cyc n g a, x ∈ cyc n f a ∨ x ∈ cyc n f b := by
    intro x hx
    by_cases c1 : x ∈ cyc n f a
    · exact .inl c1
    · by_cases c2 : x ∈ cyc n f b
      · exact .inr c2
      · exfalso
        have hxr := e.bg.cyc_in e.ha hx
        have h3 := e.bg.cyc_symm e.ha hx
        rw [e.away hxr c1 c2] at h3
        exact c1 (e.bf.cyc_symm hxr h3)
  have mA := e.bf.mn_spec e.ha
  have mB := e.bf.mn_spec e.hb
  have mG := e.bg.mn_spec e.ha
  have R : ∀ h : Int → Int, (sumN (rg n) fun t => ind (decide (mn n h t = t))) = sumN (rg n) fun t => ind (decide (mn n h t = t)) := fun _ => rfl
  have ef : cN n f = (sumN (rg n) fun t => ind (decide (mn n f t = t) && (!decide (t ∈ cyc n f a) && !decide (t ∈ cyc n f b)))) + sumN (rg n) (fun t => ind (decide (t = mn n f a))) + sumN (rg n) (fun t => ind (decide (t = mn n f b))) := by
    unfold cN
    rw [← sumN_add, ← sumN_add]
    apply sumN_congr
    intro t ht
    by_cases c1 : t ∈ cyc n f a
    · have c2 : t ∉ cyc n f b := fun z => hab (e.bf.cyc_trans e.ha c1 (e.bf.cyc_symm e.hb z))
      have em := e.bf.mn_same e.ha c1
      have nb : ¬ t = mn n f b := fun z => c2 (by rw [z]; exact mB.1)
      rw [em, decide_eq_true c1, decide_eq_false nb]
      by_cases d : mn n f a = t
      · rw [decide_eq_true d, decide_eq_true d.symm]
        rfl
      · rw [decide_eq_false d, decide_eq_false (show ¬ t = mn n f a from fun z => d z.symm)]
        rfl
    · have na : ¬ t = mn n f a := fun z => c1 (by rw [z]; exact mA.1)
      by_cases c2 : t ∈ cyc n f b
      · have em := e.bf.mn_same e.hb c2
        rw [em, decide_eq_true c2, decide_eq_false na, decide_eq_false c1]
        by_cases d : mn n f b = t
        · rw [decide_eq_true d, decide_eq_true d.symm]
          rfl
        · rw [decide_eq_false d, decide_eq_false (show ¬ t = mn n f b from fun z => d z.symm)]
          rfl
      · have nb : ¬ t = mn n f b := fun z => c2 (by rw [z]; exact mB.1)
        rw [decide_eq_false na, decide_eq_false nb, decide_eq_false c1, decide_eq_false c2]
        show ind _ = ind (_ && true) + 0 + 0
        rw [Bool.and_true]
        rfl
  have eg : cN n g = (sumN (rg n) fun t => ind (decide (mn n f t = t) && (!decide (t ∈ cyc n f a) && !decide (t ∈ cyc n f b)))) + sumN (rg n) (fun t => ind (decide (t = mn n g a))) := by
    unfold cN
    rw [← sumN_add]
    apply sumN_congr
    intro t ht
    by_cases c : t ∈ cyc n g a
    · have em := e.bg.mn_same e.ha c
      have z : (!decide (t ∈ cyc n f a) && !decide (t ∈ cyc n f b)) = false := by
        rcases out t c with h | h
        · rw [decide_eq_true h]; rfl
        · rw [decide_eq_true h]; simp
      rw [em, z, Bool.and_false]
      by_cases d : mn n g a = t
      · rw [decide_eq_true d, decide_eq_true d.symm]
        rfl
      · rw [decide_eq_false d, decide_eq_false (show ¬ t = mn n g a from fun z => d z.symm)]
        rfl
    · have c1 : t ∉ cyc n f a := fun z => c (inA t z)
      have c2 : t ∉ cyc n f b := fun z => c (inB t z)
      have na : ¬ t = mn n g a := fun z => c (by rw [z]; exact mG.1)
      have em : mn n g t = mn n f t := by
        unfold mn
        rw [e.away ht c1 c2]
      rw [em, decide_eq_false c1, decide_eq_false c2, decide_eq_false na]
      show ind _ = ind (_ && true) + 0
      rw [Bool.and_true]
      rfl
  rw [ef, eg, ind_one (e.bf.mn_in e.ha), ind_one (e.bf.mn_in e.hb), ind_one (e.bg.mn_in e.ha)]
theorem Exch.split {a b : Int} (e : Exch n f g a b) (hab : b ∈ cyc n f a) : b ∉ cyc n g a := by
  intro hg
  obtain ⟨q1, q2, q3, q4⟩ := e.bf.per_spec e.ha
  obtain ⟨g1, g2, g3, g4⟩ := e.bg.per_spec e.ha
  obtain ⟨k, hk, ek⟩ := List.mem_map.mp hab
  have hk2 := List.mem_range.mp hk
  have hk0 : k ≠ 0 := fun z => by
    subst z
    exact e.ne ek
  have nd := e.bf.cyc_nodup e.ha
  have w : ∀ j, 1 ≤ j → j ≤ per n f a - k → it g j a = it f (k + j) a := by
    intro j
    induction j with
    | zero => intro h; omega
    | succ j ih =>
      intro _ hj
      by_cases c : j = 0
      · subst c
        show g a = f (it f k a)
        rw [ek]
        exact e.ga
      · show g (it g j a) = f (it f (k + j) a)
        rw [ih (by omega) (by omega)]
        refine e.gx _ (e.bf.it_in e.ha _) (q4 (k + j) (by omega) (by omega)) (fun z => ?_)
        rw [← ek] at z
        have := nd_ix nd (cyc_at (n := n) (f := f) (t := a) (j := k + j) (by omega)) (by rw [cyc_at (by omega), z])
        omega
  have back : it g (per n f a - k) a = a := by
    rw [w _ (by omega) (Nat.le_refl _), show k + (per n f a - k) = per n f a by omega, q3]
  have hper : per n g a ≤ per n f a - k := by
    by_cases c : per n f a - k < per n g a
    · exact absurd back (g4 _ (by omega) c)
    · omega
  obtain ⟨j, hj, ej⟩ := List.mem_map.mp hg
  have hj2 := List.mem_range.mp hj
  by_cases c : j = 0
  · subst c
    exact e.ne ej
  · rw [w j (by omega) (by omega), ← ek] at ej
    have := nd_ix nd (cyc_at (n := n) (f := f) (t := a) (j := k + j) (by omega)) (by rw [cyc_at (by omega), ej])
    omega
theorem Exch.rounds {a b : Int} (e : Exch n f g a b) : cN n f = cN n g + 1 ∨ cN n g = cN n f + 1 := by
  by_cases c : b ∈ cyc n f a
  · exact .inr (e.turn.merge (e.split c))
  · exact .inl (e.merge c)
end
/-! ### an exchange of two things -/
theorem fol_exch {n : Nat} {xs ys : List Int} (ox : IsOrd n xs) (oy : IsOrd n ys) {p q : Nat} {a b : Int} (hpq : p ≠ q) (ha : ys[p]? = some a) (hb : ys[q]? = some b) : Exch n (fol xs ys) (fol xs ((ys.set p b).set q a)) a b := by
  have oz : IsOrd n ((ys.set p b).set q a) := (set2_perm ha hb).trans oy
  have hp := (List.getElem?_eq_some_iff.mp ha).1
  have hq := (List.getElem?_eq_some_iff.mp hb).1
  have hab := oy.mem (List.mem_of_getElem? ha)
  have hbb := oy.mem (List.mem_of_getElem? hb)
  have pa : pos ((ys.set p b).set q a) a = (q : Int) := pos_of oz (by rw [List.getElem?_set_self (by rw [List.length_set]; exact hq)])
  have pb : pos ((ys.set p b).set q a) b = (p : Int) := pos_of oz (by rw [List.getElem?_set_ne (fun z => hpq z.symm), List.getElem?_set_self hp])
  refine ⟨fol_bij ox oy, fol_bij ox oz, rg_mem.mpr hab, rg_mem.mpr hbb, fun z => ?_, ?_, ?_, fun x hx h1 h2 => ?_⟩
  · rw [z] at ha
    exact hpq (nd_ix oy.nodup ha hb)
  · unfold fol
    rw [pa, pos_of oy hb]
  · unfold fol
    rw [pb, pos_of oy ha]
  · have hxb := rg_mem.mp hx
    obtain ⟨j, hj, ej, pj⟩ := pos_at oy hxb.1 hxb.2
    have n1 : p ≠ j := fun z => h1 (by rw [← z] at ej; exact Option.some.inj (ej.symm.trans ha))
    have n2 : q ≠ j := fun z => h2 (by rw [← z] at ej; exact Option.some.inj (ej.symm.trans hb))
    unfold fol
    rw [pj, pos_of oz (j := j) (by rw [List.getElem?_set_ne n2, List.getElem?_set_ne n1]; exact ej)]
theorem steps_exch {n : Nat} {xs ys : List Int} (ox : IsOrd n xs) (oy : IsOrd n ys) {p q : Nat} {a b : Int} (hpq : p ≠ q) (ha : ys[p]? = some a) (hb : ys[q]? = some b) : absI (stepsI n (fol xs ((ys.set p b).set q a)) - stepsI n (fol xs ys)) = 1 := by
  have e := fol_exch ox oy hpq ha hb
  have h := e.rounds
  rw [e.bf.steps_c, e.bg.steps_c]
  unfold absI
  split <;> omega
theorem fol_inv {n : Nat} {xs ys : List Int} (ox : IsOrd n xs) (oy : IsOrd n ys) : Inv2 n (fol xs ys) (fol ys xs) := ⟨fol_bij ox oy, fol_bij oy ox, fol_turn ox oy⟩
theorem steps_turn {n : Nat} {xs ys : List Int} (ox : IsOrd n xs) (oy : IsOrd n ys) : stepsI n (fol ys xs) = stepsI n (fol xs ys) := by
  unfold stepsI
  rw [(fol_inv ox oy).rounds_eq, List.map_map]
  congr 1
  apply List.map_congr_left
  intro r _
  show ((flip1 r).length : Int) - 1 = (r.length : Int) - 1
  rw [(flip1_perm r).length_eq]
theorem steps_swap {n : Nat} {ys : List Int} (oy : IsOrd n ys) (hn : 1 ≤ n) : ∀ (m : Nat) (xs : List Int), IsOrd n xs → invR (seatsL xs ys) = m → stepsI n (fol ys xs) ≤ (m : Int)
  | 0, xs, ox, h => by
    have := seats_same ox oy hn h
    subst this
    unfold stepsI
    rw [rounds_self ox hn]
    exact Int.le_refl _
  | m + 1, xs, ox, h => by
    obtain ⟨p, hp, _, _, hi, o⟩ := walk_step ox h
    have ih := steps_swap oy hn m _ o hi
    obtain ⟨x, hx, _⟩ := ord_ix ox (j := p) (by omega)
    obtain ⟨y, hy, _⟩ := ord_ix ox (j := p + 1) (by omega)
    have es : sw xs p = (xs.set p y).set (p + 1) x := by
      unfold sw
      rw [List.getD_eq_getElem?_getD, List.getD_eq_getElem?_getD, hx, hy]
      rfl
    have h1 := steps_exch oy ox (show p ≠ p + 1 by omega) hx hy
    rw [← es] at h1
    unfold absI at h1
    split at h1 <;> omega
theorem steps_spot {n : Nat} {xs ys : List Int} (ox : IsOrd n xs) (oy : IsOrd n ys) : farSpot xs ys - ((roundsL n (fol xs ys)).length : Int) = stepsI n (fol xs ys) := by
  have b := fol_bij ox oy
  have h1 := b.told_len
  have h2 : stepsI n (fol xs ys) = ((roundsL n (fol xs ys)).map fun r => (r.length : Int)).sum - ((roundsL n (fol xs ys)).length : Int) := by
    unfold stepsI
    exact steps_sum _
  have h3 : (sumN (rg n) fun u => ind (!decide (fol xs ys u = u))) = spT n xs ys := by
    unfold spT
    apply sumN_congr
    intro t ht
    congr 2
    by_cases c : pos xs t = pos ys t
    · rw [decide_eq_true c]
      apply decide_eq_true
      unfold fol
      rw [← c, g0_pos ox ht]
    · rw [decide_eq_false c]
      apply decide_eq_false
      intro z
      unfold fol at z
      have := pos_g0 ox (pos_in oy ht)
      rw [z] at this
      exact c this
  rw [h3] at h1
  rw [spot_T ox oy, h2, h1]
end Fo
namespace Fo
open PySem PySem.Spec PyProof.Rows L2
def spA : Sp := fun vs H Q _ => ∃ (D : Dk) (o p : Addr) (n : Nat) (xs ys : List Int), vs = [.ref D.d, .ref o, .ref p] ∧ DkAt H D ∧ H o = some (.lst (xs.map V.int)) ∧ H p = some (.lst (ys.map V.int)) ∧ ¬ D.Foot o ∧ ¬ D.Foot p ∧ IsOrd n xs ∧ IsOrd n ys ∧ 1 ≤ n ∧ n ≤ 12 ∧ ∀ H', DkAt H' D → Keep D H H' → Q (.bl true) H'
abbrev spB : Sp := spA
def spLaw (K : PySem.W.Frag) : Sp := fun vs H Q _ => ∃ (a : Addr) (ns : List Int), vs = [.ref a] ∧ SqL K H a (ns.map V.int) ∧ ns.length ≤ 63 ∧ ∀ H', Q (.bl true) H'
theorem walk_small2 {n : Nat} {xs ys : List Int} (ox : IsOrd n xs) (hn : n ≤ 12) : (walkL (seatsL xs ys)).length ≤ 144 := by
  rw [walk_len _ _ rfl]
  have := invR_len (seatsL xs ys)
  rw [seats_len, ox.len] at this
  have h2 : n * n ≤ 12 * 12 := Nat.mul_le_mul hn hn
  omega
/-- each list sorted -/
def Srt (rs ss : List (List Int)) : Prop := ss.length = rs.length ∧ ∀ (j : Nat) (r s : List Int), rs[j]? = some r → ss[j]? = some s → s.Perm r ∧ s.Pairwise (· ≤ ·)
theorem srt_eq {rs ss tt : List (List Int)} (h1 : Srt rs ss) (h2 : Srt (rs.map flip1) tt) : ss = tt := by
  apply List.ext_getElem?
  intro j
  by_cases c : j < rs.length
  · have er : rs[j]? = some rs[j] := List.getElem?_eq_getElem c
    have ef : (rs.map flip1)[j]? = some (flip1 rs[j]) := by rw [List.getElem?_map, er]; rfl
    have hs : j < ss.length := by rw [h1.1]; exact c
    have ht : j < tt.length := by rw [h2.1, List.length_map]; exact c
    have es : ss[j]? = some ss[j] := List.getElem?_eq_getElem hs
    have et : tt[j]? = some tt[j] := List.getElem?_eq_getElem ht
    obtain ⟨p1, q1⟩ := h1.2 j _ _ er es
    obtain ⟨p2, q2⟩ := h2.2 j _ _ ef et
    rw [es, et, sorted_eq (p1.trans ((flip1_perm _).symm.trans p2.symm)) q1 q2]
  · rw [List.getElem?_eq_none (by rw [h1.1]; omega), List.getElem?_eq_none (by rw [h2.1, List.length_map]; omega)]
section
variable {P : Program} {w : World} {K : PySem.W.Frag} {mg : Str → Option Value} {base : Heap}
theorem scA : FnScope ["deck", "one", "other", "walk", "at", "amid"] ["deck", "one", "other"] (defScope s_law_walk_right) := ⟨rfl, rfl, rfl, by decide +kernel, rfl, by decide +kernel, by decide +kernel⟩
set_option maxHeartbeats 4000000 in
theorem ok_a {f f1 f2 f3 f4 f5 : Addr} {fd d1 d2 d3 d4 d5 : FuncData} {k : Nat} (T : Df K mg "_law_walk_right" s_law_walk_right ["deck", "one", "other"] f fd) (T_short_walk : Df K mg "short_walk" s_short_walk ["one", "other"] f1 d1) (T_walk_end : Df K mg "walk_end" s_walk_end ["order", "walk"] f2 d2) (T_how_far : Df K mg "how_far" s_how_far ["way", "one", "other"] f3 d3) (T__law_draw : Df K mg "_law_draw" s_law_draw ["deck", "many"] f4 d4) (T_is_order : Df K mg "is_order" s_is_order ["thing"] f5 d5)
    (G_short_walk : FnOk P w K mg base CX0 k f1 d1 ["one", "other"] spShort) (G_walk_end : FnOk P w K mg base CX0 k f2 d2 ["order", "walk"] spWalkEnd) (G_how_far : FnOk P w K mg base CX0 k f3 d3 ["way", "one", "other"] spFar) (G__law_draw : FnOk P w K mg base CX0 k f4 d4 ["deck", "many"] spDraw) (G_is_order : FnOk P w K mg base CX0 k f5 d5 ["thing"] spIsOrd) (B : Bi mg) : FnOk P w K mg base CX0 (k + 1) f fd ["deck", "one", "other"] spA := by
  refine T.F.ok scA (fun vs H Q E h => ?_) (fun cdv A outer s H vs Q E hr h => ?_)
  · obtain ⟨D, o, p, n, xs, ys, rfl, _⟩ := h
    rfl
  · obtain ⟨D, o, p, n, xs, ys, rfl, hD, ho, hp, nfo, nfp, ox, oy, hn1, hn2, q⟩ := h
    refine ⟨_, 
      (pss_cons (ps_set (i := 3) scA.nd rfl (.inl rfl) (pe_call G_short_walk hr (by rfl) T_short_walk.g T_short_walk.F.kp T_short_walk.b .nil pass0 (pa_cons (pv 1) (pa_cons (pv 2) pa_nil))))
      (pss_cons (ps_if (PW.pt (pw_or (pt_cmpR (op_neD hr.units) (pe_call G_walk_end hr (by rfl) T_walk_end.g T_walk_end.F.kp T_walk_end.b .nil pass0 (pa_cons (pv 1) (pa_cons (pv 3) pa_nil))) (pv 2) (nomark _)) (pw_or (pt_cmpR (op_neD hr.units) (pe_call G_walk_end hr (by rfl) T_walk_end.g T_walk_end.F.kp T_walk_end.b .nil pass0 (pa_cons (pv 2) (pa_cons (pe_revL (pv 3)) pa_nil))) (pv 1) (nomark _)) (pw_or1 (pt_cmpR op_ne (pe_callB call_len_seq (by rfl) B.len PySem.boot_len (pa_cons (pv 3) pa_nil)) (pe_call G_how_far hr (by rfl) T_how_far.g T_how_far.F.kp T_how_far.b .nil pass0 (pa_cons pe_str (pa_cons (pv 1) (pa_cons (pv 2) pa_nil)))) (nomark _))))))
        (pss_one (ps_ret pe_bl))
        pss_nil)
      (pss_cons (ps_set (i := 4) scA.nd rfl (.inl rfl) (pe_call G__law_draw hr (by rfl) T__law_draw.g T__law_draw.F.kp T__law_draw.b .nil pass0 (pa_cons (pv 0) (pa_cons (pe_op op_add (pe_callB call_len_seq (by rfl) B.len PySem.boot_len (pa_cons (pv 3) pa_nil)) pe_int) pa_nil))))
      (pss_cons (ps_set (i := 5) scA.nd rfl (.inl rfl) (pe_call G_walk_end hr (by rfl) T_walk_end.g T_walk_end.F.kp T_walk_end.b .nil pass0 (pa_cons (pv 1) (pa_cons (pe_slice sl_list (pv 3) po_none (po_some (pv 4))) pa_nil))))
      (pss_cons (ps_if (PW.pt (pw_or (pt_not (pt_val (pe_call G_is_order hr (by rfl) T_is_order.g T_is_order.F.kp T_is_order.b .nil pass0 (pa_cons (pv 5) pa_nil)))) (pw_or (pt_cmpR (op_neD hr.units) (pe_call G_short_walk hr (by rfl) T_short_walk.g T_short_walk.F.kp T_short_walk.b .nil pass0 (pa_cons (pv 1) (pa_cons (pv 5) pa_nil))) (pe_slice sl_list (pv 3) po_none (po_some (pv 4))) (nomark _)) (pw_or1 (pt_cmpR (op_neD hr.units) (pe_call G_short_walk hr (by rfl) T_short_walk.g T_short_walk.F.kp T_short_walk.b .nil pass0 (pa_cons (pv 5) (pa_cons (pv 2) pa_nil))) (pe_slice sl_list (pv 3) (po_some (pv 4)) po_none) (nomark _))))))
        (pss_one (ps_ret pe_bl))
        pss_nil)
      (pss_one (ps_ret (pe_and (pe_cmpR op_eq (pe_call G_how_far hr (by rfl) T_how_far.g T_how_far.F.kp T_how_far.b .nil pass0 (pa_cons pe_str (pa_cons (pv 1) (pa_cons (pv 5) pa_nil)))) (pv 4) (nomark _)) (pe_one (pe_cmpR op_eq (pe_call G_how_far hr (by rfl) T_how_far.g T_how_far.F.kp T_how_far.b .nil pass0 (pa_cons pe_str (pa_cons (pv 5) (pa_cons (pv 2) pa_nil)))) (pe_op op_sub (pe_callB call_len_seq (by rfl) B.len PySem.boot_len (pa_cons (pv 3) pa_nil)) (pv 4)) (nomark _))))))))))), ?_⟩
    have hWs := walk_small2 (ys := ys) ox hn2
    have hW := walk_is (ys := ys) _ xs ox rfl
    have hwl := walk_len _ (seatsL xs ys) rfl
    -- walk
    refine ⟨_, rfl, _, rfl, o, p, n, xs, ys, ⟨rfl, ho, hp, ox, oy, hn1, hn2⟩, fun l H1 nl hl s1 => ?_⟩
    have nfl := hD.notFoot nl
    -- walk_end(one, walk) != other
    refine ⟨_, rfl, _, rfl, o, l, n, xs, _, rfl, s1 _ _ ho, hl, ox, hn1, hn2, hW, by omega, fun H2 l2 s2 n2 h2 => ?_⟩
    rw [walk_to oy hn1 _ xs ox rfl] at h2
    have t2 := s1.trans s2
    refine ⟨_, rfl, dL ys, dL ys, dp_list h2, dp_list (t2 _ _ hp), shaped_list _, shaped_list _, _, rfl, ?_⟩
    rw [eqv_list]
    refine iteF ?_
    -- walk_end(other, walk[::-1]) != one
    refine ⟨_, rfl, _, rfl, l, _, rfl, SqL.of (s2 _ _ hl), fun l3 n3 => ?_⟩
    have s3 := same_new (o := .lst ((walkL (seatsL xs ys)).map V.int).reverse) n3
    have t3 := t2.trans s3
    have hWr : IsWalk n (walkL (seatsL xs ys)).reverse := fun z hz => hW z (List.mem_reverse.mp hz)
    refine ⟨p, l3, n, ys, (walkL (seatsL xs ys)).reverse, rfl, t3 _ _ hp, by rw [upd_same, List.map_reverse], oy, hn1, hn2, hWr, by rw [List.length_reverse]; omega, fun H4 l4 s4 n4 h4 => ?_⟩
    have ebk : wEnd ys (walkL (seatsL xs ys)).reverse = xs := by
      have := walk_back _ xs ox hW
      rw [walk_to oy hn1 _ xs ox rfl] at this
      exact this
    rw [ebk] at h4
    have t4 := t3.trans s4
    refine ⟨_, rfl, dL xs, dL xs, dp_list h4, dp_list (t4 _ _ ho), shaped_list _, shaped_list _, _, rfl, ?_⟩
    rw [eqv_list]
    refine iteF ?_
    have hl4 := s4 _ _ (s3 _ _ (s2 _ _ hl))
    -- len(walk) != how_far
    refine ⟨_, rfl, l, _, rfl, .inl (SqL.of hl4), _, rfl, _, rfl, "swap", o, p, n, xs, ys, rfl, .inl rfl, t4 _ _ ho, t4 _ _ hp, ox, oy, hn1, hn2, fun H5 s5 => ?_⟩
    have t5 := t4.trans s5
    have efar : farW "swap" xs ys = ((((walkL (seatsL xs ys)).map V.int).length : Nat) : Int) := by
      rw [farW_swap, List.length_map, hwl]
      unfold farSwap
      rw [inv_NR]
    refine ⟨rfl, _, rfl, ?_⟩
    rw [efar]
    refine iteNS rfl ?_
    have hl5 := s5 _ _ hl4
    -- at
    refine ⟨_, rfl, _, rfl, l, _, rfl, .inl (SqL.of hl5), _, 1, rfl, rfl, D, _, rfl, hD.same t5, by omega, by rw [List.length_map]; omega, fun at' H6 a0 a1 D6 k6 => ?_⟩
    rw [List.length_map, hwl] at a1
    have hl6 := k6 l _ hl5 nfl
    have ho6 := k6 o _ (t5 _ _ ho) nfo
    have hp6 := k6 p _ (t5 _ _ hp) nfp
    have kk : Keep D H H6 := (Keep.of_same t5).trans k6
    obtain ⟨c, rfl⟩ : ∃ c : Nat, at' = (c : Int) := ⟨at'.toNat, by omega⟩
    have hc : c ≤ invR (seatsL xs ys) := by omega
    -- amid
    refine ⟨_, rfl, _, rfl, _, rfl, _, rfl, l, _, rfl, SqL.of hl6, fun l7 n7 => ?_⟩
    have s7 := same_new (o := .lst (cutV ((walkL (seatsL xs ys)).map V.int) none (some (c : Int)))) n7
    have ecut : cutV ((walkL (seatsL xs ys)).map V.int) none (some (c : Int)) = ((walkL (seatsL xs ys)).take c).map V.int := by rw [cut_ints, cutI_head]
    have hWc : IsWalk n ((walkL (seatsL xs ys)).take c) := fun z hz => hW z (List.mem_of_mem_take hz)
    have oA := wEnd_ord ox hWc
    refine ⟨o, l7, n, xs, (walkL (seatsL xs ys)).take c, rfl, s7 _ _ ho6, by rw [upd_same, ecut], ox, hn1, hn2, hWc, by rw [List.length_take]; omega, fun H8 l8 s8 n8 h8 => ?_⟩
    have t8 := s7.trans s8
    have hrest := walk_rest (ys := ys) _ c xs ox rfl hc
    have hbeg := walk_begin oy _ c xs ox rfl hc
    -- is_order(amid)
    refine ⟨_, rfl, l8, n, _, rfl, h8, oA, hn1, hn2, fun H9 s9 => ⟨_, rfl, iteF ?_⟩⟩
    have t9 := t8.trans s9
    have h89 := s9 _ _ h8
    -- short_walk(one, amid) != walk[:at]
    refine ⟨_, rfl, _, rfl, o, l8, n, xs, _, ⟨rfl, t9 _ _ ho6, h89, ox, oA, hn1, hn2⟩, fun l10 H10 n10 h10 s10 => ?_⟩
    have t10 := t9.trans s10
    rw [hbeg] at h10
    refine ⟨_, rfl, _, rfl, _, rfl, l, _, rfl, SqL.of (t10 _ _ hl6), fun l11 n11 => ?_⟩
    have s11 := same_new (o := .lst (cutV ((walkL (seatsL xs ys)).map V.int) none (some (c : Int)))) n11
    have t11 := t10.trans s11
    refine ⟨dL ((walkL (seatsL xs ys)).take c), dL ((walkL (seatsL xs ys)).take c), dp_list (s11 _ _ h10), dp_list (by rw [upd_same, ecut]), shaped_list _, shaped_list _, _, rfl, ?_⟩
    rw [eqv_list]
    refine iteF ?_
    have h811 := s11 _ _ (s10 _ _ h89)
    -- short_walk(amid, other) != walk[at:]
    refine ⟨_, rfl, _, rfl, l8, p, n, _, ys, ⟨rfl, h811, t11 _ _ hp6, oA, oy, hn1, hn2⟩, fun l12 H12 n12 h12 s12 => ?_⟩
    have t12 := t11.trans s12
    rw [hrest.1] at h12
    refine ⟨_, rfl, _, rfl, _, rfl, l, _, rfl, SqL.of (t12 _ _ hl6), fun l13 n13 => ?_⟩
    have s13 := same_new (o := .lst (cutV ((walkL (seatsL xs ys)).map V.int) (some (c : Int)) none)) n13
    have t13 := t12.trans s13
    refine ⟨dL ((walkL (seatsL xs ys)).drop c), dL ((walkL (seatsL xs ys)).drop c), dp_list (s13 _ _ h12), dp_list (by rw [upd_same, cut_ints, cutI_tail]), shaped_list _, shaped_list _, _, rfl, ?_⟩
    rw [eqv_list]
    refine iteF ?_
    have h813 := s13 _ _ (s12 _ _ h811)
    -- how far the parts are
    refine ⟨_, rfl, _, rfl, "swap", o, l8, n, xs, _, rfl, .inl rfl, t13 _ _ ho6, h813, ox, oA, hn1, hn2, fun H14 s14 => ?_⟩
    have t14 := t13.trans s14
    have e14 : farW "swap" xs (wEnd xs ((walkL (seatsL xs ys)).take c)) = (c : Int) := by
      rw [farW_swap]
      unfold farSwap
      rw [inv_NR, ← walk_len _ _ rfl, hbeg, List.length_take, hwl]
      omega
    rw [e14]
    refine ⟨_, rfl, rfl, _, rfl, ?_⟩
    rw [decide_eq_true rfl]
    refine iteT ?_
    have h814 := s14 _ _ h813
    refine ⟨_, rfl, _, rfl, "swap", l8, p, n, _, ys, rfl, .inl rfl, h814, t14 _ _ hp6, oA, oy, hn1, hn2, fun H15 s15 => ?_⟩
    have t15 := t14.trans s15
    have e15 : farW "swap" (wEnd xs ((walkL (seatsL xs ys)).take c)) ys = ((((walkL (seatsL xs ys)).map V.int).length : Nat) : Int) - (c : Int) := by
      rw [farW_swap, List.length_map, hwl]
      unfold farSwap
      rw [inv_NR, hrest.2]
      omega
    rw [e15]
    refine ⟨_, rfl, l, _, rfl, .inl (SqL.of (t15 _ _ hl6)), _, rfl, _, _, rfl, rfl, rfl, ?_⟩
    dsimp only
    rw [decide_eq_true rfl]
    exact q _ (D6.same t15) (kk.trans (Keep.of_same t15))
theorem scB : FnScope ["deck", "one", "other", "rounds", "back", "steps", "p", "q", "third", "row"] ["deck", "one", "other"] (defScope s_law_rounds_right) := ⟨rfl, rfl, rfl, by decide +kernel, rfl, by decide +kernel, by decide +kernel⟩
set_option maxHeartbeats 4000000 in
theorem ok_b {f f1 f2 f3 f4 : Addr} {fd d1 d2 d3 d4 : FuncData} {k : Nat} (T : Df K mg "_law_rounds_right" s_law_rounds_right ["deck", "one", "other"] f fd) (T_rounds_between : Df K mg "rounds_between" s_rounds_between ["one", "other"] f1 d1) (T_steps_between : Df K mg "steps_between" s_steps_between ["one", "other"] f2 d2) (T_how_far : Df K mg "how_far" s_how_far ["way", "one", "other"] f3 d3) (T__law_draw : Df K mg "_law_draw" s_law_draw ["deck", "many"] f4 d4)
    (G_rounds_between : FnOk P w K mg base CX0 k f1 d1 ["one", "other"] spRounds) (G_steps_between : FnOk P w K mg base CX0 k f2 d2 ["one", "other"] spSteps) (G_how_far : FnOk P w K mg base CX0 k f3 d3 ["way", "one", "other"] spFar) (G__law_draw : FnOk P w K mg base CX0 k f4 d4 ["deck", "many"] spDraw) (B : Bi mg) : FnOk P w K mg base CX0 (k + 1) f fd ["deck", "one", "other"] spB := by
  refine T.F.ok scB (fun vs H Q E h => ?_) (fun cdv A outer s H vs Q E hr h => ?_)
  · obtain ⟨D, o, p, n, xs, ys, rfl, _⟩ := h
    rfl
  · obtain ⟨D, o, p, n, xs, ys, rfl, hD, ho, hp, nfo, nfp, ox, oy, hn1, hn2, q⟩ := h
    refine ⟨_, 
      (pss_cons (ps_set (i := 3) scB.nd rfl (.inl rfl) (pe_call G_rounds_between hr (by rfl) T_rounds_between.g T_rounds_between.F.kp T_rounds_between.b .nil pass0 (pa_cons (pv 1) (pa_cons (pv 2) pa_nil))))
      (pss_cons (ps_set (i := 4) scB.nd rfl (.inl rfl) (pe_call G_rounds_between hr (by rfl) T_rounds_between.g T_rounds_between.F.kp T_rounds_between.b .nil pass0 (pa_cons (pv 2) (pa_cons (pv 1) pa_nil))))
      (pss_cons (ps_set (i := 5) scB.nd rfl (.inl rfl) (pe_call G_steps_between hr (by rfl) T_steps_between.g T_steps_between.F.kp T_steps_between.b .nil pass0 (pa_cons (pv 1) (pa_cons (pv 2) pa_nil))))
      (pss_cons (ps_if (PW.pt (pw_or (pt_cmpR (op_neD hr.units) (pe_lc (own := [("row", 9)]) (g := (gName 9)) (tt := tYes) (te := (tCB (rSorted K) (tCons (tVar 9) tNil))) rfl scB.nd (pi_list (pv 3)) (blkOk_by (N := ["deck", "one", "other", "rounds", "back", "steps", "p", "q", "third", "row"]) (sc := defScope s_law_rounds_right) (by decide +kernel)) (fun _ _ _ _ _ => (pg_name (i := 9) scB.nd rfl (.inl rfl))) (fun _ _ _ _ _ => pts_nil) (fun _ _ _ _ _ => (pe_callB cr_sorted (by rfl) B.sorted (by decide +kernel) (pa_cons (pv 9) pa_nil)))) (pe_lc (own := [("row", 9)]) (g := (gName 9)) (tt := tYes) (te := (tCB (rSorted K) (tCons (tVar 9) tNil))) rfl scB.nd (pi_list (pv 4)) (blkOk_by (N := ["deck", "one", "other", "rounds", "back", "steps", "p", "q", "third", "row"]) (sc := defScope s_law_rounds_right) (by decide +kernel)) (fun _ _ _ _ _ => (pg_name (i := 9) scB.nd rfl (.inl rfl))) (fun _ _ _ _ _ => pts_nil) (fun _ _ _ _ _ => (pe_callB cr_sorted (by rfl) B.sorted (by decide +kernel) (pa_cons (pv 9) pa_nil)))) (nomark _)) (pw_or1 (pt_cmpR op_ne (pe_call G_steps_between hr (by rfl) T_steps_between.g T_steps_between.F.kp T_steps_between.b .nil pass0 (pa_cons (pv 2) (pa_cons (pv 1) pa_nil))) (pv 5) (nomark _)))))
        (pss_one (ps_ret pe_bl))
        pss_nil)
      (pss_cons (ps_if (pt_cmpR (op_neD hr.units) (pe_lc (own := [("row", 9)]) (g := (gName 9)) (tt := tYes) (te := (tOp rCat (tSl (rSlL K) (tVar 9) tNoPart (tPart (tC (.int 1)))) (tRevL K (tSl (rSlL K) (tVar 9) (tPart (tC (.int 1))) tNoPart)))) rfl scB.nd (pi_list (pv 3)) (blkOk_by (N := ["deck", "one", "other", "rounds", "back", "steps", "p", "q", "third", "row"]) (sc := defScope s_law_rounds_right) (by decide +kernel)) (fun _ _ _ _ _ => (pg_name (i := 9) scB.nd rfl (.inl rfl))) (fun _ _ _ _ _ => pts_nil) (fun _ _ _ _ _ => (pe_op op_cat (pe_slice sl_list (pv 9) po_none (po_some pe_int)) (pe_revL (pe_slice sl_list (pv 9) (po_some pe_int) po_none))))) (pv 4) (nomark _))
        (pss_one (ps_ret pe_bl))
        pss_nil)
      (pss_cons (ps_if (PW.pt (pw_or (pt_cmpR op_ne (pe_op op_sub (pe_call G_how_far hr (by rfl) T_how_far.g T_how_far.F.kp T_how_far.b .nil pass0 (pa_cons pe_str (pa_cons (pv 1) (pa_cons (pv 2) pa_nil)))) (pe_callB call_len_seq (by rfl) B.len PySem.boot_len (pa_cons (pv 3) pa_nil))) (pv 5) (nomark _)) (pw_or1 (pt_cmpR op_gt (pv 5) (pe_call G_how_far hr (by rfl) T_how_far.g T_how_far.F.kp T_how_far.b .nil pass0 (pa_cons pe_str (pa_cons (pv 1) (pa_cons (pv 2) pa_nil)))) (nomark _)))))
        (pss_one (ps_ret pe_bl))
        pss_nil)
      (pss_cons (ps_set (i := 6) scB.nd rfl (.inl rfl) (pe_call G__law_draw hr (by rfl) T__law_draw.g T__law_draw.F.kp T__law_draw.b .nil pass0 (pa_cons (pv 0) (pa_cons (pe_callB call_len_seq (by rfl) B.len PySem.boot_len (pa_cons (pv 1) pa_nil)) pa_nil))))
      (pss_cons (ps_set (i := 7) scB.nd rfl (.inl rfl) (pe_call G__law_draw hr (by rfl) T__law_draw.g T__law_draw.F.kp T__law_draw.b .nil pass0 (pa_cons (pv 0) (pa_cons (pe_callB call_len_seq (by rfl) B.len PySem.boot_len (pa_cons (pv 1) pa_nil)) pa_nil))))
      (pss_cons (ps_set (i := 8) scB.nd rfl (.inl rfl) (pe_callTy call_list_of (by rfl) B.list (by decide +kernel) (pa_cons (pv 2) pa_nil)))
      (pss_cons (ps_asg (pe_tup (pa_cons (pe_ix ix_list (pv 8) (pv 7) (fun _ _ => rfl)) (pa_cons (pe_ix ix_list (pv 8) (pv 6) (fun _ _ => rfl)) pa_nil))) (pg_tup (by rfl) (pgs_cons (pg_sub (pv 8) (pv 6) set_list) (pgs_cons (pg_sub (pv 8) (pv 7) set_list) pgs_nil))))
      (pss_one (ps_ret (pe_cmpR op_eq (pe_callB call_abs (by rfl) B.abs (by decide +kernel) (pa_cons (pe_op op_sub (pe_call G_steps_between hr (by rfl) T_steps_between.g T_steps_between.F.kp T_steps_between.b .nil pass0 (pa_cons (pv 1) (pa_cons (pv 8) pa_nil))) (pv 5)) pa_nil)) (pe_callTy call_int1 (by rfl) B.int (by decide +kernel) (pa_cons (pe_cmpR op_ne (pv 6) (pv 7) (nomark _)) pa_nil)) (nomark _)))))))))))))), ?_⟩
    have bj := fol_bij ox oy
    have bj2 := fol_bij oy ox
    have eR := (fol_inv ox oy).rounds_eq
    have hRl := rounds_len (n := n) (f := fol xs ys)
    have hyl : (ys.map V.int).length = n := by rw [List.length_map, oy.len]
    have hxl : (xs.map V.int).length = n := by rw [List.length_map, ox.len]
    -- rounds, back, steps
    refine ⟨_, rfl, _, rfl, o, p, n, xs, ys, ⟨rfl, ho, hp, ox, oy, hn1, hn2⟩, fun r1 as1 H1 _ hr1 hL1 _ _ s1 => ?_⟩
    refine ⟨_, rfl, _, rfl, p, o, n, ys, xs, ⟨rfl, s1 _ _ hp, s1 _ _ ho, oy, ox, hn1, hn2⟩, fun r2 as2 H2 _ hr2 hL2 _ _ s2 => ?_⟩
    have t2 := s1.trans s2
    refine ⟨_, rfl, _, rfl, o, p, n, xs, ys, ⟨rfl, t2 _ _ ho, t2 _ _ hp, ox, oy, hn1, hn2⟩, fun H3 s3 => ?_⟩
    have t3 := t2.trans s3
    have hr13 := s3 _ _ (s2 _ _ hr1)
    have hL13 := (hL1.same s2).same s3
    have hr23 := s3 _ _ hr2
    have hL23 := hL2.same s3
    rw [eR] at hL23
    -- each list sorted
    have rlen : ∀ r ∈ roundsL n (fol xs ys), r.length ≤ n := rows_len bj
    have rlen2 : ∀ r ∈ (roundsL n (fol xs ys)).map flip1, r.length ≤ n := by
      rw [← eR]
      exact rows_len bj2
    have hl1 := hL13.len
    have hl2 := hL23.len
    rw [List.length_map] at hl2
    refine ⟨_, rfl, r1, rfl, ⟨_, SqL.of hr13⟩, fun c1 nc1 => ?_⟩
    refine lc_list (K := K) (a := r1) (xs := as1.map V.ref) (fun m H4 => ∃ (cs : List Addr) (ss : List (List Int)), H4 c1 = some (.lst (cs.map V.ref)) ∧ LL H4 cs ss ∧ (∀ c ∈ cs, c ≠ c1) ∧ ss.length = m ∧ (∀ (j : Nat) (r s : List Int), (roundsL n (fol xs ys))[j]? = some r → ss[j]? = some s → s.Perm r ∧ s.Pairwise (· ≤ ·)) ∧ Same H3 H4)
      ⟨[], [], upd_same, trivial, fun c hc => absurd hc List.not_mem_nil, rfl, fun j r s _ h => by simp at h, same_new nc1⟩ (fun m H4 _ hP => by obtain ⟨_, _, _, _, _, _, _, s4⟩ := hP; exact SqL.of (s4 _ _ hr13)) (fun m x H4 hx hP => ?_) (fun H4 hP => ?_)
    · obtain ⟨cs, ss, hc4, hLc, hne, el, hsrt, s4⟩ := hP
      obtain ⟨r, er, rfl⟩ := ref_at_inv hx
      obtain ⟨row, erow, hrow⟩ := hL13.get er
      have hm := (List.getElem?_eq_some_iff.mp er).1
      have hrl := rlen row (List.mem_of_getElem? erow)
      refine ⟨rfl, _, rfl, r, row, rfl, SqL.of (s4 _ _ hrow), by omega, fun ns' z hperm hsd nz => ?_⟩
      have sz := same_new (o := .lst (ns'.map V.int)) nz
      have nzc : z ≠ c1 := (ne_of_none hc4 nz).symm
      have hcl := hLc.len
      refine ⟨_, sz _ _ hc4, line_lt (by rw [List.length_map]; omega), cs ++ [z], ss ++ [ns'], by rw [upd_same, List.map_append]; rfl, ?_, fun c hc => ?_, by rw [List.length_append, el]; rfl, fun j r' s' hr' hs' => ?_, fun u ob e => ?_⟩
      · refine LL.snoc ((hLc.same sz).keep fun c hc ob e => by rw [upd_ne (hne c hc)]; exact e) ?_
        rw [upd_ne nzc]
        exact upd_same
      · rcases List.mem_append.mp hc with hc | hc
        · exact hne c hc
        · rw [List.mem_singleton.mp hc]
          exact nzc
      · by_cases d : j < ss.length
        · rw [List.getElem?_append_left d] at hs'
          exact hsrt j r' s' hr' hs'
        · have hj : j = m := by
            have := (List.getElem?_eq_some_iff.mp hs').1
            rw [List.length_append, List.length_singleton] at this
            omega
          subst hj
          rw [List.getElem?_append_right (by omega), el, Nat.sub_self] at hs'
          have e1 : ns' = s' := Option.some.inj hs'
          have e2 : row = r' := Option.some.inj (erow.symm.trans hr')
          subst e1 e2
          exact ⟨hperm, hsd⟩
      · rw [upd_ne (ne_of_none e nc1)]
        exact sz _ _ (s4 _ _ e)
    obtain ⟨cs, ss, hc4, hLc, _, el, hsrt, s4⟩ := hP
    rw [List.length_map, hl1] at el
    refine ⟨_, rfl, r2, rfl, ⟨_, SqL.of (s4 _ _ hr23)⟩, fun c2 nc2 => ?_⟩
    refine lc_list (K := K) (a := r2) (xs := as2.map V.ref) (fun m H5 => ∃ (cs : List Addr) (ss : List (List Int)), H5 c2 = some (.lst (cs.map V.ref)) ∧ LL H5 cs ss ∧ (∀ c ∈ cs, c ≠ c2) ∧ ss.length = m ∧ (∀ (j : Nat) (r s : List Int), ((roundsL n (fol xs ys)).map flip1)[j]? = some r → ss[j]? = some s → s.Perm r ∧ s.Pairwise (· ≤ ·)) ∧ Same H4 H5)
      ⟨[], [], upd_same, trivial, fun c hc => absurd hc List.not_mem_nil, rfl, fun j r s _ h => by simp at h, same_new nc2⟩ (fun m H5 _ hP => by obtain ⟨_, _, _, _, _, _, _, s5⟩ := hP; exact SqL.of (s5 _ _ (s4 _ _ hr23))) (fun m x H5 hx hP => ?_) (fun H5 hP => ?_)
    · obtain ⟨cs', ss', hc5, hLc5, hne, el', hsrt', s5⟩ := hP
      obtain ⟨r, er, rfl⟩ := ref_at_inv hx
      obtain ⟨row, erow, hrow⟩ := hL23.get er
      have hm := (List.getElem?_eq_some_iff.mp er).1
      have hrl := rlen2 row (List.mem_of_getElem? erow)
      refine ⟨rfl, _, rfl, r, row, rfl, SqL.of (s5 _ _ (s4 _ _ hrow)), by omega, fun ns' z hperm hsd nz => ?_⟩
      have sz := same_new (o := .lst (ns'.map V.int)) nz
      have nzc : z ≠ c2 := (ne_of_none hc5 nz).symm
      have hcl := hLc5.len
      refine ⟨_, sz _ _ hc5, line_lt (by rw [List.length_map]; omega), cs' ++ [z], ss' ++ [ns'], by rw [upd_same, List.map_append]; rfl, ?_, fun c hc => ?_, by rw [List.length_append, el']; rfl, fun j r' s' hr' hs' => ?_, fun u ob e => ?_⟩
      · refine LL.snoc ((hLc5.same sz).keep fun c hc ob e => by rw [upd_ne (hne c hc)]; exact e) ?_
        rw [upd_ne nzc]
        exact upd_same
      · rcases List.mem_append.mp hc with hc | hc
        · exact hne c hc
        · rw [List.mem_singleton.mp hc]
          exact nzc
      · by_cases d : j < ss'.length
        · rw [List.getElem?_append_left d] at hs'
          exact hsrt' j r' s' hr' hs'
        · have hj : j = m := by
            have := (List.getElem?_eq_some_iff.mp hs').1
            rw [List.length_append, List.length_singleton] at this
            omega
          subst hj
          rw [List.getElem?_append_right (by omega), el', Nat.sub_self] at hs'
          have e1 : ns' = s' := Option.some.inj hs'
          have e2 : row = r' := Option.some.inj (erow.symm.trans hr')
          subst e1 e2
          exact ⟨hperm, hsd⟩
      · rw [upd_ne (ne_of_none e nc2)]
        exact sz _ _ (s5 _ _ e)
    obtain ⟨cs', ss', hc5, hLc5, _, el', hsrt', s5⟩ := hP
    rw [List.length_map, hl2] at el'
    have ess : ss = ss' := srt_eq ⟨el, hsrt⟩ ⟨by rw [el', List.length_map], hsrt'⟩
    subst ess
    have t5 := (t3.trans s4).trans s5
    refine ⟨dLL ss, dLL ss, dp_lists (s5 _ _ hc4) (hLc.same s5), dp_lists hc5 hLc5, shaped_lists _, shaped_lists _, _, rfl, ?_⟩
    rw [eqv_lists]
    refine iteF ?_
    -- steps_between(other, one) != steps
    refine ⟨_, rfl, _, rfl, p, o, n, ys, xs, ⟨rfl, t5 _ _ hp, t5 _ _ ho, oy, ox, hn1, hn2⟩, fun H6 s6 => ?_⟩
    have t6 := t5.trans s6
    refine ⟨_, rfl, rfl, _, rfl, ?_⟩
    rw [steps_turn ox oy]
    refine iteNS rfl ?_
    have u6 := (s4.trans s5).trans s6
    -- the rounds the other way about
    refine ⟨_, rfl, r1, rfl, ⟨_, SqL.of (u6 _ _ hr13)⟩, fun c3 nc3 => ?_⟩
    refine lc_list (K := K) (a := r1) (xs := as1.map V.ref) (fun m H7 => ∃ (cs : List Addr), H7 c3 = some (.lst (cs.map V.ref)) ∧ LL H7 cs (((roundsL n (fol xs ys)).map flip1).take m) ∧ (∀ c ∈ cs, c ≠ c3) ∧ Same H6 H7)
      ⟨[], upd_same, trivial, fun c hc => absurd hc List.not_mem_nil, same_new nc3⟩ (fun m H7 _ hP => by obtain ⟨_, _, _, _, s7⟩ := hP; exact SqL.of (s7 _ _ (u6 _ _ hr13))) (fun m x H7 hx hP => ?_) (fun H7 hP => ?_)
    · obtain ⟨cs7, hc7, hL7, hne7, s7⟩ := hP
      obtain ⟨r, er, rfl⟩ := ref_at_inv hx
      obtain ⟨row, erow, hrow⟩ := hL13.get er
      have hm := (List.getElem?_eq_some_iff.mp er).1
      have hrl := rlen row (List.mem_of_getElem? erow)
      have hrow7 := s7 _ _ (u6 _ _ hrow)
      have ef : ((roundsL n (fol xs ys)).map flip1)[m]? = some (flip1 row) := by rw [List.getElem?_map, erow]; rfl
      refine ⟨rfl, _, rfl, 1, rfl, r, _, rfl, SqL.of hrow7, fun q1 nq1 => ?_⟩
      have v1 := same_new (o := .lst (cutV (row.map V.int) none (some 1))) nq1
      refine ⟨_, rfl, 1, rfl, r, _, rfl, SqL.of (v1 _ _ hrow7), fun q2 nq2 => ?_⟩
      have v2 := same_new (o := .lst (cutV (row.map V.int) (some 1) none)) nq2
      refine ⟨q2, _, rfl, SqL.of upd_same, fun q3 nq3 => ?_⟩
      have v3 := same_new (o := .lst (cutV (row.map V.int) (some 1) none).reverse) nq3
      have hq1 := v3 _ _ (v2 _ _ (upd_same (H := H7) (a := q1) (o := .lst (cutV (row.map V.int) none (some 1)))))
      have ec1 : cutV (row.map V.int) none (some 1) = (row.take 1).map V.int := by rw [cut_ints, show (some (1 : Int)) = some (((1 : Nat) : Int)) from rfl, cutI_head]
      have ec2 : cutV (row.map V.int) (some 1) none = (row.drop 1).map V.int := by rw [cut_ints, show (some (1 : Int)) = some (((1 : Nat) : Int)) from rfl, cutI_tail]
      refine ⟨q1, q3, _, _, rfl, rfl, hq1, upd_same, line_small (by rw [List.length_reverse, ec1, ec2, List.length_map, List.length_map, List.length_take, List.length_drop]; omega), fun q4 nq4 => ?_⟩
      have v4 := ((v1.trans v2).trans v3).trans (same_new (o := .lst (cutV (row.map V.int) none (some 1) ++ (cutV (row.map V.int) (some 1) none).reverse)) nq4)
      have hc74 := ((v1.trans v2).trans v3) _ _ hc7
      have nq4c : q4 ≠ c3 := (ne_of_none hc74 nq4).symm
      have hcl := hL7.len
      rw [List.length_take, List.length_map] at hcl
      refine ⟨_, v4 _ _ hc7, line_lt (by rw [List.length_map]; omega), cs7 ++ [q4], by rw [upd_same, List.map_append]; rfl, ?_, fun c hc => ?_, fun u ob e => ?_⟩
      · rw [List.take_add_one, ef]
        refine LL.snoc ((hL7.same v4).keep fun c hc ob e => by rw [upd_ne (hne7 c hc)]; exact e) ?_
        rw [upd_ne nq4c, upd_same, ec1, ec2]
        unfold flip1
        rw [List.map_append, List.map_reverse]
      · rcases List.mem_append.mp hc with hc | hc
        · exact hne7 c hc
        · rw [List.mem_singleton.mp hc]
          exact nq4c
      · rw [upd_ne (ne_of_none e nc3)]
        exact v4 _ _ (s7 _ _ e)
    obtain ⟨cs7, hc7, hL7, _, s7⟩ := hP
    rw [List.take_of_length_le (by rw [List.length_map, List.length_map, hl1]; exact Nat.le_refl _)] at hL7
    have u7 := u6.trans s7
    have t7 := t6.trans s7
    refine ⟨_, rfl, dLL ((roundsL n (fol xs ys)).map flip1), dLL ((roundsL n (fol xs ys)).map flip1), dp_lists hc7 hL7, dp_lists (u7 _ _ hr23) (hL23.same u7), shaped_lists _, shaped_lists _, _, rfl, ?_⟩
    rw [eqv_lists]
    refine iteF ?_
    -- by spot, and never more than by swap
    refine ⟨_, rfl, _, rfl, "spot", o, p, n, xs, ys, rfl, .inr (.inl rfl), t7 _ _ ho, t7 _ _ hp, ox, oy, hn1, hn2, fun H8 s8 => ?_⟩
    have t8 := t7.trans s8
    refine ⟨_, rfl, r1, _, rfl, .inl (SqL.of (s8 _ _ (u7 _ _ hr13))), _, _, rfl, rfl, _, rfl, rfl, _, rfl, ?_⟩
    refine iteNS (congrArg V.int ?_) ?_
    · rw [farW_spot, List.length_map, hl1]
      exact steps_spot ox oy
    refine ⟨_, rfl, _, rfl, _, rfl, "swap", o, p, n, xs, ys, rfl, .inl rfl, t8 _ _ ho, t8 _ _ hp, ox, oy, hn1, hn2, fun H9 s9 => ?_⟩
    have t9 := t8.trans s9
    have hsw : stepsI n (fol xs ys) ≤ farW "swap" xs ys := by
      rw [farW_swap]
      unfold farSwap
      rw [inv_NR, ← steps_turn ox oy]
      exact steps_swap oy hn1 _ xs ox rfl
    refine ⟨_, _, rfl, rfl, _, rfl, ite2 (fun z => absurd (of_decide_eq_true z) (by omega)) (fun _ => ?_)⟩
    -- p, q
    refine ⟨_, rfl, _, rfl, o, _, rfl, .inl (SqL.of (t9 _ _ ho)), D, n, by rw [hxl]; rfl, hD.same t9, by omega, by omega, fun a H10 a0 a1 D10 k10 => ?_⟩
    have ho10 := k10 o _ (t9 _ _ ho) nfo
    have hp10 := k10 p _ (t9 _ _ hp) nfp
    refine ⟨_, rfl, _, rfl, o, _, rfl, .inl (SqL.of ho10), D, n, by rw [hxl]; rfl, D10, by omega, by omega, fun b H11 b0 b1 D11 k11 => ?_⟩
    have ho11 := k11 o _ ho10 nfo
    have hp11 := k11 p _ hp10 nfp
    have kk : Keep D H H11 := ((Keep.of_same t9).trans k10).trans k11
    -- third
    refine ⟨_, rfl, p, _, rfl, .inl (SqL.of hp11), fun l nl => ?_⟩
    have sl := same_new (o := .lst (ys.map V.int)) nl
    obtain ⟨x, ex, _⟩ := ord_ix oy (j := a.toNat) (by omega)
    obtain ⟨y, ey, _⟩ := ord_ix oy (j := b.toNat) (by omega)
    refine ⟨_, rfl, _, rfl, l, _, _, _, rfl, rfl, SqL.of upd_same, at_of (j := b.toNat) (by omega) (int_at ey), _, rfl, _, rfl, l, _, _, _, rfl, rfl, SqL.of upd_same, at_of (j := a.toNat) (by omega) (int_at ex), line_small (by show 2 ≤ 16777216; decide), fun t nt => ?_⟩
    have st := same_new (o := .tup [.int y, .int x]) nt
    have hlt := st _ _ (upd_same (H := H11) (a := l) (o := .lst (ys.map V.int)))
    refine ⟨t, _, rfl, .inl (.inl upd_same), rfl, _, _, rfl, _, rfl, _, rfl, l, _, _, a.toNat, rfl, rfl, hlt, ix_n (by omega) (by rw [hyl]; omega), ?_⟩
    refine ⟨_, _, rfl, _, rfl, _, rfl, l, _, _, b.toNat, rfl, rfl, upd_same, ix_n (by omega) (by rw [List.length_set, hyl]; omega), rfl, ?_⟩
    have oz : IsOrd n ((ys.set a.toNat y).set b.toNat x) := (set2_perm ex ey).trans oy
    have hz : (upd (upd (upd (upd H11 l (.lst (ys.map V.int))) t (.tup [.int y, .int x])) l (.lst ((ys.map V.int).set a.toNat (.int y)))) l (.lst (((ys.map V.int).set a.toNat (.int y)).set b.toNat (.int x)))) l = some (.lst (((ys.set a.toNat y).set b.toNat x).map V.int)) := by rw [upd_same, set2_V]
    have kz : ∀ c ob, H11 c = some ob → (upd (upd (upd (upd H11 l (.lst (ys.map V.int))) t (.tup [.int y, .int x])) l (.lst ((ys.map V.int).set a.toNat (.int y)))) l (.lst (((ys.map V.int).set a.toNat (.int y)).set b.toNat (.int x)))) c = some ob := fun c ob e => by
      have nc : c ≠ l := ne_of_none e nl
      rw [upd_ne nc, upd_ne nc]
      exact st _ _ (sl _ _ e)
    refine ⟨_, rfl, _, rfl, o, l, n, xs, _, ⟨rfl, kz _ _ ho11, hz, ox, oz, hn1, hn2⟩, fun H12 s12 => ?_⟩
    refine ⟨_, rfl, _, _, rfl, rfl, _, rfl, _, rfl, _, rfl, rfl, .inr ⟨_, rfl, rfl, ?_⟩⟩
    have efin : (if stepsI n (fol xs ((ys.set a.toNat y).set b.toNat x)) - stepsI n (fol xs ys) < 0 then -(stepsI n (fol xs ((ys.set a.toNat y).set b.toNat x)) - stepsI n (fol xs ys)) else stepsI n (fol xs ((ys.set a.toNat y).set b.toNat x)) - stepsI n (fol xs ys)) = (if (!decide (V.int a = V.int b)) = true then 1 else 0) := by
      by_cases c : a = b
      · subst c
        have e2 : x = y := Option.some.inj (ex.symm.trans ey)
        subst e2
        have e3 : (ys.set a.toNat x).set a.toNat x = ys := by
          rw [List.set_set]
          apply List.ext_getElem?
          intro i
          by_cases d : a.toNat = i
          · subst d
            rw [List.getElem?_set_self (by rw [oy.len]; omega), ex]
          · rw [List.getElem?_set_ne d]
        rw [e3, decide_eq_true rfl, Int.sub_self]
        rfl
      · have := steps_exch ox oy (show a.toNat ≠ b.toNat by omega) ex ey
        unfold absI at this
        rw [this, decide_eq_false (fun z => c (V.int.inj z))]
        rfl
    dsimp only
    rw [efin, decide_eq_true rfl]
    exact q _ (DkAt.same (H := _) ⟨by obtain ⟨i, e⟩ := D11.top; exact ⟨i, kz _ _ e⟩, kz _ _ D11.pools, D11.len, D11.len2, fun c hc => by obtain ⟨x', y', z', e⟩ := D11.at_ c hc; exact ⟨x', y', z', kz _ _ e⟩⟩ s12) (fun c ob e nf => s12 _ _ (kz _ _ (kk c ob e nf)))
theorem scLaw : FnScope ["script", "deck", "k", "one", "other"] ["script"] (defScope s_law) := ⟨rfl, rfl, rfl, by decide +kernel, rfl, by decide +kernel, by decide +kernel⟩
set_option maxHeartbeats 4000000 in
theorem ok_law {f f1 f2 f3 f4 f5 f6 : Addr} {fd d1 d2 d3 d4 d5 d6 : FuncData} (T : Fun K "law" "law" s_law f fd) (T__law_deck : Df K mg "_law_deck" s_law_deck ["script"] f1 d1) (T__law_order : Df K mg "_law_order" s_law_order ["deck", "n"] f2 d2) (T__law_things : Df K mg "_law_things" s_law_things ["deck"] f3 d3) (T__law_near : Df K mg "_law_near" s_law_near ["deck", "order"] f4 d4) (T__law_walk_right : Df K mg "_law_walk_right" s_law_walk_right ["deck", "one", "other"] f5 d5) (T__law_rounds_right : Df K mg "_law_rounds_right" s_law_rounds_right ["deck", "one", "other"] f6 d6)
    (G__law_deck : FnOk P w K mg base CX0 7 f1 d1 ["script"] (spDeck K)) (G__law_order : FnOk P w K mg base CX0 7 f2 d2 ["deck", "n"] spOrder) (G__law_things : FnOk P w K mg base CX0 7 f3 d3 ["deck"] spThings) (G__law_near : FnOk P w K mg base CX0 7 f4 d4 ["deck", "order"] spNear) (G__law_walk_right : FnOk P w K mg base CX0 7 f5 d5 ["deck", "one", "other"] spA) (G__law_rounds_right : FnOk P w K mg base CX0 7 f6 d6 ["deck", "one", "other"] spB)
    (B : Bi mg) : FnOk P w K mg base CX0 8 f fd ["script"] (spLaw K) := by
  refine T.ok scLaw (fun vs H Q E h => ?_) (fun cdv A outer s H vs Q E hr h => ?_)
  · obtain ⟨a, ns, rfl, _⟩ := h
    rfl
  · obtain ⟨a, ns, rfl, hS, hlen, q⟩ := h
    refine ⟨_, 
      (pss_cons (ps_set (i := 1) scLaw.nd rfl (.inl rfl) (pe_call G__law_deck hr (by rfl) T__law_deck.g T__law_deck.F.kp T__law_deck.b .nil pass0 (pa_cons (pv 0) pa_nil)))
      (pss_cons (ps_for PassesOwn.never rfl (pi_range1 (by rfl) B.range (pa_cons pe_int pa_nil)) (pg_name (i := 2) scLaw.nd rfl (.inl rfl))
        (pss_cons (ps_set (i := 3) scLaw.nd rfl (.inl rfl) (pe_call G__law_order hr (by rfl) T__law_order.g T__law_order.F.kp T__law_order.b .nil pass0 (pa_cons (pv 1) (pa_cons (pe_call G__law_things hr (by rfl) T__law_things.g T__law_things.F.kp T__law_things.b .nil pass0 (pa_cons (pv 1) pa_nil)) pa_nil))))
        (pss_cons (ps_set (i := 4) scLaw.nd rfl (.inl rfl) (pe_call G__law_near hr (by rfl) T__law_near.g T__law_near.F.kp T__law_near.b .nil pass0 (pa_cons (pv 1) (pa_cons (pv 3) pa_nil))))
        (pss_one (ps_if (PW.pt (pw_or (pt_not (pt_val (pe_call G__law_walk_right hr (by rfl) T__law_walk_right.g T__law_walk_right.F.kp T__law_walk_right.b .nil pass0 (pa_cons (pv 1) (pa_cons (pv 3) (pa_cons (pv 4) pa_nil)))))) (pw_or1 (pt_not (pt_val (pe_call G__law_rounds_right hr (by rfl) T__law_rounds_right.g T__law_rounds_right.F.kp T__law_rounds_right.b .nil pass0 (pa_cons (pv 1) (pa_cons (pv 3) (pa_cons (pv 4) pa_nil)))))))))
          (pss_one (ps_ret pe_bl))
          pss_nil)))))
      (pss_one (ps_ret pe_bl)))), ?_⟩
    refine ⟨_, rfl, a, ns, rfl, hS, hlen, fun D H0 D0 _ _ => ?_⟩
    refine ⟨10, rfl, by decide, by decide, ?_⟩
    refine for_range (n := 10) (fun i σ H1 => ∃ y2 y3 y4, σ = [some (.ref a), some (.ref D.d), y2, y3, y4] ∧ DkAt H1 D)
      ⟨_, _, _, rfl, D0⟩ (fun i σ H1 _ hP => ?_) (fun σ H1 hP => ?_)
    · obtain ⟨y2, y3, y4, rfl, D1⟩ := hP
      refine ⟨_, rfl, _, rfl, D, rfl, D1, fun n H2 hn1 hn2 D2 k2 => ?_⟩
      refine ⟨D, n, rfl, D2, hn1, hn2, fun xs o H3 ho no h3 nfo D3 k3 => ?_⟩
      refine ⟨_, rfl, _, rfl, D, o, n, xs, rfl, D3, h3, ho, hn1, hn2, fun ys p H4 hy np h4 nfp D4 k4 => ?_⟩
      have ho4 := k4 o _ h3 nfo
      refine ⟨_, rfl, _, rfl, _, rfl, D, o, p, n, xs, ys, rfl, D4, ho4, h4, nfo, nfp, ho, hy, hn1, hn2, fun H5 D5 k5 => ⟨_, rfl, iteF ?_⟩⟩
      exact ⟨_, rfl, _, rfl, _, rfl, D, o, p, n, xs, ys, rfl, D5, k5 _ _ ho4 nfo, k5 _ _ h4 nfp, nfo, nfp, ho, hy, hn1, hn2, fun H6 D6 k6 => ⟨_, rfl, iteF ⟨_, _, _, rfl, D6⟩⟩⟩
    · exact q _
end
end Fo
--LAWCALL ok_law F_law T__law_deck T__law_order T__law_things T__law_near T__law_walk_right T__law_rounds_right (ok_deck (k := 6) T__law_deck B) (ok_order (k := 5) T__law_order T__law_draw B) (ok_things (k := 5) T__law_things T__law_draw B) (ok_near (k := 4) T__law_near T__law_draw T__law_order B) (ok_a (k := 6) T__law_walk_right T_short_walk T_walk_end T_how_far T__law_draw T_is_order (ok_short (k := 4) T_short_walk T_check_orders T_check_fit T_seats_in T_first_turned T_exchange (ok_checks (k := 4) T_check_orders T_check_order (ok_check (k := 1) T_check_order T_is_order T_is_whole B m_MOST_THINGS)) (ok_seats (k := 3) T_seats_in T_places_in B) B) (ok_walk_end (k := 2) T_walk_end T_check_order T_is_order T_is_whole T_is_walk T_exchange B m_MOST_THINGS) (ok_far (k := 5) T_how_far T_check_orders T_check_way T_check_fit T_known_far (ok_checks (k := 4) T_check_orders T_check_order (ok_check (k := 1) T_check_order T_is_order T_is_whole B m_MOST_THINGS)) (ok_way (k := 4) T_check_way m_WAYS B) (ok_fit (k := 4) T_check_fit B) (ok_known (k := 4) T_known_far T_far_by_swap T_far_by_spot T_far_by_shift (ok_swap (k := 3) T_far_by_swap T_seats_in (ok_seats (k := 1) T_seats_in T_places_in B) B) (ok_spot (k := 3) T_far_by_spot B) (ok_shift (k := 3) T_far_by_shift T_seats_in (ok_seats (k := 1) T_seats_in T_places_in B) B))) (ok_draw (k := 5) T__law_draw B) (ok_is_order (k := 4) T_is_order T_is_whole B m_MOST_THINGS) B) (ok_b (k := 6) T__law_rounds_right T_rounds_between T_steps_between T_how_far T__law_draw (ok_rounds (k := 4) T_rounds_between T_check_orders T_check_fit T_followers_between T_round_from (ok_checks (k := 4) T_check_orders T_check_order (ok_check (k := 1) T_check_order T_is_order T_is_whole B m_MOST_THINGS)) B) (ok_steps (k := 5) T_steps_between T_rounds_between (ok_rounds (k := 3) T_rounds_between T_check_orders T_check_fit T_followers_between T_round_from (ok_checks (k := 3) T_check_orders T_check_order (ok_check (k := 0) T_check_order T_is_order T_is_whole B m_MOST_THINGS)) B) B) (ok_far (k := 5) T_how_far T_check_orders T_check_way T_check_fit T_known_far (ok_checks (k := 4) T_check_orders T_check_order (ok_check (k := 1) T_check_order T_is_order T_is_whole B m_MOST_THINGS)) (ok_way (k := 4) T_check_way m_WAYS B) (ok_fit (k := 4) T_check_fit B) (ok_known (k := 4) T_known_far T_far_by_swap T_far_by_spot T_far_by_shift (ok_swap (k := 3) T_far_by_swap T_seats_in (ok_seats (k := 1) T_seats_in T_places_in B) B) (ok_spot (k := 3) T_far_by_spot B) (ok_shift (k := 3) T_far_by_shift T_seats_in (ok_seats (k := 1) T_seats_in T_places_in B) B))) (ok_draw (k := 5) T__law_draw B) B) B
namespace Fo
open PySem PySem.Spec PyProof.Rows L2
set_option maxHeartbeats 8000000 in
theorem all_mk {l : PySem.W.OpenLaw} {w : World} {K : PySem.W.Frag} {h : Heap} {mg : Str → Option Value} {fa : Addr} (X : K.In h) (G : h.Ns mainGlobals mg) (hfa : mg "law" = some (.ref fa))
    {f0 f1 f2 f3 f4 f5 f6 f7 f8 f9 f10 f11 f12 f13 f14 f15 f16 f17 f18 f19 f20 f21 f22 f23 f24 f25 f26 f27 f28 f29 : Addr} {od0 an0 od1 an1 od2 an2 od3 an3 od4 an4 od5 an5 od6 an6 od7 an7 od8 an8 od9 an9 od10 an10 od11 an11 od12 an12 od13 an13 od14 an14 od15 an15 od16 an16 od17 an17 od18 an18 od19 an19 od20 an20 od21 an21 od22 an22 od23 an23 od24 an24 od25 an25 od26 an26 od27 an27 od28 an28 od29 an29 : Option Addr} {sl0 sl1 sl2 sl3 sl4 sl5 sl6 sl7 sl8 sl9 sl10 sl11 sl12 sl13 sl14 sl15 sl16 sl17 sl18 sl19 sl20 sl21 sl22 sl23 sl24 sl25 sl26 sl27 sl28 sl29 : Array (Option Value)} {oc0 kV0 dc0 pm0 cd0 ct0 oc1 kV1 dc1 pm1 cd1 ct1 oc2 kV2 dc2 pm2 cd2 ct2 oc3 kV3 dc3 pm3 cd3 ct3 oc4 kV4 dc4 pm4 cd4 ct4 oc5 kV5 dc5 pm5 cd5 ct5 oc6 kV6 dc6 pm6 cd6 ct6 oc7 kV7 dc7 pm7 cd7 ct7 oc8 kV8 dc8 pm8 cd8 ct8 oc9 kV9 dc9 pm9 cd9 ct9 oc10 kV10 dc10 pm10 cd10 ct10 oc11 kV11 dc11 pm11 cd11 ct11 oc12 kV12 dc12 pm12 cd12 ct12 oc13 kV13 dc13 pm13 cd13 ct13 oc14 kV14 dc14 pm14 cd14 ct14 oc15 kV15 dc15 pm15 cd15 ct15 oc16 kV16 dc16 pm16 cd16 ct16 oc17 kV17 dc17 pm17 cd17 ct17 oc18 kV18 dc18 pm18 cd18 ct18 oc19 kV19 dc19 pm19 cd19 ct19 oc20 kV20 dc20 pm20 cd20 ct20 oc21 kV21 dc21 pm21 cd21 ct21 oc22 kV22 dc22 pm22 cd22 ct22 oc23 kV23 dc23 pm23 cd23 ct23 oc24 kV24 dc24 pm24 cd24 ct24 oc25 kV25 dc25 pm25 cd25 ct25 oc26 kV26 dc26 pm26 cd26 ct26 oc27 kV27 dc27 pm27 cd27 ct27 oc28 kV28 dc28 pm28 cd28 ct28 oc29 kV29 dc29 pm29 cd29 ct29 : Value} {tk_MOST_THINGS : Tok} {aW : Addr} {ddW : Option Addr} {nW : Nat} {tW1 tW2 tW3 : Tok} {slW : Array (Option Value)}
    (a0 : PySem.W.nsIn K mainGlobals "is_whole" = some (some (.ref f0))) (l0 : K.lookup f0 = some ⟨oc0, od0, .func (PySem.W.fnOf "is_whole" "is_whole" (defArgs s_is_whole) (defBody s_is_whole) (defScope s_is_whole) .none kV0 dc0 pm0 an0 cd0 ct0), sl0⟩) (c0 : PySem.W.codeIn K cd0 "is_whole" = true) (k0 : PySem.W.keepIn K (.ref f0) = true)
    (a1 : PySem.W.nsIn K mainGlobals "check_way" = some (some (.ref f1))) (l1 : K.lookup f1 = some ⟨oc1, od1, .func (PySem.W.fnOf "check_way" "check_way" (defArgs s_check_way) (defBody s_check_way) (defScope s_check_way) .none kV1 dc1 pm1 an1 cd1 ct1), sl1⟩) (c1 : PySem.W.codeIn K cd1 "check_way" = true) (k1 : PySem.W.keepIn K (.ref f1) = true)
    (a2 : PySem.W.nsIn K mainGlobals "is_order" = some (some (.ref f2))) (l2 : K.lookup f2 = some ⟨oc2, od2, .func (PySem.W.fnOf "is_order" "is_order" (defArgs s_is_order) (defBody s_is_order) (defScope s_is_order) .none kV2 dc2 pm2 an2 cd2 ct2), sl2⟩) (c2 : PySem.W.codeIn K cd2 "is_order" = true) (k2 : PySem.W.keepIn K (.ref f2) = true)
    (a3 : PySem.W.nsIn K mainGlobals "check_order" = some (some (.ref f3))) (l3 : K.lookup f3 = some ⟨oc3, od3, .func (PySem.W.fnOf "check_order" "check_order" (defArgs s_check_order) (defBody s_check_order) (defScope s_check_order) .none kV3 dc3 pm3 an3 cd3 ct3), sl3⟩) (c3 : PySem.W.codeIn K cd3 "check_order" = true) (k3 : PySem.W.keepIn K (.ref f3) = true)
    (a4 : PySem.W.nsIn K mainGlobals "check_orders" = some (some (.ref f4))) (l4 : K.lookup f4 = some ⟨oc4, od4, .func (PySem.W.fnOf "check_orders" "check_orders" (defArgs s_check_orders) (defBody s_check_orders) (defScope s_check_orders) .none kV4 dc4 pm4 an4 cd4 ct4), sl4⟩) (c4 : PySem.W.codeIn K cd4 "check_orders" = true) (k4 : PySem.W.keepIn K (.ref f4) = true)
    (a5 : PySem.W.nsIn K mainGlobals "check_fit" = some (some (.ref f5))) (l5 : K.lookup f5 = some ⟨oc5, od5, .func (PySem.W.fnOf "check_fit" "check_fit" (defArgs s_check_fit) (defBody s_check_fit) (defScope s_check_fit) .none kV5 dc5 pm5 an5 cd5 ct5), sl5⟩) (c5 : PySem.W.codeIn K cd5 "check_fit" = true) (k5 : PySem.W.keepIn K (.ref f5) = true)
    (a6 : PySem.W.nsIn K mainGlobals "places_in" = some (some (.ref f6))) (l6 : K.lookup f6 = some ⟨oc6, od6, .func (PySem.W.fnOf "places_in" "places_in" (defArgs s_places_in) (defBody s_places_in) (defScope s_places_in) .none kV6 dc6 pm6 an6 cd6 ct6), sl6⟩) (c6 : PySem.W.codeIn K cd6 "places_in" = true) (k6 : PySem.W.keepIn K (.ref f6) = true)
    (a7 : PySem.W.nsIn K mainGlobals "seats_in" = some (some (.ref f7))) (l7 : K.lookup f7 = some ⟨oc7, od7, .func (PySem.W.fnOf "seats_in" "seats_in" (defArgs s_seats_in) (defBody s_seats_in) (defScope s_seats_in) .none kV7 dc7 pm7 an7 cd7 ct7), sl7⟩) (c7 : PySem.W.codeIn K cd7 "seats_in" = true) (k7 : PySem.W.keepIn K (.ref f7) = true)
    (a8 : PySem.W.nsIn K mainGlobals "how_far" = some (some (.ref f8))) (l8 : K.lookup f8 = some ⟨oc8, od8, .func (PySem.W.fnOf "how_far" "how_far" (defArgs s_how_far) (defBody s_how_far) (defScope s_how_far) .none kV8 dc8 pm8 an8 cd8 ct8), sl8⟩) (c8 : PySem.W.codeIn K cd8 "how_far" = true) (k8 : PySem.W.keepIn K (.ref f8) = true)
    (a9 : PySem.W.nsIn K mainGlobals "known_far" = some (some (.ref f9))) (l9 : K.lookup f9 = some ⟨oc9, od9, .func (PySem.W.fnOf "known_far" "known_far" (defArgs s_known_far) (defBody s_known_far) (defScope s_known_far) .none kV9 dc9 pm9 an9 cd9 ct9), sl9⟩) (c9 : PySem.W.codeIn K cd9 "known_far" = true) (k9 : PySem.W.keepIn K (.ref f9) = true)
    (a10 : PySem.W.nsIn K mainGlobals "far_by_swap" = some (some (.ref f10))) (l10 : K.lookup f10 = some ⟨oc10, od10, .func (PySem.W.fnOf "far_by_swap" "far_by_swap" (defArgs s_far_by_swap) (defBody s_far_by_swap) (defScope s_far_by_swap) .none kV10 dc10 pm10 an10 cd10 ct10), sl10⟩) (c10 : PySem.W.codeIn K cd10 "far_by_swap" = true) (k10 : PySem.W.keepIn K (.ref f10) = true)
    (a11 : PySem.W.nsIn K mainGlobals "far_by_spot" = some (some (.ref f11))) (l11 : K.lookup f11 = some ⟨oc11, od11, .func (PySem.W.fnOf "far_by_spot" "far_by_spot" (defArgs s_far_by_spot) (defBody s_far_by_spot) (defScope s_far_by_spot) .none kV11 dc11 pm11 an11 cd11 ct11), sl11⟩) (c11 : PySem.W.codeIn K cd11 "far_by_spot" = true) (k11 : PySem.W.keepIn K (.ref f11) = true)
    (a12 : PySem.W.nsIn K mainGlobals "far_by_shift" = some (some (.ref f12))) (l12 : K.lookup f12 = some ⟨oc12, od12, .func (PySem.W.fnOf "far_by_shift" "far_by_shift" (defArgs s_far_by_shift) (defBody s_far_by_shift) (defScope s_far_by_shift) .none kV12 dc12 pm12 an12 cd12 ct12), sl12⟩) (c12 : PySem.W.codeIn K cd12 "far_by_shift" = true) (k12 : PySem.W.keepIn K (.ref f12) = true)
    (a13 : PySem.W.nsIn K mainGlobals "is_walk" = some (some (.ref f13))) (l13 : K.lookup f13 = some ⟨oc13, od13, .func (PySem.W.fnOf "is_walk" "is_walk" (defArgs s_is_walk) (defBody s_is_walk) (defScope s_is_walk) .none kV13 dc13 pm13 an13 cd13 ct13), sl13⟩) (c13 : PySem.W.codeIn K cd13 "is_walk" = true) (k13 : PySem.W.keepIn K (.ref f13) = true)
    (a14 : PySem.W.nsIn K mainGlobals "walk_end" = some (some (.ref f14))) (l14 : K.lookup f14 = some ⟨oc14, od14, .func (PySem.W.fnOf "walk_end" "walk_end" (defArgs s_walk_end) (defBody s_walk_end) (defScope s_walk_end) .none kV14 dc14 pm14 an14 cd14 ct14), sl14⟩) (c14 : PySem.W.codeIn K cd14 "walk_end" = true) (k14 : PySem.W.keepIn K (.ref f14) = true)
    (a15 : PySem.W.nsIn K mainGlobals "exchange" = some (some (.ref f15))) (l15 : K.lookup f15 = some ⟨oc15, od15, .func (PySem.W.fnOf "exchange" "exchange" (defArgs s_exchange) (defBody s_exchange) (defScope s_exchange) .none kV15 dc15 pm15 an15 cd15 ct15), sl15⟩) (c15 : PySem.W.codeIn K cd15 "exchange" = true) (k15 : PySem.W.keepIn K (.ref f15) = true)
    (a16 : PySem.W.nsIn K mainGlobals "short_walk" = some (some (.ref f16))) (l16 : K.lookup f16 = some ⟨oc16, od16, .func (PySem.W.fnOf "short_walk" "short_walk" (defArgs s_short_walk) (defBody s_short_walk) (defScope s_short_walk) .none kV16 dc16 pm16 an16 cd16 ct16), sl16⟩) (c16 : PySem.W.codeIn K cd16 "short_walk" = true) (k16 : PySem.W.keepIn K (.ref f16) = true)
    (a17 : PySem.W.nsIn K mainGlobals "first_turned" = some (some (.ref f17))) (l17 : K.lookup f17 = some ⟨oc17, od17, .func (PySem.W.fnOf "first_turned" "first_turned" (defArgs s_first_turned) (defBody s_first_turned) (defScope s_first_turned) .none kV17 dc17 pm17 an17 cd17 ct17), sl17⟩) (c17 : PySem.W.codeIn K cd17 "first_turned" = true) (k17 : PySem.W.keepIn K (.ref f17) = true)
    (a18 : PySem.W.nsIn K mainGlobals "rounds_between" = some (some (.ref f18))) (l18 : K.lookup f18 = some ⟨oc18, od18, .func (PySem.W.fnOf "rounds_between" "rounds_between" (defArgs s_rounds_between) (defBody s_rounds_between) (defScope s_rounds_between) .none kV18 dc18 pm18 an18 cd18 ct18), sl18⟩) (c18 : PySem.W.codeIn K cd18 "rounds_between" = true) (k18 : PySem.W.keepIn K (.ref f18) = true)
    (a19 : PySem.W.nsIn K mainGlobals "followers_between" = some (some (.ref f19))) (l19 : K.lookup f19 = some ⟨oc19, od19, .func (PySem.W.fnOf "followers_between" "followers_between" (defArgs s_followers_between) (defBody s_followers_between) (defScope s_followers_between) .none kV19 dc19 pm19 an19 cd19 ct19), sl19⟩) (c19 : PySem.W.codeIn K cd19 "followers_between" = true) (k19 : PySem.W.keepIn K (.ref f19) = true)
    (a20 : PySem.W.nsIn K mainGlobals "round_from" = some (some (.ref f20))) (l20 : K.lookup f20 = some ⟨oc20, od20, .func (PySem.W.fnOf "round_from" "round_from" (defArgs s_round_from) (defBody s_round_from) (defScope s_round_from) .none kV20 dc20 pm20 an20 cd20 ct20), sl20⟩) (c20 : PySem.W.codeIn K cd20 "round_from" = true) (k20 : PySem.W.keepIn K (.ref f20) = true)
    (a21 : PySem.W.nsIn K mainGlobals "steps_between" = some (some (.ref f21))) (l21 : K.lookup f21 = some ⟨oc21, od21, .func (PySem.W.fnOf "steps_between" "steps_between" (defArgs s_steps_between) (defBody s_steps_between) (defScope s_steps_between) .none kV21 dc21 pm21 an21 cd21 ct21), sl21⟩) (c21 : PySem.W.codeIn K cd21 "steps_between" = true) (k21 : PySem.W.keepIn K (.ref f21) = true)
    (a22 : PySem.W.nsIn K mainGlobals "_law_deck" = some (some (.ref f22))) (l22 : K.lookup f22 = some ⟨oc22, od22, .func (PySem.W.fnOf "_law_deck" "_law_deck" (defArgs s_law_deck) (defBody s_law_deck) (defScope s_law_deck) .none kV22 dc22 pm22 an22 cd22 ct22), sl22⟩) (c22 : PySem.W.codeIn K cd22 "_law_deck" = true) (k22 : PySem.W.keepIn K (.ref f22) = true)
    (a23 : PySem.W.nsIn K mainGlobals "_law_draw" = some (some (.ref f23))) (l23 : K.lookup f23 = some ⟨oc23, od23, .func (PySem.W.fnOf "_law_draw" "_law_draw" (defArgs s_law_draw) (defBody s_law_draw) (defScope s_law_draw) .none kV23 dc23 pm23 an23 cd23 ct23), sl23⟩) (c23 : PySem.W.codeIn K cd23 "_law_draw" = true) (k23 : PySem.W.keepIn K (.ref f23) = true)
    (a24 : PySem.W.nsIn K mainGlobals "_law_order" = some (some (.ref f24))) (l24 : K.lookup f24 = some ⟨oc24, od24, .func (PySem.W.fnOf "_law_order" "_law_order" (defArgs s_law_order) (defBody s_law_order) (defScope s_law_order) .none kV24 dc24 pm24 an24 cd24 ct24), sl24⟩) (c24 : PySem.W.codeIn K cd24 "_law_order" = true) (k24 : PySem.W.keepIn K (.ref f24) = true)
    (a25 : PySem.W.nsIn K mainGlobals "_law_things" = some (some (.ref f25))) (l25 : K.lookup f25 = some ⟨oc25, od25, .func (PySem.W.fnOf "_law_things" "_law_things" (defArgs s_law_things) (defBody s_law_things) (defScope s_law_things) .none kV25 dc25 pm25 an25 cd25 ct25), sl25⟩) (c25 : PySem.W.codeIn K cd25 "_law_things" = true) (k25 : PySem.W.keepIn K (.ref f25) = true)
    (a26 : PySem.W.nsIn K mainGlobals "_law_near" = some (some (.ref f26))) (l26 : K.lookup f26 = some ⟨oc26, od26, .func (PySem.W.fnOf "_law_near" "_law_near" (defArgs s_law_near) (defBody s_law_near) (defScope s_law_near) .none kV26 dc26 pm26 an26 cd26 ct26), sl26⟩) (c26 : PySem.W.codeIn K cd26 "_law_near" = true) (k26 : PySem.W.keepIn K (.ref f26) = true)
    (a27 : PySem.W.nsIn K mainGlobals "_law_walk_right" = some (some (.ref f27))) (l27 : K.lookup f27 = some ⟨oc27, od27, .func (PySem.W.fnOf "_law_walk_right" "_law_walk_right" (defArgs s_law_walk_right) (defBody s_law_walk_right) (defScope s_law_walk_right) .none kV27 dc27 pm27 an27 cd27 ct27), sl27⟩) (c27 : PySem.W.codeIn K cd27 "_law_walk_right" = true) (k27 : PySem.W.keepIn K (.ref f27) = true)
    (a28 : PySem.W.nsIn K mainGlobals "_law_rounds_right" = some (some (.ref f28))) (l28 : K.lookup f28 = some ⟨oc28, od28, .func (PySem.W.fnOf "_law_rounds_right" "_law_rounds_right" (defArgs s_law_rounds_right) (defBody s_law_rounds_right) (defScope s_law_rounds_right) .none kV28 dc28 pm28 an28 cd28 ct28), sl28⟩) (c28 : PySem.W.codeIn K cd28 "_law_rounds_right" = true) (k28 : PySem.W.keepIn K (.ref f28) = true)
    (a29 : PySem.W.nsIn K mainGlobals "law" = some (some (.ref f29))) (l29 : K.lookup f29 = some ⟨oc29, od29, .func (PySem.W.fnOf "law" "law" (defArgs s_law) (defBody s_law) (defScope s_law) .none kV29 dc29 pm29 an29 cd29 ct29), sl29⟩) (c29 : PySem.W.codeIn K cd29 "law" = true) (k29 : PySem.W.keepIn K (.ref f29) = true)
    (g_MOST_THINGS : PySem.W.nsIn K mainGlobals "MOST_THINGS" = some (some (.int 12 tk_MOST_THINGS)))
    (g_WAYS : PySem.W.nsIn K mainGlobals "WAYS" = some (some (.ref aW))) (l_WAYS : K.lookup aW = some ⟨.type "tuple", ddW, .seq #[.str "swap" tW1, .str "spot" tW2, .str "shift" tW3] nW, slW⟩)
    (z_abs : PySem.W.nsIn K mainGlobals "abs" = some none)
    (z_all : PySem.W.nsIn K mainGlobals "all" = some none)
    (z_bool : PySem.W.nsIn K mainGlobals "bool" = some none)
    (z_enumerate : PySem.W.nsIn K mainGlobals "enumerate" = some none)
    (z_int : PySem.W.nsIn K mainGlobals "int" = some none)
    (z_isinstance : PySem.W.nsIn K mainGlobals "isinstance" = some none)
    (z_len : PySem.W.nsIn K mainGlobals "len" = some none)
    (z_list : PySem.W.nsIn K mainGlobals "list" = some none)
    (z_max : PySem.W.nsIn K mainGlobals "max" = some none)
    (z_min : PySem.W.nsIn K mainGlobals "min" = some none)
    (z_range : PySem.W.nsIn K mainGlobals "range" = some none)
    (z_sorted : PySem.W.nsIn K mainGlobals "sorted" = some none)
    (z_str : PySem.W.nsIn K mainGlobals "str" = some none)
    (z_sum : PySem.W.nsIn K mainGlobals "sum" = some none)
    (z_zip : PySem.W.nsIn K mainGlobals "zip" = some none)
    : ∃ fd : FuncData, (∀ (s : Shared) (v : Value), BindsTo s fd ⟨[v], []⟩ [("script", v)]) ∧ ∀ base : Heap, K.In base → base.Ns mainGlobals mg → FnOk l.prog w K mg base CX0 8 fa fd ["script"] (spLaw K) := by
  have e := hfa.symm.trans (PySem.W.mg_of X G a29)
  cases e
  have F0 := fun_mk (st := s_is_whole) l0 c0 k0
  have F1 := fun_mk (st := s_check_way) l1 c1 k1
  have F2 := fun_mk (st := s_is_order) l2 c2 k2
  have F3 := fun_mk (st := s_check_order) l3 c3 k3
  have F4 := fun_mk (st := s_check_orders) l4 c4 k4
  have F5 := fun_mk (st := s_check_fit) l5 c5 k5
  have F6 := fun_mk (st := s_places_in) l6 c6 k6
  have F7 := fun_mk (st := s_seats_in) l7 c7 k7
  have F8 := fun_mk (st := s_how_far) l8 c8 k8
  have F9 := fun_mk (st := s_known_far) l9 c9 k9
  have F10 := fun_mk (st := s_far_by_swap) l10 c10 k10
  have F11 := fun_mk (st := s_far_by_spot) l11 c11 k11
  have F12 := fun_mk (st := s_far_by_shift) l12 c12 k12
  have F13 := fun_mk (st := s_is_walk) l13 c13 k13
  have F14 := fun_mk (st := s_walk_end) l14 c14 k14
  have F15 := fun_mk (st := s_exchange) l15 c15 k15
  have F16 := fun_mk (st := s_short_walk) l16 c16 k16
  have F17 := fun_mk (st := s_first_turned) l17 c17 k17
  have F18 := fun_mk (st := s_rounds_between) l18 c18 k18
  have F19 := fun_mk (st := s_followers_between) l19 c19 k19
  have F20 := fun_mk (st := s_round_from) l20 c20 k20
  have F21 := fun_mk (st := s_steps_between) l21 c21 k21
  have F22 := fun_mk (st := s_law_deck) l22 c22 k22
  have F23 := fun_mk (st := s_law_draw) l23 c23 k23
  have F24 := fun_mk (st := s_law_order) l24 c24 k24
  have F25 := fun_mk (st := s_law_things) l25 c25 k25
  have F26 := fun_mk (st := s_law_near) l26 c26 k26
  have F27 := fun_mk (st := s_law_walk_right) l27 c27 k27
  have F28 := fun_mk (st := s_law_rounds_right) l28 c28 k28
  have F29 := fun_mk (st := s_law) l29 c29 k29
  have T_is_whole : Df K mg "is_whole" s_is_whole ["thing"] f0 _ := ⟨F0, F0.binds (ps := ["thing"]) (fun _ _ _ _ _ _ us hl => match us, hl with | [_], _ => rfl), PySem.W.mg_of X G a0⟩
  have T_check_way : Df K mg "check_way" s_check_way ["thing"] f1 _ := ⟨F1, F1.binds (ps := ["thing"]) (fun _ _ _ _ _ _ us hl => match us, hl with | [_], _ => rfl), PySem.W.mg_of X G a1⟩
  have T_is_order : Df K mg "is_order" s_is_order ["thing"] f2 _ := ⟨F2, F2.binds (ps := ["thing"]) (fun _ _ _ _ _ _ us hl => match us, hl with | [_], _ => rfl), PySem.W.mg_of X G a2⟩
  have T_check_order : Df K mg "check_order" s_check_order ["thing"] f3 _ := ⟨F3, F3.binds (ps := ["thing"]) (fun _ _ _ _ _ _ us hl => match us, hl with | [_], _ => rfl), PySem.W.mg_of X G a3⟩
  have T_check_orders : Df K mg "check_orders" s_check_orders ["one", "other"] f4 _ := ⟨F4, F4.binds (ps := ["one", "other"]) (fun _ _ _ _ _ _ us hl => match us, hl with | [_, _], _ => rfl), PySem.W.mg_of X G a4⟩
  have T_check_fit : Df K mg "check_fit" s_check_fit ["one", "other"] f5 _ := ⟨F5, F5.binds (ps := ["one", "other"]) (fun _ _ _ _ _ _ us hl => match us, hl with | [_, _], _ => rfl), PySem.W.mg_of X G a5⟩
  have T_places_in : Df K mg "places_in" s_places_in ["order"] f6 _ := ⟨F6, F6.binds (ps := ["order"]) (fun _ _ _ _ _ _ us hl => match us, hl with | [_], _ => rfl), PySem.W.mg_of X G a6⟩
  have T_seats_in : Df K mg "seats_in" s_seats_in ["one", "other"] f7 _ := ⟨F7, F7.binds (ps := ["one", "other"]) (fun _ _ _ _ _ _ us hl => match us, hl with | [_, _], _ => rfl), PySem.W.mg_of X G a7⟩
  have T_how_far : Df K mg "how_far" s_how_far ["way", "one", "other"] f8 _ := ⟨F8, F8.binds (ps := ["way", "one", "other"]) (fun _ _ _ _ _ _ us hl => match us, hl with | [_, _, _], _ => rfl), PySem.W.mg_of X G a8⟩
  have T_known_far : Df K mg "known_far" s_known_far ["way", "one", "other"] f9 _ := ⟨F9, F9.binds (ps := ["way", "one", "other"]) (fun _ _ _ _ _ _ us hl => match us, hl with | [_, _, _], _ => rfl), PySem.W.mg_of X G a9⟩
  have T_far_by_swap : Df K mg "far_by_swap" s_far_by_swap ["one", "other"] f10 _ := ⟨F10, F10.binds (ps := ["one", "other"]) (fun _ _ _ _ _ _ us hl => match us, hl with | [_, _], _ => rfl), PySem.W.mg_of X G a10⟩
  have T_far_by_spot : Df K mg "far_by_spot" s_far_by_spot ["one", "other"] f11 _ := ⟨F11, F11.binds (ps := ["one", "other"]) (fun _ _ _ _ _ _ us hl => match us, hl with | [_, _], _ => rfl), PySem.W.mg_of X G a11⟩
  have T_far_by_shift : Df K mg "far_by_shift" s_far_by_shift ["one", "other"] f12 _ := ⟨F12, F12.binds (ps := ["one", "other"]) (fun _ _ _ _ _ _ us hl => match us, hl with | [_, _], _ => rfl), PySem.W.mg_of X G a12⟩
  have T_is_walk : Df K mg "is_walk" s_is_walk ["thing", "n"] f13 _ := ⟨F13, F13.binds (ps := ["thing", "n"]) (fun _ _ _ _ _ _ us hl => match us, hl with | [_, _], _ => rfl), PySem.W.mg_of X G a13⟩
  have T_walk_end : Df K mg "walk_end" s_walk_end ["order", "walk"] f14 _ := ⟨F14, F14.binds (ps := ["order", "walk"]) (fun _ _ _ _ _ _ us hl => match us, hl with | [_, _], _ => rfl), PySem.W.mg_of X G a14⟩
  have T_exchange : Df K mg "exchange" s_exchange ["row", "place"] f15 _ := ⟨F15, F15.binds (ps := ["row", "place"]) (fun _ _ _ _ _ _ us hl => match us, hl with | [_, _], _ => rfl), PySem.W.mg_of X G a15⟩
  have T_short_walk : Df K mg "short_walk" s_short_walk ["one", "other"] f16 _ := ⟨F16, F16.binds (ps := ["one", "other"]) (fun _ _ _ _ _ _ us hl => match us, hl with | [_, _], _ => rfl), PySem.W.mg_of X G a16⟩
  have T_first_turned : Df K mg "first_turned" s_first_turned ["seats"] f17 _ := ⟨F17, F17.binds (ps := ["seats"]) (fun _ _ _ _ _ _ us hl => match us, hl with | [_], _ => rfl), PySem.W.mg_of X G a17⟩
  have T_rounds_between : Df K mg "rounds_between" s_rounds_between ["one", "other"] f18 _ := ⟨F18, F18.binds (ps := ["one", "other"]) (fun _ _ _ _ _ _ us hl => match us, hl with | [_, _], _ => rfl), PySem.W.mg_of X G a18⟩
  have T_followers_between : Df K mg "followers_between" s_followers_between ["one", "other"] f19 _ := ⟨F19, F19.binds (ps := ["one", "other"]) (fun _ _ _ _ _ _ us hl => match us, hl with | [_, _], _ => rfl), PySem.W.mg_of X G a19⟩
  have T_round_from : Df K mg "round_from" s_round_from ["thing", "followers"] f20 _ := ⟨F20, F20.binds (ps := ["thing", "followers"]) (fun _ _ _ _ _ _ us hl => match us, hl with | [_, _], _ => rfl), PySem.W.mg_of X G a20⟩
  have T_steps_between : Df K mg "steps_between" s_steps_between ["one", "other"] f21 _ := ⟨F21, F21.binds (ps := ["one", "other"]) (fun _ _ _ _ _ _ us hl => match us, hl with | [_, _], _ => rfl), PySem.W.mg_of X G a21⟩
  have T__law_deck : Df K mg "_law_deck" s_law_deck ["script"] f22 _ := ⟨F22, F22.binds (ps := ["script"]) (fun _ _ _ _ _ _ us hl => match us, hl with | [_], _ => rfl), PySem.W.mg_of X G a22⟩
  have T__law_draw : Df K mg "_law_draw" s_law_draw ["deck", "many"] f23 _ := ⟨F23, F23.binds (ps := ["deck", "many"]) (fun _ _ _ _ _ _ us hl => match us, hl with | [_, _], _ => rfl), PySem.W.mg_of X G a23⟩
  have T__law_order : Df K mg "_law_order" s_law_order ["deck", "n"] f24 _ := ⟨F24, F24.binds (ps := ["deck", "n"]) (fun _ _ _ _ _ _ us hl => match us, hl with | [_, _], _ => rfl), PySem.W.mg_of X G a24⟩
  have T__law_things : Df K mg "_law_things" s_law_things ["deck"] f25 _ := ⟨F25, F25.binds (ps := ["deck"]) (fun _ _ _ _ _ _ us hl => match us, hl with | [_], _ => rfl), PySem.W.mg_of X G a25⟩
  have T__law_near : Df K mg "_law_near" s_law_near ["deck", "order"] f26 _ := ⟨F26, F26.binds (ps := ["deck", "order"]) (fun _ _ _ _ _ _ us hl => match us, hl with | [_, _], _ => rfl), PySem.W.mg_of X G a26⟩
  have T__law_walk_right : Df K mg "_law_walk_right" s_law_walk_right ["deck", "one", "other"] f27 _ := ⟨F27, F27.binds (ps := ["deck", "one", "other"]) (fun _ _ _ _ _ _ us hl => match us, hl with | [_, _, _], _ => rfl), PySem.W.mg_of X G a27⟩
  have T__law_rounds_right : Df K mg "_law_rounds_right" s_law_rounds_right ["deck", "one", "other"] f28 _ := ⟨F28, F28.binds (ps := ["deck", "one", "other"]) (fun _ _ _ _ _ _ us hl => match us, hl with | [_, _, _], _ => rfl), PySem.W.mg_of X G a28⟩
  have B : Bi mg := ⟨PySem.W.mg_none_of X G z_abs, PySem.W.mg_none_of X G z_all, PySem.W.mg_none_of X G z_bool, PySem.W.mg_none_of X G z_enumerate, PySem.W.mg_none_of X G z_int, PySem.W.mg_none_of X G z_isinstance, PySem.W.mg_none_of X G z_len, PySem.W.mg_none_of X G z_list, PySem.W.mg_none_of X G z_max, PySem.W.mg_none_of X G z_min, PySem.W.mg_none_of X G z_range, PySem.W.mg_none_of X G z_sorted, PySem.W.mg_none_of X G z_str, PySem.W.mg_none_of X G z_sum, PySem.W.mg_none_of X G z_zip⟩
  have m_WAYS := wy_mk (PySem.W.mg_of X G g_WAYS) l_WAYS
  have m_MOST_THINGS := PySem.W.mg_of X G g_MOST_THINGS
  exact ⟨PySem.W.fnOf "law" "law" (defArgs s_law) (defBody s_law) (defScope s_law) .none kV29 dc29 pm29 an29 cd29 ct29, fun s v => .of_eq rfl, fun base _ _ => ok_law F29 T__law_deck T__law_order T__law_things T__law_near T__law_walk_right T__law_rounds_right (ok_deck (k := 6) T__law_deck B) (ok_order (k := 5) T__law_order T__law_draw B) (ok_things (k := 5) T__law_things T__law_draw B) (ok_near (k := 4) T__law_near T__law_draw T__law_order B) (ok_a (k := 6) T__law_walk_right T_short_walk T_walk_end T_how_far T__law_draw T_is_order (ok_short (k := 4) T_short_walk T_check_orders T_check_fit T_seats_in T_first_turned T_exchange (ok_checks (k := 4) T_check_orders T_check_order (ok_check (k := 1) T_check_order T_is_order T_is_whole B m_MOST_THINGS)) (ok_seats (k := 3) T_seats_in T_places_in B) B) (ok_walk_end (k := 2) T_walk_end T_check_order T_is_order T_is_whole T_is_walk T_exchange B m_MOST_THINGS) (ok_far (k := 5) T_how_far T_check_orders T_check_way T_check_fit T_known_far (ok_checks (k := 4) T_check_orders T_check_order (ok_check (k := 1) T_check_order T_is_order T_is_whole B m_MOST_THINGS)) (ok_way (k := 4) T_check_way m_WAYS B) (ok_fit (k := 4) T_check_fit B) (ok_known (k := 4) T_known_far T_far_by_swap T_far_by_spot T_far_by_shift (ok_swap (k := 3) T_far_by_swap T_seats_in (ok_seats (k := 1) T_seats_in T_places_in B) B) (ok_spot (k := 3) T_far_by_spot B) (ok_shift (k := 3) T_far_by_shift T_seats_in (ok_seats (k := 1) T_seats_in T_places_in B) B))) (ok_draw (k := 5) T__law_draw B) (ok_is_order (k := 4) T_is_order T_is_whole B m_MOST_THINGS) B) (ok_b (k := 6) T__law_rounds_right T_rounds_between T_steps_between T_how_far T__law_draw (ok_rounds (k := 4) T_rounds_between T_check_orders T_check_fit T_followers_between T_round_from (ok_checks (k := 4) T_check_orders T_check_order (ok_check (k := 1) T_check_order T_is_order T_is_whole B m_MOST_THINGS)) B) (ok_steps (k := 5) T_steps_between T_rounds_between (ok_rounds (k := 3) T_rounds_between T_check_orders T_check_fit T_followers_between T_round_from (ok_checks (k := 3) T_check_orders T_check_order (ok_check (k := 0) T_check_order T_is_order T_is_whole B m_MOST_THINGS)) B) B) (ok_far (k := 5) T_how_far T_check_orders T_check_way T_check_fit T_known_far (ok_checks (k := 4) T_check_orders T_check_order (ok_check (k := 1) T_check_order T_is_order T_is_whole B m_MOST_THINGS)) (ok_way (k := 4) T_check_way m_WAYS B) (ok_fit (k := 4) T_check_fit B) (ok_known (k := 4) T_known_far T_far_by_swap T_far_by_spot T_far_by_shift (ok_swap (k := 3) T_far_by_swap T_seats_in (ok_seats (k := 1) T_seats_in T_places_in B) B) (ok_spot (k := 3) T_far_by_spot B) (ok_shift (k := 3) T_far_by_shift T_seats_in (ok_seats (k := 1) T_seats_in T_places_in B) B))) (ok_draw (k := 5) T__law_draw B) B) B⟩
end Fo
open PySem PySem.W PyProof.Rows
set_option maxRecDepth 100000 in
set_option maxHeartbeats 0 in
theorem PySem.Challenge.cw_farorders_k13_whole_walks_there_and_back_holds : PySem.Challenge.rw_farorders_k13_whole_walks_there_and_back.Holds := by
  w_on; o_law; k_head; (case hw => w_witness2)
  k_fill
  refine L2.walk_of (l := PySem.Challenge.rw_farorders_k13_whole_walks_there_and_back) (n := 63) (k := 8) (x := "script") (CX := fun _ => L2.CX0) (sp := fun w => Fo.spLaw _) rfl (by decide) rfl ⟨rfl, by decide, by decide⟩ (fun w h Y => PySem.W.kIn_of Y) ?F (fun _ _ a ns hl _ hS => ⟨a, ns, rfl, hS, hl, fun _ => rfl⟩) (fun _ _ _ _ _ h => h)
  case F =>
    intro w mg fa h KX G hmg
    refine' Fo.all_mk KX G hmg ?a0 ?l0 ?c0 ?k0 ?a1 ?l1 ?c1 ?k1 ?a2 ?l2 ?c2 ?k2 ?a3 ?l3 ?c3 ?k3 ?a4 ?l4 ?c4 ?k4 ?a5 ?l5 ?c5 ?k5 ?a6 ?l6 ?c6 ?k6 ?a7 ?l7 ?c7 ?k7 ?a8 ?l8 ?c8 ?k8 ?a9 ?l9 ?c9 ?k9 ?a10 ?l10 ?c10 ?k10 ?a11 ?l11 ?c11 ?k11 ?a12 ?l12 ?c12 ?k12 ?a13 ?l13 ?c13 ?k13 ?a14 ?l14 ?c14 ?k14 ?a15 ?l15 ?c15 ?k15 ?a16 ?l16 ?c16 ?k16 ?a17 ?l17 ?c17 ?k17 ?a18 ?l18 ?c18 ?k18 ?a19 ?l19 ?c19 ?k19 ?a20 ?l20 ?c20 ?k20 ?a21 ?l21 ?c21 ?k21 ?a22 ?l22 ?c22 ?k22 ?a23 ?l23 ?c23 ?k23 ?a24 ?l24 ?c24 ?k24 ?a25 ?l25 ?c25 ?k25 ?a26 ?l26 ?c26 ?k26 ?a27 ?l27 ?c27 ?k27 ?a28 ?l28 ?c28 ?k28 ?a29 ?l29 ?c29 ?k29 ?g_MOST_THINGS ?g_WAYS ?l_WAYS ?z_abs ?z_all ?z_bool ?z_enumerate ?z_int ?z_isinstance ?z_len ?z_list ?z_max ?z_min ?z_range ?z_sorted ?z_str ?z_sum ?z_zip
    (case a0 => k_is); (case l0 => k_is); (case c0 => k_is); (case k0 => k_is); (case a1 => k_is); (case l1 => k_is); (case c1 => k_is); (case k1 => k_is); (case a2 => k_is); (case l2 => k_is); (case c2 => k_is); (case k2 => k_is); (case a3 => k_is); (case l3 => k_is); (case c3 => k_is); (case k3 => k_is); (case a4 => k_is); (case l4 => k_is); (case c4 => k_is); (case k4 => k_is); (case a5 => k_is); (case l5 => k_is); (case c5 => k_is); (case k5 => k_is); (case a6 => k_is); (case l6 => k_is); (case c6 => k_is); (case k6 => k_is); (case a7 => k_is); (case l7 => k_is); (case c7 => k_is); (case k7 => k_is); (case a8 => k_is); (case l8 => k_is); (case c8 => k_is); (case k8 => k_is); (case a9 => k_is); (case l9 => k_is); (case c9 => k_is); (case k9 => k_is); (case a10 => k_is); (case l10 => k_is); (case c10 => k_is); (case k10 => k_is); (case a11 => k_is); (case l11 => k_is); (case c11 => k_is); (case k11 => k_is); (case a12 => k_is); (case l12 => k_is); (case c12 => k_is); (case k12 => k_is); (case a13 => k_is); (case l13 => k_is); (case c13 => k_is); (case k13 => k_is); (case a14 => k_is); (case l14 => k_is); (case c14 => k_is); (case k14 => k_is); (case a15 => k_is); (case l15 => k_is); (case c15 => k_is); (case k15 => k_is); (case a16 => k_is); (case l16 => k_is); (case c16 => k_is); (case k16 => k_is); (case a17 => k_is); (case l17 => k_is); (case c17 => k_is); (case k17 => k_is); (case a18 => k_is); (case l18 => k_is); (case c18 => k_is); (case k18 => k_is); (case a19 => k_is); (case l19 => k_is); (case c19 => k_is); (case k19 => k_is); (case a20 => k_is); (case l20 => k_is); (case c20 => k_is); (case k20 => k_is); (case a21 => k_is); (case l21 => k_is); (case c21 => k_is); (case k21 => k_is); (case a22 => k_is); (case l22 => k_is); (case c22 => k_is); (case k22 => k_is); (case a23 => k_is); (case l23 => k_is); (case c23 => k_is); (case k23 => k_is); (case a24 => k_is); (case l24 => k_is); (case c24 => k_is); (case k24 => k_is); (case a25 => k_is); (case l25 => k_is); (case c25 => k_is); (case k25 => k_is); (case a26 => k_is); (case l26 => k_is); (case c26 => k_is); (case k26 => k_is); (case a27 => k_is); (case l27 => k_is); (case c27 => k_is); (case k27 => k_is); (case a28 => k_is); (case l28 => k_is); (case c28 => k_is); (case k28 => k_is); (case a29 => k_is); (case l29 => k_is); (case c29 => k_is); (case k29 => k_is); (case g_MOST_THINGS => k_is); (case g_WAYS => k_is); (case l_WAYS => k_is); (case z_abs => k_is); (case z_all => k_is); (case z_bool => k_is); (case z_enumerate => k_is); (case z_int => k_is); (case z_isinstance => k_is); (case z_len => k_is); (case z_list => k_is); (case z_max => k_is); (case z_min => k_is); (case z_range => k_is); (case z_sorted => k_is); (case z_str => k_is); (case z_sum => k_is); (case z_zip => k_is)

