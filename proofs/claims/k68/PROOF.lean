import PyProof.Rows.All
import Wide.All
import OpenK.AllK
import Wide.FinOn
import HandS.ForMost
import HandS.IsInst
import HandS.Conv
import HandS.Style
import HandS.More
import HandS.Evl
import HandS.Zip
import HandS.SetFor
import HandS.Sort
import HandS.Wide
import HandS.Deep
import KE.SortData
import PyProof.ReprRoads
import HandS.Exc
import HandS.ExcIs
import HandS.ExcValue
import HandS.Small
import HandS.FStr
import HandS.WordsExc
import KE.KDictZip
import HandS.RaiseMore
import HandS.DictTup
import HandS.TupLen
import KE.KDictKeyed
import KE.KDictWalk
import HandS.Text
import HandS.ExcOwn
import HandS.HotCalls
import HandS.DictComp
import HandS.Walk
import PySem.Challenge.RW_farorders_k68_polls_refused
set_option Elab.async false
set_option linter.all false
set_option maxRecDepth 100000
namespace Fo
open PySem PySem.Spec PyProof.Rows L2
/-! ### lists and orders -/
def rg (n : Nat) : List Int := (List.range n).map fun k => ((k : Nat) : Int)
def IsOrd (n : Nat) (ns : List Int) : Prop := ns.Perm (rg n)
theorem rg_len (n : Nat) : (rg n).length = n := by
  unfold rg
  rw [List.length_map, List.length_range]
theorem rg_mem {n : Nat} {x : Int} : x ∈ rg n ↔ 0 ≤ x ∧ x < n := by
  unfold rg
  rw [List.mem_map]
  constructor
  · rintro ⟨k, hk, rfl⟩
    have := List.mem_range.mp hk
    omega
  · rintro ⟨h0, h1⟩
    exact ⟨x.toNat, List.mem_range.mpr (by omega), by omega⟩
theorem rg_nodup (n : Nat) : (rg n).Nodup := by
  unfold rg
  exact List.Pairwise.map _ (fun a b h e => h (by omega)) List.nodup_range
theorem rg_sorted (n : Nat) : (rg n).Pairwise (· ≤ ·) := by
  unfold rg
  exact List.Pairwise.map _ (fun a b h => by omega) List.pairwise_lt_range
theorem rg_V (n : Nat) : rgV 0 (n : Int) = (rg n).map V.int := by
  unfold rgV rg
  rw [List.map_map, show ((n : Int) - 0).toNat = n by omega]
  apply List.map_congr_left
  intro a _
  show V.int (0 + (a : Int)) = V.int (a : Int)
  rw [Int.zero_add]
theorem IsOrd.len {n : Nat} {ns : List Int} (h : IsOrd n ns) : ns.length = n := (List.Perm.length_eq h).trans (rg_len n)
theorem IsOrd.mem {n : Nat} {ns : List Int} (h : IsOrd n ns) {x : Int} (m : x ∈ ns) : 0 ≤ x ∧ x < n := rg_mem.mp ((List.Perm.mem_iff h).mp m)
theorem IsOrd.nodup {n : Nat} {ns : List Int} (h : IsOrd n ns) : ns.Nodup := (List.Perm.nodup_iff h).mpr (rg_nodup n)
/-- two sorted lists of the same things are one -/
theorem sorted_eq : ∀ {a b : List Int}, a.Perm b → a.Pairwise (· ≤ ·) → b.Pairwise (· ≤ ·) → a = b := by
  intro a b hp ha hb
  exact List.Perm.eq_of_pairwise (fun x y _ _ h1 h2 => by omega) ha hb hp
/-- the things at p and p + 1 change places -/
def sw (xs : List Int) (p : Nat) : List Int := (xs.set p (xs.getD (p + 1) 0)).set (p + 1) (xs.getD p 0)
theorem split2 : ∀ {xs : List Int} {p : Nat}, p + 1 < xs.length → ∃ A a b B, xs = A ++ a :: b :: B ∧ A.length = p
  | [], p, h => by simp at h
  | [_], p, h => by simp at h
  | a :: b :: r, 0, _ => ⟨[], a, b, r, rfl, rfl⟩
  | a :: b :: r, p + 1, h => by
    obtain ⟨A, x, y, B, e, l⟩ := split2 (xs := b :: r) (p := p) (by simpa using h)
    exact ⟨a :: A, x, y, B, by rw [e]; rfl, by rw [List.length_cons, l]⟩
theorem sw_at : ∀ (A : List Int) (a b : Int) (B : List Int), sw (A ++ a :: b :: B) A.length = A ++ b :: a :: B
  | [], a, b, B => rfl
  | x :: A, a, b, B => by
    have ih := sw_at A a b B
    unfold sw at ih ⊢
    show x :: _ = x :: _
    exact congrArg (x :: ·) ih
theorem sw_perm {xs : List Int} {p : Nat} (h : p + 1 < xs.length) : (sw xs p).Perm xs := by
  obtain ⟨A, a, b, B, rfl, rfl⟩ := split2 h
  rw [sw_at]
  exact List.Perm.append_left A (List.Perm.swap a b B)
theorem sw_len (xs : List Int) (p : Nat) : (sw xs p).length = xs.length := by
  unfold sw
  rw [List.length_set, List.length_set]
theorem sw_ord {n : Nat} {xs : List Int} {p : Nat} (o : IsOrd n xs) (h : p + 1 < n) : IsOrd n (sw xs p) :=
  (sw_perm (by rw [o.len]; exact h)).trans o
theorem sw_V {xs : List Int} {p : Nat} {a b : Int} (ha : xs[p]? = some a) (hb : xs[p + 1]? = some b) : ((xs.map V.int).set p (V.int b)).set (p + 1) (V.int a) = (sw xs p).map V.int := by
  unfold sw
  rw [List.getD_eq_getElem?_getD, List.getD_eq_getElem?_getD, ha, hb, List.map_set, List.map_set]
  rfl
theorem pop_ins {xs : List Int} {p : Nat} {a : Int} (h : p + 1 < xs.length) (ha : xs[p]? = some a) : (xs.eraseIdx p).take (p + 1) ++ [a] ++ (xs.eraseIdx p).drop (p + 1) = sw xs p := by
  obtain ⟨A, x, y, B, rfl, rfl⟩ := split2 h
  have ex : x = a := by
    rw [List.getElem?_append_right (Nat.le_refl _), Nat.sub_self] at ha
    exact Option.some.inj ha
  subst ex
  rw [sw_at, List.eraseIdx_append_of_length_le (Nat.le_refl _), Nat.sub_self]
  show (A ++ y :: B).take (A.length + 1) ++ [x] ++ (A ++ y :: B).drop (A.length + 1) = _
  rw [List.take_append, List.drop_append]
  have t : A.length + 1 - A.length = 1 := by omega
  rw [t, List.take_of_length_le (by omega), List.drop_of_length_le (by omega)]
  simp
/-- the order at a walk's end -/
def wEnd (xs : List Int) (ws : List Int) : List Int := ws.foldl (fun x p => sw x p.toNat) xs
theorem wEnd_more {xs ws : List Int} {i : Nat} {p : Int} (h : ws[i]? = some p) : wEnd xs (ws.take (i + 1)) = sw (wEnd xs (ws.take i)) p.toNat := by
  unfold wEnd
  rw [List.take_add_one, h, List.foldl_append]
  rfl
theorem wEnd_ord {n : Nat} {xs : List Int} (o : IsOrd n xs) : ∀ {ws : List Int}, (∀ p ∈ ws, 0 ≤ p ∧ p + 1 < n) → IsOrd n (wEnd xs ws) := by
  intro ws
  induction ws generalizing xs with
  | nil => intro _; exact o
  | cons p ws ih =>
    intro h
    have hp := h p List.mem_cons_self
    exact ih (sw_ord o (by omega)) fun q hq => h q (List.mem_cons_of_mem _ hq)
theorem nodup_len : ∀ {l m : List Int}, l.Nodup → (∀ x ∈ l, x ∈ m) → l.length ≤ m.length
  | [], m, _, _ => Nat.zero_le _
  | a :: l, m, hn, hs => by
    obtain ⟨h1, h2⟩ := List.nodup_cons.mp hn
    have ha := hs a List.mem_cons_self
    have ih := nodup_len (l := l) (m := m.erase a) h2 fun x hx => by
      have ne : x ≠ a := fun e => h1 (by rw [← e]; exact hx)
      exact (List.mem_erase_of_ne ne).mpr (hs x (List.mem_cons_of_mem _ hx))
    rw [List.length_erase_of_mem ha] at ih
    have : 0 < m.length := List.length_pos_of_mem ha
    rw [List.length_cons]
    omega
theorem int_at {ns : List Int} {i : Nat} {x : Int} (h : ns[i]? = some x) : (ns.map V.int)[i]? = some (V.int x) := by
  rw [List.getElem?_map, h]
  rfl
theorem int_at_inv {ns : List Int} {i : Nat} {v : V} (h : (ns.map V.int)[i]? = some v) : ∃ x, ns[i]? = some x ∧ v = V.int x := by
  rw [List.getElem?_map] at h
  cases e : ns[i]? with
  | none => rw [e] at h; cases h
  | some x => rw [e] at h; exact ⟨x, rfl, (Option.some.inj h).symm⟩
theorem line_small {n : Nat} (h : n ≤ 16777216) : n ≤ sizeLine := by rw [sizeLine_eq]; exact h
theorem line_lt {n : Nat} (h : n < 16777216) : n < sizeLine := by rw [sizeLine_eq]; exact h
/-! ### data of ints -/
theorem dp_ints {K : PySem.W.Frag} {H : Hp} : ∀ ns : List Int, DpAll K H (ns.map V.int) (ns.map PyData.int)
  | [] => .nil
  | n :: r => .cons (.int n) (dp_ints r)
theorem dp_list {K : PySem.W.Frag} {H : Hp} {a : Addr} {ns : List Int} (h : H a = some (.lst (ns.map V.int))) : Dp K H (.ref a) (.list (ns.map PyData.int)) := .lst (SqL.of h) (dp_ints ns)
theorem eqv_int (i j : Int) : PyData.eqv (.int i) (.int j) = (i == j) := rfl
end Fo
namespace Fo
open PySem PySem.Spec PyProof.Rows L2
abbrev dI (ns : List Int) : List PyData := ns.map PyData.int
abbrev dL (ns : List Int) : PyData := .list (dI ns)
abbrev dLL (l : List (List Int)) : PyData := .list (l.map dL)
theorem lay_ints : ∀ ns : List Int, PyData.canLayAll0 (dI ns) = true
  | [] => rfl
  | n :: r => by
    show (PyData.canLay0 (.int n) && PyData.canLayAll0 (dI r)) = true
    rw [lay_ints r]
    rfl
theorem depth_ints : ∀ ns : List Int, PyData.depthAll (dI ns) = 0
  | [] => by simp [PyData.depthAll]
  | n :: r => by
    show PyData.depthAll (.int n :: dI r) = 0
    rw [PyData.depthAll, depth_ints r]
    simp [PyData.depth]
theorem lay_list (ns : List Int) : PyData.canLay0 (dL ns) = true := by
  rw [PyData.canLay0]
  exact lay_ints ns
theorem depth_list (ns : List Int) : PyData.depth (dL ns) = 1 := by
  rw [PyData.depth, depth_ints]
theorem shaped_list (ns : List Int) : SeqAt.shaped (dL ns) = true := by
  unfold SeqAt.shaped
  rw [lay_list, depth_list]
  rfl
theorem lay_lists : ∀ l : List (List Int), PyData.canLayAll0 (l.map dL) = true
  | [] => rfl
  | n :: r => by
    show (PyData.canLay0 (dL n) && PyData.canLayAll0 (r.map dL)) = true
    rw [lay_lists r, lay_list]
    rfl
theorem depth_lists : ∀ l : List (List Int), PyData.depthAll (l.map dL) ≤ 1
  | [] => by simp [PyData.depthAll]
  | n :: r => by
    show PyData.depthAll (dL n :: r.map dL) ≤ 1
    rw [PyData.depthAll, depth_list]
    have := depth_lists r
    omega
theorem shaped_lists (l : List (List Int)) : SeqAt.shaped (dLL l) = true := by
  unfold SeqAt.shaped
  rw [Bool.and_eq_true_iff]
  constructor
  · rw [PyData.canLay0]
    exact lay_lists l
  · apply decide_eq_true
    rw [PyData.depth]
    have := depth_lists l
    omega
theorem eqv_list (ns : List Int) : PyData.eqv (dL ns) (dL ns) = true := SeqAt.eqv_refl _ (lay_list ns)
theorem eqv_lists (l : List (List Int)) : PyData.eqv (dLL l) (dLL l) = true := SeqAt.eqv_refl _ (SeqAt.canLay_of_shaped (shaped_lists l))
theorem eqvAll_ints : ∀ a b : List Int, PyData.eqvAll (dI a) (dI b) = decide (a = b)
  | [], [] => by simp [PyData.eqvAll]
  | [], _ :: _ => by simp [PyData.eqvAll]
  | _ :: _, [] => by simp [PyData.eqvAll]
  | x :: a, y :: b => by
    show PyData.eqvAll (.int x :: dI a) (.int y :: dI b) = _
    rw [PyData.eqvAll, eqvAll_ints a b]
    show ((x == y) && decide (a = b)) = decide (x :: a = y :: b)
    by_cases h : x = y
    · subst h
      simp
    · simp [h]
theorem eqv_ints (a b : List Int) : PyData.eqv (dL a) (dL b) = decide (a = b) := by
  rw [PyData.eqv]
  exact eqvAll_ints a b
end Fo
namespace Fo
open PySem PySem.Spec PyProof.Rows L2
/-! ### slices of ints -/
def cutI (ws : List Int) (lo hi : Option Int) : List Int := (ws.drop (HT.sIx ws.length 0 lo)).take (HT.sIx ws.length ws.length hi - HT.sIx ws.length 0 lo)
theorem cut_ints (ws : List Int) (lo hi : Option Int) : cutV (ws.map V.int) lo hi = (cutI ws lo hi).map V.int := by
  unfold cutV cutI
  rw [List.length_map, List.map_take, List.map_drop]
theorem cutI_mem {ws : List Int} {lo hi : Option Int} {x : Int} (h : x ∈ cutI ws lo hi) : x ∈ ws := List.mem_of_mem_drop (List.mem_of_mem_take h)
theorem cutI_len (ws : List Int) (lo hi : Option Int) : (cutI ws lo hi).length ≤ ws.length := by
  unfold cutI
  rw [List.length_take, List.length_drop]
  omega
theorem cutI_head (ws : List Int) (k : Nat) : cutI ws none (some (k : Int)) = ws.take k := by
  unfold cutI
  rw [HT.sIx_none, HT.sIx_nat, List.drop_zero, Nat.sub_zero]
  by_cases h : k ≤ ws.length
  · rw [Nat.min_eq_left h]
  · rw [Nat.min_eq_right (by omega), List.take_length, List.take_of_length_le (by omega)]
theorem cutI_tail (ws : List Int) (k : Nat) : cutI ws (some (k : Int)) none = ws.drop k := by
  unfold cutI
  rw [HT.sIx_none, HT.sIx_nat]
  by_cases h : k ≤ ws.length
  · rw [Nat.min_eq_left h, List.take_of_length_le (by rw [List.length_drop]; exact Nat.le_refl _)]
  · rw [Nat.min_eq_right (by omega), List.drop_of_length_le (Nat.le_refl _), List.drop_of_length_le (by omega), List.take_nil]
end Fo
namespace Fo
open PySem PySem.Spec PyProof.Rows L2
/-! ### the text -/
def topS (i : Nat) : Stmt := PySem.Challenge.pw_farorders_k68_polls_refused.main.body.getD i (.Pass ⟨0, 0, 0, 0⟩)
abbrev s_OrderError : Stmt := topS 1
abbrev s_NoOrder : Stmt := topS 2
abbrev s_NoWay : Stmt := topS 3
abbrev s_NoFit : Stmt := topS 4
abbrev s_NoPlace : Stmt := topS 5
abbrev s_NoNumber : Stmt := topS 6
abbrev s_TooMany : Stmt := topS 7
abbrev s_NoText : Stmt := topS 8
abbrev s_NoName : Stmt := topS 9
abbrev s_NoRow : Stmt := topS 10
abbrev s_is_whole : Stmt := topS 13
abbrev s_check_way : Stmt := topS 14
abbrev s_check_few : Stmt := topS 15
abbrev s_is_order : Stmt := topS 19
abbrev s_check_order : Stmt := topS 20
abbrev s_check_fit : Stmt := topS 21
abbrev s_is_order_list : Stmt := topS 22
abbrev s_places_in : Stmt := topS 23
abbrev s_seats_in : Stmt := topS 24
abbrev s_known_far : Stmt := topS 25
abbrev s_far_by_swap : Stmt := topS 26
abbrev s_far_by_spot : Stmt := topS 27
abbrev s_far_by_shift : Stmt := topS 28
abbrev s_all_orders : Stmt := topS 29
abbrev s_orders_with : Stmt := topS 30
abbrev s_check_poll : Stmt := topS 34
abbrev s_poll_sum : Stmt := topS 35
abbrev s_known_sum : Stmt := topS 36
abbrev s_middle_of : Stmt := topS 37
abbrev s_middle_by_all : Stmt := topS 38
abbrev s_middle_by_pairs : Stmt := topS 39
abbrev s_best_first : Stmt := topS 40
abbrev s_least_sums : Stmt := topS 41
abbrev s_sum_with_first : Stmt := topS 42
abbrev s_things_in : Stmt := topS 43
abbrev s_counts_ahead : Stmt := topS 44
abbrev s_pairs_ahead : Stmt := topS 45
abbrev s_pair_sum : Stmt := topS 46
abbrev s_ring_of : Stmt := topS 47
abbrev s_mostly_behind : Stmt := topS 48
abbrev s_ring_from : Stmt := topS 49
abbrev s_longer_paths : Stmt := topS 50
abbrev s_law_cell_at : Stmt := topS 52
abbrev s_law_stir : Stmt := topS 53
abbrev s_law_deck : Stmt := topS 54
abbrev s_law_next : Stmt := topS 55
abbrev s_law_order : Stmt := topS 56
abbrev s_law_near : Stmt := topS 57
abbrev s_law_poll : Stmt := topS 58
abbrev s_law_no_order : Stmt := topS 59
abbrev s_law_no_way : Stmt := topS 60
abbrev s_law_word : Stmt := topS 61
abbrev s_law_no_poll : Stmt := topS 62
abbrev s_law_asked : Stmt := topS 63
abbrev s_law_many_right : Stmt := topS 64
abbrev s_law : Stmt := topS 65
/-- a def of the text, where it stands -/
structure Df (K : PySem.W.Frag) (mg : Str → Option Value) (x : Str) (st : Stmt) (ps : List Str) (f : Addr) (fd : FuncData) : Prop where
  F : Fun K x x st f fd
  b : Binds K fd ps []
  g : mg x = some (.ref f)
/-- the built-in names as they were -/
structure Bi (mg : Str → Option Value) : Prop where
  ValueError : mg "ValueError" = none
  abs : mg "abs" = none
  all : mg "all" = none
  bool : mg "bool" = none
  enumerate : mg "enumerate" = none
  int : mg "int" = none
  isinstance : mg "isinstance" = none
  len : mg "len" = none
  list : mg "list" = none
  max : mg "max" = none
  min : mg "min" = none
  range : mg "range" = none
  repr : mg "repr" = none
  sorted : mg "sorted" = none
  str : mg "str" = none
  sum : mg "sum" = none
  tuple : mg "tuple" = none
end Fo
namespace Fo
open PySem PySem.Spec PyProof.Rows L2
theorem same_new {H : Hp} {p : Addr} {o : HO} (h : H p = none) : Same H (upd H p o) := fun b x e => by
  rw [upd_ne (ne_of_none e h)]
  exact e
theorem at2_0 {x y : V} : atI [x, y] 0 = some x := rfl
theorem at2_1 {x y : V} : atI [x, y] 1 = some y := rfl
end Fo
namespace Fo
open PySem PySem.Spec PyProof.Rows L2
theorem pop_perm : ∀ {xs : List Int} {k : Nat} {y : Int}, xs[k]? = some y → (y :: xs.eraseIdx k).Perm xs
  | [], k, y, h => by simp at h
  | a :: r, 0, y, h => by
    have e : a = y := Option.some.inj h
    subst e
    exact List.Perm.refl _
  | a :: r, k + 1, y, h => by
    have ih := pop_perm (xs := r) (k := k) (y := y) h
    show (y :: a :: r.eraseIdx k).Perm (a :: r)
    exact (List.Perm.swap a y _).trans (List.Perm.cons a ih)
theorem map_erase : ∀ (xs : List Int) (k : Nat), (xs.map V.int).eraseIdx k = (xs.eraseIdx k).map V.int
  | [], k => rfl
  | a :: r, 0 => rfl
  | a :: r, k + 1 => congrArg (V.int a :: ·) (map_erase r k)
/-- what len asks of a list or a tuple -/
abbrev rLenS (K : PySem.W.Frag) : List V → Hp → VK → Prop := fun xs H Q => ∃ p ys, xs = [.ref p] ∧ (SqL K H p ys ∨ SqT K H p ys) ∧ Q (.int ys.length) H
theorem seq_ix {i : Int} {k n : Nat} (e : i = (k : Int)) (h : k < n) : seqIndex? i n = some k := by
  subst e
  unfold seqIndex?
  have h1 : ¬ ((k : Int) < 0) := by omega
  simp only [h1, if_false]
  have h2 : (decide ((0 : Int) ≤ (k : Int)) && decide ((k : Int) < (n : Int))) = true := by
    simp
    omega
  rw [if_pos h2, Int.toNat_natCast]
theorem ix_n {i : Int} {k n : Nat} (e : i = (k : Int)) (h : k < n) : ixN n i = some k := by
  subst e
  unfold ixN
  rw [if_pos (by omega), if_pos (by omega), Int.toNat_natCast]
end Fo
namespace Fo
open PySem PySem.Spec PyProof.Rows L2
abbrev rMax2 : List V → Hp → VK → Prop := fun xs H Q => ∃ i j, xs = [.int i, .int j] ∧ Q (.int (if j > i then j else i)) H
abbrev rMin2 : List V → Hp → VK → Prop := fun xs H Q => ∃ i j, xs = [.int i, .int j] ∧ Q (.int (if j < i then j else i)) H
abbrev rInt1 : List V → Hp → VK → Prop := fun xs H Q => (∃ i, xs = [.int i] ∧ Q (.int i) H) ∨ ∃ k, xs = [.bl k] ∧ Q (.int (if k then 1 else 0)) H
theorem filter_more {l : List Int} {m : Nat} {x : Int} (p : Int → Bool) (h : l[m]? = some x) : (l.take (m + 1)).filter p = (l.take m).filter p ++ (if p x then [x] else []) := by
  rw [List.take_add_one, h, List.filter_append]
  show _ ++ List.filter p [x] = _
  rw [List.filter_cons]
  rfl
end Fo
namespace Fo
open PySem PySem.Spec PyProof.Rows L2
/-- what is tracked lies elsewhere than the table of modules -/
def SysAt (base : Heap) : Prop := ∃ o, base.get? sysModules = some o
/-! defs that ask repr: they want to know that no other repr is under way (A.guards) -/
structure FnG (P : Program) (w : World) (K : PySem.W.Frag) (mg : Str → Option Value) (base : Heap) (k : Nat) (f : Addr) (fd : FuncData) (ps : List Str) (sp : Sp) : Prop where
  len : ∀ vs H Q E, sp vs H Q E → vs.length = ps.length
  go : ∀ (A : Around) (outer : List Env) (s : Shared) (H : Hp) (args : Args) (us : List Value) (vs : List V) (Q : VK) (E : XK), A.guards = some [] → Room k A → Env0 P w K mg base A outer s H → BindsTo s fd args (ps.zip us) → Vals vs us → sp vs H Q E → codeAny (model P w) A (.call (.ref f) args) (CR CX0 outer P w H s Q E) s
section
variable {P : Program} {w : World} {K : PySem.W.Frag} {mg : Str → Option Value} {base : Heap}
/-- as Fun.ok -/
theorem okG {y qual : Str} {st : Stmt} {f : Addr} {fd : FuncData} {N ps : List Str} {k : Nat} {sp : Sp} (F : Fun K y qual st f fd) (S : FnScope N ps (defScope st)) (len : ∀ vs H Q E, sp vs H Q E → vs.length = ps.length)
    (body : ∀ (cdv : Value) (A : Around) (outer : List Env) (s : Shared) (H : Hp) (vs : List V) (Q : VK) (E : XK), A.guards = some [] → Room k (A.deeper (envOfC qual (defScope st) s.heap.objs.size f cdv)) → sp vs H Q E →
      ∃ t, PSs (cxOf CX0 P w K mg base N qual (defScope st) f cdv A outer s H E).nox (defBody st) t ∧ t { nx := fun _ H' => Q .non H', rt := Q } (start N vs) H) : FnG P w K mg base (k + 1) f fd ps sp := by
  obtain ⟨oc, od, kV, dc, pm, an, cdv, ct, osl, rfl, lk, hcd⟩ := F.ex
  refine ⟨len, fun A outer s H args us vs Q E gA rm ev bn rv h => ?_⟩
  have kin : K.In s.heap := ev.mod.kin.keeps fun b o e => (ev.bs b o e).1
  have nol : s.heap.NoLimit := ev.mod.nolimit.keeps fun b o e => (ev.bs b o e).1
  refine codeAny_call_function rm.depth (kin _ _ lk) rfl S.co S.gen rfl (PySem.W.codeRec_of kin hcd) (bn _ _ _ _ ?_)
  refine wpAny_newFunctionEnv_cells S.kind (fun yv hy => ?_) fun env he s1 inc => ?_
  · rcases S.par yv.1 (List.of_mem_zip hy).1 with z | z
    · exact .inl z
    · exact .inr ⟨z, PySem.W.cellsFrom_some _ _ _ (.inl z)⟩
  · subst he
    refine ⟨nol.keeps inc.toInCall.keep, codeAny_func ?_⟩
    obtain ⟨t, pt, qt⟩ := body cdv A outer s H vs Q E gA (rm.deeper _) h
    have J : Inv (cxOf CX0 P w K mg base N qual (defScope st) f cdv A outer s H E) [] (start N vs) H s1 := inv_start S rm.hd ev (len _ _ _ _ h) rv inc
    refine wpAny_mono (pt.nox.run [] s1 (start N vs) H _ J qt) (fun fl s' z => ?_) fun _ _ z => z
    cases fl with
    | brk => exact z.choose_spec.choose_spec.2.elim
    | cont => exact z.choose_spec.choose_spec.2.elim
    | next =>
      obtain ⟨σ', H', J', q⟩ := z
      exact ⟨V.non, H', J'.os, J'.bare, J'.base, J'.hok, rfl, q⟩
    | ret u =>
      obtain ⟨v, σ', H', J', r', q⟩ := z
      exact ⟨v, H', J'.os, J'.bare, J'.base, J'.hok, r', q⟩
end
section
variable {X : Cx}
/-- the call of such a def -/
theorem pe_callG {k : Nat} {f : Addr} {fd : FuncData} {ps : List Str} {sp : Sp} {y : Str} {p pos : Pos} {e : Expr} {es : List Expr} {t : TA} (F : FnG X.prog X.w X.K X.mg X.base k f fd ps sp) (gA : X.A.guards = some []) (hr : Room k X.A) (hg : Gl X y) (hm : X.mg y = some (.ref f)) (hk : PySem.W.keepIn X.K (.ref f) = true) (hb : Binds X.K fd ps [])
    (ha : PA X (e :: es) t) (hdb : (y == ("__debug__" : Str)) = false := by decide) (he : starEach (e :: es) X.env = (false, eval e X.env) :: starEach es X.env := by rfl) (hpl : (backTo pos (starEach es X.env)).any (·.1) = false := by rfl) :
    PE X (.Call (.Name y p) (e :: es) [] pos) (tCall sp [] E0 t) := by
  refine ⟨fun pins s σ H Q I h => wpAny_Call_Name_kw (ld_glob I hg hm (PySem.W.callWith_K (h₀ := X.base) I.ok.mod.kin hk (thn (ha.run pos pins s σ H _ I h) fun us s1 ⟨vs, H1, I1, r, q⟩ => ⟨I1.kIn, ?_⟩) he hpl) hdb)⟩
  have r2 : Vals (vs ++ []) (us ++ []) := r.append .nil
  have hl : (us ++ []).length = ps.length := by rw [← r2.length]; exact F.len _ _ _ _ q
  refine wpAny_call (codeAny_mono (F.go X.A X.stack s1 H1 ⟨us, []⟩ (us ++ []) (vs ++ []) Q E0 gA hr I1.env0 (hb s1 us I1.kIn hl) r2 q) fun rs s' hq => ?_)
  match rs, hq with
  | .error _, hq => exact hq.elim
  | .ok (.ret u), hq => exact I1.after hq
  | .ok .next, hq => exact False.elim hq
  | .ok .brk, hq => exact False.elim hq
  | .ok .cont, hq => exact False.elim hq
end
/-! the end of such a law -/
section
variable {P : Program} {w : World} {K : PySem.W.Frag} {mg mb : Str → Option Value} {k : Nat} {fa a : Addr} {fd : FuncData} {y : Str} {sp : Sp} {s : Shared} {us : List Value} {ns : List Int}
theorem lawG_at (kin : K.In s.heap) (ng : s.heap.Ns mainGlobals mg) (nb : s.heap.Ns builtinsNs mb) (eb : ∀ x : Str, x ≠ "__name__" → mb x = bootBuiltins x) (lim : s.heap.NoLimit) (eg : s.gens = #[]) (oa : s.heap.get? a = some { cls := .type "list", data := .seq us.toArray }) (rm : Room k callerA)
    (sy : ∃ m, s.heap.Ns sysModules m) (F : ∀ base : Heap, K.In base → base.Ns mainGlobals mg → SysAt base → FnG P w K mg base k fa fd [y] sp) (bn : ∀ (s : Shared) (u : Value), BindsTo s fd ⟨[u], []⟩ [(y, u)]) {H : Hp} (only : Only H) (hok : HOk P w H s.heap) (h1 : ∀ b, H b ≠ none → b = a) (h2 : H a ≠ none → K.lookup a = none) (h : sp [.ref a] H (fun v _ => v = .bl true) fun _ _ _ => False) :
    codeAny (model P w) callerA (.call (.ref fa) ⟨[.ref a], []⟩) (fun r s' => r = .ok (.ret (.bool true)) ∧ OldK s.heap s'.heap ∧ s'.os = s.os ∧ AllBare s'.gens) s := by
  have trk : ∀ {b : Addr} {u : HO}, H b = some u → b = a := fun {b u} e => h1 b (by rw [e]; exact fun z => nomatch z)
  have noD : ∀ {b : Addr} {o : Obj} {es : Array DictEntry} {ep : Nat}, s.heap.get? b = some o → o.data = .dict es ep → H b = none := fun {b o es ep} e dd => by
    cases q : H b with
    | none => rfl
    | some u =>
      have eq := trk q
      rw [eq, oa] at e
      cases e
      cases (show Data.seq us.toArray _ = Data.dict es ep from dd)
  have nsB : ∀ {b : Addr} {m : Str → Option Value}, s.heap.Ns b m → (hidT s.heap H).Ns b m := fun {b m} ⟨o, es, ep, e, dd, r⟩ => ⟨o, es, ep, hidT_get e (noD e dd), dd, r⟩
  have kinB : K.In (hidT s.heap H) := fun b o e => hidT_get (kin b o e) (by
    cases q : H b with
    | none => rfl
    | some u =>
      have eq := trk q
      rw [eq] at e q
      rw [h2 (by rw [q]; exact fun z => nomatch z)] at e
      cases e)
  have md : Mod K mg (hidT s.heap H) := ⟨kinB, nsB ng, ⟨mb, nsB nb, eb⟩, let ⟨mc, l1, l2⟩ := lim; ⟨mc, nsB l1, l2⟩⟩
  have noF : ∀ b : Addr, b ∉ ([] : List Addr) := fun b z => nomatch z
  have ev : Env0 P w K mg (hidT s.heap H) callerA [] s H := ⟨rfl, md, fun b o e => of_hidT e, Nat.le_of_eq (hidT_size _ _), trivial, fun b z => absurd (show b ∈ ([] : List Addr) from z) (noF b), hok, .of_eq eg⟩
  have sB : SysAt (hidT s.heap H) := by
    obtain ⟨m, z⟩ := sy
    obtain ⟨o, _, _, e, _⟩ := nsB z
    exact ⟨o, e⟩
  refine codeAny_mono ((F _ kinB (nsB ng) sB).go callerA [] s H ⟨[.ref a], []⟩ [.ref a] [.ref a] _ _ rfl rm ev (bn s (.ref a)) (.cons rfl .nil) h) fun rs s' z => ?_
  match rs, z with
  | .error _, z => exact z.elim
  | .ok .next, z => exact False.elim z
  | .ok .brk, z => exact False.elim z
  | .ok .cont, z => exact False.elim z
  | .ok (.ret u), z =>
    obtain ⟨v, H', os, ba, un, hok', rv, q⟩ := z
    obtain rfl : v = .bl true := q
    obtain rfl : u = Value.bool true := rv
    refine ⟨rfl, OldK.of_keep fun b o e => ?_, os, ba⟩
    rcases only b with z | ⟨ob, xs, z⟩
    · exact un.keep b o e z (fun y => absurd (show b ∈ ([] : List Addr) from y) (noF b)) (noF b)
    · obtain ⟨g1, _⟩ := hok b _ z
      obtain ⟨g2, _⟩ := hok' b _ (un.frzs b ob _ z)
      rw [e] at g1
      cases g1
      exact g2
theorem lawG (kin : K.In s.heap) (ng : s.heap.Ns mainGlobals mg) (nb : s.heap.Ns builtinsNs mb) (eb : ∀ x : Str, x ≠ "__name__" → mb x = bootBuiltins x) (lim : s.heap.NoLimit) (eg : s.gens = #[]) (oa : s.heap.get? a = some { cls := .type "list", data := .seq us.toArray }) (hi : IntsAre us ns) (hl : ns.length ≤ sizeLine) (rm : Room k callerA)
    (sy : ∃ m, s.heap.Ns sysModules m) (F : ∀ base : Heap, K.In base → base.Ns mainGlobals mg → SysAt base → FnG P w K mg base k fa fd [y] sp) (bn : ∀ (s : Shared) (u : Value), BindsTo s fd ⟨[u], []⟩ [(y, u)]) (hsp : ∀ H : Hp, Only H → SqL K H a (ns.map V.int) → sp [.ref a] H (fun v _ => v = .bl true) fun _ _ _ => False) :
    codeAny (model P w) callerA (.call (.ref fa) ⟨[.ref a], []⟩) (fun r s' => r = .ok (.ret (.bool true)) ∧ OldK s.heap s'.heap ∧ s'.os = s.os ∧ AllBare s'.gens) s := by
  have rv := vals_ints hi
  have el := hi.length
  cases hk : K.lookup a with
  | some o =>
    have e := kin a o hk
    rw [oa] at e
    cases e
    have o0 : Only (fun _ => none) := fun _ => .inl rfl
    exact lawG_at kin ng nb eb lim eg oa rm sy F bn o0 (fun b u z => absurd (show (none : Option HO) = some u from z) (fun y => nomatch y)) (fun b z => absurd rfl z) (fun z => absurd rfl z) (hsp _ o0 (.inr ⟨_, us.toArray, _, hk, rfl, rfl, rfl, by rw [List.size_toArray, el]; exact hl, by simpa using rv⟩))
  | none =>
    obtain ⟨ob, eo⟩ : ∃ ob : Obj, ob = { cls := .type "list", data := .seq us.toArray } := ⟨_, rfl⟩
    obtain ⟨H, eH⟩ : ∃ H : Hp, H = fun b => if b = a then some (.frz ob (.lst (ns.map V.int))) else none := ⟨_, rfl⟩
    have ha : H a = some (.frz ob (.lst (ns.map V.int))) := by rw [eH]; exact if_pos rfl
    have hb : ∀ b, b ≠ a → H b = none := fun b z => by rw [eH]; exact if_neg z
    have on : Only H := fun b => by
      by_cases z : b = a
      · rw [z]
        exact .inr ⟨_, _, ha⟩
      · exact .inl (hb b z)
    refine lawG_at kin ng nb eb lim eg oa rm sy F bn on (fun b u z => ?_) (fun b z => ?_) (fun _ => hk) (hsp H on (.inl (.inr ⟨ob, ha⟩)))
    · by_cases y : b = a
      · subst y
        rw [ha] at z
        cases z
        rw [eo]
        exact ⟨oa, by rw [List.length_map]; exact hl, us, _, rv, oa⟩
      · rw [hb b y] at z
        cases z
    · by_cases y : b = a
      · exact y
      · exact absurd (hb b y) z
end
theorem walkG {l : PySem.W.OpenLaw} {n k : Nat} {q : Program} {loose : List Str} {XP : (Str → Option Value) → Heap → Prop} {YP : World → Heap → Prop} {d : DefRec} {K : Params → PySem.W.Frag} {sp : World → Sp} {y : Str} (hn : l.most = some n) (hn2 : n ≤ sizeLine) (hdf : d.params.defaults = []) (rm : Room k callerA) (hY : ∀ (w : World) (h : Heap), YP w h → (K w.params).In h) (him : importsNone q = true)
    (F : ∀ (w : World) (mg : Str → Option Value) (fa : Addr) (h : Heap), (K w.params).In h → h.Ns mainGlobals mg → mg d.name = some (.ref fa) → ∃ fd : FuncData, (∀ (s : Shared) (u : Value), BindsTo s fd ⟨[u], []⟩ [(y, u)]) ∧ ∀ base : Heap, (K w.params).In base → base.Ns mainGlobals mg → SysAt base → FnG l.prog w (K w.params) mg base k fa fd [y] (sp w))
    (hsp : ∀ (w : World) (H : Hp) (a : Addr) (ns : List Int), ns.length ≤ n → Only H → SqL (K w.params) H a (ns.map V.int) → sp w [.ref a] H (fun v _ => v = .bl true) fun _ _ _ => False) : PySem.W.WalkO q loose XP YP l.row.toRowW d [] (fun f vs => PySem.call f vs) := by
  refine Att.attach_call hn hdf fun w sA sB mg mb fa o1 pm cd dc ad us ns G Y ho hd hcd hmg hob hin hle hge => ?_
  have KX := hY w _ Y
  obtain ⟨fd, hb, hF⟩ := F w mg fa _ KX G.T.g hmg
  obtain ⟨mm, sy, _⟩ := (G.T.seer him).mods
  exact lawG KX G.T.g G.T.b G.T.builtins G.T.nolimit hge hob hin (Nat.le_trans hle hn2) rm ⟨mm, sy⟩ hF hb fun H hH hS => hsp w H ad ns hle hH hS
end Fo
namespace Fo
open PySem PySem.Spec PyProof.Rows L2
/-! an error that was caught is known behind the try, too -/
def ExV (cls : Value) (d : Option Addr) (a : Addr) : HO := .ext fun h => ∃ oe : Obj, h.get? a = some oe ∧ Zc cls d oe ∧ ∃ vs, oe.data = .fields vs
theorem exV_ok {P : Program} {w : World} {H : Hp} {h : Heap} {a : Addr} {cls : Value} {d : Option Addr} {oe : Obj} (e : h.get? a = some oe) (z : Zc cls d oe) (f : ∃ vs, oe.data = .fields vs) : ObjOk P w H h a (ExV cls d a) :=
  ⟨⟨oe, e, z, f⟩, ⟨oe, e⟩, fun _ _ ⟨o, q, r⟩ k => ⟨o, k o q, r⟩⟩
theorem inv_track {X : Cx} {pins : List (Addr × Obj)} {σ : L2.St} {H : Hp} {s : Shared} {a : Addr} {o : HO} (I : Inv X pins σ H s) (na : H a = none) (n0 : X.s_0.heap.get? a = none) (nL : a ≠ X.env.locals) (nC : ∀ x c, X.env.cells.lookup x = some c → c ≠ a) (nP : ∀ p ∈ X.pn ++ pins, p.1 ≠ a) (new : ObjOk X.prog X.w (upd H a o) s.heap a o) :
    Inv X pins σ (upd H a o) s := by
  have n1 : ∀ b u, X.s_0.heap.get? b = some u → b ≠ a := fun b u e z => by rw [z, n0] at e; cases e
  refine ⟨I.ok, I.os, I.bare, ⟨I.base.keep, I.base.slot, fun b u e n hq => ?_, I.base.there, fun b xs e => ?_, fun b u xs e => ?_, fun b ps e => ?_⟩, I.loc, I.cell, ?_, fun x c e => ?_, fun p hp => ?_, I.hok.laidN (fun _ _ e => e) na new, I.len⟩
  · rw [upd_ne (n1 b u e)]
    exact I.base.free b u e n hq
  · have q := I.base.tups b xs e
    rw [upd_ne (ne_of_none q na)]
    exact q
  · have q := I.base.frzs b u xs e
    rw [upd_ne (ne_of_none q na)]
    exact q
  · obtain ⟨m, q⟩ := I.base.tbls b ps e
    exact ⟨m, by rw [upd_ne (ne_of_none q na)]; exact q⟩
  · rw [upd_ne (Ne.symm nL)]
    exact I.free
  · rw [upd_ne (nC x c e)]
    exact I.freeC x c e
  · obtain ⟨e, n, ne, nf, d⟩ := I.pin p hp
    exact ⟨e, by rw [upd_ne (nP p hp)]; exact n, ne, nf, d⟩
/-- what an «except x as n» wishes, the error known behind it -/
def wAsK (K : PySem.W.Frag) (c : Value) (i : Nat) (ts : Addr → Value → Option Addr → TS) (Wout : WX) (D : Ends) : WX := fun cls d σ H =>
  ∃ b, PySem.W.exmOne K cls c = some b ∧ (b = true → ∀ a, H a = none → ts a cls d ⟨fun σ' H' => D.nx (σ'.set i none) (upd H' a (ExV cls d a)), fun v H' => D.rt v (upd H' a (ExV cls d a)), fun σ' H' => D.bk (σ'.set i none) (upd H' a (ExV cls d a)), fun σ' H' => D.ct (σ'.set i none) (upd H' a (ExV cls d a))⟩ (σ.set i (some (.ref a))) H) ∧ (b = false → Wout cls d σ H)
section
variable {X : Cx} {x n : Str} {c : Value} {i : Nat} {body suite : List Stmt} {b₀ : Stmt} {np pos pos' : Pos} {tb : WX → TS} {ts : Addr → Value → Option Addr → TS} {Wout : WX}
theorem ps_try_k (hs : X.stack = X.env :: X.outer) (hf : X.env.frame = some X.env.locals) (hex : X.ex = []) (hN : X.N.Nodup) (hi : X.N[i]? = some n) (hln : X.env.kindOf n = some .local) (hc : Names X x c) (tk : Takes X Wout)
    (hb : ∀ (W : WX) (pn : List (Addr × Obj)) (xe : Value → Shared → Prop), Takes (X.tr pn xe) W → PassesOwn (model X.prog X.w) X.A X.env xe → PSs (X.tr pn xe) body (tb W)) (hsu : ∀ (a : Addr) (oe : Obj) (cls : Value) (d : Option Addr) (pn : List (Addr × Obj)), Zc cls d oe → (∃ vs, oe.data = .fields vs) → PSs (X.suite a ((a, oe) :: pn)) (b₀ :: suite) (ts a cls d)) : PS X (.Try body [.ExceptHandler (some (.Name x np)) (some n) (b₀ :: suite) pos'] [] [] pos) (fun D σ H => tb (wAsK X.K c i ts Wout D) D σ H) := by
  refine ⟨fun pins s σ H D I hw => ?_⟩
  have okX := I.ok
  have frX : X.A.frames = some (X.env :: X.outer) := by rw [okX.frames, hs]
  have lcN : Loc X.env.scope n := .inl hln
  refine wpAny_Try_except (wpAny_mono ((hb (wAsK X.K c i ts Wout D) (X.pn ++ pins) (fun e s₁ => wpAny (model X.prog X.w) X.A (noteFrame e X.env) (fun _ s₂ => wpAny (model X.prog X.w) X.A (setFlight e none) (fun _ s₃ => wpAny (model X.prog X.w) X.A (handleBy e X.env [.ExceptHandler (some (.Name x np)) (some n) (b₀ :: suite) pos']) (SP X pins D) X.xe s₃) X.xe s₂) X.xe s₁) (fun u s' xx => ?_) PassesOwn.looking).run [] s σ H D (I.toTry _) hw) (fun fl s1 hsp => ?_) (fun _ _ he => he))
  · obtain ⟨a, Bg, sI, pins', σ', H', cls, d, rfl, J', nb, up, sky, na, os, ag, b, hb1, hyes, hno⟩ := xx
    have Ja : Inv X pins σ' H' sI := J'.ofTry okX
    have skyE : Sky Bg (X.env :: X.outer) a (Zc cls d) X.env.locals s'.heap := by rw [← hs]; exact sky
    show wpAny (model X.prog X.w) X.A (noteFrame (.ref a) X.env) _ _ _
    refine Sky.land Zc.steady frX hf skyE fun h3 fl3 up3 => ?_
    have Jb : Inv X pins σ' H' { s' with heap := h3 } := Ja.landed nb fl3.1 (up.trans up3) os ag
    obtain ⟨oe3, vs3, he3, hz3, hd3⟩ := fl3.there
    have nfr : a ∉ frs (X.env :: X.outer) := fun hm => by
      obtain ⟨_, o', e', hnf⟩ := fl3.2.2.1.mem hm
      rw [he3] at e'
      cases e'
      exact hnf _ hd3
    have nL : a ≠ X.env.locals := fun z => nfr (List.mem_filterMap.mpr ⟨X.env, List.mem_cons_self, by rw [hf, z]⟩)
    have nF : a ∉ X.fs := fun hm => by
      obtain ⟨e, hem, q⟩ := List.mem_filterMap.mp hm
      exact nfr (List.mem_filterMap.mpr ⟨e, List.mem_cons_of_mem _ hem, q⟩)
    have nB : Bg.get? a = none := fl3.2.1
    have n0 : X.s_0.heap.get? a = none := by
      cases e : X.s_0.heap.get? a with
      | none => rfl
      | some o =>
        obtain ⟨o', q⟩ := Ja.base.there a o e (by rw [hex]; exact fun z => nomatch z)
        have z := nb a o' q (by rw [hs]; exact nfr)
        rw [nB] at z
        cases z
    have nP : ∀ p ∈ X.pn ++ pins, p.1 ≠ a := fun p hp z => by
      obtain ⟨e, _, ne, nf, _⟩ := Ja.pin p hp
      have q := nb p.1 p.2 e (fun hm => by
        rcases List.mem_cons.mp (Ja.stkSub p.1 hm) with y | y
        · exact ne y
        · exact nf y)
      rw [z, nB] at q
      cases q
    have Sb := Jb.suite he3 hd3 na nL nF
    refine wpAny_handleBy_cons (codeAny_handlers_test ?_) (by intro q; cases q)
    have tyA : PySem.W.Looks (model X.prog X.w) h3 (typeOf (.ref a)) cls := fun A Q E s k q => wpAny_typeOf_ref (k _ _ he3) (by rw [hz3.1]; exact q)
    have exA := PySem.W.exm_one (M := model X.prog X.w) (Jb.kIn) tyA hb1
    have nameA : ∀ {Q : Value → Shared → Prop} {E : Value → Shared → Prop}, Q c { s' with heap := h3 } → wpAny (model X.prog X.w) (X.A.mark (some (.ref a))) (eval (.Name x np) X.env) Q E { s' with heap := h3 } := fun {Q E} q => by
      rcases hc with ⟨hg, hdbg, hm | ⟨hm, hv, hnn⟩⟩
      · exact ld_glob (X := X.suite a ((a, oe3) :: (X.pn ++ pins))) Sb hg hm q hdbg
      · exact ld_blt (X := X.suite a ((a, oe3) :: (X.pn ++ pins))) Sb hg hm hv q hnn hdbg
    refine nameA (exA.here ?_)
    cases b with
    | false =>
      show wpAny _ X.A (handleBy (.ref a) X.env []) _ _ _
      refine wpAny_handleBy_nil ?_
      obtain ⟨k1, k2, k3, oe, vs, T, oT, ts', he, hz, hd, h1, hr⟩ := id fl3
      unfold PySem.passOn
      refine wpAny_bind (wpAny_field he hd h1 ?_)
      rw [if_neg (show ¬ ((Value.ref T == Value.none) = true) from by simp)]
      have out : wpAny (model X.prog X.w) X.A (setFlight (.ref a) X.env.frame) (fun _ s4 => wpAny (model X.prog X.w) X.A (throw (.ref a) : Sem Flow) (SP X pins D) X.xe s4) X.xe { s' with heap := h3 } := by
        rw [hf]
        exact HandSPX.setFlight_upZ fl3 fun h4 hh4 up4 => wpAny_throw (tk _ _ ⟨a, Bg, sI, pins, σ', H', cls, d, rfl, Ja, nb, (up.trans up3).trans up4, .inr (.inr (by rw [hs]; exact hh4)), na, os, ag, hno rfl⟩)
      first
        | exact wpAny_bind (wpAny_pure (wpAny_bind out))
        | exact wpAny_bind out
    | true =>
      refine codeAny_handlers_suite_as (HandSPX.lands_againZ fl3 fun h4 fl4 up4 => ?_)
      have Jc : Inv X pins σ' H' { s' with heap := h4 } := Ja.landed nb fl4.1 ((up.trans up3).trans up4) os ag
      obtain ⟨oe4, vs4, he4, hz4, hd4⟩ := fl4.there
      have Sc := Jc.suite he4 hd4 na nL nF
      refine store_ok (X := X.suite a ((a, oe4) :: (X.pn ++ pins))) (v := .ref a) Sc hN hi lcN rfl (fun s5 S5 => ?_) (.inr hln)
      refine wpAny_mono ((hsu a oe4 cls d (X.pn ++ pins) hz4 ⟨_, hd4⟩).run [] s5 _ H' _ S5 (hyes rfl a na)) (fun fl s6 hsp => ?_) (fun _ _ z => False.elim z)
      have fin : ∀ {σ6 : L2.St} {H6 : Hp} {Q : Shared → Prop}, Inv (X.suite a ((a, oe4) :: (X.pn ++ pins))) [] σ6 H6 s6 → (∀ s7, Inv X pins (σ6.set i none) (upd H6 a (ExV cls d a)) s7 → Q s7) → wpAny (model X.prog X.w) X.A (do bindName X.env n .none; unbindBehindTheSuite X.env n pos') (fun _ s7 => Q s7) X.xe s6 := fun {σ6 H6 Q} S6 hq =>
        gone_ok (X := X.suite a ((a, oe4) :: (X.pn ++ pins))) S6 hN hi hln fun s7 S7 => by
          obtain ⟨g7, n7, _, _, _⟩ := S7.pin (a, oe4) (List.mem_append.mpr (.inl List.mem_cons_self))
          have U7 : Inv X pins (σ6.set i none) H6 s7 := S7.unsuite okX
          refine hq s7 (inv_track U7 n7 n0 nL (fun y cc e z => ?_) nP (exV_ok g7 hz4 ⟨_, hd4⟩))
          obtain ⟨v, o, ho, hdo⟩ := U7.cell y cc e
          rw [z, show s7.heap.get? a = some oe4 from g7] at ho
          cases ho
          rw [hd4] at hdo
          cases hdo
      cases fl with
      | next => obtain ⟨σ6, H6, S6, q6⟩ := hsp; exact fin S6 fun s7 J7 => ⟨_, _, J7, q6⟩
      | brk => obtain ⟨σ6, H6, S6, q6⟩ := hsp; exact fin S6 fun s7 J7 => ⟨_, _, J7, q6⟩
      | cont => obtain ⟨σ6, H6, S6, q6⟩ := hsp; exact fin S6 fun s7 J7 => ⟨_, _, J7, q6⟩
      | ret u => obtain ⟨v6, σ6, H6, S6, r6, q6⟩ := hsp; exact fin S6 fun s7 J7 => ⟨_, _, _, J7, r6, q6⟩
  · cases fl with
    | next => obtain ⟨σ', H', J', q⟩ := hsp; exact wpAny_execs_nil ⟨σ', H', J'.ofTry okX, q⟩
    | brk => obtain ⟨σ', H', J', q⟩ := hsp; exact ⟨σ', H', J'.ofTry okX, q⟩
    | cont => obtain ⟨σ', H', J', q⟩ := hsp; exact ⟨σ', H', J'.ofTry okX, q⟩
    | ret u => obtain ⟨v, σ', H', J', r, q⟩ := hsp; exact ⟨v, σ', H', J'.ofTry okX, r, q⟩
end
/-! isinstance of such an error -/
theorem inst_of {X : Cx} {pins : List (Addr × Obj)} {σ : L2.St} {H : Hp} {s : Shared} {a C : Addr} (I : Inv X pins σ H s) (h : H a = some (ExV (.ref C) none a)) : ∃ oe, PySem.W.InstAt s.heap a oe C none := by
  obtain ⟨⟨oe, g, ⟨h1, h2⟩, vs, hv⟩, _, _⟩ := I.hok a _ h
  obtain ⟨oc, od, oda, osl⟩ := oe
  dsimp only at h1 h2 hv
  subst h1 h2 hv
  exact ⟨_, g, rfl, rfl, trivial⟩
/-- types, errors among them -/
inductive TyZ (K : PySem.W.Frag) (H : Hp) : V → Value → Prop where
  | x {v : V} {t : Value} (h : TyX K H v t) : TyZ K H v t
  | exc {a C : Addr} (h : H a = some (ExV (.ref C) none a)) (c : ExcC K C) : TyZ K H (.ref a) (.ref C)
theorem kitz_of {X : Cx} {pins : List (Addr × Obj)} {σ : L2.St} {H : Hp} {s : Shared} {v : V} {u t : Value} (I : Inv X pins σ H s) (rv : RelV v u) (ty : TyZ X.K H v t) : ∃ Pz : Heap → Prop, PySem.W.KitX X.K u t Pz ∧ Pz s.heap ∧ u ≠ .builtin "__main__.__loader__#opaque" := by
  cases ty with
  | x h => exact kit_of I rv h
  | @exc a C h c =>
    cases (show u = Value.ref a from rv)
    obtain ⟨oe, J⟩ := inst_of I h
    exact ⟨_, PySem.W.handS_kitx_exc c.hg c.hk c.hs c.hd c.ha c.hn c.ht c.hm, J, fun z => nomatch z⟩
def rIsZ (K : PySem.W.Frag) : List V → Hp → VK → Prop := fun xs H Q => ∃ (v c : V) (t u : Value) (b : Bool), xs = [v, c] ∧ ClsV c u ∧ TyZ K H v t ∧ PySem.W.kitOne K t u = some b ∧ Q (.bl b) H
def rIsZT (K : PySem.W.Frag) : List V → Hp → VK → Prop := fun xs H Q => ∃ (v : V) (tp : Addr) (cs : List V) (t : Value) (us : List Value) (b : Bool), xs = [v, .ref tp] ∧ H tp = some (.tup cs) ∧ Paired ClsV cs us ∧ TyZ K H v t ∧ PySem.W.kitAny K t us = some b ∧ Q (.bl b) H
theorem call_isZ {X : Cx} : CallR X (.builtin "isinstance") (rIsZ X.K) := by
  intro pins s σ H xs us Q I r h
  obtain ⟨v, c, t, u, b, rfl, k, ty, e, q⟩ := h
  obtain ⟨w1, w2, rfl, r1, r2⟩ := vals2 r
  obtain rfl := k.eq r2
  obtain ⟨Pz, Z, p, hx⟩ := kitz_of I r1 ty
  exact PySem.W.kia_one Z I.kIn p e hx fun tk => ⟨.bl b, H, I.tok tk, rfl, q⟩
theorem call_isZT {X : Cx} : CallR X (.builtin "isinstance") (rIsZT X.K) := by
  intro pins s σ H xs us Q I r h
  obtain ⟨v, tp, cs, t, ws, b, rfl, hT, k, ty, e, q⟩ := h
  obtain ⟨w1, w2, rfl, r1, r2⟩ := vals2 r
  cases (show w2 = Value.ref tp from r2)
  obtain ⟨Pz, Z, p, hx⟩ := kitz_of I r1 ty
  obtain ⟨_, its, rv, ob, h1, h2, n, h3⟩ := (show ObjOk X.prog X.w H s.heap tp (.tup cs) from I.hok tp _ hT)
  obtain rfl := ClsV.all k rv
  obtain ⟨oc, od, dt, sl⟩ := ob
  simp only at h2 h3
  subst h2 h3
  exact PySem.W.kia_tup Z I.kIn p h1 e hx fun tk => ⟨.bl b, H, I.tok tk, rfl, q⟩
end Fo
namespace Fo
open PySem PySem.Spec PyProof.Rows L2
/-! isinstance of the error that the suite holds, whatever class it has -/
def rIsP (K : PySem.W.Frag) (a : Addr) (cls : Value) (d : Option Addr) : List V → Hp → VK → Prop := fun xs H Q => ∃ (C : Addr) (c : V) (u : Value) (b : Bool), cls = .ref C ∧ d = none ∧ ExcC K C ∧ xs = [.ref a, c] ∧ ClsV c u ∧ PySem.W.kitOne K (.ref C) u = some b ∧ Q (.bl b) H
def rIsPT (K : PySem.W.Frag) (a : Addr) (cls : Value) (d : Option Addr) : List V → Hp → VK → Prop := fun xs H Q => ∃ (C : Addr) (tp : Addr) (cs : List V) (us : List Value) (b : Bool), cls = .ref C ∧ d = none ∧ ExcC K C ∧ xs = [.ref a, .ref tp] ∧ H tp = some (.tup cs) ∧ Paired ClsV cs us ∧ PySem.W.kitAny K (.ref C) us = some b ∧ Q (.bl b) H
theorem inst_pin {X : Cx} {pins pn : List (Addr × Obj)} {σ : L2.St} {H : Hp} {s : Shared} {a C : Addr} {oe : Obj} (I : Inv (X.suite a ((a, oe) :: pn)) pins σ H s) (hz : Zc (.ref C) none oe) (hf : ∃ vs, oe.data = .fields vs) : PySem.W.InstAt s.heap a oe C none := by
  obtain ⟨hget, _⟩ := I.pin (a, oe) (List.mem_append.mpr (.inl List.mem_cons_self))
  obtain ⟨vs, hv⟩ := hf
  obtain ⟨oc, od, oda, osl⟩ := oe
  obtain ⟨h1, h2⟩ := hz
  dsimp only at h1 h2 hv
  subst h1 h2 hv
  exact ⟨hget, rfl, rfl, trivial⟩
theorem call_isP {X : Cx} {a : Addr} {cls : Value} {d : Option Addr} {oe : Obj} {pn : List (Addr × Obj)} (hz : Zc cls d oe) (hf : ∃ vs, oe.data = .fields vs) : CallR (X.suite a ((a, oe) :: pn)) (.builtin "isinstance") (rIsP X.K a cls d) := by
  intro pins s σ H xs us Q I r h
  obtain ⟨C, c, u, b, rfl, rfl, ec, rfl, k, e, q⟩ := h
  obtain ⟨w1, w2, rfl, r1, r2⟩ := vals2 r
  obtain rfl := k.eq r2
  cases (show w1 = Value.ref a from r1)
  exact PySem.W.kia_one (PySem.W.handS_kitx_exc ec.hg ec.hk ec.hs ec.hd ec.ha ec.hn ec.ht ec.hm) I.kIn (inst_pin I hz hf) e (fun z => nomatch z) fun tk => ⟨.bl b, H, I.tok tk, rfl, q⟩
theorem call_isPT {X : Cx} {a : Addr} {cls : Value} {d : Option Addr} {oe : Obj} {pn : List (Addr × Obj)} (hz : Zc cls d oe) (hf : ∃ vs, oe.data = .fields vs) : CallR (X.suite a ((a, oe) :: pn)) (.builtin "isinstance") (rIsPT X.K a cls d) := by
  intro pins s σ H xs us Q I r h
  obtain ⟨C, tp, cs, ws, b, rfl, rfl, ec, rfl, hT, k, e, q⟩ := h
  obtain ⟨w1, w2, rfl, r1, r2⟩ := vals2 r
  cases (show w1 = Value.ref a from r1)
  cases (show w2 = Value.ref tp from r2)
  obtain ⟨_, its, rv, ob, h1, h2, n, h3⟩ := (show ObjOk _ _ H s.heap tp (.tup cs) from I.hok tp _ hT)
  obtain rfl := ClsV.all k rv
  obtain ⟨oc, od, dt, sl⟩ := ob
  simp only at h2 h3
  subst h2 h3
  exact PySem.W.kia_tup (PySem.W.handS_kitx_exc ec.hg ec.hk ec.hs ec.hd ec.ha ec.hn ec.ht ec.hm) I.kIn (inst_pin I hz hf) h1 e (fun z => nomatch z) fun tk => ⟨.bl b, H, I.tok tk, rfl, q⟩
theorem ix_listP {X : Cx} {a : Addr} {pn : List (Addr × Obj)} : IxR (X.suite a pn) (rIxL X.K) := ix_list
/-- none of several classes -/
theorem any_no {K : PySem.W.Frag} {t : Value} : ∀ {us : List Value}, (∀ u ∈ us, PySem.W.kitOne K t u = some false) → PySem.W.kitAny K t us = some false
  | [], _ => rfl
  | u :: r, h => by
    unfold PySem.W.kitAny
    rw [h u List.mem_cons_self]
    exact any_no fun x hx => h x (List.mem_cons_of_mem _ hx)
theorem any_yes {K : PySem.W.Frag} {t u : Value} : ∀ {us : List Value}, (∀ u ∈ us, ∃ b, PySem.W.kitOne K t u = some b) → u ∈ us → PySem.W.kitOne K t u = some true → PySem.W.kitAny K t us = some true
  | [], _, h, _ => absurd h List.not_mem_nil
  | w :: r, h, hu, e => by
    unfold PySem.W.kitAny
    obtain ⟨b, hb⟩ := h w List.mem_cons_self
    rw [hb]
    cases b with
    | true => rfl
    | false =>
      rcases List.mem_cons.mp hu with rfl | hu
      · rw [hb] at e
        cases e
      · exact any_yes (fun x hx => h x (List.mem_cons_of_mem _ hx)) hu e
end Fo
namespace Fo
open PySem PySem.Spec PyProof.Rows L2
/-! things of any kind, as data; repr of them -/
def keyD : Key → PyData
  | .inl i => .int i
  | .inr x => .str x
inductive Kvs : List (Key × V) → List (PyData × PyData) → Prop
  | nil : Kvs [] []
  | cons {k : Key} {i : Int} {r : List (Key × V)} {s : List (PyData × PyData)} : Kvs r s → Kvs ((k, .int i) :: r) ((keyD k, .int i) :: s)
mutual
inductive Dq (H : Hp) : V → PyData → Prop
  | non : Dq H .non .none
  | bl (b : Bool) : Dq H (.bl b) (.bool b)
  | int (i : Int) : Dq H (.int i) (.int i)
  | str (x : Str) : Dq H (.str x) (.str x)
  | lst {a : Addr} {xs : List V} {ds : List PyData} : H a = some (.lst xs) → DqAll H xs ds → Dq H (.ref a) (.list ds)
  | tup {a : Addr} {xs : List V} {ds : List PyData} : H a = some (.tup xs) → DqAll H xs ds → Dq H (.ref a) (.tuple ds)
  | dic {a : Addr} {kvs : List (Key × V)} {ks : List (PyData × PyData)} : H a = some (.dK kvs) → Kvs kvs ks → Dq H (.ref a) (.dict ks)
inductive DqAll (H : Hp) : List V → List PyData → Prop
  | nil : DqAll H [] []
  | cons {v : V} {vs : List V} {d : PyData} {ds : List PyData} : Dq H v d → DqAll H vs ds → DqAll H (v :: vs) (d :: ds)
end
mutual
theorem Dq.keep {H H' : Hp} (k : ∀ b o, H b = some o → H' b = some o) : ∀ (d : PyData) (v : V), Dq H v d → Dq H' v d
  | .none, _, h => by cases h; exact .non
  | .bool b, _, h => by cases h; exact .bl b
  | .int i, _, h => by cases h; exact .int i
  | .str x, _, h => by cases h; exact .str x
  | .list ds, _, h => by
    cases h with
    | lst e a => exact .lst (k _ _ e) (DqAll.keep k ds _ a)
  | .tuple ds, _, h => by
    cases h with
    | tup e a => exact .tup (k _ _ e) (DqAll.keep k ds _ a)
  | .dict ks, _, h => by
    cases h with
    | dic e a => exact .dic (k _ _ e) a
theorem DqAll.keep {H H' : Hp} (k : ∀ b o, H b = some o → H' b = some o) : ∀ (ds : List PyData) (vs : List V), DqAll H vs ds → DqAll H' vs ds
  | [], _, h => by cases h; exact .nil
  | d :: ds, _, h => by
    cases h with
    | cons h1 h2 => exact .cons (Dq.keep k d _ h1) (DqAll.keep k ds _ h2)
end
theorem Dq.same {H H' : Hp} {d : PyData} {v : V} (h : Dq H v d) (s : Same H H') : Dq H' v d := Dq.keep s d v h
theorem DqAll.same {H H' : Hp} {ds : List PyData} {vs : List V} (h : DqAll H vs ds) (s : Same H H') : DqAll H' vs ds := DqAll.keep s ds vs h
theorem DqAll.len {H : Hp} : ∀ {ds : List PyData} {vs : List V}, DqAll H vs ds → vs.length = ds.length
  | [], _, h => by cases h; rfl
  | d :: ds, _, h => by
    cases h with
    | cons h1 h2 => rw [List.length_cons, List.length_cons, DqAll.len h2]
theorem DqAll.get {H : Hp} : ∀ {ds : List PyData} {vs : List V} {i : Nat} {v : V}, DqAll H vs ds → vs[i]? = some v → ∃ d, ds[i]? = some d ∧ Dq H v d
  | [], _, i, v, h, e => by cases h; simp at e
  | d :: ds, _, 0, v, h, e => by
    cases h with
    | cons h1 h2 =>
      cases (Option.some.inj e)
      exact ⟨d, rfl, h1⟩
  | d :: ds, _, i + 1, v, h, e => by
    cases h with
    | cons h1 h2 => exact DqAll.get (i := i) h2 e
theorem DqAll.app {H : Hp} : ∀ {ds es : List PyData} {vs us : List V}, DqAll H vs ds → DqAll H us es → DqAll H (vs ++ us) (ds ++ es)
  | [], _, _, _, h, g => by cases h; exact g
  | d :: ds, _, _, _, h, g => by
    cases h with
    | cons h1 h2 => exact .cons h1 (DqAll.app h2 g)
theorem DqAll.take {H : Hp} : ∀ {ds : List PyData} {vs : List V} (n : Nat), DqAll H vs ds → DqAll H (vs.take n) (ds.take n)
  | [], _, n, h => by cases h; rw [List.take_nil, List.take_nil]; exact .nil
  | d :: ds, _, 0, h => .nil
  | d :: ds, _, n + 1, h => by
    cases h with
    | cons h1 h2 => exact .cons h1 (DqAll.take n h2)
theorem DqAll.drop {H : Hp} : ∀ {ds : List PyData} {vs : List V} (n : Nat), DqAll H vs ds → DqAll H (vs.drop n) (ds.drop n)
  | [], _, n, h => by cases h; rw [List.drop_nil, List.drop_nil]; exact .nil
  | d :: ds, _, 0, h => h
  | d :: ds, _, n + 1, h => by
    cases h with
    | cons h1 h2 => exact DqAll.drop n h2
theorem dq_ints {H : Hp} : ∀ ns : List Int, DqAll H (ns.map V.int) (ns.map PyData.int)
  | [] => .nil
  | n :: r => .cons (.int n) (dq_ints r)
theorem dq_list {H : Hp} {a : Addr} {ns : List Int} (h : H a = some (.lst (ns.map V.int))) : Dq H (.ref a) (.list (ns.map PyData.int)) := .lst h (dq_ints ns)
section
variable {X : Cx} {pins : List (Addr × Obj)} {σ : L2.St} {H : Hp} {s : Shared}
theorem not_sys (I : Inv X pins σ H s) (z : SysAt X.base) {a : Addr} {o : HO} (e : H a = some o) : sysModules ≠ a := fun q => by
  obtain ⟨ob, eb⟩ := z
  have := (I.env0.bs _ _ eb).2
  rw [q, e] at this
  cases this
theorem kvs_reads (h : Heap) : ∀ {kvs : List (Key × V)} {ks : List (PyData × PyData)} {vs : List (Key × Value)} {es : List DictEntry}, Kvs kvs ks → KV kvs vs → Pairs (mixKind X.prog X.w) es vs → ReadsAll h (es.map (·.key)) (ks.map (·.1)) [] ∧ ReadsAll h (es.map (·.val)) (ks.map (·.2)) []
  | [], _, _, _, q, r, p => by
    cases q
    cases r
    cases p
    exact ⟨.nil, .nil⟩
  | kv :: kvs, _, _, _, q, r, p => by
    cases q with
    | cons q' =>
      cases r with
      | cons r1 r2 =>
        cases p with
        | cons p1 p2 =>
          obtain ⟨hk, hv⟩ := r1
          obtain ⟨t1, t2⟩ := kvs_reads h q' r2 (by assumption)
          obtain ⟨tv, ev⟩ := hv
          rename_i kk ii ss bb l2 ee ees p3
          have e1 : ∃ u, Reads h ee.key (keyD kk) u ∧ u = [] := by
            have p1' : keyIs bb.1 ee.key = true := p1
            rw [← hk] at p1'
            rcases keyIs_shape p1' with ⟨i, t, a1, a2⟩ | ⟨x, t, a1, a2⟩
            · have a1 : kk = Sum.inl i := a1
              rw [a2, a1]
              exact ⟨_, .int i t, rfl⟩
            · have a1 : kk = Sum.inr x := a1
              rw [a2, a1]
              exact ⟨_, .str x t, rfl⟩
          obtain ⟨_, e1, rfl⟩ := e1
          refine ⟨ReadsAll.cons e1 t1, ReadsAll.cons (as := []) (d := .int ii) ?_ t2⟩
          show Reads h ee.val _ _
          rw [p2, ev]
          exact .int ii tv
mutual
theorem Dq.reads (I : Inv X pins σ H s) (z : SysAt X.base) : ∀ (d : PyData) (v : V) (u : Value), Dq H v d → RelV v u → ∃ as, Reads s.heap u d as ∧ sysModules ∉ as
  | .none, _, _, h, r => by
    cases h
    cases r
    exact ⟨_, .none, List.not_mem_nil⟩
  | .bool b, _, _, h, r => by
    cases h
    cases r
    exact ⟨_, .bool b, List.not_mem_nil⟩
  | .int i, _, _, h, r => by
    cases h
    obtain ⟨t, rfl⟩ := r
    exact ⟨_, .int i t, List.not_mem_nil⟩
  | .str x, _, _, h, r => by
    cases h
    obtain ⟨t, rfl⟩ := r
    exact ⟨_, .str x t, List.not_mem_nil⟩
  | .list ds, _, _, h, r => by
    cases h with
    | lst e ha =>
      cases r
      obtain ⟨its, rv, ⟨o, n, ho, hc, _, hd⟩, _⟩ := I.list (SqL.of e)
      obtain ⟨as, hr, hn⟩ := Dq.readsAll I z ds _ its ha rv
      exact ⟨_, .list ho hc hd hr, fun q => by
        rcases List.mem_cons.mp q with q | q
        · exact not_sys I z e q
        · exact hn q⟩
  | .tuple ds, _, _, h, r => by
    cases h with
    | tup e ha =>
      cases r
      obtain ⟨its, rv, ⟨o, ho, hc, n, hd⟩, _⟩ := I.tuple (SqT.of e)
      obtain ⟨as, hr, hn⟩ := Dq.readsAll I z ds _ its ha rv
      exact ⟨_, .tuple ho hc hd hr, hn⟩
  | .dict ks, _, _, h, r => by
    cases h with
    | dic e hk =>
      cases r
      obtain ⟨_, nsys, vs, rel, dof⟩ := dk_of I.hok e
      obtain ⟨ep, ob, es, ho, exd, hdat, hko, hpr, hnd⟩ := dof.dictAt
      obtain ⟨r1, r2⟩ := kvs_reads (X := X) s.heap hk rel hpr
      exact ⟨_, .dict ho exd.1 hdat r1 r2, fun q => by
        rcases List.mem_cons.mp q with q | q
        · exact not_sys I z e q
        · cases q⟩
theorem Dq.readsAll (I : Inv X pins σ H s) (z : SysAt X.base) : ∀ (ds : List PyData) (vs : List V) (us : List Value), DqAll H vs ds → Vals vs us → ∃ as, ReadsAll s.heap us ds as ∧ sysModules ∉ as
  | [], _, _, h, r => by
    cases h
    cases r
    exact ⟨_, .nil, List.not_mem_nil⟩
  | d :: ds, _, _, h, r => by
    cases h with
    | cons h1 h2 =>
      cases r with
      | cons r1 r2 =>
        obtain ⟨as, q1, n1⟩ := Dq.reads I z d _ _ h1 r1
        obtain ⟨bs, q2, n2⟩ := Dq.readsAll I z ds _ _ h2 r2
        exact ⟨_, .cons q1 q2, fun q => by
          rcases List.mem_append.mp q with q | q
          · exact n1 q
          · exact n2 q⟩
end
/-- fit to be shown -/
structure Rp (m : Nat) (d : PyData) : Prop where
  show' : d.showable = true
  len : d.shown.length ≤ m
  dep : d.depth ≤ 20
/-- repr of a thing -/
def rReprD : List V → Hp → VK → Prop := fun xs H Q => ∃ (v : V) (d : PyData) (m : Nat), xs = [v] ∧ Dq H v d ∧ Rp m d ∧ m ≤ 16777216 ∧ Q (.str d.shown) H
theorem call_reprD {k : Nat} (g : X.A.guards = some []) (rm : Room k X.A) (z : SysAt X.base) : CallR X (.builtin "repr") rReprD := by
  intro pins s σ H xs us Q I r h
  obtain ⟨v, d, m, rfl, hd, rp, hm, q⟩ := h
  obtain ⟨u, rfl, ru⟩ := vals1 r
  have hun := rm.un
  have hdp := rp.dep
  have hsz : d.shown.length ≤ sizeLine := by rw [sizeLine_eq]; exact Nat.le_trans rp.len hm
  obtain ⟨as, rd, ns⟩ := Dq.reads I z d v u hd ru
  have big : ∀ {a : Addr}, u = .ref a → wpAny (model X.prog X.w) X.A (PySem.call (.builtin "repr") [u]) (EP X pins σ Q) X.xe s := fun {a} e => by
    subst e
    exact repr_of_reads' rd rp.show' (fun _ => ns) g (by omega) (fun _ _ e => e) (fun h' tk' tk kp => ⟨.str d.shown, H, I.kept (t' := tk) kp, ⟨_, rfl⟩, q⟩) hsz
  cases hd with
  | non =>
    cases ru
    have e : PyData.shown .none = "None" := by rw [PyData.shown]
    rw [e] at q
    exact PySem.P.repr_of_none ⟨.str _, H, I.tok _, ⟨_, rfl⟩, q⟩
  | bl b =>
    cases ru
    have e : PyData.shown (.bool b) = (if b = true then Str.ofString "True" else Str.ofString "False") := by rw [PyData.shown]
    rw [e] at q
    exact PySem.P.repr_of_bool ⟨.str _, H, I.tok _, ⟨_, rfl⟩, q⟩
  | int i =>
    obtain ⟨t, rfl⟩ := ru
    have e : PyData.shown (.int i) = Str.ofString (toString i) := by rw [PyData.shown]
    rw [e] at q
    exact PySem.P.repr_of_int (by have := rp.show'; rw [PyData.showable] at this; exact of_decide_eq_true this) ⟨.str _, H, I.tok _, ⟨_, rfl⟩, q⟩
  | str x =>
    obtain ⟨t, rfl⟩ := ru
    have e : PyData.shown (.str x) = reprText x := by rw [PyData.shown]
    rw [e] at q hsz
    exact PySem.P.repr_of_str ⟨.str _, H, I.tok _, ⟨_, rfl⟩, q⟩ hsz
  | lst e _ => exact big ru
  | tup e _ => exact big ru
  | dic e _ => exact big ru
end
/-! how long the texts are -/
theorem textFrom_le : ∀ (ts : List Str) (k : Nat) (acc : Str), (textFrom k acc ts).length ≤ acc.length + piled ts
  | [], k, acc => by rw [textFrom]; exact Nat.le_add_right _ _
  | t :: ts, k, acc => by
    rw [textFrom, piled_cons]
    have := textFrom_le ts (k + 1) (acc ++ Str.ofString (if k > 0 then ", " else "") ++ t)
    have e : (Str.ofString (if k > 0 then ", " else "")).length ≤ 2 := by split <;> decide
    rw [strLen_append, strLen_append] at this
    omega
theorem listText_le (ts : List Str) : (listText ts).length ≤ piled ts + 2 := by
  unfold listText
  have := textFrom_le ts 0 (Str.ofString "[")
  rw [strLen_append]
  have e1 : (Str.ofString "[").length = 1 := rfl
  have e2 : (Str.ofString "]").length = 1 := rfl
  omega
theorem piled_le : ∀ {ts : List Str} {m : Nat}, (∀ t ∈ ts, t.length ≤ m) → piled ts ≤ ts.length * (m + 2)
  | [], m, _ => by rw [piled_nil]; exact Nat.zero_le _
  | t :: ts, m, h => by
    rw [piled_cons, List.length_cons, Nat.succ_mul]
    have h1 := piled_le (ts := ts) fun x hx => h x (List.mem_cons_of_mem _ hx)
    have h2 := h t List.mem_cons_self
    omega
theorem join_le (ts : List Str) : (Str.join ", " ts).length ≤ piled ts := by
  by_cases h : ts = []
  · subst h
    decide
  · have := join_length_add ts h
    omega
theorem shownAll_eq : ∀ xs : List PyData, PyData.shownAll xs = xs.map PyData.shown
  | [] => by rw [PyData.shownAll]; rfl
  | x :: xs => by rw [PyData.shownAll, shownAll_eq xs]; rfl
theorem showableAll_of : ∀ {xs : List PyData}, (∀ x ∈ xs, PyData.showable x = true) → PyData.showableAll xs = true
  | [], _ => by rw [PyData.showableAll]
  | x :: xs, h => by rw [PyData.showableAll, h x List.mem_cons_self, showableAll_of fun y hy => h y (List.mem_cons_of_mem _ hy)]; rfl
theorem depthAll_of : ∀ {xs : List PyData} {k : Nat}, (∀ x ∈ xs, PyData.depth x ≤ k) → PyData.depthAll xs ≤ k
  | [], _, _ => by rw [PyData.depthAll]; exact Nat.zero_le _
  | x :: xs, k, h => by
    rw [PyData.depthAll]
    have h1 := h x List.mem_cons_self
    have h2 := depthAll_of fun y hy => h y (List.mem_cons_of_mem _ hy)
    exact Nat.max_le.mpr ⟨h1, h2⟩
/-- shown in m signs, k deep -/
structure Rq (m k : Nat) (d : PyData) : Prop where
  s : d.showable = true
  l : d.shown.length ≤ m
  d : d.depth ≤ k
theorem Rq.rp {m k : Nat} {d : PyData} (h : Rq m k d) (hk : k ≤ 20) : Rp m d := ⟨h.s, h.l, Nat.le_trans h.d hk⟩
theorem Rq.mono {m k m' k' : Nat} {d : PyData} (h : Rq m k d) (hm : m ≤ m') (hk : k ≤ k') : Rq m' k' d := ⟨h.s, Nat.le_trans h.l hm, Nat.le_trans h.d hk⟩
theorem rq_none : Rq 110 0 .none := ⟨by rw [PyData.showable], by rw [PyData.shown]; decide, by rw [PyData.depth]; exact Nat.le_refl _⟩
theorem rq_bool (b : Bool) : Rq 110 0 (.bool b) := ⟨by rw [PyData.showable], by rw [PyData.shown]; cases b <;> decide, by rw [PyData.depth]; exact Nat.le_refl _⟩
theorem rq_int {i : Int} (h : i.natAbs.log2 < 100) : Rq 110 0 (.int i) := by
  refine ⟨by rw [PyData.showable]; exact decide_eq_true (by omega), ?_, by rw [PyData.depth]; exact Nat.le_refl _⟩
  rw [PyData.shown]
  have := int_text_length_le (k := 100) (by decide) h
  show (Str.ofString (toString i)).length ≤ 110
  rw [PySem.ofString_length]
  omega
theorem rq_str {x : Str} (h : (reprText x).length ≤ 110) : Rq 110 0 (.str x) := ⟨by rw [PyData.showable], by rw [PyData.shown]; exact h, by rw [PyData.depth]; exact Nat.le_refl _⟩
theorem rq_list {xs : List PyData} {m k n : Nat} (h : ∀ x ∈ xs, Rq m k x) (hn : xs.length ≤ n) : Rq (n * (m + 2) + 2) (k + 1) (.list xs) := by
  refine ⟨by rw [PyData.showable]; exact showableAll_of fun x hx => (h x hx).s, ?_, by rw [PyData.depth]; exact Nat.succ_le_succ (depthAll_of fun x hx => (h x hx).d)⟩
  rw [PyData.shown, shownAll_eq]
  have h1 := listText_le (xs.map PyData.shown)
  have h2 := piled_le (ts := xs.map PyData.shown) (m := m) fun t ht => by
    obtain ⟨x, hx, rfl⟩ := List.mem_map.mp ht
    exact (h x hx).l
  rw [List.length_map] at h2
  have h3 := Nat.mul_le_mul_right (m + 2) hn
  omega
theorem rq_tup {xs : List PyData} {m k n : Nat} (h : ∀ x ∈ xs, Rq m k x) (hn : xs.length ≤ n) : Rq (n * (m + 2) + 3) (k + 1) (.tuple xs) := by
  refine ⟨by rw [PyData.showable]; exact showableAll_of fun x hx => (h x hx).s, ?_, by rw [PyData.depth]; exact Nat.succ_le_succ (depthAll_of fun x hx => (h x hx).d)⟩
  rw [PyData.shown, shownAll_eq]
  unfold tupleText
  rw [strLen_append, strLen_append]
  have h1 := join_le (xs.map PyData.shown)
  have h2 := piled_le (ts := xs.map PyData.shown) (m := m) fun t ht => by
    obtain ⟨x, hx, rfl⟩ := List.mem_map.mp ht
    exact (h x hx).l
  rw [List.length_map] at h2
  have h3 := Nat.mul_le_mul_right (m + 2) hn
  have e1 : (Str.ofString "(").length = 1 := rfl
  have e2 : (Str.ofString (if ((xs.map PyData.shown).length == 1) = true then ",)" else ")")).length ≤ 2 := by split <;> decide
  omega
theorem showableKv_of : ∀ {ks : List (PyData × PyData)}, (∀ p ∈ ks, PyData.showable p.1 = true ∧ PyData.showable p.2 = true) → PyData.showableKv ks = true
  | [], _ => by rw [PyData.showableKv]
  | (a, b) :: ks, h => by
    obtain ⟨h1, h2⟩ := h (a, b) List.mem_cons_self
    rw [PyData.showableKv, h1, h2, showableKv_of fun y hy => h y (List.mem_cons_of_mem _ hy)]
    rfl
theorem depthKv_of : ∀ {ks : List (PyData × PyData)} {k : Nat}, (∀ p ∈ ks, PyData.depth p.1 ≤ k ∧ PyData.depth p.2 ≤ k) → PyData.depthKv ks ≤ k
  | [], _, _ => by rw [PyData.depthKv]; exact Nat.zero_le _
  | (a, b) :: ks, k, h => by
    rw [PyData.depthKv]
    obtain ⟨h1, h3⟩ := h (a, b) List.mem_cons_self
    exact Nat.max_le.mpr ⟨Nat.max_le.mpr ⟨h1, h3⟩, depthKv_of fun y hy => h y (List.mem_cons_of_mem _ hy)⟩
theorem shownKv_map : ∀ ks : List (PyData × PyData), PyData.shownKv ks = ks.map fun p => p.1.shown ++ Str.ofString ": " ++ p.2.shown
  | [] => by rw [PyData.shownKv]; rfl
  | (a, b) :: ks => by rw [PyData.shownKv, shownKv_map ks]; rfl
theorem rq_dict {ks : List (PyData × PyData)} {m k n : Nat} (h : ∀ p ∈ ks, Rq m k p.1 ∧ Rq m k p.2) (hn : ks.length ≤ n) : Rq (n * (2 * m + 4) + 2) (k + 1) (.dict ks) := by
  refine ⟨by rw [PyData.showable]; exact showableKv_of fun p hp => ⟨(h p hp).1.s, (h p hp).2.s⟩, ?_, by rw [PyData.depth]; exact Nat.succ_le_succ (depthKv_of fun p hp => ⟨(h p hp).1.d, (h p hp).2.d⟩)⟩
  rw [PyData.shown, shownKv_map]
  unfold dictText
  rw [strLen_append, strLen_append]
  have h1 := join_le (ks.map fun p => p.1.shown ++ Str.ofString ": " ++ p.2.shown)
  have h2 := piled_le (ts := ks.map fun p => p.1.shown ++ Str.ofString ": " ++ p.2.shown) (m := 2 * m + 2) fun t ht => by
    obtain ⟨p, hp, rfl⟩ := List.mem_map.mp ht
    have a1 := (h p hp).1.l
    have a2 := (h p hp).2.l
    have e3 : (Str.ofString ": ").length = 2 := rfl
    rw [strLen_append, strLen_append]
    omega
  rw [List.length_map, show 2 * m + 2 + 2 = 2 * m + 4 by omega] at h2
  have h3 := Nat.mul_le_mul_right (2 * m + 4) hn
  have e1 : (Str.ofString "{").length = 1 := rfl
  have e2 : (Str.ofString "}").length = 1 := rfl
  omega
end Fo
namespace Fo
open PySem PySem.Spec PyProof.Rows L2
/-! dict(enumerate(xs)) of a list of ints -/
def enumKV : Nat → List Int → List (Key × V)
  | _, [] => []
  | i, x :: r => (.inl (i : Int), .int x) :: enumKV (i + 1) r
theorem enumKV_len : ∀ (i : Nat) (ns : List Int), (enumKV i ns).length = ns.length
  | _, [] => rfl
  | i, x :: r => by rw [enumKV, List.length_cons, List.length_cons, enumKV_len (i + 1) r]
def enumD : Nat → List Int → List (PyData × PyData)
  | _, [] => []
  | i, x :: r => (.int (i : Int), .int x) :: enumD (i + 1) r
theorem enumD_len : ∀ (i : Nat) (ns : List Int), (enumD i ns).length = ns.length
  | _, [] => rfl
  | i, x :: r => by rw [enumD, List.length_cons, List.length_cons, enumD_len (i + 1) r]
theorem enum_kvs : ∀ (i : Nat) (ns : List Int), Kvs (enumKV i ns) (enumD i ns)
  | _, [] => .nil
  | i, x :: r => .cons (k := .inl (i : Int)) (enum_kvs (i + 1) r)
theorem enumD_mem : ∀ {i : Nat} {ns : List Int} {p : PyData × PyData}, p ∈ enumD i ns → ∃ (j : Nat) (x : Int), p = (.int (j : Int), .int x) ∧ j < i + ns.length ∧ x ∈ ns
  | _, [], _, h => absurd h List.not_mem_nil
  | i, x :: r, p, h => by
    rcases List.mem_cons.mp h with h | h
    · exact ⟨i, x, h, by rw [List.length_cons]; omega, List.mem_cons_self⟩
    · obtain ⟨j, y, e, hj, hy⟩ := enumD_mem h
      exact ⟨j, y, e, by rw [List.length_cons]; omega, List.mem_cons_of_mem _ hy⟩
theorem merge_enum : ∀ (ns : List Int) (acc : List (Key × V)) (i : Nat), (∀ p ∈ acc, ∃ j : Nat, p.1 = .inl (j : Int) ∧ j < i) → mergeK acc (enumKV i ns) = acc ++ enumKV i ns
  | [], acc, i, _ => by
    rw [enumKV, List.append_nil]
    rfl
  | x :: r, acc, i, h => by
    have e : valV acc (.inl (i : Int)) = none := by
      unfold valV
      rw [Option.map_eq_none_iff, List.find?_eq_none]
      intro p hp hd
      obtain ⟨j, ej, hj⟩ := h p hp
      have := of_decide_eq_true hd
      rw [ej] at this
      injection this with this
      omega
    show mergeK (putK acc (.inl (i : Int)) (.int x)) (enumKV (i + 1) r) = _
    rw [putK_new _ e, merge_enum r _ (i + 1) (fun p hp => ?_), List.append_assoc]
    · rfl
    · rcases List.mem_append.mp hp with hp | hp
      · obtain ⟨j, ej, hj⟩ := h p hp
        exact ⟨j, ej, by omega⟩
      · rw [List.mem_singleton.mp hp]
        exact ⟨i, rfl, by omega⟩
/-- what the dict holds, by the list's own values -/
def enumV : Nat → List Value → List (Key × Value)
  | _, [] => []
  | i, x :: r => (.inl (i : Int), x) :: enumV (i + 1) r
theorem enumV_len : ∀ (i : Nat) (us : List Value), (enumV i us).length = us.length
  | _, [] => rfl
  | i, x :: r => by rw [enumV, List.length_cons, List.length_cons, enumV_len (i + 1) r]
theorem enumV_at : ∀ {j i : Nat} {us : List Value} {v : Value}, us[j]? = some v → (enumV i us)[j]? = some (.inl ((i + j : Nat) : Int), v)
  | _, _, [], _, h => by simp at h
  | 0, i, x :: r, v, h => by
    cases (Option.some.inj h)
    rfl
  | j + 1, i, x :: r, v, h => by
    have := enumV_at (j := j) (i := i + 1) (us := r) h
    rw [show i + (j + 1) = i + 1 + j by omega]
    exact this
theorem enumV_rel : ∀ {i : Nat} {ns : List Int} {us : List Value}, Vals (ns.map V.int) us → KV (enumKV i ns) (enumV i us)
  | _, [], _, h => by cases h; exact .nil
  | i, x :: r, _, h => by
    cases h with
    | cons h1 h2 => exact .cons ⟨rfl, h1⟩ (enumV_rel h2)
section
variable {X : Cx}
def tDictEnum (K : PySem.W.Frag) (te : TE) : TE := fun σ H Q => te σ H fun x H1 => ∃ (a : Addr) (ns : List Int), x = .ref a ∧ SqL K H1 a (ns.map V.int) ∧ ∀ p, H1 p = none → Q (.ref p) (upd H1 p (.dK (enumKV 0 ns)))
theorem pe_dictEnum {e : Expr} {te : TE} {p q pos qos : Pos} (calm : X.calm = true) (gd : Gl X "dict") (md : X.mg "dict" = none) (ge : Gl X "enumerate") (me : X.mg "enumerate" = none) (he : PE X e te)
    (st : starEach [Expr.Call (.Name "enumerate" q) [e] [] qos] X.env = [(false, eval (Expr.Call (.Name "enumerate" q) [e] [] qos) X.env)] := by rfl) (su : starEach [e] X.env = [(false, eval e X.env)] := by rfl) :
    PE X (.Call (.Name "dict" p) [.Call (.Name "enumerate" q) [e] [] qos] [] pos) (tDictEnum X.K te) := by
  refine ⟨fun pins s σ H Q I h => ?_⟩
  refine wpAny_Call_Name_kw (ld_blt I gd md (u := .type "dict") (by decide +kernel) ?_ (by decide +kernel) (by decide +kernel))
  rw [st]
  refine PySem.callWith_type1 ?_
  refine wpAny_Call_Name_kw (ld_blt I ge me (u := .type "enumerate") (by decide +kernel) ?_ (by decide +kernel) (by decide +kernel))
  rw [su]
  refine PySem.callWith_type1 (thn (he.run pins s σ H _ I h) fun u s1 ⟨x, H1, I1, r1, a, ns, ex, sq, qk⟩ => ?_)
  subst ex
  obtain rfl : u = Value.ref a := r1
  obtain ⟨its, rv, pl, hz⟩ := I1.list sq
  have hlt := Heap.lt_size pl.isList.choose_spec.1
  refine call_enumerate_list pl.isList fun h' en it sz kp => ?_
  have I2 : Inv X pins σ H1 { s1 with heap := h' } := I1.kept (t' := s1.toks) kp
  have lis : h'.IsList a its.toArray := pl.isList.at fun o e => kp _ _ e
  have ln : its.length = ns.length := by rw [← rv.length, List.length_map]
  have hzn : ns.length ≤ sizeLine := by rw [List.length_map] at hz; exact hz
  refine PySem.call_dict_pairs (knd := mixKind X.prog X.w) (kvs := enumV 0 its) (PairArg.enumerate (s1.heap.objs.size + 1) s1.heap.objs.size a (Nat.succ_ne_self _) (Nat.ne_of_lt (Nat.lt_succ_of_lt hlt)) (Nat.ne_of_lt hlt) its.toArray) (I.ok.hd calm) ⟨⟨_, en⟩, it, lis⟩ ⟨by rw [enumV_len]; simp, fun i key v hr => ?_⟩ (by simp only [List.size_toArray]; omega) fun h2 tk hd2 kp2 => ?_
  · obtain ⟨⟨t, rfl⟩, hv⟩ := hr
    refine ⟨.inl (i : Int), ?_, ?_⟩
    · have := enumV_at (j := i) (i := 0) (us := its) (v := v) (by simpa using hv)
      rw [Nat.zero_add] at this
      exact this
    · show Value.isInt (i : Int) (.int (i : Int) t) = true
      simp [Value.isInt]
  · have em : KV (enumKV 0 ns) (merged [] (enumV 0 its)) := by
      have := KV.merge (enumV_rel (i := 0) rv) (.nil : KV (κ := Key) [] [])
      rw [merge_enum ns [] 0 (fun p hp => absurd hp List.not_mem_nil)] at this
      exact this
    have nn : H1 h'.objs.size = none := I2.hok.fresh (Nat.le_refl _)
    refine ⟨.ref h'.objs.size, upd H1 h'.objs.size (.dK (enumKV 0 ns)), I1.laid (t' := tk) (fun b o e => kp2 b o (fun z => ?_) (kp b o e)) (by rw [sz]; omega) (show ObjOk X.prog X.w _ _ _ (.dK (enumKV 0 ns)) from ⟨by rw [enumKV_len]; exact hzn, beq_eq_false_iff_ne.mpr (Nat.ne_of_gt I2.big), merged [] (enumV 0 its), em, hd2⟩), rfl, qk _ nn⟩
    have := Heap.lt_size e
    simp only [List.mem_cons, List.not_mem_nil, or_false] at z
    rcases z with z | z
    · rw [z] at this
      exact absurd this (Nat.not_lt.mpr (Nat.le_succ _))
    · rw [z] at this
      exact absurd this (Nat.lt_irrefl _)
end
end Fo
namespace Fo
open PySem PySem.Spec PyProof.Rows L2
/-! kinds of things -/
def tyD : PyData → String
  | .none => "NoneType"
  | .bool _ => "bool"
  | .int _ => "int"
  | .str _ => "str"
  | .list _ => "list"
  | .tuple _ => "tuple"
  | .dict _ => "dict"
theorem dq_ty {K : PySem.W.Frag} {H : Hp} {v : V} {d : PyData} (h : Dq H v d) : TyX K H v (.type (tyD d)) := by
  cases h with
  | non => exact .base .non
  | bl b => exact .base (.bl b)
  | int i => exact .base (.int i)
  | str x => exact .base (.str x)
  | lst e _ => exact .base (.lst e)
  | tup e _ => exact .base (.tup e)
  | dic e _ => exact .base (.dK e)
def isIntD : PyData → Bool
  | .int _ => true
  | .bool _ => true
  | _ => false
def isBoolD : PyData → Bool
  | .bool _ => true
  | _ => false
def isListD : PyData → Bool
  | .list _ => true
  | _ => false
def isStrD : PyData → Bool
  | .str _ => true
  | _ => false
theorem kit_intD {K : PySem.W.Frag} : ∀ d : PyData, PySem.W.kitOne K (.type (tyD d)) (.type "int") = some (isIntD d)
  | .none => show PySem.W.kitOne K (.type "NoneType") (.type "int") = some false from kit_ty (by decide +kernel)
  | .bool _ => show PySem.W.kitOne K (.type "bool") (.type "int") = some true from kit_ty (by decide +kernel)
  | .int _ => show PySem.W.kitOne K (.type "int") (.type "int") = some true from kit_ty (by decide +kernel)
  | .str _ => show PySem.W.kitOne K (.type "str") (.type "int") = some false from kit_ty (by decide +kernel)
  | .list _ => show PySem.W.kitOne K (.type "list") (.type "int") = some false from kit_ty (by decide +kernel)
  | .tuple _ => show PySem.W.kitOne K (.type "tuple") (.type "int") = some false from kit_ty (by decide +kernel)
  | .dict _ => show PySem.W.kitOne K (.type "dict") (.type "int") = some false from kit_ty (by decide +kernel)
theorem kit_boolD {K : PySem.W.Frag} : ∀ d : PyData, PySem.W.kitOne K (.type (tyD d)) (.type "bool") = some (isBoolD d)
  | .none => show PySem.W.kitOne K (.type "NoneType") (.type "bool") = some false from kit_ty (by decide +kernel)
  | .bool _ => show PySem.W.kitOne K (.type "bool") (.type "bool") = some true from kit_ty (by decide +kernel)
  | .int _ => show PySem.W.kitOne K (.type "int") (.type "bool") = some false from kit_ty (by decide +kernel)
  | .str _ => show PySem.W.kitOne K (.type "str") (.type "bool") = some false from kit_ty (by decide +kernel)
  | .list _ => show PySem.W.kitOne K (.type "list") (.type "bool") = some false from kit_ty (by decide +kernel)
  | .tuple _ => show PySem.W.kitOne K (.type "tuple") (.type "bool") = some false from kit_ty (by decide +kernel)
  | .dict _ => show PySem.W.kitOne K (.type "dict") (.type "bool") = some false from kit_ty (by decide +kernel)
theorem kit_listD {K : PySem.W.Frag} : ∀ d : PyData, PySem.W.kitOne K (.type (tyD d)) (.type "list") = some (isListD d)
  | .none => show PySem.W.kitOne K (.type "NoneType") (.type "list") = some false from kit_ty (by decide +kernel)
  | .bool _ => show PySem.W.kitOne K (.type "bool") (.type "list") = some false from kit_ty (by decide +kernel)
  | .int _ => show PySem.W.kitOne K (.type "int") (.type "list") = some false from kit_ty (by decide +kernel)
  | .str _ => show PySem.W.kitOne K (.type "str") (.type "list") = some false from kit_ty (by decide +kernel)
  | .list _ => show PySem.W.kitOne K (.type "list") (.type "list") = some true from kit_ty (by decide +kernel)
  | .tuple _ => show PySem.W.kitOne K (.type "tuple") (.type "list") = some false from kit_ty (by decide +kernel)
  | .dict _ => show PySem.W.kitOne K (.type "dict") (.type "list") = some false from kit_ty (by decide +kernel)
theorem kit_strD {K : PySem.W.Frag} : ∀ d : PyData, PySem.W.kitOne K (.type (tyD d)) (.type "str") = some (isStrD d)
  | .none => show PySem.W.kitOne K (.type "NoneType") (.type "str") = some false from kit_ty (by decide +kernel)
  | .bool _ => show PySem.W.kitOne K (.type "bool") (.type "str") = some false from kit_ty (by decide +kernel)
  | .int _ => show PySem.W.kitOne K (.type "int") (.type "str") = some false from kit_ty (by decide +kernel)
  | .str _ => show PySem.W.kitOne K (.type "str") (.type "str") = some true from kit_ty (by decide +kernel)
  | .list _ => show PySem.W.kitOne K (.type "list") (.type "str") = some false from kit_ty (by decide +kernel)
  | .tuple _ => show PySem.W.kitOne K (.type "tuple") (.type "str") = some false from kit_ty (by decide +kernel)
  | .dict _ => show PySem.W.kitOne K (.type "dict") (.type "str") = some false from kit_ty (by decide +kernel)
def wholeD : PyData → Bool
  | .int _ => true
  | _ => false
def GoodD (d : PyData) : Prop := ∃ ns : List Int, d = .list (ns.map PyData.int) ∧ IsOrd ns.length ns ∧ 1 ≤ ns.length ∧ ns.length ≤ 12
theorem all_ints : ∀ {ds : List PyData}, ds.all wholeD = true → ∃ ns : List Int, ds = ns.map PyData.int
  | [], _ => ⟨[], rfl⟩
  | d :: ds, h => by
    rw [List.all_cons, Bool.and_eq_true] at h
    obtain ⟨ns, e⟩ := all_ints h.2
    cases d with
    | int i => exact ⟨i :: ns, by rw [e]; rfl⟩
    | _ => cases h.1
theorem dq_intsV {H : Hp} : ∀ {ns : List Int} {vs : List V}, DqAll H vs (ns.map PyData.int) → vs = ns.map V.int
  | [], _, h => by cases h; rfl
  | n :: r, _, h => by
    rw [List.map_cons] at h
    cases h with
    | cons h1 h2 =>
      cases h1
      rw [dq_intsV h2]
      rfl
theorem intD_inj : ∀ {a b : List Int}, a.map PyData.int = b.map PyData.int → a = b
  | [], [], _ => rfl
  | [], _ :: _, h => by cases h
  | _ :: _, [], h => by cases h
  | x :: a, y :: b, h => by
    rw [List.map_cons, List.map_cons] at h
    injection h with h1 h2
    injection h1 with h1
    rw [h1, intD_inj h2]
theorem good_all {ds : List PyData} (h : GoodD (.list ds)) : ds.all wholeD = true := by
  obtain ⟨ns, e, _⟩ := h
  injection e with e
  rw [e, List.all_eq_true]
  intro x hx
  obtain ⟨i, _, rfl⟩ := List.mem_map.mp hx
  rfl
def spWholeD : Sp := fun vs H Q _ => ∃ (v : V) (d : PyData), vs = [v] ∧ Dq H v d ∧ Q (.bl (wholeD d)) H
def spIsOrdD : Sp := fun vs H Q _ => ∃ (v : V) (d : PyData), vs = [v] ∧ Dq H v d ∧ ∀ (b : Bool) (H' : Hp), (b = true ↔ GoodD d) → Same H H' → Q (.bl b) H'
def spGoodL : Sp := fun vs H Q _ => ∃ (v : V) (d : PyData), vs = [v] ∧ Dq H v d ∧ ∀ (b : Bool) (H' : Hp), (b = true ↔ GoodD d) → Same H H' → Q (.bl b) H'
theorem not_good {d : PyData} (h : isListD d = false) : (false = true ↔ GoodD d) := by
  refine ⟨fun z => absurd z Bool.false_ne_true, fun z => ?_⟩
  obtain ⟨ns, e, _⟩ := z
  rw [e] at h
  cases h
theorem not_good_len {ds : List PyData} (h : ds.length < 1 ∨ 12 < ds.length) : (false = true ↔ GoodD (.list ds)) := by
  refine ⟨fun z => absurd z Bool.false_ne_true, fun z => ?_⟩
  obtain ⟨ns, e, _, h1, h2⟩ := z
  injection e with e
  rw [e, List.length_map] at h
  omega
theorem not_good_all {ds : List PyData} (h : ds.all wholeD = false) : (false = true ↔ GoodD (.list ds)) := ⟨fun z => absurd z Bool.false_ne_true, fun z => by rw [good_all z] at h; cases h⟩
theorem all_map_id (ds : List PyData) : (ds.map wholeD).all id = ds.all wholeD := by
  rw [List.all_map]
  rfl
theorem perm_sub : ∀ {a b : List Int}, a.Nodup → (∀ x ∈ a, x ∈ b) → b.length ≤ a.length → a.Perm b
  | [], b, _, _, h => by
    have : b = [] := List.eq_nil_of_length_eq_zero (Nat.le_zero.mp h)
    rw [this]
  | x :: a, b, nd, sub, h => by
    have hx := sub x List.mem_cons_self
    have nx := (List.nodup_cons.mp nd).1
    have h1 := List.length_erase_of_mem hx
    rw [List.length_cons] at h
    refine List.Perm.trans (List.Perm.cons x (perm_sub (b := b.erase x) (List.nodup_cons.mp nd).2 (fun y hy => ?_) (by omega))) (List.perm_cons_erase hx).symm
    exact (List.mem_erase_of_ne (fun z => nx (by rw [← z]; exact hy))).mpr (sub y (List.mem_cons_of_mem _ hy))
theorem ord_of {ns : List Int} (nd : ns.Nodup) (h : ∀ x ∈ ns, 0 ≤ x ∧ x < (ns.length : Int)) : IsOrd ns.length ns := by
  have sub : ∀ x ∈ ns, x ∈ rg ns.length := fun x hx => rg_mem.mpr (h x hx)
  exact perm_sub nd sub (by rw [rg_len]; exact Nat.le_refl _)
theorem inV_ints (t : Int) : ∀ row : List Int, inV (.int t) (row.map V.int) = decide (t ∈ row)
  | [] => rfl
  | x :: r => by
    have ih := inV_ints t r
    unfold inV at ih ⊢
    have eqI : eqV (.int x) (.int t) = decide (x = t) := by
      unfold eqV
      by_cases e : x = t
      · subst e
        simp
      · simp [e]
    rw [List.map_cons, List.any_cons, ih, eqI]
    by_cases e : x = t
    · subst e
      simp
    · have e1 : ¬ t = x := fun z => e z.symm
      simp [e, e1]
theorem flatI (row : List Int) : (row.map V.int).all flatV = true := by
  rw [List.all_eq_true]
  intro x hx
  obtain ⟨i, _, rfl⟩ := List.mem_map.mp hx
  rfl
section
variable {P : Program} {w : World} {K : PySem.W.Frag} {mg : Str → Option Value} {base : Heap}
theorem scWholeD : FnScope ["thing"] ["thing"] (defScope s_is_whole) := ⟨rfl, rfl, rfl, by decide +kernel, rfl, by decide +kernel, by decide +kernel⟩
theorem ok_wholeD {f : Addr} {fd : FuncData} {k : Nat} (T : Df K mg "is_whole" s_is_whole ["thing"] f fd) (B : Bi mg) : FnOk P w K mg base CX0 (k + 1) f fd ["thing"] spWholeD := by
  refine T.F.ok scWholeD (fun vs H Q E h => ?_) (fun cdv A outer s H vs Q E hr h => ?_)
  · obtain ⟨v, d, rfl, _⟩ := h
    rfl
  · obtain ⟨v, d, rfl, hd, q⟩ := h
    refine ⟨_, 
      (pss_one (ps_ret (pe_and (pe_callB call_isi (by rfl) B.isinstance (by decide +kernel) (pa_cons (pv 0) (pa_cons (pe_bltn (v := .ty "int") (by rfl) B.int (by decide +kernel) rfl) pa_nil))) (pe_one (pe_not (pe_callB call_isi (by rfl) B.isinstance (by decide +kernel) (pa_cons (pv 0) (pa_cons (pe_bltn (v := .ty "bool") (by rfl) B.bool (by decide +kernel) rfl) pa_nil)))))))), ?_⟩
    refine ⟨_, rfl, _, _, _, _, isIntD d, rfl, .ty _, dq_ty hd, kit_intD d, _, rfl, ?_⟩
    cases d with
    | int i => exact iteT ⟨_, rfl, _, _, _, _, false, rfl, .ty _, dq_ty hd, kit_boolD _, false, rfl, q⟩
    | bool b => exact iteT ⟨_, rfl, _, _, _, _, true, rfl, .ty _, dq_ty hd, kit_boolD _, true, rfl, q⟩
    | _ => exact iteF q
theorem scIsOrdD : FnScope ["thing", "number"] ["thing"] (defScope s_is_order) := ⟨rfl, rfl, rfl, by decide +kernel, rfl, by decide +kernel, by decide +kernel⟩
set_option maxHeartbeats 2000000 in
theorem ok_isOrdD {f fW : Addr} {fd fdW : FuncData} {k : Nat} {t : Tok} (T : Df K mg "is_order" s_is_order ["thing"] f fd) (T_is_whole : Df K mg "is_whole" s_is_whole ["thing"] fW fdW) (B : Bi mg) (mM : mg "MOST_THINGS" = some (.int 12 t)) : FnOk P w K mg base CX0 (k + 2) f fd ["thing"] spIsOrdD := by
  have G_is_whole : FnOk P w K mg base CX0 (k + 1) fW fdW ["thing"] spWholeD := ok_wholeD T_is_whole B
  refine T.F.ok scIsOrdD (fun vs H Q E h => ?_) (fun cdv A outer s H vs Q E hr h => ?_)
  · obtain ⟨v, d, rfl, _⟩ := h
    rfl
  · obtain ⟨v, d, rfl, hd, q⟩ := h
    refine ⟨_, 
      (pss_cons (ps_if (PW.pt (pw_or (pt_not (pt_val (pe_callB call_isi (by rfl) B.isinstance (by decide +kernel) (pa_cons (pv 0) (pa_cons (pe_bltn (v := .ty "list") (by rfl) B.list (by decide +kernel) rfl) pa_nil))))) (pw_or (pt_cmpR op_lt (pe_callB call_len_seq (by rfl) B.len PySem.boot_len (pa_cons (pv 0) pa_nil)) pe_int (nomark _)) (pw_or1 (pt_cmpR op_gt (pe_callB call_len_seq (by rfl) B.len PySem.boot_len (pa_cons (pv 0) pa_nil)) (pe_glob (v := .int 12) (by rfl) mM ⟨_, rfl⟩) (nomark _))))))
        (pss_one (ps_ret pe_bl))
        pss_nil)
      (pss_cons (ps_if (pt_not (pt_val (pe_callB (cr_all rfl) (by rfl) B.all (by decide +kernel) (pa_cons (pe_lc (own := [("number", 1)]) (g := (gName 1)) (tt := tYes) (te := (tCall spWholeD [] E0 (tCons (tVar 1) tNil))) rfl scIsOrdD.nd (pi_list (pv 0)) (blkOk_by (N := ["thing", "number"]) (sc := defScope s_is_order) (by decide +kernel)) (fun _ _ _ _ _ => (pg_name (i := 1) scIsOrdD.nd rfl (.inl rfl))) (fun _ _ _ _ _ => pts_nil) (fun _ _ _ _ _ => (pe_call G_is_whole hr (by rfl) T_is_whole.g T_is_whole.F.kp T_is_whole.b .nil pass0 (pa_cons (pv 1) pa_nil)))) pa_nil))))
        (pss_one (ps_ret pe_bl))
        pss_nil)
      (pss_one (ps_ret (pe_cmpR (op_eqD hr.units) (pe_callB cr_sorted (by rfl) B.sorted (by decide +kernel) (pa_cons (pv 0) pa_nil)) (pe_listRg rfl (by rfl) B.list (prg_1 (by rfl) B.range (pe_callB call_len_seq (by rfl) B.len PySem.boot_len (pa_cons (pv 0) pa_nil)))) (nomark _)))))), ?_⟩
    refine ⟨_, rfl, _, _, _, _, isListD d, rfl, .ty _, dq_ty hd, kit_listD d, _, rfl, ?_⟩
    cases hl : isListD d with
    | false => exact iteT (iteT (q _ _ (not_good hl) (Same.refl _)))
    | true =>
      cases hd with
      | @lst a xs ds e al =>
        have hlen := al.len
        refine iteF ?_
        refine ⟨_, rfl, a, _, rfl, .inl (SqL.of e), _, 1, rfl, rfl, _, rfl, ite2 (fun c => ?_) (fun c => ?_)⟩
        · exact iteT (q _ _ (not_good_len (.inl (by have := of_decide_eq_true c; omega))) (Same.refl _))
        have c1 : 1 ≤ ds.length := by
          by_cases z : ds.length < 1
          · exact absurd (decide_eq_true (show ((xs.length : Nat) : Int) < 1 by omega)) c
          · omega
        refine ⟨_, rfl, a, _, rfl, .inl (SqL.of e), _, 12, rfl, rfl, _, rfl, ite2 (fun c => ?_) (fun c => ?_)⟩
        · exact q _ _ (not_good_len (.inr (by have := of_decide_eq_true c; omega))) (Same.refl _)
        have c2 : ds.length ≤ 12 := by
          by_cases z : 12 < ds.length
          · exact absurd (decide_eq_true (show (12 : Int) < ((xs.length : Nat) : Int) by omega)) c
          · omega
        refine ⟨_, rfl, a, rfl, ⟨_, SqL.of e⟩, fun p np => ?_⟩
        refine lc_list (K := K) (a := a) (xs := xs) (fun i H3 => H3 p = some (.lst (((ds.take i).map wholeD).map V.bl)) ∧ Same H H3) ⟨upd_same, same_new np⟩ (fun i H3 _ hP => SqL.of (hP.2 _ _ e)) (fun i x H3 hx hP => ?_) (fun H3 hP => ?_)
        · obtain ⟨hp3, sm⟩ := hP
          obtain ⟨d, ed, hd⟩ := al.get hx
          have hi := (List.getElem?_eq_some_iff.mp ed).1
          refine ⟨rfl, _, rfl, x, d, rfl, hd.same sm, _, hp3, line_lt (by rw [List.length_map, List.length_map, List.length_take]; omega), ?_, fun b o eb => ?_⟩
          · rw [upd_same, List.take_add_one, ed, List.map_append, List.map_append]
            rfl
          · rw [upd_ne (ne_of_none eb np)]
            exact sm _ _ eb
        · obtain ⟨hp3, sm⟩ := hP
          rw [hlen, List.take_length] at hp3
          have e3 := sm _ _ e
          refine ⟨p, _, rfl, SqL.of hp3, _, rfl, ?_⟩
          rw [all_map_id]
          cases ha : ds.all wholeD with
          | false => exact iteT (q _ _ (not_good_all ha) sm)
          | true =>
            obtain ⟨ns, ens⟩ := all_ints ha
            subst ens
            have exs := dq_intsV al
            subst exs
            rw [List.length_map] at c1 c2 hlen
            refine iteF ?_
            refine ⟨_, rfl, a, ns, rfl, SqL.of e3, by omega, fun ns' s1 hperm hsrt ns1 => ?_⟩
            have e4 := same_new (o := .lst (ns'.map V.int)) ns1 _ _ e3
            refine ⟨_, rfl, a, _, rfl, .inl (SqL.of e4), _, rfl, RgOk.of_le (by omega) (by rw [List.length_map]; omega) (by omega) (by omega), fun s2 ns2 => ?_⟩
            rw [List.length_map]
            have h1 : (upd (upd H3 s1 (.lst (ns'.map V.int))) s2 (.lst (rgV 0 (ns.length : Int)))) s1 = some (.lst (ns'.map V.int)) := same_new ns2 _ _ upd_same
            have h2 : (upd (upd H3 s1 (.lst (ns'.map V.int))) s2 (.lst (rgV 0 (ns.length : Int)))) s2 = some (.lst ((rg ns.length).map V.int)) := by rw [upd_same, rg_V]
            refine ⟨_, _, dp_list h1, dp_list h2, shaped_list _, shaped_list _, ?_⟩
            rw [show PyData.eqv (.list (ns'.map PyData.int)) (.list ((rg ns.length).map PyData.int)) = decide (ns' = rg ns.length) from eqv_ints _ _]
            refine q _ _ ⟨fun z => ?_, fun z => ?_⟩ ((sm.trans (same_new ns1)).trans (same_new ns2))
            · have z := of_decide_eq_true z
              rw [z] at hperm
              exact ⟨ns, rfl, hperm.symm, c1, c2⟩
            · obtain ⟨ms, em, ho, _⟩ := z
              injection em with em
              have em := intD_inj em
              subst em
              exact decide_eq_true (sorted_eq (hperm.trans ho) hsrt (rg_sorted _))
      | _ => cases hl
end
end Fo
namespace Fo
open PySem PySem.Spec PyProof.Rows L2
/-- a loop over enumerate of a list that stands still -/
theorem for_enumL {K : PySem.W.Frag} {a : Addr} {xs : List V} {g : TG} {tb : TS} {D : Ends} {σ : L2.St} {H : Hp} (Pv : Nat → L2.St → Hp → Prop) (h0 : Pv 0 σ H) (hq : ∀ i σ H, Pv i σ H → SqL K H a xs)
    (hs : ∀ (i : Nat) (x : V) (T : Addr) (σ : L2.St) (H : Hp), xs[i]? = some x → Pv i σ H → H T = none → g (.ref T) σ (upd H T (.tup [.int (i : Nat), x])) fun σ2 H2 => tb { D with nx := Pv (i + 1), ct := Pv (i + 1), bk := D.nx } σ2 H2) (hd : ∀ σ H, Pv xs.length σ H → D.nx σ H) :
    ∃ W : Nat → Nat → L2.St → Hp → Prop, (∃ m, W 0 m σ H) ∧ ∀ i m σ H, W i m σ H →
      ((Ite K a).stop i H ∧ D.nx σ H) ∨ ((Ite K a).go i H ∧ ∃ N : L2.St → Hp → Prop, (∀ σ' H', N σ' H' → ∃ m', m' < m ∧ W (i + 1) m' σ' H') ∧ ∀ v H', (Ite K a).yld i H v H' → g v σ H' fun σ2 H2 => tb { D with nx := N, ct := N, bk := D.nx } σ2 H2) := by
  refine ⟨fun i m σ H => m = xs.length - i ∧ i ≤ xs.length ∧ Pv i σ H, ⟨xs.length, rfl, Nat.zero_le _, h0⟩, ?_⟩
  rintro i m σ H ⟨rfl, hi, p⟩
  have qx := hq i σ H p
  by_cases hlt : i < xs.length
  · have hx : xs[i]? = some xs[i] := List.getElem?_eq_getElem hlt
    refine .inr ⟨⟨xs, _, qx, hx⟩, Pv (i + 1), fun σ' H' p' => ⟨xs.length - (i + 1), by omega, rfl, hlt, p'⟩, fun v H' y => ?_⟩
    obtain ⟨T, x', rfl, hT, rfl, f1⟩ := y
    exact hs i x' T σ H (f1 xs qx) p hT
  · have e : i = xs.length := by omega
    subst e
    exact .inl ⟨⟨xs, qx, Nat.le_refl _⟩, hd σ H p⟩
/-- a comprehension over enumerate of a list that stands still -/
theorem lc_enumL {K : PySem.W.Frag} {a : Addr} {xs : List V} {g : TG} {tt : TT} {te : TE} {vs : List Nat} {σ : L2.St} {H1 : Hp} {D : Addr} {Qd : Hp → Prop} (Pv : Nat → Hp → Prop) (h0 : Pv 0 (upd H1 D (.lst []))) (hl : ∀ i H, i ≤ xs.length → Pv i H → SqL K H a xs)
    (hs : ∀ (i : Nat) (x : V) (T : Addr) (H : Hp), xs[i]? = some x → Pv i H → H T = none → g (.ref T) (wipe σ vs) (upd H T (.tup [.int (i : Nat), x])) fun σ2 H2 => wipe σ2 vs = wipe σ vs ∧ tt σ2 H2 fun b H3 =>
      if b = true then te σ2 H3 fun y H4 => ∃ acc, H4 D = some (.lst acc) ∧ acc.length < sizeLine ∧ Pv (i + 1) (upd H4 D (.lst (acc ++ [y]))) else Pv (i + 1) H3) (hd : ∀ H, Pv xs.length H → Qd H) :
    ∃ W : Nat → Nat → Hp → Prop, (∃ m, W 0 m (upd H1 D (.lst []))) ∧ ∀ i m H, W i m H →
      ((Ite K a).stop i H ∧ Qd H) ∨ ((Ite K a).go i H ∧ ∃ Nx : Hp → Prop, (∀ H', Nx H' → ∃ m', m' < m ∧ W (i + 1) m' H') ∧ ∀ x H', (Ite K a).yld i H x H' → g x (wipe σ vs) H' fun σ2 H2 => wipe σ2 vs = wipe σ vs ∧ tt σ2 H2 fun b H3 =>
        if b = true then te σ2 H3 fun y H4 => ∃ acc, H4 D = some (.lst acc) ∧ acc.length < sizeLine ∧ Nx (upd H4 D (.lst (acc ++ [y]))) else Nx H3) := by
  refine ⟨fun i m H => m = xs.length - i ∧ i ≤ xs.length ∧ Pv i H, ⟨xs.length, by simp, Nat.zero_le _, h0⟩, ?_⟩
  rintro i m H ⟨rfl, hi, p⟩
  have q := hl i H hi p
  by_cases hlt : i < xs.length
  · refine .inr ⟨⟨xs, xs[i], q, by simp [hlt]⟩, Pv (i + 1), fun H' p' => ⟨xs.length - (i + 1), by omega, rfl, hlt, p'⟩, fun x H' y => ?_⟩
    obtain ⟨T, x', rfl, hT, rfl, f1⟩ := y
    exact hs i x' T H (f1 xs q) p hT
  · have e : i = xs.length := by omega
    subst e
    exact .inl ⟨⟨xs, q, Nat.le_refl _⟩, hd H p⟩
/-! ### the back of an order -/
def IsBack (ns ps : List Int) : Prop := ps.length = ns.length ∧ ∀ (j : Nat) (x : Int), ns[j]? = some x → ps[x.toNat]? = some (j : Int)
theorem ord_at {n : Nat} {ns : List Int} (o : IsOrd n ns) {t : Nat} (h : t < n) : ∃ j : Nat, j < n ∧ ns[j]? = some (t : Int) := by
  have m : (t : Int) ∈ ns := (List.Perm.mem_iff o).mpr (rg_mem.mpr ⟨by omega, by omega⟩)
  obtain ⟨j, hj⟩ := List.mem_iff_getElem?.mp m
  exact ⟨j, by have := (List.getElem?_eq_some_iff.mp hj).1; rw [o.len] at this; exact this, hj⟩
theorem ord_ix {n : Nat} {ns : List Int} (o : IsOrd n ns) {j : Nat} (h : j < n) : ∃ x : Int, ns[j]? = some x ∧ 0 ≤ x ∧ x < n := by
  have hj : j < ns.length := by rw [o.len]; exact h
  exact ⟨ns[j], List.getElem?_eq_getElem hj, o.mem (List.getElem_mem hj)⟩
theorem back_eq {n : Nat} {ns a b : List Int} (o : IsOrd n ns) (ha : IsBack ns a) (hb : IsBack ns b) : a = b := by
  apply List.ext_getElem?
  intro t
  by_cases h : t < n
  · obtain ⟨j, _, hj⟩ := ord_at o h
    have h1 := ha.2 j _ hj
    have h2 := hb.2 j _ hj
    rw [Int.toNat_natCast] at h1 h2
    rw [h1, h2]
  · rw [List.getElem?_eq_none (by rw [ha.1, o.len]; omega), List.getElem?_eq_none (by rw [hb.1, o.len]; omega)]
def behindL (ns ms : List Int) : List Int := ms.map fun p => ns.getD p.toNat 0
theorem behind_at {ns ms : List Int} {i : Nat} {p x : Int} (hp : ms[i]? = some p) (hx : ns[p.toNat]? = some x) : (behindL ns ms)[i]? = some x := by
  unfold behindL
  rw [List.getElem?_map, hp]
  show some (ns.getD p.toNat 0) = some x
  rw [List.getD_eq_getElem?_getD, hx]
  rfl
theorem behind_len (ns ms : List Int) : (behindL ns ms).length = ms.length := by
  unfold behindL
  rw [List.length_map]
theorem take_more {l : List Int} {i : Nat} {x : Int} (h : l[i]? = some x) : l.take (i + 1) = l.take i ++ [x] := by
  rw [List.take_add_one, h]
  rfl
theorem flat_ints : ∀ ns : List Int, (ns.map V.int).all flatV = true
  | [] => rfl
  | n :: r => by
    show (flatV (V.int n) && (r.map V.int).all flatV) = true
    rw [flat_ints r]
    rfl
theorem eqV_int (i j : Int) : eqV (.int i) (.int j) = (i == j) := rfl
end Fo
namespace Fo
open PySem PySem.Spec PyProof.Rows L2
/-! ### lists of lists -/
def LL (H : Hp) : List Addr → List (List Int) → Prop
  | [], [] => True
  | a :: as, r :: rs => H a = some (.lst (r.map V.int)) ∧ LL H as rs
  | _, _ => False
theorem LL.len {H : Hp} : ∀ {as : List Addr} {rs : List (List Int)}, LL H as rs → as.length = rs.length
  | [], [], _ => rfl
  | [], _ :: _, h => h.elim
  | _ :: _, [], h => h.elim
  | a :: as, r :: rs, h => by rw [List.length_cons, List.length_cons, LL.len h.2]
theorem LL.keep {H H' : Hp} : ∀ {as : List Addr} {rs : List (List Int)}, LL H as rs → (∀ a ∈ as, ∀ o, H a = some o → H' a = some o) → LL H' as rs
  | [], [], _, _ => trivial
  | [], _ :: _, h, _ => h.elim
  | _ :: _, [], h, _ => h.elim
  | a :: as, r :: rs, h, k => ⟨k a List.mem_cons_self _ h.1, LL.keep h.2 fun b hb => k b (List.mem_cons_of_mem _ hb)⟩
theorem LL.same {H H' : Hp} {as : List Addr} {rs : List (List Int)} (h : LL H as rs) (s : Same H H') : LL H' as rs := h.keep fun a _ o e => s a o e
theorem LL.get {H : Hp} : ∀ {as : List Addr} {rs : List (List Int)} {i : Nat} {a : Addr}, LL H as rs → as[i]? = some a → ∃ r, rs[i]? = some r ∧ H a = some (.lst (r.map V.int))
  | [], [], _, _, _, e => by simp at e
  | [], _ :: _, _, _, h, _ => h.elim
  | _ :: _, [], _, _, h, _ => h.elim
  | a :: as, r :: rs, 0, b, h, e => by
    have e2 : a = b := Option.some.inj e
    subst e2
    exact ⟨r, rfl, h.1⟩
  | a :: as, r :: rs, i + 1, b, h, e => LL.get (i := i) h.2 e
theorem LL.tracked {H : Hp} {as : List Addr} {rs : List (List Int)} (h : LL H as rs) {a : Addr} (ha : a ∈ as) : ∃ o, H a = some o := by
  obtain ⟨i, hi⟩ := List.mem_iff_getElem?.mp ha
  obtain ⟨r, _, e⟩ := h.get hi
  exact ⟨_, e⟩
theorem LL.snoc {H : Hp} : ∀ {as : List Addr} {rs : List (List Int)} {a : Addr} {r : List Int}, LL H as rs → H a = some (.lst (r.map V.int)) → LL H (as ++ [a]) (rs ++ [r])
  | [], [], _, _, _, e => ⟨e, trivial⟩
  | [], _ :: _, _, _, h, _ => h.elim
  | _ :: _, [], _, _, h, _ => h.elim
  | b :: as, s :: rs, _, _, h, e => ⟨h.1, LL.snoc h.2 e⟩
theorem LL.drop {H : Hp} : ∀ {as : List Addr} {rs : List (List Int)} (k : Nat), LL H as rs → LL H (as.drop k) (rs.drop k)
  | as, rs, 0, h => h
  | [], [], k + 1, _ => trivial
  | [], _ :: _, _ + 1, h => h.elim
  | _ :: _, [], _ + 1, h => h.elim
  | _ :: as, _ :: rs, k + 1, h => LL.drop k h.2
theorem dp_LL {K : PySem.W.Frag} {H : Hp} : ∀ {as : List Addr} {rs : List (List Int)}, LL H as rs → DpAll K H (as.map V.ref) (rs.map dL)
  | [], [], _ => .nil
  | [], _ :: _, h => h.elim
  | _ :: _, [], h => h.elim
  | _ :: _, _ :: _, h => .cons (dp_list h.1) (dp_LL h.2)
theorem dp_lists {K : PySem.W.Frag} {H : Hp} {l : Addr} {as : List Addr} {rs : List (List Int)} (hl : H l = some (.lst (as.map V.ref))) (h : LL H as rs) : Dp K H (.ref l) (dLL rs) := .lst (SqL.of hl) (dp_LL h)
theorem ref_at {as : List Addr} {i : Nat} {a : Addr} (h : as[i]? = some a) : (as.map V.ref)[i]? = some (V.ref a) := by
  rw [List.getElem?_map, h]
  rfl
theorem ref_at_inv {as : List Addr} {i : Nat} {v : V} (h : (as.map V.ref)[i]? = some v) : ∃ a, as[i]? = some a ∧ v = V.ref a := by
  rw [List.getElem?_map] at h
  cases e : as[i]? with
  | none => rw [e] at h; cases h
  | some x => rw [e] at h; exact ⟨x, rfl, (Option.some.inj h).symm⟩
theorem cutV_tail (xs : List V) (k : Nat) : cutV xs (some (k : Int)) none = xs.drop k := by
  unfold cutV
  rw [HT.sIx_none, HT.sIx_nat]
  by_cases h : k ≤ xs.length
  · rw [Nat.min_eq_left h, List.take_of_length_le (by rw [List.length_drop]; exact Nat.le_refl _)]
  · rw [Nat.min_eq_right (by omega), List.drop_of_length_le (Nat.le_refl _), List.drop_of_length_le (by omega), List.take_nil]
end Fo
namespace Fo
open PySem PySem.Spec PyProof.Rows L2
/-! defs that refuse -/
section
variable {P : Program} {w : World} {K : PySem.W.Frag} {mg : Str → Option Value} {base : Heap} {k : Nat} {f : Addr} {fd : FuncData} {ps : List Str}
theorem fn_up {sp : Sp} (F : FnOk P w K mg base CX0 k f fd ps sp) : FnOk P w K mg base (L2.CX P w) k f fd ps sp :=
  ⟨F.len, fun A outer s H args us vs Q E hr e0 hb hv hs => codeAny_mono (F.run A outer s H args us vs Q E hr e0 hb hv hs) fun r s' h => match r, h with
    | .error _, h => h.elim
    | .ok (.ret _), h => h
    | .ok .next, h => h
    | .ok .brk, h => h
    | .ok .cont, h => h⟩
theorem fn_or {CX : CXT} {sp sp' : Sp} (F : FnOk P w K mg base CX k f fd ps sp) (G : FnOk P w K mg base CX k f fd ps sp') : FnOk P w K mg base CX k f fd ps (fun vs H Q E => sp vs H Q E ∨ sp' vs H Q E) :=
  ⟨fun vs H Q E h => h.elim (F.len vs H Q E) (G.len vs H Q E), fun A outer s H args us vs Q E hr e0 hb hv hs => hs.elim (F.run A outer s H args us vs Q E hr e0 hb hv) (G.run A outer s H args us vs Q E hr e0 hb hv)⟩
def spNever : Sp := fun _ _ _ _ => False
theorem fn_never {CX : CXT} : FnOk P w K mg base CX k f fd ps spNever := ⟨fun _ _ _ _ h => h.elim, fun _ _ _ _ _ _ _ _ _ _ _ _ _ h => h.elim⟩
end
/-- an error class of the program, over ValueError -/
structure ExK (K : PySem.W.Frag) (mg : Str → Option Value) (x : Str) (C : Addr) : Prop where
  g : mg x = some (.ref C)
  q : PySem.W.excIn K C [.type "ValueError", .type "Exception", .type "BaseException", .type "object"] "ValueError.__new__" = true
  kp : PySem.W.keepIn K (.ref C) = true
  sb : PySem.W.subIn K (.ref C) (.type "BaseException") = some true
  ty : PySem.W.typeIn K (.ref C) = some (.type "type")
  ec : ExcC K C
section
variable {X : Cx}
theorem ps_raiseK {W : WX} {x m : Str} {C : Addr} {j : Nat} {p p2 pos pos' : Pos} (hc : X.calm = true) (tk : Takes X W) (c : ExK X.K X.mg x C) (hg : Gl X x) (hdb : (x == ("__debug__" : Str)) = false := by decide) :
    PS X (.Raise (some (.Call (.Name x p) [.Constant (.str m) j p2] [] pos)) none pos') (fun _ σ H => W (.ref C) none σ H) :=
  ps_raise hc tk (pmk_own PySem.F.excBase_ValueError c.q c.g c.kp (raises_own c.sb c.ty) hg hdb)
theorem ps_raiseA {W : WX} {x : Str} {C : Addr} {e : Expr} {ta : TE} {p pos pos' : Pos} (hc : X.calm = true) (tk : Takes X W) (c : ExK X.K X.mg x C) (hg : Gl X x) (he : PE X e ta) (hdb : (x == ("__debug__" : Str)) = false := by decide)
    (hs : starEach [e] X.env = (false, eval e X.env) :: starEach [] X.env := by rfl) :
    PS X (.Raise (some (.Call (.Name x p) [e] [] pos)) none pos') (fun _ σ H => ta σ H fun _ H1 => W (.ref C) none σ H1) :=
  ps_raise hc tk (SkE.pmk_own1 PySem.F.excBase_ValueError c.q c.g c.kp (raises_own c.sb c.ty) hg he hs hdb)
end
end Fo
namespace Fo
open PySem PySem.Spec PyProof.Rows L2
/-! ### sums -/
def ind (b : Bool) : Nat := if b then 1 else 0
def sumN (l : List Int) (f : Int → Nat) : Nat := (l.map f).sum
theorem sumN_nil (f : Int → Nat) : sumN [] f = 0 := rfl
theorem sumN_cons (a : Int) (l : List Int) (f : Int → Nat) : sumN (a :: l) f = f a + sumN l f := by
  unfold sumN
  rw [List.map_cons, List.sum_cons]
theorem sumN_append (l m : List Int) (f : Int → Nat) : sumN (l ++ m) f = sumN l f + sumN m f := by
  unfold sumN
  rw [List.map_append, List.sum_append]
theorem sumN_perm {l m : List Int} (h : l.Perm m) (f : Int → Nat) : sumN l f = sumN m f := by
  induction h with
  | nil => rfl
  | cons x _ ih => rw [sumN_cons, sumN_cons, ih]
  | swap x y l => rw [sumN_cons, sumN_cons, sumN_cons, sumN_cons]; omega
  | trans _ _ h1 h2 => exact h1.trans h2
theorem sumN_congr {l : List Int} {f g : Int → Nat} (h : ∀ x ∈ l, f x = g x) : sumN l f = sumN l g := by
  unfold sumN
  rw [List.map_congr_left h]
theorem sumN_map (l : List Int) (g : Int → Int) (f : Int → Nat) : sumN (l.map g) f = sumN l (fun x => f (g x)) := by
  unfold sumN
  rw [List.map_map]
  rfl
theorem sumN_zero {l : List Int} {f : Int → Nat} (h : ∀ x ∈ l, f x = 0) : sumN l f = 0 := by
  rw [sumN_congr h]
  induction l with
  | nil => rfl
  | cons a l ih => rw [sumN_cons, ih fun x hx => h x (List.mem_cons_of_mem _ hx)]
theorem sumN_add (l : List Int) (f g : Int → Nat) : sumN l (fun x => f x + g x) = sumN l f + sumN l g := by
  induction l with
  | nil => rfl
  | cons a l ih => rw [sumN_cons, sumN_cons, sumN_cons, ih]; omega
theorem sumN_swap (l m : List Int) (f : Int → Int → Nat) : sumN l (fun i => sumN m (fun j => f i j)) = sumN m (fun j => sumN l (fun i => f i j)) := by
  induction l with
  | nil => exact (sumN_zero fun x _ => rfl).symm
  | cons a l ih =>
    rw [sumN_cons, ih, ← sumN_add]
    exact sumN_congr fun x _ => by rw [sumN_cons]
theorem filter_len (l : List Int) (p : Int → Bool) : (l.filter p).length = sumN l (fun x => ind (p x)) := by
  induction l with
  | nil => rfl
  | cons a l ih =>
    rw [sumN_cons, List.filter_cons]
    unfold ind at ih ⊢
    cases p a
    · simp only [Bool.false_eq_true, if_false]; omega
    · simp only [if_true, List.length_cons]; omega
/-! ### a list by its places -/
def g0 (s : List Int) (i : Int) : Int := s.getD i.toNat 0
theorem g0_at {s : List Int} {i : Nat} {x : Int} (h : s[i]? = some x) : g0 s (i : Int) = x := by
  unfold g0
  rw [Int.toNat_natCast, List.getD_eq_getElem?_getD, h]
  rfl
theorem by_places (s : List Int) : s = (rg s.length).map (g0 s) := by
  apply List.ext_getElem?
  intro i
  unfold rg
  rw [List.getElem?_map, List.getElem?_map]
  by_cases h : i < s.length
  · rw [List.getElem?_range h, List.getElem?_eq_getElem h]
    show some s[i] = some (g0 s (i : Int))
    rw [g0_at (List.getElem?_eq_getElem h)]
  · rw [List.getElem?_eq_none (by omega), List.getElem?_eq_none (by rw [List.length_range]; omega)]
    rfl
theorem rg_succ (n : Nat) : rg (n + 1) = rg n ++ [(n : Int)] := by
  unfold rg
  rw [List.range_succ, List.map_append]
  rfl
/-- how many of the later ones are less -/
def cntL (s : List Int) (i : Nat) : Nat := ((s.drop (i + 1)).filter (fun x => decide (x < g0 s i))).length
def invF (n : Nat) (a : Int → Int) : Nat := sumN (rg n) fun i => sumN (rg n) fun j => ind (decide (i < j) && decide (a j < a i))
def invN (s : List Int) : Nat := sumN (rg s.length) fun i => cntL s i.toNat
theorem drop_sum (n i : Nat) (f : Int → Nat) : sumN ((rg n).drop (i + 1)) f = sumN (rg n) fun j => if (i : Int) < j then f j else 0 := by
  induction n with
  | zero => rfl
  | succ n ih =>
    rw [rg_succ, sumN_append, ← ih, List.drop_append, sumN_append, rg_len]
    congr 1
    by_cases h : i + 1 ≤ n
    · rw [show i + 1 - n = 0 by omega, List.drop_zero, sumN_cons, sumN_cons, sumN_nil, sumN_nil, if_pos (by omega)]
    · rw [show i + 1 - n = (i - n) + 1 by omega, List.drop_succ_cons, List.drop_nil, sumN_cons, sumN_nil, sumN_nil, if_neg (by omega)]
theorem cnt_sum (s : List Int) (i : Nat) : cntL s i = sumN (rg s.length) fun j => ind (decide ((i : Int) < j) && decide (g0 s j < g0 s i)) := by
  unfold cntL
  rw [filter_len]
  have e : s.drop (i + 1) = ((rg s.length).drop (i + 1)).map (g0 s) := by
    rw [List.map_drop, ← by_places]
  rw [e, sumN_map, drop_sum]
  apply sumN_congr
  intro j _
  unfold ind
  by_cases h : (i : Int) < j
  · simp [h]
  · simp [h]
theorem inv_eq (s : List Int) : invN s = invF s.length (g0 s) := by
  unfold invN invF
  apply sumN_congr
  intro i hi
  have := rg_mem.mp hi
  rw [cnt_sum, Int.toNat_of_nonneg this.1]
/-! ### places of things -/
def pos (ys : List Int) (x : Int) : Int := ((ys.idxOf x : Nat) : Int)
def seatsL (xs ys : List Int) : List Int := xs.map (pos ys)
theorem pos_of {n : Nat} {ys : List Int} (o : IsOrd n ys) {j : Nat} {x : Int} (h : ys[j]? = some x) : pos ys x = (j : Int) := by
  obtain ⟨hj, e⟩ := List.getElem?_eq_some_iff.mp h
  have m : x ∈ ys := List.mem_of_getElem? h
  have hi : ys.idxOf x < ys.length := List.idxOf_lt_length_iff.mpr m
  have h2 : ys[ys.idxOf x]? = some x := by
    rw [List.getElem?_eq_getElem hi]
    exact congrArg some (List.getElem_idxOf hi)
  unfold pos
  rw [nd_ix o.nodup h2 h]
theorem pos_at {n : Nat} {ys : List Int} (o : IsOrd n ys) {x : Int} (h0 : 0 ≤ x) (h1 : x < n) : ∃ j : Nat, j < n ∧ ys[j]? = some x ∧ pos ys x = (j : Int) := by
  obtain ⟨j, hj, e⟩ := ord_at o (t := x.toNat) (by omega)
  rw [Int.toNat_of_nonneg h0] at e
  exact ⟨j, hj, e, pos_of o e⟩
theorem back_pos {n : Nat} {ys ps : List Int} (o : IsOrd n ys) (h : IsBack ys ps) {x : Int} (h0 : 0 ≤ x) (h1 : x < n) : ps[x.toNat]? = some (pos ys x) := by
  obtain ⟨j, hj, e, ep⟩ := pos_at o h0 h1
  rw [ep]
  exact h.2 j x e
theorem seats_len (xs ys : List Int) : (seatsL xs ys).length = xs.length := by
  unfold seatsL
  rw [List.length_map]
theorem seats_at {xs ys : List Int} {i : Nat} {x : Int} (h : xs[i]? = some x) : (seatsL xs ys)[i]? = some (pos ys x) := by
  unfold seatsL
  rw [List.getElem?_map, h]
  rfl
theorem seats_self {n : Nat} {ys : List Int} (o : IsOrd n ys) : seatsL ys ys = rg n := by
  apply List.ext_getElem?
  intro i
  by_cases h : i < n
  · obtain ⟨x, hx, _⟩ := ord_ix o h
    rw [seats_at hx, pos_of o hx]
    unfold rg
    rw [List.getElem?_map, List.getElem?_range h]
    rfl
  · rw [List.getElem?_eq_none (by rw [seats_len, o.len]; omega), List.getElem?_eq_none (by rw [rg_len]; omega)]
theorem seats_ord {n : Nat} {xs ys : List Int} (ox : IsOrd n xs) (oy : IsOrd n ys) : IsOrd n (seatsL xs ys) := by
  have h : (seatsL xs ys).Perm (seatsL ys ys) := List.Perm.map _ (ox.trans oy.symm)
  rw [seats_self oy] at h
  exact h
theorem g0_ord {n : Nat} {s : List Int} (o : IsOrd n s) : s = (rg n).map (g0 s) := by
  have e := by_places s
  rw [o.len] at e
  exact e
/-- inversions from the other side -/
theorem inv_turn {n : Nat} {s t : List Int} (os : IsOrd n s) (ot : IsOrd n t) (h : ∀ u ∈ rg n, g0 s (g0 t u) = u) : invN s = invN t := by
  rw [inv_eq, inv_eq, os.len, ot.len]
  unfold invF
  have p1 : ∀ f : Int → Nat, sumN (rg n) f = sumN (rg n) fun u => f (g0 t u) := fun f => by
    have e : sumN ((rg n).map (g0 t)) f = sumN (rg n) fun u => f (g0 t u) := sumN_map _ _ _
    rw [← e, ← g0_ord ot]
    exact (sumN_perm ot f).symm
  rw [p1]
  rw [sumN_congr (g := fun u => sumN (rg n) fun v => ind (decide (g0 t u < g0 t v) && decide (v < u))) (fun u hu => by
    rw [p1]
    exact sumN_congr fun v hv => by rw [h u hu, h v hv])]
  rw [sumN_swap]
  apply sumN_congr
  intro v _
  apply sumN_congr
  intro u _
  rw [Bool.and_comm]
theorem seats_turn {n : Nat} {xs ys : List Int} (ox : IsOrd n xs) (oy : IsOrd n ys) : ∀ u ∈ rg n, g0 (seatsL xs ys) (g0 (seatsL ys xs) u) = u := by
  intro u hu
  have hb := rg_mem.mp hu
  obtain ⟨y, hy, y0, y1⟩ := ord_ix oy (j := u.toNat) (by omega)
  have e1 : g0 (seatsL ys xs) u = pos xs y := by
    have := g0_at (seats_at (ys := xs) hy)
    rw [Int.toNat_of_nonneg hb.1] at this
    exact this
  obtain ⟨j, hj, ej, pj⟩ := pos_at ox y0 y1
  rw [e1, pj, g0_at (seats_at (ys := ys) ej), pos_of oy hy]
  omega
/-! ### how far two orders are -/
def farSwap (xs ys : List Int) : Int := ((invN (seatsL xs ys) : Nat) : Int)
def spotL (xs ys : List Int) : List Int := (rg xs.length).filter fun p => !decide (g0 xs p = g0 ys p)
def farSpot (xs ys : List Int) : Int := (((spotL xs ys).length : Nat) : Int)
def absI (i : Int) : Int := if i < 0 then -i else i
def gapsL (xs ys : List Int) : List Int := (rg xs.length).map fun p => absI (p - g0 (seatsL xs ys) p)
def maxL (l : List Int) : Int := l.foldr max 0
def farShift (xs ys : List Int) : Int := maxL (gapsL xs ys)
theorem maxL_of : ∀ {l : List Int} {m : Int}, (∀ x ∈ l, 0 ≤ x) → m ∈ l → (∀ x ∈ l, x ≤ m) → maxL l = m := by
  intro l m h0 hm hle
  have key : ∀ l : List Int, (∀ x ∈ l, x ≤ m) → maxL l ≤ m := by
    intro l hl
    induction l with
    | nil => exact h0 m hm
    | cons a l ih =>
      show max a (maxL l) ≤ m
      have h1 := hl a List.mem_cons_self
      have h2 := ih fun x hx => hl x (List.mem_cons_of_mem _ hx)
      omega
  have key2 : ∀ l : List Int, ∀ x ∈ l, x ≤ maxL l := by
    intro l
    induction l with
    | nil => intro x hx; exact absurd hx List.not_mem_nil
    | cons a l ih =>
      intro x hx
      show x ≤ max a (maxL l)
      rcases List.mem_cons.mp hx with rfl | hx
      · omega
      · have := ih x hx
        omega
  have := key l hle
  have := key2 l m hm
  omega
theorem gaps_nonneg (xs ys : List Int) : ∀ x ∈ gapsL xs ys, 0 ≤ x := by
  intro x hx
  obtain ⟨p, _, rfl⟩ := List.mem_map.mp hx
  unfold absI
  split <;> omega
theorem maxL_mem {l : List Int} (h0 : ∀ x ∈ l, 0 ≤ x) (hl : 0 < l.length) : maxL l ∈ l ∧ ∀ x ∈ l, x ≤ maxL l := by
  induction l with
  | nil => exact absurd hl (Nat.lt_irrefl _)
  | cons a l ih =>
    show max a (maxL l) ∈ a :: l ∧ ∀ x ∈ a :: l, x ≤ max a (maxL l)
    by_cases c : 0 < l.length
    · obtain ⟨h1, h2⟩ := ih (fun x hx => h0 x (List.mem_cons_of_mem _ hx)) c
      constructor
      · by_cases d : maxL l ≤ a
        · rw [Int.max_eq_left d]
          exact List.mem_cons_self
        · rw [Int.max_eq_right (by omega)]
          exact List.mem_cons_of_mem _ h1
      · intro x hx
        rcases List.mem_cons.mp hx with rfl | hx
        · omega
        · have := h2 x hx
          omega
    · have e : l = [] := List.eq_nil_of_length_eq_zero (by omega)
      subst e
      have := h0 a List.mem_cons_self
      have e2 : max a (maxL []) = a := by show max a 0 = a; omega
      rw [e2]
      exact ⟨List.mem_cons_self, fun x hx => by rw [List.mem_singleton.mp hx]; exact Int.le_refl _⟩
theorem farSwap_turn {n : Nat} {xs ys : List Int} (ox : IsOrd n xs) (oy : IsOrd n ys) : farSwap ys xs = farSwap xs ys := by
  unfold farSwap
  rw [inv_turn (seats_ord ox oy) (seats_ord oy ox) (seats_turn ox oy)]
theorem inv_rg (n : Nat) : invN (rg n) = 0 := by
  rw [inv_eq]
  unfold invF
  apply sumN_zero
  intro i hi
  apply sumN_zero
  intro j hj
  rw [rg_len] at hi hj
  have hi2 := rg_mem.mp hi
  have hj2 := rg_mem.mp hj
  have e : ∀ k : Int, k ∈ rg n → g0 (rg n) k = k := fun k hk => by
    have := rg_mem.mp hk
    have z : (rg n)[k.toNat]? = some k := by
      unfold rg
      rw [List.getElem?_map, List.getElem?_range (by omega)]
      show some ((k.toNat : Nat) : Int) = some k
      rw [Int.toNat_of_nonneg this.1]
    have z2 := g0_at z
    rw [Int.toNat_of_nonneg this.1] at z2
    exact z2
  rw [e i hi, e j hj]
  unfold ind
  by_cases c : i < j
  · have d : ¬ j < i := by omega
    simp [c, d]
  · simp [c]
theorem farSwap_self {n : Nat} {xs : List Int} (ox : IsOrd n xs) : farSwap xs xs = 0 := by
  unfold farSwap
  rw [seats_self ox, inv_rg]
  rfl
theorem farSpot_turn {xs ys : List Int} (h : xs.length = ys.length) : farSpot ys xs = farSpot xs ys := by
  unfold farSpot spotL
  rw [h]
  congr 3
  funext p
  congr 1
  by_cases c : g0 ys p = g0 xs p
  · rw [decide_eq_true c, decide_eq_true c.symm]
  · rw [decide_eq_false c, decide_eq_false fun e => c e.symm]
theorem farSpot_self (xs : List Int) : farSpot xs xs = 0 := by
  unfold farSpot spotL
  have e : ((rg xs.length).filter fun p => !decide (g0 xs p = g0 xs p)) = [] := by
    rw [List.filter_eq_nil_iff]
    intro a _
    simp
  rw [e]
  rfl
theorem gaps_len (xs ys : List Int) : (gapsL xs ys).length = xs.length := by
  unfold gapsL
  rw [List.length_map, rg_len]
theorem gaps_sub {n : Nat} {xs ys : List Int} (ox : IsOrd n xs) (oy : IsOrd n ys) : ∀ g ∈ gapsL ys xs, g ∈ gapsL xs ys := by
  intro g hg
  obtain ⟨u, hu, rfl⟩ := List.mem_map.mp hg
  rw [oy.len] at hu
  have hb := (seats_ord oy ox).mem (x := g0 (seatsL ys xs) u) (by
    have e := g0_ord (seats_ord oy ox)
    rw [e]
    exact List.mem_map.mpr ⟨u, hu, by rw [← e]⟩)
  refine List.mem_map.mpr ⟨g0 (seatsL ys xs) u, by rw [ox.len]; exact rg_mem.mpr hb, ?_⟩
  rw [seats_turn ox oy u hu]
  unfold absI
  split <;> split <;> omega
theorem farShift_turn {n : Nat} {xs ys : List Int} (ox : IsOrd n xs) (oy : IsOrd n ys) (hn : 1 ≤ n) : farShift ys xs = farShift xs ys := by
  unfold farShift
  obtain ⟨h1, h2⟩ := maxL_mem (gaps_nonneg xs ys) (by rw [gaps_len, ox.len]; exact hn)
  exact maxL_of (gaps_nonneg ys xs) (gaps_sub oy ox _ h1) fun x hx => h2 x (gaps_sub ox oy x hx)
theorem farShift_self {n : Nat} {xs : List Int} (ox : IsOrd n xs) (hn : 1 ≤ n) : farShift xs xs = 0 := by
  unfold farShift
  have z : ∀ g ∈ gapsL xs xs, g = 0 := by
    intro g hg
    obtain ⟨u, hu, rfl⟩ := List.mem_map.mp hg
    rw [ox.len] at hu
    have hb := rg_mem.mp hu
    rw [seats_self ox]
    have e : (rg n)[u.toNat]? = some u := by
      unfold rg
      rw [List.getElem?_map, List.getElem?_range (by omega)]
      show some ((u.toNat : Nat) : Int) = some u
      rw [Int.toNat_of_nonneg hb.1]
    have z2 := g0_at e
    rw [Int.toNat_of_nonneg hb.1] at z2
    rw [z2]
    unfold absI
    split <;> omega
  obtain ⟨h1, _⟩ := maxL_mem (gaps_nonneg xs xs) (by rw [gaps_len, ox.len]; exact hn)
  exact z _ h1
end Fo
namespace Fo
open PySem PySem.Spec PyProof.Rows L2
theorem pos_ord {n : Nat} {xs : List Int} (o : IsOrd n xs) : IsOrd n ((rg n).map (pos xs)) := by
  have h : ((rg n).map (pos xs)).Perm (seatsL xs xs) := List.Perm.map _ o.symm
  rw [seats_self o] at h
  exact h
theorem pos_in {n : Nat} {xs : List Int} (o : IsOrd n xs) {t : Int} (h : t ∈ rg n) : pos xs t ∈ rg n := by
  have := (pos_ord o).mem (List.mem_map.mpr ⟨t, h, rfl⟩)
  exact rg_mem.mpr this
theorem pos_inj {n : Nat} {xs : List Int} (o : IsOrd n xs) {t u : Int} (ht : t ∈ rg n) (hu : u ∈ rg n) (e : pos xs t = pos xs u) : t = u := by
  have h1 := rg_mem.mp ht
  have h2 := rg_mem.mp hu
  obtain ⟨i, _, ei, pi⟩ := pos_at o h1.1 h1.2
  obtain ⟨j, _, ej, pj⟩ := pos_at o h2.1 h2.2
  have : i = j := by omega
  subst this
  exact Option.some.inj (ei.symm.trans ej)
/-- a sum over the places is a sum over the things -/
theorem sum_pos {n : Nat} {xs : List Int} (o : IsOrd n xs) (f : Int → Nat) : sumN (rg n) f = sumN (rg n) fun t => f (pos xs t) := by
  have e : sumN ((rg n).map (pos xs)) f = sumN (rg n) fun t => f (pos xs t) := sumN_map _ _ _
  rw [← e]
  exact (sumN_perm (pos_ord o) f).symm
theorem sum_g0 {n : Nat} {xs : List Int} (o : IsOrd n xs) (f : Int → Nat) : sumN (rg n) f = sumN (rg n) fun p => f (g0 xs p) := by
  have e : sumN ((rg n).map (g0 xs)) f = sumN (rg n) fun t => f (g0 xs t) := sumN_map _ _ _
  rw [← e, ← g0_ord o]
  exact (sumN_perm o f).symm
theorem g0_pos {n : Nat} {xs : List Int} (o : IsOrd n xs) {t : Int} (h : t ∈ rg n) : g0 xs (pos xs t) = t := by
  have h1 := rg_mem.mp h
  obtain ⟨j, _, ej, pj⟩ := pos_at o h1.1 h1.2
  rw [pj]
  exact g0_at ej
theorem pos_g0 {n : Nat} {xs : List Int} (o : IsOrd n xs) {p : Int} (h : p ∈ rg n) : pos xs (g0 xs p) = p := by
  have h1 := rg_mem.mp h
  obtain ⟨x, hx, _⟩ := ord_ix o (j := p.toNat) (by omega)
  have e := g0_at hx
  rw [Int.toNat_of_nonneg h1.1] at e
  rw [e, pos_of o hx]
  omega
theorem g0_in {n : Nat} {xs : List Int} (o : IsOrd n xs) {p : Int} (h : p ∈ rg n) : g0 xs p ∈ rg n := by
  have h1 := rg_mem.mp h
  obtain ⟨x, hx, x0, x1⟩ := ord_ix o (j := p.toNat) (by omega)
  have e := g0_at hx
  rw [Int.toNat_of_nonneg h1.1] at e
  rw [e]
  exact rg_mem.mpr ⟨x0, x1⟩
end Fo
namespace Fo
open PySem PySem.Spec PyProof.Rows L2
/-! ### all orders of few things -/
def extO (n : Nat) (o : List Int) : List (List Int) := ((rg n).filter fun t => !decide (t ∈ o)).map fun t => o ++ [t]
def allK (n : Nat) : Nat → List (List Int)
  | 0 => [[]]
  | k + 1 => (allK n k).flatMap (extO n)
theorem allK_row {n : Nat} : ∀ (k : Nat) (r : List Int), r ∈ allK n k → r.length = k ∧ r.Nodup ∧ ∀ x ∈ r, x ∈ rg n
  | 0, r, h => by
    rw [List.mem_singleton.mp h]
    exact ⟨rfl, List.nodup_nil, fun x hx => absurd hx List.not_mem_nil⟩
  | k + 1, r, h => by
    obtain ⟨o, ho, hr⟩ := List.mem_flatMap.mp h
    obtain ⟨h1, h2, h3⟩ := allK_row k o ho
    obtain ⟨t, ht, rfl⟩ := List.mem_map.mp hr
    obtain ⟨ht1, ht2⟩ := List.mem_filter.mp ht
    have hto : t ∉ o := by simpa using ht2
    refine ⟨by rw [List.length_append, h1]; rfl, ?_, fun x hx => ?_⟩
    · rw [List.nodup_append]
      refine ⟨h2, List.nodup_cons.mpr ⟨List.not_mem_nil, List.nodup_nil⟩, fun x hx y hy e => ?_⟩
      rw [List.mem_singleton.mp hy] at e
      exact hto (by rw [← e]; exact hx)
    · rcases List.mem_append.mp hx with hx | hx
      · exact h3 x hx
      · rw [List.mem_singleton.mp hx]
        exact ht1
theorem extO_len (n : Nat) (o : List Int) : (extO n o).length ≤ n := by
  unfold extO
  rw [List.length_map]
  have := List.length_filter_le (fun t => !decide (t ∈ o)) (rg n)
  rw [rg_len] at this
  exact this
theorem flat_len (n : Nat) : ∀ l : List (List Int), (l.flatMap (extO n)).length ≤ l.length * n
  | [] => Nat.zero_le _
  | o :: l => by
    rw [List.flatMap_cons, List.length_append, List.length_cons, Nat.add_mul, Nat.one_mul]
    have := flat_len n l
    have := extO_len n o
    omega
theorem allK_len {n : Nat} (hn : n ≤ 6) : ∀ k, k ≤ n → (allK n k).length ≤ 6 ^ k
  | 0, _ => Nat.le_refl _
  | k + 1, hk => by
    have ih := allK_len hn k (by omega)
    have h1 : (allK n (k + 1)).length ≤ (allK n k).length * n := flat_len n (allK n k)
    have h2 : (allK n k).length * n ≤ 6 ^ k * 6 := Nat.mul_le_mul ih hn
    rw [Nat.pow_succ]
    omega
theorem pow6 {k : Nat} (h : k ≤ 6) : 6 ^ k ≤ 46656 := by
  have : 6 ^ k ≤ 6 ^ 6 := Nat.pow_le_pow_right (by decide) h
  exact this
theorem nodup_count : ∀ {l : List Int}, l.Nodup → ∀ a, l.count a = if a ∈ l then 1 else 0
  | [], _, a => by simp
  | b :: l, h, a => by
    obtain ⟨h1, h2⟩ := List.nodup_cons.mp h
    have ih := nodup_count h2 a
    rw [List.count_cons, ih]
    by_cases c : b = a
    · subst c
      simp [h1]
    · have c2 : ¬ a = b := fun e => c e.symm
      simp [c, c2]
theorem nodup_ord {n : Nat} {s : List Int} (hl : s.length = n) (hn : s.Nodup) (hb : ∀ x ∈ s, x ∈ rg n) : IsOrd n s := by
  unfold IsOrd
  rw [List.perm_iff_count]
  intro a
  rw [nodup_count hn, nodup_count (rg_nodup n)]
  by_cases c : a ∈ s
  · rw [if_pos c, if_pos (hb a c)]
  · rw [if_neg c]
    by_cases d : a ∈ rg n
    · exfalso
      have := nodup_len (l := a :: s) (m := rg n) (List.nodup_cons.mpr ⟨c, hn⟩) fun x hx => by
        rcases List.mem_cons.mp hx with rfl | hx
        · exact d
        · exact hb x hx
      rw [List.length_cons, rg_len] at this
      omega
    · rw [if_neg d]
theorem all_ord {n : Nat} {r : List Int} (h : r ∈ allK n n) : IsOrd n r := by
  obtain ⟨h1, h2, h3⟩ := allK_row n r h
  exact nodup_ord h1 h2 h3
theorem inV_int (t : Int) : ∀ row : List Int, inV (.int t) (row.map V.int) = decide (t ∈ row)
  | [] => rfl
  | a :: r => by
    have ih := inV_int t r
    unfold inV at ih ⊢
    rw [List.map_cons, List.any_cons, ih, eqV_int]
    by_cases c : a = t
    · subst c
      simp
    · have c2 : ¬ t = a := fun e => c e.symm
      simp [c, c2]
theorem ext_more {n : Nat} {o : List Int} (j : Nat) : ((rg (j + 1)).filter fun t => !decide (t ∈ o)).map (fun t => o ++ [t]) = (((rg j).filter fun t => !decide (t ∈ o)).map fun t => o ++ [t]) ++ (if (j : Int) ∈ o then [] else [o ++ [(j : Int)]]) := by
  rw [rg_succ, List.filter_append, List.map_append, List.filter_cons]
  congr 1
  by_cases c : (j : Int) ∈ o
  · rw [decide_eq_true c, if_pos c]
    rfl
  · rw [decide_eq_false c, if_neg c]
    rfl
/-! ### comprehensions with two fors: a list, then a range -/
theorem lc2_list {K : PySem.W.Frag} {a : Addr} {xs : List V} {g : TG} {tt : TT} {wi1 : TI} {g1 : TG} {tt1 : TT} {te : TE} {vs vs1 : List Nat} {σ : L2.St} {H1 : Hp} {D : Addr} {Qd : Hp → Prop} (Pv : Nat → Hp → Prop) (h0 : Pv 0 (upd H1 D (.lst []))) (hl : ∀ i H, i ≤ xs.length → Pv i H → SqL K H a xs)
    (hs : ∀ i x H, xs[i]? = some x → Pv i H → g x (wipe σ vs) H fun σ2 H2 => wipe σ2 vs = wipe σ vs ∧ tt σ2 H2 fun b H3 =>
      if b = true then wi1 σ2 H3 fun J1 H4 => ∃ W1 : Nat → Nat → Hp → Prop, (∃ m, W1 0 m H4) ∧ ∀ j k H, W1 j k H →
        (J1.stop j H ∧ Pv (i + 1) H) ∨ (J1.go j H ∧ ∃ Nx1 : Hp → Prop, (∀ H', Nx1 H' → ∃ k', k' < k ∧ W1 (j + 1) k' H') ∧ ∀ x H', J1.yld j H x H' → g1 x (wipe σ2 vs1) H' fun σ3 H5 => wipe σ3 vs1 = wipe σ2 vs1 ∧ tt1 σ3 H5 fun b H6 =>
          if b = true then te σ3 H6 fun y H7 => ∃ acc, H7 D = some (.lst acc) ∧ acc.length < sizeLine ∧ Nx1 (upd H7 D (.lst (acc ++ [y]))) else Nx1 H6)
      else Pv (i + 1) H3) (hd : ∀ H, Pv xs.length H → Qd H) :
    ∃ W : Nat → Nat → Hp → Prop, (∃ m, W 0 m (upd H1 D (.lst []))) ∧ ∀ i m H, W i m H →
      ((Itl K a).stop i H ∧ Qd H) ∨ ((Itl K a).go i H ∧ ∃ Nx : Hp → Prop, (∀ H', Nx H' → ∃ m', m' < m ∧ W (i + 1) m' H') ∧ ∀ x H', (Itl K a).yld i H x H' → g x (wipe σ vs) H' fun σ2 H2 => wipe σ2 vs = wipe σ vs ∧ tt σ2 H2 fun b H3 =>
        if b = true then wi1 σ2 H3 fun J1 H4 => ∃ W1 : Nat → Nat → Hp → Prop, (∃ m, W1 0 m H4) ∧ ∀ j k H, W1 j k H →
          (J1.stop j H ∧ Nx H) ∨ (J1.go j H ∧ ∃ Nx1 : Hp → Prop, (∀ H', Nx1 H' → ∃ k', k' < k ∧ W1 (j + 1) k' H') ∧ ∀ x H', J1.yld j H x H' → g1 x (wipe σ2 vs1) H' fun σ3 H5 => wipe σ3 vs1 = wipe σ2 vs1 ∧ tt1 σ3 H5 fun b H6 =>
            if b = true then te σ3 H6 fun y H7 => ∃ acc, H7 D = some (.lst acc) ∧ acc.length < sizeLine ∧ Nx1 (upd H7 D (.lst (acc ++ [y]))) else Nx1 H6)
        else Nx H3) := by
  refine ⟨fun i m H => m = xs.length - i ∧ i ≤ xs.length ∧ Pv i H, ⟨xs.length, by simp, Nat.zero_le _, h0⟩, ?_⟩
  rintro i m H ⟨rfl, hi, p⟩
  have q := hl i H hi p
  by_cases hlt : i < xs.length
  · refine .inr ⟨⟨xs, xs[i], q, by simp [hlt]⟩, Pv (i + 1), fun H' p' => ⟨xs.length - (i + 1), by omega, rfl, hlt, p'⟩, fun x H' y => ?_⟩
    obtain ⟨e, y⟩ := y
    subst e
    exact hs i x _ (y _ q) p
  · have e : i = xs.length := by omega
    subst e
    exact .inl ⟨⟨xs, q, Nat.le_refl _⟩, hd H p⟩
theorem in_range {lo : Int} {n : Nat} {g1 : TG} {tt1 : TT} {te : TE} {vs1 : List Nat} {σ2 : L2.St} {H4 : Hp} {D : Addr} {Nx : Hp → Prop} (Pw : Nat → Hp → Prop) (h0 : Pw 0 H4)
    (hs : ∀ j H, j < n → Pw j H → g1 (.int (lo + j)) (wipe σ2 vs1) H fun σ3 H5 => wipe σ3 vs1 = wipe σ2 vs1 ∧ tt1 σ3 H5 fun b H6 =>
      if b = true then te σ3 H6 fun y H7 => ∃ acc, H7 D = some (.lst acc) ∧ acc.length < sizeLine ∧ Pw (j + 1) (upd H7 D (.lst (acc ++ [y]))) else Pw (j + 1) H6) (hd : ∀ H, Pw n H → Nx H) :
    ∃ W1 : Nat → Nat → Hp → Prop, (∃ m, W1 0 m H4) ∧ ∀ j k H, W1 j k H →
      ((Itr lo n).stop j H ∧ Nx H) ∨ ((Itr lo n).go j H ∧ ∃ Nx1 : Hp → Prop, (∀ H', Nx1 H' → ∃ k', k' < k ∧ W1 (j + 1) k' H') ∧ ∀ x H', (Itr lo n).yld j H x H' → g1 x (wipe σ2 vs1) H' fun σ3 H5 => wipe σ3 vs1 = wipe σ2 vs1 ∧ tt1 σ3 H5 fun b H6 =>
        if b = true then te σ3 H6 fun y H7 => ∃ acc, H7 D = some (.lst acc) ∧ acc.length < sizeLine ∧ Nx1 (upd H7 D (.lst (acc ++ [y]))) else Nx1 H6) := by
  refine ⟨fun j m H => m = n - j ∧ j ≤ n ∧ Pw j H, ⟨n, by simp, Nat.zero_le _, h0⟩, ?_⟩
  rintro j m H ⟨rfl, hi, p⟩
  by_cases hlt : j < n
  · refine .inr ⟨hlt, Pw (j + 1), fun H' p' => ⟨n - (j + 1), by omega, rfl, hlt, p'⟩, fun x H' y => ?_⟩
    obtain ⟨e, y⟩ := y
    subst e y
    exact hs j _ hlt p
  · have e : j = n := by omega
    subst e
    exact .inl ⟨Nat.le_refl _, hd H p⟩
end Fo
namespace Fo
open PySem PySem.Spec PyProof.Rows L2
/-- all orders stand in order -/
theorem extO_sorted (n : Nat) (o : List Int) : (extO n o).Pairwise (· < ·) := by
  unfold extO
  rw [List.pairwise_map]
  have h : (rg n).Pairwise (· < ·) := by
    unfold rg
    exact List.Pairwise.map _ (fun a b h => by omega) List.pairwise_lt_range
  exact (h.filter _).imp fun {a b} h => by
    induction o with
    | nil => exact List.cons_lt_cons_iff.mpr (.inl h)
    | cons x o ih => exact List.cons_lt_cons_iff.mpr (.inr ⟨rfl, ih⟩)
theorem lt_snoc {a b : List Int} (hl : a.length = b.length) (h : a < b) (x y : Int) : a ++ [x] < b ++ [y] := by
  induction a generalizing b with
  | nil =>
    match b, hl with
    | [], _ => exact absurd h (List.lt_irrefl _)
  | cons u a ih =>
    match b, hl with
    | v :: b, hl =>
      rcases List.cons_lt_cons_iff.mp h with h1 | ⟨h1, h2⟩
      · exact List.cons_lt_cons_iff.mpr (.inl h1)
      · exact List.cons_lt_cons_iff.mpr (.inr ⟨h1, ih (by simpa using hl) h2⟩)
theorem allK_sorted {n : Nat} : ∀ k, (allK n k).Pairwise (· < ·)
  | 0 => List.pairwise_singleton _ _
  | k + 1 => by
    show List.Pairwise _ ((allK n k).flatMap (extO n))
    rw [List.pairwise_flatMap]
    refine ⟨fun o _ => extO_sorted n o, (allK_sorted k).imp_of_mem fun {a b} ha hb h x hx y hy => ?_⟩
    obtain ⟨t, _, rfl⟩ := List.mem_map.mp hx
    obtain ⟨u, _, rfl⟩ := List.mem_map.mp hy
    exact lt_snoc (by rw [(allK_row k a ha).1, (allK_row k b hb).1]) h t u
theorem allK_mem {n : Nat} : ∀ (k : Nat) (r : List Int), r.length = k → r.Nodup → (∀ x ∈ r, x ∈ rg n) → r ∈ allK n k
  | 0, r, hl, _, _ => by rw [List.length_eq_zero_iff.mp hl]; exact List.mem_cons_self
  | k + 1, r, hl, hn, hs => by
    have hne : r ≠ [] := fun e => by rw [e] at hl; cases hl
    have e := List.dropLast_concat_getLast hne
    rw [← e] at hn hs ⊢
    rw [List.nodup_append] at hn
    have ih := allK_mem k r.dropLast (by rw [List.length_dropLast, hl]; rfl) hn.1 fun x hx => hs x (List.mem_append.mpr (.inl hx))
    refine List.mem_flatMap.mpr ⟨_, ih, List.mem_map.mpr ⟨r.getLast hne, List.mem_filter.mpr ⟨hs _ (List.mem_append.mpr (.inr (List.mem_singleton.mpr rfl))), ?_⟩, rfl⟩⟩
    rw [decide_eq_false (fun z => hn.2.2 _ z _ (List.mem_singleton.mpr rfl) rfl)]
    rfl
theorem ord_mem {n : Nat} {r : List Int} (o : IsOrd n r) : r ∈ allK n n := allK_mem n r o.len o.nodup fun x hx => rg_mem.mpr (o.mem hx)
end Fo
namespace Fo
open PySem PySem.Spec PyProof.Rows L2
/-! ### sets of things as numbers, the least cost of an order of a set -/
def tN (n S : Nat) : List Nat := (List.range n).filter fun t => S.testBit t
def tI (n S : Nat) : List Int := (tN n S).map fun t => ((t : Nat) : Int)
theorem bits_out : ∀ S < 512, ∀ t < 9, S.testBit t = true → ∀ u < 9, (S - 2 ^ t).testBit u = (S.testBit u && !(u == t)) := by decide +kernel
theorem bits_sub : ∀ S < 512, ∀ t < 9, S.testBit t = true → 2 ^ t ≤ S := by decide +kernel
theorem tI_full : ∀ n < 10, tI n (2 ^ n - 1) = rg n := by decide +kernel
theorem pow9 : ∀ n < 10, 2 ^ n ≤ 512 := by decide +kernel
theorem tI_mem {n S : Nat} {x : Int} : x ∈ tI n S ↔ ∃ t : Nat, t < n ∧ S.testBit t = true ∧ x = (t : Int) := by
  unfold tI tN
  rw [List.mem_map]
  constructor
  · rintro ⟨t, ht, rfl⟩
    obtain ⟨h1, h2⟩ := List.mem_filter.mp ht
    exact ⟨t, List.mem_range.mp h1, h2, rfl⟩
  · rintro ⟨t, h1, h2, rfl⟩
    exact ⟨t, List.mem_filter.mpr ⟨List.mem_range.mpr h1, h2⟩, rfl⟩
theorem tI_out {n S t : Nat} (hn : n < 10) (hS : S < 2 ^ n) (ht : t < n) (hb : S.testBit t = true) : (((t : Nat) : Int) :: tI n (S - 2 ^ t)).Perm (tI n S) := by
  have h9 := pow9 n hn
  have e : tN n (S - 2 ^ t) = (tN n S).erase t := by
    have hnd : (tN n S).Nodup := List.Pairwise.filter _ List.nodup_range
    rw [List.Nodup.erase_eq_filter hnd]
    unfold tN
    rw [List.filter_filter]
    apply List.filter_congr
    intro u hu
    have hu2 := List.mem_range.mp hu
    rw [bits_out S (by omega) t (by omega) hb u (by omega), Bool.and_comm]
    rfl
  have hm : t ∈ tN n S := List.mem_filter.mpr ⟨List.mem_range.mpr ht, hb⟩
  unfold tI
  rw [e]
  exact List.Perm.map (fun t : Nat => (t : Int)) (List.perm_cons_erase hm).symm
theorem tI_nil {n S : Nat} (hS : S < 2 ^ n) (h : tI n S = []) : S = 0 := by
  apply Nat.eq_of_testBit_eq
  intro i
  rw [Nat.zero_testBit]
  by_cases c : i < n
  · cases hb : S.testBit i with
    | false => rfl
    | true =>
      have : ((i : Nat) : Int) ∈ tI n S := tI_mem.mpr ⟨i, c, hb, rfl⟩
      rw [h] at this
      exact absurd this List.not_mem_nil
  · exact Nat.testBit_lt_two_pow (Nat.lt_of_lt_of_le hS (Nat.pow_le_pow_right (by decide) (by omega)))
/-- what an order costs: for each thing how often those behind it stand ahead of it -/
def cst (a : Int → Int → Int) : List Int → Int
  | [] => 0
  | t :: r => (r.map fun o => a o t).sum + cst a r
def swf (a : Int → Int → Int) (n : Nat) (ss : List Int) (t : Int) (S : Nat) : Int := ((tI n S).map fun o => a o t).sum + ss.getD (S - 2 ^ t.toNat) 0
structure IsSums (a : Int → Int → Int) (n : Nat) (ss : List Int) : Prop where
  z : ss.getD 0 0 = 0
  ex : ∀ S, 1 ≤ S → S < 2 ^ n → ∃ t ∈ tI n S, ss.getD S 0 = swf a n ss t S
  le : ∀ S, 1 ≤ S → S < 2 ^ n → ∀ t ∈ tI n S, ss.getD S 0 ≤ swf a n ss t S
theorem sum_perm {l m : List Int} (h : l.Perm m) : l.sum = m.sum := by
  induction h with
  | nil => rfl
  | cons x _ ih => rw [List.sum_cons, List.sum_cons, ih]
  | swap x y l => simp only [List.sum_cons]; omega
  | trans _ _ h1 h2 => exact h1.trans h2
theorem swf_out {a : Int → Int → Int} (h0 : ∀ t, a t t = 0) {n S t : Nat} {ss : List Int} (hn : n < 10) (hS : S < 2 ^ n) (ht : t < n) (hb : S.testBit t = true) : swf a n ss t S = ((tI n (S - 2 ^ t)).map fun o => a o t).sum + ss.getD (S - 2 ^ t) 0 := by
  unfold swf
  rw [← sum_perm (List.Perm.map (fun o => a o (t : Int)) (tI_out hn hS ht hb)), List.map_cons, List.sum_cons, h0, Int.toNat_natCast]
  omega
theorem cst_low {a : Int → Int → Int} (h0 : ∀ t, a t t = 0) {n : Nat} {ss : List Int} (hn : n < 10) (hs : IsSums a n ss) : ∀ (o : List Int) (S : Nat), S < 2 ^ n → o.Perm (tI n S) → ss.getD S 0 ≤ cst a o
  | [], S, hS, hp => by
    have := tI_nil hS (List.Perm.nil_eq hp).symm
    subst this
    rw [hs.z]
    exact Int.le_refl _
  | x :: r, S, hS, hp => by
    obtain ⟨t, ht, hb, rfl⟩ := tI_mem.mp ((List.Perm.mem_iff hp).mp List.mem_cons_self)
    have h9 := pow9 n hn
    have hsub := bits_sub S (by omega) t (by omega) hb
    have hp2 : r.Perm (tI n (S - 2 ^ t)) := List.Perm.cons_inv (hp.trans (tI_out hn hS ht hb).symm)
    have ih := cst_low h0 hn hs r (S - 2 ^ t) (Nat.lt_of_le_of_lt (Nat.sub_le _ _) hS) hp2
    have p2 : 0 < 2 ^ t := Nat.two_pow_pos t
    have hl := hs.le S (by omega) hS (t : Int) (tI_mem.mpr ⟨t, ht, hb, rfl⟩)
    rw [swf_out h0 hn hS ht hb] at hl
    show ss.getD S 0 ≤ (r.map fun o => a o (t : Int)).sum + cst a r
    rw [sum_perm (List.Perm.map (fun o => a o (t : Int)) hp2)]
    omega
/-- an order taken thing by thing, the least that can stand first each time -/
inductive Gr (a : Int → Int → Int) (n : Nat) (ss : List Int) : Nat → List Int → Prop where
  | nil : Gr a n ss 0 []
  | cons {S t : Nat} {r : List Int} : t < n → S.testBit t = true → ss.getD S 0 = swf a n ss (t : Int) S → (∀ u ∈ tI n S, ss.getD S 0 = swf a n ss u S → (t : Int) ≤ u) → Gr a n ss (S - 2 ^ t) r → Gr a n ss S ((t : Int) :: r)
theorem gr_perm {a : Int → Int → Int} {n : Nat} {ss : List Int} (hn : n < 10) {S : Nat} {g : List Int} (h : Gr a n ss S g) (hS : S < 2 ^ n) : g.Perm (tI n S) := by
  induction h with
  | nil =>
    have e : tI n 0 = [] := by
      cases q : tI n 0 with
      | nil => rfl
      | cons x r =>
        have : x ∈ tI n 0 := by rw [q]; exact List.mem_cons_self
        obtain ⟨t, _, hb, _⟩ := tI_mem.mp this
        rw [Nat.zero_testBit] at hb
        cases hb
    rw [e]
  | cons ht hb _ _ _ ih => exact (List.Perm.cons _ (ih (Nat.lt_of_le_of_lt (Nat.sub_le _ _) hS))).trans (tI_out hn hS ht hb)
theorem gr_cost {a : Int → Int → Int} (h0 : ∀ t, a t t = 0) {n : Nat} {ss : List Int} (hn : n < 10) (hs : IsSums a n ss) {S : Nat} {g : List Int} (h : Gr a n ss S g) (hS : S < 2 ^ n) : cst a g = ss.getD S 0 := by
  induction h with
  | nil => exact hs.z.symm
  | @cons S t r ht hb he _ hg ih =>
    have hp := gr_perm hn hg (Nat.lt_of_le_of_lt (Nat.sub_le _ _) hS)
    show (r.map fun o => a o (t : Int)).sum + cst a r = _
    rw [ih (Nat.lt_of_le_of_lt (Nat.sub_le _ _) hS), he, swf_out h0 hn hS ht hb, sum_perm (List.Perm.map (fun o => a o (t : Int)) hp)]
theorem gr_first {a : Int → Int → Int} (h0 : ∀ t, a t t = 0) {n : Nat} {ss : List Int} (hn : n < 10) (hs : IsSums a n ss) {S : Nat} {g : List Int} (h : Gr a n ss S g) (hS : S < 2 ^ n) : ∀ o : List Int, o.Perm (tI n S) → cst a o = ss.getD S 0 → g ≤ o := by
  induction h with
  | nil => intro o _ _; exact List.nil_le o
  | @cons S t r ht hb he hm hg ih =>
    intro o hp hc
    match o, hp, hc with
    | [], hp, _ =>
      have := List.Perm.mem_iff hp (a := ((t : Nat) : Int))
      exact absurd (this.mpr (tI_mem.mpr ⟨t, ht, hb, rfl⟩)) List.not_mem_nil
    | x :: o', hp, hc =>
      obtain ⟨u, hu, hbu, rfl⟩ := tI_mem.mp ((List.Perm.mem_iff hp).mp List.mem_cons_self)
      have h9 := pow9 n hn
      have p2 : 0 < 2 ^ u := Nat.two_pow_pos u
      have hsub := bits_sub S (by omega) u (by omega) hbu
      have hp2 : o'.Perm (tI n (S - 2 ^ u)) := List.Perm.cons_inv (hp.trans (tI_out hn hS hu hbu).symm)
      have hlow := cst_low h0 hn hs o' (S - 2 ^ u) (Nat.lt_of_le_of_lt (Nat.sub_le _ _) hS) hp2
      have hle := hs.le S (by omega) hS (u : Int) (tI_mem.mpr ⟨u, hu, hbu, rfl⟩)
      have hsw := swf_out h0 (ss := ss) hn hS hu hbu
      have hc' : (o'.map fun o => a o (u : Int)).sum + cst a o' = ss.getD S 0 := hc
      rw [sum_perm (List.Perm.map (fun o => a o (u : Int)) hp2)] at hc'
      have heq : ss.getD S 0 = swf a n ss (u : Int) S := by omega
      have htu := hm (u : Int) (tI_mem.mpr ⟨u, hu, hbu, rfl⟩) heq
      rw [List.cons_le_cons_iff]
      by_cases c : (t : Int) < (u : Int)
      · exact .inl c
      · have e : t = u := by omega
        subst e
        exact .inr ⟨rfl, ih (Nat.lt_of_le_of_lt (Nat.sub_le _ _) hS) o' hp2 (by omega)⟩
/-! ### the first of the least -/
def aStep (f : List Int → Int) (acc : Option (Int × List Int)) (o : List Int) : Option (Int × List Int) := match acc with
  | none => some (f o, o)
  | some (m, b) => if f o < m then some (f o, o) else some (m, b)
def amin (f : List Int → Int) (L : List (List Int)) : Option (Int × List Int) := L.foldl (aStep f) none
theorem amin_snoc (f : List Int → Int) (L : List (List Int)) (o : List Int) : amin f (L ++ [o]) = aStep f (amin f L) o := by
  unfold amin
  rw [List.foldl_append]
  rfl
theorem amin_none {f : List Int → Int} {L : List (List Int)} (h : amin f L = none) : L = [] := by
  cases List.eq_nil_or_concat L with
  | inl h => exact h
  | inr h2 =>
    obtain ⟨L', o, rfl⟩ := h2
    rw [List.concat_eq_append, amin_snoc] at h
    unfold aStep at h
    split at h
    · cases h
    · split at h <;> cases h
theorem amin_spec (f : List Int → Int) : ∀ (n : Nat) (L : List (List Int)), L.length = n → L ≠ [] → ∃ (b : List Int) (L1 L2 : List (List Int)), amin f L = some (f b, b) ∧ L = L1 ++ b :: L2 ∧ (∀ o ∈ L1, f b < f o) ∧ ∀ o ∈ L, f b ≤ f o
  | 0, L, hl, h => absurd (List.eq_nil_of_length_eq_zero hl) h
  | n + 1, L, hl, h => by
    cases List.eq_nil_or_concat L with
    | inl h2 => exact absurd h2 h
    | inr h2 =>
      obtain ⟨L', o, rfl⟩ := h2
      rw [List.concat_eq_append] at hl ⊢
      rw [amin_snoc]
      by_cases c : L' = []
      · subst c
        refine ⟨o, [], [], rfl, rfl, fun x hx => absurd hx List.not_mem_nil, fun x hx => ?_⟩
        rw [List.mem_singleton.mp hx]
        exact Int.le_refl _
      · obtain ⟨b, L1, L2, e1, e2, h1, h3⟩ := amin_spec f n L' (by rw [List.length_append] at hl; simpa using hl) c
        rw [e1]
        show ∃ b' L1' L2', (if f o < f b then some (f o, o) else some (f b, b)) = some (f b', b') ∧ _
        by_cases d : f o < f b
        · rw [if_pos d]
          refine ⟨o, L', [], rfl, rfl, fun x hx => Int.lt_of_lt_of_le d (h3 x hx), fun x hx => ?_⟩
          rcases List.mem_append.mp hx with hx | hx
          · exact Int.le_of_lt (Int.lt_of_lt_of_le d (h3 x hx))
          · rw [List.mem_singleton.mp hx]
            exact Int.le_refl _
        · rw [if_neg d]
          refine ⟨b, L1, L2 ++ [o], rfl, by rw [e2, List.append_assoc]; rfl, h1, fun x hx => ?_⟩
          rcases List.mem_append.mp hx with hx | hx
          · exact h3 x hx
          · rw [List.mem_singleton.mp hx]
            omega
theorem amin_congr {f g : List Int → Int} {L : List (List Int)} (h : ∀ o ∈ L, f o = g o) : amin f L = amin g L := by
  unfold amin
  generalize (none : Option (Int × List Int)) = acc
  induction L generalizing acc with
  | nil => rfl
  | cons x L ih =>
    show L.foldl (aStep f) (aStep f acc x) = L.foldl (aStep g) (aStep g acc x)
    have e : aStep f acc x = aStep g acc x := by
      unfold aStep
      rw [h x List.mem_cons_self]
    rw [e]
    exact ih (fun o ho => h o (List.mem_cons_of_mem _ ho)) _
theorem ord_all {n : Nat} {r : List Int} (o : IsOrd n r) : r ∈ allK n n := allK_mem n r o.len o.nodup fun x hx => (List.Perm.mem_iff o).mp hx
theorem amin_gr {a : Int → Int → Int} (h0 : ∀ t, a t t = 0) {n : Nat} {ss : List Int} (hn : n < 10) (hs : IsSums a n ss) {g : List Int} (h : Gr a n ss (2 ^ n - 1) g) : amin (cst a) (allK n n) = some (ss.getD (2 ^ n - 1) 0, g) := by
  have p2 : 0 < 2 ^ n := Nat.two_pow_pos n
  have hS : 2 ^ n - 1 < 2 ^ n := by omega
  have hp := gr_perm hn h hS
  rw [tI_full n hn] at hp
  have hg : g ∈ allK n n := ord_all hp
  have hc := gr_cost h0 hn hs h hS
  obtain ⟨b, L1, L2, e1, e2, h1, h2⟩ := amin_spec (cst a) _ (allK n n) rfl (List.ne_nil_of_mem hg)
  have hb : b ∈ allK n n := by rw [e2]; exact List.mem_append_right _ List.mem_cons_self
  have ob := all_ord hb
  have pb : b.Perm (tI n (2 ^ n - 1)) := by rw [tI_full n hn]; exact ob
  have l1 := cst_low h0 hn hs b _ hS pb
  have l2 := h2 g hg
  have ec : cst a b = ss.getD (2 ^ n - 1) 0 := by omega
  have le1 : g ≤ b := gr_first h0 hn hs h hS b pb ec
  have le2 : b ≤ g := by
    rw [e2] at hg
    rcases List.mem_append.mp hg with hg | hg
    · have := h1 g hg
      omega
    · rcases List.mem_cons.mp hg with hg | hg
      · rw [hg]
        exact List.le_refl _
      · have srt := allK_sorted (n := n) n
        rw [e2] at srt
        have := (List.pairwise_cons.mp (List.pairwise_append.mp srt).2.1).1 g hg
        exact List.le_of_lt this
  have e : b = g := List.le_antisymm le2 le1
  rw [e1, e] at *
  rw [hc]
end Fo
namespace Fo
open PySem PySem.Spec PyProof.Rows L2
def spWhole : Sp := fun vs H Q _ => ∃ i : Int, vs = [.int i] ∧ Q (.bl true) H
section
variable {P : Program} {w : World} {K : PySem.W.Frag} {mg : Str → Option Value} {base : Heap}
theorem scWhole : FnScope ["thing"] ["thing"] (defScope s_is_whole) := ⟨rfl, rfl, rfl, by decide +kernel, rfl, by decide +kernel, by decide +kernel⟩
theorem ok_whole {f : Addr} {fd : FuncData} {k : Nat} (T : Df K mg "is_whole" s_is_whole ["thing"] f fd) (B : Bi mg) : FnOk P w K mg base CX0 (k + 1) f fd ["thing"] spWhole := by
  refine T.F.ok scWhole (fun vs H Q E h => ?_) (fun cdv A outer s H vs Q E hr h => ?_)
  · obtain ⟨i, rfl, _⟩ := h
    rfl
  · obtain ⟨i, rfl, q⟩ := h
    refine ⟨_, pss_one (ps_ret (pe_and (pe_callB call_isi (by rfl) B.isinstance (by decide +kernel) (pa_cons (pv 0) (pa_cons (pe_bltn (v := .ty "int") (by rfl) B.int (by decide +kernel) rfl) pa_nil)))
      (pe_one (pe_not (pe_callB call_isi (by rfl) B.isinstance (by decide +kernel) (pa_cons (pv 0) (pa_cons (pe_bltn (v := .ty "bool") (by rfl) B.bool (by decide +kernel) rfl) pa_nil))))))), ?_⟩
    refine ⟨_, rfl, _, _, _, _, true, rfl, .ty _, .base (.int _), kit_ty (by decide +kernel), true, rfl, iteT ?_⟩
    exact ⟨_, rfl, _, _, _, _, false, rfl, .ty _, .base (.int _), kit_ty (by decide +kernel), false, rfl, q⟩
end
end Fo
namespace Fo
open PySem PySem.Spec PyProof.Rows L2
/-! ### whole numbers, orders -/
def spIsOrd : Sp := fun vs H Q _ => ∃ (a : Addr) (n : Nat) (ns : List Int), vs = [.ref a] ∧ H a = some (.lst (ns.map V.int)) ∧ IsOrd n ns ∧ 1 ≤ n ∧ n ≤ 12 ∧ ∀ H', Same H H' → Q (.bl true) H'
def spCheck : Sp := fun vs H Q _ => ∃ (a : Addr) (n : Nat) (ns : List Int), vs = [.ref a] ∧ H a = some (.lst (ns.map V.int)) ∧ IsOrd n ns ∧ 1 ≤ n ∧ n ≤ 12 ∧ ∀ H', Same H H' → Q .non H'
section
variable {P : Program} {w : World} {K : PySem.W.Frag} {mg : Str → Option Value} {base : Heap}
theorem scIsOrd : FnScope ["thing", "number"] ["thing"] (defScope s_is_order) := ⟨rfl, rfl, rfl, by decide +kernel, rfl, by decide +kernel, by decide +kernel⟩
theorem all_true (n : Nat) : (List.replicate n true).all id = true := by simp
set_option maxHeartbeats 2000000 in
theorem ok_is_order {f fW : Addr} {fd fdW : FuncData} {k : Nat} {t : Tok} (T : Df K mg "is_order" s_is_order ["thing"] f fd) (TW : Df K mg "is_whole" s_is_whole ["thing"] fW fdW) (B : Bi mg) (mM : mg "MOST_THINGS" = some (.int 12 t)) : FnOk P w K mg base CX0 (k + 2) f fd ["thing"] spIsOrd := by
  have GW : FnOk P w K mg base CX0 (k + 1) fW fdW ["thing"] spWhole := ok_whole TW B
  refine T.F.ok scIsOrd (fun vs H Q E h => ?_) (fun cdv A outer s H vs Q E hr h => ?_)
  · obtain ⟨a, n, ns, rfl, _⟩ := h
    rfl
  · obtain ⟨a, n, ns, rfl, hl, ho, hn1, hn2, q⟩ := h
    have hlm : (ns.map V.int).length = n := by rw [List.length_map, ho.len]
    refine ⟨_, pss_cons (ps_if (PW.pt (pw_or (pt_not (pt_val (pe_callB call_isi (by rfl) B.isinstance (by decide +kernel) (pa_cons (pv 0) (pa_cons (pe_bltn (v := .ty "list") (by rfl) B.list (by decide +kernel) rfl) pa_nil)))))
        (pw_or (pt_cmpR op_lt (pe_callB call_len_seq (by rfl) B.len PySem.boot_len (pa_cons (pv 0) pa_nil)) pe_int (nomark _)) (pw_or1 (pt_cmpR op_gt (pe_callB call_len_seq (by rfl) B.len PySem.boot_len (pa_cons (pv 0) pa_nil)) (pe_glob (v := .int 12) (by rfl) mM ⟨_, rfl⟩) (nomark _))))))
        (pss_one (ps_ret pe_bl)) pss_nil)
      (pss_cons (ps_if (pt_not (pt_val (pe_callB (cr_all rfl) (by rfl) B.all (by decide +kernel) (pa_cons (pe_lc (own := [("number", 1)]) (g := gName 1) (tt := tYes) (te := tCall spWhole [] E0 (tCons (tVar 1) tNil)) rfl scIsOrd.nd (pi_list (pv 0)) (blkOk_by (N := ["thing", "number"]) (sc := defScope s_is_order) (by decide +kernel)) (fun _ _ _ _ _ => pg_name (i := 1) scIsOrd.nd rfl (.inl rfl)) (fun _ _ _ _ _ => pts_nil)
          (fun _ _ _ _ _ => pe_call GW hr (by rfl) TW.g TW.F.kp TW.b .nil pass0 (pa_cons (pv 1) pa_nil))) pa_nil)))) (pss_one (ps_ret pe_bl)) pss_nil)
      (pss_one (ps_ret (pe_cmpR (op_eqD hr.units) (pe_callB cr_sorted (by rfl) B.sorted (by decide +kernel) (pa_cons (pv 0) pa_nil)) (pe_listRg rfl (by rfl) B.list (prg_1 (by rfl) B.range (pe_callB call_len_seq (by rfl) B.len PySem.boot_len (pa_cons (pv 0) pa_nil)))) (nomark _))))), ?_⟩
    refine ⟨_, rfl, _, _, _, _, true, rfl, .ty _, .base (.lst hl), kit_ty (by decide +kernel), true, rfl, iteF ?_⟩
    refine ⟨_, rfl, a, _, rfl, .inl (SqL.of hl), _, 1, rfl, rfl, _, rfl, ite2 (fun c => absurd (of_decide_eq_true c) (by rw [hlm]; omega)) (fun _ => ?_)⟩
    refine ⟨_, rfl, a, _, rfl, .inl (SqL.of hl), _, 12, rfl, rfl, _, rfl, ite2 (fun c => absurd (of_decide_eq_true c) (by rw [hlm]; omega)) (fun _ => ?_)⟩
    refine ⟨_, rfl, a, rfl, ⟨_, SqL.of hl⟩, fun p np => ?_⟩
    refine lc_list (K := K) (a := a) (xs := ns.map V.int) (fun i H3 => H3 p = some (.lst ((List.replicate i true).map V.bl)) ∧ Same H H3) ⟨upd_same, same_new np⟩ (fun i H3 _ hP => SqL.of (hP.2 _ _ hl)) (fun i x H3 hx hP => ?_) (fun H3 hP => ?_)
    · obtain ⟨y, ey, rfl⟩ := int_at_inv hx
      obtain ⟨hp3, sm⟩ := hP
      refine ⟨rfl, _, rfl, y, rfl, _, hp3, line_lt (by
        rw [List.length_map, List.length_replicate]
        have := (List.getElem?_eq_some_iff.mp hx).1
        omega), ?_, fun b o e => ?_⟩
      · rw [upd_same, List.replicate_succ', List.map_append]
        rfl
      · rw [upd_ne (ne_of_none e np)]
        exact sm _ _ e
    · obtain ⟨hp3, sm⟩ := hP
      have hl3 := sm _ _ hl
      refine ⟨p, _, rfl, SqL.of hp3, _, rfl, ?_⟩
      rw [all_true]
      refine iteF ?_
      refine ⟨_, rfl, a, ns, rfl, SqL.of hl3, by rw [ho.len]; omega, fun ns' s1 hperm hsrt ns1 => ?_⟩
      have hl4 := same_new (o := .lst (ns'.map V.int)) ns1 _ _ hl3
      refine ⟨_, rfl, a, _, rfl, .inl (SqL.of hl4), _, rfl, RgOk.of_le (by omega) (by rw [hlm]; omega) (by omega) (by omega), fun s2 ns2 => ?_⟩
      have e1 : ns' = rg n := sorted_eq (hperm.trans ho) hsrt (rg_sorted n)
      subst e1
      rw [hlm]
      have h1 : (upd (upd H3 s1 (.lst ((rg n).map V.int))) s2 (.lst (rgV 0 (n : Int)))) s1 = some (.lst ((rg n).map V.int)) := same_new ns2 _ _ upd_same
      have h2 : (upd (upd H3 s1 (.lst ((rg n).map V.int))) s2 (.lst (rgV 0 (n : Int)))) s2 = some (.lst ((rg n).map V.int)) := by rw [upd_same, rg_V]
      refine ⟨_, _, dp_list h1, dp_list h2, shaped_list _, shaped_list _, ?_⟩
      rw [eqv_list]
      exact q _ ((sm.trans (same_new ns1)).trans (same_new ns2))
end
end Fo
namespace Fo
open PySem PySem.Spec PyProof.Rows L2
def IsWay (w : Str) : Prop := w = "swap" ∨ w = "spot" ∨ w = "shift"
theorem n1 : ¬ (("spot" : Str) = "swap") := by decide +kernel
theorem n2 : ¬ (("shift" : Str) = "swap") := by decide +kernel
theorem n3 : ¬ (("shift" : Str) = "spot") := by decide +kernel
/-- the ways as the top has written them -/
structure Wy (K : PySem.W.Frag) (mg : Str → Option Value) (aW : Addr) : Prop where
  g : mg "WAYS" = some (.ref aW)
  t : ∀ H : Hp, SqT K H aW [.str "swap", .str "spot", .str "shift"]
theorem wy_mk {K : PySem.W.Frag} {mg : Str → Option Value} {aW : Addr} {dd : Option Addr} {n : Nat} {t1 t2 t3 : Tok} {sl : Array (Option Value)} (g : mg "WAYS" = some (.ref aW)) (l : K.lookup aW = some ⟨.type "tuple", dd, .seq #[.str "swap" t1, .str "spot" t2, .str "shift" t3] n, sl⟩) : Wy K mg aW :=
  ⟨g, fun H => .inr ⟨_, _, _, l, rfl, rfl, line_small (by show 3 ≤ 16777216; decide), .cons ⟨_, rfl⟩ (.cons ⟨_, rfl⟩ (.cons ⟨_, rfl⟩ .nil))⟩⟩
def spWay : Sp := fun vs H Q _ => ∃ (w : Str), vs = [.str w] ∧ IsWay w ∧ Q .non H
section
variable {P : Program} {w : World} {K : PySem.W.Frag} {mg : Str → Option Value} {base : Heap}
theorem scWay : FnScope ["thing"] ["thing"] (defScope s_check_way) := ⟨rfl, rfl, rfl, by decide +kernel, rfl, by decide +kernel, by decide +kernel⟩
theorem ok_way {f aW : Addr} {fd : FuncData} {k : Nat} (T : Df K mg "check_way" s_check_way ["thing"] f fd) (W : Wy K mg aW) (B : Bi mg) : FnOk P w K mg base CX0 (k + 1) f fd ["thing"] spWay := by
  refine T.F.ok scWay (fun vs H Q E h => ?_) (fun cdv A outer s H vs Q E hr h => ?_)
  · obtain ⟨z, rfl, _⟩ := h
    rfl
  · obtain ⟨z, rfl, hz, q⟩ := h
    refine ⟨_, 
      (pss_one (ps_if (PW.pt (pw_or (pt_not (pt_val (pe_callB call_isi (by rfl) B.isinstance (by decide +kernel) (pa_cons (pv 0) (pa_cons (pe_bltn (v := .ty "str") (by rfl) B.str (by decide +kernel) rfl) pa_nil))))) (pw_or1 (pt_cmpR op_notIn_seq (pv 0) (pe_glob (v := .ref aW) (by rfl) W.g rfl) (by rfl)))))
        (pss_one ps_never)
        pss_nil)), ?_⟩
    refine ⟨_, rfl, _, _, _, _, true, rfl, .ty _, .base (.str _), kit_ty (by decide +kernel), true, rfl, iteF ?_⟩
    rcases hz with rfl | rfl | rfl
    · exact ⟨_, rfl, aW, _, rfl, .inr (W.t H), rfl, rfl, _, rfl, ite2 (fun c => absurd c (by decide +kernel)) (fun _ => q)⟩
    · exact ⟨_, rfl, aW, _, rfl, .inr (W.t H), rfl, rfl, _, rfl, ite2 (fun c => absurd c (by decide +kernel)) (fun _ => q)⟩
    · exact ⟨_, rfl, aW, _, rfl, .inr (W.t H), rfl, rfl, _, rfl, ite2 (fun c => absurd c (by decide +kernel)) (fun _ => q)⟩
end
end Fo
namespace Fo
open PySem PySem.Spec PyProof.Rows L2
def farW (w : Str) (xs ys : List Int) : Int := if w = "swap" then farSwap xs ys else if w = "spot" then farSpot xs ys else farShift xs ys
theorem farW_swap (xs ys : List Int) : farW "swap" xs ys = farSwap xs ys := if_pos rfl
theorem farW_spot (xs ys : List Int) : farW "spot" xs ys = farSpot xs ys := by
  unfold farW
  rw [if_neg n1, if_pos rfl]
theorem farW_shift (xs ys : List Int) : farW "shift" xs ys = farShift xs ys := by
  unfold farW
  rw [if_neg n2, if_neg n3]
theorem farW_turn {w : Str} {n : Nat} {xs ys : List Int} (ox : IsOrd n xs) (oy : IsOrd n ys) (hn : 1 ≤ n) : farW w ys xs = farW w xs ys := by
  unfold farW
  rw [farSwap_turn ox oy, farSpot_turn (by rw [ox.len, oy.len]), farShift_turn ox oy hn]
theorem farW_self {w : Str} {n : Nat} {xs : List Int} (ox : IsOrd n xs) (hn : 1 ≤ n) : farW w xs xs = 0 := by
  unfold farW
  rw [farSwap_self ox, farSpot_self, farShift_self ox hn]
  split
  · rfl
  · split <;> rfl
abbrev rAbs : List V → Hp → VK → Prop := fun xs H Q => ∃ i, xs = [.int i] ∧ Q (.int (if i < 0 then -i else i)) H
def spFar : Sp := fun vs H Q _ => ∃ (w : Str) (a b : Addr) (n : Nat) (xs ys : List Int), vs = [.str w, .ref a, .ref b] ∧ IsWay w ∧ H a = some (.lst (xs.map V.int)) ∧ H b = some (.lst (ys.map V.int)) ∧ IsOrd n xs ∧ IsOrd n ys ∧ 1 ≤ n ∧ n ≤ 12 ∧ ∀ (H' : Hp), Same H H' → Q (.int (farW w xs ys)) H'
end Fo
namespace Fo
open PySem PySem.Spec PyProof.Rows L2
def two (vs : List V) (H : Hp) (a b : Addr) (n : Nat) (xs ys : List Int) : Prop := vs = [.ref a, .ref b] ∧ H a = some (.lst (xs.map V.int)) ∧ H b = some (.lst (ys.map V.int)) ∧ IsOrd n xs ∧ IsOrd n ys ∧ 1 ≤ n ∧ n ≤ 12
end Fo
namespace Fo
open PySem PySem.Spec PyProof.Rows L2
def spPlaces : Sp := fun vs H Q _ => ∃ (a : Addr) (n : Nat) (ns : List Int), vs = [.ref a] ∧ H a = some (.lst (ns.map V.int)) ∧ IsOrd n ns ∧ 1 ≤ n ∧ n ≤ 12 ∧
  ∀ (ps : List Int) (l : Addr) (H' : Hp), IsBack ns ps → H l = none → H' l = some (.lst (ps.map V.int)) → Same H H' → Q (.ref l) H'
section
variable {P : Program} {w : World} {K : PySem.W.Frag} {mg : Str → Option Value} {base : Heap}
theorem scPlaces : FnScope ["order", "places", "place", "thing"] ["order"] (defScope s_places_in) := ⟨rfl, rfl, rfl, by decide +kernel, rfl, by decide +kernel, by decide +kernel⟩
set_option maxHeartbeats 2000000 in
theorem ok_places {f : Addr} {fd : FuncData} {k : Nat} (T : Df K mg "places_in" s_places_in ["order"] f fd) (B : Bi mg) : FnOk P w K mg base CX0 (k + 1) f fd ["order"] spPlaces := by
  refine T.F.ok scPlaces (fun vs H Q E h => ?_) (fun cdv A outer s H vs Q E hr h => ?_)
  · obtain ⟨a, n, ns, rfl, _⟩ := h
    rfl
  · obtain ⟨a, n, ns, rfl, ha, ho, hn1, hn2, q⟩ := h
    have hlm : (ns.map V.int).length = n := by rw [List.length_map, ho.len]
    have hz : ∀ m : Nat, (List.replicate m [V.int 0]).flatten = (List.replicate m (0 : Int)).map V.int := by
      intro m
      induction m with
      | zero => rfl
      | succ m ih => rw [List.replicate_succ, List.replicate_succ, List.flatten_cons, ih]; rfl
    refine ⟨_, 
      (pss_cons (ps_set (i := 1) scPlaces.nd rfl (.inl rfl) (pe_op op_rep (pe_lst (pa_cons pe_int pa_nil)) (pe_callB call_len_seq (by rfl) B.len PySem.boot_len (pa_cons (pv 0) pa_nil))))
      (pss_cons (ps_for PassesOwn.never rfl (pi_enum (by rfl) B.enumerate (pa_cons (pv 0) pa_nil)) (pg_tup (by rfl) (pgs_cons (pg_name (i := 2) scPlaces.nd rfl (.inl rfl)) (pgs_cons (pg_name (i := 3) scPlaces.nd rfl (.inl rfl)) pgs_nil)))
        (pss_one (ps_asg (pv 2) (pg_sub (pv 1) (pv 3) set_list))))
      (pss_one (ps_ret (pv 1))))), ?_⟩
    refine ⟨line_small (by show 1 ≤ 16777216; decide), fun z nz => ?_⟩
    have s1 := same_new (o := .lst [.int 0]) nz
    refine ⟨_, rfl, a, _, rfl, .inl (SqL.of (s1 _ _ ha)), z, _, _, rfl, rfl, upd_same, by omega, by rw [hlm]; omega, line_small (by rw [hlm, Int.toNat_natCast]; show 1 * n ≤ _; omega), fun l nl => ?_⟩
    have s2 := s1.trans (same_new (o := .lst (List.replicate (((ns.map V.int).length : Nat) : Int).toNat [V.int 0]).flatten) nl)
    have nHl : H l = none := s1.free nl
    refine ⟨_, rfl, a, _, rfl, SqL.of (s2 _ _ ha), ?_⟩
    refine for_enumL (xs := ns.map V.int) (fun i σ H3 => ∃ (y2 y3 : Option V) (ps : List Int), σ = [some (.ref a), some (.ref l), y2, y3] ∧ H3 l = some (.lst (ps.map V.int)) ∧ ps.length = n ∧ (∀ (j : Nat) (x : Int), j < i → ns[j]? = some x → ps[x.toNat]? = some (j : Int)) ∧ Same H H3)
      ⟨none, none, List.replicate n 0, rfl, by rw [upd_same, hz, hlm, Int.toNat_natCast], by rw [List.length_replicate], fun j x hj => absurd hj (Nat.not_lt_zero _), s2⟩ (fun i σ H3 hP => by obtain ⟨_, _, _, _, _, _, _, sm⟩ := hP; exact SqL.of (sm _ _ ha)) (fun i x t σ H3 hx hP nt => ?_) (fun σ H3 hP => ?_)
    · obtain ⟨y2, y3, ps, rfl, hl3, el, hat, sm⟩ := hP
      obtain ⟨y, ey, rfl⟩ := int_at_inv hx
      have hy := ho.mem (List.mem_of_getElem? ey)
      have s3 := same_new (o := .tup [.int (i : Nat), .int y]) nt
      have hl4 := s3 _ _ hl3
      refine ⟨t, _, rfl, .inl (.inl upd_same), rfl, _, _, rfl, _, _, rfl, rfl, ?_⟩
      refine ⟨_, rfl, _, rfl, _, rfl, l, _, _, y.toNat, rfl, rfl, hl4, ix_n (by omega) (by rw [List.length_map]; omega), ?_⟩
      refine ⟨_, _, ps.set y.toNat (i : Int), rfl, by rw [upd_same, List.map_set], by rw [List.length_set]; exact el, fun j x hj hx2 => ?_, fun c o e => ?_⟩
      · by_cases c : j = i
        · subst c
          have e1 : x = y := Option.some.inj (hx2.symm.trans ey)
          subst e1
          rw [List.getElem?_set_self (by omega)]
        · have hx3 := ho.mem (List.mem_of_getElem? hx2)
          have ne : y.toNat ≠ x.toNat := fun e => c (nd_ix ho.nodup hx2 (by rw [ey]; congr 1; omega))
          rw [List.getElem?_set_ne ne]
          exact hat j x (by omega) hx2
      · rw [upd_ne (ne_of_none e nHl)]
        exact s3 _ _ (sm _ _ e)
    · obtain ⟨y2, y3, ps, rfl, hl3, el, hat, sm⟩ := hP
      rw [hlm] at hat
      refine ⟨_, rfl, q ps l H3 ⟨by rw [el, ho.len], fun j x hx => hat j x ?_ hx⟩ nHl hl3 sm⟩
      have := (List.getElem?_eq_some_iff.mp hx).1
      rw [ho.len] at this
      exact this
end
end Fo
namespace Fo
open PySem PySem.Spec PyProof.Rows L2
theorem g0_getD {s : List Int} {i : Nat} {x : Int} (h : s[i]? = some x) : g0 s i = x := g0_at h
def spSeats : Sp := fun vs H Q _ => ∃ (a b : Addr) (n : Nat) (xs ys : List Int), two vs H a b n xs ys ∧ ∀ (l : Addr) (H' : Hp), H l = none → H' l = some (.lst ((seatsL xs ys).map V.int)) → Same H H' → Q (.ref l) H'
section
variable {P : Program} {w : World} {K : PySem.W.Frag} {mg : Str → Option Value} {base : Heap}
theorem scSeats : FnScope ["one", "other", "places", "thing"] ["one", "other"] (defScope s_seats_in) := ⟨rfl, rfl, rfl, by decide +kernel, rfl, by decide +kernel, by decide +kernel⟩
set_option maxHeartbeats 2000000 in
theorem ok_seats {f fP : Addr} {fd fdP : FuncData} {k : Nat} (T : Df K mg "seats_in" s_seats_in ["one", "other"] f fd) (T_places_in : Df K mg "places_in" s_places_in ["order"] fP fdP) (B : Bi mg) : FnOk P w K mg base CX0 (k + 2) f fd ["one", "other"] spSeats := by
  have G_places_in : FnOk P w K mg base CX0 (k + 1) fP fdP ["order"] spPlaces := ok_places T_places_in B
  refine T.F.ok scSeats (fun vs H Q E h => ?_) (fun cdv A outer s H vs Q E hr h => ?_)
  · obtain ⟨a, b, n, xs, ys, ⟨rfl, _⟩, _⟩ := h
    rfl
  · obtain ⟨a, b, n, xs, ys, ⟨rfl, ha, hb, ox, oy, hn1, hn2⟩, q⟩ := h
    refine ⟨_, 
      (pss_cons (ps_set (i := 2) scSeats.nd rfl (.inr rfl) (pe_call G_places_in hr (by rfl) T_places_in.g T_places_in.F.kp T_places_in.b .nil pass0 (pa_cons (pv 1) pa_nil)))
      (pss_one (ps_ret (pe_lc (own := [("thing", 3)]) (g := (gName 3)) (tt := tYes) (te := (tOp (rIxL K) (tVar 2) (tVar 3))) rfl scSeats.nd (pi_list (pv 0)) (blkOk_by (N := ["one", "other", "places", "thing"]) (sc := defScope s_seats_in) (by decide +kernel)) (fun _ _ _ _ _ => (pg_name (i := 3) scSeats.nd rfl (.inl rfl))) (fun _ _ _ _ _ => pts_nil) (fun _ _ _ _ _ => (pe_ix ix_list (pv 2) (pv 3) (fun _ _ => rfl))))))), ?_⟩
    refine ⟨_, rfl, b, n, ys, rfl, hb, oy, hn1, hn2, fun ps l H1 hps nl hl s1 => ?_⟩
    refine ⟨_, rfl, a, rfl, ⟨_, SqL.of (s1 _ _ ha)⟩, fun D nD => ?_⟩
    have nHD : H D = none := s1.free nD
    refine lc_list (K := K) (a := a) (xs := xs.map V.int) (fun i H3 => H3 D = some (.lst (((seatsL xs ys).take i).map V.int)) ∧ H3 l = some (.lst (ps.map V.int)) ∧ Same H H3) ⟨upd_same, same_new nD _ _ hl, s1.trans (same_new nD)⟩ (fun i H3 _ hP => SqL.of (hP.2.2 _ _ ha)) (fun i x H3 hx hP => ?_) (fun H3 hP => ?_)
    · obtain ⟨y, ey, rfl⟩ := int_at_inv hx
      obtain ⟨hD3, hl3, sm⟩ := hP
      have hy := ox.mem (List.mem_of_getElem? ey)
      have hi := (List.getElem?_eq_some_iff.mp ey).1
      rw [ox.len] at hi
      refine ⟨rfl, _, rfl, _, rfl, l, _, _, _, rfl, rfl, SqL.of hl3, at_of (j := y.toNat) (by omega) (int_at (back_pos oy hps hy.1 hy.2)), _, hD3, line_lt (by rw [List.length_map, List.length_take]; omega), ?_, ?_, fun c o e => ?_⟩
      · rw [upd_same, take_more (seats_at ey), List.map_append]
        rfl
      · rw [upd_ne (ne_of_none hl nD)]
        exact hl3
      · rw [upd_ne (ne_of_none e nHD)]
        exact sm _ _ e
    · obtain ⟨hD3, hl3, sm⟩ := hP
      rw [List.take_of_length_le (by rw [seats_len, List.length_map]; exact Nat.le_refl _)] at hD3
      exact q D H3 nHD hD3 sm
end
end Fo
namespace Fo
open PySem PySem.Spec PyProof.Rows L2
def spSwap : Sp := fun vs H Q _ => ∃ (a b : Addr) (n : Nat) (xs ys : List Int), two vs H a b n xs ys ∧ ∀ (H' : Hp), Same H H' → Q (.int (farSwap xs ys)) H'
def spSpot : Sp := fun vs H Q _ => ∃ (a b : Addr) (n : Nat) (xs ys : List Int), two vs H a b n xs ys ∧ ∀ (H' : Hp), Same H H' → Q (.int (farSpot xs ys)) H'
def spShift : Sp := fun vs H Q _ => ∃ (a b : Addr) (n : Nat) (xs ys : List Int), two vs H a b n xs ys ∧ ∀ (H' : Hp), Same H H' → Q (.int (farShift xs ys)) H'
section
variable {P : Program} {w : World} {K : PySem.W.Frag} {mg : Str → Option Value} {base : Heap}
theorem scSwap : FnScope ["one", "other", "seats", "turned", "place", "seat", "later"] ["one", "other"] (defScope s_far_by_swap) := ⟨rfl, rfl, rfl, by decide +kernel, rfl, by decide +kernel, by decide +kernel⟩
set_option maxHeartbeats 2000000 in
theorem ok_swap {f fP : Addr} {fd fdP : FuncData} {k : Nat} (T : Df K mg "far_by_swap" s_far_by_swap ["one", "other"] f fd) (T_seats_in : Df K mg "seats_in" s_seats_in ["one", "other"] fP fdP) (G_seats_in : FnOk P w K mg base CX0 k fP fdP ["one", "other"] spSeats) (B : Bi mg) : FnOk P w K mg base CX0 (k + 1) f fd ["one", "other"] spSwap := by
  refine T.F.ok scSwap (fun vs H Q E h => ?_) (fun cdv A outer s H vs Q E hr h => ?_)
  · obtain ⟨a, b, n, xs, ys, ⟨rfl, _⟩, _⟩ := h
    rfl
  · obtain ⟨a, b, n, xs, ys, ⟨rfl, ha, hb, ox, oy, hn1, hn2⟩, q⟩ := h
    refine ⟨_, 
      (pss_cons (ps_set (i := 2) scSwap.nd rfl (.inl rfl) (pe_call G_seats_in hr (by rfl) T_seats_in.g T_seats_in.F.kp T_seats_in.b .nil pass0 (pa_cons (pv 0) (pa_cons (pv 1) pa_nil))))
      (pss_cons (ps_set (i := 3) scSwap.nd rfl (.inl rfl) pe_int)
      (pss_cons (ps_for PassesOwn.never rfl (pi_enum (by rfl) B.enumerate (pa_cons (pv 2) pa_nil)) (pg_tup (by rfl) (pgs_cons (pg_name (i := 4) scSwap.nd rfl (.inl rfl)) (pgs_cons (pg_name (i := 5) scSwap.nd rfl (.inr rfl)) pgs_nil)))
        (pss_one (ps_aug (i := 3) scSwap.nd rfl (.inl rfl) (pe_callB call_len_seq (by rfl) B.len PySem.boot_len (pa_cons (pe_lc (own := [("later", 6)]) (g := (gName 6)) (tt := (tTest (tOp (rI0 fun i j => .bl (decide (i < j))) (tVar 6) (tVar 5)))) (te := (tVar 6)) rfl scSwap.nd (pi_list (pe_slice sl_list (pv 2) (po_some (pe_op op_add (pv 4) pe_int)) po_none)) (blkOk_by (N := ["one", "other", "seats", "turned", "place", "seat", "later"]) (sc := defScope s_far_by_swap) (by decide +kernel)) (fun _ _ _ _ _ => (pg_name (i := 6) scSwap.nd rfl (.inl rfl))) (fun _ _ _ _ _ => (pts_one (pt_cmpR op_lt (pv 6) (pv 5) (nomark _)))) (fun _ _ _ _ _ => (pv 6))) pa_nil)) ip_add)))
      (pss_one (ps_ret (pv 3)))))), ?_⟩
    refine ⟨_, rfl, _, rfl, a, b, n, xs, ys, ⟨rfl, ha, hb, ox, oy, hn1, hn2⟩, fun l H1 nl hl s1 => ?_⟩
    have os := seats_ord ox oy
    refine ⟨_, rfl, l, _, rfl, SqL.of hl, ?_⟩
    refine for_enumL (xs := (seatsL xs ys).map V.int) (fun i σ H3 => ∃ (y4 y5 y6 : Option V), σ = [some (.ref a), some (.ref b), some (.ref l), some (.int ((sumN (rg i) (fun p => cntL (seatsL xs ys) p.toNat) : Nat) : Int)), y4, y5, y6] ∧ H3 l = some (.lst ((seatsL xs ys).map V.int)) ∧ Same H H3)
      ⟨none, none, none, rfl, hl, s1⟩ (fun i σ H3 hP => by obtain ⟨_, _, _, _, hl3, _⟩ := hP; exact SqL.of hl3) (fun i x t σ H3 hx hP nt => ?_) (fun σ H3 hP => ?_)
    · obtain ⟨y4, y5, y6, rfl, hl3, sm⟩ := hP
      obtain ⟨y, ey, rfl⟩ := int_at_inv hx
      have hi := (List.getElem?_eq_some_iff.mp ey).1
      rw [os.len] at hi
      have s3 := same_new (o := .tup [.int (i : Nat), .int y]) nt
      refine ⟨t, _, rfl, .inl (.inl upd_same), rfl, _, _, rfl, _, _, rfl, rfl, ?_⟩
      refine ⟨_, rfl, _, rfl, _, rfl, (i : Int), 1, rfl, rfl, _, rfl, l, _, rfl, SqL.of (s3 _ _ hl3), fun c nc => ?_⟩
      have s4 := s3.trans (same_new (o := .lst (cutV ((seatsL xs ys).map V.int) (some ((i : Int) + 1)) none)) nc)
      have ecut : cutV ((seatsL xs ys).map V.int) (some ((i : Int) + 1)) none = (((seatsL xs ys).drop (i + 1)).map V.int) := by
        rw [cut_ints, show (i : Int) + 1 = ((i + 1 : Nat) : Int) by omega, cutI_tail]
      have hc4 : (upd (upd H3 t (.tup [.int (i : Nat), .int y])) c (.lst (cutV ((seatsL xs ys).map V.int) (some ((i : Int) + 1)) none))) c = some (.lst (((seatsL xs ys).drop (i + 1)).map V.int)) := by rw [upd_same, ecut]
      refine ⟨c, rfl, ⟨_, SqL.of hc4⟩, fun D nD => ?_⟩
      have ncD : c ≠ D := ne_of_none hc4 nD
      refine lc_list (K := K) (a := c) (xs := ((seatsL xs ys).drop (i + 1)).map V.int) (fun m H5 => H5 D = some (.lst (((((seatsL xs ys).drop (i + 1)).take m).filter (fun z => decide (z < g0 (seatsL xs ys) i))).map V.int)) ∧ H5 c = some (.lst (((seatsL xs ys).drop (i + 1)).map V.int)) ∧ Same H3 H5)
        ⟨upd_same, by rw [upd_ne ncD]; exact hc4, s4.trans (same_new nD)⟩ (fun m H5 _ hP => SqL.of hP.2.1) (fun m x H5 hx hP => ?_) (fun H5 hP => ?_)
      · obtain ⟨hD5, hc5, s5⟩ := hP
        obtain ⟨z, ez, rfl⟩ := int_at_inv hx
        have eg : g0 (seatsL xs ys) i = y := g0_at ey
        refine ⟨rfl, _, rfl, _, rfl, z, y, rfl, rfl, _, rfl, ite2 (fun c => ?_) (fun c => ?_)⟩
        · have hz : z < y := of_decide_eq_true c
          refine ⟨_, rfl, _, hD5, line_lt ?_, ?_, by rw [upd_ne ncD]; exact hc5, fun u o e => ?_⟩
          · rw [List.length_map]
            refine Nat.lt_of_le_of_lt (List.length_filter_le _ _) ?_
            rw [List.length_take, List.length_drop, os.len]
            omega
          · rw [upd_same, filter_more _ ez, eg, decide_eq_true hz, if_pos rfl, List.map_append]
            rfl
          · rw [upd_ne (ne_of_none (s4 _ _ e) nD)]
            exact s5 _ _ e
        · refine ⟨?_, hc5, s5⟩
          rw [filter_more _ ez, eg, decide_eq_false (fun hz => c (decide_eq_true hz)), if_neg (by decide), List.append_nil]
          rw [eg] at hD5
          exact hD5
      · obtain ⟨hD5, hc5, s5⟩ := hP
        rw [List.length_map, List.take_length] at hD5
        refine ⟨D, _, rfl, .inl (SqL.of hD5), _, _, rfl, rfl, ?_⟩
        refine ⟨some (.int (i : Int)), some (.int y), y6, ?_, s5 _ _ hl3, sm.trans s5⟩
        rw [rg_succ, sumN_append, sumN_cons, sumN_nil, List.length_map]
        show [some (.ref a), some (.ref b), some (.ref l), some (V.int (((sumN (rg i) (fun p => cntL (seatsL xs ys) p.toNat) : Nat) : Int) + ((cntL (seatsL xs ys) i : Nat) : Int))), some (.int (i : Int)), some (.int y), y6] = _
        rw [Int.toNat_natCast, Int.natCast_add, Nat.add_zero]
    · obtain ⟨y4, y5, y6, rfl, hl3, sm⟩ := hP
      refine ⟨_, rfl, ?_⟩
      have z := q H3 sm
      unfold farSwap invN at z
      rw [List.length_map]
      exact z
theorem scSpot : FnScope ["one", "other", "place"] ["one", "other"] (defScope s_far_by_spot) := ⟨rfl, rfl, rfl, by decide +kernel, rfl, by decide +kernel, by decide +kernel⟩
set_option maxHeartbeats 2000000 in
theorem ok_spot {f : Addr} {fd : FuncData} {k : Nat} (T : Df K mg "far_by_spot" s_far_by_spot ["one", "other"] f fd) (B : Bi mg) : FnOk P w K mg base CX0 (k + 1) f fd ["one", "other"] spSpot := by
  refine T.F.ok scSpot (fun vs H Q E h => ?_) (fun cdv A outer s H vs Q E hr h => ?_)
  · obtain ⟨a, b, n, xs, ys, ⟨rfl, _⟩, _⟩ := h
    rfl
  · obtain ⟨a, b, n, xs, ys, ⟨rfl, ha, hb, ox, oy, hn1, hn2⟩, q⟩ := h
    have hxl : (xs.map V.int).length = n := by rw [List.length_map, ox.len]
    refine ⟨_, 
      (pss_one (ps_ret (pe_callB call_len_seq (by rfl) B.len PySem.boot_len (pa_cons (pe_lc (own := [("place", 2)]) (g := (gName 2)) (tt := (tTest (tOp rNe (tOp (rIxL K) (tVar 0) (tVar 2)) (tOp (rIxL K) (tVar 1) (tVar 2))))) (te := (tVar 2)) rfl scSpot.nd (pi_range1 (by rfl) B.range (pa_cons (pe_callB call_len_seq (by rfl) B.len PySem.boot_len (pa_cons (pv 0) pa_nil)) pa_nil)) (blkOk_by (N := ["one", "other", "place"]) (sc := defScope s_far_by_spot) (by decide +kernel)) (fun _ _ _ _ _ => (pg_name (i := 2) scSpot.nd rfl (.inl rfl))) (fun _ _ _ _ _ => (pts_one (pt_cmpR op_ne (pe_ix ix_list (pv 0) (pv 2) (fun _ _ => rfl)) (pe_ix ix_list (pv 1) (pv 2) (fun _ _ => rfl)) (nomark _)))) (fun _ _ _ _ _ => (pv 2))) pa_nil)))), ?_⟩
    refine ⟨_, rfl, a, _, rfl, .inl (SqL.of ha), _, rfl, by omega, by rw [hxl]; omega, fun D nD => ?_⟩
    rw [hxl, Int.toNat_natCast]
    refine lc_range (lo := 0) (n := n) (fun m H3 => H3 D = some (.lst (((rg m).filter (fun p => !decide (g0 xs p = g0 ys p))).map V.int)) ∧ Same H H3) ⟨upd_same, same_new nD⟩ (fun m H3 hm hP => ?_) (fun H3 hP => ?_)
    · obtain ⟨hD3, sm⟩ := hP
      obtain ⟨x, ex, _⟩ := ord_ix ox hm
      obtain ⟨y, ey, _⟩ := ord_ix oy hm
      have gx : g0 xs (m : Int) = x := g0_at ex
      have gy : g0 ys (m : Int) = y := g0_at ey
      have fm : ((rg (m + 1)).filter fun p => !decide (g0 xs p = g0 ys p)) = ((rg m).filter fun p => !decide (g0 xs p = g0 ys p)) ++ (if x = y then [] else [(m : Int)]) := by
        rw [rg_succ, List.filter_append, List.filter_cons, gx, gy]
        congr 1
        by_cases c : x = y
        · simp [c]
        · simp [c]
      refine ⟨rfl, _, rfl, _, rfl, a, _, _, _, rfl, rfl, SqL.of (sm _ _ ha), at_of (j := m) (by omega) (int_at ex), _, rfl, _, rfl, b, _, _, _, rfl, rfl, SqL.of (sm _ _ hb), at_of (j := m) (by omega) (int_at ey), rfl, _, rfl, ?_⟩
      by_cases c : x = y
      · subst c
        refine iteNS rfl ⟨?_, sm⟩
        rw [fm, if_pos rfl, List.append_nil]
        exact hD3
      · rw [decide_eq_false (fun e => c (V.int.inj e))]
        refine iteT ⟨_, rfl, _, hD3, line_lt ?_, ?_, fun u o e => ?_⟩
        · rw [List.length_map]
          refine Nat.lt_of_le_of_lt (List.length_filter_le _ _) ?_
          rw [rg_len]
          omega
        · rw [upd_same, fm, if_neg c, List.map_append, Int.zero_add]
          rfl
        · rw [upd_ne (ne_of_none e nD)]
          exact sm _ _ e
    · obtain ⟨hD3, sm⟩ := hP
      refine ⟨D, _, rfl, .inl (SqL.of hD3), ?_⟩
      have z := q H3 sm
      unfold farSpot spotL at z
      rw [ox.len] at z
      rw [List.length_map]
      exact z
theorem scShift : FnScope ["one", "other", "place", "seat"] ["one", "other"] (defScope s_far_by_shift) := ⟨rfl, rfl, rfl, by decide +kernel, rfl, by decide +kernel, by decide +kernel⟩
set_option maxHeartbeats 2000000 in
theorem ok_shift {f fP : Addr} {fd fdP : FuncData} {k : Nat} (T : Df K mg "far_by_shift" s_far_by_shift ["one", "other"] f fd) (T_seats_in : Df K mg "seats_in" s_seats_in ["one", "other"] fP fdP) (G_seats_in : FnOk P w K mg base CX0 k fP fdP ["one", "other"] spSeats) (B : Bi mg) : FnOk P w K mg base CX0 (k + 1) f fd ["one", "other"] spShift := by
  refine T.F.ok scShift (fun vs H Q E h => ?_) (fun cdv A outer s H vs Q E hr h => ?_)
  · obtain ⟨a, b, n, xs, ys, ⟨rfl, _⟩, _⟩ := h
    rfl
  · obtain ⟨a, b, n, xs, ys, ⟨rfl, ha, hb, ox, oy, hn1, hn2⟩, q⟩ := h
    refine ⟨_, 
      (pss_one (ps_ret (pe_callB (cr_max rfl) (by rfl) B.max (by decide +kernel) (pa_cons (pe_lc (own := [("place", 2), ("seat", 3)]) (g := (gTup K 2 (gCons (gName 2) (gCons (gName 3) gNil)))) (tt := tYes) (te := (tCB rAbs (tCons (tOp (rI0 fun i j => .int (i - j)) (tVar 2) (tVar 3)) tNil))) rfl scShift.nd (pi_enum (by rfl) B.enumerate (pa_cons (pe_call G_seats_in hr (by rfl) T_seats_in.g T_seats_in.F.kp T_seats_in.b .nil pass0 (pa_cons (pv 0) (pa_cons (pv 1) pa_nil))) pa_nil)) (blkOk_by (N := ["one", "other", "place", "seat"]) (sc := defScope s_far_by_shift) (by decide +kernel)) (fun _ _ _ _ _ => (pg_tup (by rfl) (pgs_cons (pg_name (i := 2) scShift.nd rfl (.inl rfl)) (pgs_cons (pg_name (i := 3) scShift.nd rfl (.inl rfl)) pgs_nil)))) (fun _ _ _ _ _ => pts_nil) (fun _ _ _ _ _ => (pe_callB call_abs (by rfl) B.abs (by decide +kernel) (pa_cons (pe_op op_sub (pv 2) (pv 3)) pa_nil)))) pa_nil)))), ?_⟩
    have os := seats_ord ox oy
    refine ⟨_, rfl, _, rfl, a, b, n, xs, ys, ⟨rfl, ha, hb, ox, oy, hn1, hn2⟩, fun l H1 nl hl s1 => ?_⟩
    refine ⟨l, _, rfl, SqL.of hl, fun D nD => ?_⟩
    have nlD : l ≠ D := ne_of_none hl nD
    have nHD : H D = none := s1.free nD
    refine lc_enumL (K := K) (a := l) (xs := (seatsL xs ys).map V.int) (fun m H3 => H3 D = some (.lst (((gapsL xs ys).take m).map V.int)) ∧ H3 l = some (.lst ((seatsL xs ys).map V.int)) ∧ Same H H3) ⟨upd_same, by rw [upd_ne nlD]; exact hl, s1.trans (same_new nD)⟩ (fun m H3 _ hP => SqL.of hP.2.1) (fun m x t H3 hx hP nt => ?_) (fun H3 hP => ?_)
    · obtain ⟨hD3, hl3, sm⟩ := hP
      obtain ⟨y, ey, rfl⟩ := int_at_inv hx
      have hi := (List.getElem?_eq_some_iff.mp ey).1
      rw [os.len] at hi
      have s3 := same_new (o := .tup [.int (m : Nat), .int y]) nt
      have eg : (gapsL xs ys)[m]? = some (absI ((m : Int) - y)) := by
        unfold gapsL rg
        rw [List.map_map, List.getElem?_map, List.getElem?_range (by rw [ox.len]; exact hi)]
        show some (absI ((m : Int) - g0 (seatsL xs ys) (m : Int))) = _
        rw [g0_at ey]
      refine ⟨t, _, rfl, .inl (.inl upd_same), rfl, _, _, rfl, _, _, rfl, rfl, rfl, ?_⟩
      refine ⟨_, rfl, _, rfl, (m : Int), y, rfl, rfl, _, rfl, _, s3 _ _ hD3, line_lt (by rw [List.length_map, List.length_take, gaps_len, ox.len]; omega), ?_, ?_, fun u o e => ?_⟩
      · rw [upd_same, take_more eg, List.map_append]
        rfl
      · rw [upd_ne nlD]
        exact s3 _ _ hl3
      · rw [upd_ne (ne_of_none e nHD)]
        exact s3 _ _ (sm _ _ e)
    · obtain ⟨hD3, hl3, sm⟩ := hP
      rw [List.take_of_length_le (by rw [gaps_len, List.length_map, seats_len]; exact Nat.le_refl _)] at hD3
      refine ⟨D, gapsL xs ys, rfl, SqL.of hD3, by rw [gaps_len, ox.len]; exact hn1, fun m hm hle => ?_⟩
      have e : farShift xs ys = m := maxL_of (gaps_nonneg xs ys) hm hle
      rw [← e]
      exact q H3 sm
theorem scKnown : FnScope ["way", "one", "other"] ["way", "one", "other"] (defScope s_known_far) := ⟨rfl, rfl, rfl, by decide +kernel, rfl, by decide +kernel, by decide +kernel⟩
theorem ok_known {f f4 f5 f6 : Addr} {fd d4 d5 d6 : FuncData} {k : Nat} (T : Df K mg "known_far" s_known_far ["way", "one", "other"] f fd) (T_far_by_swap : Df K mg "far_by_swap" s_far_by_swap ["one", "other"] f4 d4) (T_far_by_spot : Df K mg "far_by_spot" s_far_by_spot ["one", "other"] f5 d5) (T_far_by_shift : Df K mg "far_by_shift" s_far_by_shift ["one", "other"] f6 d6)
    (G_far_by_swap : FnOk P w K mg base CX0 k f4 d4 ["one", "other"] spSwap) (G_far_by_spot : FnOk P w K mg base CX0 k f5 d5 ["one", "other"] spSpot) (G_far_by_shift : FnOk P w K mg base CX0 k f6 d6 ["one", "other"] spShift) :
    FnOk P w K mg base CX0 (k + 1) f fd ["way", "one", "other"] spFar := by
  refine T.F.ok scKnown (fun vs H Q E h => ?_) (fun cdv A outer s H vs Q E hr h => ?_)
  · obtain ⟨z, a, b, n, xs, ys, rfl, _⟩ := h
    rfl
  · obtain ⟨z, a, b, n, xs, ys, rfl, hz, ha, hb, ox, oy, hn1, hn2, q⟩ := h
    refine ⟨_, 
      (pss_cons (ps_if (pt_cmpR op_eq (pv 0) pe_str (nomark _))
        (pss_one (ps_ret (pe_call G_far_by_swap hr (by rfl) T_far_by_swap.g T_far_by_swap.F.kp T_far_by_swap.b .nil pass0 (pa_cons (pv 1) (pa_cons (pv 2) pa_nil)))))
        pss_nil)
      (pss_cons (ps_if (pt_cmpR op_eq (pv 0) pe_str (nomark _))
        (pss_one (ps_ret (pe_call G_far_by_spot hr (by rfl) T_far_by_spot.g T_far_by_spot.F.kp T_far_by_spot.b .nil pass0 (pa_cons (pv 1) (pa_cons (pv 2) pa_nil)))))
        pss_nil)
      (pss_one (ps_ret (pe_call G_far_by_shift hr (by rfl) T_far_by_shift.g T_far_by_shift.F.kp T_far_by_shift.b .nil pass0 (pa_cons (pv 1) (pa_cons (pv 2) pa_nil))))))), ?_⟩
    rcases hz with rfl | rfl | rfl
    · refine ⟨_, rfl, rfl, _, rfl, ite2 (fun _ => ?_) (fun c => absurd (by decide +kernel) c)⟩
      exact ⟨_, rfl, _, rfl, a, b, n, xs, ys, ⟨rfl, ha, hb, ox, oy, hn1, hn2⟩, fun H2 s2 => by rw [← farW_swap]; exact q H2 s2⟩
    · refine ⟨_, rfl, rfl, _, rfl, ite2 (fun c => absurd c (by decide +kernel)) (fun _ => ?_)⟩
      refine ⟨_, rfl, rfl, _, rfl, ite2 (fun _ => ?_) (fun c => absurd (by decide +kernel) c)⟩
      exact ⟨_, rfl, _, rfl, a, b, n, xs, ys, ⟨rfl, ha, hb, ox, oy, hn1, hn2⟩, fun H2 s2 => by rw [← farW_spot]; exact q H2 s2⟩
    · refine ⟨_, rfl, rfl, _, rfl, ite2 (fun c => absurd c (by decide +kernel)) (fun _ => ?_)⟩
      refine ⟨_, rfl, rfl, _, rfl, ite2 (fun c => absurd c (by decide +kernel)) (fun _ => ?_)⟩
      exact ⟨_, rfl, _, rfl, a, b, n, xs, ys, ⟨rfl, ha, hb, ox, oy, hn1, hn2⟩, fun H2 s2 => by rw [← farW_shift]; exact q H2 s2⟩
end
end Fo
namespace Fo
open PySem PySem.Spec PyProof.Rows L2
/-! ### a deck: a list of drawn numbers that never gets empty -/
def DqAt (H : Hp) (d : Addr) : Prop := ∃ ms : List Int, H d = some (.lst (ms.map V.int)) ∧ 1 ≤ ms.length ∧ ms.length ≤ 1200 ∧ ∀ m ∈ ms, 0 ≤ m ∧ m < 2147483648
def KeepD (d : Addr) (H H' : Hp) : Prop := ∀ b o, H b = some o → b ≠ d → H' b = some o
theorem KeepD.refl (d : Addr) (H : Hp) : KeepD d H H := fun _ _ e _ => e
theorem KeepD.trans {d : Addr} {H H1 H2 : Hp} (a : KeepD d H H1) (b : KeepD d H1 H2) : KeepD d H H2 := fun c o e f => b c o (a c o e f) f
theorem KeepD.of_same {d : Addr} {H H' : Hp} (h : Same H H') : KeepD d H H' := fun b o e _ => h b o e
theorem KeepD.new {d : Addr} {H : Hp} {p : Addr} {o : HO} (e : H p = none) : KeepD d H (upd H p o) := KeepD.of_same (same_new e)
theorem KeepD.none {d : Addr} {H H1 : Hp} (k : KeepD d H H1) {p : Addr} (np : H1 p = none) (nf : p ≠ d) : H p = none := by
  cases e : H p with
  | none => rfl
  | some o =>
    have z := k p o e nf
    rw [np] at z
    cases z
theorem DqAt.same {H H' : Hp} {d : Addr} (h : DqAt H d) (s : Same H H') : DqAt H' d := by
  obtain ⟨ms, e, r⟩ := h
  exact ⟨ms, s _ _ e, r⟩
theorem DqAt.ne {H : Hp} {d : Addr} (h : DqAt H d) {p : Addr} (e : H p = none) : p ≠ d := by
  obtain ⟨ms, e1, _⟩ := h
  exact (ne_of_none e1 e).symm
theorem DqAt.upd {H : Hp} {d : Addr} (h : DqAt H d) {p : Addr} {o : HO} (n1 : p ≠ d) : DqAt (upd H p o) d := by
  obtain ⟨ms, e, r⟩ := h
  exact ⟨ms, by rw [upd_ne n1.symm]; exact e, r⟩
theorem DqAt.new {H : Hp} {d : Addr} (h : DqAt H d) {p : Addr} {o : HO} (e : H p = none) : DqAt (L2.upd H p o) d := h.upd (h.ne e)
def spCell (K : PySem.W.Frag) : Sp := fun vs H Q _ => ∃ (a : Addr) (ns : List Int) (k : Nat), vs = [.ref a, .int k] ∧ SqL K H a (ns.map V.int) ∧ ∀ (v : Int), Q (.int v) H
def spStir : Sp := fun vs H Q _ => ∃ (c k : Int), vs = [.int c, .int k] ∧ 0 ≤ k ∧ k ≤ 1200 ∧ ∀ (v : Int), 0 ≤ v → v < 2147483648 → Q (.int v) H
def spDeckN : Sp := fun vs H Q _ => ∃ (c : Int) (many : Nat), vs = [.int c, .int many] ∧ 1 ≤ many ∧ many ≤ 1200 ∧ ∀ (d : Addr) (H' : Hp), H d = none → DqAt H' d → Same H H' → Q (.ref d) H'
def spNext : Sp := fun vs H Q _ => ∃ (d : Addr), vs = [.ref d] ∧ DqAt H d ∧ ∀ (v : Int) (H' : Hp), 0 ≤ v → v < 2147483648 → DqAt H' d → KeepD d H H' → Q (.int v) H'
def spOrderN : Sp := fun vs H Q _ => ∃ (d : Addr) (n : Nat), vs = [.ref d, .int n] ∧ DqAt H d ∧ n ≤ 12 ∧
  ∀ (ns : List Int) (l : Addr) (H' : Hp), IsOrd n ns → H l = none → H' l = some (.lst (ns.map V.int)) → l ≠ d → DqAt H' d → KeepD d H H' → Q (.ref l) H'
def spNearN : Sp := fun vs H Q _ => ∃ (d o : Addr) (n : Nat) (ns : List Int), vs = [.ref d, .ref o] ∧ DqAt H d ∧ H o = some (.lst (ns.map V.int)) ∧ IsOrd n ns ∧ 1 ≤ n ∧ n ≤ 12 ∧
  ∀ (ms : List Int) (l : Addr) (H' : Hp), IsOrd n ms → H l = none → H' l = some (.lst (ms.map V.int)) → l ≠ d → DqAt H' d → KeepD d H H' → Q (.ref l) H'
theorem mod_b (x : Int) {m : Int} (h : 0 < m) : 0 ≤ x % m ∧ x % m < m := ⟨Int.emod_nonneg x (by omega), Int.emod_lt_of_pos x h⟩
theorem mul_b {x y a b : Int} (hx : 0 ≤ x) (hxa : x ≤ a) (hy : 0 ≤ y) (hyb : y ≤ b) : 0 ≤ x * y ∧ x * y ≤ a * b := ⟨Int.mul_nonneg hx hy, Int.mul_le_mul hxa hyb hy (by omega)⟩
section
variable {P : Program} {w : World} {K : PySem.W.Frag} {mg : Str → Option Value} {base : Heap}
theorem scCell : FnScope ["script", "k"] ["script", "k"] (defScope s_law_cell_at) := ⟨rfl, rfl, rfl, by decide +kernel, rfl, by decide +kernel, by decide +kernel⟩
theorem ok_cell {f : Addr} {fd : FuncData} {k : Nat} (T : Df K mg "_law_cell_at" s_law_cell_at ["script", "k"] f fd) (B : Bi mg) : FnOk P w K mg base CX0 (k + 1) f fd ["script", "k"] (spCell K) := by
  refine T.F.ok scCell (fun vs H Q E h => ?_) (fun cdv A outer s H vs Q E hr h => ?_)
  · obtain ⟨a, ns, k, rfl, _⟩ := h
    rfl
  · obtain ⟨a, ns, k, rfl, hS, q⟩ := h
    refine ⟨_, 
      (pss_cons (ps_if (pt_cmpR op_lt (pv 1) (pe_callB call_len_seq (by rfl) B.len PySem.boot_len (pa_cons (pv 0) pa_nil)) (nomark _))
        (pss_one (ps_ret (pe_ix ix_list (pv 0) (pv 1) (fun _ _ => rfl))))
        pss_nil)
      (pss_one (ps_ret pe_int))), ?_⟩
    refine ⟨_, rfl, _, rfl, a, _, rfl, .inl hS, (k : Int), _, rfl, rfl, _, rfl, ite2 (fun c => ?_) (fun _ => q 0)⟩
    have hl : (k : Int) < (((ns.map V.int).length : Nat) : Int) := of_decide_eq_true c
    rw [List.length_map] at hl
    exact ⟨_, rfl, _, rfl, a, _, _, _, rfl, rfl, hS, at_of (j := k) rfl (int_at (List.getElem?_eq_getElem (show k < ns.length by omega))), q _⟩
theorem scStir : FnScope ["cell", "k", "one"] ["cell", "k"] (defScope s_law_stir) := ⟨rfl, rfl, rfl, by decide +kernel, rfl, by decide +kernel, by decide +kernel⟩
theorem ok_stir {f : Addr} {fd : FuncData} {k : Nat} (T : Df K mg "_law_stir" s_law_stir ["cell", "k"] f fd) (B : Bi mg) : FnOk P w K mg base CX0 (k + 1) f fd ["cell", "k"] spStir := by
  refine T.F.ok scStir (fun vs H Q E h => ?_) (fun cdv A outer s H vs Q E hr h => ?_)
  · obtain ⟨c, k, rfl, _⟩ := h
    rfl
  · obtain ⟨c, k, rfl, k0, k1, q⟩ := h
    refine ⟨_, 
      (Evl.pss_cut (ps_set (i := 2) scStir.nd rfl (.inl rfl) (pe_op op_mod (pe_op op_mul (pe_op op_add (pe_op op_add (pe_op op_mod (pv 0) pe_int) (pe_op op_mul pe_int (pv 1))) pe_int) pe_int) pe_int))
      (Evl.pss_cut (ps_set (i := 2) scStir.nd rfl (.inl rfl) (pe_op op_mod (pe_op op_mul (pv 2) (pv 2)) pe_int))
      (pss_one (ps_ret (pe_op op_fdiv (pe_op op_mod (pe_op op_mul (pe_op op_add (pv 2) (pe_op op_mul pe_int (pv 1))) pe_int) pe_int) pe_int))))), ?_⟩
    refine ⟨fun τ G => ∃ x : Int, 0 ≤ x ∧ x < 2147483647 ∧ τ = [some (.int c), some (.int k), some (.int x)] ∧ G = H, ?_, fun τ G hM => ?_⟩
    · exact ⟨_, rfl, c, 2147483629, rfl, rfl, (show (0 : Int) < 2147483629 by decide), _, rfl, 9973, k, rfl, rfl, .inl ⟨by decide, by decide⟩, _, _, rfl, rfl, _, 5, rfl, rfl, _, 48271, rfl, rfl, .inr ⟨by decide, by decide⟩, _, 2147483647, rfl, rfl, (show (0 : Int) < 2147483647 by decide), _, (mod_b _ (by decide)).1, (mod_b _ (by decide)).2, rfl, rfl⟩
    obtain ⟨x, x0, x1, rfl, e1⟩ := hM
    subst e1
    refine ⟨fun τ G' => ∃ y : Int, 0 ≤ y ∧ y < 2147483587 ∧ τ = [some (.int c), some (.int k), some (.int y)] ∧ G' = G, ?_, fun τ G' hM => ?_⟩
    · exact ⟨_, rfl, _, rfl, x, x, rfl, rfl, .inl ⟨by omega, by omega⟩, _, 2147483587, rfl, rfl, (show (0 : Int) < 2147483587 by decide), _, (mod_b _ (by decide)).1, (mod_b _ (by decide)).2, rfl, rfl⟩
    obtain ⟨y, y0, y1, rfl, e1⟩ := hM
    subst e1
    have h1 := mod_b ((y + 7919 * k) * 16807) (m := 2147483563) (by decide)
    exact ⟨_, rfl, _, rfl, 7919, k, rfl, rfl, .inl ⟨by decide, by decide⟩, _, _, rfl, rfl, _, 16807, rfl, rfl, .inr ⟨by decide, by decide⟩, _, 2147483563, rfl, rfl, (show (0 : Int) < 2147483563 by decide), _, 8, rfl, rfl, ⟨by decide, by decide⟩, q _ (by omega) (by omega)⟩
theorem scDeckN : FnScope ["cell", "many", "found", "digits", "k", "number"] ["cell", "many"] (defScope s_law_deck) := ⟨rfl, rfl, rfl, by decide +kernel, rfl, by decide +kernel, by decide +kernel⟩
set_option maxHeartbeats 2000000 in
theorem ok_deckN {f fS : Addr} {fd fdS : FuncData} {k : Nat} (T : Df K mg "_law_deck" s_law_deck ["cell", "many"] f fd) (T__law_stir : Df K mg "_law_stir" s_law_stir ["cell", "k"] fS fdS) (B : Bi mg) : FnOk P w K mg base CX0 (k + 2) f fd ["cell", "many"] spDeckN := by
  have G__law_stir : FnOk P w K mg base CX0 (k + 1) fS fdS ["cell", "k"] spStir := ok_stir T__law_stir B
  refine T.F.ok scDeckN (fun vs H Q E h => ?_) (fun cdv A outer s H vs Q E hr h => ?_)
  · obtain ⟨c, m, rfl, _⟩ := h
    rfl
  · obtain ⟨c, m, rfl, m1, m2, q⟩ := h
    refine ⟨_, 
      (pss_cons (ps_set (i := 2) scDeckN.nd rfl (.inl rfl) (pe_lst pa_nil))
      (pss_cons (ps_set (i := 3) scDeckN.nd rfl (.inl rfl) (pv 0))
      (pss_cons (ps_for PassesOwn.never rfl (pi_range1 (by rfl) B.range (pa_cons (pv 1) pa_nil)) (pg_name (i := 4) scDeckN.nd rfl (.inl rfl))
        (pss_cons (ps_set (i := 5) scDeckN.nd rfl (.inl rfl) (pe_call G__law_stir hr (by rfl) T__law_stir.g T__law_stir.F.kp T__law_stir.b .nil pass0 (pa_cons (pv 0) (pa_cons (pv 4) pa_nil))))
        (Evl.pss_cut (ps_if (pt_cmpR op_ge (pv 0) (pe_op op_pow pe_int pe_int) (nomark _))
          (pss_one (ps_set (i := 5) scDeckN.nd rfl (.inl rfl) (pe_op op_mod (pv 3) pe_int)))
          pss_nil)
        (pss_cons (ps_set (i := 3) scDeckN.nd rfl (.inl rfl) (pe_op op_fdiv (pv 3) pe_int))
        (pss_one (ps_expr (pe_bm PySem.F.plainAttrs_list PySem.F.slot_list_append PySem.F.type_list_append mt_append (pv 2) (pa_cons (pv 5) pa_nil))))))))
      (pss_one (ps_ret (pe_revL (pv 2))))))), ?_⟩
    refine ⟨line_small (by show 0 ≤ 16777216; decide), fun l nl => ⟨_, rfl, ?_⟩⟩
    refine ⟨_, rfl, m, rfl, by omega, by omega, ?_⟩
    rw [Int.toNat_natCast]
    refine for_range (n := m) (fun i σ H3 => ∃ (x : Int) (y4 y5 : Option V) (ms : List Int), σ = [some (.int c), some (.int m), some (.ref l), some (.int x), y4, y5] ∧ H3 l = some (.lst (ms.map V.int)) ∧ ms.length = i ∧ (∀ z ∈ ms, 0 ≤ z ∧ z < 2147483648) ∧ Same H H3)
      ⟨c, none, none, [], rfl, upd_same, rfl, (fun _ h => absurd h List.not_mem_nil), same_new nl⟩ (fun i σ H3 hi hP => ?_) (fun σ H3 hP => ?_)
    · obtain ⟨x, y4, y5, ms, rfl, hl3, el, hb, s3⟩ := hP
      refine ⟨_, rfl, _, rfl, c, _, rfl, by omega, by omega, fun v v0 v1 => ?_⟩
      refine ⟨fun τ G => ∃ z : Int, 0 ≤ z ∧ z < 2147483648 ∧ τ = [some (.int c), some (.int m), some (.ref l), some (.int x), some (.int (0 + (i : Int))), some (.int z)] ∧ G = H3, ?_, fun τ G hM => ?_⟩
      · refine ⟨_, rfl, 10, 18, rfl, rfl, ⟨by decide, by decide, by decide⟩, c, _, rfl, rfl, _, rfl, ite2 (fun _ => ?_) (fun _ => ⟨v, v0, v1, rfl, rfl⟩)⟩
        have h1 := mod_b x (m := 720720) (by decide)
        exact ⟨_, rfl, x, 720720, rfl, rfl, (show (0 : Int) < 720720 by decide), _, h1.1, by omega, rfl, rfl⟩
      obtain ⟨z, z0, z1, rfl, e1⟩ := hM
      subst e1
      refine ⟨_, rfl, x, 720720, rfl, rfl, ⟨by decide, by decide⟩, ?_⟩
      refine ⟨_, rfl, .inl ⟨rfl, _, SqL.of hl3⟩, _, rfl, l, _, _, rfl, rfl, hl3, line_lt (by rw [List.length_map]; omega), ?_⟩
      refine ⟨_, _, _, ms ++ [z], rfl, by rw [upd_same, List.map_append]; rfl, by rw [List.length_append, el]; rfl, fun u hu => ?_, fun b o e => ?_⟩
      · rcases List.mem_append.mp hu with h | h
        · exact hb u h
        · rw [List.mem_singleton.mp h]
          exact ⟨z0, z1⟩
      · rw [upd_ne (ne_of_none e nl)]
        exact s3 _ _ e
    · obtain ⟨x, y4, y5, ms, rfl, hl3, el, hb, s3⟩ := hP
      refine ⟨_, rfl, l, _, rfl, SqL.of hl3, fun p np => ?_⟩
      have hHp : H p = none := by
        cases e : H p with
        | none => rfl
        | some o =>
          have z := s3 p o e
          rw [np] at z
          cases z
      refine q p _ hHp ⟨ms.reverse, by rw [upd_same, List.map_reverse], by rw [List.length_reverse]; omega, by rw [List.length_reverse]; omega, fun z hz => hb z (List.mem_reverse.mp hz)⟩ (s3.trans (same_new np))
theorem scNext : FnScope ["deck"] ["deck"] (defScope s_law_next) := ⟨rfl, rfl, rfl, by decide +kernel, rfl, by decide +kernel, by decide +kernel⟩
set_option maxHeartbeats 2000000 in
theorem ok_next {f fS : Addr} {fd fdS : FuncData} {k : Nat} (T : Df K mg "_law_next" s_law_next ["deck"] f fd) (T__law_stir : Df K mg "_law_stir" s_law_stir ["cell", "k"] fS fdS) (B : Bi mg) : FnOk P w K mg base CX0 (k + 2) f fd ["deck"] spNext := by
  have G__law_stir : FnOk P w K mg base CX0 (k + 1) fS fdS ["cell", "k"] spStir := ok_stir T__law_stir B
  refine T.F.ok scNext (fun vs H Q E h => ?_) (fun cdv A outer s H vs Q E hr h => ?_)
  · obtain ⟨d, rfl, _⟩ := h
    rfl
  · obtain ⟨d, rfl, ⟨ms, hd, l1, l2, hb⟩, q⟩ := h
    refine ⟨_, 
      (Evl.pss_cut (ps_if (pt_cmpR op_eq (pe_callB call_len_seq (by rfl) B.len PySem.boot_len (pa_cons (pv 0) pa_nil)) pe_int (nomark _))
        (pss_one (ps_expr (pe_bm PySem.F.plainAttrs_list PySem.F.slot_list_insert PySem.F.type_list_insert mt_insert (pv 0) (pa_cons pe_int (pa_cons (pe_op op_mul (pe_call G__law_stir hr (by rfl) T__law_stir.g T__law_stir.F.kp T__law_stir.b .nil pass0 (pa_cons (pe_ix ix_list (pv 0) pe_int (fun _ _ => rfl)) (pa_cons pe_int pa_nil))) (pe_callTy call_int1 (by rfl) B.int (by decide +kernel) (pa_cons (pe_cmpR op_gt (pe_ix ix_list (pv 0) pe_int (fun _ _ => rfl)) pe_int (nomark _)) pa_nil))) pa_nil)))))
        pss_nil)
      (pss_one (ps_ret (pe_bm0 PySem.F.plainAttrs_list PySem.F.slot_list_pop PySem.F.type_list_pop mt_pop (pv 0))))), ?_⟩
    refine ⟨fun τ G => ∃ ks : List Int, τ = [some (.ref d)] ∧ G d = some (.lst (ks.map V.int)) ∧ 2 ≤ ks.length ∧ ks.length ≤ 1200 ∧ (∀ z ∈ ks, 0 ≤ z ∧ z < 2147483648) ∧ KeepD d H G, ?_, fun τ G hM => ?_⟩
    · refine ⟨_, rfl, d, _, rfl, .inl (SqL.of hd), rfl, _, rfl, ite2 (fun c => ?_) (fun c => ?_)⟩
      · have hl : ms.length = 1 := by
          have z : V.int (((ms.map V.int).length : Nat) : Int) = V.int 1 := of_decide_eq_true c
          have z2 : (((ms.map V.int).length : Nat) : Int) = 1 := V.int.inj z
          rw [List.length_map] at z2
          omega
        obtain ⟨x, rfl⟩ := List.length_eq_one_iff.mp hl
        have hx := hb x List.mem_cons_self
        refine ⟨_, rfl, .inl ⟨rfl, _, SqL.of hd⟩, _, rfl, d, _, 0, _, rfl, rfl, SqL.of hd, rfl, x, 7, rfl, by decide, by decide, fun v v0 v1 => ⟨_, rfl, d, _, 0, _, rfl, rfl, SqL.of hd, rfl, x, 0, rfl, rfl, .inr ⟨_, rfl, v, _, rfl, rfl, .inl ⟨by omega, by omega⟩, ?_⟩⟩⟩
        refine ⟨d, _, 0, _, rfl, rfl, hd, line_lt (by show 1 < 16777216; decide), by decide, by decide, ?_⟩
        obtain ⟨u, eu, u0, u1⟩ : ∃ u : Int, v * (if decide ((0 : Int) < x) = true then 1 else 0) = u ∧ 0 ≤ u ∧ u < 2147483648 := by
          by_cases c : (0 : Int) < x
          · rw [decide_eq_true c, if_pos rfl, Int.mul_one]
            exact ⟨v, rfl, v0, v1⟩
          · rw [decide_eq_false c, if_neg (by decide), Int.mul_zero]
            exact ⟨0, rfl, by decide, by decide⟩
        refine ⟨[u, x], rfl, ?_, by show 2 ≤ 2; decide, by show 2 ≤ 1200; decide, fun z hz => ?_, fun b o e nb => by rw [upd_ne nb]; exact e⟩
        · rw [upd_same]
          dsimp only
          rw [eu]
          rfl
        · rcases List.mem_cons.mp hz with rfl | hz
          · exact ⟨u0, u1⟩
          · rw [List.mem_singleton.mp hz]
            exact hx
      · refine ⟨ms, rfl, hd, ?_, l2, hb, KeepD.refl _ _⟩
        by_cases e : ms.length = 1
        · exfalso
          apply c
          apply decide_eq_true
          rw [List.length_map, e]
          rfl
        · omega
    obtain ⟨ks, rfl, hk, l3, l4, hb3, kp⟩ := hM
    obtain ⟨y, ey⟩ : ∃ y, ks[ks.length - 1]? = some y := ⟨ks[ks.length - 1]'(by omega), List.getElem?_eq_getElem (by omega)⟩
    have hy := hb3 y (List.mem_of_getElem? ey)
    refine ⟨_, rfl, .inl ⟨rfl, _, SqL.of hk⟩, d, _, _, rfl, rfl, hk, by rw [List.length_map]; exact int_at ey, ?_⟩
    refine q y _ hy.1 hy.2 ⟨ks.dropLast, by rw [upd_same, List.map_dropLast], by rw [List.length_dropLast]; omega, by rw [List.length_dropLast]; omega, fun z hz => hb3 z ((List.dropLast_prefix ks).subset hz)⟩ (kp.trans fun b o e nb => by rw [upd_ne nb]; exact e)
end
end Fo
namespace Fo
open PySem PySem.Spec PyProof.Rows L2
theorem ins_perm (xs : List Int) (k : Nat) (y : Int) : (xs.take k ++ [y] ++ xs.drop k).Perm (y :: xs) := by
  rw [List.append_assoc]
  have h1 : (xs.take k ++ ([y] ++ xs.drop k)).Perm ([y] ++ (xs.take k ++ xs.drop k)) := by
    rw [← List.append_assoc, ← List.append_assoc]
    exact List.Perm.append_right _ List.perm_append_comm
  rw [List.take_append_drop] at h1
  exact h1
theorem set2_perm {xs : List Int} {p q : Nat} {a b : Int} (ha : xs[p]? = some a) (hb : xs[q]? = some b) : ((xs.set p b).set q a).Perm xs := by
  obtain ⟨h1, e1⟩ := List.getElem?_eq_some_iff.mp ha
  obtain ⟨h2, e2⟩ := List.getElem?_eq_some_iff.mp hb
  rw [← e1, ← e2]
  exact List.set_set_perm h1 h2
theorem set2_V (xs : List Int) (p q : Nat) (a b : Int) : ((xs.map V.int).set p (V.int b)).set q (V.int a) = ((xs.set p b).set q a).map V.int := by
  rw [List.map_set, List.map_set]
section
variable {P : Program} {w : World} {K : PySem.W.Frag} {mg : Str → Option Value} {base : Heap}
theorem scOrderN : FnScope ["deck", "n", "left", "thing"] ["deck", "n"] (defScope s_law_order) := ⟨rfl, rfl, rfl, by decide +kernel, rfl, by decide +kernel, by decide +kernel⟩
set_option maxHeartbeats 4000000 in
theorem ok_orderN {f fD : Addr} {fd fdD : FuncData} {k : Nat} (T : Df K mg "_law_order" s_law_order ["deck", "n"] f fd) (T__law_next : Df K mg "_law_next" s_law_next ["deck"] fD fdD) (G__law_next : FnOk P w K mg base CX0 k fD fdD ["deck"] spNext) (B : Bi mg) : FnOk P w K mg base CX0 (k + 1) f fd ["deck", "n"] spOrderN := by
  refine T.F.ok scOrderN (fun vs H Q E h => ?_) (fun cdv A outer s H vs Q E hr h => ?_)
  · obtain ⟨D, n, rfl, _⟩ := h
    rfl
  · obtain ⟨d, n, rfl, hD, hn2, q⟩ := h
    refine ⟨_, 
      (pss_cons (ps_set (i := 2) scOrderN.nd rfl (.inr rfl) (pe_listRg rfl (by rfl) B.list (prg_1 (by rfl) B.range (pv 1))))
      (pss_one (ps_ret (pe_lc (own := [("thing", 3)]) (g := (gName 3)) (tt := tYes) (te := (tBM K "list" rPopAt (tVar 2) (tCons (tOp (rI (fun _ j => 0 < j) fun i j => .int (i % j)) (tCall spNext [] E0 (tCons (tVar 0) tNil)) (tCB (rLenS K) (tCons (tVar 2) tNil))) tNil))) rfl scOrderN.nd (pi_range1 (by rfl) B.range (pa_cons (pv 1) pa_nil)) (blkOk_by (N := ["deck", "n", "left", "thing"]) (sc := defScope s_law_order) (by decide +kernel)) (fun _ _ _ _ _ => (pg_name (i := 3) scOrderN.nd rfl (.inl rfl))) (fun _ _ _ _ _ => pts_nil) (fun _ _ _ _ _ => (pe_bm PySem.F.plainAttrs_list PySem.F.slot_list_pop PySem.F.type_list_pop mt_popAt (pv 2) (pa_cons (pe_op op_mod (pe_call G__law_next hr (by rfl) T__law_next.g T__law_next.F.kp T__law_next.b .nil pass0 (pa_cons (pv 0) pa_nil)) (pe_callB call_len_seq (by rfl) B.len PySem.boot_len (pa_cons (pv 2) pa_nil))) pa_nil))))))), ?_⟩
    refine ⟨_, rfl, n, rfl, RgOk.of_le (by omega) (by omega) (by omega) (by omega), fun l nl => ?_⟩
    have hl0 : (upd H l (.lst (rgV 0 (n : Int)))) l = some (.lst ((rg n).map V.int)) := by rw [upd_same, rg_V]
    have D0 := hD.new (o := .lst (rgV 0 (n : Int))) nl
    have nf := hD.ne nl
    have k0 : KeepD d H (upd H l (.lst (rgV 0 (n : Int)))) := KeepD.new nl
    refine ⟨_, rfl, n, rfl, by omega, by omega, ?_⟩
    rw [Int.toNat_natCast]
    intro p np
    have npf := D0.ne np
    have lp : l ≠ p := ne_of_none hl0 np
    refine lc_range (lo := 0) (n := n) (fun i H3 => ∃ (rest acc : List Int), (acc ++ rest).Perm (rg n) ∧ acc.length = i ∧ H3 l = some (.lst (rest.map V.int)) ∧ H3 p = some (.lst (acc.map V.int)) ∧ DqAt H3 d ∧ ∀ b o, H b = some o → b ≠ d → H3 b = some o)
      ⟨rg n, [], List.Perm.refl _, rfl, by rw [upd_ne lp]; exact hl0, upd_same, D0.new np, fun b o e f => by rw [upd_ne (ne_of_none (k0 b o e f) np)]; exact k0 b o e f⟩ (fun i H3 hi hP => ?_) (fun H3 hP => ?_)
    · obtain ⟨rest, acc, hperm, el, hl3, hp3, D3, kp3⟩ := hP
      have hlen : rest.length = n - i := by
        have := List.Perm.length_eq hperm
        rw [List.length_append, rg_len] at this
        omega
      have hlm : (rest.map V.int).length = rest.length := List.length_map _
      refine ⟨rfl, ?_⟩
      refine ⟨_, rfl, .inl ⟨rfl, _, SqL.of hl3⟩, _, rfl, d, rfl, D3, fun v H4 v0 v1 D4 k4 => ?_⟩
      have hl4 := k4 l _ hl3 nf
      have hp4 := k4 p _ hp3 npf
      obtain ⟨j, ej, hj⟩ : ∃ j : Nat, v % (((rest.map V.int).length : Nat) : Int) = (j : Int) ∧ j < rest.length := by
        rw [hlm]
        have h1 := mod_b v (m := ((rest.length : Nat) : Int)) (by omega)
        exact ⟨(v % ((rest.length : Nat) : Int)).toNat, by omega, by omega⟩
      refine ⟨_, rfl, l, _, rfl, .inl (SqL.of hl4), v, _, rfl, rfl, by rw [hlm]; omega, ?_⟩
      obtain ⟨y, ey⟩ : ∃ y, rest[j]? = some y := ⟨rest[j]'(by omega), List.getElem?_eq_getElem (by omega)⟩
      refine ⟨l, _, _, j, _, rfl, rfl, hl4, by rw [ej]; omega, by rw [ej]; omega, seq_ix ej (by rw [hlm]; omega), int_at ey, ?_⟩
      refine ⟨acc.map V.int, by rw [upd_ne lp.symm]; exact hp4, line_lt (by rw [List.length_map]; omega), rest.eraseIdx j, acc ++ [y], ?_, by rw [List.length_append, el]; rfl, ?_, by rw [upd_same, List.map_append]; rfl, ?_, fun b o e f => ?_⟩
      · rw [List.append_assoc]
        exact (List.Perm.append_left acc (pop_perm ey)).trans hperm
      · rw [upd_ne lp, upd_same, map_erase]
      · exact (D4.upd nf).upd npf
      · have e4 := k4 b o (kp3 b o e f) f
        have nbl : b ≠ l := ne_of_none e nl
        have nbp : b ≠ p := ne_of_none (k0 b o e f) np
        rw [upd_ne nbp, upd_ne nbl]
        exact e4
    · obtain ⟨rest, acc, hperm, el, hl3, hp3, D3, kp3⟩ := hP
      have hr0 : rest = [] := by
        have := List.Perm.length_eq hperm
        rw [List.length_append, rg_len] at this
        exact List.eq_nil_of_length_eq_zero (by omega)
      subst hr0
      rw [List.append_nil] at hperm
      exact q acc p H3 hperm (k0.none np npf) hp3 npf D3 kp3
theorem scNearN : FnScope ["deck", "order", "found", "way", "turn", "p", "q"] ["deck", "order"] (defScope s_law_near) := ⟨rfl, rfl, rfl, by decide +kernel, rfl, by decide +kernel, by decide +kernel⟩
set_option maxHeartbeats 4000000 in
theorem ok_nearN {f fD : Addr} {fd fdD : FuncData} {k : Nat} (T : Df K mg "_law_near" s_law_near ["deck", "order"] f fd) (T__law_next : Df K mg "_law_next" s_law_next ["deck"] fD fdD) (G__law_next : FnOk P w K mg base CX0 k fD fdD ["deck"] spNext) (B : Bi mg) : FnOk P w K mg base CX0 (k + 1) f fd ["deck", "order"] spNearN := by
  refine T.F.ok scNearN (fun vs H Q E h => ?_) (fun cdv A outer s H vs Q E hr h => ?_)
  · obtain ⟨D, o, n, ns, rfl, _⟩ := h
    rfl
  · obtain ⟨d, o, n, ns, rfl, hD, h0, ho, hn1, hn2, q⟩ := h
    have hlm : (ns.map V.int).length = n := by rw [List.length_map, ho.len]
    refine ⟨_, 
      (pss_cons (ps_set (i := 2) scNearN.nd rfl (.inl rfl) (pe_callTy call_list_of (by rfl) B.list (by decide +kernel) (pa_cons (pv 1) pa_nil)))
      (pss_cons (ps_set (i := 3) scNearN.nd rfl (.inl rfl) (pe_op op_mod (pe_call G__law_next hr (by rfl) T__law_next.g T__law_next.F.kp T__law_next.b .nil pass0 (pa_cons (pv 0) pa_nil)) pe_int))
      (pss_cons (ps_for PassesOwn.never rfl (pi_range1 (by rfl) B.range (pa_cons (pe_op op_mul (pe_ix ix_list (pe_lst (pa_cons pe_int (pa_cons pe_int (pa_cons pe_int (pa_cons pe_int pa_nil))))) (pe_op op_mod (pe_call G__law_next hr (by rfl) T__law_next.g T__law_next.F.kp T__law_next.b .nil pass0 (pa_cons (pv 0) pa_nil)) pe_int) (fun _ _ => rfl)) (pe_callTy call_int1 (by rfl) B.int (by decide +kernel) (pa_cons (pe_cmpR op_gt (pe_callB call_len_seq (by rfl) B.len PySem.boot_len (pa_cons (pv 2) pa_nil)) pe_int (nomark _)) pa_nil))) pa_nil)) (pg_name (i := 4) scNearN.nd rfl (.inl rfl))
        (pss_cons (ps_set (i := 5) scNearN.nd rfl (.inl rfl) (pe_op op_mod (pe_call G__law_next hr (by rfl) T__law_next.g T__law_next.F.kp T__law_next.b .nil pass0 (pa_cons (pv 0) pa_nil)) (pe_op op_sub (pe_callB call_len_seq (by rfl) B.len PySem.boot_len (pa_cons (pv 2) pa_nil)) pe_int)))
        (pss_cons (ps_set (i := 6) scNearN.nd rfl (.inl rfl) (pe_ix ix_list (pe_lst (pa_cons (pe_op op_add (pv 5) pe_int) (pa_cons (pe_op op_mod (pe_call G__law_next hr (by rfl) T__law_next.g T__law_next.F.kp T__law_next.b .nil pass0 (pa_cons (pv 0) pa_nil)) (pe_callB call_len_seq (by rfl) B.len PySem.boot_len (pa_cons (pv 2) pa_nil))) (pa_cons (pe_op op_add (pv 5) pe_int) pa_nil)))) (pv 3) (fun _ _ => rfl)))
        (pss_one (ps_if (pt_cmpR op_lt (pv 3) pe_int (nomark _))
          (pss_one (ps_asg (pe_tup (pa_cons (pe_ix ix_list (pv 2) (pv 6) (fun _ _ => rfl)) (pa_cons (pe_ix ix_list (pv 2) (pv 5) (fun _ _ => rfl)) pa_nil))) (pg_tup (by rfl) (pgs_cons (pg_sub (pv 2) (pv 5) set_list) (pgs_cons (pg_sub (pv 2) (pv 6) set_list) pgs_nil)))))
          (pss_one (ps_expr (pe_bm PySem.F.plainAttrs_list PySem.F.slot_list_insert PySem.F.type_list_insert mt_insert (pv 2) (pa_cons (pe_op op_mod (pe_call G__law_next hr (by rfl) T__law_next.g T__law_next.F.kp T__law_next.b .nil pass0 (pa_cons (pv 0) pa_nil)) (pe_callB call_len_seq (by rfl) B.len PySem.boot_len (pa_cons (pv 2) pa_nil))) (pa_cons (pe_bm PySem.F.plainAttrs_list PySem.F.slot_list_pop PySem.F.type_list_pop mt_popAt (pv 2) (pa_cons (pv 5) pa_nil)) pa_nil))))))))))
      (pss_one (ps_ret (pv 2)))))), ?_⟩
    refine ⟨_, rfl, o, _, rfl, .inl (SqL.of h0), fun l nl => ?_⟩
    have s0 := same_new (o := .lst (ns.map V.int)) nl
    have D0 := hD.new (o := .lst (ns.map V.int)) nl
    have nf := hD.ne nl
    refine ⟨_, rfl, d, rfl, D0, fun w1 H1 _ _ D1 k1 => ⟨w1, 3, rfl, rfl, (show (0 : Int) < 3 by decide), ?_⟩⟩
    have hl1 := k1 l _ upd_same nf
    have kk1 : KeepD d H H1 := (KeepD.of_same s0).trans k1
    have hw := mod_b w1 (m := 3) (by decide)
    refine ⟨line_small (by show 4 ≤ 16777216; decide), fun t nt => ?_⟩
    have D1t := D1.new (o := .lst [.int 1, .int 1, .int 2, .int 4]) nt
    have ntd := D1.ne nt
    refine ⟨_, rfl, d, rfl, D1t, fun w2 H2 _ _ D2 k2 => ⟨w2, 4, rfl, rfl, (show (0 : Int) < 4 by decide), ?_⟩⟩
    have ht2 := k2 t _ upd_same ntd
    have kk2 : KeepD d H H2 := (kk1.trans (KeepD.new nt)).trans k2
    have hl2 := k2 l _ (same_new nt _ _ hl1) nf
    have hw2 := mod_b w2 (m := 4) (by decide)
    obtain ⟨u, eu, u0, u1⟩ : ∃ u : Int, atI [V.int 1, V.int 1, V.int 2, V.int 4] (w2 % 4) = some (.int u) ∧ 0 ≤ u ∧ u ≤ 4 := by
      have : w2 % 4 = 0 ∨ w2 % 4 = 1 ∨ w2 % 4 = 2 ∨ w2 % 4 = 3 := by omega
      rcases this with h | h | h | h <;> rw [h]
      · exact ⟨1, rfl, by decide, by decide⟩
      · exact ⟨1, rfl, by decide, by decide⟩
      · exact ⟨2, rfl, by decide, by decide⟩
      · exact ⟨4, rfl, by decide, by decide⟩
    refine ⟨t, _, _, _, rfl, rfl, SqL.of ht2, eu, _, rfl, l, _, rfl, .inl (SqL.of hl2), _, 1, rfl, rfl, .inr ⟨_, rfl, u, _, rfl, rfl, .inl ⟨by omega, by omega⟩, _, rfl, ?_⟩⟩
    obtain ⟨m, em, hm⟩ : ∃ m : Nat, u * (if decide ((1 : Int) < (((ns.map V.int).length : Nat) : Int)) = true then 1 else 0) = (m : Int) ∧ (m ≤ 4 ∧ (n = 1 → m = 0)) := by
      rw [hlm]
      by_cases c : (1 : Int) < (n : Int)
      · rw [decide_eq_true c, if_pos rfl, Int.mul_one]
        exact ⟨u.toNat, by omega, by omega, by omega⟩
      · rw [decide_eq_false c, if_neg (by decide), Int.mul_zero]
        exact ⟨0, by omega, by omega, fun _ => rfl⟩
    refine ⟨by rw [em]; omega, by rw [em]; omega, ?_⟩
    rw [em, Int.toNat_natCast]
    refine for_range (n := m) (fun i σ H3 => ∃ (y4 y5 y6 : Option V) (xs : List Int), σ = [some (.ref d), some (.ref o), some (.ref l), some (.int (w1 % 3)), y4, y5, y6] ∧ IsOrd n xs ∧ H3 l = some (.lst (xs.map V.int)) ∧ DqAt H3 d ∧ KeepD d H H3)
      ⟨none, none, none, ns, rfl, ho, hl2, D2, kk2⟩ (fun i σ H3 hi hP => ?_) (fun σ H3 hP => ?_)
    · obtain ⟨y4, y5, y6, xs, rfl, o3, hl3, D3, k3⟩ := hP
      have hxl := o3.len
      have hn : 2 ≤ n := by
        by_cases c : n = 1
        · have := hm.2 c
          omega
        · omega
      have hxm : (xs.map V.int).length = n := by rw [List.length_map]; exact hxl
      refine ⟨_, rfl, d, rfl, D3, fun v1 H4 _ _ D4 k4 => ?_⟩
      have hl4 := k4 l _ hl3 nf
      refine ⟨_, rfl, l, _, rfl, .inl (SqL.of hl4), _, 1, rfl, rfl, v1, _, rfl, rfl, by rw [hxm]; omega, ?_⟩
      obtain ⟨p, ep, hp⟩ : ∃ p : Nat, v1 % ((((xs.map V.int).length : Nat) : Int) - 1) = (p : Int) ∧ p + 1 < n := by
        rw [hxm]
        have h1 := mod_b v1 (m := (n : Int) - 1) (by omega)
        exact ⟨(v1 % ((n : Int) - 1)).toNat, by omega, by omega⟩
      show gName 5 (V.int (v1 % ((((xs.map V.int).length : Nat) : Int) - 1))) _ _ _
      rw [ep]
      refine ⟨_, rfl, (p : Int), 1, rfl, rfl, _, rfl, d, rfl, D4, fun v2 H5 _ _ D5 k5 => ?_⟩
      have hl5 := k5 l _ hl4 nf
      refine ⟨_, rfl, l, _, rfl, .inl (SqL.of hl5), v2, _, rfl, rfl, by rw [hxm]; omega, ?_⟩
      obtain ⟨u, eu, hu⟩ : ∃ u : Nat, v2 % (((xs.map V.int).length : Nat) : Int) = (u : Int) ∧ u < n := by
        rw [hxm]
        have h1 := mod_b v2 (m := (n : Int)) (by omega)
        exact ⟨(v2 % (n : Int)).toNat, by omega, by omega⟩
      refine ⟨_, rfl, (p : Int), 1, rfl, rfl, line_small (by show 3 ≤ 16777216; decide), fun t2 nt2 => ?_⟩
      have s6 := same_new (o := .lst [.int ((p : Int) + 1), .int (v2 % (((xs.map V.int).length : Nat) : Int)), .int ((p : Int) + 1)]) nt2
      have hl6 := s6 _ _ hl5
      obtain ⟨z, ez, hz⟩ : ∃ z : Nat, atI [V.int ((p : Int) + 1), V.int (v2 % (((xs.map V.int).length : Nat) : Int)), V.int ((p : Int) + 1)] (w1 % 3) = some (.int z) ∧ z < n := by
        have : w1 % 3 = 0 ∨ w1 % 3 = 1 ∨ w1 % 3 = 2 := by omega
        rcases this with h | h | h <;> rw [h, eu]
        · exact ⟨p + 1, rfl, hp⟩
        · exact ⟨u, rfl, hu⟩
        · exact ⟨p + 1, rfl, hp⟩
      refine ⟨_, rfl, t2, _, _, _, rfl, rfl, SqL.of upd_same, ez, ?_⟩
      obtain ⟨a, ea⟩ : ∃ a, xs[p]? = some a := ⟨xs[p]'(by omega), List.getElem?_eq_getElem (by omega)⟩
      obtain ⟨b, eb⟩ : ∃ b, xs[z]? = some b := ⟨xs[z]'(by omega), List.getElem?_eq_getElem (by omega)⟩
      have D6 := D5.new (o := .lst [.int ((p : Int) + 1), .int (v2 % (((xs.map V.int).length : Nat) : Int)), .int ((p : Int) + 1)]) nt2
      have k6 : KeepD d H (upd H5 t2 (.lst [.int ((p : Int) + 1), .int (v2 % (((xs.map V.int).length : Nat) : Int)), .int ((p : Int) + 1)])) := ((k3.trans k4).trans k5).trans (KeepD.of_same s6)
      generalize upd H5 t2 (.lst [.int ((p : Int) + 1), .int (v2 % (((xs.map V.int).length : Nat) : Int)), .int ((p : Int) + 1)]) = H6 at hl6 D6 k6 ⊢
      refine ⟨_, rfl, _, 2, rfl, rfl, _, rfl, ite2 (fun _ => ?_) (fun _ => ?_)⟩
      · refine ⟨_, rfl, _, rfl, l, _, _, _, rfl, rfl, SqL.of hl6, at_of (j := z) rfl (int_at eb), _, rfl, _, rfl, l, _, _, _, rfl, rfl, SqL.of hl6, at_of (j := p) rfl (int_at ea), line_small (by show 2 ≤ 16777216; decide), fun t3 nt3 => ?_⟩
        have hl7 := same_new (o := .tup [.int b, .int a]) nt3 _ _ hl6
        refine ⟨t3, _, rfl, .inl (.inl upd_same), rfl, _, _, rfl, _, rfl, _, rfl, l, _, _, p, rfl, rfl, hl7, ix_n rfl (by rw [List.length_map]; omega), ?_⟩
        refine ⟨_, _, rfl, _, rfl, _, rfl, l, _, _, z, rfl, rfl, upd_same, ix_n rfl (by rw [List.length_set, List.length_map]; omega), ?_⟩
        refine ⟨rfl, _, _, _, (xs.set p b).set z a, rfl, (set2_perm ea eb).trans o3, by rw [upd_same, set2_V], ((D6.new nt3).upd nf).upd nf, fun c x e f => ?_⟩
        have nc : c ≠ l := ne_of_none e nl
        rw [upd_ne nc, upd_ne nc]
        exact same_new nt3 _ _ (k6 c x e f)
      · refine ⟨_, rfl, .inl ⟨rfl, _, SqL.of hl6⟩, _, rfl, d, rfl, D6, fun v3 H7 _ _ D7 k7 => ?_⟩
        have hl7 := k7 l _ hl6 nf
        refine ⟨_, rfl, l, _, rfl, .inl (SqL.of hl7), v3, _, rfl, rfl, by rw [hxm]; omega, ?_⟩
        obtain ⟨y, ey, hy⟩ : ∃ y : Nat, v3 % (((xs.map V.int).length : Nat) : Int) = (y : Int) ∧ y < n := by
          rw [hxm]
          have h1 := mod_b v3 (m := (n : Int)) (by omega)
          exact ⟨(v3 % (n : Int)).toNat, by omega, by omega⟩
        refine ⟨_, rfl, .inl ⟨rfl, _, SqL.of hl7⟩, _, rfl, l, _, _, p, _, rfl, rfl, hl7, by omega, by omega, seq_ix rfl (by rw [hxm]; omega), int_at ea, ?_⟩
        refine ⟨l, _, _, _, rfl, rfl, upd_same, line_lt (by rw [map_erase, List.length_map, List.length_eraseIdx, hxl]; split <;> omega), by rw [ey]; omega, by rw [ey]; omega, ?_⟩
        refine ⟨_, _, _, (xs.eraseIdx p).take y ++ [a] ++ (xs.eraseIdx p).drop y, rfl, ((ins_perm _ _ _).trans (pop_perm ea)).trans o3, ?_, (D7.upd nf).upd nf, fun c x e f => ?_⟩
        · rw [upd_same, map_erase, List.map_append, List.map_append, List.map_take, List.map_drop, ey, Int.toNat_natCast]
          rfl
        · have nc : c ≠ l := ne_of_none e nl
          rw [upd_ne nc, upd_ne nc]
          exact k7 c x (k6 c x e f) f
    · obtain ⟨y4, y5, y6, xs, rfl, o3, hl3, D3, k3⟩ := hP
      exact ⟨_, rfl, q xs l H3 o3 nl hl3 nf D3 k3⟩
end
end Fo
namespace Fo
open PySem PySem.Spec PyProof.Rows L2
/-- a list of orders of n things -/
structure OL (H : Hp) (l : Addr) (as : List Addr) (rs : List (List Int)) (n : Nat) : Prop where
  top : H l = some (.lst (as.map V.ref))
  ll : LL H as rs
  ord : ∀ r ∈ rs, IsOrd n r
  n1 : 1 ≤ n
  n2 : n ≤ 12
theorem OL.same {H H' : Hp} {l : Addr} {as : List Addr} {rs : List (List Int)} {n : Nat} (h : OL H l as rs n) (s : Same H H') : OL H' l as rs n := ⟨s _ _ h.top, h.ll.same s, h.ord, h.n1, h.n2⟩
theorem OL.keepD {H H' : Hp} {l d : Addr} {as : List Addr} {rs : List (List Int)} {n : Nat} (h : OL H l as rs n) (s : KeepD d H H') (nl : l ≠ d) (na : d ∉ as) : OL H' l as rs n :=
  ⟨s _ _ h.top nl, h.ll.keep fun a ha o e => s a o e (fun q => na (by rw [← q]; exact ha)), h.ord, h.n1, h.n2⟩
def spPoll : Sp := fun vs H Q _ => ∃ (d : Addr) (n most : Nat), vs = [.ref d, .int n, .int most] ∧ DqAt H d ∧ 1 ≤ n ∧ n ≤ 12 ∧ 1 ≤ most ∧ most ≤ 20 ∧
  ∀ (l : Addr) (as : List Addr) (rs : List (List Int)) (H' : Hp), OL H' l as rs n → 1 ≤ rs.length → rs.length ≤ most → H l = none → (∀ a ∈ as, H a = none) → l ≠ d → d ∉ as → DqAt H' d → KeepD d H H' → Q (.ref l) H'
section
variable {P : Program} {w : World} {K : PySem.W.Frag} {mg : Str → Option Value} {base : Heap}
theorem scPoll : FnScope ["deck", "n", "most", "first", "found", "kind", "turn", "at", "some"] ["deck", "n", "most"] (defScope s_law_poll) := ⟨rfl, rfl, rfl, by decide +kernel, rfl, by decide +kernel, by decide +kernel⟩
set_option maxHeartbeats 4000000 in
theorem ok_poll {f fD fO fN : Addr} {fd fdD fdO fdN : FuncData} {k : Nat} (T : Df K mg "_law_poll" s_law_poll ["deck", "n", "most"] f fd) (T__law_next : Df K mg "_law_next" s_law_next ["deck"] fD fdD) (G__law_next : FnOk P w K mg base CX0 k fD fdD ["deck"] spNext) (T__law_order : Df K mg "_law_order" s_law_order ["deck", "n"] fO fdO) (G__law_order : FnOk P w K mg base CX0 k fO fdO ["deck", "n"] spOrderN) (T__law_near : Df K mg "_law_near" s_law_near ["deck", "order"] fN fdN) (G__law_near : FnOk P w K mg base CX0 k fN fdN ["deck", "order"] spNearN) (B : Bi mg) : FnOk P w K mg base CX0 (k + 1) f fd ["deck", "n", "most"] spPoll := by
  refine T.F.ok scPoll (fun vs H Q E h => ?_) (fun cdv A outer s H vs Q E hr h => ?_)
  · obtain ⟨D, n, m, rfl, _⟩ := h
    rfl
  · obtain ⟨d, n, most, rfl, hD, hn1, hn2, hm1, hm2, q⟩ := h
    refine ⟨_, 
      (pss_cons (ps_set (i := 3) scPoll.nd rfl (.inl rfl) (pe_call G__law_order hr (by rfl) T__law_order.g T__law_order.F.kp T__law_order.b .nil pass0 (pa_cons (pv 0) (pa_cons (pv 1) pa_nil))))
      (pss_cons (ps_set (i := 4) scPoll.nd rfl (.inl rfl) (pe_lst (pa_cons (pv 3) pa_nil)))
      (pss_cons (ps_set (i := 5) scPoll.nd rfl (.inl rfl) (pe_op op_mod (pe_call G__law_next hr (by rfl) T__law_next.g T__law_next.F.kp T__law_next.b .nil pass0 (pa_cons (pv 0) pa_nil)) pe_int))
      (pss_cons (ps_for PassesOwn.never rfl (pi_range1 (by rfl) B.range (pa_cons (pe_ix ix_list (pe_lst (pa_cons (pe_op op_mod (pe_call G__law_next hr (by rfl) T__law_next.g T__law_next.F.kp T__law_next.b .nil pass0 (pa_cons (pv 0) pa_nil)) (pv 2)) (pa_cons (pe_op op_sub (pv 2) pe_int) (pa_cons (pe_op op_mod (pe_call G__law_next hr (by rfl) T__law_next.g T__law_next.F.kp T__law_next.b .nil pass0 (pa_cons (pv 0) pa_nil)) (pe_callB (call_min2 rfl) (by rfl) B.min (by decide +kernel) (pa_cons (pv 2) (pa_cons pe_int pa_nil)))) pa_nil)))) (pe_op op_mod (pe_call G__law_next hr (by rfl) T__law_next.g T__law_next.F.kp T__law_next.b .nil pass0 (pa_cons (pv 0) pa_nil)) pe_int) (fun _ _ => rfl)) pa_nil)) (pg_name (i := 6) scPoll.nd rfl (.inl rfl))
        (pss_cons (ps_set (i := 7) scPoll.nd rfl (.inl rfl) (pe_op op_mod (pe_call G__law_next hr (by rfl) T__law_next.g T__law_next.F.kp T__law_next.b .nil pass0 (pa_cons (pv 0) pa_nil)) (pv 1)))
        (pss_cons (ps_set (i := 8) scPoll.nd rfl (.inl rfl) (pe_lst (pa_cons (pe_call G__law_near hr (by rfl) T__law_near.g T__law_near.F.kp T__law_near.b .nil pass0 (pa_cons (pv 0) (pa_cons (pv 3) pa_nil))) (pa_cons (pe_call G__law_order hr (by rfl) T__law_order.g T__law_order.F.kp T__law_order.b .nil pass0 (pa_cons (pv 0) (pa_cons (pv 1) pa_nil))) (pa_cons (pe_op op_cat (pe_slice sl_list (pv 3) (po_some (pv 7)) po_none) (pe_slice sl_list (pv 3) po_none (po_some (pv 7)))) (pa_cons (pe_revL (pv 3)) pa_nil))))))
        (pss_cons (ps_expr (pe_bm PySem.F.plainAttrs_list PySem.F.slot_list_append PySem.F.type_list_append mt_append (pv 8) (pa_cons (pe_callTy call_list_of (by rfl) B.list (by decide +kernel) (pa_cons (pe_ix ix_list (pv 4) (pe_op op_mod (pe_call G__law_next hr (by rfl) T__law_next.g T__law_next.F.kp T__law_next.b .nil pass0 (pa_cons (pv 0) pa_nil)) (pe_callB call_len_seq (by rfl) B.len PySem.boot_len (pa_cons (pv 4) pa_nil))) (fun _ _ => rfl)) pa_nil)) pa_nil)))
        (pss_one (ps_expr (pe_bm PySem.F.plainAttrs_list PySem.F.slot_list_append PySem.F.type_list_append mt_append (pv 4) (pa_cons (pe_ix ix_list (pv 8) (pe_ix ix_list (pe_lst (pa_cons pe_int (pa_cons pe_int (pa_cons pe_int (pa_cons (pe_op op_mod (pe_call G__law_next hr (by rfl) T__law_next.g T__law_next.F.kp T__law_next.b .nil pass0 (pa_cons (pv 0) pa_nil)) pe_int) pa_nil))))) (pv 5) (fun _ _ => rfl)) (fun _ _ => rfl)) pa_nil))))))))
      (pss_one (ps_ret (pv 4))))))), ?_⟩
    refine ⟨_, rfl, _, rfl, d, n, rfl, hD, hn2, fun fs f0 H1 ofs nf0 hf1 nfd D1 k1 => ?_⟩
    refine ⟨_, rfl, line_small (by show 1 ≤ 16777216; decide), fun l nl => ?_⟩
    have hf2 := same_new (o := .lst [.ref f0]) nl _ _ hf1
    have D2 := D1.new (o := .lst [.ref f0]) nl
    have nld := D1.ne nl
    have nlf : l ≠ f0 := (ne_of_none hf1 nl).symm
    have k2 : KeepD d H (upd H1 l (.lst [.ref f0])) := k1.trans (KeepD.new nl)
    have nHl : H l = none := k1.none nl nld
    have hl2 : (upd H1 l (.lst [.ref f0])) l = some (.lst [.ref f0]) := upd_same
    generalize upd H1 l (.lst [.ref f0]) = H2 at hf2 D2 k2 hl2 ⊢
    refine ⟨_, rfl, d, rfl, D2, fun w1 H3 _ _ D3 k3 => ⟨w1, 4, rfl, rfl, (show (0 : Int) < 4 by decide), ?_⟩⟩
    have hw := mod_b w1 (m := 4) (by decide)
    refine ⟨_, rfl, d, rfl, D3, fun w2 H4 _ _ D4 k4 => ⟨_, rfl, w2, most, rfl, rfl, (show (0 : Int) < (most : Int) by omega), _, rfl, (most : Int), 1, rfl, rfl, _, rfl, d, rfl, D4, fun w3 H5 _ _ D5 k5 => ?_⟩⟩
    refine ⟨_, rfl, (most : Int), 4, rfl, w3, _, rfl, rfl, (by show (0 : Int) < if 4 < (most : Int) then 4 else (most : Int); split <;> omega), ?_⟩
    refine ⟨line_small (by show 3 ≤ 16777216; decide), fun t nt => ?_⟩
    have h1 := mod_b w2 (m := (most : Int)) (by omega)
    have h2 := mod_b w3 (m := (if 4 < (most : Int) then 4 else (most : Int))) (by split <;> omega)
    have h3 : (if 4 < (most : Int) then 4 else (most : Int)) ≤ most := by split <;> omega
    have D6 := D5.new (o := .lst [.int (w2 % most), .int ((most : Int) - 1), .int (w3 % (if 4 < (most : Int) then 4 else (most : Int)))]) nt
    have ntd := D5.ne nt
    refine ⟨_, rfl, d, rfl, D6, fun w4 H7 _ _ D7 k7 => ⟨w4, 3, rfl, rfl, (show (0 : Int) < 3 by decide), ?_⟩⟩
    have ht7 := k7 t _ upd_same ntd
    have k37 : KeepD d H2 H7 := ((k3.trans k4).trans k5).trans ((KeepD.new nt).trans k7)
    have h4 := mod_b w4 (m := 3) (by decide)
    obtain ⟨m, em, hm⟩ : ∃ m : Nat, atI [V.int (w2 % most), V.int ((most : Int) - 1), V.int (w3 % (if 4 < (most : Int) then 4 else (most : Int)))] (w4 % 3) = some (.int m) ∧ m + 1 ≤ most := by
      have : w4 % 3 = 0 ∨ w4 % 3 = 1 ∨ w4 % 3 = 2 := by omega
      rcases this with h | h | h <;> rw [h]
      · refine ⟨(w2 % most).toNat, ?_, by omega⟩
        rw [Int.toNat_of_nonneg h1.1]
        rfl
      · refine ⟨most - 1, ?_, by omega⟩
        rw [show ((most - 1 : Nat) : Int) = (most : Int) - 1 by omega]
        rfl
      · refine ⟨(w3 % (if 4 < (most : Int) then 4 else (most : Int))).toNat, ?_, by omega⟩
        rw [Int.toNat_of_nonneg h2.1]
        rfl
    refine ⟨t, _, _, _, rfl, rfl, SqL.of ht7, em, m, rfl, by omega, by omega, ?_⟩
    rw [Int.toNat_natCast]
    have hf7 := k37 f0 _ hf2 nfd
    have hl7 := k37 l _ hl2 nld
    refine for_range (n := m) (fun i σ G => ∃ (y6 y7 y8 : Option V) (as : List Addr) (rs : List (List Int)), σ = [some (.ref d), some (.int n), some (.int most), some (.ref f0), some (.ref l), some (.int (w1 % 4)), y6, y7, y8] ∧ G l = some (.lst (as.map V.ref)) ∧ LL G as rs ∧ (∀ r ∈ rs, IsOrd n r) ∧ rs.length = i + 1 ∧ G f0 = some (.lst (fs.map V.int)) ∧ (∀ a ∈ as, H a = none) ∧ d ∉ as ∧ l ∉ as ∧ DqAt G d ∧ KeepD d H G)
      ⟨none, none, none, [f0], [fs], rfl, hl7, ⟨hf7, trivial⟩, fun r hr => by rw [List.mem_singleton.mp hr]; exact ofs, rfl, hf7, fun a ha => by rw [List.mem_singleton.mp ha]; exact nf0, fun hd => nfd (List.mem_singleton.mp hd).symm, fun hd => nlf (List.mem_singleton.mp hd), D7, k2.trans k37⟩ (fun i σ G hi hP => ?_) (fun σ G hP => ?_)
    · obtain ⟨y6, y7, y8, as, rs, rfl, hl, hLL, ho, hlen, hf, hna, nda, nla, DG, kG⟩ := hP
      have halen := hLL.len
      -- at = next % n
      refine ⟨_, rfl, d, rfl, DG, fun v1 G1 _ _ DG1 kk1 => ⟨_, rfl, v1, n, rfl, rfl, (show (0 : Int) < (n : Int) by omega), ?_⟩⟩
      obtain ⟨c, ec, hc⟩ : ∃ c : Nat, v1 % (n : Int) = (c : Int) ∧ c < n := by
        have h1 := mod_b v1 (m := (n : Int)) (by omega)
        exact ⟨(v1 % (n : Int)).toNat, by omega, by omega⟩
      show gName 7 (V.int (v1 % (n : Int))) _ _ _
      rw [ec]
      have hf1 := kk1 f0 _ hf nfd
      -- near
      refine ⟨_, rfl, _, rfl, d, f0, n, fs, rfl, DG1, hf1, ofs, hn1, hn2, fun r1 a1 G2 o1 na1 ha1 nd1 DG2 kk2 => ?_⟩
      have hf2 := kk2 f0 _ hf1 nfd
      have c2 : KeepD d G G2 := kk1.trans kk2
      -- order
      refine ⟨_, rfl, _, rfl, d, n, rfl, DG2, hn2, fun r2 a2 G3 o2 na2 ha2 nd2 DG3 kk3 => ?_⟩
      have hf3 := kk3 f0 _ hf2 nfd
      have c3 : KeepD d G G3 := c2.trans kk3
      -- first[at:] + first[:at]
      refine ⟨_, rfl, _, rfl, _, rfl, f0, _, rfl, SqL.of hf3, fun p1 np1 => ?_⟩
      have s1 := same_new (o := .lst (cutV (fs.map V.int) (some (c : Int)) none)) np1
      refine ⟨_, rfl, _, rfl, _, rfl, f0, _, rfl, SqL.of (s1 _ _ hf3), fun p2 np2 => ?_⟩
      have s2 := s1.trans (same_new (o := .lst (cutV (fs.map V.int) none (some (c : Int)))) np2)
      have hp1 := same_new (o := .lst (cutV (fs.map V.int) none (some (c : Int)))) np2 p1 (.lst (cutV (fs.map V.int) (some (c : Int)) none)) upd_same
      have hp2 : (upd (upd G3 p1 (.lst (cutV (fs.map V.int) (some (c : Int)) none))) p2 (.lst (cutV (fs.map V.int) none (some (c : Int))))) p2 = _ := upd_same
      generalize upd (upd G3 p1 (.lst (cutV (fs.map V.int) (some (c : Int)) none))) p2 (.lst (cutV (fs.map V.int) none (some (c : Int)))) = G4 at s2 hp1 hp2 ⊢
      rw [cut_ints, cutI_tail] at hp1
      rw [cut_ints, cutI_head] at hp2
      have lf : fs.length = n := ofs.len
      refine ⟨_, _, _, _, rfl, rfl, hp1, hp2, line_small (by rw [List.length_map, List.length_drop, List.length_map, List.length_take]; omega), fun a3 na3 => ?_⟩
      have DG4 := DG3.same s2
      have c4 : KeepD d G G4 := c3.trans (KeepD.of_same s2)
      have nd3 := DG4.ne na3
      have s3 := same_new (o := .lst ((fs.drop c).map V.int ++ (fs.take c).map V.int)) na3
      -- first[::-1]
      refine ⟨_, rfl, f0, _, rfl, SqL.of (s3 _ _ (s2 _ _ hf3)), fun a4 na4 => ?_⟩
      have s4 := s3.trans (same_new (o := .lst (fs.map V.int).reverse) na4)
      have ha3 := same_new (o := .lst (fs.map V.int).reverse) na4 a3 (.lst ((fs.drop c).map V.int ++ (fs.take c).map V.int)) upd_same
      have ha4 : (upd (upd G4 a3 (.lst ((fs.drop c).map V.int ++ (fs.take c).map V.int))) a4 (.lst (fs.map V.int).reverse)) a4 = _ := upd_same
      have nd4 := (DG4.new na3).ne na4
      have na4' : G4 a4 = none := s3.free na4
      generalize upd (upd G4 a3 (.lst ((fs.drop c).map V.int ++ (fs.take c).map V.int))) a4 (.lst (fs.map V.int).reverse) = G5 at s4 ha3 ha4 ⊢
      have DG5 := DG4.same s4
      refine ⟨line_small (by show 4 ≤ 16777216; decide), fun sm nsm => ?_⟩
      have nsd := DG5.ne nsm
      have s5 := same_new (o := .lst [.ref a1, .ref a2, .ref a3, .ref a4]) nsm
      have hsm : (upd G5 sm (.lst [.ref a1, .ref a2, .ref a3, .ref a4])) sm = _ := upd_same
      have DG6 := DG5.same s5
      have c6 : KeepD d G (upd G5 sm (.lst [.ref a1, .ref a2, .ref a3, .ref a4])) := c4.trans (KeepD.of_same (s4.trans s5))
      have ga1 := (s4.trans s5) _ _ (s2 _ _ (kk3 _ _ ha1 nd1))
      have ga2 := (s4.trans s5) _ _ (s2 _ _ ha2)
      have ga3 := s5 _ _ ha3
      have ga4 := s5 _ _ ha4
      generalize upd G5 sm (.lst [.ref a1, .ref a2, .ref a3, .ref a4]) = G6 at s5 hsm DG6 c6 ga1 ga2 ga3 ga4 ⊢
      -- some.append(list(found[next % len(found)]))
      refine ⟨_, rfl, .inl ⟨rfl, _, SqL.of hsm⟩, _, rfl, _, rfl, d, rfl, DG6, fun v2 G7 _ _ DG7 kk7 => ?_⟩
      have c7 : KeepD d G G7 := c6.trans kk7
      have hl7 := c7 l _ hl nld
      refine ⟨_, rfl, l, _, rfl, .inl (SqL.of hl7), v2, _, rfl, rfl, (by show (0 : Int) < (((as.map V.ref).length : Nat) : Int); rw [List.length_map]; omega), ?_⟩
      obtain ⟨j, ej, hj⟩ : ∃ j : Nat, v2 % (((as.map V.ref).length : Nat) : Int) = (j : Int) ∧ j < as.length := by
        rw [List.length_map]
        have h1 := mod_b v2 (m := ((as.length : Nat) : Int)) (by omega)
        exact ⟨(v2 % ((as.length : Nat) : Int)).toNat, by omega, by omega⟩
      have LL7 : LL G7 as rs := hLL.keep fun a ha o e => c7 a o e (fun q => nda (by rw [← q]; exact ha))
      obtain ⟨b, eb⟩ : ∃ b, as[j]? = some b := ⟨as[j], List.getElem?_eq_getElem hj⟩
      obtain ⟨rb, erb, hb7⟩ := LL7.get eb
      have orb := ho rb (List.mem_of_getElem? erb)
      refine ⟨l, _, _, _, rfl, rfl, SqL.of hl7, at_of ej (ref_at eb), b, _, rfl, .inl (SqL.of hb7), fun a5 na5 => ?_⟩
      have nd5 := DG7.ne na5
      have s8 := same_new (o := .lst (rb.map V.int)) na5
      have hsm8 := s8 _ _ (kk7 _ _ hsm nsd)
      have ga5 : (upd G7 a5 (.lst (rb.map V.int))) a5 = _ := upd_same
      have gb1 := s8 _ _ (kk7 _ _ ga1 nd1)
      have gb2 := s8 _ _ (kk7 _ _ ga2 nd2)
      have gb3 := s8 _ _ (kk7 _ _ ga3 nd3)
      have gb4 := s8 _ _ (kk7 _ _ ga4 nd4)
      have DG8 := DG7.same s8
      have c8 : KeepD d G (upd G7 a5 (.lst (rb.map V.int))) := c7.trans (KeepD.of_same s8)
      generalize upd G7 a5 (.lst (rb.map V.int)) = G8 at s8 hsm8 ga5 gb1 gb2 gb3 gb4 DG8 c8 ⊢
      refine ⟨sm, _, _, rfl, rfl, hsm8, line_lt (by show 4 < 16777216; decide), ?_⟩
      have nGs : G sm = none := (c4.trans (KeepD.of_same s4)).none nsm nsd
      have n1 : G a1 = none := kk1.none na1 nd1
      have n2 : G a2 = none := c2.none na2 nd2
      have n3 : G a3 = none := c4.none na3 nd3
      have n4 : G a4 = none := c4.none na4' nd4
      have n5 : G a5 = none := c7.none na5 nd5
      have ne_ : ∀ {x : Addr} {y : List Int}, G8 x = some (.lst (y.map V.int)) → x ≠ sm := fun {x y} e => ne_of e hsm8 (by
        intro z
        cases y with
        | nil => cases z
        | cons u v => cases z)
      -- found.append(some[[0, 1, 2, next % 5][kind]])
      have DG9 := DG8.upd (o := .lst [.ref a1, .ref a2, .ref a3, .ref a4, .ref a5]) nsd
      have c9 : KeepD d G (upd G8 sm (.lst [.ref a1, .ref a2, .ref a3, .ref a4, .ref a5])) := fun b o e nb => by rw [upd_ne (ne_of_none e nGs)]; exact c8 b o e nb
      have hsm9 : (upd G8 sm (.lst [.ref a1, .ref a2, .ref a3, .ref a4, .ref a5])) sm = _ := upd_same
      have e1 := (upd_ne (H := G8) (o := .lst [.ref a1, .ref a2, .ref a3, .ref a4, .ref a5]) (ne_ gb1)).trans gb1
      have e2 := (upd_ne (H := G8) (o := .lst [.ref a1, .ref a2, .ref a3, .ref a4, .ref a5]) (ne_ gb2)).trans gb2
      have e3 := (upd_ne (H := G8) (o := .lst [.ref a1, .ref a2, .ref a3, .ref a4, .ref a5]) (ne_ (by rw [← List.map_append] at gb3; exact gb3))).trans gb3
      have e4 := (upd_ne (H := G8) (o := .lst [.ref a1, .ref a2, .ref a3, .ref a4, .ref a5]) (ne_ (by rw [← List.map_reverse] at gb4; exact gb4))).trans gb4
      have e5 := (upd_ne (H := G8) (o := .lst [.ref a1, .ref a2, .ref a3, .ref a4, .ref a5]) (ne_ ga5)).trans ga5
      have eG : upd G8 sm (.lst ([.ref a1, .ref a2, .ref a3, .ref a4] ++ [.ref a5])) = upd G8 sm (.lst [.ref a1, .ref a2, .ref a3, .ref a4, .ref a5]) := rfl
      rw [eG]
      generalize upd G8 sm (.lst [.ref a1, .ref a2, .ref a3, .ref a4, .ref a5]) = G9 at DG9 c9 hsm9 e1 e2 e3 e4 e5 ⊢
      have hl9 := c9 l _ hl nld
      refine ⟨_, rfl, .inl ⟨rfl, _, SqL.of hl9⟩, _, rfl, _, rfl, d, rfl, DG9, fun v3 GA _ _ DGA kkA => ⟨v3, 5, rfl, rfl, (show (0 : Int) < 5 by decide), ?_⟩⟩
      refine ⟨line_small (by show 4 ≤ 16777216; decide), fun t2 nt2 => ?_⟩
      have sA := same_new (o := .lst [.int 0, .int 1, .int 2, .int (v3 % 5)]) nt2
      have cB : KeepD d G9 (upd GA t2 (.lst [.int 0, .int 1, .int 2, .int (v3 % 5)])) := kkA.trans (KeepD.of_same sA)
      have DGB := DGA.same sA
      have htB : (upd GA t2 (.lst [.int 0, .int 1, .int 2, .int (v3 % 5)])) t2 = _ := upd_same
      generalize upd GA t2 (.lst [.int 0, .int 1, .int 2, .int (v3 % 5)]) = GB at cB DGB htB ⊢
      have h5 := mod_b v3 (m := 5) (by decide)
      obtain ⟨z, ez, hz⟩ : ∃ z : Nat, atI [V.int 0, V.int 1, V.int 2, V.int (v3 % 5)] (w1 % 4) = some (.int z) ∧ z < 5 := by
        have : w1 % 4 = 0 ∨ w1 % 4 = 1 ∨ w1 % 4 = 2 ∨ w1 % 4 = 3 := by omega
        rcases this with h | h | h | h <;> rw [h]
        · exact ⟨0, rfl, by decide⟩
        · exact ⟨1, rfl, by decide⟩
        · exact ⟨2, rfl, by decide⟩
        · refine ⟨(v3 % 5).toNat, ?_, by omega⟩
          rw [Int.toNat_of_nonneg h5.1]
          rfl
      refine ⟨_, rfl, t2, _, _, _, rfl, rfl, SqL.of htB, ez, ?_⟩
      obtain ⟨a, r, ea, na, nda', hea, hor⟩ : ∃ (a : Addr) (r : List Int), [V.ref a1, V.ref a2, V.ref a3, V.ref a4, V.ref a5][z]? = some (.ref a) ∧ G a = none ∧ a ≠ d ∧ G9 a = some (.lst (r.map V.int)) ∧ IsOrd n r := by
        have : z = 0 ∨ z = 1 ∨ z = 2 ∨ z = 3 ∨ z = 4 := by omega
        rcases this with rfl | rfl | rfl | rfl | rfl
        · exact ⟨a1, r1, rfl, n1, nd1, e1, o1⟩
        · exact ⟨a2, r2, rfl, n2, nd2, e2, o2⟩
        · refine ⟨a3, fs.drop c ++ fs.take c, rfl, n3, nd3, by rw [List.map_append]; exact e3, ?_⟩
          have : (fs.drop c ++ fs.take c).Perm (fs.take c ++ fs.drop c) := List.perm_append_comm
          rw [List.take_append_drop] at this
          exact this.trans ofs
        · exact ⟨a4, fs.reverse, rfl, n4, nd4, by rw [List.map_reverse]; exact e4, (List.reverse_perm fs).trans ofs⟩
        · exact ⟨a5, rb, rfl, n5, nd5, e5, orb⟩
      have hlB := cB l _ hl9 nld
      have hsB := cB sm _ hsm9 nsd
      refine ⟨sm, _, _, _, rfl, rfl, SqL.of hsB, at_of (j := z) rfl ea, ?_⟩
      refine ⟨l, _, _, rfl, rfl, hlB, line_lt (by rw [List.length_map]; omega), ?_⟩
      have cF : KeepD d G GB := c9.trans cB
      have nla2 : a ≠ l := fun e => by rw [e, hl] at na; cases na
      have LLB : LL GB as rs := hLL.keep fun a ha o e => cF a o e (fun q => nda (by rw [← q]; exact ha))
      refine ⟨_, _, _, as ++ [a], rs ++ [r], rfl, by rw [upd_same, List.map_append]; rfl, ?_, fun u hu => ?_, by rw [List.length_append, hlen]; rfl, ?_, fun u hu => ?_, fun hd => ?_, fun hd => ?_, DGB.upd nld, fun u o e nu => ?_⟩
      · refine LL.snoc (LLB.keep fun u hu o e => ?_) ?_
        · rw [upd_ne (fun q => nla (by rw [← q]; exact hu))]
          exact e
        · rw [upd_ne nla2]
          exact cB a _ hea nda'
      · rcases List.mem_append.mp hu with h | h
        · exact ho u h
        · rw [List.mem_singleton.mp h]
          exact hor
      · rw [upd_ne nlf.symm]
        exact cF f0 _ hf nfd
      · rcases List.mem_append.mp hu with h | h
        · exact hna u h
        · rw [List.mem_singleton.mp h]
          exact kG.none na nda'
      · rcases List.mem_append.mp hd with h | h
        · exact nda h
        · exact nda' (List.mem_singleton.mp h).symm
      · rcases List.mem_append.mp hd with h | h
        · exact nla h
        · exact nla2 (List.mem_singleton.mp h).symm
      · rw [upd_ne (fun q => by rw [q, nHl] at e; cases e)]
        exact cF u o (kG u o e nu) nu
    · obtain ⟨y6, y7, y8, as, rs, rfl, hl, hLL, ho, hlen, hf, hna, nda, nla, DG, kG⟩ := hP
      exact ⟨_, rfl, q l as rs G ⟨hl, hLL, ho, hn1, hn2⟩ (by omega) (by omega) nHl hna nld nda DG kG⟩
end
end Fo
namespace Fo
open PySem PySem.Spec PyProof.Rows L2
/-! {(i, j): v for .. for ..}: two clauses, each key a tuple on the heap -/
section
variable {kx vx ta ia tb ib : Expr} {fa fb : List Expr} {sc : Scope} {at0 : Pos}
abbrev dc2E (kx vx ta ia : Expr) (fa : List Expr) (tb ib : Expr) (fb : List Expr) (sc : Scope) (at0 : Pos) : Expr :=
  .DictComp kx vx [⟨ta, ia, fa, 0⟩, ⟨tb, ib, fb, 0⟩] sc at0
theorem dc2_turn0 (it acc : Value) (env : Env) :
    compTurn (dc2E kx vx ta ia fa tb ib fb sc at0) 0 it acc env = (do
      standAt ia.pos
      match ← pyNext it with
      | none =>
        pure (.done .next)
      | some u =>
        letOwnedTupleGo ta it u
        assign ta env u
        let mut good := true
        for c in fa do
          if good then good ← isTrue c env (eval c env)
        if good then
          let y ← eval ib env
          standAt ib.pos
          let y ← foldedSetIterable ib env y
          let _ ← runOwn (.compStart (dc2E kx vx ta ia fa tb ib fb sc at0) 1 (← holding [y] (pyIter y)) acc env) env
        again (.compLoop (dc2E kx vx ta ia fa tb ib fb sc at0) 0 it acc env)) := by rfl
theorem dc2_turn1 (it : Value) (D : Addr) (env : Env) :
    compTurn (dc2E kx vx ta ia fa tb ib fb sc at0) 1 it (.ref D) env = (do
      standAt ib.pos
      match ← pyNext it with
      | none =>
        pure (.done .next)
      | some u =>
        letOwnedTupleGo tb it u
        assign tb env u
        let mut good := true
        for c in fb do
          if good then good ← isTrue c env (eval c env)
        if good then
          (do
            let k0 ← eval kx env
            let v0 ← holding [k0] (eval vx env)
            standAt { kx.pos with endLine := vx.pos.endLine, endCol := vx.pos.endCol }
            holding [k0, v0] (dictSet D k0 v0))
        again (.compLoop (dc2E kx vx ta ia fa tb ib fb sc at0) 1 it (.ref D) env)) := by rfl
variable {prog : Program} {w : World} {A : Around} {R : Result → Shared → Prop} {s : Shared} {it acc : Value} {env : Env}
theorem dc2_out (hs : ∀ x, foldedSetIterable ib env x = pure x) (J : Nat → Shared → Prop)
    (go : ∀ n s, J n s → wpAny (model prog w) A (pyNext it) (fun r s₁ => match r with
      | none => R (.ok .next) s₁
      | some u => wpAny (model prog w) A (letOwnedTupleGo ta it u) (fun _ s₂ =>
          wpAny (model prog w) A (assign ta env u) (fun _ s₃ =>
            wpAny (model prog w) A (forIn fa true fun c r => if r = true then do let ok ← isTrue c env (eval c env); pure (ForInStep.yield ok) else pure (ForInStep.yield r)) (fun ok s₄ =>
              if ok = true then
                wpAny (model prog w) A (eval ib env) (fun x s₅ => wpAny (model prog w) A (pyIter x) (fun i1 s₆ =>
                  codeAny (model prog w) A (.compStart (dc2E kx vx ta ia fa tb ib fb sc at0) 1 i1 acc env) (fun r s' => match r with
                    | .ok _ => ∃ m, m < n ∧ J m s'
                    | .error _ => False) s₆)
                  (notedBy (model prog w) A env fun e s' => R (.error e) s') s₅)
                  (notedBy (model prog w) A env fun e s' => R (.error e) s') s₄
              else ∃ m, m < n ∧ J m s₄)
              (notedBy (model prog w) A env fun e s' => R (.error e) s') s₃)
            (notedBy (model prog w) A env fun e s' => R (.error e) s') s₂)
          (notedBy (model prog w) A env fun e s' => R (.error e) s') s₁)
      (notedBy (model prog w) A env fun e s' => R (.error e) s') s)
    (n : Nat) (h : J n s) : codeAny (model prog w) A (.compLoop (dc2E kx vx ta ia fa tb ib fb sc at0) 0 it acc env) R s := by
  refine codeAny_loop rfl J (fun n s hJ => ?_) n h
  show wpAny _ A ((compTurn (dc2E kx vx ta ia fa tb ib fb sc at0) 0 it acc env).onRaise (fun x => do noteFrame x env; theTreesLotGoes x)) _ _ s
  refine wpAny_noted ?_
  rw [dc2_turn0]
  have lift : ∀ {α : Type} {m : Sem α} {P Q : α → Shared → Prop} {E : Value → Shared → Prop} {s : Shared}, wpAny (model prog w) A m P E s → (∀ a s, P a s → Q a s) → wpAny (model prog w) A m Q E s :=
    fun h k => wpAny_mono h k fun _ _ z => z
  refine wpAny_bind (wpAny_standAt (wpAny_bind (lift (go n s hJ) fun r s₁ h₁ => ?_)))
  match r, h₁ with
  | none, h₁ => exact wpAny_pure h₁
  | some u, h₁ =>
    refine wpAny_bind (lift h₁ fun _ s₂ h₂ => wpAny_bind (lift h₂ fun _ s₃ h₃ => wpAny_bind (lift h₃ fun ok s₄ h₄ => ?_)))
    match ok, h₄ with
    | false, h₄ => exact wpAny_pure ⟨rfl, h₄⟩
    | true, h₄ =>
      refine wpAny_bind (lift h₄ fun x s₅ h₅ => wpAny_bind (wpAny_standAt (wpAny_bind (wpAny_of_eq (hs x) (wpAny_bind (wpAny_holding (lift h₅ fun i1 s₆ h₆ => ?_)))))))
      refine wpAny_bind (wpAny_runOwn ?_)
      rw [Around.mark_none]
      refine codeAny_mono h₆ fun r s' hr => ?_
      match r, hr with
      | .ok f, hr =>
        first
          | exact wpAny_pure ⟨rfl, hr⟩
          | exact wpAny_bind (wpAny_pure (wpAny_pure ⟨rfl, hr⟩))
      | .error e, hr => exact False.elim hr
theorem dc2_in {D : Addr} (J : Nat → Shared → Prop)
    (go : ∀ n s, J n s → wpAny (model prog w) A (pyNext it) (fun r s₁ => match r with
      | none => R (.ok .next) s₁
      | some u => wpAny (model prog w) A (letOwnedTupleGo tb it u) (fun _ s₂ =>
          wpAny (model prog w) A (assign tb env u) (fun _ s₃ =>
            wpAny (model prog w) A (forIn fb true fun c r => if r = true then do let ok ← isTrue c env (eval c env); pure (ForInStep.yield ok) else pure (ForInStep.yield r)) (fun ok s₄ =>
              if ok = true then
                wpAny (model prog w) A (eval kx env) (fun k0 s₅ => wpAny (model prog w) A (eval vx env) (fun v0 s₆ =>
                  wpAny (model prog w) A (dictSet D k0 v0) (fun _ s₇ => ∃ m, m < n ∧ J m s₇)
                    (notedBy (model prog w) A env fun e s' => R (.error e) s') s₆)
                  (notedBy (model prog w) A env fun e s' => R (.error e) s') s₅)
                  (notedBy (model prog w) A env fun e s' => R (.error e) s') s₄
              else ∃ m, m < n ∧ J m s₄)
              (notedBy (model prog w) A env fun e s' => R (.error e) s') s₃)
            (notedBy (model prog w) A env fun e s' => R (.error e) s') s₂)
          (notedBy (model prog w) A env fun e s' => R (.error e) s') s₁)
      (notedBy (model prog w) A env fun e s' => R (.error e) s') s)
    (n : Nat) (h : J n s) : codeAny (model prog w) A (.compLoop (dc2E kx vx ta ia fa tb ib fb sc at0) 1 it (.ref D) env) R s := by
  refine codeAny_loop rfl J (fun n s hJ => ?_) n h
  show wpAny _ A ((compTurn (dc2E kx vx ta ia fa tb ib fb sc at0) 1 it (.ref D) env).onRaise (fun x => do noteFrame x env; theTreesLotGoes x)) _ _ s
  refine wpAny_noted ?_
  rw [dc2_turn1]
  have lift : ∀ {α : Type} {m : Sem α} {P Q : α → Shared → Prop} {E : Value → Shared → Prop} {s : Shared}, wpAny (model prog w) A m P E s → (∀ a s, P a s → Q a s) → wpAny (model prog w) A m Q E s :=
    fun h k => wpAny_mono h k fun _ _ z => z
  refine wpAny_bind (wpAny_standAt (wpAny_bind (lift (go n s hJ) fun r s₁ h₁ => ?_)))
  match r, h₁ with
  | none, h₁ => exact wpAny_pure h₁
  | some u, h₁ =>
    refine wpAny_bind (lift h₁ fun _ s₂ h₂ => wpAny_bind (lift h₂ fun _ s₃ h₃ => wpAny_bind (lift h₃ fun ok s₄ h₄ => ?_)))
    match ok, h₄ with
    | false, h₄ => exact wpAny_pure ⟨rfl, h₄⟩
    | true, h₄ =>
      exact wpAny_bind (wpAny_bind (lift h₄ fun k0 s₅ h₅ => wpAny_bind (wpAny_holding (lift h₅ fun v0 s₆ h₆ =>
        wpAny_bind (wpAny_standAt (wpAny_holding (lift h₆ fun _ s₇ h₇ => wpAny_pure ⟨rfl, h₇⟩)))))))
theorem dc2_start (h0 : codeAny (model prog w) A (.compLoop (dc2E kx vx ta ia fa tb ib fb sc at0) 1 it acc env) R s)
    (h : wpAny (model prog w) A (pyIter it) (fun i' s' => codeAny (model prog w) A (.compLoop (dc2E kx vx ta ia fa tb ib fb sc at0) 1 i' acc env) R s')
      (notedBy (model prog w) A env fun x s' => R (.error x) s') s) :
    codeAny (model prog w) A (.compStart (dc2E kx vx ta ia fa tb ib fb sc at0) 1 it acc env) R s := by
  refine codeAny_of_tree ?_
  show wpAny _ _ ((compStart (dc2E kx vx ta ia fa tb ib fb sc at0) 1 it acc env).onRaise (fun x => do noteFrame x env; standAt theWindowsPlace)) _ _ s
  refine wpAny_notedAt ?_
  unfold compStart
  show wpAny _ _ (ask >>= _) _ _ s
  refine wpAny_bind (wpAny_askSetting (wpAny_ite ?_))
  have later : ∀ {v : Value} {s' : Shared}, codeAny (model prog w) A (.compLoop (dc2E kx vx ta ia fa tb ib fb sc at0) 1 v acc env) R s' → wpAny (model prog w) A (again (.compLoop (dc2E kx vx ta ia fa tb ib fb sc at0) 1 v acc env)) (fun fin s' => match fin with | .done f => R (.ok f) s' | .again c' => c'.quiet = true ∧ codeAny (model prog w) A c' R s') (notedBy (model prog w) A env fun x s' => R (.error x) s') s' :=
    fun k => wpAny_pure ⟨rfl, k⟩
  split
  · first
      | exact wpAny_bind (wpAny_pure (later h0))
      | exact later h0
  · first
      | exact wpAny_bind (wpAny_rule (wpAny_bind (wpAny_standAt (wpAny_bind (wpAny_mono h (fun _ _ k => later k) fun _ _ z => z)))))
      | (refine wpAny_bind (wpAny_rule ?_)
         show wpAny _ _ (standAt ib.pos >>= _) _ _ s
         exact wpAny_bind (wpAny_standAt (wpAny_bind (wpAny_mono h (fun _ _ k => later k) fun _ _ z => z))))
end
/-- d[k] = v by a comprehension, k a tuple -/
theorem dt_store {X : Cx} {pins : List (Addr × Obj)} {σ : L2.St} {H : Hp} {s : Shared} {E : Value → Shared → Prop} {D b : Addr} {kvs : List (List Key × V)} {k : List Key} {v : V} {u r : Value} {Q : Unit → Shared → Prop}
    (hu : X.A.units < cLine) (I : Inv X pins σ H s) (hD : H D = some (.dT kvs)) (hb : H b = some (.tup (k.map kV))) (hz : kvs.length < sizeLine)
    (ry : RelV (.ref b) u) (rv : RelV v r) (h : ∀ s', Inv X pins σ (upd H D (.dT (putK kvs k v))) s' → Q () s') : wpAny (model X.prog X.w) X.A (dictSet D u r) Q E s := by
  cases (show u = Value.ref b from ry)
  obtain ⟨z, hd, xs, rel, dd⟩ := dt_of I.hok hD
  have hl : (putK kvs k v).length ≤ sizeLine := by
    have := length_putK kvs k v
    omega
  refine wpAny_dictSet_heap (hsz := by rw [← Paired.length rel]; exact z) hu (key_of I.hok hb) dd fun h' dd' hs => h _ ?_
  obtain ⟨q, es, ep, hq, h2, h3, h4, _, h5⟩ := dd'
  refine d_write I (by rw [hD]; exact True.intro) hs ⟨q, hq⟩ ⟨hl, hd, _, (rel.put k hb rv).keeps fun c ys ec => ?_, q, es, ep, hq, h2, h3, h4, h5⟩
  rw [upd_ne (ne_of ec hD (fun z => nomatch z))]
  exact ec
/-- {k: v for .. if .. for .. if ..}, D the new dict; each key a tuple of ints and texts -/
def tDc2 (wi : TI) (g : TG) (tt : TT) (wj : TI) (gj : TG) (tj : TT) (tk tv : TE) (vs vj : List Nat) : TE := fun σ H Q => wi σ H fun J H1 => ∀ D, H1 D = none →
  ∃ W : Nat → Nat → Hp → Prop, (∃ m, W 0 m (upd H1 D (.dT []))) ∧ ∀ i m G, W i m G →
    (J.stop i G ∧ Q (.ref D) G) ∨
    (J.go i G ∧ ∃ Nx : Hp → Prop, (∀ G', Nx G' → ∃ m', m' < m ∧ W (i + 1) m' G') ∧ ∀ x G', J.yld i G x G' →
      g x (wipe σ vs) G' fun σ2 H2 => wipe σ2 vs = wipe σ vs ∧ tt σ2 H2 fun b H3 =>
        if b = true then wj σ2 H3 fun Jj H4 =>
          ∃ Wj : Nat → Nat → Hp → Prop, (∃ m, Wj 0 m H4) ∧ ∀ j k G, Wj j k G →
            (Jj.stop j G ∧ Nx G) ∨
            (Jj.go j G ∧ ∃ Ny : Hp → Prop, (∀ G', Ny G' → ∃ k', k' < k ∧ Wj (j + 1) k' G') ∧ ∀ x G', Jj.yld j G x G' →
              gj x (wipe σ2 vj) G' fun σ3 H5 => wipe σ3 vj = wipe σ2 vj ∧ tj σ3 H5 fun b H6 =>
                if b = true then tk σ3 H6 fun y H7 => tv σ3 H7 fun z H8 =>
                  ∃ kvs k p, y = .ref p ∧ H8 p = some (.tup (k.map kV)) ∧ H8 D = some (.dT kvs) ∧ kvs.length < sizeLine ∧ Ny (upd H8 D (.dT (putK kvs k z)))
                else Ny H6)
        else Nx H3)
theorem pe_dc2 {X : Cx} {kx vx ta ia tb ib : Expr} {fa fb : List Expr} {sc : Scope} {own : List (Str × Nat)} {vj : List Nat} {at0 : Pos} {wi wj : TI} {g gj : TG} {tt tj : TT} {tk tv : TE}
    (hu : X.A.units < cLine) (calm : X.calm = true) (nd : X.N.Nodup) (pi : PI X ta ia wi) (blk : BlkOk X.N X.env.scope sc own) (hv : ∀ i ∈ vj, i ∈ own.map (·.2))
    (pg : ∀ (s : Shared) (H : Hp) (C : Addr) (cl : List (Str × Addr)) (fp : List Addr),
      PG (X.blk s H sc (compEnvC sc cl C X.env) fp) ta g)
    (pt : ∀ (s : Shared) (H : Hp) (C : Addr) (cl : List (Str × Addr)) (fp : List Addr),
      PTs (X.blk s H sc (compEnvC sc cl C X.env) fp) fa tt)
    (pj : ∀ (s : Shared) (H : Hp) (C : Addr) (cl : List (Str × Addr)) (fp : List Addr),
      PI (X.blk s H sc (compEnvC sc cl C X.env) fp) tb ib wj)
    (pgj : ∀ (s : Shared) (H : Hp) (C : Addr) (cl : List (Str × Addr)) (fp : List Addr),
      PG (X.blk s H sc (compEnvC sc cl C X.env) fp) tb gj)
    (ptj : ∀ (s : Shared) (H : Hp) (C : Addr) (cl : List (Str × Addr)) (fp : List Addr),
      PTs (X.blk s H sc (compEnvC sc cl C X.env) fp) fb tj)
    (pk : ∀ (s : Shared) (H : Hp) (C : Addr) (cl : List (Str × Addr)) (fp : List Addr),
      PE (X.blk s H sc (compEnvC sc cl C X.env) fp) kx tk)
    (pv' : ∀ (s : Shared) (H : Hp) (C : Addr) (cl : List (Str × Addr)) (fp : List Addr),
      PE (X.blk s H sc (compEnvC sc cl C X.env) fp) vx tv)
    (fold : ∀ x, foldedSetIterable ia X.env x = pure x := by intro _; rfl) (foldj : ∀ env x, foldedSetIterable ib env x = pure x := by intro _ _; rfl) :
    PE X (dc2E kx vx ta ia fa tb ib fb sc at0) (tDc2 wi g tt wj gj tj tk tv (own.map (·.2)) vj) := by
  refine ⟨fun pins s σ H Q I h => ?_⟩
  rw [arm_eval_DictComp]
  have free : ∀ y ∈ sc.names, y.2 = .free → ∃ c, X.env.cells.lookup y.1 = some c := fun y hy e =>
    I.ok.has _ (blk.free y hy e)
  refine wpAny_comprehension_free (use := none) rfl fold (closure_ok free) blk.kind (fun y hy e => by rw [blk.uniq y hy, e])
    (thn (pi.run pins s σ H _ I h) fun xv s1 hx => thn hx fun itv s2 h2 => ?_)
  obtain ⟨it, fp, tn, J, H2, e, I2, T, st2, f2, q⟩ := h2
  subst e
  refine wpAny_newObj_type (newEnv_comp ?_)
  generalize hD : s2.heap.objs.size = D
  obtain ⟨W, ⟨m0, w0⟩, turn⟩ := q D (I2.hok.fresh (Nat.le_of_eq hD))
  let s3 : Shared := { s2 with heap := s2.heap.push { cls := .type "dict", data := .dict #[] } }
  let H3 : Hp := upd H2 D (.dT [])
  have h3 : s3.heap = s2.heap.push { cls := .type "dict", data := .dict #[] } := rfl
  have I3 : Inv X pins σ H3 s3 := by
    refine I2.laid (t' := s2.toks) (fun b o e => Heap.get?_push_of_some _ e) (Nat.le_of_eq hD) ?_
    rw [← hD]
    exact dt_empty s2.heap I2.big
  have low : ∀ b ∈ fp, b < s2.heap.objs.size := fun b hb => by
    obtain ⟨o, e, _⟩ := T.obj _ _ st2 b hb
    exact Heap.lt_size e
  have f3 : ∀ b ∈ fp, FpOk X pins H3 b ∧ b < s3.heap.objs.size := fun b hb => by
    have lt := low b hb
    refine ⟨⟨?_, (f2 b hb).2⟩, by rw [h3, Heap.size_push]; exact Nat.lt_succ_of_lt lt⟩
    show upd H2 D (.dT []) b = none
    rw [upd_ne (by rw [← hD]; exact Nat.ne_of_lt lt)]
    exact (f2 b hb).1
  have st3 : tn 0 s3.heap := T.keep _ _ _ st2 fun b _ o e => by rw [h3]; exact Heap.get?_push_of_some _ e
  have I4 := block_start I3 blk nd f3
  have pg := pg s3 H3 s3.heap.objs.size (cellsFrom (s3.heap.objs.size + 1) sc.names (cloFrom X.env.cells sc.names [])) fp
  have pt := pt s3 H3 s3.heap.objs.size (cellsFrom (s3.heap.objs.size + 1) sc.names (cloFrom X.env.cells sc.names [])) fp
  have pj := pj s3 H3 s3.heap.objs.size (cellsFrom (s3.heap.objs.size + 1) sc.names (cloFrom X.env.cells sc.names [])) fp
  have pgj := pgj s3 H3 s3.heap.objs.size (cellsFrom (s3.heap.objs.size + 1) sc.names (cloFrom X.env.cells sc.names [])) fp
  have ptj := ptj s3 H3 s3.heap.objs.size (cellsFrom (s3.heap.objs.size + 1) sc.names (cloFrom X.env.cells sc.names [])) fp
  have pk := pk s3 H3 s3.heap.objs.size (cellsFrom (s3.heap.objs.size + 1) sc.names (cloFrom X.env.cells sc.names [])) fp
  have pe := pv' s3 H3 s3.heap.objs.size (cellsFrom (s3.heap.objs.size + 1) sc.names (cloFrom X.env.cells sc.names [])) fp
  have nfp : ∀ b ∈ fp, H3 b = none := fun b hb => (f3 b hb).1.1
  show codeAny _ _ (.compStart (dc2E kx vx ta ia fa tb ib fb sc at0) 0 (.ref it) (.ref D) (compEnvC sc (cellsFrom (s3.heap.objs.size + 1) sc.names (cloFrom X.env.cells sc.names [])) s3.heap.objs.size X.env)) (compPost (model X.prog X.w) X.A X.xe none _ (.ref D) s3.heap.objs.size) { s3 with heap := pushCells (s3.heap.push { cls := .type "dict", data := .dict #[] }) sc.names }
  generalize hce : compEnvC sc (cellsFrom (s3.heap.objs.size + 1) sc.names (cloFrom X.env.cells sc.names [])) s3.heap.objs.size X.env = ce at I4 pg pt pj pgj ptj pk pe ⊢
  have cL : ce.locals = s3.heap.objs.size := by rw [← hce]; rfl
  have hw0 : W 0 m0 H3 := w0
  clear_value H3
  generalize hs4 : ({ s3 with heap := pushCells (s3.heap.push { cls := .type "dict", data := .dict #[] }) sc.names } : Shared) = s4 at I4 ⊢
  have st4 : tn 0 s4.heap := T.keep _ _ _ st3 fun b _ o e => by rw [← hs4]; exact pushCells_keeps _ _ _ _ (Heap.get?_push_of_some _ e)
  clear_value s3
  have B0 : ∀ {H' : Hp}, (∀ b ∈ fp, H' b = none) → ∀ {σ' : L2.St} {s' : Shared}, Inv (X.blk s3 H3 sc ce fp) [] σ' H' s' → ∀ b ∈ fp, FpOk (X.blk s3 H3 sc ce fp) [] H' b := fun hn _ _ I' b hb =>
    ⟨hn b hb, (I'.ok.exf b hb).1, I'.ok.exfs b hb, .inl hb, fun x c e => (I'.ok.exf b hb).2 x c e, fun p hp => absurd (show p ∈ ([] : List (Addr × Obj)) ++ [] from hp) (by simp)⟩
  have loop : codeAny (model X.prog X.w) X.A (.compLoop (dc2E kx vx ta ia fa tb ib fb sc at0) 0 (.ref it) (.ref D) ce) (compPost (model X.prog X.w) X.A X.xe none (EP X pins σ Q) (.ref D) s3.heap.objs.size) s4 := by
    refine dc2_out (foldj ce) (fun n s' => ∃ i H', Inv (X.blk s3 H3 sc ce fp) [] (wipe σ (own.map (·.2))) H' s' ∧ tn i s'.heap ∧ (∀ b ∈ fp, H' b = none) ∧ W i n H') ?_ m0 ⟨0, H3, I4, st4, nfp, hw0⟩
    rintro n s5 ⟨i, H5, I5, st5, n5, w5⟩
    rcases turn i n H5 w5 with ⟨stop, qq⟩ | ⟨go, Nx, hNx, step⟩
    · refine thnF (T.done (X.blk s3 H3 sc ce fp) rfl rfl rfl calm i [] s5 _ H5 (fun _ _ => False) I5 (B0 n5 I5) st5 stop) fun r s6 ⟨hr, I6⟩ => ?_
      subst hr
      have I7 : Inv X pins σ H5 s6 := I3.call' (ch := fp) I6.os I6.base I6.hok I6.bare fun b hb =>
        let z := (f3 b hb).1.2
        ⟨z.2.2.1, z.1, z.2.2.2.1, z.2.2.2.2⟩
      have nC : H5 s3.heap.objs.size = none := by rw [← cL]; exact I6.free
      obtain ⟨m, hn, _⟩ := I6.loc
      have hn : s6.heap.Ns s3.heap.objs.size m := by rw [← cL]; exact hn
      obtain ⟨f0, f1, _, f3', f4, f5⟩ := I3.fpOk (Nat.le_refl _) nC
      exact ⟨m, hn, fun h'' sb => ⟨.ref D, H5, I7.turned (t' := s6.toks) (fun b o hb e => (sb.2 b hb).trans e) f0 f1 f3' f4 f5, rfl, qq⟩⟩
    · refine thnF (T.item (X.blk s3 H3 sc ce fp) rfl rfl rfl calm i [] s5 _ H5 (fun _ _ => False) I5 (B0 n5 I5) st5 go) fun r s6 ⟨u, hr, h6⟩ => ?_
      subst hr
      refine thnF h6 fun _ s7 ⟨x, H7, I7, r7, y7, st7, n7⟩ => ?_
      have I7' := I7.pinned (B0 n7 I7) (T.obj _ _ st7)
      refine thnF (pg.run _ s7 _ H7 x u _ I7' r7 (step x H7 y7)) fun _ s8 ⟨σ8, H8, I8, hw8, q8⟩ => ?_
      refine thnF (pt.run _ s8 σ8 H8 _ I8 q8) fun b s9 ⟨H9, I9, q9⟩ => ?_
      have len8 : (wipe σ (own.map (·.2))).length = σ8.length := by rw [← hw8, wipe_length]
      have back : ∀ {σ9 : L2.St} {s' : Shared} {H' : Hp}, Inv (X.blk s3 H3 sc ce fp) ([] ++ pinsAt fp s7.heap) σ9 H' s' → (wipe σ (own.map (·.2))).length = σ9.length → (∀ (j : Nat) v, (wipe σ (own.map (·.2)))[j]? = some (some v) → σ9[j]? = some (some v)) → Nx H' →
          ∃ m, m < n ∧ ∃ i H', Inv (X.blk s3 H3 sc ce fp) [] (wipe σ (own.map (·.2))) H' s' ∧ tn i s'.heap ∧ (∀ b ∈ fp, H' b = none) ∧ W i m H' := fun {σ9 s' H'} I' hl hk nx => by
        obtain ⟨m', hm, w'⟩ := hNx H' nx
        have stay : ∀ b ∈ fp, ∀ o, s7.heap.get? b = some o → s'.heap.get? b = some o ∧ H' b = none := fun b hb o e => by
          have z := I'.pin (b, o) (List.mem_append_right _ (List.mem_append_right _ (mem_pinsAt hb e)))
          exact ⟨z.1, z.2.1⟩
        refine ⟨m', hm, i + 1, H', (I'.unpinned (pins := [])).weak hl hk, T.keep _ _ _ st7 fun b hb o e => (stay b hb o e).1, fun b hb => ?_, w'⟩
        obtain ⟨o, e, _⟩ := T.obj _ _ st7 b hb
        exact (stay b hb o e).2
      have k8 : ∀ (j : Nat) v, (wipe σ (own.map (·.2)))[j]? = some (some v) → σ8[j]? = some (some v) := fun j v e => by
        rw [← hw8] at e
        exact (wipe_some e).1
      have k9 : ∀ (j : Nat) v, (wipe σ (own.map (·.2)))[j]? = some (some v) → (wipe σ8 vj)[j]? = some (some v) := fun j v e => by
        rw [← hw8] at e
        obtain ⟨e1, e2⟩ := wipe_some e
        rw [wipe_out fun z => e2 (hv j z)]
        exact e1
      match b, q9 with
      | false, q9 =>
        exact back I9 len8 k8 (by simpa using q9)
      | true, q9 =>
        rw [if_pos rfl] at q9 ⊢
        refine thnF (pj.run _ s9 σ8 H9 _ I9 q9) fun xv s10 hx => thnF hx fun itv s11 h11 => ?_
        obtain ⟨i1, fp1, tn1, J1, H11, e1, I11, T1, st11, f11, W1, ⟨m1, w1⟩, turn1⟩ := h11
        subst e1
        have B1 : ∀ {H' : Hp}, (∀ b ∈ fp1, H' b = none) → ∀ b ∈ fp1, FpOk (X.blk s3 H3 sc ce fp) ([] ++ pinsAt fp s7.heap) H' b := fun hn b hb => ⟨hn b hb, (f11 b hb).2⟩
        have loop1 : codeAny (model X.prog X.w) X.A (.compLoop (dc2E kx vx ta ia fa tb ib fb sc at0) 1 (.ref i1) (.ref D) ce)
            (fun r s' => match r with
              | .ok _ => ∃ m, m < n ∧ ∃ i H', Inv (X.blk s3 H3 sc ce fp) [] (wipe σ (own.map (·.2))) H' s' ∧ tn i s'.heap ∧ (∀ b ∈ fp, H' b = none) ∧ W i m H'
              | .error _ => False) s11 := by
          refine dc2_in (fun k s' => ∃ j H', Inv (X.blk s3 H3 sc ce fp) ([] ++ pinsAt fp s7.heap) (wipe σ8 vj) H' s' ∧ tn1 j s'.heap ∧ (∀ b ∈ fp1, H' b = none) ∧ W1 j k H') ?_ m1 ⟨0, H11, I11.weak (wipe_length _ _) (fun j v e => (wipe_some e).1), st11, fun b hb => (f11 b hb).1, w1⟩
          rintro k s12 ⟨j, H12, I12, st12, n12, w12⟩
          rcases turn1 j k H12 w12 with ⟨stop1, nx1⟩ | ⟨go1, Ny, hNy, step1⟩
          · refine thnF (T1.done (X.blk s3 H3 sc ce fp) rfl rfl rfl calm j _ s12 (wipe σ8 vj) H12 (fun _ _ => False) I12 (B1 n12) st12 stop1) fun r s13 ⟨hr, I13⟩ => ?_
            subst hr
            exact back I13 (len8.trans (wipe_length σ8 vj).symm) k9 nx1
          · refine thnF (T1.item (X.blk s3 H3 sc ce fp) rfl rfl rfl calm j _ s12 (wipe σ8 vj) H12 (fun _ _ => False) I12 (B1 n12) st12 go1) fun r s13 ⟨u1, hr, h13⟩ => ?_
            subst hr
            refine thnF h13 fun _ s14 ⟨x1, H14, I14, r14, y14, st14, n14⟩ => ?_
            have I14' := I14.pinned (B1 n14) (T1.obj _ _ st14)
            refine thnF (pgj.run _ s14 (wipe σ8 vj) H14 x1 u1 _ I14' r14 (step1 x1 H14 y14)) fun _ s15 ⟨σ15, H15, I15, hw15, q15⟩ => ?_
            refine thnF (ptj.run _ s15 σ15 H15 _ I15 q15) fun b1 s16 ⟨H16, I16, q16⟩ => ?_
            have back1 : ∀ {s' : Shared} {H' : Hp}, Inv (X.blk s3 H3 sc ce fp) (([] ++ pinsAt fp s7.heap) ++ pinsAt fp1 s14.heap) σ15 H' s' → Ny H' → ∃ m, m < k ∧ ∃ j H', Inv (X.blk s3 H3 sc ce fp) ([] ++ pinsAt fp s7.heap) (wipe σ8 vj) H' s' ∧ tn1 j s'.heap ∧ (∀ b ∈ fp1, H' b = none) ∧ W1 j m H' := fun {s' H'} I' nx => by
              obtain ⟨m', hm, w'⟩ := hNy H' nx
              have stay : ∀ b ∈ fp1, ∀ o, s14.heap.get? b = some o → s'.heap.get? b = some o ∧ H' b = none := fun b hb o e => by
                have z := I'.pin (b, o) (List.mem_append_right _ (List.mem_append_right _ (mem_pinsAt hb e)))
                exact ⟨z.1, z.2.1⟩
              refine ⟨m', hm, j + 1, H', I'.unpinned.weak (by rw [← hw15, wipe_length]) (fun j v e => by rw [← hw15] at e; exact (wipe_some e).1), T1.keep _ _ _ st14 fun b hb o e => (stay b hb o e).1, fun b hb => ?_, w'⟩
              obtain ⟨o, e, _⟩ := T1.obj _ _ st14 b hb
              exact (stay b hb o e).2
            match b1, q16 with
            | false, q16 => exact back1 I16 (by simpa using q16)
            | true, q16 =>
              rw [if_pos rfl] at q16 ⊢
              refine thnF (pk.run _ s16 σ15 H16 _ I16 q16) fun z s17 ⟨yk, H17, I17, r17, q17⟩ => ?_
              refine thnF (pe.run _ s17 σ15 H17 _ I17 q17) fun z2 s18 ⟨yv, H18, I18, r18, kvs, kk, p, ek, hp18, hD18, hz18, nx⟩ => ?_
              subst ek
              exact dt_store (X := X.blk s3 H3 sc ce fp) hu I18 hD18 hp18 hz18 r17 r18 fun s19 I19 => back1 I19 nx
        exact dc2_start loop1 (T1.self X.A 0 _ _ _ st11 loop1)
  exact codeAny_compStart_dict loop (T.self X.A 0 _ _ _ st4 loop)
/-- the first clause over a range -/
theorem dc2_outer {lo : Int} {n : Nat} {g gj : TG} {tt tj : TT} {wj : TI} {tk tv : TE} {vs vj : List Nat} {σ : L2.St} {H1 : Hp} {D : Addr} {Qd : Hp → Prop}
    (Pv : Nat → Hp → Prop) (h0 : Pv 0 (upd H1 D (.dT [])))
    (hs : ∀ i G, i < n → Pv i G → g (.int (lo + i)) (wipe σ vs) G fun σ2 H2 => wipe σ2 vs = wipe σ vs ∧ tt σ2 H2 fun b H3 =>
      if b = true then wj σ2 H3 fun Jj H4 =>
        ∃ Wj : Nat → Nat → Hp → Prop, (∃ m, Wj 0 m H4) ∧ ∀ j k G, Wj j k G →
          (Jj.stop j G ∧ Pv (i + 1) G) ∨
          (Jj.go j G ∧ ∃ Ny : Hp → Prop, (∀ G', Ny G' → ∃ k', k' < k ∧ Wj (j + 1) k' G') ∧ ∀ x G', Jj.yld j G x G' →
            gj x (wipe σ2 vj) G' fun σ3 H5 => wipe σ3 vj = wipe σ2 vj ∧ tj σ3 H5 fun b H6 =>
              if b = true then tk σ3 H6 fun y H7 => tv σ3 H7 fun z H8 =>
                ∃ kvs k p, y = .ref p ∧ H8 p = some (.tup (k.map kV)) ∧ H8 D = some (.dT kvs) ∧ kvs.length < sizeLine ∧ Ny (upd H8 D (.dT (putK kvs k z)))
              else Ny H6)
      else Pv (i + 1) H3) (hd : ∀ G, Pv n G → Qd G) :
    ∃ W : Nat → Nat → Hp → Prop, (∃ m, W 0 m (upd H1 D (.dT []))) ∧ ∀ i m G, W i m G →
      ((Itr lo n).stop i G ∧ Qd G) ∨
      ((Itr lo n).go i G ∧ ∃ Nx : Hp → Prop, (∀ G', Nx G' → ∃ m', m' < m ∧ W (i + 1) m' G') ∧ ∀ x G', (Itr lo n).yld i G x G' →
        g x (wipe σ vs) G' fun σ2 H2 => wipe σ2 vs = wipe σ vs ∧ tt σ2 H2 fun b H3 =>
          if b = true then wj σ2 H3 fun Jj H4 =>
            ∃ Wj : Nat → Nat → Hp → Prop, (∃ m, Wj 0 m H4) ∧ ∀ j k G, Wj j k G →
              (Jj.stop j G ∧ Nx G) ∨
              (Jj.go j G ∧ ∃ Ny : Hp → Prop, (∀ G', Ny G' → ∃ k', k' < k ∧ Wj (j + 1) k' G') ∧ ∀ x G', Jj.yld j G x G' →
                gj x (wipe σ2 vj) G' fun σ3 H5 => wipe σ3 vj = wipe σ2 vj ∧ tj σ3 H5 fun b H6 =>
                  if b = true then tk σ3 H6 fun y H7 => tv σ3 H7 fun z H8 =>
                    ∃ kvs k p, y = .ref p ∧ H8 p = some (.tup (k.map kV)) ∧ H8 D = some (.dT kvs) ∧ kvs.length < sizeLine ∧ Ny (upd H8 D (.dT (putK kvs k z)))
                  else Ny H6)
          else Nx H3) := by
  refine ⟨fun i m G => m = n - i ∧ (i ≤ n ∧ Pv i G), ⟨n, (Nat.sub_zero n).symm, Nat.zero_le n, h0⟩, ?_⟩
  rintro i m G ⟨rfl, hi, p⟩
  by_cases c : i < n
  · refine .inr ⟨c, Pv (i + 1), fun G' p' => ⟨n - (i + 1), by omega, rfl, c, p'⟩, fun x G' y => ?_⟩
    obtain ⟨rfl, rfl⟩ := y
    exact hs i _ c p
  · have e : i = n := by omega
    subst e
    exact .inl ⟨Nat.le_refl _, hd G p⟩
/-- the second one over a range -/
theorem dc2_inner {lo : Int} {n : Nat} {gj : TG} {tj : TT} {tk tv : TE} {vj : List Nat} {σ2 : L2.St} {H4 : Hp} {D : Addr} {Nx : Hp → Prop}
    (Pw : Nat → Hp → Prop) (h0 : Pw 0 H4)
    (hs : ∀ j G, j < n → Pw j G → gj (.int (lo + j)) (wipe σ2 vj) G fun σ3 H5 => wipe σ3 vj = wipe σ2 vj ∧ tj σ3 H5 fun b H6 =>
      if b = true then tk σ3 H6 fun y H7 => tv σ3 H7 fun z H8 =>
        ∃ kvs k p, y = .ref p ∧ H8 p = some (.tup (k.map kV)) ∧ H8 D = some (.dT kvs) ∧ kvs.length < sizeLine ∧ Pw (j + 1) (upd H8 D (.dT (putK kvs k z)))
      else Pw (j + 1) H6) (hd : ∀ G, Pw n G → Nx G) :
    ∃ Wj : Nat → Nat → Hp → Prop, (∃ m, Wj 0 m H4) ∧ ∀ j k G, Wj j k G →
      ((Itr lo n).stop j G ∧ Nx G) ∨
      ((Itr lo n).go j G ∧ ∃ Ny : Hp → Prop, (∀ G', Ny G' → ∃ k', k' < k ∧ Wj (j + 1) k' G') ∧ ∀ x G', (Itr lo n).yld j G x G' →
        gj x (wipe σ2 vj) G' fun σ3 H5 => wipe σ3 vj = wipe σ2 vj ∧ tj σ3 H5 fun b H6 =>
          if b = true then tk σ3 H6 fun y H7 => tv σ3 H7 fun z H8 =>
            ∃ kvs k p, y = .ref p ∧ H8 p = some (.tup (k.map kV)) ∧ H8 D = some (.dT kvs) ∧ kvs.length < sizeLine ∧ Ny (upd H8 D (.dT (putK kvs k z)))
          else Ny H6) := by
  refine ⟨fun j m G => m = n - j ∧ (j ≤ n ∧ Pw j G), ⟨n, (Nat.sub_zero n).symm, Nat.zero_le n, h0⟩, ?_⟩
  rintro j m G ⟨rfl, hi, p⟩
  by_cases c : j < n
  · refine .inr ⟨c, Pw (j + 1), fun G' p' => ⟨n - (j + 1), by omega, rfl, c, p'⟩, fun x G' y => ?_⟩
    obtain ⟨rfl, rfl⟩ := y
    exact hs j _ c p
  · have e : j = n := by omega
    subst e
    exact .inl ⟨Nat.le_refl _, hd G p⟩
end Fo
namespace Fo
open PySem PySem.Spec PyProof.Rows L2
/-! dicts keyed by tuples: ==, dict(pairs), values(), clear() -/
section
variable {prog : Program} {w : World} {K : Type} [DecidableEq K] {knd : HeapKind prog w K} {A : Around} {E : Value → Shared → Prop} {s : Shared}
theorem same_pairsH {nm : String} {a b : Addr} {xa xb : List (K × Addr × Value)} {Q : Bool → Shared → Prop} (hu : knd.room A) (ha : (a == sysModules) = false) (hb : (b == sysModules) = false)
    (da : s.heap.DictOfH knd a xa) (db : s.heap.DictOfH knd b xb) (hl : xa.length = xb.length)
    (hits : ∀ k p v, (k, p, v) ∈ xa → ∃ q y, atKey xb k = some (q, y) ∧ SeqAt.EqAt A s v y true) (h : Q true s) :
    wpAny (model prog w) A (Builtin.Dict.samePairs nm a b) Q E s := by
  obtain ⟨oa, es, ep, hoa, _, hda, hea, hisa, _⟩ := da
  obtain ⟨ob, es', ep', hob, _, hdb, heb, hisb, hnb⟩ := db
  have za := size_of_entries hea
  have zb := size_of_entries heb
  unfold Builtin.Dict.samePairs Builtin.Dict.showsAll
  have neg : ∀ {c : Addr}, (c == sysModules) = false → ¬ (c == sysModules) = true := fun e z => by rw [e] at z; cases z
  rw [if_neg (neg ha), if_neg (neg hb)]
  refine wpAny_bind (wpAny_pure (wpAny_bind (wpAny_pure (wpAny_bind (wpAny_dictEntries hoa hda ?_)))))
  dsimp only
  refine wpAny_bind (wpAny_dictEntries hob hdb ?_)
  rw [if_neg (by rw [za, zb, hl]; simp)]
  refine wpAny_bind (wpAny_dictEpoch hoa hda (wpAny_bind ?_))
  rw [Std.Legacy.Range.forIn_eq_forIn_range']
  simp only [Std.Legacy.Range.size, Nat.sub_zero, Nat.add_sub_cancel, Nat.div_one]
  refine wpAny_forIn_list _ (fun rest q s' => s' = s ∧ q = (none, ()) ∧ ∃ i, rest = List.range' i (es.size - i) ∧ i ≤ es.size) _ ?_ ?_ _ _ ⟨rfl, rfl, 0, by simp, Nat.zero_le _⟩
  · rintro x rest q s' ⟨rfl, rfl, i, hr, hi⟩
    obtain ⟨hlt, rfl, hrest⟩ : i < es.size ∧ x = i ∧ rest = List.range' (i + 1) (es.size - (i + 1)) := by
      rcases Nat.lt_or_ge i es.size with g | g
      · refine ⟨g, ?_⟩
        rw [show es.size - i = (es.size - (i + 1)) + 1 by omega, List.range'_succ] at hr
        injection hr with h1 h2
        exact ⟨h1, h2⟩
      · rw [Nat.sub_eq_zero_of_le g] at hr
        cases hr
    refine wpAny_bind (wpAny_dictEntries hoa hda ?_)
    obtain ⟨⟨k, p, v⟩, hkv⟩ : ∃ z, xa[x]? = some z := ⟨_, List.getElem?_eq_getElem (by omega)⟩
    have hex : es[x]? = some ⟨knd.hash k, .ref p, v⟩ := by rw [entry_at hea x, hkv]; rfl
    rw [hex]
    obtain ⟨q', y, hq, he⟩ := hits k p v (List.mem_of_getElem? hkv)
    show wpAny _ _ (holding [Value.ref p, v] _ >>= _) _ _ _
    refine wpAny_bind (wpAny_holding (wpAny_bind (wpAny_dictFind_heap hu (hisa _ (List.mem_of_getElem? hkv)) hob hdb heb hisb hnb (fun hno => ?_) (fun j pp hj => ?_))))
    · rw [atKey_none_of_get hno] at hq
      cases hq
    · rw [atKey_of_get hnb hj] at hq
      cases hq
      refine wpAny_bind (wpAny_dictEntries hob hdb ?_)
      rw [entry_at heb j, hj]
      refine wpAny_holding (he prog w _ _ ?_)
      show wpAny _ _ (if (!true) = true then _ else _) _ _ _
      rw [if_neg (by decide)]
      refine wpAny_bind (wpAny_dictEpoch hoa hda ?_)
      rw [if_neg (by simp)]
      exact wpAny_pure ⟨rfl, rfl, x + 1, hrest, hlt⟩
  · rintro q s' ⟨rfl, rfl, i, hr, hi⟩
    exact wpAny_pure h
theorem ne_dictsH {a b : Addr} {xa xb : List (K × Addr × Value)} {Q : Value → Shared → Prop} (hr : knd.room A.in1) (hu : A.units < cLine) (ha : (a == sysModules) = false) (hb : (b == sysModules) = false)
    (da : s.heap.DictOfH knd a xa) (db : s.heap.DictOfH knd b xb) (hl : xa.length = xb.length)
    (hits : ∀ k p v, (k, p, v) ∈ xa → ∃ q y, atKey xb k = some (q, y) ∧ SeqAt.EqAt A.in1 s v y true) (h : Q (.bool false) s) :
    wpAny (model prog w) A (compareOp .NotEq (.ref a) (.ref b)) Q E s := by
  refine wpAny_richCompare_same_room (op := .NotEq) da.typeIs db.typeIs PySem.F.slot_dict_ne (wpAny_call_entry PySem.F.slot_dict_ne da.typeIs PySem.F.entry_dict_ne ?_ (PySem.F.args_dict_ne_2 _ _)) hu
  show wpAny _ _ (Builtin.Dict.dictSlotArgs "__ne__" ⟨[.ref a, .ref b], []⟩ >>= _) _ _ s
  refine wpAny_bind ?_
  unfold Builtin.Dict.dictSlotArgs
  refine wpAny_bind (wpAny_notOrdered_dict da.typeIs ?_)
  show wpAny _ _ (pure (Value.ref a, Value.ref b)) _ _ s
  refine wpAny_pure (wpAny_bind (wpAny_isInstance (T := "dict") db.typeIs PySem.F.sub_dict_dict ?_))
  simp only [Bool.not_true, Bool.false_eq_true, if_false]
  refine wpAny_bind (wpAny_pure (wpAny_bind (wpAny_pure (wpAny_bind (same_pairsH hr ha hb da db hl hits (wpAny_pure ⟨_, rfl, ?_, ?_⟩))))))
  · exact fun x => nomatch x
  · simpa using h
end
section
variable {X : Cx}
theorem pairs_mem {α β : Type} {G : α → β → Prop} {l : List α} {m : List β} (h : Paired G l m) : ∀ y ∈ m, ∃ x ∈ l, G x y := by
  induction h with
  | nil => intro y hy; cases hy
  | @cons a b l m r t ih =>
    intro y hy
    rcases List.mem_cons.mp hy with rfl | hy
    · exact ⟨a, List.mem_cons_self, r⟩
    · obtain ⟨x, hx, g⟩ := ih y hy
      exact ⟨x, List.mem_cons_of_mem _ hx, g⟩
/-- != of two dicts that are the same, whatever the order of their keys -/
def rNeDT : R2 := fun x y H Q => ∃ a b ks ls, x = .ref a ∧ y = .ref b ∧ H a = some (.dT ks) ∧ H b = some (.dT ls) ∧ ks.length = ls.length ∧ (∀ p ∈ ks, valV ls p.1 = some p.2 ∧ flatB p.2 = true) ∧ Q (.bl false) H
theorem op_neDT (hu : X.A.units + 1 < cLine) : OpR X (compareOp .NotEq) rNeDT := by
  intro pins s σ H x y v u Q I rx ry h
  obtain ⟨a, b, ks, ls, rfl, rfl, ea, eb, hlen, hp, q⟩ := h
  obtain rfl : v = Value.ref a := rx
  obtain rfl : u = Value.ref b := ry
  obtain ⟨_, ya, xa, ra, da⟩ := dt_of I.hok ea
  obtain ⟨_, yb, xb, rb, db⟩ := dt_of I.hok eb
  refine ne_dictsH (tupleKind_room_in1 hu) (by omega) ya yb da db (by rw [← Paired.length ra, ← Paired.length rb]; exact hlen) (fun k p v m => ?_) ⟨.bl false, H, I, rfl, q⟩
  obtain ⟨⟨k', x⟩, hx, e1, e2, e3⟩ := pairs_mem ra _ m
  obtain rfl : k' = k := e1
  obtain ⟨g1, g2⟩ := hp _ hx
  have rr : RelO (some x) ((atKey xb k').map (·.2)) := by rw [← g1]; exact rb.val k'
  obtain ⟨y, hy, ry⟩ := rr.some_of
  obtain ⟨⟨q', y'⟩, hq, rfl⟩ := Option.map_eq_some_iff.mp hy
  exact ⟨q', y', hq, eqAt_same e3 ry g2⟩
theorem kt_new {P : Program} {w : World} {H : Hp} {h : Heap} {a : Addr} {kvs : List (List Key × V)} {xs : List (List Key × Addr × Value)} (z : kvs.length ≤ sizeLine) (hd : (a == sysModules) = false) (rel : KT H kvs xs) (dd : h.DictOfH (tupleKind (mixKind P w)) a xs) : ObjOk P w H h a (.dT kvs) := by
  obtain ⟨o, es, ep, h1, h2, h3, h4, _, h5⟩ := dd
  exact ⟨z, hd, xs, rel, o, es, ep, h1, h2, h3, h4, h5⟩
/-- d.clear() -/
def rClearT : V → List V → Hp → VK → Prop := fun x xs H Q => ∃ (a : Addr) (kvs : List (List L2.Key × V)), x = .ref a ∧ xs = [] ∧ H a = some (.dT kvs) ∧ Q .non (upd H a (.dT []))
theorem mt_clearT : MtR X "dict.clear" rClearT := by
  intro pins s σ H x xs v us Q I rx rxs h
  obtain ⟨a, kvs, rfl, rfl, ha, q⟩ := h
  cases rx
  cases rxs
  obtain ⟨z, hd, ys, rel, dd⟩ := dt_of I.hok ha
  refine clear_keyed (kvs := pairsH ys) (knd := tupleKind (mixKind X.prog X.w)) ⟨ys, dd, rfl⟩ (fun h' dd' hs => ?_) (by rw [pairsH_length, ← Paired.length rel]; exact z)
  obtain ⟨zs, dz, ez⟩ := dd'
  have hz : zs = [] := by
    cases zs with
    | nil => rfl
    | cons a l => cases ez
  subst hz
  have he : ∃ q, h'.get? a = some q := let ⟨q, _, _, hq, _⟩ := dz; ⟨q, hq⟩
  exact ⟨.non, _, d_write (t' := s.toks) I (by rw [ha]; exact True.intro) hs he (kt_new (Nat.zero_le _) hd .nil dz), rfl, q⟩
/-- the values of the locked dict at d -/
def ItdT (d : Addr) (o : Obj) (kvs : List (List Key × V)) : It :=
  ⟨fun i H => H d = some (.frz o (.dT kvs)) ∧ i < kvs.length, fun i H x H' => H' = H ∧ ∃ k, kvs[i]? = some (k, x), fun i H => H d = some (.frz o (.dT kvs)) ∧ kvs.length ≤ i⟩
theorem frz_vals {pins : List (Addr × Obj)} {σ : L2.St} {H : Hp} {s : Shared} {d : Addr} {o : Obj} {kvs : List (List Key × V)} (I : Inv X pins σ H s) (h : H d = some (.frz o (.dT kvs))) :
    (d == sysModules) = false ∧ s.heap.get? d = some o ∧ o.ExactDict ∧ ∃ (es : Array DictEntry) (ep : Nat), o.data = .dict es ep ∧ es.size = kvs.length ∧
      ∀ (i : Nat) (hi : i < es.size) (k : List Key) (v : V), kvs[i]? = some (k, v) → RelV v es[i].val := by
  obtain ⟨hd, z, hs, xs, pr, o', es, ep, ho, hx, hdt, he, _⟩ := I.hok d _ h
  rw [hd] at ho
  cases ho
  refine ⟨hs, hd, hx, es, ep, hdt, ?_, fun i hi k v e => ?_⟩
  · rw [size_of_entries he, Paired.length pr]
  · obtain ⟨b, hb, _, _, e3⟩ := paired_get pr e
    have q := entry_at he i
    rw [hb, Array.getElem?_eq_getElem hi] at q
    have q' := Option.some.inj q
    rw [q']
    exact e3
section
variable {P : Program} {w : World} {K : PySem.W.Frag} {tg : Expr} {d : Addr} {o : Obj} {es : Array DictEntry} {ep : Nat}
theorem turn_valsT {kvs : List (List Key × V)} (it : Addr) (hod : o.data = .dict es ep) : Turn P w K tg (ItdT d o kvs) [it] it (fun i h => h.IsValIter it d i kvs.length ep) where
  mem := by simp
  obj := fun i h st b hb => by
    obtain rfl : b = it := by simpa using hb
    obtain ⟨oi, e, c, dd⟩ := st
    exact ⟨oi, e, fun v z => by rw [dd] at z; cases z⟩
  keep := fun i h h' st k => st.at fun oi e => k it (by simp) oi e
  item := by
    intro X hP hw hK hc i pins s σ H E I hf st hg
    subst hP hw hK
    obtain ⟨hd, hi⟩ := hg
    obtain ⟨f0, f1, f2, f3, f4, f5⟩ := hf it (by simp)
    obtain ⟨hs, hgd, hx, es', ep', hdt, hsz, ent⟩ := frz_vals I hd
    obtain ⟨rfl, rfl⟩ := dict_ep hod hdt
    obtain ⟨⟨k, v⟩, hkv⟩ : ∃ p, kvs[i]? = some p := ⟨kvs[i], List.getElem?_eq_getElem hi⟩
    rw [← hsz] at st
    have hi' : i < es'.size := by omega
    refine wpAny_pyNext_values_item_raw st ⟨o, hgd, hx, hdt⟩ hi' fun h' st' sb => ?_
    have J : Inv X pins σ H { s with heap := h' } := I.turned (t' := s.toks) (fun b ob hb e => (sb.2 b hb).trans e) f0 f1 f3 f4 f5
    obtain ⟨oi, e, c, dd⟩ := id st'
    refine ⟨es'[i].val, rfl, go_of (s := { s with heap := h' }) e c dd (by decide) ⟨v, H, J, ent i hi' k v hkv, ⟨rfl, k, hkv⟩, ?_, fun b hb => (hf b hb).1⟩⟩
    show h'.IsValIter it d (i + 1) kvs.length _
    rw [← hsz]
    exact st'
  done := by
    intro X hP hw hK hc i pins s σ H E I hf st hg
    subst hP hw hK
    obtain ⟨hd, hi⟩ := hg
    obtain ⟨f0, f1, f2, f3, f4, f5⟩ := hf it (by simp)
    obtain ⟨hs, hgd, hx, es', ep', hdt, hsz, ent⟩ := frz_vals I hd
    obtain ⟨rfl, rfl⟩ := dict_ep hod hdt
    rw [← hsz] at st
    exact wpAny_pyNext_values_end_raw (I.ok.hd hc) st ⟨o, hgd, hx, hdt⟩ (by omega) fun h' eb => ⟨rfl, I.turned (t' := s.toks) (fun b ob hb e => eb b ob hb e) f0 f1 f3 f4 f5⟩
  self := fun A i s Q E st h => wpAny_pyIter_valiter st h
end
def iValsT (td : TE) : TI := fun σ H R => td σ H fun x H1 => ∃ d o kvs, x = .ref d ∧ H1 d = some (.frz o (.dT kvs)) ∧ R (ItdT d o kvs) H1
theorem pi_valuesT {tg e : Expr} {td : TE} {apos cpos : Pos} (he : PE X e td) (hbase : attributeBase e "values" X.env (eval e X.env) = eval e X.env := by rfl) (hline : (apos.endLine == cpos.line) = true := by rfl) :
    PI X tg (.Call (.Attribute e "values" apos) [] [] cpos) (iValsT td) := by
  refine ⟨fun pins s σ H R I h => ?_⟩
  refine wpAny_Call_method (T := "dict") (id := "dict.values") hbase rfl hline F.plainAttrs_dict F.slot_dict_values F.type_dict_values (thn (he.run pins s σ H _ I h) fun u s1 ⟨x, H1, I1, rx, d, o, kvs, ex, hd, q⟩ => ?_)
  subst ex
  obtain rfl : u = Value.ref d := rx
  obtain ⟨hs, hgd, hx, es, ep, hdt, hsz, ent⟩ := frz_vals I1 hd
  have raw : s1.heap.DictRaw d es ep := ⟨o, hgd, hx, hdt⟩
  refine ⟨raw.typeIs, fun a e => by cases e; exact ⟨o, hgd, hx.2.1⟩, ?_⟩
  have I2 : Inv X pins σ H1 { s1 with heap := s1.heap.push { cls := .type "dict_values", data := .fields #[.ref d] } } := I1.kept (t' := s1.toks) fun b ob q => Heap.get?_push_of_some _ q
  have fin : wpAny (model X.prog X.w) X.A (pyIter (.ref s1.heap.objs.size)) (PIE X pins σ tg R) X.xe { s1 with heap := s1.heap.push { cls := .type "dict_values", data := .fields #[.ref d] } } := by
    refine wpAny_pyIter_values_raw (d := d) (es := es) (ep := ep) ⟨_, Heap.get?_push_size _ rfl, rfl, rfl⟩ (raw.at fun o e => Heap.get?_push_of_some _ e) (pi_one (tk := s1.toks) I2 _ (turn_valsT _ hdt) ⟨_, Heap.get?_push_size _ rfl, rfl, ?_⟩ q)
    rw [← hsz] <;> rfl
  show wpAny _ _ (callWith cpos (.builtin "dict.values") [.ref d] [] []) _ X.xe s1
  exact method_meetsIn F.slot_dict_values F.entry_dict_values rfl (PySem.evalArgs_none ⟨rfl, raw.typeIs, F.args_dict_values_1 _, _, meets_dict_values_raw d hs, ⟨es, ep, raw⟩, fin⟩)
end
def mergeT (kvs more : List (List Key × V)) : List (List Key × V) := more.foldl (fun acc kv => putK acc kv.1 kv.2) kvs
theorem KT.merge {H : Hp} : ∀ {more : List (List Key × V)} {rs : List (List Key × Addr × Value)} {kvs : List (List Key × V)} {vs : List (List Key × Addr × Value)}, KT H more rs → KT H kvs vs → KT H (mergeT kvs more) (storedAllH vs rs)
  | _, _, _, _, .nil, h => h
  | _, _, _, _, .cons (a := kv) (b := x) ⟨h1, h2, h3⟩ t, h => by
    show KT H (mergeT (putK _ kv.1 kv.2) _) (storedAllH (storedH _ x.1 x.2.1 x.2.2) _)
    refine KT.merge t ?_
    rw [← h1]
    exact h.put kv.1 h2 h3
theorem length_mergeT : ∀ (more kvs : List (List Key × V)), (mergeT kvs more).length ≤ kvs.length + more.length
  | [], kvs => Nat.le_refl _
  | kv :: more, kvs => by
    have h1 := length_mergeT more (putK kvs kv.1 kv.2)
    have h2 := length_putK kvs kv.1 kv.2
    show (mergeT (putK kvs kv.1 kv.2) more).length ≤ _
    rw [List.length_cons]
    omega
section
variable {X : Cx}
/-- the pairs at ps: each a key's tuple and a value -/
theorem pairs_ofT {pins : List (Addr × Obj)} {σ : L2.St} {H : Hp} {s : Shared} (I : Inv X pins σ H s) : ∀ {ps : List Addr} {kvs : List (List Key × V)}, Paired (fun p kv => ∃ b, SqT X.K H p [.ref b, kv.2] ∧ H b = some (.tup (kv.1.map kV))) ps kvs →
    ∃ xs : List (List Key × Addr × Value), KT H kvs xs ∧ xs.length = ps.length ∧ ∀ (j : Nat) (x : List Key × Addr × Value), xs[j]? = some x → ∃ p, ps[j]? = some p ∧ IsTup s.heap p #[.ref x.2.1, x.2.2]
  | _, _, .nil => ⟨[], .nil, rfl, fun j q e => by simp at e⟩
  | _, _, .cons (a := p) (b := kv) ⟨b, h, hb⟩ t => by
    obtain ⟨xs, r, hl, hp⟩ := pairs_ofT I t
    obtain ⟨its, rv, ht, _⟩ := I.tuple h
    obtain ⟨u, y, ei, ru, ry⟩ := vals2 rv
    subst ei
    cases ru
    refine ⟨(kv.1, b, y) :: xs, .cons ⟨rfl, hb, ry⟩ r, by rw [List.length_cons, List.length_cons, hl], fun j q e => ?_⟩
    cases j with
    | zero =>
      have e' : (kv.1, b, y) = q := Option.some.inj e
      subst e'
      exact ⟨p, rfl, ht⟩
    | succ j =>
      obtain ⟨b, e1, e2⟩ := hp j q (by simpa using e)
      exact ⟨b, by simpa using e1, e2⟩
theorem u2_of {k : Nat} {A : Around} (r : Room k A) : A.units + 2 < cLine := by have := r.un; omega
/-- dict(xs) of a list of pairs whose keys are tuples -/
def rDictT (K : PySem.W.Frag) : List V → Hp → VK → Prop := fun xs H Q => ∃ (a : Addr) (ps : List Addr) (kvs : List (List Key × V)), xs = [.ref a] ∧ H a = some (.lst (ps.map V.ref)) ∧
  Paired (fun (p : Addr) (kv : List Key × V) => ∃ b, SqT K H p [V.ref b, kv.2] ∧ H b = some (.tup (kv.1.map kV))) ps kvs ∧ ∀ p, H p = none → Q (.ref p) (upd H p (.dT (mergeT [] kvs)))
theorem call_dictT (calm : X.calm = true) (hu : X.A.units + 2 < cLine) : CallR X (.type "dict") (rDictT X.K) := by
  intro pins s σ H xs us Q I r q
  obtain ⟨a, ps, kvs, ex, hq, hp, q⟩ := q
  subst ex
  obtain ⟨u, eu, rx⟩ := vals1 r
  subst eu
  cases rx
  obtain ⟨hz, its, n, rv, hg⟩ := I.hok a _ hq
  have ei := refs_at rv
  subst ei
  rw [List.length_map] at hz
  obtain ⟨ys, rel, hl, hpr⟩ := pairs_ofT I hp
  have hlk : kvs.length = ys.length := Paired.length rel
  let prs : List (Value × Value) := ys.map fun x => (Value.ref x.2.1, x.2.2)
  have hat : ∀ {j : Nat} {k v : Value}, prs[j]? = some (k, v) → ∃ x, ys[j]? = some x ∧ k = .ref x.2.1 ∧ v = x.2.2 := fun {j k v} e => by
    rw [List.getElem?_map] at e
    obtain ⟨x, hx, e⟩ := Option.map_eq_some_iff.mp e
    cases e
    exact ⟨x, hx, rfl, rfl⟩
  have stay : ∀ h', (∀ b o, s.heap.get? b = some o → h'.get? b = some o) → ∀ x ∈ ys, (tupleKind (mixKind X.prog X.w)).is h' x.1 x.2.1 := fun h' k x hx => by
    obtain ⟨kv, hkv, e1, e2, e3⟩ := pairs_mem rel x hx
    obtain ⟨o, its, n, h1, h2, h3, h4⟩ := key_of I.hok (by rw [← e1]; exact e2 : H x.2.1 = some (.tup (x.1.map kV)))
    exact ⟨o, its, n, k _ _ h1, h2, h3, h4⟩
  refine call_dict_pairsH (knd := tupleKind (mixKind X.prog X.w)) (ps := ys) (wr := []) (PairArg.list a (ps.map Value.ref).toArray (fun j => (ps[j]?).getD 0) prs) (I.ok.hd calm) hu
    ⟨⟨_, n, hg, rfl, rfl, rfl⟩, by simp [prs, hl], fun j k v e => ?_⟩ ⟨by simp [prs], fun i k v e => ?_⟩ (fun h' k x hx => ?_) (by simp only [prs, List.length_map]; omega) fun h' tk dd k => ?_
  · obtain ⟨x, hx, rfl, rfl⟩ := hat e
    obtain ⟨p, e1, e2⟩ := hpr j x hx
    refine ⟨by simp [e1], ?_⟩
    show PairAt s.heap ((ps[j]?).getD 0) _ _
    rw [e1]
    exact .inl e2
  · obtain ⟨x, hx, rfl, rfl⟩ := hat e
    exact ⟨x.1, x.2.1, hx, rfl⟩
  · exact stay h' (fun b o e => k b o (Nat.ne_of_lt (Heap.lt_size e)) (fun z => nomatch z) e) x hx
  · have hm : (s.heap.objs.size == sysModules) = false := beq_eq_false_iff_ne.mpr (Nat.ne_of_gt I.big)
    have hlen : (mergeT [] kvs).length ≤ sizeLine := by
      have := length_mergeT kvs []
      rw [List.length_nil, Nat.zero_add] at this
      omega
    have hf := I.hok.fresh (Nat.le_refl s.heap.objs.size)
    refine ⟨.ref s.heap.objs.size, upd H s.heap.objs.size (.dT (mergeT [] kvs)), I.laid (t' := tk) (fun b o e => k b o (fun z => nomatch z) e) (Nat.le_refl _) (kt_new hlen hm ((KT.merge rel .nil).keeps fun b ys e => ?_) dd), rfl, q _ hf⟩
    rw [upd_ne (ne_of_none e hf)]
    exact e
end
end Fo
namespace Fo
open PySem PySem.Spec PyProof.Rows L2
/-! how long a thing is, shown: added up -/
mutual
def wt : PyData → Nat
  | .none => 4
  | .bool _ => 5
  | .int i => (Str.ofString (toString i)).length
  | .str x => (reprText x).length
  | .list xs => wtL xs + 2
  | .tuple xs => wtL xs + 3
  | .dict kvs => wtK kvs + 2
def wtL : List PyData → Nat
  | [] => 0
  | x :: xs => wt x + 2 + wtL xs
def wtK : List (PyData × PyData) → Nat
  | [] => 0
  | (k, v) :: r => wt k + wt v + 4 + wtK r
end
theorem kvLen {k v : Str} : (k ++ Str.ofString ": " ++ v).length = k.length + v.length + 2 := by
  rw [strLen_append, strLen_append, show (Str.ofString ": ").length = 2 from rfl]
  omega
mutual
theorem shown_le : ∀ d : PyData, d.shown.length ≤ wt d
  | .none => by rw [PyData.shown, wt]; decide
  | .bool b => by rw [PyData.shown, wt]; cases b <;> decide
  | .int i => by rw [PyData.shown, wt]; exact Nat.le_refl _
  | .str x => by rw [PyData.shown, wt]; exact Nat.le_refl _
  | .list xs => by
    rw [PyData.shown, wt]
    have h1 := listText_le (PyData.shownAll xs)
    have h2 := piled_shown xs
    omega
  | .tuple xs => by
    rw [PyData.shown, wt]
    unfold tupleText
    rw [strLen_append, strLen_append]
    have h1 := join_le (PyData.shownAll xs)
    have h2 := piled_shown xs
    have e1 : (Str.ofString "(").length = 1 := rfl
    have e2 : (Str.ofString (if ((PyData.shownAll xs).length == 1) = true then ",)" else ")")).length ≤ 2 := by split <;> decide
    omega
  | .dict kvs => by
    rw [PyData.shown, wt]
    unfold dictText
    rw [strLen_append, strLen_append]
    have h1 := join_le (PyData.shownKv kvs)
    have h2 := piled_kv kvs
    have e1 : (Str.ofString "{").length = 1 := rfl
    have e2 : (Str.ofString "}").length = 1 := rfl
    omega
theorem piled_shown : ∀ xs : List PyData, piled (PyData.shownAll xs) ≤ wtL xs
  | [] => by rw [PyData.shownAll, piled_nil]; exact Nat.zero_le _
  | x :: xs => by
    rw [PyData.shownAll, piled_cons, wtL]
    have h1 := shown_le x
    have h2 := piled_shown xs
    omega
theorem piled_kv : ∀ ks : List (PyData × PyData), piled (PyData.shownKv ks) ≤ wtK ks
  | [] => by rw [PyData.shownKv, piled_nil]; exact Nat.zero_le _
  | (a, b) :: ks => by
    rw [PyData.shownKv, piled_cons, wtK]
    have h1 := shown_le a
    have h2 := shown_le b
    have h3 := piled_kv ks
    have e : (PyData.shown a ++ ": " ++ PyData.shown b).length = (PyData.shown a).length + (PyData.shown b).length + 2 := kvLen
    omega
end
/-- fit to be shown, in m signs, k deep -/
structure Rw (m k : Nat) (d : PyData) : Prop where
  s : d.showable = true
  l : wt d ≤ m
  d : d.depth ≤ k
structure Rws (m k : Nat) (ds : List PyData) : Prop where
  s : PyData.showableAll ds = true
  l : wtL ds ≤ m
  d : PyData.depthAll ds ≤ k
theorem Rw.rp {m k : Nat} {d : PyData} (h : Rw m k d) (hk : k ≤ 20) : Rp m d := ⟨h.s, Nat.le_trans (shown_le d) h.l, Nat.le_trans h.d hk⟩
theorem Rw.mono {m k m' k' : Nat} {d : PyData} (h : Rw m k d) (hm : m ≤ m') (hk : k ≤ k') : Rw m' k' d := ⟨h.s, Nat.le_trans h.l hm, Nat.le_trans h.d hk⟩
theorem Rws.mono {m k m' k' : Nat} {d : List PyData} (h : Rws m k d) (hm : m ≤ m') (hk : k ≤ k') : Rws m' k' d := ⟨h.s, Nat.le_trans h.l hm, Nat.le_trans h.d hk⟩
theorem rw_none : Rw 4 0 .none := ⟨by rw [PyData.showable], by rw [wt]; exact Nat.le_refl _, by rw [PyData.depth]; exact Nat.le_refl _⟩
theorem rw_bool (b : Bool) : Rw 5 0 (.bool b) := ⟨by rw [PyData.showable], by rw [wt]; exact Nat.le_refl _, by rw [PyData.depth]; exact Nat.le_refl _⟩
theorem log2_100 {i : Int} (h1 : -100000000000000000000000000 ≤ i) (h2 : i ≤ 100000000000000000000000000) : i.natAbs.log2 < 100 := by
  by_cases z : i.natAbs = 0
  · rw [z]
    decide
  · rw [Nat.log2_lt z]
    have : (2 : Nat) ^ 100 = 1267650600228229401496703205376 := by decide
    omega
theorem rw_int {i : Int} (h1 : -100000000000000000000000000 ≤ i) (h2 : i ≤ 100000000000000000000000000) : Rw 110 0 (.int i) := by
  have h := log2_100 h1 h2
  refine ⟨by rw [PyData.showable]; exact decide_eq_true (by omega), ?_, by rw [PyData.depth]; exact Nat.le_refl _⟩
  rw [wt]
  have := int_text_length_le (k := 100) (by decide) h
  rw [PySem.ofString_length]
  omega
theorem rw_str {x : Str} {n : Nat} (h : (reprText x).length ≤ n) : Rw n 0 (.str x) := ⟨by rw [PyData.showable], by rw [wt]; exact h, by rw [PyData.depth]; exact Nat.le_refl _⟩
theorem rws_nil {k : Nat} : Rws 0 k [] := ⟨by rw [PyData.showableAll], by rw [wtL]; exact Nat.le_refl _, by rw [PyData.depthAll]; exact Nat.zero_le _⟩
theorem rws_cons {a b k : Nat} {d : PyData} {ds : List PyData} (h : Rw a k d) (g : Rws b k ds) : Rws (a + 2 + b) k (d :: ds) :=
  ⟨by rw [PyData.showableAll, h.s, g.s]; rfl, by rw [wtL]; have := h.l; have := g.l; omega, by rw [PyData.depthAll]; exact Nat.max_le.mpr ⟨h.d, g.d⟩⟩
theorem rws_ints {b : Nat} : ∀ {ns : List Int}, (∀ x ∈ ns, -100000000000000000000000000 ≤ x ∧ x ≤ 100000000000000000000000000) → Rws (ns.length * 112) b (ns.map PyData.int)
  | [], _ => by rw [List.map_nil, List.length_nil, Nat.zero_mul]; exact rws_nil
  | x :: r, h => by
    have h1 := h x List.mem_cons_self
    have h2 := rws_cons ((rw_int h1.1 h1.2).mono (Nat.le_refl _) (Nat.zero_le b)) (rws_ints (b := b) (ns := r) fun y hy => h y (List.mem_cons_of_mem _ hy))
    exact h2.mono (by rw [List.length_cons, Nat.succ_mul]; omega) (Nat.le_refl _)
theorem rw_list {m k : Nat} {ds : List PyData} (h : Rws m k ds) : Rw (m + 2) (k + 1) (.list ds) := ⟨by rw [PyData.showable]; exact h.s, by rw [wt]; have := h.l; omega, by rw [PyData.depth]; exact Nat.succ_le_succ h.d⟩
theorem rw_tup {m k : Nat} {ds : List PyData} (h : Rws m k ds) : Rw (m + 3) (k + 1) (.tuple ds) := ⟨by rw [PyData.showable]; exact h.s, by rw [wt]; have := h.l; omega, by rw [PyData.depth]; exact Nat.succ_le_succ h.d⟩
theorem wtL_app : ∀ a b : List PyData, wtL (a ++ b) = wtL a + wtL b
  | [], b => by rw [List.nil_append, wtL, Nat.zero_add]
  | x :: a, b => by
    rw [List.cons_append, wtL, wtL, wtL_app a b]
    omega
theorem showAll_app : ∀ a b : List PyData, PyData.showableAll (a ++ b) = (PyData.showableAll a && PyData.showableAll b)
  | [], b => by rw [List.nil_append, PyData.showableAll, Bool.true_and]
  | x :: a, b => by rw [List.cons_append, PyData.showableAll, PyData.showableAll, showAll_app a b, Bool.and_assoc]
theorem depAll_app : ∀ a b : List PyData, PyData.depthAll (a ++ b) = max (PyData.depthAll a) (PyData.depthAll b)
  | [], b => by rw [List.nil_append, PyData.depthAll, Nat.zero_max]
  | x :: a, b => by
    rw [List.cons_append, PyData.depthAll, PyData.depthAll, depAll_app a b]
    omega
theorem Rws.app {m n k : Nat} {a b : List PyData} (h : Rws m k a) (g : Rws n k b) : Rws (m + n) k (a ++ b) :=
  ⟨by rw [showAll_app, h.s, g.s]; rfl, by rw [wtL_app]; have := h.l; have := g.l; omega, by rw [depAll_app]; exact Nat.max_le.mpr ⟨h.d, g.d⟩⟩
theorem Rws.left {m k : Nat} {a b : List PyData} (h : Rws m k (a ++ b)) : Rws m k a := by
  have h1 := h.s
  have h2 := h.l
  have h3 := h.d
  rw [showAll_app, Bool.and_eq_true] at h1
  rw [wtL_app] at h2
  rw [depAll_app] at h3
  exact ⟨h1.1, by omega, by omega⟩
theorem Rws.right {m k : Nat} {a b : List PyData} (h : Rws m k (a ++ b)) : Rws m k b := by
  have h1 := h.s
  have h2 := h.l
  have h3 := h.d
  rw [showAll_app, Bool.and_eq_true] at h1
  rw [wtL_app] at h2
  rw [depAll_app] at h3
  exact ⟨h1.2, by omega, by omega⟩
theorem Rws.take {m k : Nat} {a : List PyData} (h : Rws m k a) (n : Nat) : Rws m k (a.take n) := Rws.left (b := a.drop n) (by rw [List.take_append_drop]; exact h)
theorem Rws.drop {m k : Nat} {a : List PyData} (h : Rws m k a) (n : Nat) : Rws m k (a.drop n) := Rws.right (a := a.take n) (by rw [List.take_append_drop]; exact h)
theorem Rws.mem {m k : Nat} {x : PyData} : ∀ {a : List PyData}, Rws m k a → x ∈ a → Rw m k x
  | [], _, h => absurd h List.not_mem_nil
  | y :: a, h, hx => by
    have h1 := h.s
    have h2 := h.l
    have h3 := h.d
    rw [PyData.showableAll, Bool.and_eq_true] at h1
    rw [wtL] at h2
    rw [PyData.depthAll] at h3
    rcases List.mem_cons.mp hx with rfl | hx
    · exact ⟨h1.1, by omega, by omega⟩
    · exact Rws.mem (a := a) ⟨h1.2, by omega, by omega⟩ hx
theorem Rw.lst {m k : Nat} {ds : List PyData} (h : Rw m k (.list ds)) : ∃ j, j + 1 = k ∧ Rws m j ds := by
  have h1 := h.s
  have h2 := h.l
  have h3 := h.d
  rw [PyData.showable] at h1
  rw [wt] at h2
  rw [PyData.depth] at h3
  exact ⟨k - 1, by omega, h1, by omega, by omega⟩
theorem Rw.lsts {m k : Nat} {ds : List PyData} (h : Rw m k (.list ds)) : Rws m k ds := by
  obtain ⟨j, e, h⟩ := h.lst
  exact h.mono (Nat.le_refl _) (by omega)
theorem rw_cat {m n k : Nat} {a b : List PyData} (h : Rw m k (.list a)) (g : Rw n k (.list b)) : Rw (m + n) k (.list (a ++ b)) := by
  have h1 := h.s
  have h2 := h.l
  have h3 := h.d
  have g1 := g.s
  have g2 := g.l
  have g3 := g.d
  rw [PyData.showable] at h1 g1
  rw [wt] at h2 g2
  rw [PyData.depth] at h3 g3
  exact ⟨by rw [PyData.showable, showAll_app, h1, g1]; rfl, by rw [wt, wtL_app]; omega, by rw [PyData.depth, depAll_app]; omega⟩
theorem rw_take {m k : Nat} {a : List PyData} (h : Rw m k (.list a)) (n : Nat) : Rw m k (.list (a.take n)) := by
  have h1 := h.s
  have h2 := h.l
  have h3 := h.d
  rw [PyData.showable] at h1
  rw [wt] at h2
  rw [PyData.depth] at h3
  obtain ⟨g1, g2, g3⟩ := Rws.take ⟨h1, Nat.le_refl _, Nat.le_refl _⟩ n
  exact ⟨by rw [PyData.showable]; exact g1, by rw [wt]; omega, by rw [PyData.depth]; omega⟩
theorem rw_drop {m k : Nat} {a : List PyData} (h : Rw m k (.list a)) (n : Nat) : Rw m k (.list (a.drop n)) := by
  have h1 := h.s
  have h2 := h.l
  have h3 := h.d
  rw [PyData.showable] at h1
  rw [wt] at h2
  rw [PyData.depth] at h3
  obtain ⟨g1, g2, g3⟩ := Rws.drop ⟨h1, Nat.le_refl _, Nat.le_refl _⟩ n
  exact ⟨by rw [PyData.showable]; exact g1, by rw [wt]; omega, by rw [PyData.depth]; omega⟩
theorem rw_mem {m k : Nat} {a : List PyData} {x : PyData} (h : Rw m k (.list a)) (hx : x ∈ a) : Rw m k x := h.lsts.mem hx
theorem rw_totup {m k : Nat} {a : List PyData} (h : Rw m k (.list a)) : Rw (m + 1) k (.tuple a) := by
  have h1 := h.s
  have h2 := h.l
  have h3 := h.d
  rw [PyData.showable] at h1
  rw [wt] at h2
  rw [PyData.depth] at h3
  exact ⟨by rw [PyData.showable]; exact h1, by rw [wt]; omega, by rw [PyData.depth]; omega⟩
theorem rw_repl {m k : Nat} {x : PyData} (h : Rw m k x) : ∀ n : Nat, Rws (n * (m + 2)) k (List.replicate n x)
  | 0 => rws_nil.mono (Nat.zero_le _) (Nat.le_refl _)
  | n + 1 => by
    rw [List.replicate_succ]
    exact (rws_cons h (rw_repl h n)).mono (by rw [Nat.succ_mul]; omega) (Nat.le_refl _)
theorem rw_dict1 {m n : Nat} {k v : PyData} (h : Rw m 0 k) (g : Rw n 0 v) : Rw (m + n + 6) 1 (.dict [(k, v)]) :=
  ⟨by rw [PyData.showable, PyData.showableKv, h.s, g.s, PyData.showableKv]; rfl, by rw [wt, wtK, wtK]; have := h.l; have := g.l; omega, by
    rw [PyData.depth, PyData.depthKv, PyData.depthKv]
    have := h.d
    have := g.d
    omega⟩
theorem rw_dict0 : Rw 2 1 (.dict []) := ⟨by rw [PyData.showable, PyData.showableKv], by rw [wt, wtK]; decide, by rw [PyData.depth, PyData.depthKv]; decide⟩
end Fo
namespace Fo
open PySem PySem.Spec PyProof.Rows L2
/-! expressions that make things of any kind: what they are, and how long they are shown -/
/-- what draws numbers, and what stays while it draws -/
structure Src where
  At : Hp → Prop
  Kp : Hp → Hp → Prop
  cut : Hp → Hp
  refl : ∀ H, Kp H H
  trans : ∀ {a b c}, Kp a b → Kp b c → Kp a c
  kp : ∀ {H H'}, Kp H H' → Same (cut H) (cut H')
  le : ∀ H, Same (cut H) H
  same : ∀ {H H'}, At H → Same H H' → At H' ∧ Kp H H'
  put : ∀ {H H1 p} (o : HO), At H → Kp H H1 → At H1 → H p = none → At (upd H1 p o) ∧ Kp H (upd H1 p o) ∧ (cut (upd H1 p o)) p = some o ∧ ∀ b, b ≠ p → cut (upd H1 p o) b = cut H1 b
theorem Src.new (S : Src) {H : Hp} {p : Addr} (o : HO) (h : S.At H) (np : H p = none) : (S.cut (upd H p o)) p = some o := (S.put o h (S.refl H) h np).2.2.1
def Od (S : Src) (m k : Nat) (B : PyData → Prop) (H : Hp) (v : V) : Prop := ∃ d, Dq (S.cut H) v d ∧ Rw m k d ∧ B d
theorem Od.kp {S : Src} {m k : Nat} {B : PyData → Prop} {H H' : Hp} {v : V} (h : Od S m k B H v) (e : S.Kp H H') : Od S m k B H' v := by
  obtain ⟨d, h1, h2, h3⟩ := h
  exact ⟨d, h1.same (S.kp e), h2, h3⟩
theorem Od.mono {S : Src} {m k m' k' : Nat} {B C : PyData → Prop} {H : Hp} {v : V} (h : Od S m k B H v) (hm : m ≤ m') (hk : k ≤ k') (i : ∀ d, B d → C d) : Od S m' k' C H v := by
  obtain ⟨d, h1, h2, h3⟩ := h
  exact ⟨d, h1, h2.mono hm hk, i d h3⟩
abbrev bT : PyData → Prop := fun _ => True
abbrev oL (A : List PyData → Prop) : PyData → Prop := fun d => ∃ ds, d = .list ds ∧ A ds
abbrev oT (A : List PyData → Prop) : PyData → Prop := fun d => ∃ ds, d = .tuple ds ∧ A ds
abbrev oI (A : Int → Prop) : PyData → Prop := fun d => ∃ i, d = .int i ∧ A i
abbrev oS (A : Str → Prop) : PyData → Prop := fun d => ∃ x, d = .str x ∧ A x
def OE (S : Src) (t : TE) (σ : L2.St) (H : Hp) (m k : Nat) (B : PyData → Prop) : Prop := ∀ H1 Q, S.Kp H H1 → S.At H1 → (∀ v H2, S.Kp H1 H2 → S.At H2 → Od S m k B H2 v → Q v H2) → t σ H1 Q
def OA (S : Src) (t : TA) (σ : L2.St) (H : Hp) (m k : Nat) (A : List PyData → Prop) : Prop := ∀ H1 Q, S.Kp H H1 → S.At H1 → (∀ vs H2, S.Kp H1 H2 → S.At H2 → (∃ ds, DqAll (S.cut H2) vs ds ∧ Rws m k ds ∧ A ds) → Q vs H2) → t σ H1 Q
def OO (S : Src) (t : TO) (σ : L2.St) (H : Hp) (P : Option Int → Prop) : Prop := ∀ H1 Q, S.Kp H H1 → S.At H1 → (∀ o H2, S.Kp H1 H2 → S.At H2 → P o → Q o H2) → t σ H1 Q
section
variable {S : Src} {σ : L2.St} {H : Hp} {m k a b : Nat} {B C : PyData → Prop} {t u : TE}
theorem OE.kp (h : OE S t σ H m k B) {H' : Hp} (e : S.Kp H H') : OE S t σ H' m k B := fun H1 Q e1 at1 q => h H1 Q (S.trans e e1) at1 q
theorem OE.mono (h : OE S t σ H m k B) {m' k' : Nat} (hm : m ≤ m') (hk : k ≤ k') (i : ∀ d, B d → C d) : OE S t σ H m' k' C := fun H1 Q e1 at1 q => h H1 Q e1 at1 fun v H2 e2 at2 o => q v H2 e2 at2 (o.mono hm hk i)
theorem OE.imp (h : OE S t σ H m k B) (i : ∀ d, B d → C d) : OE S t σ H m k C := h.mono (Nat.le_refl _) (Nat.le_refl _) i
theorem oe_var {i : Nat} {v : V} (e : σ[i]? = some (some v)) (o : Od S m a B H v) (hk : a ≤ k) : OE S (tVar i) σ H m k B := fun H1 _ e1 at1 q => ⟨v, e, q v H1 (S.refl _) at1 ((o.kp e1).mono (Nat.le_refl _) hk fun _ h => h)⟩
theorem oe_v {i : Nat} {v : V} (e : σ[i]? = some (some v)) (o : Od S m k B H v) : OE S (tVar i) σ H m k B := fun H1 _ e1 at1 q => ⟨v, e, q v H1 (S.refl _) at1 (o.kp e1)⟩
theorem oe_c {v : V} {d : PyData} (h : ∀ G, Dq G v d) (r : Rw m 0 d) : OE S (tC v) σ H m 0 (fun x => x = d) := fun H1 _ _ at1 q => q v H1 (S.refl _) at1 ⟨d, h _, r, rfl⟩
theorem oe_non : OE S (tC .non) σ H 4 0 (fun x => x = .none) := oe_c (fun _ => .non) rw_none
theorem oe_bl (x : Bool) : OE S (tC (.bl x)) σ H 5 0 (fun d => d = .bool x) := oe_c (fun _ => .bl x) (rw_bool x)
theorem oe_int {i : Int} (h : -100000000000000000000000000 ≤ i ∧ i ≤ 100000000000000000000000000) : OE S (tC (.int i)) σ H 110 0 (fun d => d = .int i) := oe_c (fun _ => .int i) (rw_int h.1 h.2)
theorem oe_intI {i : Int} (h : -100000000000000000000000000 ≤ i ∧ i ≤ 100000000000000000000000000) : OE S (tC (.int i)) σ H 110 0 (oI fun j => j = i) := (oe_int h).imp fun _ e => ⟨i, e, rfl⟩
theorem oe_str {x : Str} (n : Nat) (h : (reprText x).length ≤ n) : OE S (tC (.str x)) σ H n 0 (fun d => d = .str x) := oe_c (fun _ => .str x) (rw_str h)
theorem oa_nil : OA S tNil σ H 0 0 (fun ds => ds = []) := fun H1 _ _ at1 q => q [] H1 (S.refl _) at1 ⟨[], .nil, rws_nil, rfl⟩
theorem oa_nilN (C : PyData → Prop) : OA S tNil σ H 0 0 (fun ds => ds.length = 0 ∧ ∀ x ∈ ds, C x) := fun H1 _ _ at1 q => q [] H1 (S.refl _) at1 ⟨[], .nil, rws_nil, rfl, fun _ h => absurd h List.not_mem_nil⟩
theorem oa_cons {r : TA} {k2 : Nat} {A : List PyData → Prop} (h : OE S t σ H a k B) (g : OA S r σ H b k2 A) : OA S (tCons t r) σ H (a + 2 + b) (max k k2) (fun ds => ∃ x y, ds = x :: y ∧ B x ∧ A y) := fun H1 Q e1 at1 q =>
  h H1 _ e1 at1 fun v H2 e2 at2 o => g H2 _ (S.trans e1 e2) at2 fun vs H3 e3 at3 p => by
    obtain ⟨x, h1, h2, h3⟩ := o.kp e3
    obtain ⟨y, g1, g2, g3⟩ := p
    exact q (v :: vs) H3 (S.trans e2 e3) at3 ⟨x :: y, .cons h1 g1, rws_cons (h2.mono (Nat.le_refl _) (Nat.le_max_left _ _)) (g2.mono (Nat.le_refl _) (Nat.le_max_right _ _)), x, y, rfl, h3, g3⟩
theorem oa_consN {r : TA} {n k2 : Nat} {C : PyData → Prop} (h : OE S t σ H a k B) (i : ∀ d, B d → C d) (g : OA S r σ H b k2 (fun ds => ds.length = n ∧ ∀ x ∈ ds, C x)) : OA S (tCons t r) σ H (a + 2 + b) (max k k2) (fun ds => ds.length = n + 1 ∧ ∀ x ∈ ds, C x) := fun H1 Q e1 at1 q =>
  oa_cons h g H1 Q e1 at1 fun vs H2 e2 at2 o => by
    obtain ⟨_, h1, h2, x, y, rfl, h3, h4, h5⟩ := o
    refine q vs H2 e2 at2 ⟨x :: y, h1, h2, by rw [List.length_cons, h4], fun z hz => ?_⟩
    rcases List.mem_cons.mp hz with rfl | hz
    · exact i _ h3
    · exact h5 z hz
theorem wtL_len : ∀ ds : List PyData, ds.length ≤ wtL ds
  | [] => Nat.zero_le _
  | d :: ds => by
    rw [wtL, List.length_cons]
    have := wtL_len ds
    omega
theorem oe_lst {r : TA} {A : List PyData → Prop} (h : OA S r σ H m k A) (hm : m ≤ 16777216) : OE S (tLst r) σ H (m + 2) (k + 1) (oL A) := fun H1 Q e1 at1 q =>
  h H1 _ e1 at1 fun vs H2 e2 at2 o => by
    obtain ⟨ds, h1, h2, h3⟩ := o
    have hl := wtL_len ds
    have := h2.l
    refine ⟨line_small (by rw [h1.len]; omega), fun p np => ?_⟩
    obtain ⟨at3, e3⟩ := S.same at2 (same_new (o := .lst vs) np)
    exact q _ _ (S.trans e2 e3) at3 ⟨.list ds, .lst (S.new _ at2 np) (h1.same (S.kp e3)), rw_list h2, ds, rfl, h3⟩
theorem oe_tup {r : TA} {A : List PyData → Prop} (h : OA S r σ H m k A) (hm : m ≤ 16777216) : OE S (tTup r) σ H (m + 3) (k + 1) (oT A) := fun H1 Q e1 at1 q =>
  h H1 _ e1 at1 fun vs H2 e2 at2 o => by
    obtain ⟨ds, h1, h2, h3⟩ := o
    have hl := wtL_len ds
    have := h2.l
    refine ⟨line_small (by rw [h1.len]; omega), fun p np => ?_⟩
    obtain ⟨at3, e3⟩ := S.same at2 (same_new (o := .tup vs) np)
    exact q _ _ (S.trans e2 e3) at3 ⟨.tuple ds, .tup (S.new _ at2 np) (h1.same (S.kp e3)), rw_tup h2, ds, rfl, h3⟩
theorem dq_lst {G : Hp} {v : V} {ds : List PyData} (h : Dq G v (.list ds)) : ∃ p xs, v = .ref p ∧ G p = some (.lst xs) ∧ DqAll G xs ds := by
  cases h with
  | @lst p xs _ e al => exact ⟨p, xs, rfl, e, al⟩
theorem dq_tupI {G : Hp} {v : V} {ds : List PyData} (h : Dq G v (.tuple ds)) : ∃ p xs, v = .ref p ∧ G p = some (.tup xs) ∧ DqAll G xs ds := by
  cases h with
  | @tup p xs _ e al => exact ⟨p, xs, rfl, e, al⟩
theorem dq_intI {G : Hp} {v : V} {i : Int} (h : Dq G v (.int i)) : v = .int i := by
  cases h with
  | int => rfl
theorem dq_strI {G : Hp} {v : V} {x : Str} (h : Dq G v (.str x)) : v = .str x := by
  cases h with
  | str => rfl
theorem rw_len {ds : List PyData} (h : Rw m k (.list ds)) : ds.length ≤ m := by
  have h2 := h.l
  rw [wt] at h2
  have := wtL_len ds
  omega
theorem oe_cat {k2 : Nat} {A A' : List PyData → Prop} (h : OE S t σ H a k (oL A)) (g : OE S u σ H b k2 (oL A')) (hm : a + b ≤ 16777216) : OE S (tOp rCat t u) σ H (a + b) (max k k2) (oL fun ds => ∃ x y, ds = x ++ y ∧ A x ∧ A' y) := fun H1 Q e1 at1 q =>
  h H1 _ e1 at1 fun v H2 e2 at2 o => g H2 _ (S.trans e1 e2) at2 fun w H3 e3 at3 o' => by
    obtain ⟨_, h1, h2, x, rfl, h3⟩ := o.kp e3
    obtain ⟨_, g1, g2, y, rfl, g3⟩ := o'
    obtain ⟨p, xs, rfl, hp, ax⟩ := dq_lst h1
    obtain ⟨r, ys, rfl, hr, ay⟩ := dq_lst g1
    have l1 := rw_len h2
    have l2 := rw_len g2
    refine ⟨p, r, xs, ys, rfl, rfl, S.le _ _ _ hp, S.le _ _ _ hr, line_small (by rw [ax.len, ay.len]; omega), fun c nc => ?_⟩
    obtain ⟨at4, e4⟩ := S.same at3 (same_new (o := .lst (xs ++ ys)) nc)
    exact q _ _ (S.trans (S.trans e2 e3) e4) at4 ⟨.list (x ++ y), .lst (S.new _ at3 nc) ((ax.app ay).same (S.kp e4)), rw_cat (h2.mono (Nat.le_refl _) (Nat.le_max_left _ _)) (g2.mono (Nat.le_refl _) (Nat.le_max_right _ _)), x ++ y, rfl, x, y, rfl, h3, g3⟩
theorem oe_catN {n1 n2 k2 : Nat} (h : OE S t σ H a k (oL fun ds => ds.length = n1 ∧ ∀ x ∈ ds, C x)) (g : OE S u σ H b k2 (oL fun ds => ds.length = n2 ∧ ∀ x ∈ ds, C x)) (hm : a + b ≤ 16777216) : OE S (tOp rCat t u) σ H (a + b) (max k k2) (oL fun ds => ds.length = n1 + n2 ∧ ∀ x ∈ ds, C x) :=
  (oe_cat h g hm).imp fun d hd => by
    obtain ⟨_, rfl, x, y, rfl, ⟨h1, h2⟩, g1, g2⟩ := hd
    refine ⟨_, rfl, by rw [List.length_append, h1, g1], fun z hz => ?_⟩
    rcases List.mem_append.mp hz with hz | hz
    · exact h2 z hz
    · exact g2 z hz
/-- a slice of anything -/
def cutG {α : Type} (xs : List α) (lo hi : Option Int) : List α := (xs.drop (HT.sIx xs.length 0 lo)).take (HT.sIx xs.length xs.length hi - HT.sIx xs.length 0 lo)
theorem DqAll.cut {G : Hp} {vs : List V} {ds : List PyData} (h : DqAll G vs ds) (lo hi : Option Int) : DqAll G (cutV vs lo hi) (cutG ds lo hi) := by
  unfold cutV cutG
  rw [h.len]
  exact (h.drop _).take _
theorem oo_none : OO S tNoPart σ H (fun o => o = none) := fun H1 _ _ at1 q => q none H1 (S.refl _) at1 rfl
theorem oo_some {A : Int → Prop} (h : OE S t σ H m k (oI A)) : OO S (tPart t) σ H (fun o => ∃ i, o = some i ∧ A i) := fun H1 _ e1 at1 q => h H1 _ e1 at1 fun v H2 e2 at2 o => by
  obtain ⟨_, h1, _, i, rfl, h3⟩ := o
  exact ⟨i, dq_intI h1, q _ _ e2 at2 ⟨i, rfl, h3⟩⟩
theorem oe_sl {K : PySem.W.Frag} {A : List PyData → Prop} {tl th : TO} {P R : Option Int → Prop} (h : OE S t σ H m k (oL A)) (hl : OO S tl σ H P) (hh : OO S th σ H R) : OE S (tSl (rSlL K) t tl th) σ H m k (oL fun ds => ∃ x l u, ds = cutG x l u ∧ A x ∧ P l ∧ R u) := fun H1 Q e1 at1 q =>
  h H1 _ e1 at1 fun v H2 e2 at2 o => hl H2 _ (S.trans e1 e2) at2 fun l H3 e3 at3 pl => hh H3 _ (S.trans e1 (S.trans e2 e3)) at3 fun u H4 e4 at4 pu => by
    obtain ⟨_, h1, h2, x, rfl, h3⟩ := o.kp (S.trans e3 e4)
    obtain ⟨p, xs, rfl, hp, ax⟩ := dq_lst h1
    refine ⟨p, xs, rfl, SqL.of (S.le _ _ _ hp), fun c nc => ?_⟩
    obtain ⟨at5, e5⟩ := S.same at4 (same_new (o := .lst (cutV xs l u)) nc)
    exact q _ _ (S.trans (S.trans (S.trans e2 e3) e4) e5) at5 ⟨.list (cutG x l u), .lst (S.new _ at4 nc) ((ax.cut l u).same (S.kp e5)), rw_take (rw_drop h2 _) _, _, rfl, x, l, u, rfl, h3, pl, pu⟩
theorem oe_add {A A' : Int → Prop} (h : OE S t σ H m a (oI A)) (g : OE S u σ H m b (oI A')) (hb : ∀ i j, A i → A' j → -100000000000000000000000000 ≤ i + j ∧ i + j ≤ 100000000000000000000000000) : OE S (tOp (rI0 fun i j => .int (i + j)) t u) σ H 110 0 (oI fun z => ∃ i j, z = i + j ∧ A i ∧ A' j) := fun H1 Q e1 at1 q =>
  h H1 _ e1 at1 fun v H2 e2 at2 o => g H2 _ (S.trans e1 e2) at2 fun w H3 e3 at3 o' => by
    obtain ⟨_, h1, _, i, rfl, h3⟩ := o.kp e3
    obtain ⟨_, g1, _, j, rfl, g3⟩ := o'
    have hz := hb i j h3 g3
    exact ⟨i, j, dq_intI h1, dq_intI g1, q _ _ (S.trans e2 e3) at3 ⟨.int (i + j), .int _, rw_int hz.1 hz.2, _, rfl, i, j, rfl, h3, g3⟩⟩
theorem oe_sub {A A' : Int → Prop} (h : OE S t σ H m a (oI A)) (g : OE S u σ H m b (oI A')) (hb : ∀ i j, A i → A' j → -100000000000000000000000000 ≤ i - j ∧ i - j ≤ 100000000000000000000000000) : OE S (tOp (rI0 fun i j => .int (i - j)) t u) σ H 110 0 (oI fun z => ∃ i j, z = i - j ∧ A i ∧ A' j) := fun H1 Q e1 at1 q =>
  h H1 _ e1 at1 fun v H2 e2 at2 o => g H2 _ (S.trans e1 e2) at2 fun w H3 e3 at3 o' => by
    obtain ⟨_, h1, _, i, rfl, h3⟩ := o.kp e3
    obtain ⟨_, g1, _, j, rfl, g3⟩ := o'
    have hz := hb i j h3 g3
    exact ⟨i, j, dq_intI h1, dq_intI g1, q _ _ (S.trans e2 e3) at3 ⟨.int (i - j), .int _, rw_int hz.1 hz.2, _, rfl, i, j, rfl, h3, g3⟩⟩
theorem oe_neg {A : Int → Prop} (h : OE S t σ H m a (oI A)) (hb : ∀ i, A i → -100000000000000000000000000 ≤ -i ∧ -i ≤ 100000000000000000000000000) : OE S (tUn (rU fun i => .int (-i)) t) σ H 110 0 (oI fun z => ∃ i, z = -i ∧ A i) := fun H1 Q e1 at1 q =>
  h H1 _ e1 at1 fun v H2 e2 at2 o => by
    obtain ⟨_, h1, _, i, rfl, h3⟩ := o
    have hz := hb i h3
    exact ⟨i, dq_intI h1, q _ _ e2 at2 ⟨.int (-i), .int _, rw_int hz.1 hz.2, _, rfl, i, rfl, h3⟩⟩
theorem oe_pow {i j : Int} (hc : CPow i j) (hb : -100000000000000000000000000 ≤ i ^ j.toNat ∧ i ^ j.toNat ≤ 100000000000000000000000000) : OE S (tOp (rI CPow fun i j => .int (i ^ j.toNat)) (tC (.int i)) (tC (.int j))) σ H 110 0 (oI fun z => z = i ^ j.toNat) := fun H1 Q e1 at1 q =>
  ⟨i, j, rfl, rfl, hc, q _ _ (S.refl _) at1 ⟨.int (i ^ j.toNat), .int _, rw_int hb.1 hb.2, _, rfl, rfl⟩⟩
theorem oe_ix {K : PySem.W.Frag} {n : Nat} {A : Int → Prop} (h : OE S t σ H m k (oL fun ds => ds.length = n ∧ ∀ x ∈ ds, B x)) (g : OE S u σ H a b (oI A)) (hi : ∀ i, A i → 0 ≤ i ∧ i < (n : Int)) : OE S (tOp (rIxL K) t u) σ H m k B := fun H1 Q e1 at1 q =>
  h H1 _ e1 at1 fun v H2 e2 at2 o => g H2 _ (S.trans e1 e2) at2 fun w H3 e3 at3 o' => by
    obtain ⟨_, h1, h2, x, rfl, h3, h4⟩ := o.kp e3
    obtain ⟨_, g1, _, i, rfl, gi⟩ := o'
    obtain ⟨i0, i1⟩ := hi i gi
    obtain ⟨p, xs, rfl, hp, ax⟩ := dq_lst h1
    have hl := ax.len
    have hi : i.toNat < xs.length := by omega
    have ev : xs[i.toNat]? = some xs[i.toNat] := List.getElem?_eq_getElem hi
    obtain ⟨d, ed, hd⟩ := ax.get ev
    have md := List.mem_of_getElem? ed
    refine ⟨p, xs, i, xs[i.toNat], rfl, dq_intI g1, SqL.of (S.le _ _ _ hp), at_of (j := i.toNat) (Int.toNat_of_nonneg i0).symm ev, ?_⟩
    exact q _ _ (S.trans e2 e3) at3 ⟨d, hd, rw_mem h2 md, h4 d md⟩
theorem oe_ixI {K : PySem.W.Frag} {ns : List Int} {A : Int → Prop} (h : OE S t σ H m k (oL fun ds => ds = ns.map PyData.int)) (g : OE S u σ H a b (oI A)) (hi : ∀ i, A i → 0 ≤ i ∧ i < (ns.length : Int)) : OE S (tOp (rIxL K) t u) σ H m k (oI fun z => z ∈ ns) :=
  oe_ix (n := ns.length) (h.imp fun d hd => by obtain ⟨ds, rfl, rfl⟩ := hd; exact ⟨_, rfl, List.length_map _, fun x hx => by obtain ⟨y, hy, rfl⟩ := List.mem_map.mp hx; exact ⟨y, rfl, hy⟩⟩) g hi
theorem oe_lenI {K : PySem.W.Frag} {ns : List Int} (h : OE S t σ H m a (oL fun ds => ds = ns.map PyData.int)) (hn : ns.length ≤ 10000) : OE S (tCB (rLenS K) (tCons t tNil)) σ H 110 0 (oI fun z => z = (ns.length : Int)) := fun H1 Q e1 at1 q =>
  h H1 _ e1 at1 fun v H2 e2 at2 o => by
    obtain ⟨_, h1, h2, x, rfl, rfl⟩ := o
    obtain ⟨p, xs, rfl, hp, ax⟩ := dq_lst h1
    refine ⟨p, xs, rfl, .inl (SqL.of (S.le _ _ _ hp)), ?_⟩
    rw [ax.len, List.length_map]
    exact q _ _ e2 at2 ⟨.int (ns.length : Int), .int _, rw_int (by omega) (by omega), _, rfl, rfl⟩
theorem od_isI {i : Int} (h : Od S m k B H (.int i)) : Od S m k (oI fun j => j = i) H (.int i) := by
  obtain ⟨d, h1, h2, _⟩ := h
  cases h1 with
  | int => exact ⟨_, .int i, h2, i, rfl, rfl⟩
theorem oe_len {K : PySem.W.Frag} {A : List PyData → Prop} (h : OE S t σ H m a (oL A)) (hm : m ≤ 16777216) : OE S (tCB (rLenS K) (tCons t tNil)) σ H 110 0 (oI fun z => ∃ ds : List PyData, z = ds.length ∧ A ds ∧ ds.length ≤ m) := fun H1 Q e1 at1 q =>
  h H1 _ e1 at1 fun v H2 e2 at2 o => by
    obtain ⟨_, h1, h2, x, rfl, h3⟩ := o
    obtain ⟨p, xs, rfl, hp, ax⟩ := dq_lst h1
    have hl := rw_len h2
    refine ⟨p, xs, rfl, .inl (SqL.of (S.le _ _ _ hp)), ?_⟩
    rw [ax.len]
    exact q _ _ e2 at2 ⟨.int (x.length : Int), .int _, rw_int (by omega) (by omega), _, rfl, x, rfl, h3, hl⟩
theorem oe_tupOf {K : PySem.W.Frag} {A : List PyData → Prop} (h : OE S t σ H m k (oL A)) : OE S (tCB (fun xs H Q => ∃ p ys, xs = [.ref p] ∧ ((SqL K H p ys ∧ ∀ l, H l = none → Q (.ref l) (upd H l (.tup ys))) ∨ (SqT K H p ys ∧ Q (.ref p) H))) (tCons t tNil)) σ H (m + 1) k (oT A) := fun H1 Q e1 at1 q =>
  h H1 _ e1 at1 fun v H2 e2 at2 o => by
    obtain ⟨_, h1, h2, x, rfl, h3⟩ := o
    obtain ⟨p, xs, rfl, hp, ax⟩ := dq_lst h1
    refine ⟨p, xs, rfl, .inl ⟨SqL.of (S.le _ _ _ hp), fun c nc => ?_⟩⟩
    obtain ⟨at3, e3⟩ := S.same at2 (same_new (o := .tup xs) nc)
    exact q _ _ (S.trans e2 e3) at3 ⟨.tuple x, .tup (S.new _ at2 nc) (ax.same (S.kp e3)), rw_totup h2, x, rfl, h3⟩
theorem oe_listOf {K : PySem.W.Frag} {A : List PyData → Prop} (h : OE S t σ H m k (oL A)) : OE S (tCB (fun xs H Q => ∃ p ys, xs = [.ref p] ∧ (SqL K H p ys ∨ SqT K H p ys) ∧ ∀ l, H l = none → Q (.ref l) (upd H l (.lst ys))) (tCons t tNil)) σ H m k (oL A) := fun H1 Q e1 at1 q =>
  h H1 _ e1 at1 fun v H2 e2 at2 o => by
    obtain ⟨_, h1, h2, x, rfl, h3⟩ := o
    obtain ⟨p, xs, rfl, hp, ax⟩ := dq_lst h1
    refine ⟨p, xs, rfl, .inl (SqL.of (S.le _ _ _ hp)), fun c nc => ?_⟩
    obtain ⟨at3, e3⟩ := S.same at2 (same_new (o := .lst xs) nc)
    exact q _ _ (S.trans e2 e3) at3 ⟨.list x, .lst (S.new _ at2 nc) (ax.same (S.kp e3)), h2, x, rfl, h3⟩
theorem flat_rep {α : Type} (x : α) : ∀ n : Nat, (List.replicate n [x]).flatten = List.replicate n x
  | 0 => rfl
  | n + 1 => by
    rw [List.replicate_succ, List.flatten_cons, flat_rep x n]
    rfl
theorem DqAll.repl {G : Hp} {v : V} {d : PyData} (h : Dq G v d) : ∀ n : Nat, DqAll G (List.replicate n v) (List.replicate n d)
  | 0 => .nil
  | n + 1 => by
    rw [List.replicate_succ, List.replicate_succ]
    exact .cons h (DqAll.repl h n)
/-- [x] * n -/
theorem oe_rep1 {n : Nat} (h : OE S t σ H m k B) (hn : n ≤ 1000) (hm : m ≤ 10000) : OE S (tOp rRep (tLst (tCons t tNil)) (tC (.int (n : Int)))) σ H (n * (m + 2) + 2) (k + 1) (oL fun ds => ∃ x, ds = List.replicate n x ∧ B x) := fun H1 Q e1 at1 q =>
  oe_lst (oa_cons h oa_nil) (by omega) H1 _ e1 at1 fun v H2 e2 at2 o => by
    rw [Nat.max_eq_left (Nat.zero_le k)] at o
    obtain ⟨_, h1, h2, _, rfl, x, _, rfl, h3, rfl⟩ := o
    obtain ⟨p, xs, rfl, hp, ax⟩ := dq_lst h1
    cases ax with
    | @cons v _ _ _ hv an =>
      cases an
      refine ⟨p, (n : Int), [v], rfl, rfl, S.le _ _ _ hp, by omega, by omega, line_small (by rw [Int.toNat_natCast]; show 1 * n ≤ _; omega), fun c nc => ?_⟩
      rw [Int.toNat_natCast, flat_rep]
      obtain ⟨at3, e3⟩ := S.same at2 (same_new (o := .lst (List.replicate n v)) nc)
      obtain ⟨j, ej, h4⟩ := h2.lst
      have h5 := rw_repl (h4.mem List.mem_cons_self) n
      refine q _ _ (S.trans e2 e3) at3 ⟨.list (List.replicate n x), .lst (S.new _ at2 nc) ((DqAll.repl hv n).same (S.kp e3)), ?_, _, rfl, x, rfl, h3⟩
      have h6 : Rw m k x := by
        have s1 := h4.s
        have s2 := h4.l
        have s3 := h4.d
        have t2 := h2.l
        have t3 := h2.d
        rw [PyData.showableAll, Bool.and_eq_true] at s1
        rw [wt, wtL, wtL] at t2
        rw [PyData.depth, PyData.depthAll] at t3
        exact ⟨s1.1, by omega, by omega⟩
      exact rw_list (rw_repl h6 n)
theorem oe_d0 : OE S (fun _ H1 Q => ∀ d, H1 d = none → Q (.ref d) (upd H1 d (.dK []))) σ H 2 1 (fun d => d = .dict []) := fun H1 Q e1 at1 q => fun c nc => by
  obtain ⟨at3, e3⟩ := S.same at1 (same_new (o := .dK []) nc)
  exact q _ _ e3 at3 ⟨.dict [], .dic (S.new _ at1 nc) .nil, rw_dict0, rfl⟩
/-! statements -/
theorem os_set {i : Nat} {v : TS} {D : Ends} (at1 : S.At H) (h : OE S t σ H m k B) (q : ∀ x H', S.Kp H H' → S.At H' → Od S m k B H' x → v D (σ.set i (some x)) H') : tSeq (tAsg t (gName i)) v D σ H := h H _ (S.refl _) at1 q
theorem os_ret {D : Ends} (at1 : S.At H) (h : OE S t σ H m k B) (q : ∀ x H', S.Kp H H' → S.At H' → Od S m k B H' x → D.rt x H') : tRet t D σ H := h H _ (S.refl _) at1 q
end
end Fo
namespace Fo
open PySem PySem.Spec PyProof.Rows L2
/-! comprehensions whose values are flat; ranges; the store as a source -/
def flatD : PyData → Bool
  | .none => true
  | .bool _ => true
  | .int _ => true
  | .str _ => true
  | _ => false
theorem dq_flat {G G' : Hp} {v : V} {d : PyData} (h : Dq G v d) (f : flatD d = true) : Dq G' v d := by
  cases h with
  | non => exact .non
  | bl b => exact .bl b
  | int i => exact .int i
  | str x => exact .str x
  | _ => cases f
theorem dqAll_flat {G G' : Hp} : ∀ {vs : List V} {ds : List PyData}, DqAll G vs ds → (∀ d ∈ ds, flatD d = true) → DqAll G' vs ds
  | _, [], h, _ => by cases h; exact .nil
  | _, d :: ds, h, f => by
    cases h with
    | cons h1 h2 => exact .cons (dq_flat h1 (f d List.mem_cons_self)) (dqAll_flat h2 fun x hx => f x (List.mem_cons_of_mem _ hx))
/-- two lists, one by one -/
inductive Two2 {α β : Type} (R : α → β → Prop) : List α → List β → Prop
  | nil : Two2 R [] []
  | snoc {xs : List α} {ys : List β} {x : α} {y : β} : Two2 R xs ys → R x y → Two2 R (xs ++ [x]) (ys ++ [y])
theorem Two2.len {α β : Type} {R : α → β → Prop} {xs : List α} {ys : List β} (h : Two2 R xs ys) : xs.length = ys.length := by
  induction h with
  | nil => rfl
  | snoc _ _ ih => rw [List.length_append, List.length_append, ih]; rfl
theorem Two2.memR {α β : Type} {R : α → β → Prop} {xs : List α} {ys : List β} (h : Two2 R xs ys) : ∀ y ∈ ys, ∃ x ∈ xs, R x y := by
  induction h with
  | nil => exact fun _ h => absurd h List.not_mem_nil
  | snoc h r ih =>
    intro y hy
    rcases List.mem_append.mp hy with hy | hy
    · obtain ⟨x, hx, hr⟩ := ih y hy
      exact ⟨x, List.mem_append_left _ hx, hr⟩
    · rw [List.mem_singleton.mp hy]
      exact ⟨_, List.mem_append_right _ List.mem_cons_self, r⟩
theorem Two2.memL {α β : Type} {R : α → β → Prop} {xs : List α} {ys : List β} (h : Two2 R xs ys) : ∀ x ∈ xs, ∃ y ∈ ys, R x y := by
  induction h with
  | nil => exact fun _ h => absurd h List.not_mem_nil
  | snoc h r ih =>
    intro x hx
    rcases List.mem_append.mp hx with hx | hx
    · obtain ⟨y, hy, hr⟩ := ih x hx
      exact ⟨y, List.mem_append_left _ hy, hr⟩
    · rw [List.mem_singleton.mp hx]
      exact ⟨_, List.mem_append_right _ List.mem_cons_self, r⟩
theorem rws_snoc {a b k : Nat} {d : PyData} {ds : List PyData} (g : Rws b k ds) (h : Rw a k d) : Rws (b + (a + 2)) k (ds ++ [d]) := (g.app (rws_cons h rws_nil)).mono (by omega) (Nat.le_refl _)
theorem DqAll.snoc {G : Hp} {vs : List V} {ds : List PyData} {v : V} {d : PyData} (h : DqAll G vs ds) (g : Dq G v d) : DqAll G (vs ++ [v]) (ds ++ [d]) := h.app (.cons g .nil)
section
variable {S : Src} {σ : L2.St} {H : Hp} {m k a b : Nat} {B C : PyData → Prop} {t u : TE}
theorem oe_lcF {K : PySem.W.Frag} {j : Nat} {vs : List Nat} {A : List PyData → Prop} {R : PyData → PyData → Prop} {me ke n : Nat} {te : TE} (h : OE S t σ H m a (oL A)) (hn : ∀ ds, A ds → ds.length ≤ n) (hz : n * (me + 2) ≤ 16777216)
    (hw : ∀ x : V, wipe ((wipe σ vs).set j (some x)) vs = wipe σ vs) (he : ∀ ds x v H', A ds → x ∈ ds → S.Kp H H' → S.At H' → Dq (S.cut H') v x → OE S te ((wipe σ vs).set j (some v)) H' me ke (R x)) (hf : ∀ x y, R x y → flatD y = true) :
    OE S (tLc (iList K t) (gName j) tYes te vs) σ H (n * (me + 2) + 2) (ke + 1) (oL fun ys => ∃ xs, A xs ∧ Two2 R xs ys) := fun H1 Q e1 at1 q =>
  h H1 _ e1 at1 fun v H2 e2 at2 o => by
    obtain ⟨_, h1, h2, ds, rfl, h3⟩ := o
    obtain ⟨p, xs, rfl, hp, ax⟩ := dq_lst h1
    refine ⟨p, rfl, ⟨xs, SqL.of (S.le _ _ _ hp)⟩, fun D nD => ?_⟩
    have hD0 := S.put (.lst []) at2 (S.refl _) at2 nD
    have hpD : p ≠ D := fun z => by rw [z] at hp; have := S.le _ _ _ hp; rw [nD] at this; cases this
    refine lc_list (K := K) (a := p) (xs := xs) (fun i H3 => ∃ acc ys, H3 D = some (.lst acc) ∧ S.cut H3 D = some (.lst acc) ∧ acc.length = i ∧ DqAll H3 acc ys ∧ (∀ d ∈ ys, flatD d = true) ∧ Rws (i * (me + 2)) ke ys ∧ Two2 R (ds.take i) ys ∧ S.Kp H2 H3 ∧ S.At H3)
      ⟨[], [], upd_same, hD0.2.2.1, rfl, .nil, fun _ h => absurd h List.not_mem_nil, rws_nil.mono (Nat.zero_le _) (Nat.le_refl _), by rw [List.take_zero]; exact .nil, hD0.2.1, hD0.1⟩
      (fun i H3 _ hP => by obtain ⟨_, _, _, _, _, _, _, _, _, k3, _⟩ := hP; exact SqL.of (S.le _ _ _ (S.kp k3 _ _ hp))) (fun i x H3 hx hP => ?_) (fun H3 hP => ?_)
    · obtain ⟨acc, ys, hD, hcD, la, ay, fy, ry, ty, k3, at3⟩ := hP
      obtain ⟨d, ed, hd⟩ := (ax.same (S.kp k3)).get hx
      have hi := (List.getElem?_eq_some_iff.mp ed).1
      have hin := hn ds h3
      refine ⟨hw x, ?_⟩
      refine (he ds d x H3 h3 (List.mem_of_getElem? ed) (S.trans e1 (S.trans e2 k3)) at3 hd) H3 _ (S.refl _) at3 fun y H4 k4 at4 o4 => ?_
      obtain ⟨z, hz4, rz, bz⟩ := o4
      have hD4 : H4 D = some (.lst acc) := S.le _ _ _ (S.kp k4 _ _ hcD)
      have pD := S.put (.lst (acc ++ [y])) at2 (S.trans k3 k4) at4 nD
      refine ⟨acc, hD4, line_small (by
        have : i * 2 ≤ 16777216 := by
          have a1 : i * (me + 2) ≤ n * (me + 2) := Nat.mul_le_mul_right _ (by omega)
          have a2 : i * 2 ≤ i * (me + 2) := Nat.mul_le_mul_left _ (by omega)
          omega
        omega), acc ++ [y], ys ++ [z], upd_same, pD.2.2.1, by rw [List.length_append, la]; rfl, (dqAll_flat ay fy).snoc (dq_flat hz4 (hf _ _ bz)), fun w hw => ?_, ?_, ?_, pD.2.1, pD.1⟩
      · rcases List.mem_append.mp hw with hw | hw
        · exact fy w hw
        · rw [List.mem_singleton.mp hw]
          exact hf _ _ bz
      · rw [Nat.succ_mul]
        exact rws_snoc ry rz
      · rw [List.take_add_one, ed]
        exact ty.snoc bz
    · obtain ⟨acc, ys, hD, hcD, la, ay, fy, ry, ty, k3, at3⟩ := hP
      rw [ax.len, List.take_length] at ty
      have hin := hn ds h3
      exact q _ _ (S.trans e2 k3) at3 ⟨.list ys, .lst hcD (dqAll_flat ay fy), rw_list (ry.mono (Nat.mul_le_mul_right _ (by rw [ax.len]; exact hin)) (Nat.le_refl _)), ys, rfl, ds, h3, ty⟩
theorem od_int {A : Int → Prop} {v : V} (h : Od S m k (oI A) H v) : ∃ i, v = .int i ∧ A i := by
  obtain ⟨_, h1, _, i, rfl, h3⟩ := h
  exact ⟨i, dq_intI h1, h3⟩
theorem od_of_int {i : Int} {A : Int → Prop} (h : -100000000000000000000000000 ≤ i ∧ i ≤ 100000000000000000000000000) (g : A i) : Od S 110 0 (oI A) H (.int i) := ⟨.int i, .int i, rw_int h.1 h.2, i, rfl, g⟩
theorem dqAll_intsG {G : Hp} : ∀ {ns : List Int}, DqAll G (ns.map V.int) (ns.map PyData.int)
  | [] => .nil
  | n :: r => .cons (.int n) dqAll_intsG
theorem od_ints {a : Addr} {ns : List Int} {n : Nat} (h : S.cut H a = some (.lst (ns.map V.int))) (hb : ∀ x ∈ ns, -100000000000000000000000000 ≤ x ∧ x ≤ 100000000000000000000000000) (hn : ns.length ≤ n) : Od S (n * 112 + 2) 1 (oL fun ds => ds = ns.map PyData.int) H (.ref a) :=
  ⟨.list (ns.map PyData.int), .lst h dqAll_intsG, rw_list ((rws_ints hb).mono (Nat.mul_le_mul_right _ hn) (Nat.le_refl 0)), _, rfl, rfl⟩
theorem od_str {x : Str} {A : Str → Prop} {n : Nat} (h : (reprText x).length ≤ n) (g : A x) : Od S n 0 (oS A) H (.str x) := ⟨.str x, .str x, rw_str h, x, rfl, g⟩
end
end Fo
namespace Fo
open PySem PySem.Spec PyProof.Rows L2
/-! short texts -/
structure TxOk (m : Nat) (x : Str) : Prop where
  l : x.length ≤ m
  c : ∀ c ∈ x.cps.toList, c < 16 ^ 8
theorem TxOk.app {m n : Nat} {x y : Str} (a : TxOk m x) (b : TxOk n y) : TxOk (m + n) (x ++ y) := by
  refine ⟨?_, fun c hc => ?_⟩
  · rw [strLen_append]
    have := a.l
    have := b.l
    omega
  · have e : (x ++ y).cps.toList = x.cps.toList ++ y.cps.toList := by
      show (x.cps ++ y.cps).toList = _
      simp
    rw [e] at hc
    rcases List.mem_append.mp hc with h | h
    · exact a.c c h
    · exact b.c c h
theorem TxOk.cut {m : Nat} {x : Str} (a : TxOk m x) (lo hi : Option Int) : TxOk m (cutS x lo hi) := by
  refine ⟨?_, fun c hc => ?_⟩
  · have := a.l
    show (((x.cps.toList.drop _).take _).toArray).size ≤ m
    rw [List.size_toArray, List.length_take, List.length_drop, Array.length_toList]
    have e : x.length = x.cps.size := rfl
    omega
  · have hc : c ∈ (x.cps.toList.drop _).take _ := hc
    exact a.c c (List.mem_of_mem_drop (List.mem_of_mem_take hc))
theorem TxOk.mono {m n : Nat} {x : Str} (a : TxOk m x) (h : m ≤ n) : TxOk n x := ⟨Nat.le_trans a.l h, a.c⟩
theorem TxOk.rw {m : Nat} {x : Str} (a : TxOk m x) : Rw (10 * m + 2) 0 (.str x) := rw_str (by
  have h1 := StrLaws.reprText_len x a.c
  have h2 := a.l
  omega)
theorem tx_one {c : Nat} (h : c < 16 ^ 8) : TxOk 1 ⟨#[c]⟩ := ⟨Nat.le_refl _, fun d hd => by
  have : d = c := List.mem_singleton.mp hd
  rw [this]
  exact h⟩
theorem at_memG {α : Type} {xs : List α} {i : Int} (h0 : 0 ≤ i) (h1 : i < (xs.length : Int)) : ∃ v, atI xs i = some v ∧ v ∈ xs := by
  have hl : i.toNat < xs.length := by omega
  refine ⟨xs[i.toNat], ?_, List.getElem_mem hl⟩
  unfold atI ixN
  rw [if_pos h0, if_pos h1]
  exact List.getElem?_eq_getElem hl
abbrev oX (m : Nat) (A : Str → Prop) : PyData → Prop := oS fun x => TxOk m x ∧ A x
section
variable {S : Src} {σ : L2.St} {H : Hp} {m n k a b : Nat} {t u : TE} {A A' : Str → Prop}
theorem oe_tx {x : Str} (n : Nat) (h : TxOk n x) : OE S (tC (.str x)) σ H (10 * n + 2) 0 (oX n fun y => y = x) := (oe_c (fun _ => .str x) h.rw).imp fun _ e => ⟨x, e, h, rfl⟩
theorem od_tx {v : V} (h : Od S a k (oX m A) H v) : ∃ x, v = .str x ∧ TxOk m x ∧ A x := by
  obtain ⟨_, h1, _, x, rfl, h3⟩ := h
  exact ⟨x, dq_strI h1, h3⟩
theorem od_of_tx {x : Str} (h : TxOk m x) (g : A x) : Od S (10 * m + 2) 0 (oX m A) H (.str x) := ⟨.str x, .str x, h.rw, x, rfl, h, g⟩
theorem oe_catS (h : OE S t σ H a k (oX m A)) (g : OE S u σ H b k (oX n A')) (hm : m + n ≤ 16777216) : OE S (tOp (fun x y H Q => ∃ i j, x = .str i ∧ y = .str j ∧ i.length + j.length ≤ sizeLine ∧ Q (.str (i ++ j)) H) t u) σ H (10 * (m + n) + 2) 0 (oX (m + n) fun z => ∃ x y, z = x ++ y ∧ A x ∧ A' y) := fun H1 Q e1 at1 q =>
  h H1 _ e1 at1 fun v H2 e2 at2 o => g H2 _ (S.trans e1 e2) at2 fun w H3 e3 at3 o' => by
    obtain ⟨x, rfl, x1, x2⟩ := od_tx o
    obtain ⟨y, rfl, y1, y2⟩ := od_tx o'
    have l1 := x1.l
    have l2 := y1.l
    exact ⟨x, y, rfl, rfl, line_small (by omega), q _ _ (S.trans e2 e3) at3 (od_of_tx (x1.app y1) ⟨x, y, rfl, x2, y2⟩)⟩
theorem oe_slS {tl th : TO} {P R : Option Int → Prop} (h : OE S t σ H a k (oX m A)) (hl : OO S tl σ H P) (hh : OO S th σ H R) (hm : m ≤ 16777216) : OE S (tSl rSlS t tl th) σ H (10 * m + 2) 0 (oX m fun z => ∃ x l u, z = cutS x l u ∧ A x ∧ P l ∧ R u) := fun H1 Q e1 at1 q =>
  h H1 _ e1 at1 fun v H2 e2 at2 o => hl H2 _ (S.trans e1 e2) at2 fun l H3 e3 at3 pl => hh H3 _ (S.trans e1 (S.trans e2 e3)) at3 fun u H4 e4 at4 pu => by
    obtain ⟨x, rfl, x1, x2⟩ := od_tx o
    have l1 := x1.l
    exact ⟨x, rfl, line_small (by omega), q _ _ (S.trans (S.trans e2 e3) e4) at4 (od_of_tx (x1.cut l u) ⟨x, l, u, rfl, x2, pl, pu⟩)⟩
theorem oe_ixS {z : Str} {B : Int → Prop} (hl : z.length = n) (hz : n ≤ 16777216) (hc : ∀ c ∈ z.cps.toList, c < 16 ^ 8) (g : OE S u σ H a b (oI B)) (hi : ∀ i, B i → 0 ≤ i ∧ i < (n : Int)) : OE S (tOp rIxS (tC (.str z)) u) σ H 12 0 (oX 1 fun y => ∃ c ∈ z.cps.toList, y = ⟨#[c]⟩) := fun H1 Q e1 at1 q =>
  g H1 _ e1 at1 fun w H3 e3 at3 o' => by
    obtain ⟨i, rfl, gi⟩ := od_int o'
    obtain ⟨i0, i1⟩ := hi i gi
    obtain ⟨c, ec, mc⟩ := at_memG (xs := z.cps.toList) i0 (by rw [Array.length_toList]; show i < ((z.length : Nat) : Int); rw [hl]; exact i1)
    exact ⟨z, i, c, rfl, rfl, line_small (by rw [hl]; exact hz), ec, q _ _ e3 at3 ((od_of_tx (tx_one (hc c mc)) ⟨c, mc, rfl⟩))⟩
theorem oe_upper (h : OE S t σ H a b (oX m A)) (hm : m ≤ 5592405) (hu : ∀ x, A x → TxOk n (Txt.upper x)) : OE S (tM0 (fun x xs H Q => ∃ a, x = .str a ∧ xs = [] ∧ a.length ≤ 5592405 ∧ Q (.str (Txt.upper a)) H) t) σ H (10 * n + 2) 0 (oX n fun z => ∃ x, z = Txt.upper x ∧ A x) := fun H1 Q e1 at1 q =>
  h H1 _ e1 at1 fun v H2 e2 at2 o => by
    obtain ⟨x, rfl, x1, x2⟩ := od_tx o
    have l1 := x1.l
    exact ⟨⟨x, rfl⟩, x, rfl, rfl, by omega, q _ _ e2 at2 (od_of_tx (hu x x2) ⟨x, rfl, x2⟩)⟩
theorem oe_lenS (h : OE S t σ H a b (oX m A)) (hm : m ≤ 16777216) : OE S (tCB (fun xs H Q => ∃ z, xs = [.str z] ∧ z.length ≤ sizeLine ∧ Q (.int z.length) H) (tCons t tNil)) σ H 110 0 (oI fun i => ∃ x : Str, i = (x.length : Int) ∧ A x) := fun H1 Q e1 at1 q =>
  h H1 _ e1 at1 fun v H2 e2 at2 o => by
    obtain ⟨x, rfl, x1, x2⟩ := od_tx o
    have l1 := x1.l
    exact ⟨x, rfl, line_small (by omega), q _ _ e2 at2 (od_of_int ⟨by omega, by omega⟩ ⟨x, rfl, x2⟩)⟩
/-- {text: number} -/
theorem oe_d1 {i : Nat} {z : Str} {y : Int} (e : σ[i]? = some (some (.str z))) (h : TxOk m z) (hy : -100 ≤ y ∧ y ≤ 100) : OE S (tDisp [(tVar i, tC (.int y))]) σ H (10 * m + 2 + 110 + 6) 1 (fun d => d = .dict [(.str z, .int y)]) := fun H1 Q e1 at1 q => fun p np => by
  refine ⟨_, e, upd_same, [(.inr z, .int y)], rfl, (by show 1 ≤ 15; decide), ?_⟩
  have p1 := S.put (.dK []) at1 (S.refl _) at1 np
  have p2 := S.put (.dK (mergeK [] [(.inr z, .int y)])) at1 p1.2.1 p1.1 np
  exact q _ _ p2.2.1 p2.1 ⟨.dict [(.str z, .int y)], .dic p2.2.2.1 (.cons .nil), rw_dict1 (m := 10 * m + 2) (n := 110) h.rw (rw_int (i := y) (by omega) (by omega)), rfl⟩
/-- list(range(n)) -/
theorem oe_lrg {n : Nat} (hn : n ≤ 1000) (h : OE S t σ H a b (oI fun i => i = (n : Int))) : OE S (tLstRg (tRg1 t)) σ H (n * 112 + 2) 1 (oL fun ds => ds = (rg n).map PyData.int) := fun H1 Q e1 at1 q =>
  h H1 _ e1 at1 fun v H2 e2 at2 o => by
    obtain ⟨i, rfl, rfl⟩ := od_int o
    refine ⟨_, rfl, ⟨by omega, by omega, by omega, by omega, by omega⟩, fun p np => ?_⟩
    obtain ⟨at3, e3⟩ := S.same at2 (same_new (o := .lst (rgV 0 (n : Int))) np)
    have hb : ∀ x ∈ rg n, -100000000000000000000000000 ≤ x ∧ x ≤ 100000000000000000000000000 := fun x hx => by
      have := rg_mem.mp hx
      omega
    refine q _ _ (S.trans e2 e3) at3 ⟨.list ((rg n).map PyData.int), .lst (by rw [S.new _ at2 np, rg_V]) dqAll_intsG, ?_, _, rfl, rfl⟩
    exact (rw_list (rws_ints (b := 0) hb)).mono (by rw [rg_len]; exact Nat.le_refl _) (Nat.le_refl _)
end
end Fo
namespace Fo
open PySem PySem.Spec PyProof.Rows L2
theorem oe_strI {S : Src} {σ : L2.St} {H : Hp} {m a : Nat} {t : TE} {A : Int → Prop} (h : OE S t σ H m a (oI A)) (hb : ∀ i, A i → -100000000000000000000000000 ≤ i ∧ i ≤ 100000000000000000000000000) : OE S (tCB (fun xs H Q => ∃ i, xs = [.int i] ∧ i.natAbs.log2 < 1920 ∧ Q (.str (toString i)) H) (tCons t tNil)) σ H 1102 0 (oX 110 fun x => ∃ i : Int, x = toString i ∧ A i) := fun H1 Q e1 at1 q =>
  h H1 _ e1 at1 fun v H2 e2 at2 o => by
    obtain ⟨i, rfl, hi⟩ := od_int o
    obtain ⟨b1, b2⟩ := hb i hi
    have hl := log2_100 b1 b2
    have ht : TxOk 110 (Str.ofString (toString i)) := ⟨by
      have := int_text_length_le (k := 100) (by decide) hl
      rw [PySem.ofString_length]
      omega, fun c hc => by
      rw [PyProof.Rows.signs_ofString] at hc
      obtain ⟨ch, _, rfl⟩ := List.mem_map.mp hc
      exact ch.val.toNat_lt⟩
    exact ⟨i, rfl, by omega, q _ _ e2 at2 (od_of_tx ht ⟨i, rfl, hi⟩)⟩
end Fo
namespace Fo
open PySem PySem.Spec PyProof.Rows L2
/-! loops over lists of anything -/
section
variable {S : Src} {σ : L2.St} {H : Hp} {m k a b : Nat} {B C : PyData → Prop} {t u : TE}
theorem of_list {K : PySem.W.Frag} {A : List PyData → Prop} {g : TG} {tb : TS} {D : Ends} (at1 : S.At H) (h : OE S t σ H m k (oL A)) (Pv : L2.St → Hp → Prop) (h0 : ∀ H', S.Kp H H' → S.At H' → Pv σ H')
    (hs : ∀ σ' H' x d (N : L2.St → Hp → Prop), Pv σ' H' → S.Kp H H' → S.At H' → Dq (S.cut H') x d → Rw m k d → (∃ ds, A ds ∧ d ∈ ds) → (∀ s h, Pv s h → S.Kp H' h → S.At h → N s h) → g x σ' H' fun σ2 H2 => tb { D with nx := N, ct := N, bk := D.nx } σ2 H2) (hd : ∀ σ' H', Pv σ' H' → S.Kp H H' → S.At H' → D.nx σ' H') : tFor (iList K t) g tb D σ H :=
  h H _ (S.refl H) at1 fun v H2 e2 at2 o => by
    obtain ⟨_, h1, h2, ds, rfl, h3⟩ := o
    obtain ⟨p, xs, rfl, hp, ax⟩ := dq_lst h1
    refine ⟨p, rfl, ⟨xs, SqL.of (S.le _ _ _ hp)⟩, ?_⟩
    refine for_list (xs := xs) (fun _ s h => (Pv s h ∧ S.Kp H h ∧ S.At h) ∧ S.Kp H2 h) ⟨⟨h0 H2 e2 at2, e2, at2⟩, S.refl _⟩ (fun i s h _ w => SqL.of (S.le _ _ _ (S.kp w.2 _ _ hp))) (fun i x s h hx w => ?_) (fun s h w => hd s h w.1.1 w.1.2.1 w.1.2.2)
    obtain ⟨d, ed, hdq⟩ := (ax.same (S.kp w.2)).get hx
    have md := List.mem_of_getElem? ed
    exact hs s h x d _ w.1.1 w.1.2.1 w.1.2.2 hdq (rw_mem h2 md) ⟨ds, h3, md⟩ fun s' h' p k at' => ⟨⟨p, S.trans w.1.2.1 k, at'⟩, S.trans w.2 k⟩
theorem og_pair {K : PySem.W.Frag} {x : V} {p q : PyData} {i j : Nat} {Q : L2.St → Hp → Prop} (h : Dq (S.cut H) x (.tuple [p, q])) (c : ∀ v w, Dq (S.cut H) v p → Dq (S.cut H) w q → Q ((σ.set i (some v)).set j (some w)) H) : gTup K 2 (gCons (gName i) (gCons (gName j) gNil)) x σ H Q := by
  obtain ⟨a, xs, rfl, e, al⟩ := dq_tupI h
  cases al with
  | cons h1 al =>
    cases al with
    | cons h2 al =>
      cases al
      exact ⟨a, _, rfl, SqT.of (S.le _ _ _ e), rfl, _, _, rfl, _, _, rfl, rfl, c _ _ h1 h2⟩
end
end Fo
namespace Fo
open PySem PySem.Spec PyProof.Rows L2
section
variable {S : Src} {σ : L2.St} {H : Hp} {m k : Nat} {B : PyData → Prop} {t : TE}
theorem of_run {K : PySem.W.Frag} {A : List PyData → Prop} {g : TG} {tb : TS} {D : Ends} (at1 : S.At H) (h : OE S t σ H m k (oL A)) (q : ∀ p xs H', S.Kp H H' → S.At H' → S.cut H' p = some (.lst xs) → (∃ ds, DqAll (S.cut H') xs ds ∧ Rw m k (.list ds) ∧ A ds) → ∃ W : Nat → Nat → L2.St → Hp → Prop, (∃ m, W 0 m σ H') ∧ ∀ i m σ H, W i m σ H →
      ((Itl K p).stop i H ∧ D.nx σ H) ∨ ((Itl K p).go i H ∧ ∃ N : L2.St → Hp → Prop, (∀ σ' H', N σ' H' → ∃ m', m' < m ∧ W (i + 1) m' σ' H') ∧ ∀ x H', (Itl K p).yld i H x H' → g x σ H' fun σ2 H2 => tb { D with nx := N, ct := N, bk := D.nx } σ2 H2)) : tFor (iList K t) g tb D σ H :=
  h H _ (S.refl H) at1 fun v H2 e2 at2 o => by
    obtain ⟨_, h1, h2, ds, rfl, h3⟩ := o
    obtain ⟨p, xs, rfl, hp, ax⟩ := dq_lst h1
    exact ⟨p, rfl, ⟨xs, SqL.of (S.le _ _ _ hp)⟩, q p xs H2 e2 at2 hp ⟨ds, ax, h2, h3⟩⟩
theorem oa_one {Q : List V → Hp → Prop} (at1 : S.At H) (h : OE S t σ H m k B) (q : ∀ v H', S.Kp H H' → S.At H' → Od S m k B H' v → Q [v] H') : tCons t tNil σ H Q := h H _ (S.refl H) at1 q
end
end Fo
namespace Fo
open PySem PySem.Spec PyProof.Rows L2
/-! sources: none, and one that stands at one address -/
def src0 : Src where
  At := fun _ => True
  Kp := Same
  cut := fun H => H
  refl := Same.refl
  trans := Same.trans
  kp := fun k => k
  le := Same.refl
  same := fun _ s => ⟨trivial, s⟩
  put := fun {H H1 p} o _ k _ np => ⟨trivial, fun b x e => by rw [upd_ne (ne_of_none e np)]; exact k b x e, upd_same, fun b hb => upd_ne hb⟩
open Classical in
noncomputable def cut1 (d : Addr) (H : Hp) : Hp := fun b => if b = d then none else H b
theorem cut1_ne {d : Addr} {H : Hp} {b : Addr} (h : b ≠ d) : cut1 d H b = H b := by
  unfold cut1
  rw [if_neg h]
theorem cut1_of {d : Addr} {H : Hp} {b : Addr} {o : HO} (h : cut1 d H b = some o) : H b = some o ∧ b ≠ d := by
  unfold cut1 at h
  split at h
  · cases h
  · exact ⟨h, by assumption⟩
noncomputable def src1 (d : Addr) (X : HO → Prop) : Src where
  At := fun H => ∃ o, H d = some o ∧ X o
  Kp := fun H H' => ∀ b o, H b = some o → b ≠ d → H' b = some o
  cut := cut1 d
  refl := fun _ _ _ e _ => e
  trans := fun k l b o e n => l b o (k b o e n) n
  kp := fun k b o e => by
    obtain ⟨e1, e2⟩ := cut1_of e
    rw [cut1_ne e2]
    exact k b o e1 e2
  le := fun _ _ _ e => (cut1_of e).1
  same := fun h s => ⟨by obtain ⟨o, e, x⟩ := h; exact ⟨o, s _ _ e, x⟩, fun b o e _ => s b o e⟩
  put := fun {H H1 p} o h k h1 np => by
    obtain ⟨q, e, x⟩ := h
    have n1 : p ≠ d := fun z => by rw [z, e] at np; cases np
    refine ⟨by obtain ⟨q1, e1, x1⟩ := h1; exact ⟨q1, by rw [upd_ne n1.symm]; exact e1, x1⟩, fun b x e f => ?_, by rw [cut1_ne n1]; exact upd_same, fun b hb => ?_⟩
    · rw [upd_ne (ne_of_none e np)]
      exact k b x e f
    · unfold cut1
      split
      · rfl
      · exact upd_ne hb
theorem os_put1 {d : Addr} {X : HO → Prop} {H : Hp} {o : HO} (x : X o) : (src1 d X).At (upd H d o) ∧ (src1 d X).Kp H (upd H d o) := ⟨⟨o, upd_same, x⟩, fun b q e n => by rw [upd_ne n]; exact e⟩
/-- the whole list made a source: it is added to -/
theorem od_1 {d : Addr} {X : HO → Prop} {m k : Nat} {B : PyData → Prop} {H H' : Hp} {v : V} (h : Od src0 m k B H v) (e : ∀ b o, H b = some o → (src1 d X).cut H' b = some o) : Od (src1 d X) m k B H' v := by
  obtain ⟨x, h1, h2, h3⟩ := h
  exact ⟨x, h1.same e, h2, h3⟩
end Fo
namespace Fo
open PySem PySem.Spec PyProof.Rows L2
theorem all_trues {l : List Bool} (h : ∀ b ∈ l, b = true) : l.all id = true := List.all_eq_true.mpr fun b hb => h b hb
def sumW (w : Str) (xs : List Int) (rs : List (List Int)) : Int := (rs.map (farW w xs)).sum
def spOLst : Sp := fun vs H Q _ => ∃ (l : Addr) (as : List Addr) (rs : List (List Int)) (n : Nat), vs = [.ref l] ∧ OL H l as rs n ∧ rs.length ≤ 1000 ∧ ∀ H', Same H H' → Q (.bl true) H'
def spCPoll : Sp := fun vs H Q _ => ∃ (l : Addr) (as : List Addr) (rs : List (List Int)) (n : Nat), vs = [.ref l] ∧ OL H l as rs n ∧ 1 ≤ rs.length ∧ rs.length ≤ 20 ∧ ∀ H', Same H H' → Q .non H'
def spKSum : Sp := fun vs H Q _ => ∃ (w : Str) (l o : Addr) (as : List Addr) (rs : List (List Int)) (n : Nat) (xs : List Int), vs = [.str w, .ref l, .ref o] ∧ IsWay w ∧ OL H l as rs n ∧ rs.length ≤ 1000 ∧ H o = some (.lst (xs.map V.int)) ∧ IsOrd n xs ∧ ∀ H', Same H H' → Q (.int (sumW w xs rs)) H'
theorem take_more' {α : Type} {l : List α} {i : Nat} {x : α} (h : l[i]? = some x) : l.take (i + 1) = l.take i ++ [x] := by
  rw [List.take_add_one, h]
  rfl
section
variable {P : Program} {w : World} {K : PySem.W.Frag} {mg : Str → Option Value} {base : Heap}
theorem scOLst : FnScope ["thing", "each", "order"] ["thing"] (defScope s_is_order_list) := ⟨rfl, rfl, rfl, by decide +kernel, rfl, by decide +kernel, by decide +kernel⟩
set_option maxHeartbeats 2000000 in
theorem ok_olst {f f1 : Addr} {fd d1 : FuncData} {k : Nat} (T : Df K mg "is_order_list" s_is_order_list ["thing"] f fd) (T_is_order : Df K mg "is_order" s_is_order ["thing"] f1 d1) (G_is_order : FnOk P w K mg base CX0 k f1 d1 ["thing"] spIsOrd) (B : Bi mg) : FnOk P w K mg base CX0 (k + 1) f fd ["thing"] spOLst := by
  refine T.F.ok scOLst (fun vs H Q E h => ?_) (fun cdv A outer s H vs Q E hr h => ?_)
  · obtain ⟨l, as, rs, n, rfl, _⟩ := h
    rfl
  · obtain ⟨l, as, rs, n, rfl, hO, hlen, q⟩ := h
    have hal := hO.ll.len
    refine ⟨_, 
      (pss_cons (ps_if (PW.pt (pw_or (pt_not (pt_val (pe_callB call_isi (by rfl) B.isinstance (by decide +kernel) (pa_cons (pv 0) (pa_cons (pe_bltn (v := .ty "list") (by rfl) B.list (by decide +kernel) rfl) pa_nil))))) (pw_or1 (pt_not (pt_val (pe_callB (cr_all rfl) (by rfl) B.all (by decide +kernel) (pa_cons (pe_lc (own := [("each", 1)]) (g := (gName 1)) (tt := tYes) (te := (tCall spIsOrd [] E0 (tCons (tVar 1) tNil))) rfl scOLst.nd (pi_list (pv 0)) (blkOk_by (N := ["thing", "each", "order"]) (sc := defScope s_is_order_list) (by decide +kernel)) (fun _ _ _ _ _ => (pg_name (i := 1) scOLst.nd rfl (.inl rfl))) (fun _ _ _ _ _ => pts_nil) (fun _ _ _ _ _ => (pe_call G_is_order hr (by rfl) T_is_order.g T_is_order.F.kp T_is_order.b .nil pass0 (pa_cons (pv 1) pa_nil)))) pa_nil)))))))
        (pss_one (ps_ret pe_bl))
        pss_nil)
      (pss_one (ps_ret (pe_callB (cr_all rfl) (by rfl) B.all (by decide +kernel) (pa_cons (pe_lc (own := [("order", 2)]) (g := (gName 2)) (tt := tYes) (te := (tOp rEq (tCB (rLenS K) (tCons (tVar 2) tNil)) (tCB (rLenS K) (tCons (tOp (rIxL K) (tVar 0) (tC (.int 0))) tNil)))) rfl scOLst.nd (pi_list (pv 0)) (blkOk_by (N := ["thing", "each", "order"]) (sc := defScope s_is_order_list) (by decide +kernel)) (fun _ _ _ _ _ => (pg_name (i := 2) scOLst.nd rfl (.inl rfl))) (fun _ _ _ _ _ => pts_nil) (fun _ _ _ _ _ => (pe_cmpR op_eq (pe_callB call_len_seq (by rfl) B.len PySem.boot_len (pa_cons (pv 2) pa_nil)) (pe_callB call_len_seq (by rfl) B.len PySem.boot_len (pa_cons (pe_ix ix_list (pv 0) pe_int (fun _ _ => rfl)) pa_nil)) (nomark _)))) pa_nil))))), ?_⟩
    refine ⟨_, rfl, _, _, _, _, true, rfl, .ty _, .base (.lst hO.top), kit_ty (by decide +kernel), true, rfl, iteF ?_⟩
    refine ⟨_, rfl, l, rfl, ⟨_, SqL.of hO.top⟩, fun p np => ?_⟩
    refine lc_list (K := K) (a := l) (xs := as.map V.ref) (fun i H3 => H3 p = some (.lst ((List.replicate i true).map V.bl)) ∧ Same H H3) ⟨upd_same, same_new np⟩ (fun i H3 _ hP => SqL.of (hP.2 _ _ hO.top)) (fun i x H3 hx hP => ?_) (fun H3 hP => ?_)
    · obtain ⟨a, ea, rfl⟩ := ref_at_inv hx
      obtain ⟨hp3, sm⟩ := hP
      obtain ⟨r, er, ha⟩ := (hO.ll.same sm).get ea
      refine ⟨rfl, _, rfl, a, n, r, rfl, ha, hO.ord r (List.mem_of_getElem? er), hO.n1, hO.n2, fun H4 s4 => ⟨_, s4 _ _ hp3, line_lt (by
        rw [List.length_map, List.length_replicate]
        have := (List.getElem?_eq_some_iff.mp ea).1
        omega), ?_, fun b o e => ?_⟩⟩
      · rw [upd_same, List.replicate_succ', List.map_append]
        rfl
      · rw [upd_ne (ne_of_none e np)]
        exact s4 _ _ (sm _ _ e)
    · obtain ⟨hp3, sm⟩ := hP
      have h3 := hO.same sm
      refine ⟨p, _, rfl, SqL.of hp3, _, rfl, ?_⟩
      rw [all_true]
      refine iteF ?_
      refine ⟨_, rfl, l, rfl, ⟨_, SqL.of h3.top⟩, fun p2 np2 => ?_⟩
      refine lc_list (K := K) (a := l) (xs := as.map V.ref) (fun i H5 => H5 p2 = some (.lst ((List.replicate i true).map V.bl)) ∧ Same H3 H5) ⟨upd_same, same_new np2⟩ (fun i H5 _ hP => SqL.of (hP.2 _ _ h3.top)) (fun i x H5 hx hP => ?_) (fun H5 hP => ?_)
      · obtain ⟨a, ea, rfl⟩ := ref_at_inv hx
        obtain ⟨hp5, sm5⟩ := hP
        have h5 := h3.same sm5
        obtain ⟨r, er, ha⟩ := h5.ll.get ea
        have hi := (List.getElem?_eq_some_iff.mp ea).1
        obtain ⟨a0, ea0⟩ : ∃ a0, as[0]? = some a0 := ⟨as[0]'(by omega), List.getElem?_eq_getElem (by omega)⟩
        obtain ⟨r0, er0, ha0⟩ := h5.ll.get ea0
        have l1 := (h5.ord r (List.mem_of_getElem? er)).len
        have l2 := (h5.ord r0 (List.mem_of_getElem? er0)).len
        refine ⟨rfl, _, rfl, a, _, rfl, .inl (SqL.of ha), _, rfl, l, _, 0, _, rfl, rfl, SqL.of h5.top, at_of (j := 0) rfl (ref_at ea0), a0, _, rfl, .inl (SqL.of ha0), rfl, ?_⟩
        refine ⟨_, hp5, line_lt (by rw [List.length_map, List.length_replicate]; omega), ?_, fun b o e => ?_⟩
        · rw [upd_same, List.replicate_succ', List.map_append, List.length_map, List.length_map, l1, l2, decide_eq_true rfl]
          rfl
        · rw [upd_ne (ne_of_none e np2)]
          exact sm5 _ _ e
      · obtain ⟨hp5, sm5⟩ := hP
        refine ⟨p2, _, rfl, SqL.of hp5, ?_⟩
        rw [all_true]
        exact q _ (sm.trans sm5)
theorem scCPoll : FnScope ["thing"] ["thing"] (defScope s_check_poll) := ⟨rfl, rfl, rfl, by decide +kernel, rfl, by decide +kernel, by decide +kernel⟩
theorem ok_cpoll {f f1 : Addr} {fd d1 : FuncData} {k : Nat} {t : Tok} (T : Df K mg "check_poll" s_check_poll ["thing"] f fd) (T_is_order_list : Df K mg "is_order_list" s_is_order_list ["thing"] f1 d1) (G_is_order_list : FnOk P w K mg base CX0 k f1 d1 ["thing"] spOLst) (B : Bi mg) (mP : mg "MOST_POLLED" = some (.int 20 t)) : FnOk P w K mg base CX0 (k + 1) f fd ["thing"] spCPoll := by
  refine T.F.ok scCPoll (fun vs H Q E h => ?_) (fun cdv A outer s H vs Q E hr h => ?_)
  · obtain ⟨l, as, rs, n, rfl, _⟩ := h
    rfl
  · obtain ⟨l, as, rs, n, rfl, hO, h1, h2, q⟩ := h
    have hal := hO.ll.len
    have hml : (as.map V.ref).length = as.length := List.length_map _
    refine ⟨_, 
      (pss_one (ps_if (PW.pt (pw_or (pt_not (pt_val (pe_call G_is_order_list hr (by rfl) T_is_order_list.g T_is_order_list.F.kp T_is_order_list.b .nil pass0 (pa_cons (pv 0) pa_nil)))) (pw_or (pt_cmpR op_eq (pe_callB call_len_seq (by rfl) B.len PySem.boot_len (pa_cons (pv 0) pa_nil)) pe_int (nomark _)) (pw_or1 (pt_cmpR op_gt (pe_callB call_len_seq (by rfl) B.len PySem.boot_len (pa_cons (pv 0) pa_nil)) (pe_glob (v := .int 20) (by rfl) mP ⟨_, rfl⟩) (nomark _))))))
        (pss_one ps_never)
        pss_nil)), ?_⟩
    refine ⟨_, rfl, l, as, rs, n, rfl, hO, by omega, fun H1 s1 => ⟨_, rfl, iteF ?_⟩⟩
    have t1 := (hO.same s1).top
    refine ⟨_, rfl, l, _, rfl, .inl (SqL.of t1), rfl, _, rfl, ite2 (fun c => ?_) (fun _ => ?_)⟩
    · exfalso
      have z : V.int (((as.map V.ref).length : Nat) : Int) = V.int 0 := of_decide_eq_true c
      have z2 : (((as.map V.ref).length : Nat) : Int) = 0 := V.int.inj z
      omega
    refine ⟨_, rfl, l, _, rfl, .inl (SqL.of t1), _, 20, rfl, rfl, _, rfl, ite2 (fun c => absurd (of_decide_eq_true c) (by rw [hml]; omega)) (fun _ => q _ s1)⟩
theorem scKSum : FnScope ["way", "poll", "order", "other"] ["way", "poll", "order"] (defScope s_known_sum) := ⟨rfl, rfl, rfl, by decide +kernel, rfl, by decide +kernel, by decide +kernel⟩
set_option maxHeartbeats 2000000 in
theorem ok_ksum {f f1 : Addr} {fd d1 : FuncData} {k : Nat} (T : Df K mg "known_sum" s_known_sum ["way", "poll", "order"] f fd) (T_known_far : Df K mg "known_far" s_known_far ["way", "one", "other"] f1 d1) (G_known_far : FnOk P w K mg base CX0 k f1 d1 ["way", "one", "other"] spFar) (B : Bi mg) : FnOk P w K mg base CX0 (k + 1) f fd ["way", "poll", "order"] spKSum := by
  refine T.F.ok scKSum (fun vs H Q E h => ?_) (fun cdv A outer s H vs Q E hr h => ?_)
  · obtain ⟨z, l, o, as, rs, n, xs, rfl, _⟩ := h
    rfl
  · obtain ⟨z, l, o, as, rs, n, xs, rfl, hz, hO, h2, ho, ox, q⟩ := h
    have hal := hO.ll.len
    refine ⟨_, 
      (pss_one (ps_ret (pe_callB (cr_sum rfl) (by rfl) B.sum (by decide +kernel) (pa_cons (pe_lc (own := [("other", 3)]) (g := (gName 3)) (tt := tYes) (te := (tCall spFar [] E0 (tCons (tVar 0) (tCons (tVar 2) (tCons (tVar 3) tNil))))) rfl scKSum.nd (pi_list (pv 1)) (blkOk_by (N := ["way", "poll", "order", "other"]) (sc := defScope s_known_sum) (by decide +kernel)) (fun _ _ _ _ _ => (pg_name (i := 3) scKSum.nd rfl (.inl rfl))) (fun _ _ _ _ _ => pts_nil) (fun _ _ _ _ _ => (pe_call G_known_far hr (by rfl) T_known_far.g T_known_far.F.kp T_known_far.b .nil pass0 (pa_cons (pv 0) (pa_cons (pv 2) (pa_cons (pv 3) pa_nil)))))) pa_nil)))), ?_⟩
    refine ⟨_, rfl, l, rfl, ⟨_, SqL.of hO.top⟩, fun p np => ?_⟩
    refine lc_list (K := K) (a := l) (xs := as.map V.ref) (fun i H3 => H3 p = some (.lst (((rs.take i).map (farW z xs)).map V.int)) ∧ Same H H3) ⟨upd_same, same_new np⟩ (fun i H3 _ hP => SqL.of (hP.2 _ _ hO.top)) (fun i x H3 hx hP => ?_) (fun H3 hP => ?_)
    · obtain ⟨a, ea, rfl⟩ := ref_at_inv hx
      obtain ⟨hp3, sm⟩ := hP
      obtain ⟨r, er, ha⟩ := (hO.ll.same sm).get ea
      have hi := (List.getElem?_eq_some_iff.mp ea).1
      refine ⟨rfl, _, rfl, _, rfl, _, rfl, z, o, a, n, xs, r, rfl, hz, sm _ _ ho, ha, ox, hO.ord r (List.mem_of_getElem? er), hO.n1, hO.n2, fun H4 s4 => ⟨_, s4 _ _ hp3, line_lt (by rw [List.length_map, List.length_map, List.length_take]; omega), ?_, fun b o e => ?_⟩⟩
      · rw [upd_same, take_more' er, List.map_append, List.map_append]
        rfl
      · rw [upd_ne (ne_of_none e np)]
        exact s4 _ _ (sm _ _ e)
    · obtain ⟨hp3, sm⟩ := hP
      rw [List.take_of_length_le (by rw [List.length_map]; omega)] at hp3
      exact ⟨p, _, rfl, SqL.of hp3, q _ sm⟩
end
end Fo
namespace Fo
open PySem PySem.Spec PyProof.Rows L2
def aN (rs : List (List Int)) (i j : Int) : Int := (((rs.filter fun r => decide (pos r i < pos r j)).length : Nat) : Int)
def aM (n : Nat) (rs : List (List Int)) : List (List Int) := (rg n).map fun i => (rg n).map fun j => aN rs i j
theorem aN_self (rs : List (List Int)) (t : Int) : aN rs t t = 0 := by
  unfold aN
  rw [List.filter_eq_nil_iff.mpr]
  · rfl
  · intro r _
    simp
def spAhead : Sp := fun vs H Q _ => ∃ (l : Addr) (as : List Addr) (rs : List (List Int)) (n : Nat), vs = [.ref l] ∧ OL H l as rs n ∧ 1 ≤ rs.length ∧ rs.length ≤ 1000 ∧
  ∀ (l' : Addr) (as' : List Addr) (H' : Hp), H l' = none → H' l' = some (.lst (as'.map V.ref)) → LL H' as' (aM n rs) → Same H H' → Q (.ref l') H'
/-- lists of places, each of an order -/
def Bks : List (List Int) → List (List Int) → Prop
  | [], [] => True
  | p :: ps, r :: rs => IsBack r p ∧ Bks ps rs
  | _, _ => False
theorem Bks.len : ∀ {ps rs : List (List Int)}, Bks ps rs → ps.length = rs.length
  | [], [], _ => rfl
  | [], _ :: _, h => h.elim
  | _ :: _, [], h => h.elim
  | _ :: _, _ :: _, h => by rw [List.length_cons, List.length_cons, Bks.len h.2]
theorem Bks.snoc : ∀ {ps rs : List (List Int)} {p r : List Int}, Bks ps rs → IsBack r p → Bks (ps ++ [p]) (rs ++ [r])
  | [], [], _, _, _, e => ⟨e, trivial⟩
  | [], _ :: _, _, _, h, _ => h.elim
  | _ :: _, [], _, _, h, _ => h.elim
  | _ :: _, _ :: _, _, _, h, e => ⟨h.1, Bks.snoc h.2 e⟩
theorem Bks.get : ∀ {ps rs : List (List Int)} {i : Nat} {r : List Int}, Bks ps rs → rs[i]? = some r → ∃ p, ps[i]? = some p ∧ IsBack r p
  | [], [], _, _, _, e => by simp at e
  | [], _ :: _, _, _, h, _ => h.elim
  | _ :: _, [], _, _, h, _ => h.elim
  | p :: ps, r :: rs, 0, r', h, e => by
    have e2 : r = r' := Option.some.inj e
    subst e2
    exact ⟨p, rfl, h.1⟩
  | p :: ps, r :: rs, i + 1, r', h, e => Bks.get (i := i) h.2 e
theorem rg_at {n i : Nat} (h : i < n) : (rg n)[i]? = some (i : Int) := by
  unfold rg
  rw [List.getElem?_map, List.getElem?_range h]
  rfl
theorem rg_take {n i : Nat} (h : i ≤ n) : (rg n).take i = rg i := by
  unfold rg
  rw [← List.map_take, List.take_range, Nat.min_eq_left h]
theorem filter_more' {l : List (List Int)} {m : Nat} {x : List Int} (p : List Int → Bool) (h : l[m]? = some x) : (l.take (m + 1)).filter p = (l.take m).filter p ++ (if p x then [x] else []) := by
  rw [List.take_add_one, h, List.filter_append]
  show _ ++ List.filter p [x] = _
  rw [List.filter_cons]
  rfl
section
variable {P : Program} {w : World} {K : PySem.W.Frag} {mg : Str → Option Value} {base : Heap}
theorem scAhead : FnScope ["poll", "things", "places", "order", "i", "j", "seats"] ["poll"] (defScope s_counts_ahead) := ⟨rfl, rfl, rfl, by decide +kernel, rfl, by decide +kernel, by decide +kernel⟩
set_option maxHeartbeats 4000000 in
theorem ok_ahead {f f1 : Addr} {fd d1 : FuncData} {k : Nat} (T : Df K mg "counts_ahead" s_counts_ahead ["poll"] f fd) (T_places_in : Df K mg "places_in" s_places_in ["order"] f1 d1) (G_places_in : FnOk P w K mg base CX0 k f1 d1 ["order"] spPlaces) (B : Bi mg) : FnOk P w K mg base CX0 (k + 1) f fd ["poll"] spAhead := by
  refine T.F.ok scAhead (fun vs H Q E h => ?_) (fun cdv A outer s H vs Q E hr h => ?_)
  · obtain ⟨l, as, rs, n, rfl, _⟩ := h
    rfl
  · obtain ⟨l, as, rs, n, rfl, hO, h1, h2, q⟩ := h
    have hal := hO.ll.len
    refine ⟨_, 
      (pss_cons (ps_set (i := 1) scAhead.nd rfl (.inr rfl) (pe_listRg rfl (by rfl) B.list (prg_1 (by rfl) B.range (pe_callB call_len_seq (by rfl) B.len PySem.boot_len (pa_cons (pe_ix ix_list (pv 0) pe_int (fun _ _ => rfl)) pa_nil)))))
      (pss_cons (ps_set (i := 2) scAhead.nd rfl (.inr rfl) (pe_lc (own := [("order", 3)]) (g := (gName 3)) (tt := tYes) (te := (tCall spPlaces [] E0 (tCons (tVar 3) tNil))) rfl scAhead.nd (pi_list (pv 0)) (blkOk_by (N := ["poll", "things", "places", "order", "i", "j", "seats"]) (sc := defScope s_counts_ahead) (by decide +kernel)) (fun _ _ _ _ _ => (pg_name (i := 3) scAhead.nd rfl (.inl rfl))) (fun _ _ _ _ _ => pts_nil) (fun _ _ _ _ _ => (pe_call G_places_in hr (by rfl) T_places_in.g T_places_in.F.kp T_places_in.b .nil pass0 (pa_cons (pv 3) pa_nil)))))
      (pss_one (ps_ret (pe_lc (own := [("i", 4)]) (g := (gName 4)) (tt := tYes) (te := (tLc (iList K (tVar 1)) (gName 5) tYes (tCB (rLenS K) (tCons (tLc (iList K (tVar 2)) (gName 6) (tTest (tOp (rI0 fun i j => .bl (decide (i < j))) (tOp (rIxL K) (tVar 6) (tVar 4)) (tOp (rIxL K) (tVar 6) (tVar 5)))) (tVar 6) [6]) tNil)) [5])) rfl scAhead.nd (pi_list (pv 1)) (blkOk_by (N := ["poll", "things", "places", "order", "i", "j", "seats"]) (sc := defScope s_counts_ahead) (by decide +kernel)) (fun _ _ _ _ _ => (pg_name (i := 4) scAhead.nd rfl (.inr rfl))) (fun _ _ _ _ _ => pts_nil) (fun _ _ _ _ _ => (pe_lc (own := [("j", 5)]) (g := (gName 5)) (tt := tYes) (te := (tCB (rLenS K) (tCons (tLc (iList K (tVar 2)) (gName 6) (tTest (tOp (rI0 fun i j => .bl (decide (i < j))) (tOp (rIxL K) (tVar 6) (tVar 4)) (tOp (rIxL K) (tVar 6) (tVar 5)))) (tVar 6) [6]) tNil))) rfl scAhead.nd (pi_list (pv 1)) (blkOk_by (N := ["poll", "things", "places", "order", "i", "j", "seats"]) (by rfl)) (fun _ _ _ _ _ => (pg_name (i := 5) scAhead.nd rfl (.inr rfl))) (fun _ _ _ _ _ => pts_nil) (fun _ _ _ _ _ => (pe_callB call_len_seq (by rfl) B.len PySem.boot_len (pa_cons (pe_lc (own := [("seats", 6)]) (g := (gName 6)) (tt := (tTest (tOp (rI0 fun i j => .bl (decide (i < j))) (tOp (rIxL K) (tVar 6) (tVar 4)) (tOp (rIxL K) (tVar 6) (tVar 5))))) (te := (tVar 6)) rfl scAhead.nd (pi_list (pv 2)) (blkOk_by (N := ["poll", "things", "places", "order", "i", "j", "seats"]) (by rfl)) (fun _ _ _ _ _ => (pg_name (i := 6) scAhead.nd rfl (.inl rfl))) (fun _ _ _ _ _ => (pts_one (pt_cmpR op_lt (pe_ix ix_list (pv 6) (pv 4) (fun _ _ => rfl)) (pe_ix ix_list (pv 6) (pv 5) (fun _ _ => rfl)) (nomark _)))) (fun _ _ _ _ _ => (pv 6))) pa_nil)))))))))), ?_⟩
    obtain ⟨a0, ea0⟩ : ∃ a0, as[0]? = some a0 := ⟨as[0]'(by omega), List.getElem?_eq_getElem (by omega)⟩
    obtain ⟨r0, er0, ha0⟩ := hO.ll.get ea0
    have lr0 : (r0.map V.int).length = n := by rw [List.length_map]; exact (hO.ord r0 (List.mem_of_getElem? er0)).len
    have hn2 := hO.n2
    refine ⟨_, rfl, l, _, 0, _, rfl, rfl, SqL.of hO.top, at_of (j := 0) rfl (ref_at ea0), a0, _, rfl, .inl (SqL.of ha0), _, rfl, RgOk.of_le (by omega) (by rw [lr0]; omega) (by omega) (by omega), fun th nth => ?_⟩
    rw [lr0]
    have s1 := same_new (o := .lst (rgV 0 (n : Int))) nth
    have hth : (upd H th (.lst (rgV 0 (n : Int)))) th = some (.lst ((rg n).map V.int)) := by rw [upd_same, rg_V]
    have hO1 := hO.same s1
    generalize upd H th (.lst (rgV 0 (n : Int))) = H1 at s1 hth hO1 ⊢
    -- places
    refine ⟨_, rfl, l, rfl, ⟨_, SqL.of hO1.top⟩, fun D nD => ?_⟩
    refine lc_list (K := K) (a := l) (xs := as.map V.ref) (fun i H3 => ∃ (bs : List Addr) (ps : List (List Int)), H3 D = some (.lst (bs.map V.ref)) ∧ LL H3 bs ps ∧ Bks ps (rs.take i) ∧ D ∉ bs ∧ Same H1 H3) ⟨[], [], upd_same, trivial, trivial, List.not_mem_nil, same_new nD⟩ (fun i H3 _ hP => by obtain ⟨_, _, _, _, _, _, sm⟩ := hP; exact SqL.of (sm _ _ hO1.top)) (fun i x H3 hx hP => ?_) (fun H2 hP => ?_)
    · obtain ⟨a, ea, rfl⟩ := ref_at_inv hx
      obtain ⟨bs, ps, hD3, hL3, hB3, nDb, sm⟩ := hP
      obtain ⟨r, er, ha⟩ := (hO1.ll.same sm).get ea
      have hbl := hL3.len
      have hpl := hB3.len
      rw [List.length_take] at hpl
      refine ⟨rfl, _, rfl, a, n, r, rfl, ha, hO.ord r (List.mem_of_getElem? er), hO.n1, hO.n2, fun p c H4 hb nc hc s4 => ?_⟩
      have ncD : c ≠ D := fun e => by rw [e, hD3] at nc; cases nc
      refine ⟨_, s4 _ _ hD3, line_lt (by rw [List.length_map]; omega), bs ++ [c], ps ++ [p], by rw [upd_same, List.map_append]; rfl, ?_, by rw [take_more' er]; exact hB3.snoc hb, fun hu => ?_, fun b o e => ?_⟩
      · refine LL.snoc ((hL3.same s4).keep fun u hu o e => ?_) ?_
        · rw [upd_ne (fun q => nDb (by rw [← q]; exact hu))]
          exact e
        · rw [upd_ne ncD]
          exact hc
      · rcases List.mem_append.mp hu with h | h
        · exact nDb h
        · exact ncD (List.mem_singleton.mp h).symm
      · rw [upd_ne (ne_of_none e nD)]
        exact s4 _ _ (sm _ _ e)
    obtain ⟨cs, ps, hD2, hL2, hB2, nDc, s2⟩ := hP
    rw [List.take_of_length_le (by rw [List.length_map]; omega)] at hB2
    have hth2 := s2 _ _ hth
    have hcl := hL2.len
    have hpl := hB2.len
    have s02 := s1.trans s2
    clear hO1 hth ha0 s1 s2 nDc nD
    -- the table
    refine ⟨_, rfl, th, rfl, ⟨_, SqL.of hth2⟩, fun D2 nD2 => ?_⟩
    refine lc_list (K := K) (a := th) (xs := (rg n).map V.int) (fun i H3 => ∃ bs : List Addr, H3 D2 = some (.lst (bs.map V.ref)) ∧ LL H3 bs ((aM n rs).take i) ∧ D2 ∉ bs ∧ Same H2 H3) ⟨[], upd_same, trivial, List.not_mem_nil, same_new nD2⟩ (fun i H3 _ hP => by obtain ⟨_, _, _, _, sm⟩ := hP; exact SqL.of (sm _ _ hth2)) (fun i x H3 hx hP => ?_) (fun H3 hP => ?_)
    · obtain ⟨y, ey, rfl⟩ := int_at_inv hx
      have hi := (List.getElem?_eq_some_iff.mp ey).1
      rw [rg_len] at hi
      rw [rg_at hi] at ey
      have := Option.some.inj ey
      subst this
      obtain ⟨bs, hD3, hL3, nDb, sm⟩ := hP
      have hbl := hL3.len
      have hml : (aM n rs).length = n := by unfold aM; rw [List.length_map, rg_len]
      rw [List.length_take] at hbl
      have emi : (aM n rs)[i]? = some ((rg n).map fun j => aN rs (i : Int) j) := by
        unfold aM
        rw [List.getElem?_map, rg_at hi]
        rfl
      refine ⟨rfl, _, rfl, th, rfl, ⟨_, SqL.of (sm _ _ hth2)⟩, fun D3 nD3 => ?_⟩
      refine lc_list (K := K) (a := th) (xs := (rg n).map V.int) (fun j H4 => H4 D3 = some (.lst (((rg j).map fun u => aN rs (i : Int) u).map V.int)) ∧ Same H3 H4) ⟨upd_same, same_new nD3⟩ (fun j H4 _ hP => SqL.of (hP.2 _ _ (sm _ _ hth2))) (fun j x H4 hx hP => ?_) (fun H4 hP => ?_)
      · obtain ⟨y, ey, rfl⟩ := int_at_inv hx
        have hj := (List.getElem?_eq_some_iff.mp ey).1
        rw [rg_len] at hj
        rw [rg_at hj] at ey
        have := Option.some.inj ey
        subst this
        obtain ⟨hD4, sm4⟩ := hP
        have hDp := sm4 _ _ (sm _ _ hD2)
        have hLp := (hL2.same sm).same sm4
        refine ⟨rfl, _, rfl, D, rfl, ⟨_, SqL.of hDp⟩, fun D5 nD5 => ?_⟩
        refine lc_list (K := K) (a := D) (xs := cs.map V.ref) (fun m H5 => ∃ ds : List V, H5 D5 = some (.lst ds) ∧ ds.length = ((rs.take m).filter fun r => decide (pos r (i : Int) < pos r (j : Int))).length ∧ Same H4 H5) ⟨[], upd_same, rfl, same_new nD5⟩ (fun m H5 _ hP => by obtain ⟨_, _, _, sm⟩ := hP; exact SqL.of (sm _ _ hDp)) (fun m x H5 hx hP => ?_) (fun H5 hP => ?_)
        · obtain ⟨c, ec, rfl⟩ := ref_at_inv hx
          obtain ⟨ds, hD5, hdl, sm5⟩ := hP
          have hm := (List.getElem?_eq_some_iff.mp ec).1
          obtain ⟨r, er⟩ : ∃ r, rs[m]? = some r := ⟨rs[m]'(by omega), List.getElem?_eq_getElem (by omega)⟩
          obtain ⟨p, ep, hbk⟩ := hB2.get er
          obtain ⟨p', ep', hc⟩ := (hLp.same sm5).get ec
          rw [ep] at ep'
          have := Option.some.inj ep'
          subst this
          have orr := hO.ord r (List.mem_of_getElem? er)
          have bi := back_pos orr hbk (x := (i : Int)) (by omega) (by omega)
          have bj := back_pos orr hbk (x := (j : Int)) (by omega) (by omega)
          rw [Int.toNat_natCast] at bi bj
          refine ⟨rfl, _, rfl, _, rfl, c, _, _, _, rfl, rfl, SqL.of hc, at_of (j := i) rfl (int_at bi), _, rfl, _, rfl, c, _, _, _, rfl, rfl, SqL.of hc, at_of (j := j) rfl (int_at bj), _, _, rfl, rfl, _, rfl, ite2 (fun cc => ?_) (fun cc => ?_)⟩
          · have hlt : pos r (i : Int) < pos r (j : Int) := of_decide_eq_true cc
            have hfl : ((rs.take m).filter fun r => decide (pos r (i : Int) < pos r (j : Int))).length ≤ m := Nat.le_trans (List.length_filter_le _ _) (by rw [List.length_take]; omega)
            refine ⟨_, rfl, _, hD5, line_lt (by omega), ds ++ [.ref c], upd_same, ?_, fun b o e => ?_⟩
            · rw [filter_more' _ er, decide_eq_true hlt, if_pos rfl, List.length_append, List.length_append, hdl]
              rfl
            · rw [upd_ne (ne_of_none e nD5)]
              exact sm5 _ _ e
          · refine ⟨ds, hD5, ?_, sm5⟩
            rw [filter_more' _ er, decide_eq_false (fun hz => cc (decide_eq_true hz)), if_neg (by decide), List.append_nil]
            exact hdl
        · obtain ⟨ds, hD5, hdl, sm5⟩ := hP
          rw [List.length_map, hcl, hpl, List.take_length] at hdl
          refine ⟨D5, _, rfl, .inl (SqL.of hD5), _, sm5 _ _ hD4, line_lt (by rw [List.length_map, List.length_map, rg_len]; omega), ?_, fun b o e => ?_⟩
          · rw [upd_same, rg_succ, List.map_append, List.map_append, hdl]
            rfl
          · rw [upd_ne (ne_of_none e nD3)]
            exact sm5 _ _ (sm4 _ _ e)
      · obtain ⟨hD4, sm4⟩ := hP
        rw [List.length_map, rg_len] at hD4
        have nD32 : D3 ≠ D2 := fun e => by rw [e, hD3] at nD3; cases nD3
        refine ⟨_, sm4 _ _ hD3, line_lt (by rw [List.length_map]; omega), bs ++ [D3], by rw [upd_same, List.map_append]; rfl, ?_, fun hu => ?_, fun b o e => ?_⟩
        · rw [take_more' emi]
          refine LL.snoc ((hL3.same sm4).keep fun u hu o e => ?_) ?_
          · rw [upd_ne (fun q => nDb (by rw [← q]; exact hu))]
            exact e
          · rw [upd_ne nD32]
            exact hD4
        · rcases List.mem_append.mp hu with h | h
          · exact nDb h
          · exact nD32 (List.mem_singleton.mp h).symm
        · rw [upd_ne (ne_of_none e nD2)]
          exact sm4 _ _ (sm _ _ e)
    · obtain ⟨bs, hD3, hL3, nDb, sm⟩ := hP
      rw [List.take_of_length_le (by unfold aM; rw [List.length_map, List.length_map]; exact Nat.le_refl _)] at hL3
      exact q D2 bs H3 (s02.free nD2) hD3 hL3 (s02.trans sm)
end
end Fo
namespace Fo
open PySem PySem.Spec PyProof.Rows L2 PyProof
theorem bit_and {u t : Nat} (h : u.testBit t = false) : u &&& 2 ^ t = 0 := by
  apply Nat.eq_of_testBit_eq
  intro i
  rw [Nat.testBit_and, Nat.testBit_two_pow, Nat.zero_testBit]
  by_cases c : t = i
  · subst c; simp [h]
  · simp [c]
theorem bit_read {u t : Nat} (hu : u < 4096) (ht : t < 12) : decide (V.int (Builtin.bitAnd (u : Int) (1 * 2 ^ ((t : Nat) : Int).toNat)) = V.int 0) = !u.testBit t := by
  rw [Int.one_mul, Int.toNat_natCast, show ((2 : Int) ^ t) = ((2 ^ t : Nat) : Int) by rw [Int.natCast_pow]; rfl, bitAnd_pp (Int.natCast_nonneg _) (Int.natCast_nonneg _), Int.toNat_natCast, Int.toNat_natCast]
  cases h : u.testBit t with
  | false =>
    rw [bit_and h]
    rfl
  | true =>
    rw [decide_eq_false]
    · rfl
    · intro e
      have e2 : u &&& 2 ^ t = 0 := by have := V.int.inj e; omega
      have e3 := congrArg (fun x => Nat.testBit x t) e2
      simp [h] at e3
end Fo
namespace Fo
open PySem PySem.Spec PyProof.Rows L2
structure AhAt (H : Hp) (l : Addr) (as : List Addr) (n : Nat) (rs : List (List Int)) : Prop where
  top : H l = some (.lst (as.map V.ref))
  ll : LL H as (aM n rs)
  n1 : 1 ≤ n
  n2 : n ≤ 9
theorem AhAt.same {H H' : Hp} {l : Addr} {as : List Addr} {n : Nat} {rs : List (List Int)} (h : AhAt H l as n rs) (s : Same H H') : AhAt H' l as n rs := ⟨s _ _ h.top, h.ll.same s, h.n1, h.n2⟩
theorem aM_len (n : Nat) (rs : List (List Int)) : (aM n rs).length = n := by unfold aM; rw [List.length_map, rg_len]
theorem AhAt.len {H : Hp} {l : Addr} {as : List Addr} {n : Nat} {rs : List (List Int)} (h : AhAt H l as n rs) : (as.map V.ref).length = n := by rw [List.length_map, h.ll.len, aM_len]
def spFew : Sp := fun vs H Q _ => ∃ (n m : Int), vs = [.int n, .int m] ∧ n ≤ m ∧ Q .non H
def spTIn : Sp := fun vs H Q _ => ∃ (S : Nat) (l : Addr) (as : List Addr) (n : Nat) (rs : List (List Int)), vs = [.int S, .ref l] ∧ AhAt H l as n rs ∧ S < 2 ^ n ∧ ∀ (t : Addr) (H' : Hp), H t = none → H' t = some (.lst ((tI n S).map V.int)) → Same H H' → Q (.ref t) H'
def spSwf : Sp := fun vs H Q _ => ∃ (t : Int) (S : Nat) (l m : Addr) (as : List Addr) (n : Nat) (rs : List (List Int)) (ss : List Int), vs = [.int t, .int S, .ref l, .ref m] ∧ AhAt H l as n rs ∧ H m = some (.lst (ss.map V.int)) ∧ S < 2 ^ n ∧ S ≤ ss.length ∧ t ∈ tI n S ∧ ∀ H', Same H H' → Q (.int (swf (aN rs) n ss t S)) H'
def spLSums : Sp := fun vs H Q _ => ∃ (l : Addr) (as : List Addr) (n : Nat) (rs : List (List Int)), vs = [.ref l] ∧ AhAt H l as n rs ∧ ∀ (m : Addr) (ss : List Int) (H' : Hp), H m = none → H' m = some (.lst (ss.map V.int)) → ss.length = 2 ^ n → IsSums (aN rs) n ss → Same H H' → Q (.ref m) H'
def spBFirst : Sp := fun vs H Q _ => ∃ (S : Nat) (l m : Addr) (as : List Addr) (n : Nat) (rs : List (List Int)) (ss : List Int), vs = [.int S, .ref l, .ref m] ∧ AhAt H l as n rs ∧ H m = some (.lst (ss.map V.int)) ∧ 1 ≤ S ∧ S < 2 ^ n ∧ ss.length = 2 ^ n ∧ IsSums (aN rs) n ss ∧ ∀ (t : Nat) (H' : Hp), t < n → S.testBit t = true → ss.getD S 0 = swf (aN rs) n ss (t : Int) S → (∀ u ∈ tI n S, ss.getD S 0 = swf (aN rs) n ss u S → (t : Int) ≤ u) → Same H H' → Q (.int t) H'
def spMPairs : Sp := fun vs H Q _ => ∃ (l : Addr) (as : List Addr) (n : Nat) (rs : List (List Int)), vs = [.ref l] ∧ AhAt H l as n rs ∧ ∀ (p g : Addr) (m : Int) (xs : List Int) (H' : Hp), H p = none → H g = none → H' p = some (.tup [.int m, .ref g]) → H' g = some (.lst (xs.map V.int)) → amin (cst (aN rs)) (allK n n) = some (m, xs) → Same H H' → Q (.ref p) H'
theorem pow_nat (t : Nat) : (1 : Int) * 2 ^ ((t : Nat) : Int).toNat = ((2 ^ t : Nat) : Int) := by
  rw [Int.one_mul, Int.toNat_natCast, Int.natCast_pow]
  rfl
theorem tI_len (n S : Nat) : (tI n S).length ≤ n := by
  unfold tI tN
  rw [List.length_map]
  exact Nat.le_trans (List.length_filter_le _ _) (by rw [List.length_range]; exact Nat.le_refl _)
theorem getD_more {ss : List Int} {m : Int} {i : Nat} (h : i < ss.length) : (ss ++ [m]).getD i 0 = ss.getD i 0 := by
  rw [List.getD_eq_getElem?_getD, List.getD_eq_getElem?_getD, List.getElem?_append_left h]
theorem getD_end (ss : List Int) (m : Int) : (ss ++ [m]).getD ss.length 0 = m := by
  rw [List.getD_eq_getElem?_getD, List.getElem?_append_right (Nat.le_refl _), Nat.sub_self]
  rfl
theorem getD_at {ss : List Int} {i : Nat} (h : i < ss.length) : ss[i]? = some (ss.getD i 0) := by
  rw [List.getD_eq_getElem?_getD, List.getElem?_eq_getElem h]
  rfl
theorem swf_more {a : Int → Int → Int} {n : Nat} {ss : List Int} {m t : Int} {S : Nat} (h0 : 1 ≤ S) (h : S ≤ ss.length) : swf a n (ss ++ [m]) t S = swf a n ss t S := by
  unfold swf
  have p := Nat.two_pow_pos t.toNat
  rw [getD_more (by omega)]
theorem aM_at {n : Nat} {rs : List (List Int)} {i j : Nat} (hi : i < n) (hj : j < n) : ∃ r, (aM n rs)[i]? = some r ∧ r[j]? = some (aN rs (i : Int) (j : Int)) := by
  refine ⟨(rg n).map fun j => aN rs (i : Int) j, ?_, ?_⟩
  · unfold aM
    rw [List.getElem?_map, rg_at hi]
    rfl
  · rw [List.getElem?_map, rg_at hj]
    rfl
section
variable {P : Program} {w : World} {K : PySem.W.Frag} {mg : Str → Option Value} {base : Heap}
theorem scFew : FnScope ["n", "most"] ["n", "most"] (defScope s_check_few) := ⟨rfl, rfl, rfl, by decide +kernel, rfl, by decide +kernel, by decide +kernel⟩
theorem ok_few {f : Addr} {fd : FuncData} {k : Nat} (T : Df K mg "check_few" s_check_few ["n", "most"] f fd) : FnOk P w K mg base CX0 (k + 1) f fd ["n", "most"] spFew := by
  refine T.F.ok scFew (fun vs H Q E h => ?_) (fun cdv A outer s H vs Q E hr h => ?_)
  · obtain ⟨n, m, rfl, _⟩ := h
    rfl
  · obtain ⟨n, m, rfl, hl, q⟩ := h
    refine ⟨_, 
      (pss_one (ps_if (pt_cmpR op_gt (pv 0) (pv 1) (nomark _))
        (pss_one ps_never)
        pss_nil)), ?_⟩
    exact ⟨_, rfl, _, rfl, n, m, rfl, rfl, _, rfl, ite2 (fun c => absurd (of_decide_eq_true c) (by omega)) (fun _ => q)⟩
theorem scTIn : FnScope ["left", "ahead", "thing"] ["left", "ahead"] (defScope s_things_in) := ⟨rfl, rfl, rfl, by decide +kernel, rfl, by decide +kernel, by decide +kernel⟩
set_option maxHeartbeats 2000000 in
theorem ok_tin {f : Addr} {fd : FuncData} {k : Nat} (T : Df K mg "things_in" s_things_in ["left", "ahead"] f fd) (B : Bi mg) : FnOk P w K mg base CX0 (k + 1) f fd ["left", "ahead"] spTIn := by
  refine T.F.ok scTIn (fun vs H Q E h => ?_) (fun cdv A outer s H vs Q E hr h => ?_)
  · obtain ⟨S, l, as, n, rs, rfl, _⟩ := h
    rfl
  · obtain ⟨S, l, as, n, rs, rfl, hA, hS, q⟩ := h
    have h9 := pow9 n (by have := hA.n2; omega)
    have hn2 := hA.n2
    refine ⟨_, 
      (pss_one (ps_ret (pe_lc (own := [("thing", 2)]) (g := (gName 2)) (tt := (tTest (tOp rNe (tOp (rI0 fun i j => .int (Builtin.bitAnd i j)) (tVar 0) (tOp (rI CPow fun i j => .int (i * 2 ^ j.toNat)) (tC (.int 1)) (tVar 2))) (tC (.int 0))))) (te := (tVar 2)) rfl scTIn.nd (pi_range1 (by rfl) B.range (pa_cons (pe_callB call_len_seq (by rfl) B.len PySem.boot_len (pa_cons (pv 1) pa_nil)) pa_nil)) (blkOk_by (N := ["left", "ahead", "thing"]) (sc := defScope s_things_in) (by decide +kernel)) (fun _ _ _ _ _ => (pg_name (i := 2) scTIn.nd rfl (.inl rfl))) (fun _ _ _ _ _ => (pts_one (pt_cmpR op_ne (pe_op op_and (pv 0) (pe_op op_shl pe_int (pv 2))) pe_int (nomark _)))) (fun _ _ _ _ _ => (pv 2))))), ?_⟩
    refine ⟨_, rfl, l, _, rfl, .inl (SqL.of hA.top), _, rfl, by rw [hA.len]; omega, by rw [hA.len]; omega, fun D nD => ?_⟩
    rw [hA.len, Int.toNat_natCast]
    refine lc_range (lo := 0) (n := n) (fun i H3 => H3 D = some (.lst ((((List.range i).filter fun t => S.testBit t).map fun t => ((t : Nat) : Int)).map V.int)) ∧ Same H H3) ⟨upd_same, same_new nD⟩ (fun i H3 hi hP => ?_) (fun H3 hP => ?_)
    · obtain ⟨hD3, sm⟩ := hP
      rw [show (0 : Int) + (i : Int) = (i : Int) by omega]
      refine ⟨rfl, _, rfl, _, rfl, 1, _, rfl, rfl, ⟨by omega, by omega, by decide⟩, _, _, rfl, rfl, rfl, _, rfl, ?_⟩
      show (if (!decide (V.int (Builtin.bitAnd (S : Int) (1 * 2 ^ ((i : Nat) : Int).toNat)) = V.int 0)) = true then _ else _)
      rw [bit_read (by omega) (by omega), Bool.not_not]
      have fm : (List.range (i + 1)).filter (fun t => S.testBit t) = (List.range i).filter (fun t => S.testBit t) ++ (if S.testBit i then [i] else []) := by
        rw [List.range_succ, List.filter_append, List.filter_cons]
        rfl
      have hfl : ((List.range i).filter fun t => S.testBit t).length ≤ i := Nat.le_trans (List.length_filter_le _ _) (by rw [List.length_range]; exact Nat.le_refl _)
      by_cases c : S.testBit i = true
      · rw [if_pos c]
        refine ⟨_, rfl, _, hD3, line_lt (by rw [List.length_map, List.length_map]; omega), ?_, fun b o e => ?_⟩
        · rw [upd_same, fm, if_pos c, List.map_append, List.map_append]
          rfl
        · rw [upd_ne (ne_of_none e nD)]
          exact sm _ _ e
      · rw [if_neg c]
        refine ⟨?_, sm⟩
        rw [fm, if_neg c, List.append_nil]
        exact hD3
    · obtain ⟨hD3, sm⟩ := hP
      exact q D H3 nD hD3 sm
theorem scSwf : FnScope ["thing", "left", "ahead", "sums", "turned", "other"] ["thing", "left", "ahead", "sums"] (defScope s_sum_with_first) := ⟨rfl, rfl, rfl, by decide +kernel, rfl, by decide +kernel, by decide +kernel⟩
set_option maxHeartbeats 2000000 in
theorem ok_swf {f f1 : Addr} {fd d1 : FuncData} {k : Nat} (T : Df K mg "sum_with_first" s_sum_with_first ["thing", "left", "ahead", "sums"] f fd) (T_things_in : Df K mg "things_in" s_things_in ["left", "ahead"] f1 d1) (G_things_in : FnOk P w K mg base CX0 k f1 d1 ["left", "ahead"] spTIn) (B : Bi mg) : FnOk P w K mg base CX0 (k + 1) f fd ["thing", "left", "ahead", "sums"] spSwf := by
  refine T.F.ok scSwf (fun vs H Q E h => ?_) (fun cdv A outer s H vs Q E hr h => ?_)
  · obtain ⟨t, S, l, m, as, n, rs, ss, rfl, _⟩ := h
    rfl
  · obtain ⟨t, S, l, m, as, n, rs, ss, rfl, hA, hm, hS, hSl, ht, q⟩ := h
    have hn2 := hA.n2
    have h9 := pow9 n (by omega)
    obtain ⟨tt, htn, htb, rfl⟩ := tI_mem.mp ht
    refine ⟨_, 
      (pss_cons (ps_set (i := 4) scSwf.nd rfl (.inl rfl) (pe_callB (cr_sum rfl) (by rfl) B.sum (by decide +kernel) (pa_cons (pe_lc (own := [("other", 5)]) (g := (gName 5)) (tt := tYes) (te := (tOp (rIxL K) (tOp (rIxL K) (tVar 2) (tVar 5)) (tVar 0))) rfl scSwf.nd (pi_list (pe_call G_things_in hr (by rfl) T_things_in.g T_things_in.F.kp T_things_in.b .nil pass0 (pa_cons (pv 1) (pa_cons (pv 2) pa_nil)))) (blkOk_by (N := ["thing", "left", "ahead", "sums", "turned", "other"]) (sc := defScope s_sum_with_first) (by decide +kernel)) (fun _ _ _ _ _ => (pg_name (i := 5) scSwf.nd rfl (.inl rfl))) (fun _ _ _ _ _ => pts_nil) (fun _ _ _ _ _ => (pe_ix ix_list (pe_ix ix_list (pv 2) (pv 5) (fun _ _ => rfl)) (pv 0) (fun _ _ => rfl)))) pa_nil)))
      (pss_one (ps_ret (pe_op op_add (pv 4) (pe_ix ix_list (pv 3) (pe_op op_sub (pv 1) (pe_op op_shl pe_int (pv 0))) (fun _ _ => rfl)))))), ?_⟩
    refine ⟨_, rfl, _, rfl, S, l, as, n, rs, rfl, hA, hS, fun p H1 np hp s1 => ?_⟩
    have hA1 := hA.same s1
    refine ⟨p, rfl, ⟨_, SqL.of hp⟩, fun D nD => ?_⟩
    have hpD : p ≠ D := ne_of_none hp nD
    refine lc_list (K := K) (a := p) (xs := (tI n S).map V.int) (fun i H3 => H3 D = some (.lst ((((tI n S).take i).map fun o => aN rs o (tt : Int)).map V.int)) ∧ Same H1 H3) ⟨upd_same, same_new nD⟩ (fun i H3 _ hP => SqL.of (hP.2 _ _ hp)) (fun i x H3 hx hP => ?_) (fun H3 hP => ?_)
    · obtain ⟨y, ey, rfl⟩ := int_at_inv hx
      obtain ⟨hD3, sm⟩ := hP
      have hi := (List.getElem?_eq_some_iff.mp ey).1
      have htl := tI_len n S
      obtain ⟨u, hu, hub, rfl⟩ := tI_mem.mp (List.mem_of_getElem? ey)
      obtain ⟨r, er, erj⟩ := aM_at (rs := rs) hu htn
      have hul : u < as.length := by rw [hA.ll.len, aM_len]; exact hu
      obtain ⟨b, eb⟩ : ∃ b, as[u]? = some b := ⟨as[u], List.getElem?_eq_getElem hul⟩
      obtain ⟨r', er', hb⟩ := (hA1.ll.same sm).get eb
      rw [er] at er'
      have := Option.some.inj er'
      subst this
      refine ⟨rfl, _, rfl, _, rfl, l, _, _, _, rfl, rfl, SqL.of (sm _ _ hA1.top), at_of (j := u) rfl (ref_at eb), _, rfl, b, _, _, _, rfl, rfl, SqL.of hb, at_of (j := tt) rfl (int_at erj), _, hD3, line_lt (by rw [List.length_map, List.length_map, List.length_take]; omega), ?_, fun b o e => ?_⟩
      · rw [upd_same, take_more ey, List.map_append, List.map_append]
        rfl
      · rw [upd_ne (ne_of_none e nD)]
        exact sm _ _ e
    · obtain ⟨hD3, sm⟩ := hP
      rw [List.length_map, List.take_length] at hD3
      refine ⟨D, _, rfl, SqL.of hD3, ?_⟩
      have hsub := bits_sub S (by omega) tt (by omega) htb
      have p2 : 0 < 2 ^ tt := Nat.two_pow_pos tt
      have s13 := s1.trans sm
      refine ⟨_, rfl, _, rfl, _, rfl, _, rfl, 1, _, rfl, rfl, ⟨by omega, by omega, by decide⟩, (S : Int), _, rfl, rfl, m, _, _, _, rfl, rfl, SqL.of (s13 _ _ hm), at_of (j := S - 2 ^ tt) ?_ (int_at (getD_at (show S - 2 ^ tt < ss.length by omega))), _, _, rfl, rfl, ?_⟩
      · rw [pow_nat]
        omega
      · have z := q _ s13
        unfold swf at z
        rw [Int.toNat_natCast] at z
        exact z
theorem scLSums : FnScope ["ahead", "sums", "left", "thing"] ["ahead"] (defScope s_least_sums) := ⟨rfl, rfl, rfl, by decide +kernel, rfl, by decide +kernel, by decide +kernel⟩
set_option maxHeartbeats 4000000 in
theorem ok_lsums {f f1 f2 : Addr} {fd d1 d2 : FuncData} {k : Nat} (T : Df K mg "least_sums" s_least_sums ["ahead"] f fd) (T_things_in : Df K mg "things_in" s_things_in ["left", "ahead"] f1 d1) (T_sum_with_first : Df K mg "sum_with_first" s_sum_with_first ["thing", "left", "ahead", "sums"] f2 d2) (G_things_in : FnOk P w K mg base CX0 k f1 d1 ["left", "ahead"] spTIn) (G_sum_with_first : FnOk P w K mg base CX0 k f2 d2 ["thing", "left", "ahead", "sums"] spSwf) (B : Bi mg) : FnOk P w K mg base CX0 (k + 1) f fd ["ahead"] spLSums := by
  refine T.F.ok scLSums (fun vs H Q E h => ?_) (fun cdv A outer s H vs Q E hr h => ?_)
  · obtain ⟨l, as, n, rs, rfl, _⟩ := h
    rfl
  · obtain ⟨l, as, n, rs, rfl, hA, q⟩ := h
    have hn2 := hA.n2
    have h9 := pow9 n (by omega)
    have p2 : 0 < 2 ^ n := Nat.two_pow_pos n
    refine ⟨_, 
      (pss_cons (ps_set (i := 1) scLSums.nd rfl (.inr rfl) (pe_lst (pa_cons pe_int pa_nil)))
      (pss_cons (ps_for PassesOwn.never rfl (pi_range2 (by rfl) B.range (pa_cons pe_int (pa_cons (pe_op op_shl pe_int (pe_callB call_len_seq (by rfl) B.len PySem.boot_len (pa_cons (pv 0) pa_nil))) pa_nil))) (pg_name (i := 2) scLSums.nd rfl (.inr rfl))
        (pss_one (ps_expr (pe_bm PySem.F.plainAttrs_list PySem.F.slot_list_append PySem.F.type_list_append mt_append (pv 1) (pa_cons (pe_callB (cr_min rfl) (by rfl) B.min (by decide +kernel) (pa_cons (pe_lc (own := [("thing", 3)]) (g := (gName 3)) (tt := tYes) (te := (tCall spSwf [] E0 (tCons (tVar 3) (tCons (tVar 2) (tCons (tVar 0) (tCons (tVar 1) tNil)))))) rfl scLSums.nd (pi_list (pe_call G_things_in hr (by rfl) T_things_in.g T_things_in.F.kp T_things_in.b .nil pass0 (pa_cons (pv 2) (pa_cons (pv 0) pa_nil)))) (blkOk_by (N := ["ahead", "sums", "left", "thing"]) (sc := defScope s_least_sums) (by decide +kernel)) (fun _ _ _ _ _ => (pg_name (i := 3) scLSums.nd rfl (.inl rfl))) (fun _ _ _ _ _ => pts_nil) (fun _ _ _ _ _ => (pe_call G_sum_with_first hr (by rfl) T_sum_with_first.g T_sum_with_first.F.kp T_sum_with_first.b .nil pass0 (pa_cons (pv 3) (pa_cons (pv 2) (pa_cons (pv 0) (pa_cons (pv 1) pa_nil))))))) pa_nil)) pa_nil)))))
      (pss_one (ps_ret (pv 1))))), ?_⟩
    refine ⟨line_small (by show 1 ≤ 16777216; decide), fun m nm => ?_⟩
    have s0 := same_new (o := .lst [.int 0]) nm
    have hA0 := hA.same s0
    refine ⟨_, rfl, l, _, rfl, .inl (SqL.of hA0.top), 1, _, rfl, rfl, ⟨by omega, by rw [hA.len]; omega, by decide⟩, 1, _, rfl, ?_⟩
    have eN : (1 : Int) * 2 ^ ((((as.map V.ref).length : Nat) : Int)).toNat = ((2 ^ n : Nat) : Int) := by rw [hA.len]; exact pow_nat n
    refine ⟨⟨by omega, by omega, by rw [eN]; omega, by rw [eN]; omega⟩, ?_⟩
    rw [eN, show (((2 ^ n : Nat) : Int) - 1).toNat = 2 ^ n - 1 by omega]
    refine for_range (lo := 1) (n := 2 ^ n - 1) (fun i σ H3 => ∃ (y2 y3 : Option V) (ss : List Int), σ = [some (.ref l), some (.ref m), y2, y3] ∧ H3 m = some (.lst (ss.map V.int)) ∧ ss.length = i + 1 ∧ ss.getD 0 0 = 0 ∧ (∀ S, 1 ≤ S → S ≤ i → (∃ t ∈ tI n S, ss.getD S 0 = swf (aN rs) n ss t S) ∧ ∀ t ∈ tI n S, ss.getD S 0 ≤ swf (aN rs) n ss t S) ∧ Same H H3)
      ⟨_, _, [0], rfl, upd_same, rfl, rfl, fun S h1 h2 => by omega, s0⟩ (fun i σ H3 hi hP => ?_) (fun σ H3 hP => ?_)
    · obtain ⟨y2, y3, ss, rfl, hm3, hsl, hz, hS, sm⟩ := hP
      have hA3 := hA.same sm
      rw [show (1 : Int) + (i : Int) = ((i + 1 : Nat) : Int) by omega]
      refine ⟨_, rfl, .inl ⟨rfl, _, SqL.of hm3⟩, _, rfl, _, rfl, i + 1, l, as, n, rs, rfl, hA3, by omega, fun p H4 np hp s4 => ?_⟩
      refine ⟨p, rfl, ⟨_, SqL.of hp⟩, fun D nD => ?_⟩
      have hm4 := s4 _ _ hm3
      refine lc_list (K := K) (a := p) (xs := (tI n (i + 1)).map V.int) (fun j H5 => H5 D = some (.lst ((((tI n (i + 1)).take j).map fun t => swf (aN rs) n ss t (i + 1)).map V.int)) ∧ Same H4 H5) ⟨upd_same, same_new nD⟩ (fun j H5 _ hP => SqL.of (hP.2 _ _ hp)) (fun j x H5 hx hP => ?_) (fun H5 hP => ?_)
      · obtain ⟨y, ey, rfl⟩ := int_at_inv hx
        obtain ⟨hD5, sm5⟩ := hP
        have htl := tI_len n (i + 1)
        have hj := (List.getElem?_eq_some_iff.mp ey).1
        refine ⟨rfl, _, rfl, _, rfl, _, rfl, _, rfl, y, i + 1, l, m, as, n, rs, ss, rfl, (hA3.same s4).same sm5, sm5 _ _ hm4, by omega, by omega, List.mem_of_getElem? ey, fun H6 s6 => ⟨_, s6 _ _ hD5, line_lt (by rw [List.length_map, List.length_map, List.length_take]; omega), ?_, fun b o e => ?_⟩⟩
        · rw [upd_same, take_more ey, List.map_append, List.map_append]
          rfl
        · rw [upd_ne (ne_of_none e nD)]
          exact s6 _ _ (sm5 _ _ e)
      · obtain ⟨hD5, sm5⟩ := hP
        rw [List.length_map, List.take_length] at hD5
        have hne : 0 < (tI n (i + 1)).length := by
          cases q : tI n (i + 1) with
          | nil => exact absurd (tI_nil (by omega) q) (by omega)
          | cons x r => exact Nat.succ_pos _
        refine ⟨D, _, rfl, SqL.of hD5, by rw [List.length_map]; exact hne, fun v hv hle => ?_⟩
        have hm5 := sm5 _ _ hm4
        refine ⟨m, _, _, rfl, rfl, hm5, line_lt (by rw [List.length_map]; omega), ?_⟩
        refine ⟨_, _, ss ++ [v], rfl, by rw [upd_same, List.map_append]; rfl, by rw [List.length_append, hsl]; rfl, by rw [getD_more (by omega)]; exact hz, fun S h1 h2 => ?_, fun b o e => ?_⟩
        · by_cases c : S ≤ i
          · obtain ⟨⟨t, ht, e⟩, hl⟩ := hS S h1 c
            rw [getD_more (by omega)]
            exact ⟨⟨t, ht, by rw [swf_more h1 (by omega)]; exact e⟩, fun t ht => by rw [swf_more h1 (by omega)]; exact hl t ht⟩
          · have e : S = i + 1 := by omega
            subst e
            rw [← hsl, getD_end, hsl]
            obtain ⟨t, ht, e⟩ := List.mem_map.mp hv
            exact ⟨⟨t, ht, by rw [swf_more h1 (by omega)]; exact e.symm⟩, fun t ht => by rw [swf_more h1 (by omega)]; exact hle _ (List.mem_map_of_mem ht)⟩
        · rw [upd_ne (ne_of_none e nm)]
          exact sm5 _ _ (s4 _ _ (sm _ _ e))
    · obtain ⟨y2, y3, ss, rfl, hm3, hsl, hz, hS, sm⟩ := hP
      exact ⟨_, rfl, q m ss H3 nm hm3 (by omega) ⟨hz, fun S h1 h2 => (hS S h1 (by omega)).1, fun S h1 h2 => (hS S h1 (by omega)).2⟩ sm⟩
theorem scBFirst : FnScope ["left", "ahead", "sums", "thing"] ["left", "ahead", "sums"] (defScope s_best_first) := ⟨rfl, rfl, rfl, by decide +kernel, rfl, by decide +kernel, by decide +kernel⟩
set_option maxHeartbeats 4000000 in
theorem ok_bfirst {f f1 f2 : Addr} {fd d1 d2 : FuncData} {k : Nat} (T : Df K mg "best_first" s_best_first ["left", "ahead", "sums"] f fd) (T_things_in : Df K mg "things_in" s_things_in ["left", "ahead"] f1 d1) (T_sum_with_first : Df K mg "sum_with_first" s_sum_with_first ["thing", "left", "ahead", "sums"] f2 d2) (G_things_in : FnOk P w K mg base CX0 k f1 d1 ["left", "ahead"] spTIn) (G_sum_with_first : FnOk P w K mg base CX0 k f2 d2 ["thing", "left", "ahead", "sums"] spSwf) (B : Bi mg) : FnOk P w K mg base CX0 (k + 1) f fd ["left", "ahead", "sums"] spBFirst := by
  refine T.F.ok scBFirst (fun vs H Q E h => ?_) (fun cdv A outer s H vs Q E hr h => ?_)
  · obtain ⟨S, l, m, as, n, rs, ss, rfl, _⟩ := h
    rfl
  · obtain ⟨S, l, m, as, n, rs, ss, rfl, hA, hm, hS1, hS2, hsl, hs, q⟩ := h
    have hn2 := hA.n2
    have h9 := pow9 n (by omega)
    refine ⟨_, 
      (pss_one (ps_ret (pe_callB (cr_min rfl) (by rfl) B.min (by decide +kernel) (pa_cons (pe_lc (own := [("thing", 3)]) (g := (gName 3)) (tt := (tTest (tOp rEq (tCall spSwf [] E0 (tCons (tVar 3) (tCons (tVar 0) (tCons (tVar 1) (tCons (tVar 2) tNil))))) (tOp (rIxL K) (tVar 2) (tVar 0))))) (te := (tVar 3)) rfl scBFirst.nd (pi_list (pe_call G_things_in hr (by rfl) T_things_in.g T_things_in.F.kp T_things_in.b .nil pass0 (pa_cons (pv 0) (pa_cons (pv 1) pa_nil)))) (blkOk_by (N := ["left", "ahead", "sums", "thing"]) (sc := defScope s_best_first) (by decide +kernel)) (fun _ _ _ _ _ => (pg_name (i := 3) scBFirst.nd rfl (.inl rfl))) (fun _ _ _ _ _ => (pts_one (pt_cmpR op_eq (pe_call G_sum_with_first hr (by rfl) T_sum_with_first.g T_sum_with_first.F.kp T_sum_with_first.b .nil pass0 (pa_cons (pv 3) (pa_cons (pv 0) (pa_cons (pv 1) (pa_cons (pv 2) pa_nil))))) (pe_ix ix_list (pv 2) (pv 0) (fun _ _ => rfl)) (nomark _)))) (fun _ _ _ _ _ => (pv 3))) pa_nil)))), ?_⟩
    refine ⟨_, rfl, _, rfl, S, l, as, n, rs, rfl, hA, hS2, fun p H1 np hp s1 => ?_⟩
    have hA1 := hA.same s1
    have hm1 := s1 _ _ hm
    refine ⟨p, rfl, ⟨_, SqL.of hp⟩, fun D nD => ?_⟩
    refine lc_list (K := K) (a := p) (xs := (tI n S).map V.int) (fun i H3 => H3 D = some (.lst ((((tI n S).take i).filter fun t => decide (swf (aN rs) n ss t S = ss.getD S 0)).map V.int)) ∧ Same H1 H3) ⟨upd_same, same_new nD⟩ (fun i H3 _ hP => SqL.of (hP.2 _ _ hp)) (fun i x H3 hx hP => ?_) (fun H3 hP => ?_)
    · obtain ⟨y, ey, rfl⟩ := int_at_inv hx
      obtain ⟨hD3, sm⟩ := hP
      have hi := (List.getElem?_eq_some_iff.mp ey).1
      have htl := tI_len n S
      refine ⟨rfl, _, rfl, _, rfl, _, rfl, _, rfl, y, S, l, m, as, n, rs, ss, rfl, hA1.same sm, sm _ _ hm1, hS2, by omega, List.mem_of_getElem? ey, fun H4 s4 => ?_⟩
      refine ⟨_, rfl, _, rfl, m, _, _, _, rfl, rfl, SqL.of (s4 _ _ (sm _ _ hm1)), at_of (j := S) rfl (int_at (getD_at (show S < ss.length by omega))), rfl, _, rfl, ite2 (fun c => ?_) (fun c => ?_)⟩
      · have e : swf (aN rs) n ss y S = ss.getD S 0 := V.int.inj (of_decide_eq_true c)
        refine ⟨_, rfl, _, s4 _ _ hD3, line_lt (by rw [List.length_map]; exact Nat.lt_of_le_of_lt (List.length_filter_le _ _) (by rw [List.length_take]; omega)), ?_, fun b o e => ?_⟩
        · rw [upd_same, filter_more _ ey, decide_eq_true e, if_pos rfl, List.map_append]
          rfl
        · rw [upd_ne (ne_of_none e nD)]
          exact s4 _ _ (sm _ _ e)
      · refine ⟨?_, sm.trans s4⟩
        rw [filter_more _ ey, decide_eq_false (fun e => c (decide_eq_true (by rw [e]))), if_neg (by decide), List.append_nil]
        exact s4 _ _ hD3
    · obtain ⟨hD3, sm⟩ := hP
      rw [List.length_map, List.take_length] at hD3
      obtain ⟨t0, ht0, e0⟩ := hs.ex S hS1 hS2
      have hm0 : t0 ∈ (tI n S).filter fun t => decide (swf (aN rs) n ss t S = ss.getD S 0) := List.mem_filter.mpr ⟨ht0, decide_eq_true e0.symm⟩
      refine ⟨D, _, rfl, SqL.of hD3, List.length_pos_of_mem hm0, fun v hv hle => ?_⟩
      obtain ⟨hv1, hv2⟩ := List.mem_filter.mp hv
      obtain ⟨t, ht, hb, rfl⟩ := tI_mem.mp hv1
      exact q t H3 ht hb (of_decide_eq_true hv2).symm (fun u hu eu => hle u (List.mem_filter.mpr ⟨hu, decide_eq_true eu.symm⟩)) (s1.trans sm)
theorem scMPairs : FnScope ["ahead", "sums", "left", "order", "thing"] ["ahead"] (defScope s_middle_by_pairs) := ⟨rfl, rfl, rfl, by decide +kernel, rfl, by decide +kernel, by decide +kernel⟩
set_option maxHeartbeats 4000000 in
theorem ok_mpairs {f f1 f2 : Addr} {fd d1 d2 : FuncData} {k : Nat} (T : Df K mg "middle_by_pairs" s_middle_by_pairs ["ahead"] f fd) (T_least_sums : Df K mg "least_sums" s_least_sums ["ahead"] f1 d1) (T_best_first : Df K mg "best_first" s_best_first ["left", "ahead", "sums"] f2 d2) (G_least_sums : FnOk P w K mg base CX0 k f1 d1 ["ahead"] spLSums) (G_best_first : FnOk P w K mg base CX0 k f2 d2 ["left", "ahead", "sums"] spBFirst) (B : Bi mg) : FnOk P w K mg base CX0 (k + 1) f fd ["ahead"] spMPairs := by
  refine T.F.ok scMPairs (fun vs H Q E h => ?_) (fun cdv A outer s H vs Q E hr h => ?_)
  · obtain ⟨l, as, n, rs, rfl, _⟩ := h
    rfl
  · obtain ⟨l, as, n, rs, rfl, hA, q⟩ := h
    have hn2 := hA.n2
    have h9 := pow9 n (by omega)
    have p2 : 0 < 2 ^ n := Nat.two_pow_pos n
    refine ⟨_, 
      (pss_cons (ps_set (i := 1) scMPairs.nd rfl (.inl rfl) (pe_call G_least_sums hr (by rfl) T_least_sums.g T_least_sums.F.kp T_least_sums.b .nil pass0 (pa_cons (pv 0) pa_nil)))
      (pss_cons (ps_set (i := 2) scMPairs.nd rfl (.inl rfl) (pe_op op_sub (pe_callB call_len_seq (by rfl) B.len PySem.boot_len (pa_cons (pv 1) pa_nil)) pe_int))
      (pss_cons (ps_set (i := 3) scMPairs.nd rfl (.inl rfl) (pe_lst pa_nil))
      (pss_cons (ps_while PassesOwn.never (pt_cmpR op_gt (pv 2) pe_int (nomark _))
        (pss_cons (ps_set (i := 4) scMPairs.nd rfl (.inl rfl) (pe_call G_best_first hr (by rfl) T_best_first.g T_best_first.F.kp T_best_first.b .nil pass0 (pa_cons (pv 2) (pa_cons (pv 0) (pa_cons (pv 1) pa_nil)))))
        (pss_cons (ps_expr (pe_bm PySem.F.plainAttrs_list PySem.F.slot_list_append PySem.F.type_list_append mt_append (pv 3) (pa_cons (pv 4) pa_nil)))
        (pss_one (ps_aug (i := 2) scMPairs.nd rfl (.inl rfl) (pe_op op_shl pe_int (pv 4)) ip_sub)))))
      (pss_one (ps_ret (pe_tup (pa_cons (pe_ix ix_list (pv 1) (pe_un un_neg pe_int) (fun _ _ => rfl)) (pa_cons (pv 3) pa_nil))))))))), ?_⟩
    refine ⟨_, rfl, l, as, n, rs, rfl, hA, fun m ss H1 nm hm hsl hs s1 => ?_⟩
    refine ⟨_, rfl, m, _, rfl, .inl (SqL.of hm), _, 1, rfl, rfl, ?_⟩
    have eL : ((((ss.map V.int).length : Nat) : Int) - 1) = ((2 ^ n - 1 : Nat) : Int) := by rw [List.length_map, hsl]; omega
    show gName 2 (V.int ((((ss.map V.int).length : Nat) : Int) - 1)) _ _ _
    rw [eL]
    refine ⟨line_small (by show 0 ≤ 16777216; decide), fun g ng => ?_⟩
    have s2 := same_new (o := .lst []) ng
    have s02 := s1.trans s2
    have ngH : H g = none := s1.free ng
    have hm2 := s2 _ _ hm
    have ngm : g ≠ m := (ne_of_none hm ng).symm
    refine ⟨fun mm σ G => ∃ (S : Nat) (acc : List Int) (y4 : Option V), S = mm ∧ σ = [some (.ref l), some (.ref m), some (.int S), some (.ref g), y4] ∧ S < 2 ^ n ∧ (∀ r, Gr (aN rs) n ss S r → Gr (aN rs) n ss (2 ^ n - 1) (acc ++ r)) ∧ (tI n S).length + acc.length = n ∧ G g = some (.lst (acc.map V.int)) ∧ G m = some (.lst (ss.map V.int)) ∧ Same H G,
      ⟨_, 2 ^ n - 1, [], none, rfl, rfl, by omega, fun r h => h, by rw [tI_full n (by omega), rg_len]; rfl, upd_same, hm2, s02⟩, fun mm σ G hW => ?_⟩
    obtain ⟨S, acc, y4, rfl, rfl, hS, hG, hl, hg, hm3, sG⟩ := hW
    refine ⟨_, rfl, _, 0, rfl, rfl, _, rfl, ite2 (fun c => ?_) (fun c => ?_)⟩
    · have hS1 : 1 ≤ S := by have : (0 : Int) < (S : Int) := of_decide_eq_true c; omega
      refine ⟨_, fun σ' H' h => h, ?_⟩
      refine ⟨_, rfl, _, rfl, _, rfl, S, l, m, as, n, rs, ss, rfl, hA.same sG, hm3, hS1, hS, hsl, hs, fun t G2 ht hb he hle s3 => ?_⟩
      have hg2 := s3 _ _ hg
      have hperm := tI_out (by omega) hS ht hb
      have hpl := List.Perm.length_eq hperm
      rw [List.length_cons] at hpl
      have hsub := bits_sub S (by omega) t (by omega) hb
      have pt : 0 < 2 ^ t := Nat.two_pow_pos t
      refine ⟨_, rfl, .inl ⟨rfl, _, SqL.of hg2⟩, _, rfl, g, _, _, rfl, rfl, hg2, line_lt (by rw [List.length_map]; omega), ?_⟩
      refine ⟨_, rfl, _, rfl, 1, _, rfl, rfl, ⟨by omega, by omega, by decide⟩, _, _, rfl, rfl, ?_⟩
      refine ⟨S - 2 ^ t, by omega, S - 2 ^ t, acc ++ [(t : Int)], some (.int t), rfl, ?_, Nat.lt_of_le_of_lt (Nat.sub_le _ _) hS, fun r h => ?_, by rw [List.length_append]; show _ + (acc.length + 1) = n; omega, by rw [upd_same, List.map_append]; rfl, by rw [upd_ne ngm.symm]; exact s3 _ _ hm3, fun b o e => ?_⟩
      · have e : (S : Int) - 1 * 2 ^ ((t : Nat) : Int).toNat = ((S - 2 ^ t : Nat) : Int) := by rw [pow_nat]; omega
        show [some (V.ref l), some (V.ref m), some (V.int ((S : Int) - 1 * 2 ^ ((t : Nat) : Int).toNat)), some (V.ref g), some (V.int t)] = _
        rw [e]
      · rw [List.append_assoc]
        exact hG _ (Gr.cons ht hb he hle h)
      · rw [upd_ne (ne_of_none e ngH)]
        exact s3 _ _ (sG _ _ e)
    · have hS0 : S = 0 := by
        have : ¬ (0 : Int) < (S : Int) := fun h => c (decide_eq_true h)
        omega
      subst hS0
      have hfin := hG [] Gr.nil
      rw [List.append_nil] at hfin
      have ham := amin_gr (aN_self rs) (by omega) hs hfin
      have eix : atI (ss.map V.int) (-1) = some (V.int (ss.getD (2 ^ n - 1) 0)) := by
        unfold atI ixN
        rw [List.length_map, hsl, if_neg (by omega), if_pos (by omega)]
        show (ss.map V.int)[(-1 + ((2 ^ n : Nat) : Int)).toNat]? = _
        rw [show (-1 + ((2 ^ n : Nat) : Int)).toNat = 2 ^ n - 1 by omega]
        exact int_at (getD_at (by omega))
      refine ⟨_, rfl, 1, rfl, m, _, _, _, rfl, rfl, SqL.of hm3, eix, _, rfl, line_small (by show 2 ≤ 16777216; decide), fun p np => ?_⟩
      have sp := same_new (o := .tup [.int (ss.getD (2 ^ n - 1) 0), .ref g]) np
      exact q p g _ acc _ (sG.free np) ngH upd_same (sp _ _ hg) ham (sG.trans sp)
end
end Fo
namespace Fo
open PySem PySem.Spec PyProof.Rows L2
/-! ### a slice with a step that is reckoned, 1 or -1 -/
theorem pick_one (items : Array Value) : slicePick items none none (some 1) = items := by
  have e : slicePick items none none (some 1) = slicePick items none none none := rfl
  rw [e, PySem.W.kmk_pick_nat (a := 0) (b := items.size) items rfl, List.drop_zero, Nat.sub_zero, ← Array.length_toList, List.take_length]
def tStepL (K : PySem.W.Frag) (te ts : TE) : TE := fun σ H Q => te σ H fun x H1 => ∃ a, x = .ref a ∧ tPart ts σ H1 fun o H2 => ∃ xs, SqL K H2 a xs ∧
  ((o = some 1 ∧ ∀ p, H2 p = none → Q (.ref p) (upd H2 p (.lst xs))) ∨ (o = some (-1) ∧ ∀ p, H2 p = none → Q (.ref p) (upd H2 p (.lst xs.reverse))))
theorem pe_stepL {X : Cx} {e st : Expr} {te ts : TE} {p3 pos : Pos} (he : PE X e te) (hst : PE X st ts)
    (hsub : ∀ u : Value, ∀ r : Addr, subscripted (.Slice none none (some st) p3) false u (.ref r) = operate [u, .ref r] (getItem u (.ref r)) := by intro _ _; with_unfolding_all rfl) : PE X (.Subscript e (.Slice none none (some st) p3) pos) (tStepL X.K te ts) := by
  refine ⟨fun pins s σ H Q I h => ?_⟩
  refine Subscript_ (thn (he.run pins s σ H _ I h) fun v s1 z1 => ?_)
  obtain ⟨x, H1, I1, r1, a, ex, q1⟩ := z1
  subst ex
  cases r1
  refine wpAny_Slice (thn (po_none.run pins s1 σ H1 (fun o H2 => o = none ∧ H2 = H1) I1 ⟨rfl, rfl⟩) fun vl s2 z2 => ?_)
  obtain ⟨l, H2, I2, pl, el, e2⟩ := z2
  subst el e2
  refine thn (po_none.run pins s2 σ H2 (fun o H3 => o = none ∧ H3 = H2) I2 ⟨rfl, rfl⟩) fun vu s3 z3 => ?_
  obtain ⟨u, H3, I3, pu, eu, e3⟩ := z3
  subst eu e3
  refine thn ((po_some hst).run pins s3 σ H3 _ I3 q1) fun vs s4 z4 => ?_
  obtain ⟨o, H4, I4, ps, xs, hx, q⟩ := z4
  have I5 : Inv X pins σ H4 { s4 with heap := s4.heap.push { cls := .type "slice", data := .fields #[vl, vu, vs] } } := I4.kept (t' := s4.toks) fun b ob w => Heap.get?_push_of_some _ w
  obtain ⟨its, r, ht, hz⟩ := I5.list hx
  have hlen := r.length
  show wpAny (model X.prog X.w) X.A (subscriptTail e (.Slice none none (some st) p3) (.ref a) (.ref s4.heap.objs.size)) (EP X pins σ Q) X.xe _
  refine tail_any (ops := [.ref a, .ref s4.heap.objs.size]) ht.isList.typeIs (PySem.slot_list_getitem.lookup) ?_ (hsub _ _)
  rcases q with ⟨eo, q⟩ | ⟨eo, q⟩
  · subst eo
    refine wpAny_getItem_list_slice ht.isList (Heap.IsSliceOf.new _ vl vu vs) pl pu ps (by decide) ?_ (by rw [List.size_toArray]; omega)
    rw [pick_one]
    refine ⟨.ref _, _, I5.laid (t' := s4.toks) (o := .lst xs) (fun b ob w => Heap.get?_push_of_some _ w) (Nat.le_refl _) ?_, rfl, q _ (I5.hok.fresh (Nat.le_refl _))⟩
    exact ⟨hz, _, 0, r, Heap.get?_push_size _ rfl⟩
  · subst eo
    refine wpAny_getItem_list_slice ht.isList (Heap.IsSliceOf.new _ vl vu vs) pl pu ps (by decide) ?_ (by rw [List.size_toArray]; omega)
    rw [PySem.W.krv_pick]
    refine ⟨.ref _, _, I5.laid (t' := s4.toks) (o := .lst xs.reverse) (fun b ob w => Heap.get?_push_of_some _ w) (Nat.le_refl _) ?_, rfl, q _ (I5.hok.fresh (Nat.le_refl _))⟩
    exact ⟨by rw [List.length_reverse]; exact hz, _, 0, r.reverse, Heap.get?_push_size _ rfl⟩
end Fo
namespace Fo
open PySem PySem.Spec PyProof.Rows L2
def spAllO : Sp := fun vs H Q _ => ∃ n : Nat, vs = [.int n] ∧ 1 ≤ n ∧ n ≤ 6 ∧ ∀ (l : Addr) (as : List Addr) (H' : Hp), H l = none → H' l = some (.lst (as.map V.ref)) → LL H' as (allK n n) → (∀ a ∈ as, H a = none ∧ a ≠ l) → as.Nodup → Same H H' → Q (.ref l) H'
end Fo
namespace Fo
open PySem PySem.Spec PyProof.Rows L2
/-- an inner for over a list that stands still -/
theorem in_list {K : PySem.W.Frag} {a : Addr} {xs : List V} {g1 : TG} {tt1 : TT} {te : TE} {vs1 : List Nat} {σ2 : L2.St} {H4 : Hp} {D : Addr} {Nx : Hp → Prop} (Pw : Nat → Hp → Prop) (h0 : Pw 0 H4) (hl : ∀ i H, i ≤ xs.length → Pw i H → SqL K H a xs)
    (hs : ∀ j x H, xs[j]? = some x → Pw j H → g1 x (wipe σ2 vs1) H fun σ3 H5 => wipe σ3 vs1 = wipe σ2 vs1 ∧ tt1 σ3 H5 fun b H6 =>
      if b = true then te σ3 H6 fun y H7 => ∃ acc, H7 D = some (.lst acc) ∧ acc.length < sizeLine ∧ Pw (j + 1) (upd H7 D (.lst (acc ++ [y]))) else Pw (j + 1) H6) (hd : ∀ H, Pw xs.length H → Nx H) :
    ∃ W1 : Nat → Nat → Hp → Prop, (∃ m, W1 0 m H4) ∧ ∀ j k H, W1 j k H →
      ((Itl K a).stop j H ∧ Nx H) ∨ ((Itl K a).go j H ∧ ∃ Nx1 : Hp → Prop, (∀ H', Nx1 H' → ∃ k', k' < k ∧ W1 (j + 1) k' H') ∧ ∀ x H', (Itl K a).yld j H x H' → g1 x (wipe σ2 vs1) H' fun σ3 H5 => wipe σ3 vs1 = wipe σ2 vs1 ∧ tt1 σ3 H5 fun b H6 =>
        if b = true then te σ3 H6 fun y H7 => ∃ acc, H7 D = some (.lst acc) ∧ acc.length < sizeLine ∧ Nx1 (upd H7 D (.lst (acc ++ [y]))) else Nx1 H6) := by
  refine ⟨fun j m H => m = xs.length - j ∧ j ≤ xs.length ∧ Pw j H, ⟨xs.length, by simp, Nat.zero_le _, h0⟩, ?_⟩
  rintro j m H ⟨rfl, hi, p⟩
  have q := hl j H hi p
  by_cases hlt : j < xs.length
  · refine .inr ⟨⟨xs, xs[j], q, by simp [hlt]⟩, Pw (j + 1), fun H' p' => ⟨xs.length - (j + 1), by omega, rfl, hlt, p'⟩, fun x H' y => ?_⟩
    obtain ⟨e, y⟩ := y
    subst e
    exact hs j x _ (y _ q) p
  · have e : j = xs.length := by omega
    subst e
    exact .inl ⟨⟨xs, q, Nat.le_refl _⟩, hd H p⟩
/-! ### orders with choices -/
def extC (ch : List Int) (o : List Int) : List (List Int) := (ch.filter fun t => !decide (t ∈ o)).map fun t => o ++ [t]
def ordW (chs : List (List Int)) : List (List Int) := chs.foldl (fun b ch => b.flatMap (extC ch)) [[]]
theorem ordW_more {chs : List (List Int)} {i : Nat} {ch : List Int} (h : chs[i]? = some ch) : ordW (chs.take (i + 1)) = (ordW (chs.take i)).flatMap (extC ch) := by
  unfold ordW
  rw [List.take_add_one, h, List.foldl_append]
  rfl
theorem extC_more {ch : List Int} {o : List Int} {j : Nat} {t : Int} (h : ch[j]? = some t) : extC (ch.take (j + 1)) o = extC (ch.take j) o ++ (if t ∈ o then [] else [o ++ [t]]) := by
  unfold extC
  rw [List.take_add_one, h, List.filter_append, List.map_append]
  congr 1
  show List.map _ (List.filter _ [t]) = _
  rw [List.filter_cons]
  by_cases c : t ∈ o
  · rw [decide_eq_true c, if_pos c]
    rfl
  · rw [decide_eq_false c, if_neg c]
    rfl
theorem extC_len (ch o : List Int) : (extC ch o).length ≤ ch.length := by
  unfold extC
  rw [List.length_map]
  exact List.length_filter_le _ _
theorem flatC_len (ch : List Int) : ∀ l : List (List Int), (l.flatMap (extC ch)).length ≤ l.length * ch.length
  | [] => Nat.zero_le _
  | o :: l => by
    rw [List.flatMap_cons, List.length_append, List.length_cons, Nat.add_mul, Nat.one_mul]
    have := flatC_len ch l
    have := extC_len ch o
    omega
theorem ordW_all (n : Nat) : ∀ i, ordW (List.replicate i (rg n)) = allK n i
  | 0 => rfl
  | i + 1 => by
    have h := ordW_more (chs := List.replicate (i + 1) (rg n)) (i := i) (ch := rg n) (by rw [List.getElem?_replicate, if_pos (by omega)])
    rw [List.take_of_length_le (by rw [List.length_replicate]; omega), List.take_replicate, Nat.min_eq_left (by omega), ordW_all n i] at h
    exact h
theorem ordW_rows : ∀ (i : Nat) (chs : List (List Int)), ∀ r ∈ ordW (chs.take i), r.length ≤ i
  | 0, chs, r, h => by
    rw [List.take_zero] at h
    rw [List.mem_singleton.mp h]
    exact Nat.le_refl _
  | i + 1, chs, r, h => by
    cases e : chs[i]? with
    | none =>
      have : chs.take (i + 1) = chs.take i := by rw [List.take_add_one, e]; simp
      rw [this] at h
      exact Nat.le_succ_of_le (ordW_rows i chs r h)
    | some ch =>
      rw [ordW_more e] at h
      obtain ⟨o, ho, hr⟩ := List.mem_flatMap.mp h
      obtain ⟨t, _, rfl⟩ := List.mem_map.mp hr
      have := ordW_rows i chs o ho
      rw [List.length_append]
      show _ + 1 ≤ _
      omega
def spOrdW : Sp := fun vs H Q _ => ∃ (c : Addr) (cs : List Addr) (chs : List (List Int)), vs = [.ref c] ∧ H c = some (.lst (cs.map V.ref)) ∧ LL H cs chs ∧ chs.length ≤ 12 ∧ (∀ ch ∈ chs, ch.length ≤ 12) ∧ (∀ i, i ≤ chs.length → (ordW (chs.take i)).length ≤ 100000) ∧
  ∀ (l : Addr) (as : List Addr) (H' : Hp), H l = none → H' l = some (.lst (as.map V.ref)) → LL H' as (ordW chs) → (∀ a ∈ as, H a = none ∧ a ≠ l) → as.Nodup → Same H H' → Q (.ref l) H'
section
variable {P : Program} {w : World} {K : PySem.W.Frag} {mg : Str → Option Value} {base : Heap}
theorem scOrdW : FnScope ["choices", "begun", "things", "start", "thing"] ["choices"] (defScope s_orders_with) := ⟨rfl, rfl, rfl, by decide +kernel, rfl, by decide +kernel, by decide +kernel⟩
set_option maxHeartbeats 4000000 in
theorem ok_ordW {f : Addr} {fd : FuncData} {k : Nat} (T : Df K mg "orders_with" s_orders_with ["choices"] f fd) (B : Bi mg) : FnOk P w K mg base CX0 (k + 1) f fd ["choices"] spOrdW := by
  refine T.F.ok scOrdW (fun vs H Q E h => ?_) (fun cdv A outer s H vs Q E hr h => ?_)
  · obtain ⟨c, cs, chs, rfl, _⟩ := h
    rfl
  · obtain ⟨c0, ks, chs, rfl, hc, hLc, hcl, hch, hsz, q⟩ := h
    have hkl := hLc.len
    refine ⟨_, 
      (pss_cons (ps_set (i := 1) scOrdW.nd rfl (.inl rfl) (pe_lst (pa_cons (pe_lst pa_nil) pa_nil)))
      (pss_cons (ps_for PassesOwn.never rfl (pi_list (pv 0)) (pg_name (i := 2) scOrdW.nd rfl (.inr rfl))
        (pss_one (ps_setLc2 (i := 1) (own := [("start", 3), ("thing", 4)]) (vs1 := [4]) (wi1 := iList K (tVar 2)) (g := (gName 3)) (tt := tYes) (g1 := (gName 4)) (tt1 := (tTest (tOp (rIn K true) (tVar 4) (tVar 3)))) (te := (tOp rCat (tVar 3) (tLst (tCons (tVar 4) tNil)))) (by rfl) scOrdW.nd rfl rfl (sw_true rfl rfl rfl (by decide +kernel)) (pi_list (pv 1)) (blkOk_by (N := ["choices", "begun", "things", "start", "thing"]) (sc := defScope s_orders_with) (by decide +kernel)) (by decide) (fun _ _ _ _ _ => (pg_name (i := 3) scOrdW.nd rfl (.inl rfl))) (fun _ _ _ _ _ => pts_nil) (fun _ _ _ _ _ => (pi_list (pv 2))) (fun _ _ _ _ _ => (pg_name (i := 4) scOrdW.nd rfl (.inl rfl))) (fun _ _ _ _ _ => (pts_one (pt_cmpR op_notIn_seq (pv 4) (pv 3) (by rfl)))) (fun _ _ _ _ _ => (pe_op op_cat (pv 3) (pe_lst (pa_cons (pv 4) pa_nil)))))))
      (pss_one (ps_ret (pv 1))))), ?_⟩
    refine ⟨Nat.zero_le _, fun e0 ne0 => ⟨line_small (by show 1 ≤ 16777216; decide), fun bg nbg => ?_⟩⟩
    have s0 := same_new (o := .lst []) ne0
    have s1 := same_new (o := .lst [.ref e0]) nbg
    have nHbg : H bg = none := s0.free nbg
    have neb : e0 ≠ bg := ne_of_none upd_same nbg
    refine ⟨_, rfl, c0, rfl, ⟨_, SqL.of (s1 _ _ (s0 _ _ hc))⟩, ?_⟩
    refine for_list (xs := ks.map V.ref) (fun i σ H3 => ∃ (bg : Addr) (y2 y3 y4 : Option V) (as : List Addr), σ = [some (.ref c0), some (.ref bg), y2, y3, y4] ∧ H bg = none ∧ H3 bg = some (.lst (as.map V.ref)) ∧ LL H3 as (ordW (chs.take i)) ∧ (∀ c ∈ as, H c = none ∧ c ≠ bg) ∧ as.Nodup ∧ Same H H3)
      ⟨bg, _, _, _, [e0], rfl, nHbg, upd_same, ⟨s1 _ _ upd_same, trivial⟩, fun c hc => by rw [List.mem_singleton.mp hc]; exact ⟨ne0, neb⟩, List.nodup_cons.mpr ⟨List.not_mem_nil, List.nodup_nil⟩, s0.trans s1⟩ (fun i σ H3 _ hP => by obtain ⟨_, _, _, _, _, _, _, _, _, _, _, sm⟩ := hP; exact SqL.of (sm _ _ hc)) (fun i x σ H3 hx hP => ?_) (fun σ H3 hP => ?_)
    · obtain ⟨bg, y2, y3, y4, as, rfl, nbg, hb3, hLL, hfr, hnd, sm⟩ := hP
      obtain ⟨kc, ek, rfl⟩ := ref_at_inv hx
      obtain ⟨ch, ech, hkc⟩ := hLc.get ek
      have hi := (List.getElem?_eq_some_iff.mp ech).1
      have hchl := hch ch (List.mem_of_getElem? ech)
      have hlen := hLL.len
      have hal := hsz i (by omega)
      have hkc3 := sm _ _ hkc
      refine ⟨_, rfl, bg, rfl, ⟨_, SqL.of hb3⟩, fun D nD => ?_⟩
      have nHD : H D = none := sm.free nD
      refine lc2_list (K := K) (a := bg) (xs := as.map V.ref) (fun m H4 => ∃ cs : List Addr, H4 D = some (.lst (cs.map V.ref)) ∧ LL H4 cs (((ordW (chs.take i)).take m).flatMap (extC ch)) ∧ (∀ c ∈ cs, H3 c = none ∧ c ≠ D) ∧ cs.Nodup ∧ Same H3 H4)
        ⟨[], upd_same, trivial, fun c hc => absurd hc List.not_mem_nil, List.nodup_nil, same_new nD⟩ (fun m H4 _ hP => by obtain ⟨_, _, _, _, _, s4⟩ := hP; exact SqL.of (s4 _ _ hb3)) (fun m x H4 hx hP => ?_) (fun H4 hP => ?_)
      · obtain ⟨cs, hD4, hLc4, hfc, hndc, s4⟩ := hP
        obtain ⟨r, er, rfl⟩ := ref_at_inv hx
        obtain ⟨row, erow, hrow⟩ := hLL.get er
        have hrl := ordW_rows i chs row (List.mem_of_getElem? erow)
        refine ⟨rfl, ?_⟩
        refine ⟨_, rfl, kc, rfl, ⟨_, SqL.of (s4 _ _ hkc3)⟩, ?_⟩
        refine in_list (K := K) (a := kc) (xs := ch.map V.int) (fun j H5 => ∃ cs : List Addr, H5 D = some (.lst (cs.map V.ref)) ∧ LL H5 cs (((ordW (chs.take i)).take m).flatMap (extC ch) ++ extC (ch.take j) row) ∧ (∀ c ∈ cs, H3 c = none ∧ c ≠ D) ∧ cs.Nodup ∧ Same H3 H5)
          ⟨cs, hD4, by rw [show extC (ch.take 0) row = [] from rfl, List.append_nil]; exact hLc4, hfc, hndc, s4⟩ (fun j H5 _ hP => by obtain ⟨_, _, _, _, _, s5⟩ := hP; exact SqL.of (s5 _ _ hkc3)) (fun j x H5 hx hP => ?_) (fun H5 hP => ?_)
        · obtain ⟨cs5, hD5, hL5, hf5, hnd5, s5⟩ := hP
          obtain ⟨t, et, rfl⟩ := int_at_inv hx
          have hrow5 := s5 _ _ hrow
          refine ⟨rfl, _, rfl, _, rfl, r, _, rfl, .inl (SqL.of hrow5), rfl, flat_ints row, _, rfl, ?_⟩
          show if (!inV (.int t) (row.map V.int)) = true then _ else _
          rw [inV_int]
          have em := extC_more (o := row) et
          by_cases c : t ∈ row
          · rw [decide_eq_true c]
            refine iteF ⟨cs5, hD5, ?_, hf5, hnd5, s5⟩
            rw [em, if_pos c, List.append_nil]
            exact hL5
          · rw [decide_eq_false c]
            refine iteT ⟨_, rfl, _, rfl, line_small (by show 1 ≤ 16777216; decide), fun p np => ?_⟩
            have sp1 := same_new (o := .lst [.int t]) np
            refine ⟨r, p, _, _, rfl, rfl, sp1 _ _ hrow5, upd_same, line_small (by rw [List.length_map]; show _ + 1 ≤ _; omega), fun z nz => ?_⟩
            have sp2 := same_new (o := .lst (row.map V.int ++ [.int t])) nz
            have hD6 := sp2 _ _ (sp1 _ _ hD5)
            have nzD : z ≠ D := (ne_of_none (sp1 _ _ hD5) nz).symm
            have hl5 := hL5.len
            have hcount : cs5.length < 16777216 := by
              have h1 : (((ordW (chs.take i)).take m).flatMap (extC ch) ++ extC (ch.take j) row).length ≤ ((ordW (chs.take i)).take m).length * ch.length + ch.length := by
                rw [List.length_append]
                have a1 := flatC_len ch ((ordW (chs.take i)).take m)
                have a2 := extC_len (ch.take j) row
                rw [List.length_take] at a2
                omega
              have h2 : ((ordW (chs.take i)).take m).length * ch.length ≤ 100000 * 12 := Nat.mul_le_mul (by rw [List.length_take]; omega) hchl
              omega
            refine ⟨_, hD6, line_lt (by rw [List.length_map]; exact hcount), cs5 ++ [z], by rw [upd_same, List.map_append]; rfl, ?_, fun c hc => ?_, ?_, fun u ob e => ?_⟩
            · rw [em, if_neg c, ← List.append_assoc]
              refine LL.snoc (((hL5.same sp1).same sp2).keep fun u hu ob e => by rw [upd_ne (hf5 u hu).2]; exact e) ?_
              rw [upd_ne nzD, upd_same, List.map_append]
              rfl
            · rcases List.mem_append.mp hc with hc | hc
              · exact hf5 c hc
              · rw [List.mem_singleton.mp hc]
                exact ⟨(s5.trans sp1).free nz, nzD⟩
            · rw [List.nodup_append]
              refine ⟨hnd5, List.nodup_cons.mpr ⟨List.not_mem_nil, List.nodup_nil⟩, fun x hx y hy e => ?_⟩
              rw [List.mem_singleton.mp hy] at e
              obtain ⟨ob, eo⟩ := hL5.tracked hx
              rw [e] at eo
              have := sp1 _ _ eo
              rw [nz] at this
              cases this
            · rw [upd_ne (ne_of_none e nD)]
              exact sp2 _ _ (sp1 _ _ (s5 _ _ e))
        · obtain ⟨cs5, hD5, hL5, hf5, hnd5, s5⟩ := hP
          refine ⟨cs5, hD5, ?_, hf5, hnd5, s5⟩
          rw [List.length_map, List.take_length] at hL5
          rw [List.take_add_one, erow, List.flatMap_append]
          show LL H5 cs5 (_ ++ (extC ch row ++ []))
          rw [List.append_nil]
          exact hL5
      · obtain ⟨cs, hD4, hLc4, hfc, hndc, s4⟩ := hP
        rw [List.length_map, hlen, List.take_length] at hLc4
        refine ⟨D, _, _, _, cs, rfl, nHD, hD4, ?_, fun c hc => ⟨sm.free (hfc c hc).1, (hfc c hc).2⟩, hndc, sm.trans s4⟩
        rw [ordW_more ech]
        exact hLc4
    · obtain ⟨bg, y2, y3, y4, as, rfl, nbg, hb3, hLL, hfr, hnd, sm⟩ := hP
      rw [List.length_map, hkl, List.take_length] at hLL
      exact ⟨_, rfl, q bg as H3 nbg hb3 hLL hfr hnd sm⟩
theorem LL_rep {H : Hp} {a : Addr} {r : List Int} (h : H a = some (.lst (r.map V.int))) : ∀ m, LL H (List.replicate m a) (List.replicate m r)
  | 0 => trivial
  | m + 1 => ⟨h, LL_rep h m⟩
theorem rep_flat (v : V) : ∀ m : Nat, (List.replicate m [v]).flatten = List.replicate m v
  | 0 => rfl
  | m + 1 => by rw [List.replicate_succ, List.flatten_cons, rep_flat v m]; rfl
theorem scAllO : FnScope ["n"] ["n"] (defScope s_all_orders) := ⟨rfl, rfl, rfl, by decide +kernel, rfl, by decide +kernel, by decide +kernel⟩
theorem ok_all_orders {f f1 : Addr} {fd d1 : FuncData} {k : Nat} (T : Df K mg "all_orders" s_all_orders ["n"] f fd) (T_orders_with : Df K mg "orders_with" s_orders_with ["choices"] f1 d1) (B : Bi mg) : FnOk P w K mg base CX0 (k + 2) f fd ["n"] spAllO := by
  have G_orders_with : FnOk P w K mg base CX0 (k + 1) f1 d1 ["choices"] spOrdW := ok_ordW T_orders_with B
  refine T.F.ok scAllO (fun vs H Q E h => ?_) (fun cdv A outer s H vs Q E hr h => ?_)
  · obtain ⟨n, rfl, _⟩ := h
    rfl
  · obtain ⟨n, rfl, hn1, hn2, q⟩ := h
    refine ⟨_, 
      (pss_one (ps_ret (pe_call G_orders_with hr (by rfl) T_orders_with.g T_orders_with.F.kp T_orders_with.b .nil pass0 (pa_cons (pe_op op_rep (pe_lst (pa_cons (pe_listRg rfl (by rfl) B.list (prg_1 (by rfl) B.range (pv 0))) pa_nil)) (pv 0)) pa_nil)))), ?_⟩
    refine ⟨_, rfl, n, rfl, RgOk.of_le (by omega) (by omega) (by omega) (by omega), fun l nl => ?_⟩
    have t1 := same_new (o := .lst (rgV 0 (n : Int))) nl
    have hl : (upd H l (.lst (rgV 0 (n : Int)))) l = some (.lst ((rg n).map V.int)) := by rw [upd_same, rg_V]
    refine ⟨line_small (by show 1 ≤ 16777216; decide), fun l1 nl1 => ?_⟩
    have t2 := same_new (o := .lst [.ref l]) nl1
    refine ⟨_, rfl, l1, _, _, rfl, rfl, upd_same, by omega, by omega, line_small (by rw [Int.toNat_natCast]; show 1 * n ≤ _; omega), fun l2 nl2 => ?_⟩
    have t3 := same_new (o := .lst (List.replicate ((n : Nat) : Int).toNat [V.ref l]).flatten) nl2
    have tt := (t1.trans t2).trans t3
    refine ⟨l2, List.replicate n l, List.replicate n (rg n), rfl, by rw [upd_same, Int.toNat_natCast, rep_flat, List.map_replicate], LL_rep (t3 _ _ (t2 _ _ hl)) n, by rw [List.length_replicate]; omega, fun ch hc => ?_, fun i hi => ?_, fun r as H' nr hr hLL hfr hnd s' => ?_⟩
    · rw [(List.mem_replicate.mp hc).2, rg_len]
      omega
    · rw [List.length_replicate] at hi
      rw [List.take_replicate, Nat.min_eq_left hi, ordW_all]
      have h1 := allK_len hn2 i hi
      have h2 := pow6 (show i ≤ 6 by omega)
      omega
    · rw [ordW_all] at hLL
      exact q r as H' (tt.free nr) hr hLL (fun c hc => ⟨tt.free (hfr c hc).1, (hfr c hc).2⟩) hnd (tt.trans s')
end
end Fo
namespace Fo
open PySem PySem.Spec PyProof.Rows L2
def nearL (w : Str) (n : Nat) (xs : List Int) (r : Int) : List (List Int) := (allK n n).filter fun o => decide (farW w xs o ≤ r)
theorem filter_moreL {l : List (List Int)} {m : Nat} {x : List Int} (p : List Int → Bool) (h : l[m]? = some x) : (l.take (m + 1)).filter p = (l.take m).filter p ++ (if p x then [x] else []) := by
  rw [List.take_add_one, h, List.filter_append]
  show _ ++ List.filter p [x] = _
  rw [List.filter_cons]
  rfl
theorem extend_LL {H : Hp} : ∀ {as bs : List Addr} {rs ss : List (List Int)}, LL H as rs → LL H bs ss → LL H (as ++ bs) (rs ++ ss)
  | [], _, [], _, _, h => h
  | [], _, _ :: _, _, h, _ => h.elim
  | _ :: _, _, [], _, h, _ => h.elim
  | _ :: _, _, _ :: _, _, h, h2 => ⟨h.1, extend_LL h.2 h2⟩
end Fo
namespace Fo
open PySem PySem.Spec PyProof.Rows L2
def spMAll : Sp := fun vs H Q _ => ∃ (w : Str) (l : Addr) (as : List Addr) (rs : List (List Int)) (n : Nat), vs = [.str w, .ref l, .int n] ∧ IsWay w ∧ OL H l as rs n ∧ rs.length ≤ 1000 ∧ n ≤ 6 ∧ ∀ (p g : Addr) (m : Int) (xs : List Int) (H' : Hp), H p = none → H g = none → H' p = some (.tup [.int m, .ref g]) → H' g = some (.lst (xs.map V.int)) → amin (fun o => sumW w o rs) (allK n n) = some (m, xs) → Same H H' → Q (.ref p) H'
/-- what is made least -/
def midF (w : Str) (rs : List (List Int)) (o : List Int) : Int := if w = "swap" then cst (aN rs) o else sumW w o rs
def spMid : Sp := fun vs H Q _ => ∃ (w : Str) (l : Addr) (as : List Addr) (rs : List (List Int)) (n : Nat), vs = [.str w, .ref l] ∧ IsWay w ∧ OL H l as rs n ∧ 1 ≤ rs.length ∧ rs.length ≤ 20 ∧ (n ≤ 6 ∨ (w = "swap" ∧ n ≤ 9)) ∧ ∀ (p g : Addr) (m : Int) (xs : List Int) (H' : Hp), H p = none → H g = none → H' p = some (.tup [.int m, .ref g]) → H' g = some (.lst (xs.map V.int)) → amin (midF w rs) (allK n n) = some (m, xs) → Same H H' → Q (.ref p) H'
theorem amin_more {f : List Int → Int} {L : List (List Int)} {i : Nat} {o : List Int} (h : L[i]? = some o) : amin f (L.take (i + 1)) = aStep f (amin f (L.take i)) o := by
  rw [List.take_add_one, h]
  exact amin_snoc f _ o
section
variable {P : Program} {w : World} {K : PySem.W.Frag} {mg : Str → Option Value} {base : Heap}
theorem scMAll : FnScope ["way", "poll", "n", "least", "best", "order", "far"] ["way", "poll", "n"] (defScope s_middle_by_all) := ⟨rfl, rfl, rfl, by decide +kernel, rfl, by decide +kernel, by decide +kernel⟩
set_option maxHeartbeats 4000000 in
theorem ok_mall {f f1 f2 : Addr} {fd d1 d2 : FuncData} {k : Nat} (T : Df K mg "middle_by_all" s_middle_by_all ["way", "poll", "n"] f fd) (T_all_orders : Df K mg "all_orders" s_all_orders ["n"] f1 d1) (T_known_sum : Df K mg "known_sum" s_known_sum ["way", "poll", "order"] f2 d2) (G_all_orders : FnOk P w K mg base CX0 k f1 d1 ["n"] spAllO) (G_known_sum : FnOk P w K mg base CX0 k f2 d2 ["way", "poll", "order"] spKSum) : FnOk P w K mg base CX0 (k + 1) f fd ["way", "poll", "n"] spMAll := by
  refine T.F.ok scMAll (fun vs H Q E h => ?_) (fun cdv A outer s H vs Q E hr h => ?_)
  · obtain ⟨z, l, as, rs, n, rfl, _⟩ := h
    rfl
  · obtain ⟨z, l, as, rs, n, rfl, hz, hO, hlen, hn6, q⟩ := h
    refine ⟨_, 
      (pss_cons (ps_asg (pe_tup (pa_cons pe_non (pa_cons pe_non pa_nil))) (pg_tup (by rfl) (pgs_cons (pg_name (i := 3) scMAll.nd rfl (.inl rfl)) (pgs_cons (pg_name (i := 4) scMAll.nd rfl (.inl rfl)) pgs_nil))))
      (pss_cons (ps_for PassesOwn.never rfl (pi_list (pe_call G_all_orders hr (by rfl) T_all_orders.g T_all_orders.F.kp T_all_orders.b .nil pass0 (pa_cons (pv 2) pa_nil))) (pg_name (i := 5) scMAll.nd rfl (.inl rfl))
        (pss_cons (ps_set (i := 6) scMAll.nd rfl (.inl rfl) (pe_call G_known_sum hr (by rfl) T_known_sum.g T_known_sum.F.kp T_known_sum.b .nil pass0 (pa_cons (pv 0) (pa_cons (pv 1) (pa_cons (pv 5) pa_nil)))))
        (pss_one (ps_if (PW.pt (pw_or (pt_cmpR op_isN (pv 3) pe_non (nomark _)) (pw_or1 (pt_cmpR op_lt (pv 6) (pv 3) (nomark _)))))
          (pss_one (ps_par (i := 3) (j := 4) (by rfl) scMAll.nd rfl rfl (by decide) rfl rfl (pa_cons (pv 6) (pa_cons (pv 5) pa_nil)) (by rfl)))
          pss_nil))))
      (pss_one (ps_ret (pe_tup (pa_cons (pv 3) (pa_cons (pv 4) pa_nil))))))), ?_⟩
    refine ⟨line_small (by show 2 ≤ 16777216; decide), fun t0 nt0 => ⟨t0, _, rfl, .inl (.inl upd_same), rfl, _, _, rfl, _, _, rfl, rfl, ?_⟩⟩
    have s0 := same_new (o := .tup [.non, .non]) nt0
    replace hO := hO.same s0
    replace q : ∀ (p g : Addr) (m : Int) (xs : List Int) (H' : Hp), (upd H t0 (.tup [.non, .non])) p = none → (upd H t0 (.tup [.non, .non])) g = none → H' p = some (.tup [.int m, .ref g]) → H' g = some (.lst (xs.map V.int)) → amin (fun o => sumW z o rs) (allK n n) = some (m, xs) → Same (upd H t0 (.tup [.non, .non])) H' → Q (.ref p) H' := fun p g m xs H' np ng hp hg ha s => q p g m xs H' (s0.free np) (s0.free ng) hp hg ha (s0.trans s)
    generalize upd H t0 (.tup [.non, .non]) = H0 at hO q ⊢
    refine ⟨_, rfl, n, rfl, hO.n1, hn6, fun al bs H1 nal hal hLL hbs hnd s1 => ?_⟩
    have hO1 := hO.same s1
    have hbl := hLL.len
    refine ⟨al, rfl, ⟨_, SqL.of hal⟩, ?_⟩
    refine for_list (xs := bs.map V.ref) (fun i σ G => ∃ (y5 y6 : Option V) (v3 v4 : V), σ = [some (.str z), some (.ref l), some (.int n), some v3, some v4, y5, y6] ∧ ((v3 = .non ∧ v4 = .non ∧ amin (fun o => sumW z o rs) ((allK n n).take i) = none) ∨ ∃ (m : Int) (g : Addr) (xs : List Int), v3 = .int m ∧ v4 = .ref g ∧ amin (fun o => sumW z o rs) ((allK n n).take i) = some (m, xs) ∧ G g = some (.lst (xs.map V.int)) ∧ H0 g = none) ∧ Same H1 G)
      ⟨_, _, _, _, rfl, .inl ⟨rfl, rfl, rfl⟩, Same.refl _⟩ (fun i σ G _ hP => by obtain ⟨_, _, _, _, _, _, sm⟩ := hP; exact SqL.of (sm _ _ hal)) (fun i x σ G hx hP => ?_) (fun σ G hP => ?_)
    · obtain ⟨y5, y6, v3, v4, rfl, hst, sm⟩ := hP
      obtain ⟨b, eb, rfl⟩ := ref_at_inv hx
      obtain ⟨o, eo, hb⟩ := (hLL.same sm).get eb
      have oo := all_ord (List.mem_of_getElem? eo)
      have nb := (hbs b (List.mem_of_getElem? eb)).1
      refine ⟨_, rfl, _, rfl, _, rfl, z, l, b, as, rs, n, o, rfl, hz, hO1.same sm, hlen, hb, oo, fun G2 s2 => ?_⟩
      have hb2 := s2 _ _ hb
      have am := amin_more (f := fun o => sumW z o rs) eo
      rcases hst with ⟨rfl, rfl, ea⟩ | ⟨m, g, xs, rfl, rfl, ea, hg, ng⟩
      · refine ⟨_, rfl, rfl, _, rfl, ite2 (fun _ => ?_) (fun c => absurd (decide_eq_true rfl) c)⟩
        rw [ea] at am
        exact ⟨_, rfl, _, rfl, _, _, rfl, _, _, _, _, rfl, .inr ⟨_, b, o, rfl, rfl, am, hb2, nb⟩, sm.trans s2⟩
      · refine ⟨_, rfl, rfl, _, rfl, ite2 (fun c => by cases of_decide_eq_true c) (fun _ => ?_)⟩
        rw [ea] at am
        refine ⟨_, rfl, _, rfl, _, m, rfl, rfl, _, rfl, ite2 (fun c => ?_) (fun c => ?_)⟩
        · have hlt : sumW z o rs < m := of_decide_eq_true c
          refine ⟨_, rfl, _, rfl, _, _, rfl, _, _, _, _, rfl, .inr ⟨_, b, o, rfl, rfl, ?_, hb2, nb⟩, sm.trans s2⟩
          rw [am]
          show (if sumW z o rs < m then _ else _) = _
          rw [if_pos hlt]
        · refine ⟨_, _, _, _, rfl, .inr ⟨m, g, xs, rfl, rfl, ?_, s2 _ _ hg, ng⟩, sm.trans s2⟩
          rw [am]
          show (if sumW z o rs < m then _ else _) = _
          rw [if_neg (fun h => c (decide_eq_true h))]
    · obtain ⟨y5, y6, v3, v4, rfl, hst, sm⟩ := hP
      rw [List.length_map, hbl, List.take_length] at hst
      have hne : allK n n ≠ [] := List.ne_nil_of_mem (ord_all (n := n) (r := rg n) (List.Perm.refl _))
      rcases hst with ⟨_, _, ea⟩ | ⟨m, g, xs, rfl, rfl, ea, hg, ng⟩
      · exact absurd (amin_none ea) hne
      · refine ⟨_, rfl, _, rfl, line_small (by show 2 ≤ 16777216; decide), fun p np => ?_⟩
        have sp := same_new (o := .tup [.int m, .ref g]) np
        exact q p g m xs _ ((s1.trans sm).free np) ng upd_same (sp _ _ hg) ea ((s1.trans sm).trans sp)
theorem scMid : FnScope ["way", "poll", "n"] ["way", "poll"] (defScope s_middle_of) := ⟨rfl, rfl, rfl, by decide +kernel, rfl, by decide +kernel, by decide +kernel⟩
set_option maxHeartbeats 2000000 in
theorem ok_mid {f f1 f2 f3 f4 f5 f6 : Addr} {fd d1 d2 d3 d4 d5 d6 : FuncData} {k : Nat} {t1 t2 : Tok} (T : Df K mg "middle_of" s_middle_of ["way", "poll"] f fd) (T_check_poll : Df K mg "check_poll" s_check_poll ["thing"] f1 d1) (T_check_way : Df K mg "check_way" s_check_way ["thing"] f2 d2) (T_check_few : Df K mg "check_few" s_check_few ["n", "most"] f3 d3) (T_middle_by_pairs : Df K mg "middle_by_pairs" s_middle_by_pairs ["ahead"] f4 d4) (T_counts_ahead : Df K mg "counts_ahead" s_counts_ahead ["poll"] f5 d5) (T_middle_by_all : Df K mg "middle_by_all" s_middle_by_all ["way", "poll", "n"] f6 d6)
    (G_check_poll : FnOk P w K mg base CX0 k f1 d1 ["thing"] spCPoll) (G_check_way : FnOk P w K mg base CX0 k f2 d2 ["thing"] spWay) (G_check_few : FnOk P w K mg base CX0 k f3 d3 ["n", "most"] spFew) (G_middle_by_pairs : FnOk P w K mg base CX0 k f4 d4 ["ahead"] spMPairs) (G_counts_ahead : FnOk P w K mg base CX0 k f5 d5 ["poll"] spAhead) (G_middle_by_all : FnOk P w K mg base CX0 k f6 d6 ["way", "poll", "n"] spMAll) (B : Bi mg) (mB : mg "MOST_BY_PAIRS" = some (.int 9 t1)) (mL : mg "MOST_LISTED" = some (.int 6 t2)) : FnOk P w K mg base CX0 (k + 1) f fd ["way", "poll"] spMid := by
  refine T.F.ok scMid (fun vs H Q E h => ?_) (fun cdv A outer s H vs Q E hr h => ?_)
  · obtain ⟨z, l, as, rs, n, rfl, _⟩ := h
    rfl
  · obtain ⟨z, l, as, rs, n, rfl, hz, hO, h1, h2, hn, q⟩ := h
    have hal := hO.ll.len
    refine ⟨_, 
      (pss_cons (ps_expr (pe_call G_check_poll hr (by rfl) T_check_poll.g T_check_poll.F.kp T_check_poll.b .nil pass0 (pa_cons (pv 1) pa_nil)))
      (pss_cons (ps_expr (pe_call G_check_way hr (by rfl) T_check_way.g T_check_way.F.kp T_check_way.b .nil pass0 (pa_cons (pv 0) pa_nil)))
      (pss_cons (ps_set (i := 2) scMid.nd rfl (.inl rfl) (pe_callB call_len_seq (by rfl) B.len PySem.boot_len (pa_cons (pe_ix ix_list (pv 1) pe_int (fun _ _ => rfl)) pa_nil)))
      (pss_cons (ps_if (pt_cmpR op_eq (pv 0) pe_str (nomark _))
        (pss_cons (ps_expr (pe_call G_check_few hr (by rfl) T_check_few.g T_check_few.F.kp T_check_few.b .nil pass0 (pa_cons (pv 2) (pa_cons (pe_glob (v := .int 9) (by rfl) mB ⟨_, rfl⟩) pa_nil))))
        (pss_one (ps_ret (pe_call G_middle_by_pairs hr (by rfl) T_middle_by_pairs.g T_middle_by_pairs.F.kp T_middle_by_pairs.b .nil pass0 (pa_cons (pe_call G_counts_ahead hr (by rfl) T_counts_ahead.g T_counts_ahead.F.kp T_counts_ahead.b .nil pass0 (pa_cons (pv 1) pa_nil)) pa_nil)))))
        pss_nil)
      (pss_cons (ps_expr (pe_call G_check_few hr (by rfl) T_check_few.g T_check_few.F.kp T_check_few.b .nil pass0 (pa_cons (pv 2) (pa_cons (pe_glob (v := .int 6) (by rfl) mL ⟨_, rfl⟩) pa_nil))))
      (pss_one (ps_ret (pe_call G_middle_by_all hr (by rfl) T_middle_by_all.g T_middle_by_all.F.kp T_middle_by_all.b .nil pass0 (pa_cons (pv 0) (pa_cons (pv 1) (pa_cons (pv 2) pa_nil))))))))))), ?_⟩
    refine ⟨_, rfl, l, as, rs, n, rfl, hO, h1, h2, fun H1 s1 => ?_⟩
    have hO1 := hO.same s1
    refine ⟨_, rfl, z, rfl, hz, ?_⟩
    obtain ⟨a0, ea0⟩ : ∃ a0, as[0]? = some a0 := ⟨as[0]'(by omega), List.getElem?_eq_getElem (by omega)⟩
    obtain ⟨r0, er0, ha0⟩ := hO1.ll.get ea0
    have lr0 : (r0.map V.int).length = n := by rw [List.length_map]; exact (hO.ord r0 (List.mem_of_getElem? er0)).len
    refine ⟨_, rfl, l, _, 0, _, rfl, rfl, SqL.of hO1.top, at_of (j := 0) rfl (ref_at ea0), a0, _, rfl, .inl (SqL.of ha0), ?_⟩
    rw [lr0]
    refine ⟨_, rfl, rfl, _, rfl, ite2 (fun c => ?_) (fun c => ?_)⟩
    · have ez : z = "swap" := V.str.inj (of_decide_eq_true c)
      subst ez
      have hn9 : n ≤ 9 := by omega
      refine ⟨_, rfl, (n : Int), 9, rfl, by omega, ?_⟩
      refine ⟨_, rfl, l, as, rs, n, rfl, hO1, h1, by omega, fun l' as' H2 nl' hl' hLL' s2 => ?_⟩
      refine ⟨l', as', n, rs, rfl, ⟨hl', hLL', hO.n1, hn9⟩, fun p g m xs H3 np ng hp hg ha s3 => ?_⟩
      have s12 := s1.trans s2
      refine q p g m xs H3 (s12.free np) (s12.free ng) hp hg ?_ (s12.trans s3)
      rw [← ha]
      apply amin_congr
      intro o _
      unfold midF
      rw [if_pos rfl]
    · have nz : z ≠ "swap" := fun e => c (decide_eq_true (by rw [e]))
      have hn6 : n ≤ 6 := by
        rcases hn with h | h
        · exact h
        · exact absurd h.1 nz
      refine ⟨_, rfl, (n : Int), 6, rfl, by omega, ?_⟩
      refine ⟨_, rfl, _, rfl, _, rfl, z, l, as, rs, n, rfl, hz, hO1, by omega, hn6, fun p g m xs H3 np ng hp hg ha s3 => ?_⟩
      refine q p g m xs H3 (s1.free np) (s1.free ng) hp hg ?_ (s1.trans s3)
      rw [← ha]
      apply amin_congr
      intro o _
      unfold midF
      rw [if_neg nz]
end
end Fo
namespace Fo
open PySem PySem.Spec PyProof.Rows L2
/-! what is no order is refused -/
def lenD : PyData → Nat
  | .list ds => ds.length
  | _ => 0
theorem good_at {H : Hp} {v : V} {d : PyData} (h : Dq H v d) (g : GoodD d) : ∃ (a : Addr) (ns : List Int), v = .ref a ∧ H a = some (.lst (ns.map V.int)) ∧ IsOrd ns.length ns ∧ 1 ≤ ns.length ∧ ns.length ≤ 12 ∧ lenD d = ns.length := by
  obtain ⟨ns, rfl, h1, h2, h3⟩ := g
  cases h with
  | @lst a xs _ e al =>
    have := dq_intsV al
    subst this
    exact ⟨a, ns, rfl, e, h1, h2, h3, List.length_map _⟩
def spChk (cO : Addr) : Sp := fun vs H Q E => ∃ (v : V) (d : PyData), vs = [v] ∧ Dq H v d ∧ (GoodD d → ∀ H', Same H H' → Q .non H') ∧ (¬ GoodD d → ∀ H', Same H H' → E (.ref cO) none H')
section
variable {P : Program} {w : World} {K : PySem.W.Frag} {mg : Str → Option Value} {base : Heap}
theorem scChk : FnScope ["thing"] ["thing"] (defScope s_check_order) := ⟨rfl, rfl, rfl, by decide +kernel, rfl, by decide +kernel, by decide +kernel⟩
theorem ok_chk {f f1 cO : Addr} {fd d1 : FuncData} {k : Nat} (T : Df K mg "check_order" s_check_order ["thing"] f fd) (T_is_order : Df K mg "is_order" s_is_order ["thing"] f1 d1) (G_is_order : FnOk P w K mg base CX0 k f1 d1 ["thing"] spIsOrdD) (X_NoOrder : ExK K mg "NoOrder" cO) : FnOk P w K mg base (L2.CX P w) (k + 1) f fd ["thing"] (spChk cO) := by
  refine T.F.okX scChk (fun vs H Q E h => ?_) (fun cdv A outer s H vs Q E hr h => ?_)
  · obtain ⟨v, d, rfl, _⟩ := h
    rfl
  · obtain ⟨v, d, rfl, hd, q1, q2⟩ := h
    refine ⟨_, 
      (pss_one (ps_if (pt_not (pt_val (pe_call G_is_order hr (by rfl) T_is_order.g T_is_order.F.kp T_is_order.b .nil pass0 (pa_cons (pv 0) pa_nil))))
        (pss_one (ps_raiseK rfl (takes_of rfl rfl rfl rfl) X_NoOrder (by rfl)))
        pss_nil)), ?_⟩
    refine ⟨_, rfl, v, d, rfl, hd, fun b H1 hb s1 => ?_⟩
    refine ⟨_, rfl, ?_⟩
    cases b with
    | true => exact iteF (q1 (hb.mp rfl) _ s1)
    | false => exact iteT (q2 (fun z => absurd (hb.mpr z) Bool.false_ne_true) _ s1)
end
end Fo
namespace Fo
open PySem PySem.Spec PyProof.Rows L2
/-! lists of orders, asked of anything -/
def OLd (d : PyData) : Prop := ∃ ds, d = .list ds ∧ (∀ x ∈ ds, GoodD x) ∧ ∀ x ∈ ds, ∀ y ∈ ds, lenD x = lenD y
def spOLD : Sp := fun vs H Q _ => ∃ (v : V) (d : PyData), vs = [v] ∧ Dq H v d ∧ (∀ ds, d = .list ds → ds.length ≤ 1000000) ∧ ∀ (b : Bool) (H' : Hp), (b = true ↔ OLd d) → Same H H' → Q (.bl b) H'
theorem all_snoc (bs : List Bool) (b : Bool) : (bs ++ [b]).all id = true ↔ bs.all id = true ∧ b = true := by
  rw [List.all_append, Bool.and_eq_true]
  simp
theorem take_all {ds : List PyData} {i : Nat} {d : PyData} (e : ds[i]? = some d) {p : PyData → Prop} : (∀ x ∈ ds.take (i + 1), p x) ↔ (∀ x ∈ ds.take i, p x) ∧ p d := by
  rw [List.take_add_one, e]
  constructor
  · intro h
    exact ⟨fun x m => h x (List.mem_append_left _ m), h d (List.mem_append_right _ List.mem_cons_self)⟩
  · rintro ⟨h1, h2⟩ x m
    rcases List.mem_append.mp m with m | m
    · exact h1 x m
    · rw [List.mem_singleton.mp m]
      exact h2
section
variable {P : Program} {w : World} {K : PySem.W.Frag} {mg : Str → Option Value} {base : Heap}
theorem scOLD : FnScope ["thing", "each", "order"] ["thing"] (defScope s_is_order_list) := ⟨rfl, rfl, rfl, by decide +kernel, rfl, by decide +kernel, by decide +kernel⟩
set_option maxHeartbeats 2000000 in
theorem ok_olD {f f1 : Addr} {fd d1 : FuncData} {k : Nat} (T : Df K mg "is_order_list" s_is_order_list ["thing"] f fd) (T_is_order : Df K mg "is_order" s_is_order ["thing"] f1 d1) (G_is_order : FnOk P w K mg base CX0 k f1 d1 ["thing"] spIsOrdD) (B : Bi mg) : FnOk P w K mg base CX0 (k + 1) f fd ["thing"] spOLD := by
  refine T.F.ok scOLD (fun vs H Q E h => ?_) (fun cdv A outer s H vs Q E hr h => ?_)
  · obtain ⟨v, d, rfl, _⟩ := h
    rfl
  · obtain ⟨v, d, rfl, hd, hlen, q⟩ := h
    refine ⟨_, 
      (pss_cons (ps_if (PW.pt (pw_or (pt_not (pt_val (pe_callB call_isi (by rfl) B.isinstance (by decide +kernel) (pa_cons (pv 0) (pa_cons (pe_bltn (v := .ty "list") (by rfl) B.list (by decide +kernel) rfl) pa_nil))))) (pw_or1 (pt_not (pt_val (pe_callB (cr_all rfl) (by rfl) B.all (by decide +kernel) (pa_cons (pe_lc (own := [("each", 1)]) (g := (gName 1)) (tt := tYes) (te := (tCall spIsOrdD [] E0 (tCons (tVar 1) tNil))) rfl scOLD.nd (pi_list (pv 0)) (blkOk_by (N := ["thing", "each", "order"]) (sc := defScope s_is_order_list) (by decide +kernel)) (fun _ _ _ _ _ => (pg_name (i := 1) scOLD.nd rfl (.inl rfl))) (fun _ _ _ _ _ => pts_nil) (fun _ _ _ _ _ => (pe_call G_is_order hr (by rfl) T_is_order.g T_is_order.F.kp T_is_order.b .nil pass0 (pa_cons (pv 1) pa_nil)))) pa_nil)))))))
        (pss_one (ps_ret pe_bl))
        pss_nil)
      (pss_one (ps_ret (pe_callB (cr_all rfl) (by rfl) B.all (by decide +kernel) (pa_cons (pe_lc (own := [("order", 2)]) (g := (gName 2)) (tt := tYes) (te := (tOp rEq (tCB (rLenS K) (tCons (tVar 2) tNil)) (tCB (rLenS K) (tCons (tOp (rIxL K) (tVar 0) (tC (.int 0))) tNil)))) rfl scOLD.nd (pi_list (pv 0)) (blkOk_by (N := ["thing", "each", "order"]) (sc := defScope s_is_order_list) (by decide +kernel)) (fun _ _ _ _ _ => (pg_name (i := 2) scOLD.nd rfl (.inl rfl))) (fun _ _ _ _ _ => pts_nil) (fun _ _ _ _ _ => (pe_cmpR op_eq (pe_callB call_len_seq (by rfl) B.len PySem.boot_len (pa_cons (pv 2) pa_nil)) (pe_callB call_len_seq (by rfl) B.len PySem.boot_len (pa_cons (pe_ix ix_list (pv 0) pe_int (fun _ _ => rfl)) pa_nil)) (nomark _)))) pa_nil))))), ?_⟩
    refine ⟨_, rfl, _, _, _, _, isListD d, rfl, .ty _, dq_ty hd, kit_listD d, _, rfl, ?_⟩
    cases hl : isListD d with
    | false =>
      refine iteT (iteT (q _ _ ⟨fun z => absurd z Bool.false_ne_true, fun z => ?_⟩ (Same.refl _)))
      obtain ⟨ds, e, _⟩ := z
      rw [e] at hl
      cases hl
    | true =>
      cases hd with
      | @lst a xs ds e al =>
        have hl1 := al.len
        have hl2 := hlen ds rfl
        refine iteF ?_
        refine ⟨_, rfl, a, rfl, ⟨_, SqL.of e⟩, fun p np => ?_⟩
        refine lc_list (K := K) (a := a) (xs := xs) (fun i H3 => (∃ bs : List Bool, H3 p = some (.lst (bs.map V.bl)) ∧ bs.length = i ∧ (bs.all id = true ↔ ∀ x ∈ ds.take i, GoodD x)) ∧ Same H H3) ⟨⟨[], upd_same, rfl, by simp⟩, same_new np⟩ (fun i H3 _ hP => SqL.of (hP.2 _ _ e)) (fun i x H3 hx hP => ?_) (fun H3 hP => ?_)
        · obtain ⟨⟨bs, hp3, hb, hg⟩, sm⟩ := hP
          obtain ⟨d, ed, hd⟩ := al.get hx
          have hi := (List.getElem?_eq_some_iff.mp ed).1
          refine ⟨rfl, _, rfl, x, d, rfl, hd.same sm, fun b H4 hb4 s4 => ⟨_, s4 _ _ hp3, line_lt (by rw [List.length_map]; omega), ⟨bs ++ [b], by rw [upd_same, List.map_append]; rfl, by rw [List.length_append, hb]; rfl, ?_⟩, fun b o eb => ?_⟩⟩
          · rw [all_snoc, hg, hb4, take_all ed]
          · rw [upd_ne (ne_of_none eb np)]
            exact s4 _ _ (sm _ _ eb)
        · obtain ⟨⟨bs, hp3, hb, hg⟩, sm⟩ := hP
          rw [hl1, List.take_length] at hg
          have e3 := sm _ _ e
          refine ⟨p, _, rfl, SqL.of hp3, _, rfl, ?_⟩
          have hno : bs.all id = false → (false = true ↔ OLd (.list ds)) := fun z => ⟨fun y => absurd y Bool.false_ne_true, fun y => by
            obtain ⟨ds', e', g', _⟩ := y
            injection e' with e'
            subst e'
            rw [hg.mpr g'] at z
            exact absurd z (by decide)⟩
          cases ha : bs.all id with
          | false => exact iteT (q _ _ (hno ha) sm)
          | true =>
            have good := hg.mp ha
            refine iteF ?_
            refine ⟨_, rfl, a, rfl, ⟨_, SqL.of e3⟩, fun p2 np2 => ?_⟩
            refine lc_list (K := K) (a := a) (xs := xs) (fun i H5 => (∃ cs : List Bool, H5 p2 = some (.lst (cs.map V.bl)) ∧ cs.length = i ∧ (cs.all id = true ↔ ∀ x ∈ ds.take i, ∀ y, ds[0]? = some y → lenD x = lenD y)) ∧ Same H3 H5) ⟨⟨[], upd_same, rfl, by simp⟩, same_new np2⟩ (fun i H5 _ hP => SqL.of (hP.2 _ _ e3)) (fun i x H5 hx hP => ?_) (fun H5 hP => ?_)
            · obtain ⟨⟨cs, hp5, hc, hg5⟩, sm5⟩ := hP
              have al5 := al.same (sm.trans sm5)
              obtain ⟨d, ed, hd⟩ := al5.get hx
              have hi := (List.getElem?_eq_some_iff.mp ed).1
              have g1 := good d (List.mem_of_getElem? ed)
              obtain ⟨a1, ns1, rfl, h1, o1, _, _, l1⟩ := good_at hd g1
              obtain ⟨x0, ex0⟩ : ∃ x0, xs[0]? = some x0 := ⟨xs[0]'(by omega), List.getElem?_eq_getElem (by omega)⟩
              obtain ⟨d0, ed0, hd0⟩ := al5.get ex0
              obtain ⟨a0, ns0, rfl, h0, o0, _, _, l0⟩ := good_at hd0 (good d0 (List.mem_of_getElem? ed0))
              refine ⟨rfl, _, rfl, a1, _, rfl, .inl (SqL.of h1), _, rfl, a, _, 0, _, rfl, rfl, SqL.of (sm5 _ _ e3), at_of (j := 0) rfl ex0, a0, _, rfl, .inl (SqL.of h0), rfl, ?_⟩
              refine ⟨_, hp5, line_lt (by rw [List.length_map]; omega), ⟨cs ++ [decide (lenD d = lenD d0)], ?_, by rw [List.length_append, hc]; rfl, ?_⟩, fun b o eb => ?_⟩
              · have e1 : decide (V.int (((ns1.map V.int).length : Nat) : Int) = V.int (((ns0.map V.int).length : Nat) : Int)) = decide (lenD d = lenD d0) := by
                  rw [List.length_map, List.length_map, l1, l0, decide_eq_decide]
                  exact ⟨fun z => by injection z with z; omega, fun z => by rw [z]⟩
                rw [upd_same, List.map_append, ← e1]
                rfl
              · rw [all_snoc, hg5, take_all ed, decide_eq_true_iff]
                refine and_congr Iff.rfl ⟨fun z y ey => ?_, fun z => z d0 ed0⟩
                rw [ed0] at ey
                rw [← Option.some.inj ey]
                exact z
              · rw [upd_ne (ne_of_none eb np2)]
                exact sm5 _ _ eb
            · obtain ⟨⟨cs, hp5, hc, hg5⟩, sm5⟩ := hP
              rw [hl1, List.take_length] at hg5
              refine ⟨p2, _, rfl, SqL.of hp5, ?_⟩
              refine q _ _ ?_ (sm.trans sm5)
              rw [hg5]
              constructor
              · intro h
                refine ⟨ds, rfl, good, fun x mx y my => ?_⟩
                cases ds with
                | nil => exact absurd mx List.not_mem_nil
                | cons d0 r => rw [h x mx d0 rfl, h y my d0 rfl]
              · rintro ⟨ds', e', _, h⟩
                injection e' with e'
                subst e'
                exact fun x mx y ey => h x mx y (List.mem_of_getElem? ey)
      | _ => cases hl
end
end Fo
namespace Fo
open PySem PySem.Spec PyProof.Rows L2
def spChks (cO : Addr) : Sp := fun vs H Q E => ∃ (v u : V) (d e : PyData), vs = [v, u] ∧ Dq H v d ∧ Dq H u e ∧ (GoodD d → GoodD e → ∀ H', Same H H' → Q .non H') ∧ (¬ (GoodD d ∧ GoodD e) → ∀ H', Same H H' → E (.ref cO) none H')
def spFitX (cF : Addr) : Sp := fun vs H Q E => ∃ (a b : Addr) (xs ys : List V), vs = [.ref a, .ref b] ∧ H a = some (.lst xs) ∧ H b = some (.lst ys) ∧ (xs.length = ys.length → Q .non H) ∧ (xs.length ≠ ys.length → E (.ref cF) none H)
section
variable {P : Program} {w : World} {K : PySem.W.Frag} {mg : Str → Option Value} {base : Heap}
theorem scFitX : FnScope ["one", "other"] ["one", "other"] (defScope s_check_fit) := ⟨rfl, rfl, rfl, by decide +kernel, rfl, by decide +kernel, by decide +kernel⟩
theorem ok_fitX {f cF : Addr} {fd : FuncData} {k : Nat} (T : Df K mg "check_fit" s_check_fit ["one", "other"] f fd) (X_NoFit : ExK K mg "NoFit" cF) (B : Bi mg) : FnOk P w K mg base (L2.CX P w) (k + 1) f fd ["one", "other"] (spFitX cF) := by
  refine T.F.okX scFitX (fun vs H Q E h => ?_) (fun cdv A outer s H vs Q E hr h => ?_)
  · obtain ⟨a, b, xs, ys, rfl, _⟩ := h
    rfl
  · obtain ⟨a, b, xs, ys, rfl, ha, hb, q1, q2⟩ := h
    refine ⟨_, 
      (pss_one (ps_if (pt_cmpR op_ne (pe_callB call_len_seq (by rfl) B.len PySem.boot_len (pa_cons (pv 0) pa_nil)) (pe_callB call_len_seq (by rfl) B.len PySem.boot_len (pa_cons (pv 1) pa_nil)) (nomark _))
        (pss_one (ps_raiseK rfl (takes_of rfl rfl rfl rfl) X_NoFit (by rfl)))
        pss_nil)), ?_⟩
    refine ⟨_, rfl, a, _, rfl, .inl (SqL.of ha), _, rfl, b, _, rfl, .inl (SqL.of hb), rfl, _, rfl, ?_⟩
    by_cases c : xs.length = ys.length
    · rw [c, decide_eq_true rfl]
      exact iteF (q1 c)
    · rw [decide_eq_false (show ¬ (V.int ((xs.length : Nat) : Int) = V.int ((ys.length : Nat) : Int)) from fun z => by injection z with z; omega)]
      exact iteT (q2 c)
end
end Fo
namespace Fo
open PySem PySem.Spec PyProof.Rows L2
def WayD (d : PyData) : Prop := ∃ z : Str, d = .str z ∧ IsWay z
def spWayX (cW : Addr) : Sp := fun vs H Q E => ∃ (v : V) (d : PyData), vs = [v] ∧ Dq H v d ∧ (WayD d → Q .non H) ∧ (¬ WayD d → E (.ref cW) none H)
theorem inV_ways (z : Str) : inV (.str z) [.str "swap", .str "spot", .str "shift"] = decide (z = "swap" ∨ z = "spot" ∨ z = "shift") := by
  have e : ∀ x : Str, eqV (.str x) (.str z) = decide (z = x) := fun x => by
    unfold eqV
    by_cases h : x = z
    · subst h
      simp
    · have h2 : ¬ z = x := fun y => h y.symm
      simp [h, h2]
  unfold inV
  simp only [List.any_cons, List.any_nil, e, Bool.or_false]
  by_cases h1 : z = "swap"
  · simp [h1]
  · by_cases h2 : z = "spot"
    · simp [h2]
    · by_cases h3 : z = "shift"
      · simp [h3]
      · simp [h1, h2, h3]
section
variable {P : Program} {w : World} {K : PySem.W.Frag} {mg : Str → Option Value} {base : Heap}
theorem scWayX : FnScope ["thing"] ["thing"] (defScope s_check_way) := ⟨rfl, rfl, rfl, by decide +kernel, rfl, by decide +kernel, by decide +kernel⟩
theorem ok_wayX {f aW cW : Addr} {fd : FuncData} {k : Nat} (T : Df K mg "check_way" s_check_way ["thing"] f fd) (W : Wy K mg aW) (X_NoWay : ExK K mg "NoWay" cW) (B : Bi mg) : FnOk P w K mg base (L2.CX P w) (k + 1) f fd ["thing"] (spWayX cW) := by
  refine T.F.okX scWayX (fun vs H Q E h => ?_) (fun cdv A outer s H vs Q E hr h => ?_)
  · obtain ⟨v, d, rfl, _⟩ := h
    rfl
  · obtain ⟨v, d, rfl, hd, q1, q2⟩ := h
    refine ⟨_, 
      (pss_one (ps_if (PW.pt (pw_or (pt_not (pt_val (pe_callB call_isi (by rfl) B.isinstance (by decide +kernel) (pa_cons (pv 0) (pa_cons (pe_bltn (v := .ty "str") (by rfl) B.str (by decide +kernel) rfl) pa_nil))))) (pw_or1 (pt_cmpR op_notIn_seq (pv 0) (pe_glob (v := .ref aW) (by rfl) W.g rfl) (by rfl)))))
        (pss_one (ps_raiseK rfl (takes_of rfl rfl rfl rfl) X_NoWay (by rfl)))
        pss_nil)), ?_⟩
    refine ⟨_, rfl, _, _, _, _, isStrD d, rfl, .ty _, dq_ty hd, kit_strD d, _, rfl, ?_⟩
    cases hd with
    | str z =>
      refine iteF ⟨_, rfl, aW, _, rfl, .inr (W.t H), rfl, rfl, _, rfl, ?_⟩
      show if (!inV (.str z) [.str "swap", .str "spot", .str "shift"]) = true then _ else _
      rw [inV_ways]
      by_cases c : z = "swap" ∨ z = "spot" ∨ z = "shift"
      · rw [decide_eq_true c]
        exact iteF (q1 ⟨z, rfl, c⟩)
      · rw [decide_eq_false c]
        exact iteT (q2 fun y => by obtain ⟨z2, e, h⟩ := y; injection e with e; subst e; exact c h)
    | _ => exact iteT (iteT (q2 fun y => by obtain ⟨z2, e, h⟩ := y; cases e))
end
end Fo
namespace Fo
open PySem PySem.Spec PyProof.Rows L2
/-- the numbers of a list of numbers -/
def intsD : PyData → List Int
  | .list ds => ds.filterMap fun x => match x with | .int i => some i | _ => none
  | _ => []
theorem intsD_of (ns : List Int) : intsD (.list (ns.map PyData.int)) = ns := by
  show List.filterMap _ (ns.map PyData.int) = ns
  rw [List.filterMap_map]
  induction ns with
  | nil => rfl
  | cons x r ih => rw [List.filterMap_cons]; show x :: _ = x :: r; rw [show List.filterMap _ r = r from ih]
theorem good_ints {d : PyData} (g : GoodD d) : d = .list ((intsD d).map PyData.int) ∧ IsOrd (intsD d).length (intsD d) ∧ 1 ≤ (intsD d).length ∧ (intsD d).length ≤ 12 := by
  obtain ⟨ns, rfl, h1, h2, h3⟩ := g
  rw [intsD_of]
  exact ⟨rfl, h1, h2, h3⟩
theorem good_atD {H : Hp} {v : V} {d : PyData} (h : Dq H v d) (g : GoodD d) : ∃ (a : Addr), v = .ref a ∧ H a = some (.lst ((intsD d).map V.int)) := by
  obtain ⟨ns, rfl, h1, h2, h3⟩ := g
  rw [intsD_of]
  cases h with
  | @lst a xs _ e al =>
    have := dq_intsV al
    subst this
    exact ⟨a, rfl, e⟩
def rowsD' : PyData → List (List Int)
  | .list ds => ds.map intsD
  | _ => []
theorem old_rows {ds : List PyData} (h : OLd (.list ds)) : ∃ n, n ≤ 12 ∧ ∀ r ∈ ds.map intsD, IsOrd n r := by
  obtain ⟨_, e, g, l⟩ := h
  injection e with e
  subst e
  cases ds with
  | nil => exact ⟨0, by decide, fun r m => absurd m List.not_mem_nil⟩
  | cons d0 r =>
    refine ⟨(intsD d0).length, (good_ints (g d0 List.mem_cons_self)).2.2.2, fun x m => ?_⟩
    obtain ⟨y, my, rfl⟩ := List.mem_map.mp m
    have h1 := good_ints (g y my)
    have h2 := good_ints (g d0 List.mem_cons_self)
    have h3 := l y my d0 List.mem_cons_self
    rw [h1.1, h2.1] at h3
    have h4 : (intsD y).length = (intsD d0).length := by
      have h3 : ((intsD y).map PyData.int).length = ((intsD d0).map PyData.int).length := h3
      rwa [List.length_map, List.length_map] at h3
    rw [← h4]
    exact h1.2.1
theorem good_ll {H : Hp} : ∀ {xs : List V} {ds : List PyData}, DqAll H xs ds → (∀ x ∈ ds, GoodD x) → ∃ as : List Addr, xs = as.map V.ref ∧ LL H as (ds.map intsD)
  | [], [], _, _ => ⟨[], rfl, trivial⟩
  | _ :: _, _ :: _, .cons h t, g => by
    obtain ⟨a, rfl, ha⟩ := good_atD h (g _ List.mem_cons_self)
    obtain ⟨as, rfl, hL⟩ := good_ll t fun x m => g x (List.mem_cons_of_mem _ m)
    exact ⟨a :: as, rfl, ha, hL⟩
end Fo
namespace Fo
open PySem PySem.Spec PyProof.Rows L2
/-! xs.count(y), flat items -/
section
variable {X : Cx}
def rCntF (K : PySem.W.Frag) : V → List V → Hp → VK → Prop := fun x xs H Q => ∃ (a : Addr) (ys : List V) (y : V), x = V.ref a ∧ xs = [y] ∧ SqL K H a ys ∧ flatV y = true ∧ ys.all flatV = true ∧ Q (.int (ys.countP (fun z => eqV z y) : Nat)) H
theorem cnt_flat {y : V} : ∀ {ys : List V} {us : List Value}, Vals ys us → ys.all flatV = true → us.countP (eqU y) = ys.countP fun z => eqV z y
  | [], _, r, _ => by cases r; rfl
  | x :: ys, _, r, f => by
    cases r with
    | cons r1 r2 =>
      rw [List.all_cons, Bool.and_eq_true_iff] at f
      rw [List.countP_cons, List.countP_cons, cnt_flat r2 f.2, eqU_of r1 f.1]
theorem mt_cntF : MtR X "list.count" (rCntF X.K) := by
  intro pins s σ H x xs v us Q I rx rxs h
  obtain ⟨a, ys, y, rfl, rfl, hs, fy, fys, q⟩ := h
  cases rx
  cases rxs with
  | cons ry rt =>
    rename_i uy ut
    cases rt
    obtain ⟨its, rv, ⟨⟨cls, dd, data, sl⟩, n, ho, hc, hdn, hd⟩, hlen⟩ := I.list hs
    simp only at hc hd
    subst hc hd
    refine call_meets PySem.F.slot_list_count ⟨_, ho, rfl⟩ PySem.F.entry_list_count (PySem.F.args_list_count_2 _ _)
      (SeqAt.list_countAt a its.toArray n dd sl uy (eqU y)) ⟨ho, fun u' hu' => mem_eqAt ry fy rv fys u' (by simpa using hu'), ?_⟩
    have ec : its.toArray.toList.countP (eqU y) = ys.countP fun z => eqV z y := cnt_flat rv fys
    refine ⟨.int (ys.countP (fun z => eqV z y) : Nat), H, I.tok _, ⟨s.toks, ?_⟩, q⟩
    show Value.int ((its.toArray.toList.countP (eqU y) : Nat) : Int) s.toks = Value.int ((ys.countP (fun z => eqV z y) : Nat) : Int) s.toks
    rw [ec]
end
end Fo
namespace Fo
open PySem PySem.Spec PyProof.Rows L2
/-- C is the i-th of the nine error classes, and none of the others -/
structure KdY (K : PySem.W.Frag) (c : Nat → Addr) (C : Addr) (i : Nat) : Prop where
  ec : ExcC K C
  ks : ∀ j, j < 9 → PySem.W.kitOne K (.ref C) (.ref (c j)) = some (decide (j = i))
  ve : PySem.W.kitOne K (.ref C) (.type "ValueError") = some true
  lt : i < 9
def cls9 (a0 a1 a2 a3 a4 a5 a6 a7 a8 : Addr) : Nat → Addr
  | 0 => a0
  | 1 => a1
  | 2 => a2
  | 3 => a3
  | 4 => a4
  | 5 => a5
  | 6 => a6
  | 7 => a7
  | _ => a8
theorem kd_mk9 {K : PySem.W.Frag} {C a0 a1 a2 a3 a4 a5 a6 a7 a8 : Addr} {i : Nat} (ec : ExcC K C) (h0 : PySem.W.kitOne K (.ref C) (.ref a0) = some (decide (0 = i))) (h1 : PySem.W.kitOne K (.ref C) (.ref a1) = some (decide (1 = i))) (h2 : PySem.W.kitOne K (.ref C) (.ref a2) = some (decide (2 = i))) (h3 : PySem.W.kitOne K (.ref C) (.ref a3) = some (decide (3 = i))) (h4 : PySem.W.kitOne K (.ref C) (.ref a4) = some (decide (4 = i))) (h5 : PySem.W.kitOne K (.ref C) (.ref a5) = some (decide (5 = i))) (h6 : PySem.W.kitOne K (.ref C) (.ref a6) = some (decide (6 = i))) (h7 : PySem.W.kitOne K (.ref C) (.ref a7) = some (decide (7 = i))) (h8 : PySem.W.kitOne K (.ref C) (.ref a8) = some (decide (8 = i))) (ve : PySem.W.kitOne K (.ref C) (.type "ValueError") = some true) (lt : i < 9) : KdY K (cls9 a0 a1 a2 a3 a4 a5 a6 a7 a8) C i := by
  refine ⟨ec, fun j hj => ?_, ve, lt⟩
  rcases (show j = 0 ∨ j = 1 ∨ j = 2 ∨ j = 3 ∨ j = 4 ∨ j = 5 ∨ j = 6 ∨ j = 7 ∨ j = 8 by omega) with rfl | rfl | rfl | rfl | rfl | rfl | rfl | rfl | rfl
  · exact h0
  · exact h1
  · exact h2
  · exact h3
  · exact h4
  · exact h5
  · exact h6
  · exact h7
  · exact h8
def spKindsY (K : PySem.W.Frag) (c : Nat → Addr) : Sp := fun vs H Q _ => ∃ (a C : Addr) (i : Nat), vs = [.ref a, .int i] ∧ H a = some (ExV (.ref C) none a) ∧ KdY K c C i ∧ ∀ H', Same H H' → Q (.bl true) H'
abbrev dB (bs : List Bool) : PyData := .list (bs.map PyData.bool)
theorem dp_bools {K : PySem.W.Frag} {H : Hp} : ∀ bs : List Bool, DpAll K H (bs.map V.bl) (bs.map PyData.bool)
  | [] => .nil
  | b :: r => .cons (.bl b) (dp_bools r)
theorem dp_boolL {K : PySem.W.Frag} {H : Hp} {a : Addr} {bs : List Bool} (h : H a = some (.lst (bs.map V.bl))) : Dp K H (.ref a) (dB bs) := .lst (SqL.of h) (dp_bools bs)
theorem lay_bools : ∀ bs : List Bool, PyData.canLayAll0 (bs.map PyData.bool) = true
  | [] => rfl
  | b :: r => by
    show (PyData.canLay0 (.bool b) && PyData.canLayAll0 (r.map PyData.bool)) = true
    rw [lay_bools r]
    rfl
theorem depth_bools : ∀ bs : List Bool, PyData.depthAll (bs.map PyData.bool) = 0
  | [] => by simp [PyData.depthAll]
  | b :: r => by
    show PyData.depthAll (.bool b :: r.map PyData.bool) = 0
    rw [PyData.depthAll, depth_bools r]
    simp [PyData.depth]
theorem shaped_bools (bs : List Bool) : SeqAt.shaped (dB bs) = true := by
  unfold SeqAt.shaped
  rw [Bool.and_eq_true_iff]
  constructor
  · rw [PyData.canLay0]
    exact lay_bools bs
  · apply decide_eq_true
    rw [PyData.depth, depth_bools]
    decide
theorem eqv_bools (bs : List Bool) : PyData.eqv (dB bs) (dB bs) = true := SeqAt.eqv_refl _ (SeqAt.canLay_of_shaped (shaped_bools bs))
/-- bools and a new list of them -/
theorem nb (bs : List Bool) {H : Hp} {p : Addr} (np : H p = none) : Same H (upd H p (.lst (bs.map V.bl))) ∧ (upd H p (.lst (bs.map V.bl))) p = some (.lst (bs.map V.bl)) := ⟨same_new np, upd_same⟩
section
variable {P : Program} {w : World} {K : PySem.W.Frag} {mg : Str → Option Value} {base : Heap}
end
end Fo

namespace Fo
open PySem PySem.Spec PyProof.Rows L2
def wordY (i : Nat) : Str := match i with
  | 0 => "NoOrder"
  | 1 => "NoWay"
  | 2 => "NoFit"
  | 4 => "NoNumber"
  | _ => "TooMany"
def spWordY (K : PySem.W.Frag) (c : Nat → Addr) : Sp := fun vs H Q _ => ∃ (a C : Addr) (i : Nat), vs = [.ref a] ∧ H a = some (ExV (.ref C) none a) ∧ KdY K c C i ∧ (i = 0 ∨ i = 1 ∨ i = 2 ∨ i = 4 ∨ i = 5) ∧ ∀ H', Same H H' → Q (.str (wordY i)) H'
theorem first_true {bs : List Bool} {j : Nat} (h : ∀ m, m < j → bs[m]? = some false) : ∀ (m : Nat) (z : V), m < j → (bs.map V.bl)[m]? = some z → eqV z (.bl true) = false := fun m z hm hz => by
  rw [List.getElem?_map, h m hm] at hz
  cases hz
  rfl
theorem no_four {K : PySem.W.Frag} {c : Nat → Addr} {C : Addr} {i : Nat} (kd : KdY K c C i) (hi : i = 0 ∨ i = 1 ∨ i = 2 ∨ i = 4 ∨ i = 5) : PySem.W.kitAny K (.ref C) [.ref (c 7), .ref (c 3), .ref (c 8), .ref (c 6)] = some false := any_no fun u hu => by
  simp only [List.mem_cons, List.not_mem_nil, or_false] at hu
  rcases hu with rfl | rfl | rfl | rfl
  · rw [kd.ks 7 (by decide), decide_eq_false (by omega)]
  · rw [kd.ks 3 (by decide), decide_eq_false (by omega)]
  · rw [kd.ks 8 (by decide), decide_eq_false (by omega)]
  · rw [kd.ks 6 (by decide), decide_eq_false (by omega)]
def at4 (i : Nat) : Nat := match i with
  | 0 => 0
  | 1 => 1
  | 2 => 2
  | 4 => 3
  | _ => 4
section
variable {P : Program} {w : World} {K : PySem.W.Frag} {mg : Str → Option Value} {base : Heap}
theorem scWordY : FnScope ["caught", "kinds"] ["caught"] (defScope s_law_word) := ⟨rfl, rfl, rfl, by decide +kernel, rfl, by decide +kernel, by decide +kernel⟩
set_option maxHeartbeats 4000000 in
theorem ok_wordY {f : Addr} {fd : FuncData} {k : Nat} {c : Nat → Addr} (T : Df K mg "_law_word" s_law_word ["caught"] f fd) (g_NoOrder : mg "NoOrder" = some (.ref (c 0))) (g_NoWay : mg "NoWay" = some (.ref (c 1))) (g_NoFit : mg "NoFit" = some (.ref (c 2))) (g_NoPlace : mg "NoPlace" = some (.ref (c 3))) (g_NoNumber : mg "NoNumber" = some (.ref (c 4))) (g_TooMany : mg "TooMany" = some (.ref (c 5))) (g_NoText : mg "NoText" = some (.ref (c 6))) (g_NoName : mg "NoName" = some (.ref (c 7))) (g_NoRow : mg "NoRow" = some (.ref (c 8))) (B : Bi mg) : FnOk P w K mg base CX0 (k + 1) f fd ["caught"] (spWordY K c) := by
  refine T.F.ok scWordY (fun vs H Q E h => ?_) (fun cdv A outer s H vs Q E hr h => ?_)
  · obtain ⟨a, C, i, rfl, _⟩ := h
    rfl
  · obtain ⟨a, C, i, rfl, ha, kd, hi, q⟩ := h
    refine ⟨_, 
      (pss_cons (ps_set (i := 1) scWordY.nd rfl (.inl rfl) (pe_lst (pa_cons (pe_callB call_isZ (by rfl) B.isinstance (by decide +kernel) (pa_cons (pv 0) (pa_cons (pe_glob (v := .ref (c 0)) (by rfl) g_NoOrder rfl) pa_nil))) (pa_cons (pe_callB call_isZ (by rfl) B.isinstance (by decide +kernel) (pa_cons (pv 0) (pa_cons (pe_glob (v := .ref (c 1)) (by rfl) g_NoWay rfl) pa_nil))) (pa_cons (pe_callB call_isZ (by rfl) B.isinstance (by decide +kernel) (pa_cons (pv 0) (pa_cons (pe_glob (v := .ref (c 2)) (by rfl) g_NoFit rfl) pa_nil))) pa_nil)))))
      (pss_cons (ps_set (i := 1) scWordY.nd rfl (.inl rfl) (pe_op op_cat (pv 1) (pe_lst (pa_cons (pe_callB call_isZ (by rfl) B.isinstance (by decide +kernel) (pa_cons (pv 0) (pa_cons (pe_glob (v := .ref (c 4)) (by rfl) g_NoNumber rfl) pa_nil))) (pa_cons (pe_callB call_isZ (by rfl) B.isinstance (by decide +kernel) (pa_cons (pv 0) (pa_cons (pe_glob (v := .ref (c 5)) (by rfl) g_TooMany rfl) pa_nil))) pa_nil)))))
      (pss_cons (ps_if (PW.pt (pw_or (pt_val (pe_callB call_isZT (by rfl) B.isinstance (by decide +kernel) (pa_cons (pv 0) (pa_cons (pe_tup (pa_cons (pe_glob (v := .ref (c 7)) (by rfl) g_NoName rfl) (pa_cons (pe_glob (v := .ref (c 3)) (by rfl) g_NoPlace rfl) (pa_cons (pe_glob (v := .ref (c 8)) (by rfl) g_NoRow rfl) (pa_cons (pe_glob (v := .ref (c 6)) (by rfl) g_NoText rfl) pa_nil))))) pa_nil)))) (pw_or1 (pt_cmpR op_ne (pe_bm PySem.F.plainAttrs_list PySem.F.slot_list_count PySem.F.type_list_count mt_cntF (pv 1) (pa_cons pe_bl pa_nil)) pe_int (nomark _)))))
        (pss_one (ps_ret pe_str))
        pss_nil)
      (pss_cons (ps_if (pt_not (pt_val (pe_callB call_isZ (by rfl) B.isinstance (by decide +kernel) (pa_cons (pv 0) (pa_cons (pe_bltn (v := .ty "ValueError") (by rfl) B.ValueError (by decide +kernel) rfl) pa_nil)))))
        (pss_one (ps_ret pe_str))
        pss_nil)
      (pss_one (ps_ret (pe_ix ix_list (pe_lst (pa_cons pe_str (pa_cons pe_str (pa_cons pe_str (pa_cons pe_str (pa_cons pe_str pa_nil)))))) (pe_bm PySem.F.plainAttrs_list PySem.F.slot_list_index PySem.F.type_list_index mt_index (pv 1) (pa_cons pe_bl pa_nil)) (fun _ _ => rfl)))))))), ?_⟩
    refine ⟨_, rfl, _, _, _, _, _, rfl, .own _, .exc ha kd.ec, kd.ks 0 (by decide), ?_⟩
    refine ⟨_, rfl, _, _, _, _, _, rfl, .own _, .exc ha kd.ec, kd.ks 1 (by decide), ?_⟩
    refine ⟨_, rfl, _, _, _, _, _, rfl, .own _, .exc ha kd.ec, kd.ks 2 (by decide), ?_⟩
    refine ⟨line_small (by show 3 ≤ 16777216; decide), fun p1 np1 => ?_⟩
    obtain ⟨s1, h1⟩ := nb [decide (0 = i), decide (1 = i), decide (2 = i)] np1
    have ha1 := s1 _ _ ha
    refine ⟨_, rfl, _, rfl, _, _, _, _, _, rfl, .own _, .exc ha1 kd.ec, kd.ks 4 (by decide), ?_⟩
    refine ⟨_, rfl, _, _, _, _, _, rfl, .own _, .exc ha1 kd.ec, kd.ks 5 (by decide), ?_⟩
    refine ⟨line_small (by show 2 ≤ 16777216; decide), fun p2 np2 => ?_⟩
    obtain ⟨s2, h2⟩ := nb [decide (4 = i), decide (5 = i)] np2
    refine ⟨_, _, _, _, rfl, rfl, s2 _ _ h1, h2, line_small (by show 3 + 2 ≤ 16777216; decide), fun p3 np3 => ?_⟩
    obtain ⟨s3, h3⟩ := nb ([decide (0 = i), decide (1 = i), decide (2 = i)] ++ [decide (4 = i), decide (5 = i)]) np3
    have s13 := (s1.trans s2).trans s3
    have ha3 := s13 _ _ ha
    refine ⟨_, rfl, line_small (by show 4 ≤ 16777216; decide), fun tp ntp => ?_⟩
    have s4 := same_new (o := .tup [.ref (c 7), .ref (c 3), .ref (c 8), .ref (c 6)]) ntp
    refine ⟨_, tp, _, _, _, false, rfl, upd_same, .cons (.own _) (.cons (.own _) (.cons (.own _) (.cons (.own _) .nil))), .exc (s4 _ _ ha3) kd.ec, no_four kd hi, _, rfl, iteF ?_⟩
    have h34 := s4 _ _ h3
    have s14 := s13.trans s4
    have hb : ([decide (0 = i), decide (1 = i), decide (2 = i)] ++ [decide (4 = i), decide (5 = i)]).map V.bl = ([decide (0 = i), decide (1 = i), decide (2 = i), decide (4 = i), decide (5 = i)]).map V.bl := rfl
    rw [hb] at h34
    have c1 : ((([decide (0 = i), decide (1 = i), decide (2 = i), decide (4 = i), decide (5 = i)]).map V.bl).countP fun z => eqV z (.bl true)) = 1 := by
      rcases hi with rfl | rfl | rfl | rfl | rfl <;> decide
    have c2 : ∀ m, m < at4 i → ([decide (0 = i), decide (1 = i), decide (2 = i), decide (4 = i), decide (5 = i)])[m]? = some false := by
      rcases hi with rfl | rfl | rfl | rfl | rfl <;> decide
    have c3 : (([decide (0 = i), decide (1 = i), decide (2 = i), decide (4 = i), decide (5 = i)]).map V.bl)[at4 i]? = some (.bl true) := by
      rcases hi with rfl | rfl | rfl | rfl | rfl <;> rfl
    have c4 : atI ([V.str "NoOrder", V.str "NoWay", V.str "NoFit", V.str "NoNumber", V.str "TooMany"]) ((at4 i : Nat) : Int) = some (.str (wordY i)) := by
      rcases hi with rfl | rfl | rfl | rfl | rfl <;> rfl
    refine ⟨_, rfl, .inl ⟨rfl, _, SqL.of h34⟩, p3, _, .bl true, rfl, rfl, SqL.of h34, rfl, rfl, rfl, _, rfl, ?_⟩
    rw [c1]
    refine iteF ?_
    refine ⟨_, rfl, _, _, _, _, _, rfl, .ty _, .exc (s14 _ _ ha) kd.ec, kd.ve, _, rfl, iteF ?_⟩
    refine ⟨line_small (by show 5 ≤ 16777216; decide), fun l nl => ?_⟩
    have s5 := same_new (o := .lst [V.str "NoOrder", V.str "NoWay", V.str "NoFit", V.str "NoNumber", V.str "TooMany"]) nl
    refine ⟨_, rfl, .inl ⟨rfl, _, SqL.of (s5 _ _ h34)⟩, p3, _, .bl true, at4 i, .bl true, rfl, rfl, SqL.of (s5 _ _ h34), rfl, rfl, c3, rfl, first_true c2, ?_⟩
    refine ⟨l, _, _, _, rfl, rfl, SqL.of upd_same, c4, ?_⟩
    exact q _ (s14.trans s5)
end
end Fo
namespace Fo
open PySem PySem.Spec PyProof.Rows L2
/-! C(..) within a try: what __init__ raises is let out -/
section
variable {X : Cx} {CX : CXT} {k : Nat} {f C : Addr} {fd : FuncData} {ps : List Str} {sp : Sp} {E : L2.St → XK} {x : Str} {p pos : Pos} {e : Expr} {es : List Expr} {t : TA}
theorem run_makeS {pins : List (Addr × Obj)} {σ : L2.St} {H : Hp} {s : Shared} {Q : VK} {us : List Value} {vs : List V} (M : Mk X.K C f) (F : FnOk X.prog X.w X.K X.mg X.base CX k f fd ps sp) (hr : Room (k + 1) X.A) (hb : Binds X.K fd ps [])
    (hx : PassesAt CX X σ (E σ)) (I : Inv X pins σ H s) (r : Vals vs us)
    (h : ∀ x dx, H x = none → H dx = none → dx ≠ x → sp (.ref x :: vs) (upd (upd H dx (.own x)) x (.ins C dx [])) (fun v H2 => v = .non ∧ Q (.ref x) H2) (E σ)) :
    wpAny (model X.prog X.w) X.A (call (.ref C) us) (EP X pins σ Q) X.xe s := by
  have hq := h (s.heap.objs.size + 1) s.heap.objs.size (I.hok.fresh (Nat.le_succ _)) (I.hok.fresh (Nat.le_refl _)) (Nat.ne_of_lt (Nat.lt_succ_self _))
  have I2 := Inv.made (C := C) I
  have r2 : Vals (V.ref (s.heap.objs.size + 1) :: vs) (Value.ref (s.heap.objs.size + 1) :: us) := .cons rfl r
  have hl : (Value.ref (s.heap.objs.size + 1) :: us ++ []).length = ps.length := by
    have e := r2.length
    rw [F.len _ _ _ _ hq] at e
    rw [List.append_nil]
    exact e.symm
  have b := hb _ (Value.ref (s.heap.objs.size + 1) :: us) I2.kIn hl
  rw [List.append_nil] at b
  refine wpAny_call (make_map (f := f) I.kIn M.makes M.init (beq_iff_eq.mp M.fn) (codeAny_mono (F.run _ X.stack _ _ ⟨Value.ref (s.heap.objs.size + 1) :: us, []⟩ (Value.ref (s.heap.objs.size + 1) :: us) _ _ (E σ) (hr.make C us [])
    (I2.env0.make C us []) b r2 hq) fun r s' hq' => ?_))
  cases r with
  | error e => exact hx pins _ _ e s' I2 hq'
  | ok fl =>
    cases fl with
    | ret u =>
      obtain ⟨v, H', I3, rv, ev, q3⟩ := I2.after hq'
      subst ev
      exact ⟨rv, ⟨V.ref (s.heap.objs.size + 1), H', I3, rfl, q3⟩⟩
    | next => exact False.elim hq'
    | brk => exact False.elim hq'
    | cont => exact False.elim hq'
def tMakeS (C : Addr) (sp : Sp) (E : L2.St → XK) (t : TA) : TE := fun σ H Q => t σ H fun vs H1 => ∀ x dx, H1 x = none → H1 dx = none → dx ≠ x →
  sp (.ref x :: vs) (upd (upd H1 dx (.own x)) x (.ins C dx [])) (fun v H2 => v = .non ∧ Q (.ref x) H2) (E σ)
theorem pe_makeS (M : Mk X.K C f) (F : FnOk X.prog X.w X.K X.mg X.base CX k f fd ps sp) (hr : Room (k + 1) X.A) (hg : Gl X x) (hm : X.mg x = some (.ref C)) (hb : Binds X.K fd ps []) (hx : ∀ σ, PassesAt CX X σ (E σ))
    (ha : PA X (e :: es) t) (hdb : (x == ("__debug__" : Str)) = false := by decide) (he : starEach (e :: es) X.env = (false, eval e X.env) :: starEach es X.env := by rfl) (hpl : (backTo pos (starEach es X.env)).any (·.1) = false := by rfl) :
    PE X (.Call (.Name x p) (e :: es) [] pos) (tMakeS C sp E t) := by
  refine ⟨fun pins s σ H Q I h => ?_⟩
  refine wpAny_Call_Name_kw (ld_glob I hg hm ?_ hdb)
  refine PySem.W.callWith_K (h₀ := X.base) I.ok.mod.kin M.kp (thn (ha.run pos pins s σ H _ I h) fun us s1 ⟨vs, H1, I1, r, q⟩ => ⟨I1.kIn, ?_⟩) he hpl
  exact run_makeS M F hr hb (hx σ) I1 r q
end
end Fo
namespace Fo
open PySem PySem.Spec PyProof.Rows L2
/-! own defs called within an except suite: what they promise of the error that stands pinned -/
abbrev SpP := Addr → Value → Option Addr → Sp
structure FnP (P : Program) (w : World) (K : PySem.W.Frag) (mg : Str → Option Value) (base : Heap) (k : Nat) (f : Addr) (fd : FuncData) (ps : List Str) (sp : SpP) : Prop where
  len : ∀ a cls d vs H Q E, sp a cls d vs H Q E → vs.length = ps.length
  run : ∀ (A : Around) (outer : List Env) (s : Shared) (H : Hp) (args : Args) (us : List Value) (vs : List V) (Q : VK) (E : XK) (p : Addr × Obj) (cls : Value) (d : Option Addr), L2H.RoomH k A → L2H.PinOk outer H s p → Zc cls d p.2 → (∃ vs, p.2.data = .fields vs) → Env0 P w K mg base A outer s H → BindsTo s fd args (ps.zip us) → Vals vs us → sp p.1 cls d vs H Q E →
    codeAny (model P w) A (.call (.ref f) args) (CR CX0 outer P w H s Q E) s
section
variable {P : Program} {w : World} {K : PySem.W.Frag} {mg : Str → Option Value} {base : Heap}
theorem okP {y qual : Str} {st : Stmt} {f : Addr} {fd : FuncData} {N ps : List Str} {k : Nat} {sp : SpP} (F : Fun K y qual st f fd) (S : FnScope N ps (defScope st)) (len : ∀ a cls d vs H Q E, sp a cls d vs H Q E → vs.length = ps.length)
    (body : ∀ (cdv : Value) (A : Around) (outer : List Env) (s : Shared) (H : Hp) (vs : List V) (Q : VK) (E : XK) (a : Addr) (oe : Obj) (cls : Value) (d : Option Addr), L2H.RoomH k (A.deeper (envOfC qual (defScope st) s.heap.objs.size f cdv)) → Zc cls d oe → (∃ vs, oe.data = .fields vs) → sp a cls d vs H Q E →
      ∃ t, PSs (L2H.cxH CX0 P w K mg base N qual (defScope st) f cdv A outer s H E (a, oe)) (defBody st) t ∧ t { nx := fun _ H' => Q .non H', rt := Q } (L2.start N vs) H) : FnP P w K mg base (k + 1) f fd ps sp := by
  obtain ⟨oc, od, kV, dc, pm, an, cdv, ct, osl, rfl, lk, hcd⟩ := F.ex
  refine ⟨len, fun A outer s H args us vs Q E p cls d hr hpin hz hf e0 hb r hsp => ?_⟩
  have hl := len _ _ _ _ _ _ _ hsp
  have KX : K.In s.heap := e0.mod.kin.keeps fun b o e => (e0.bs b o e).1
  have lim : s.heap.NoLimit := e0.mod.nolimit.keeps fun b o e => (e0.bs b o e).1
  refine codeAny_call_function hr.depth (KX _ _ lk) rfl S.co S.gen rfl (PySem.W.codeRec_of KX hcd) (hb _ _ _ _ ?_)
  refine wpAny_newFunctionEnv_cells S.kind (fun yv hy => ?_) fun env he s1 x => ?_
  · rcases S.par yv.1 (List.of_mem_zip hy).1 with z | z
    · exact .inl z
    · exact .inr ⟨z, PySem.W.cellsFrom_some _ _ _ (.inl z)⟩
  subst he
  refine ⟨lim.keeps x.toInCall.keep, codeAny_func ?_⟩
  obtain ⟨t, ht, hq⟩ := body cdv A outer s H vs Q E p.1 p.2 cls d (hr.deeper _) hz hf hsp
  have I : Inv (L2H.cxH CX0 P w K mg base N qual (defScope st) f cdv A outer s H E p) [] (L2.start N vs) H s1 := L2H.inv_startH S hpin e0 hl r x
  refine wpAny_mono (ht.run [] s1 (L2.start N vs) H _ I hq) (fun fl s' hs => ?_) fun e s' hs => hs
  cases fl with
  | ret u =>
    obtain ⟨v, σ', H', J, rv, q⟩ := hs
    exact ⟨v, H', J.os, J.bare, J.base, J.hok, rv, q⟩
  | next =>
    obtain ⟨σ', H', J, q⟩ := hs
    exact ⟨V.non, H', J.os, J.bare, J.base, J.hok, rfl, q⟩
  | brk =>
    obtain ⟨_, _, _, q⟩ := hs
    exact False.elim q
  | cont =>
    obtain ⟨_, _, _, q⟩ := hs
    exact False.elim q
end
def tCallP (sp : SpP) (a : Addr) (cls : Value) (d : Option Addr) (t : TA) : TE := fun σ H Q => t σ H fun vs H1 => sp a cls d vs H1 Q E0
section
variable {X : Cx} {k : Nat} {f : Addr} {fd : FuncData} {ps : List Str} {sp : SpP} {x : Str} {q pos : Pos} {e : Expr} {es : List Expr} {t : TA} {a : Addr} {oe : Obj} {cls : Value} {d : Option Addr}
theorem pe_callP (hp : (a, oe) ∈ X.pn) (hz : Zc cls d oe) (hf : ∃ vs, oe.data = .fields vs) (F : FnP X.prog X.w X.K X.mg X.base k f fd ps sp) (hr : L2H.RoomH k X.A) (hg : Gl X x) (hm : X.mg x = some (.ref f)) (hk : PySem.W.keepIn X.K (.ref f) = true) (hb : Binds X.K fd ps [])
    (ha : PA X (e :: es) t) (hdb : (x == ("__debug__" : Str)) = false := by decide) (he : starEach (e :: es) X.env = (false, eval e X.env) :: starEach es X.env := by rfl) (hpl : (backTo pos (starEach es X.env)).any (·.1) = false := by rfl) :
    PE X (.Call (.Name x q) (e :: es) [] pos) (tCallP sp a cls d t) := by
  refine ⟨fun pins s σ H Q I h => ?_⟩
  refine wpAny_Call_Name_kw (ld_glob I hg hm ?_ hdb)
  refine PySem.W.callWith_K (h₀ := X.base) I.ok.mod.kin hk (thn (ha.run pos pins s σ H _ I h) fun us s1 ⟨vs, H1, I1, r, q⟩ => ⟨I1.kIn, ?_⟩) he hpl
  have hl : us.length = ps.length := by rw [← r.length]; exact F.len _ _ _ _ _ _ _ q
  have b := hb s1 us I1.kIn (by rw [List.append_nil]; exact hl)
  rw [List.append_nil] at b
  have P1 := I1.pin (a, oe) (List.mem_append_left _ hp)
  have hpin : L2H.PinOk X.stack H1 s1 (a, oe) := ⟨P1.1, P1.2.1, fun hm => (List.mem_cons.mp (I1.stkSub a hm)).elim P1.2.2.1 P1.2.2.2.1, P1.2.2.2.2⟩
  refine wpAny_call (codeAny_mono (F.run X.A X.stack s1 H1 ⟨us, []⟩ us vs Q E0 (a, oe) cls d hr hpin hz hf I1.env0 b r q) fun rs s' hq => ?_)
  match rs, hq with
  | .error _, hq => exact hq.elim
  | .ok (.ret u), hq => exact I1.after hq
  | .ok .next, hq => exact False.elim hq
  | .ok .brk, hq => exact False.elim hq
  | .ok .cont, hq => exact False.elim hq
theorem inst_pinQ {pins : List (Addr × Obj)} {σ : L2.St} {H : Hp} {s : Shared} {C : Addr} (hp : (a, oe) ∈ X.pn) (I : Inv X pins σ H s) (hz : Zc (.ref C) none oe) (hf : ∃ vs, oe.data = .fields vs) : PySem.W.InstAt s.heap a oe C none := by
  obtain ⟨hget, _⟩ := I.pin (a, oe) (List.mem_append.mpr (.inl hp))
  obtain ⟨vs, hv⟩ := hf
  obtain ⟨oc, od, oda, osl⟩ := oe
  obtain ⟨h1, h2⟩ := hz
  dsimp only at h1 h2 hv
  subst h1 h2 hv
  exact ⟨hget, rfl, rfl, trivial⟩
theorem call_isQ (hp : (a, oe) ∈ X.pn) (hz : Zc cls d oe) (hf : ∃ vs, oe.data = .fields vs) : CallR X (.builtin "isinstance") (rIsP X.K a cls d) := by
  intro pins s σ H xs us Q I r h
  obtain ⟨C, c, u, b, rfl, rfl, ec, rfl, k, e, q⟩ := h
  obtain ⟨w1, w2, rfl, r1, r2⟩ := vals2 r
  obtain rfl := k.eq r2
  cases (show w1 = Value.ref a from r1)
  exact PySem.W.kia_one (PySem.W.handS_kitx_exc ec.hg ec.hk ec.hs ec.hd ec.ha ec.hn ec.ht ec.hm) I.kIn (inst_pinQ hp I hz hf) e (fun z => nomatch z) fun tk => ⟨.bl b, H, I.tok tk, rfl, q⟩
theorem call_isQT (hp : (a, oe) ∈ X.pn) (hz : Zc cls d oe) (hf : ∃ vs, oe.data = .fields vs) : CallR X (.builtin "isinstance") (rIsPT X.K a cls d) := by
  intro pins s σ H xs us Q I r h
  obtain ⟨C, tp, cs, ws, b, rfl, rfl, ec, rfl, hT, k, e, q⟩ := h
  obtain ⟨w1, w2, rfl, r1, r2⟩ := vals2 r
  cases (show w1 = Value.ref a from r1)
  cases (show w2 = Value.ref tp from r2)
  obtain ⟨_, its, rv, ob, h1, h2, n, h3⟩ := (show ObjOk _ _ H s.heap tp (.tup cs) from I.hok tp _ hT)
  obtain rfl := ClsV.all k rv
  obtain ⟨oc, od, dt, sl⟩ := ob
  simp only at h2 h3
  subst h2 h3
  exact PySem.W.kia_tup (PySem.W.handS_kitx_exc ec.hg ec.hk ec.hs ec.hd ec.ha ec.hn ec.ht ec.hm) I.kIn (inst_pinQ hp I hz hf) h1 e (fun z => nomatch z) fun tk => ⟨.bl b, H, I.tok tk, rfl, q⟩
end
end Fo
namespace Fo
open PySem PySem.Spec PyProof.Rows L2
def spWordP (K : PySem.W.Frag) (c : Nat → Addr) : SpP := fun a cls d vs H Q _ => ∃ (C : Addr) (i : Nat), cls = .ref C ∧ d = none ∧ KdY K c C i ∧ (i = 0 ∨ i = 1 ∨ i = 2 ∨ i = 4 ∨ i = 5) ∧ vs = [.ref a] ∧ ∀ H', Same H H' → Q (.str (wordY i)) H'
section
variable {P : Program} {w : World} {K : PySem.W.Frag} {mg : Str → Option Value} {base : Heap}
theorem scWordP : FnScope ["caught", "kinds"] ["caught"] (defScope s_law_word) := ⟨rfl, rfl, rfl, by decide +kernel, rfl, by decide +kernel, by decide +kernel⟩
set_option maxHeartbeats 4000000 in
theorem ok_wordP {f : Addr} {fd : FuncData} {k : Nat} {c : Nat → Addr} (T : Df K mg "_law_word" s_law_word ["caught"] f fd) (g_NoOrder : mg "NoOrder" = some (.ref (c 0))) (g_NoWay : mg "NoWay" = some (.ref (c 1))) (g_NoFit : mg "NoFit" = some (.ref (c 2))) (g_NoPlace : mg "NoPlace" = some (.ref (c 3))) (g_NoNumber : mg "NoNumber" = some (.ref (c 4))) (g_TooMany : mg "TooMany" = some (.ref (c 5))) (g_NoText : mg "NoText" = some (.ref (c 6))) (g_NoName : mg "NoName" = some (.ref (c 7))) (g_NoRow : mg "NoRow" = some (.ref (c 8))) (B : Bi mg) : FnP P w K mg base (k + 1) f fd ["caught"] (spWordP K c) := by
  refine okP T.F scWordP (fun a cls d vs H Q E h => ?_) (fun cdv A outer s H vs Q E a oe cls d hr hz hf h => ?_)
  · obtain ⟨C, i, _, _, _, _, rfl, _⟩ := h
    rfl
  · obtain ⟨C, i, rfl, rfl, kd, hi, rfl, q⟩ := h
    refine ⟨_, 
      (pss_cons (ps_set (i := 1) scWordP.nd rfl (.inl rfl) (pe_lst (pa_cons (pe_callB (call_isQ List.mem_cons_self hz hf) (by rfl) B.isinstance (by decide +kernel) (pa_cons (pv 0) (pa_cons (pe_glob (v := .ref (c 0)) (by rfl) g_NoOrder rfl) pa_nil))) (pa_cons (pe_callB (call_isQ List.mem_cons_self hz hf) (by rfl) B.isinstance (by decide +kernel) (pa_cons (pv 0) (pa_cons (pe_glob (v := .ref (c 1)) (by rfl) g_NoWay rfl) pa_nil))) (pa_cons (pe_callB (call_isQ List.mem_cons_self hz hf) (by rfl) B.isinstance (by decide +kernel) (pa_cons (pv 0) (pa_cons (pe_glob (v := .ref (c 2)) (by rfl) g_NoFit rfl) pa_nil))) pa_nil)))))
      (pss_cons (ps_set (i := 1) scWordP.nd rfl (.inl rfl) (pe_op op_cat (pv 1) (pe_lst (pa_cons (pe_callB (call_isQ List.mem_cons_self hz hf) (by rfl) B.isinstance (by decide +kernel) (pa_cons (pv 0) (pa_cons (pe_glob (v := .ref (c 4)) (by rfl) g_NoNumber rfl) pa_nil))) (pa_cons (pe_callB (call_isQ List.mem_cons_self hz hf) (by rfl) B.isinstance (by decide +kernel) (pa_cons (pv 0) (pa_cons (pe_glob (v := .ref (c 5)) (by rfl) g_TooMany rfl) pa_nil))) pa_nil)))))
      (pss_cons (ps_if (PW.pt (pw_or (pt_val (pe_callB (call_isQT List.mem_cons_self hz hf) (by rfl) B.isinstance (by decide +kernel) (pa_cons (pv 0) (pa_cons (pe_tup (pa_cons (pe_glob (v := .ref (c 7)) (by rfl) g_NoName rfl) (pa_cons (pe_glob (v := .ref (c 3)) (by rfl) g_NoPlace rfl) (pa_cons (pe_glob (v := .ref (c 8)) (by rfl) g_NoRow rfl) (pa_cons (pe_glob (v := .ref (c 6)) (by rfl) g_NoText rfl) pa_nil))))) pa_nil)))) (pw_or1 (pt_cmpR op_ne (pe_bm PySem.F.plainAttrs_list PySem.F.slot_list_count PySem.F.type_list_count mt_cntF (pv 1) (pa_cons pe_bl pa_nil)) pe_int (nomark _)))))
        (pss_one (ps_ret pe_str))
        pss_nil)
      (pss_cons (ps_if (pt_not (pt_val (pe_callB (call_isQ List.mem_cons_self hz hf) (by rfl) B.isinstance (by decide +kernel) (pa_cons (pv 0) (pa_cons (pe_bltn (v := .ty "ValueError") (by rfl) B.ValueError (by decide +kernel) rfl) pa_nil)))))
        (pss_one (ps_ret pe_str))
        pss_nil)
      (pss_one (ps_ret (pe_ix ix_list (pe_lst (pa_cons pe_str (pa_cons pe_str (pa_cons pe_str (pa_cons pe_str (pa_cons pe_str pa_nil)))))) (pe_bm PySem.F.plainAttrs_list PySem.F.slot_list_index PySem.F.type_list_index mt_index (pv 1) (pa_cons pe_bl pa_nil)) (fun _ _ => rfl)))))))), ?_⟩
    refine ⟨_, rfl, C, _, _, _, rfl, rfl, kd.ec, rfl, .own _, kd.ks 0 (by decide), ?_⟩
    refine ⟨_, rfl, C, _, _, _, rfl, rfl, kd.ec, rfl, .own _, kd.ks 1 (by decide), ?_⟩
    refine ⟨_, rfl, C, _, _, _, rfl, rfl, kd.ec, rfl, .own _, kd.ks 2 (by decide), ?_⟩
    refine ⟨line_small (by show 3 ≤ 16777216; decide), fun p1 np1 => ?_⟩
    obtain ⟨s1, h1⟩ := nb [decide (0 = i), decide (1 = i), decide (2 = i)] np1
    refine ⟨_, rfl, _, rfl, C, _, _, _, rfl, rfl, kd.ec, rfl, .own _, kd.ks 4 (by decide), ?_⟩
    refine ⟨_, rfl, C, _, _, _, rfl, rfl, kd.ec, rfl, .own _, kd.ks 5 (by decide), ?_⟩
    refine ⟨line_small (by show 2 ≤ 16777216; decide), fun p2 np2 => ?_⟩
    obtain ⟨s2, h2⟩ := nb [decide (4 = i), decide (5 = i)] np2
    refine ⟨_, _, _, _, rfl, rfl, s2 _ _ h1, h2, line_small (by show 3 + 2 ≤ 16777216; decide), fun p3 np3 => ?_⟩
    obtain ⟨s3, h3⟩ := nb ([decide (0 = i), decide (1 = i), decide (2 = i)] ++ [decide (4 = i), decide (5 = i)]) np3
    have s13 := (s1.trans s2).trans s3
    refine ⟨_, rfl, line_small (by show 4 ≤ 16777216; decide), fun tp ntp => ?_⟩
    have s4 := same_new (o := .tup [.ref (c 7), .ref (c 3), .ref (c 8), .ref (c 6)]) ntp
    refine ⟨C, tp, _, _, false, rfl, rfl, kd.ec, rfl, upd_same, .cons (.own _) (.cons (.own _) (.cons (.own _) (.cons (.own _) .nil))), no_four kd hi, _, rfl, iteF ?_⟩
    have h34 := s4 _ _ h3
    have s14 := s13.trans s4
    have hb : ([decide (0 = i), decide (1 = i), decide (2 = i)] ++ [decide (4 = i), decide (5 = i)]).map V.bl = ([decide (0 = i), decide (1 = i), decide (2 = i), decide (4 = i), decide (5 = i)]).map V.bl := rfl
    rw [hb] at h34
    have c1 : ((([decide (0 = i), decide (1 = i), decide (2 = i), decide (4 = i), decide (5 = i)]).map V.bl).countP fun z => eqV z (.bl true)) = 1 := by
      rcases hi with rfl | rfl | rfl | rfl | rfl <;> decide
    have c2 : ∀ m, m < at4 i → ([decide (0 = i), decide (1 = i), decide (2 = i), decide (4 = i), decide (5 = i)])[m]? = some false := by
      rcases hi with rfl | rfl | rfl | rfl | rfl <;> decide
    have c3 : (([decide (0 = i), decide (1 = i), decide (2 = i), decide (4 = i), decide (5 = i)]).map V.bl)[at4 i]? = some (.bl true) := by
      rcases hi with rfl | rfl | rfl | rfl | rfl <;> rfl
    have c4 : atI ([V.str "NoOrder", V.str "NoWay", V.str "NoFit", V.str "NoNumber", V.str "TooMany"]) ((at4 i : Nat) : Int) = some (.str (wordY i)) := by
      rcases hi with rfl | rfl | rfl | rfl | rfl <;> rfl
    refine ⟨_, rfl, .inl ⟨rfl, _, SqL.of h34⟩, p3, _, .bl true, rfl, rfl, SqL.of h34, rfl, rfl, rfl, _, rfl, ?_⟩
    rw [c1]
    refine iteF ?_
    refine ⟨_, rfl, C, _, _, _, rfl, rfl, kd.ec, rfl, .ty _, kd.ve, _, rfl, iteF ?_⟩
    refine ⟨line_small (by show 5 ≤ 16777216; decide), fun l nl => ?_⟩
    have s5 := same_new (o := .lst [V.str "NoOrder", V.str "NoWay", V.str "NoFit", V.str "NoNumber", V.str "TooMany"]) nl
    refine ⟨_, rfl, .inl ⟨rfl, _, SqL.of (s5 _ _ h34)⟩, p3, _, .bl true, at4 i, .bl true, rfl, rfl, SqL.of (s5 _ _ h34), rfl, rfl, c3, rfl, first_true c2, ?_⟩
    refine ⟨l, _, _, _, rfl, rfl, SqL.of upd_same, c4, ?_⟩
    exact q _ (s14.trans s5)
end
end Fo
namespace Fo
open PySem PySem.Spec PyProof.Rows L2 SeqAt
theorem dict_eq_declines_int (l : Addr) (items : Array DictEntry) (n : Nat) (dd : Option Addr) (sl : Array (Option Value)) (b : Int) (u : Tok) :
    Meets (Builtin.«dict.__eq__» ⟨[.ref l, .int b u], []⟩) (fun _ R s => s.heap.get? l = some { cls := .type "dict", dict := dd, data := .dict items n, slots := sl } ∧ R (.ok (.ret .notImplemented)) s) :=
  .of_wp fun prog w A R s h => by obtain ⟨hp, g, d, tk, os⟩ := s; obtain ⟨hl, h⟩ := h; have f1 := F.sub_int_dict; wp_walk using wpAny_loadPart' hl; exact ⟨_, rfl, h⟩
theorem int_eq_declines_dict (b : Int) (u : Tok) (l : Addr) (c : Value) (items : Array DictEntry) (n : Nat) (dd : Option Addr) (sl : Array (Option Value)) :
    Meets (Builtin.«int.__eq__» ⟨[.int b u, .ref l], []⟩) (fun _ R s => s.heap.get? l = some { cls := c, dict := dd, data := .dict items n, slots := sl } ∧ R (.ok (.ret .notImplemented)) s) :=
  .of_wp fun prog w A R s h => by obtain ⟨hp, g, d, tk, os⟩ := s; obtain ⟨hl, h⟩ := h; wp_walk using wpAny_loadPart' hl, wpAny_load hl; exact ⟨_, rfl, h⟩
theorem RcAt.dict_int5 {A : Around} {s : Shared} {l : Addr} {oc : Obj} {items : Array DictEntry} {n : Nat} (b : Int) (u : Tok) (ho : s.heap.get? l = some oc) (hc : oc.cls = .type "dict") (hd : oc.data = .dict items n) (hu : A.units < cLine) : RcAt A s (.ref l) (.int b u) false := fun prog w E Q h => by
  obtain ⟨cls, dd, data, sl⟩ := oc
  simp only at hc hd
  subst hc hd
  exact rc_eq_decline_or (k := false) ⟨_, ho, rfl⟩ (typeIs_int s b u) (by decide) F.sub_int_dict F.slot_dict_eq F.slot_int_eq_refl
    (fun _ hq => call_meets F.slot_dict_eq ⟨_, ho, rfl⟩ F.entry_dict_eq (F.args_dict_eq_2 _ _) (dict_eq_declines_int l items n dd sl b u) ⟨ho, hq⟩)
    (fun _ hq => call_meets F.slot_int_eq_refl (typeIs_int s b u) F.entry_int_eq (F.args_int_eq_2 _ _) (int_eq_declines_dict b u l (.type "dict") items n dd sl) ⟨ho, hq⟩)
    (fun _ hq => wpAny_of_eq (rfl : isSame (.ref l) (.int b u) = pure false) hq) (.inr hu) h
/-- anything against an int: data without dicts, or a dict -/
abbrev rEqZ (K : PySem.W.Frag) : R2 := fun x y H Q => rEqD K x y H Q ∨ ∃ a kvs i, x = .ref a ∧ H a = some (.dK kvs) ∧ y = .int i ∧ Q (.bl false) H
theorem op_eqZ {X : Cx} (hu : X.A.units + 64 < cLine) : OpR X (compareOp .Eq) (rEqZ X.K) := by
  intro pins s σ H x y v u Q I rx ry h
  rcases h with h | ⟨a, kvs, i, rfl, e, rfl, q⟩
  · exact op_eqD hu pins s σ H x y v u Q I rx ry h
  · cases (show v = Value.ref a from rx)
    obtain ⟨t, rfl⟩ := ry
    obtain ⟨_, _, vs, _, hD⟩ := dk_of I.hok e
    obtain ⟨o, es, ep, h1, h2, h3, _⟩ := hD
    exact RcAt.dict_int5 i t h1 h2.1 h3 (by omega) X.prog X.w _ _ ⟨.bl false, H, I, rfl, q⟩
/-- is True, is False, of a thing of any kind -/
def FlB : V → Prop
  | .non => True
  | .bl _ => True
  | .int _ => True
  | .str _ => True
  | .ref _ => True
  | _ => False
abbrev rIsT : R2 := fun x y H Q => ∃ b : Bool, y = .bl b ∧ FlB x ∧ Q (.bl (decide (x = .bl b))) H
theorem op_isT {X : Cx} : OpR X (compareOp .Is) rIsT := by
  intro pins s σ H x y v u Q I rx ry h
  obtain ⟨b, rfl, fx, q⟩ := h
  cases (show u = Value.bool b from ry)
  cases x with
  | non =>
    cases (show v = Value.none from rx)
    exact wpAny_is_other rfl nofun ⟨.bl false, H, I, rfl, by simpa using q⟩
  | bl a =>
    cases (show v = Value.bool a from rx)
    by_cases e : a = b
    · subst e
      exact wpAny_is_self rfl ⟨.bl true, H, I, rfl, by simpa using q⟩
    · exact wpAny_is_other rfl (fun z => e (Value.bool.inj z)) ⟨.bl false, H, I, rfl, by simpa [e] using q⟩
  | int i =>
    obtain ⟨t, rfl⟩ := (show ∃ t, v = Value.int i t from rx)
    exact wpAny_is_other rfl nofun ⟨.bl false, H, I, rfl, by simpa using q⟩
  | str i =>
    obtain ⟨t, rfl⟩ := (show ∃ t, v = Value.str i t from rx)
    exact wpAny_is_other rfl nofun ⟨.bl false, H, I, rfl, by simpa using q⟩
  | ref a =>
    cases (show v = Value.ref a from rx)
    exact wpAny_is_other rfl nofun ⟨.bl false, H, I, rfl, by simpa using q⟩
  | _ => exact fx.elim
end Fo
namespace Fo
open PySem PySem.Spec PyProof.Rows L2
/-! ### walks from a thing over greater ones, and rings -/
inductive Wk (fl : Int → List Int) (z : Int) : Nat → List Int → Int → Prop where
  | nil : Wk fl z 0 [z] z
  | snoc {k : Nat} {p : List Int} {v u : Int} : Wk fl z k p v → u ∈ fl v → z < u → Wk fl z (k + 1) (p ++ [u]) u
section
variable {fl : Int → List Int} {z : Int}
theorem Wk.len {k : Nat} {p : List Int} {v : Int} (h : Wk fl z k p v) : p.length = k + 1 := by
  induction h with
  | nil => rfl
  | snoc _ _ _ ih => rw [List.length_append, ih]; rfl
theorem Wk.last {k : Nat} {p : List Int} {v : Int} (h : Wk fl z k p v) : p.getLastD 0 = v := by
  cases h with
  | nil => rfl
  | snoc h _ _ => simp
theorem Wk.at_last {k : Nat} {p : List Int} {v : Int} (h : Wk fl z k p v) : p[k]? = some v := by
  cases h with
  | nil => rfl
  | @snoc k p v u h _ _ => rw [List.getElem?_append_right (by rw [h.len]; omega), h.len]; simp
theorem Wk.ge {k : Nat} {p : List Int} {v : Int} (h : Wk fl z k p v) : z ≤ v := by
  cases h with
  | nil => exact Int.le_refl _
  | snoc _ _ h => exact Int.le_of_lt h
theorem Wk.zero {p : List Int} {v : Int} (h : Wk fl z 0 p v) : p = [z] ∧ v = z := by
  cases h
  exact ⟨rfl, rfl⟩
theorem Wk.succ {k : Nat} {p : List Int} {v : Int} (h : Wk fl z (k + 1) p v) : ∃ (p' : List Int) (v' : Int), p = p' ++ [v] ∧ Wk fl z k p' v' ∧ v ∈ fl v' ∧ z < v := by
  cases h with
  | snoc h1 h2 h3 => exact ⟨_, _, rfl, h1, h2, h3⟩
theorem snoc_le {a b : List Int} {x y : Int} (hl : a.length = b.length) (h : a ≤ b) (hxy : x ≤ y) : a ++ [x] ≤ b ++ [y] := by
  rcases List.le_iff_lt_or_eq.mp h with h | h
  · exact List.le_of_lt (lt_snoc hl h x y)
  · subst h
    induction a with
    | nil =>
      show [x] ≤ [y]
      rw [List.cons_le_cons_iff]
      by_cases c : x < y
      · exact .inl c
      · exact .inr ⟨by omega, List.le_refl _⟩
    | cons u a ih =>
      show u :: (a ++ [x]) ≤ u :: (a ++ [y])
      rw [List.cons_le_cons_iff]
      exact .inr ⟨rfl, ih rfl (List.le_refl _)⟩
theorem snoc_lt (a : List Int) {x y : Int} (h : x < y) : a ++ [x] < a ++ [y] := by
  induction a with
  | nil => exact List.cons_lt_cons_iff.mpr (.inl h)
  | cons u a ih => exact List.cons_lt_cons_iff.mpr (.inr ⟨rfl, ih⟩)
/-- the paths of one length, the first ones to things not reached before -/
structure BInv (fl : Int → List Int) (z : Int) (k : Nat) (P : List (List Int)) (Rb R : Int → Prop) : Prop where
  a : ∀ p ∈ P, ∃ v, Wk fl z k p v ∧ ¬ Rb v
  b : P.Pairwise (· < ·)
  c : ∀ w v, Wk fl z k w v → Rb v ∨ ∃ p ∈ P, p.getLastD 0 = v ∧ p ≤ w
  d : ∀ j < k, ∀ w v, Wk fl z j w v → Rb v
  e : ∀ v, Rb v → z ≤ v → z ∉ fl v
  f : ∀ v, Rb v → z ≤ v → ∀ u ∈ fl v, z < u → R u
  r : ∀ u, R u ↔ (Rb u ∨ ∃ p ∈ P, p.getLastD 0 = u)
  h : ∀ u, u ≤ z → R u
theorem binv0 : BInv fl z 0 [[z]] (fun u => u < z) (fun u => u ≤ z) where
  a := fun p hp => by
    rw [List.mem_singleton.mp hp]
    exact ⟨z, .nil, Int.lt_irrefl z⟩
  b := List.pairwise_singleton _ _
  c := fun w v h => by
    obtain ⟨rfl, rfl⟩ := h.zero
    exact .inr ⟨[v], List.mem_singleton.mpr rfl, rfl, List.le_refl _⟩
  d := fun j h => absurd h (Nat.not_lt_zero j)
  e := fun v h1 h2 => by omega
  f := fun v h1 h2 => by omega
  r := fun u => by
    constructor
    · intro h
      by_cases c : u < z
      · exact .inl c
      · exact .inr ⟨[z], List.mem_singleton.mpr rfl, by show z = u; omega⟩
    · rintro (h | ⟨p, hp, e⟩)
      · exact Int.le_of_lt h
      · rw [List.mem_singleton.mp hp] at e
        have e2 : z = u := e
        omega
  h := fun u h => h
/-- what one turn makes of them -/
structure BStep (fl : Int → List Int) (P P' : List (List Int)) (R R' : Int → Prop) : Prop where
  a : ∀ q ∈ P', ∃ p ∈ P, ∃ u ∈ fl (p.getLastD 0), q = p ++ [u] ∧ ¬ R u
  b : P'.Pairwise (· < ·)
  r : ∀ u, R' u ↔ (R u ∨ ∃ q ∈ P', q.getLastD 0 = u)
  g : ∀ p ∈ P, ∀ u ∈ fl (p.getLastD 0), R u ∨ ∃ q ∈ P', q.getLastD 0 = u ∧ q ≤ p ++ [u]
theorem binv_step {k : Nat} {P P' : List (List Int)} {Rb R R' : Int → Prop} (I : BInv fl z k P Rb R) (hno : ∀ p ∈ P, z ∉ fl (p.getLastD 0)) (S : BStep fl P P' R R') : BInv fl z (k + 1) P' R R' where
  a := fun q hq => by
    obtain ⟨p, hp, u, hu, rfl, hR⟩ := S.a q hq
    obtain ⟨v, hw, _⟩ := I.a p hp
    rw [hw.last] at hu
    have hz : z < u := by
      by_cases c : u ≤ z
      · exact absurd (I.h u c) hR
      · omega
    exact ⟨u, .snoc hw hu hz, hR⟩
  b := S.b
  c := fun w v hw => by
    obtain ⟨w', v', rfl, hw', hv, hz⟩ := hw.succ
    rcases I.c w' v' hw' with h | ⟨p, hp, e, hle⟩
    · exact .inl (I.f v' h hw'.ge v hv hz)
    · rcases S.g p hp v (by rw [e]; exact hv) with h | ⟨q, hq, e2, hle2⟩
      · exact .inl h
      · obtain ⟨v2, hp2, _⟩ := I.a p hp
        exact .inr ⟨q, hq, e2, List.le_trans hle2 (snoc_le (by rw [hp2.len, hw'.len]) hle (Int.le_refl _))⟩
  d := fun j hj w v hw => by
    by_cases c : j < k
    · exact (I.r v).mpr (.inl (I.d j c w v hw))
    · have e : j = k := by omega
      subst e
      rcases I.c w v hw with h | ⟨p, hp, e, _⟩
      · exact (I.r v).mpr (.inl h)
      · exact (I.r v).mpr (.inr ⟨p, hp, e⟩)
  e := fun v hv hz => by
    rcases (I.r v).mp hv with h | ⟨p, hp, e⟩
    · exact I.e v h hz
    · rw [← e]
      exact hno p hp
  f := fun v hv hz u hu hzu => by
    rcases (I.r v).mp hv with h | ⟨p, hp, e⟩
    · exact (S.r u).mpr (.inl (I.f v h hz u hu hzu))
    · rcases S.g p hp u (by rw [e]; exact hu) with h | ⟨q, hq, e2, _⟩
      · exact (S.r u).mpr (.inl h)
      · exact (S.r u).mpr (.inr ⟨q, hq, e2⟩)
  r := S.r
  h := fun u h => (S.r u).mpr (.inl (I.h u h))
/-- the first of the shortest rings whose least thing is z, or none -/
def RingAt (fl : Int → List Int) (z : Int) : Option (List Int) → Prop
  | none => ∀ j w v, Wk fl z j w v → z ∉ fl v
  | some p => ∃ k v, Wk fl z k p v ∧ z ∈ fl v ∧ (∀ j < k, ∀ w u, Wk fl z j w u → z ∉ fl u) ∧ ∀ w u, Wk fl z k w u → z ∈ fl u → p ≤ w
theorem binv_none {k : Nat} {Rb R : Int → Prop} (I : BInv fl z k [] Rb R) : RingAt fl z none := by
  have all : ∀ j w v, Wk fl z j w v → Rb v := by
    intro j
    induction j with
    | zero =>
      intro w v hw
      by_cases c : 0 < k
      · exact I.d 0 c w v hw
      · have e : k = 0 := by omega
        subst e
        rcases I.c w v hw with h | ⟨p, hp, _⟩
        · exact h
        · exact absurd hp List.not_mem_nil
    | succ j ih =>
      intro w v hw
      obtain ⟨w', v', rfl, hw', hv, hz⟩ := hw.succ
      rcases (I.r v).mp (I.f v' (ih w' v' hw') hw'.ge v hv hz) with h | ⟨p, hp, _⟩
      · exact h
      · exact absurd hp List.not_mem_nil
  intro j w v hw
  exact I.e v (all j w v hw) hw.ge
theorem binv_some {k : Nat} {P P1 P2 : List (List Int)} {p : List Int} {Rb R : Int → Prop} (I : BInv fl z k P Rb R) (e : P = P1 ++ p :: P2) (h1 : ∀ q ∈ P1, z ∉ fl (q.getLastD 0)) (h2 : z ∈ fl (p.getLastD 0)) : RingAt fl z (some p) := by
  have hp : p ∈ P := by rw [e]; exact List.mem_append_right _ List.mem_cons_self
  obtain ⟨v, hw, _⟩ := I.a p hp
  refine ⟨k, v, hw, by rw [← hw.last]; exact h2, fun j hj w u hu => I.e u (I.d j hj w u hu) hu.ge, fun w u hu hz => ?_⟩
  rcases I.c w u hu with h | ⟨q, hq, eq, hle⟩
  · exact absurd hz (I.e u h hu.ge)
  · refine List.le_trans ?_ hle
    rw [e] at hq
    rcases List.mem_append.mp hq with hq | hq
    · exact absurd (by rw [eq]; exact hz) (h1 q hq)
    · rcases List.mem_cons.mp hq with rfl | hq
      · exact List.le_refl _
      · have srt := I.b
        rw [e] at srt
        exact List.le_of_lt ((List.pairwise_cons.mp (List.pairwise_append.mp srt).2.1).1 q hq)
theorem RingAt.uniq {o : Option (List Int)} {p q : List Int} (hp : RingAt fl z (some p)) (hq : RingAt fl z (some q)) : p = q := by
  obtain ⟨k, v, h1, h2, h3, h4⟩ := hp
  obtain ⟨k', v', g1, g2, g3, g4⟩ := hq
  have e : k = k' := by
    rcases Nat.lt_trichotomy k k' with h | h | h
    · exact absurd h2 (g3 k h p v h1)
    · exact h
    · exact absurd g2 (h3 k' h q v' g1)
  subst e
  exact List.le_antisymm (h4 q v' g1 g2) (g4 p v h1 h2)
end
/-! ### from behind -/
inductive Bw (fl : Int → List Int) (z : Int) : Nat → Int → Prop where
  | nil : Bw fl z 0 z
  | cons {t : Nat} {x y : Int} : Bw fl z t y → y ∈ fl x → z < x → Bw fl z (t + 1) x
theorem Wk.behind {fl : Int → List Int} {z : Int} {k : Nat} {w : List Int} {v : Int} (h : Wk fl z k w v) : ∀ {t : Nat}, Bw fl z t v → ∀ j ≤ k, 1 ≤ j ∨ t = 0 ∨ True → ∃ x, w[j]? = some x ∧ (1 ≤ j → Bw fl z (t + (k - j)) x) := by
  induction h with
  | nil =>
    intro t hb j hj _
    have e : j = 0 := by omega
    subst e
    exact ⟨z, rfl, fun h => absurd h (by omega)⟩
  | @snoc k p v u hw hu hz ih =>
    intro t hb j hj _
    by_cases c : j = k + 1
    · subst c
      refine ⟨u, ?_, fun _ => by rw [Nat.sub_self]; exact hb⟩
      rw [List.getElem?_append_right (by rw [hw.len]; omega), hw.len, Nat.sub_self]
      rfl
    · by_cases cv : z < v
      · obtain ⟨x, ex, hx⟩ := ih (t := t + 1) (.cons hb hu cv) j (by omega) (.inr (.inr trivial))
        refine ⟨x, ?_, fun h => ?_⟩
        · rw [List.getElem?_append_left (by rw [hw.len]; omega)]
          exact ex
        · have := hx h
          rw [show t + 1 + (k - j) = t + (k + 1 - j) by omega] at this
          exact this
      · -- v = z: the walk has just begun
        cases hw with
        | nil =>
          have e : j = 0 := by omega
          subst e
          exact ⟨z, rfl, fun h => absurd h (by omega)⟩
        | snoc _ _ h3 => exact absurd h3 cv
theorem Wk.arc {fl : Int → List Int} {z : Int} {k : Nat} {w : List Int} {v : Int} (h : Wk fl z k w v) : ∀ j < k, ∃ x y, w[j]? = some x ∧ w[j + 1]? = some y ∧ y ∈ fl x := by
  induction h with
  | nil => intro j hj; omega
  | @snoc k p v u hw hu hz ih =>
    intro j hj
    by_cases c : j = k
    · subst c
      refine ⟨v, u, ?_, ?_, hu⟩
      · rw [List.getElem?_append_left (by rw [hw.len]; omega)]
        exact hw.at_last
      · rw [List.getElem?_append_right (by rw [hw.len]; omega), hw.len, Nat.sub_self]
        rfl
    · obtain ⟨x, y, ex, ey, h⟩ := ih j (by omega)
      refine ⟨x, y, ?_, ?_, h⟩
      · rw [List.getElem?_append_left (by rw [hw.len]; omega)]
        exact ex
      · rw [List.getElem?_append_left (by rw [hw.len]; omega)]
        exact ey
theorem Wk.first {fl : Int → List Int} {z : Int} {k : Nat} {w : List Int} {v : Int} (h : Wk fl z k w v) : w[0]? = some z := by
  induction h with
  | nil => rfl
  | @snoc k p v u hw _ _ ih =>
    rw [List.getElem?_append_left (by rw [hw.len]; omega)]
    exact ih
/-- the first ring of k + 1 things from z: each time the least thing from which one can go on -/
theorem greedy_step {fl : Int → List Int} {z : Int} {k j : Nat} {c : List Int} {u x : Int} (hc : Wk fl z j c u) (hj : j < k) (hx : x ∈ fl u ∧ Bw fl z (k - j) x) (hmin : ∀ y, y ∈ fl u → Bw fl z (k - j) y → x ≤ y)
    (hle : ∀ w v, Wk fl z k w v → z ∈ fl v → c ≤ w.take (j + 1)) : Wk fl z (j + 1) (c ++ [x]) x ∧ ∀ w v, Wk fl z k w v → z ∈ fl v → c ++ [x] ≤ w.take (j + 2) := by
  have hzx : z < x := by
    have := hx.2
    cases h : k - j with
    | zero => omega
    | succ t =>
      rw [h] at this
      cases this with
      | cons _ _ h3 => exact h3
  refine ⟨.snoc hc hx.1 hzx, fun w v hw hz => ?_⟩
  have h1 := hle w v hw hz
  obtain ⟨a, b, ea, eb, hab⟩ := hw.arc j hj
  have e2 : w.take (j + 2) = w.take (j + 1) ++ [b] := by rw [List.take_add_one, eb]; rfl
  rw [e2]
  have hl : c.length = (w.take (j + 1)).length := by rw [hc.len, List.length_take, hw.len]; omega
  rcases List.le_iff_lt_or_eq.mp h1 with h | h
  · exact List.le_of_lt (lt_snoc hl h x b)
  · have eu : a = u := by
      have e3 := hc.at_last
      rw [h, List.getElem?_take_of_lt (by omega), ea] at e3
      exact Option.some.inj e3
    subst eu
    have hv : z < v := by
      cases hw with
      | nil => omega
      | snoc _ _ h3 => exact h3
    obtain ⟨y, ey, hy⟩ := hw.behind (t := 1) (.cons .nil hz hv) (j + 1) (by omega) (.inr (.inr trivial))
    rw [eb] at ey
    have e4 := Option.some.inj ey
    subst e4
    have hb := hy (by omega)
    rw [show 1 + (k - (j + 1)) = k - j by omega] at hb
    exact snoc_le hl h1 (hmin b hab hb)
end Fo
namespace Fo
open PySem PySem.Spec PyProof.Rows L2
/-- y = {k: v for ..}, y a local -/
theorem ps_setDc {X : Cx} {i : Nat} {y : Str} {py : Pos} {kx vx tg iter : Expr} {ifs : List Expr} {scope : Scope}
    {own : List (Str × Nat)} {pos spos : Pos} {wi : TI} {g : TG} {tt : TT} {tk tv : TE}
    (calm : X.calm = true) (nd : X.N.Nodup) (hy : X.N[i]? = some y)
    (loc : X.env.scope.names.lookup y = some .local)
    (sw : swapsWith (.DictComp kx vx [⟨tg, iter, ifs, 0⟩] scope pos) (some (.Name y py)) spos.line X.env = pure true)
    (pi : PI X tg iter wi) (blk : BlkOk X.N X.env.scope scope own)
    (pg : ∀ (s : Shared) (H : Hp) (C : Addr) (cl : List (Str × Addr)) (fp : List Addr),
      PG (X.blk s H scope (compEnvC scope cl C X.env) fp) tg g)
    (pt : ∀ (s : Shared) (H : Hp) (C : Addr) (cl : List (Str × Addr)) (fp : List Addr),
      PTs (X.blk s H scope (compEnvC scope cl C X.env) fp) ifs tt)
    (pk : ∀ (s : Shared) (H : Hp) (C : Addr) (cl : List (Str × Addr)) (fp : List Addr),
      PE (X.blk s H scope (compEnvC scope cl C X.env) fp) kx tk)
    (pv' : ∀ (s : Shared) (H : Hp) (C : Addr) (cl : List (Str × Addr)) (fp : List Addr),
      PE (X.blk s H scope (compEnvC scope cl C X.env) fp) vx tv)
    (fold : ∀ x, foldedSetIterable iter X.env x = pure x := by intro _; rfl) :
    PS X (.Assign [.Name y py] (.DictComp kx vx [⟨tg, iter, ifs, 0⟩] scope pos) spos)
      (tAsg (tDc wi g tt tk tv (own.map (·.2))) (gName i)) := by
  refine ⟨fun ps s1 σ1 H1 D1 I1 h1 => ?_⟩
  rw [exec_Assign_Name_used _ _ _ _ sw]
  refine wpAny_bind (wpAny_standAt
    (wpAny_bind ?_))
  have h2 : tDc wi g tt tk tv (own.map (·.2)) σ1 H1 (fun x G => gName i x σ1 G D1.nx) := h1
  show wpAny _ X.A (do
    let _ ← comprehension (.DictComp kx vx [⟨tg, iter, ifs, 0⟩] scope pos) scope X.env (firstIterPos [⟨tg, iter, ifs, 0⟩] pos) newDict false (eval iter X.env) (some (assign (.Name y py) X.env))) _ _ s1
  refine wpAny_bind (thn (dc_core (Qf := fun _ t => SP X ps D1 .next t) calm nd I1 pi blk pg pt pk pv' fold h2
    fun L C t m G J qq hn ff => ?_) fun _ t hq => wpAny_pure (wpAny_pure hq))
  show wpAny _ _ (assign (.Name y py)
    X.env (.ref L)) _ _ _
  refine wpAny_assign_Name (store_ok2 (v := V.ref L) J nd hy (.inl loc) rfl (fun t2 J2 ⟨b, sb, hb⟩ => ?_) (.inr loc))
  obtain ⟨e0, e1, e2, e3, e4, e5⟩ := ff
  have ne : C ≠ b := by
    rcases hb with z | z
    · rw [z]
      exact e1
    · exact fun q => e4 y b z q.symm
  exact ⟨m, hn.sameBut sb ne, fun h3 sb3 =>
    ⟨_, G, J2.turned (t' := t2.toks) (fun c o hc e => (sb3.2 c hc).trans e) e0 e1 e3 e4 e5, qq⟩⟩
theorem dc_range {lo : Int} {n : Nat} {g : TG} {tt : TT} {tk tv : TE} {vs : List Nat} {σ : L2.St} {H1 : Hp} {D : Addr} {Qd : Hp → Prop}
    (Pv : Nat → Hp → Prop) (h0 : Pv 0 (upd H1 D (.dK [])))
    (hs : ∀ i G, i < n → Pv i G → g (.int (lo + i)) (wipe σ vs) G fun σ2 H2 => wipe σ2 vs = wipe σ vs ∧ tt σ2 H2 fun b H3 =>
      if b = true then tk σ2 H3 fun yk H4 => tv σ2 H4 fun zv H5 => ∃ kvs k, yk = kV k ∧ H5 D = some (.dK kvs) ∧ kvs.length < sizeLine ∧ Pv (i + 1) (upd H5 D (.dK (putK kvs k zv))) else Pv (i + 1) H3)
    (hd : ∀ G, Pv n G → Qd G) :
    ∃ W : Nat → Nat → Hp → Prop, (∃ m, W 0 m (upd H1 D (.dK []))) ∧ ∀ i m G, W i m G →
      ((Itr lo n).stop i G ∧ Qd G) ∨ ((Itr lo n).go i G ∧ ∃ Nx : Hp → Prop, (∀ G', Nx G' → ∃ m', m' < m ∧ W (i + 1) m' G') ∧ ∀ x G', (Itr lo n).yld i G x G' → g x (wipe σ vs) G' fun σ2 H2 => wipe σ2 vs = wipe σ vs ∧ tt σ2 H2 fun b H3 =>
        if b = true then tk σ2 H3 fun yk H4 => tv σ2 H4 fun zv H5 => ∃ kvs k, yk = kV k ∧ H5 D = some (.dK kvs) ∧ kvs.length < sizeLine ∧ Nx (upd H5 D (.dK (putK kvs k zv))) else Nx H3) := by
  refine ⟨fun i m G => m = n - i ∧ (i ≤ n ∧ Pv i G), ⟨n, (Nat.sub_zero n).symm, Nat.zero_le n, h0⟩, ?_⟩
  rintro i m G ⟨rfl, hi, p⟩
  by_cases c : i < n
  · refine .inr ⟨c, Pv (i + 1), fun G' p' => ⟨n - (i + 1), by omega, rfl, c, p'⟩, fun x G' y => ?_⟩
    obtain ⟨rfl, rfl⟩ := y
    exact hs i _ c p
  · have e : i = n := by omega
    subst e
    exact .inl ⟨Nat.le_refl _, hd G p⟩
end Fo
namespace Fo
open PySem PySem.Spec PyProof.Rows L2
def flw (n : Nat) (rs : List (List Int)) (i : Int) : List Int := (rg n).filter fun j => decide ((rs.length : Int) < 2 * aN rs i j)
def flM (n : Nat) (rs : List (List Int)) : List (List Int) := (rg n).map (flw n rs)
theorem flw_mem {n : Nat} {rs : List (List Int)} {i j : Int} (h : j ∈ flw n rs i) : 0 ≤ j ∧ j < n := rg_mem.mp (List.mem_filter.mp h).1
theorem flM_len (n : Nat) (rs : List (List Int)) : (flM n rs).length = n := by unfold flM; rw [List.length_map, rg_len]
theorem flM_at {n : Nat} {rs : List (List Int)} {i : Nat} (h : i < n) : (flM n rs)[i]? = some (flw n rs (i : Int)) := by
  unfold flM
  rw [List.getElem?_map, rg_at h]
  rfl
theorem flw_len (n : Nat) (rs : List (List Int)) (i : Int) : (flw n rs i).length ≤ n := Nat.le_trans (List.length_filter_le _ _) (by rw [rg_len]; exact Nat.le_refl _)
theorem flw_sorted (n : Nat) (rs : List (List Int)) (i : Int) : (flw n rs i).Pairwise (· < ·) := by
  unfold flw rg
  exact List.Pairwise.filter _ (List.Pairwise.map _ (fun a b h => by omega) List.pairwise_lt_range)
def spMBeh : Sp := fun vs H Q _ => ∃ (l : Addr) (as : List Addr) (rs : List (List Int)) (n : Nat), vs = [.ref l] ∧ OL H l as rs n ∧ 1 ≤ rs.length ∧ rs.length ≤ 1000 ∧
  ∀ (l' : Addr) (as' : List Addr) (H' : Hp), H' l' = some (.lst (as'.map V.ref)) → LL H' as' (flM n rs) → Same H H' → Q (.ref l') H'
/-- the things that a dict of reached ones has -/
def Rk (kvs : List (Key × V)) (u : Int) : Prop := (valV kvs (Sum.inl u)).isSome = true
def unr (n : Nat) (kvs : List (Key × V)) : Nat := ((rg n).filter fun u => (valV kvs (Sum.inl u)).isNone).length
theorem Rk_put (kvs : List (Key × V)) (x u : Int) (y : V) : Rk (putK kvs (Sum.inl x) y) u ↔ (Rk kvs u ∨ u = x) := by
  unfold Rk
  rw [valV_put]
  by_cases c : (Sum.inl u : Key) = Sum.inl x
  · rw [if_pos c]
    exact ⟨fun _ => .inr (Sum.inl.inj c), fun _ => rfl⟩
  · rw [if_neg c]
    exact ⟨.inl, fun h => h.elim _root_.id fun e => absurd (by rw [e]) c⟩
theorem filt_lt {l : List Int} {p q : Int → Bool} {x : Int} (h : ∀ u ∈ l, q u = true → p u = true) (hx : x ∈ l) (h1 : p x = true) (h2 : q x = false) : (l.filter q).length + 1 ≤ (l.filter p).length := by
  induction l with
  | nil => exact absurd hx List.not_mem_nil
  | cons a l ih =>
    have hle : (l.filter q).length ≤ (l.filter p).length := by
      have : ∀ m : List Int, (∀ u ∈ m, q u = true → p u = true) → (m.filter q).length ≤ (m.filter p).length := fun m => by
        induction m with
        | nil => intro _; exact Nat.le_refl _
        | cons b m ih2 =>
          intro hm
          have i2 := ih2 fun u hu => hm u (List.mem_cons_of_mem _ hu)
          have hb := hm b List.mem_cons_self
          rw [List.filter_cons, List.filter_cons]
          cases e1 : q b <;> cases e2 : p b
          · simpa using i2
          · simp
            omega
          · rw [hb e1] at e2
            cases e2
          · simpa using i2
      exact this l fun u hu => h u (List.mem_cons_of_mem _ hu)
    rcases List.mem_cons.mp hx with rfl | hx
    · rw [List.filter_cons, List.filter_cons, h1, h2]
      simp
      omega
    · have i2 := ih (fun u hu => h u (List.mem_cons_of_mem _ hu)) hx
      have ha := h a List.mem_cons_self
      rw [List.filter_cons, List.filter_cons]
      cases e1 : q a <;> cases e2 : p a
      · simpa using i2
      · simp
        omega
      · rw [ha e1] at e2
        cases e2
      · simpa using i2
theorem unr_put {n : Nat} {kvs : List (Key × V)} {x : Int} {y : V} (hx : 0 ≤ x ∧ x < n) (h : valV kvs (Sum.inl x) = none) : unr n (putK kvs (Sum.inl x) y) + 1 ≤ unr n kvs := by
  unfold unr
  refine filt_lt (x := x) (fun u _ hu => ?_) (rg_mem.mpr hx) (by rw [h]; rfl) (by rw [valV_put, if_pos rfl]; rfl)
  rw [valV_put] at hu
  by_cases c : (Sum.inl u : Key) = Sum.inl x
  · rw [if_pos c] at hu
    cases hu
  · rw [if_neg c] at hu
    exact hu
def spLonger : Sp := fun vs H Q _ => ∃ (lp lf rd : Addr) (ps fs : List Addr) (P : List (List Int)) (n k : Nat) (rs : List (List Int)) (kvs : List (Key × V)), vs = [.ref lp, .ref lf, .ref rd] ∧ n ≤ 12 ∧ H lp = some (.lst (ps.map V.ref)) ∧ LL H ps P ∧ H lf = some (.lst (fs.map V.ref)) ∧ LL H fs (flM n rs) ∧ H rd = some (.dK kvs) ∧ kvs.length + unr n kvs ≤ n ∧ k ≤ 12 ∧ (∀ p ∈ P, p.length = k + 1 ∧ 0 ≤ p.getLastD 0 ∧ p.getLastD 0 < n) ∧ P.Pairwise (· < ·) ∧
  ∀ (l' : Addr) (as' : List Addr) (P' : List (List Int)) (kvs' : List (Key × V)) (H' : Hp), H l' = none → (∀ a ∈ as', H a = none) → l' ≠ rd → rd ∉ as' → H' l' = some (.lst (as'.map V.ref)) → LL H' as' P' → H' rd = some (.dK kvs') → kvs'.length + unr n kvs' ≤ n → (P' ≠ [] → unr n kvs' + 1 ≤ unr n kvs) → BStep (flw n rs) P P' (Rk kvs) (Rk kvs') → KeepD rd H H' → Q (.ref l') H'
theorem last_at {p : List Int} {k : Nat} (h : p.length = k + 1) : atI (p.map V.int) (-1) = some (V.int (p.getLastD 0)) := by
  unfold atI ixN
  rw [List.length_map, h, if_neg (by omega), if_pos (by omega)]
  show (p.map V.int)[(-1 + ((k + 1 : Nat) : Int)).toNat]? = _
  rw [show (-1 + ((k + 1 : Nat) : Int)).toNat = k by omega]
  cases List.eq_nil_or_concat p with
  | inl e => rw [e] at h; cases h
  | inr e =>
    obtain ⟨p', x, rfl⟩ := e
    rw [List.concat_eq_append] at h ⊢
    rw [List.length_append] at h
    have e : p'.length = k := by simpa using h
    rw [List.getElem?_map, List.getElem?_append_right (by omega), e, Nat.sub_self]
    simp
section
variable {P : Program} {w : World} {K : PySem.W.Frag} {mg : Str → Option Value} {base : Heap}
theorem scMBeh : FnScope ["poll", "counts", "other", "many"] ["poll"] (defScope s_mostly_behind) := ⟨rfl, rfl, rfl, by decide +kernel, rfl, by decide +kernel, by decide +kernel⟩
set_option maxHeartbeats 4000000 in
theorem ok_mbeh {f f1 : Addr} {fd d1 : FuncData} {k : Nat} (T : Df K mg "mostly_behind" s_mostly_behind ["poll"] f fd) (T_counts_ahead : Df K mg "counts_ahead" s_counts_ahead ["poll"] f1 d1) (G_counts_ahead : FnOk P w K mg base CX0 k f1 d1 ["poll"] spAhead) (B : Bi mg) : FnOk P w K mg base CX0 (k + 1) f fd ["poll"] spMBeh := by
  refine T.F.ok scMBeh (fun vs H Q E h => ?_) (fun cdv A outer s H vs Q E hr h => ?_)
  · obtain ⟨l, as, rs, n, rfl, _⟩ := h
    rfl
  · obtain ⟨l, as, rs, n, rfl, hO, h1, h2, q⟩ := h
    have hal := hO.ll.len
    have hn2 := hO.n2
    refine ⟨_, 
      (pss_one (ps_ret (pe_lc (own := [("counts", 1)]) (g := (gName 1)) (tt := tYes) (te := (tLc (iEnum K (tCons (tVar 1) tNil)) (gTup K 2 (gCons (gName 2) (gCons (gName 3) gNil))) (tTest (tOp (rI0 fun i j => .bl (decide (j < i))) (tOp (rI CMul fun i j => .int (i * j)) (tC (.int 2)) (tVar 3)) (tCB (rLenS K) (tCons (tVar 0) tNil)))) (tVar 2) [2, 3])) rfl scMBeh.nd (pi_list (pe_call G_counts_ahead hr (by rfl) T_counts_ahead.g T_counts_ahead.F.kp T_counts_ahead.b .nil pass0 (pa_cons (pv 0) pa_nil))) (blkOk_by (N := ["poll", "counts", "other", "many"]) (sc := defScope s_mostly_behind) (by decide +kernel)) (fun _ _ _ _ _ => (pg_name (i := 1) scMBeh.nd rfl (.inl rfl))) (fun _ _ _ _ _ => pts_nil) (fun _ _ _ _ _ => (pe_lc (own := [("other", 2), ("many", 3)]) (g := (gTup K 2 (gCons (gName 2) (gCons (gName 3) gNil)))) (tt := (tTest (tOp (rI0 fun i j => .bl (decide (j < i))) (tOp (rI CMul fun i j => .int (i * j)) (tC (.int 2)) (tVar 3)) (tCB (rLenS K) (tCons (tVar 0) tNil))))) (te := (tVar 2)) rfl scMBeh.nd (pi_enum (by rfl) B.enumerate (pa_cons (pv 1) pa_nil)) (blkOk_by (N := ["poll", "counts", "other", "many"]) (by rfl)) (fun _ _ _ _ _ => (pg_tup (by rfl) (pgs_cons (pg_name (i := 2) scMBeh.nd rfl (.inl rfl)) (pgs_cons (pg_name (i := 3) scMBeh.nd rfl (.inl rfl)) pgs_nil)))) (fun _ _ _ _ _ => (pts_one (pt_cmpR op_gt (pe_op op_mul pe_int (pv 3)) (pe_callB call_len_seq (by rfl) B.len PySem.boot_len (pa_cons (pv 0) pa_nil)) (nomark _)))) (fun _ _ _ _ _ => (pv 2))))))), ?_⟩
    refine ⟨_, rfl, l, as, rs, n, rfl, hO, h1, h2, fun m ms H1 nm hm hLm s1 => ?_⟩
    have hO1 := hO.same s1
    have hml := hLm.len
    have eml : (aM n rs).length = n := by unfold aM; rw [List.length_map, rg_len]
    refine ⟨m, rfl, ⟨_, SqL.of hm⟩, fun D nD => ?_⟩
    refine lc_list (K := K) (a := m) (xs := ms.map V.ref) (fun i H3 => ∃ bs : List Addr, H3 D = some (.lst (bs.map V.ref)) ∧ LL H3 bs ((flM n rs).take i) ∧ D ∉ bs ∧ Same H1 H3) ⟨[], upd_same, trivial, List.not_mem_nil, same_new nD⟩ (fun i H3 _ hP => by obtain ⟨_, _, _, _, sm⟩ := hP; exact SqL.of (sm _ _ hm)) (fun i x H3 hx hP => ?_) (fun H3 hP => ?_)
    · obtain ⟨a, ea, rfl⟩ := ref_at_inv hx
      obtain ⟨bs, hD3, hL3, nDb, sm⟩ := hP
      have hi := (List.getElem?_eq_some_iff.mp ea).1
      rw [hml, eml] at hi
      obtain ⟨r, er, ha⟩ := (hLm.same sm).get ea
      have emi : (aM n rs)[i]? = some ((rg n).map fun j => aN rs (i : Int) j) := by
        unfold aM
        rw [List.getElem?_map, rg_at hi]
        rfl
      rw [emi] at er
      have er2 := Option.some.inj er
      subst er2
      have hbl := hL3.len
      rw [List.length_take, flM_len] at hbl
      refine ⟨rfl, _, rfl, a, _, rfl, SqL.of ha, fun D2 nD2 => ?_⟩
      refine lc_enumL (K := K) (a := a) (xs := ((rg n).map fun j => aN rs (i : Int) j).map V.int) (fun j H4 => H4 D2 = some (.lst (((rg j).filter fun u => decide ((rs.length : Int) < 2 * aN rs (i : Int) u)).map V.int)) ∧ Same H3 H4) ⟨upd_same, same_new nD2⟩ (fun j H4 _ hP => SqL.of (hP.2 _ _ ha)) (fun j x t H4 hx hP nt => ?_) (fun H4 hP => ?_)
      · obtain ⟨hD4, sm4⟩ := hP
        obtain ⟨y, ey, rfl⟩ := int_at_inv hx
        have hj := (List.getElem?_eq_some_iff.mp ey).1
        rw [List.length_map, rg_len] at hj
        rw [List.getElem?_map, rg_at hj] at ey
        have ey2 : aN rs (i : Int) (j : Int) = y := Option.some.inj ey
        subst ey2
        have s5 := same_new (o := .tup [.int (j : Nat), .int (aN rs (i : Int) (j : Int))]) nt
        have top5 := s5 _ _ (sm4 _ _ (sm _ _ hO1.top))
        have fm : (rg (j + 1)).filter (fun u => decide ((rs.length : Int) < 2 * aN rs (i : Int) u)) = (rg j).filter (fun u => decide ((rs.length : Int) < 2 * aN rs (i : Int) u)) ++ (if decide ((rs.length : Int) < 2 * aN rs (i : Int) (j : Int)) then [(j : Int)] else []) := by
          rw [rg_succ, List.filter_append, List.filter_cons]
          rfl
        refine ⟨t, _, rfl, .inl (.inl upd_same), rfl, _, _, rfl, _, _, rfl, rfl, rfl, ?_⟩
        refine ⟨_, rfl, 2, _, rfl, rfl, .inl ⟨by decide, by decide⟩, _, rfl, l, _, rfl, .inl (SqL.of top5), _, _, rfl, rfl, _, rfl, ite2 (fun c => ?_) (fun c => ?_)⟩
        · have hc : (rs.length : Int) < 2 * aN rs (i : Int) (j : Int) := by
            have := of_decide_eq_true c
            rw [List.length_map, hal] at this
            exact this
          refine ⟨_, rfl, _, s5 _ _ hD4, line_lt (by rw [List.length_map]; exact Nat.lt_of_le_of_lt (List.length_filter_le _ _) (by rw [rg_len]; omega)), ?_, fun b o e => ?_⟩
          · rw [upd_same, fm, decide_eq_true hc, if_pos rfl, List.map_append]
            rfl
          · rw [upd_ne (ne_of_none e nD2)]
            exact s5 _ _ (sm4 _ _ e)
        · have hc : ¬ (rs.length : Int) < 2 * aN rs (i : Int) (j : Int) := fun h => c (decide_eq_true (by rw [List.length_map, hal]; exact h))
          refine ⟨?_, sm4.trans s5⟩
          rw [fm, decide_eq_false hc, if_neg (by decide), List.append_nil]
          exact s5 _ _ hD4
      · obtain ⟨hD4, sm4⟩ := hP
        rw [List.length_map, List.length_map, rg_len] at hD4
        have nD32 : D2 ≠ D := fun e => by rw [e, hD3] at nD2; cases nD2
        refine ⟨_, sm4 _ _ hD3, line_lt (by rw [List.length_map]; omega), bs ++ [D2], by rw [upd_same, List.map_append]; rfl, ?_, fun hu => ?_, fun b o e => ?_⟩
        · rw [take_more' (flM_at hi)]
          refine LL.snoc ((hL3.same sm4).keep fun u hu o e => ?_) ?_
          · rw [upd_ne (fun q => nDb (by rw [← q]; exact hu))]
            exact e
          · rw [upd_ne nD32]
            exact hD4
        · rcases List.mem_append.mp hu with h | h
          · exact nDb h
          · exact nD32 (List.mem_singleton.mp h).symm
        · rw [upd_ne (ne_of_none e nD)]
          exact sm4 _ _ (sm _ _ e)
    · obtain ⟨bs, hD3, hL3, nDb, sm⟩ := hP
      rw [List.length_map, hml, eml, List.take_of_length_le (by rw [flM_len]; exact Nat.le_refl _)] at hL3
      exact q D bs H3 hD3 hL3 (s1.trans sm)
theorem scLonger : FnScope ["paths", "followers", "reached", "longer", "path", "thing"] ["paths", "followers", "reached"] (defScope s_longer_paths) := ⟨rfl, rfl, rfl, by decide +kernel, rfl, by decide +kernel, by decide +kernel⟩
set_option maxHeartbeats 4000000 in
theorem ok_longer {f : Addr} {fd : FuncData} {k : Nat} (T : Df K mg "longer_paths" s_longer_paths ["paths", "followers", "reached"] f fd) (B : Bi mg) : FnOk P w K mg base CX0 (k + 1) f fd ["paths", "followers", "reached"] spLonger := by
  refine T.F.ok scLonger (fun vs H Q E h => ?_) (fun cdv A outer s H vs Q E hr h => ?_)
  · obtain ⟨lp, lf, rd, ps, fs, P, n, k, rs, kvs, rfl, _⟩ := h
    rfl
  · obtain ⟨lp, lf, rd, ps, fs, PP, n, k', rs, kvs, rfl, hn, hlp, hLp, hlf, hLf, hrd, hku, hk, hP, hsrt, q⟩ := h
    have hpl := hLp.len
    have hfl := hLf.len
    rw [flM_len] at hfl
    refine ⟨_, 
      (pss_cons (ps_set (i := 3) scLonger.nd rfl (.inl rfl) (pe_lst pa_nil))
      (pss_cons (ps_for PassesOwn.never rfl (pi_list (pv 0)) (pg_name (i := 4) scLonger.nd rfl (.inl rfl))
        (pss_one (ps_for PassesOwn.never rfl (pi_list (pe_ix ix_list (pv 1) (pe_ix ix_list (pv 4) (pe_un un_neg pe_int) (fun _ _ => rfl)) (fun _ _ => rfl))) (pg_name (i := 5) scLonger.nd rfl (.inl rfl))
          (pss_one (ps_if (pt_cmp (pc_dnotin (hu_of hr) (pv 5) (pv 2)))
            (pss_cons (ps_dput (hu_of hr) (pv 2) (pv 5) pe_bl (by rfl))
            (pss_one (ps_expr (pe_bm PySem.F.plainAttrs_list PySem.F.slot_list_append PySem.F.type_list_append mt_append (pv 3) (pa_cons (pe_op op_cat (pv 4) (pe_lst (pa_cons (pv 5) pa_nil))) pa_nil)))))
            pss_nil)))))
      (pss_one (ps_ret (pv 3))))), ?_⟩
    refine ⟨line_small (by show 0 ≤ 16777216; decide), fun lg nlg => ?_⟩
    have s0 := same_new (o := .lst []) nlg
    have nlr : lg ≠ rd := (ne_of_none hrd nlg).symm
    have nlpr : lp ≠ rd := fun e => by rw [e, hrd] at hlp; cases hlp
    have nlfr : lf ≠ rd := fun e => by rw [e, hrd] at hlf; cases hlf
    have nps : ∀ a ∈ ps, a ≠ rd := fun a ha e => by
      obtain ⟨i, hi⟩ := List.mem_iff_getElem?.mp ha
      obtain ⟨r, _, hr'⟩ := hLp.get hi
      rw [e, hrd] at hr'
      cases hr'
    have nfs : ∀ a ∈ fs, a ≠ rd := fun a ha e => by
      obtain ⟨i, hi⟩ := List.mem_iff_getElem?.mp ha
      obtain ⟨r, _, hr'⟩ := hLf.get hi
      rw [e, hrd] at hr'
      cases hr'
    -- what holds while it is gone through: D of the pairs gone through
    let J : (List Int → Int → Prop) → Hp → List Addr → List (List Int) → List (Key × V) → Prop := fun Dn G cs P' kv =>
      G lg = some (.lst (cs.map V.ref)) ∧ LL G cs P' ∧ (∀ a ∈ cs, H a = none ∧ a ≠ lg ∧ a ≠ rd) ∧ G rd = some (.dK kv) ∧ kv.length + unr n kv ≤ n ∧ P'.length + unr n kv ≤ unr n kvs ∧
      (∀ p' ∈ P', ∃ p ∈ PP, ∃ u ∈ flw n rs (p.getLastD 0), p' = p ++ [u] ∧ ¬ Rk kvs u ∧ Dn p u) ∧ P'.Pairwise (· < ·) ∧ (∀ u, Rk kv u ↔ (Rk kvs u ∨ ∃ p' ∈ P', p'.getLastD 0 = u)) ∧
      (∀ p u, Dn p u → Rk kvs u ∨ ∃ p' ∈ P', p'.getLastD 0 = u ∧ p' ≤ p ++ [u]) ∧ KeepD rd H G
    refine ⟨_, rfl, lp, rfl, ⟨_, SqL.of (s0 _ _ hlp)⟩, ?_⟩
    refine for_list (xs := ps.map V.ref) (fun i σ G => ∃ (y4 y5 : Option V) (cs : List Addr) (P' : List (List Int)) (kv : List (Key × V)), σ = [some (.ref lp), some (.ref lf), some (.ref rd), some (.ref lg), y4, y5] ∧ J (fun p u => p ∈ PP.take i ∧ u ∈ flw n rs (p.getLastD 0)) G cs P' kv)
      ⟨_, _, [], [], kvs, rfl, upd_same, trivial, fun a h => absurd h List.not_mem_nil, s0 _ _ hrd, hku, by show 0 + _ ≤ _; omega, fun p h => absurd h List.not_mem_nil, List.Pairwise.nil, fun u => ⟨.inl, fun h => h.elim _root_.id fun ⟨p, hp, _⟩ => absurd hp List.not_mem_nil⟩, fun p u h => absurd h.1 (by rw [List.take_zero]; exact List.not_mem_nil), KeepD.of_same s0⟩ (fun i σ G _ hW => by
        obtain ⟨_, _, _, _, _, _, _, _, _, _, _, _, _, _, _, _, kp⟩ := hW
        exact SqL.of (kp _ _ hlp nlpr)) (fun i x σ G hx hW => ?_) (fun σ G hW => ?_)
    · obtain ⟨y4, y5, cs, P', kv, rfl, hJ⟩ := hW
      obtain ⟨a, ea, rfl⟩ := ref_at_inv hx
      obtain ⟨p, ep, ha0⟩ := hLp.get ea
      have hpm := List.mem_of_getElem? ep
      obtain ⟨pl, p0, p1⟩ := hP p hpm
      obtain ⟨v, hv⟩ : ∃ v : Nat, p.getLastD 0 = (v : Int) := ⟨(p.getLastD 0).toNat, by omega⟩
      have hvn : v < n := by omega
      obtain ⟨b, eb⟩ : ∃ b, fs[v]? = some b := ⟨fs[v]'(by omega), List.getElem?_eq_getElem (by omega)⟩
      obtain ⟨fr, efr, hb0⟩ := hLf.get eb
      rw [flM_at hvn] at efr
      have efr2 := Option.some.inj efr
      subst efr2
      have kp0 : KeepD rd H G := by
        obtain ⟨_, _, _, _, _, _, _, _, _, _, kp⟩ := hJ
        exact kp
      have haG := kp0 _ _ ha0 (nps a (List.mem_of_getElem? ea))
      have hlfG := kp0 _ _ hlf nlfr
      have hbG := kp0 _ _ hb0 (nfs b (List.mem_of_getElem? eb))
      have la := last_at pl
      refine ⟨_, rfl, _, rfl, 1, rfl, a, _, _, _, rfl, rfl, SqL.of haG, la, lf, _, _, _, rfl, rfl, SqL.of hlfG, at_of (j := v) hv (ref_at eb), b, rfl, ⟨_, SqL.of hbG⟩, ?_⟩
      refine for_list (xs := (flw n rs (v : Int)).map V.int) (fun j σ G2 => ∃ (y5 : Option V) (cs : List Addr) (P' : List (List Int)) (kv : List (Key × V)), σ = [some (.ref lp), some (.ref lf), some (.ref rd), some (.ref lg), some (.ref a), y5] ∧ J (fun p' u => (p' ∈ PP.take i ∧ u ∈ flw n rs (p'.getLastD 0)) ∨ (p' = p ∧ u ∈ (flw n rs (v : Int)).take j)) G2 cs P' kv)
        ⟨_, cs, P', kv, rfl, ?_⟩ (fun j σ G2 _ hW => by
          obtain ⟨_, _, _, _, _, _, _, _, _, _, _, _, _, _, _, kp⟩ := hW
          exact SqL.of (kp _ _ hb0 (nfs b (List.mem_of_getElem? eb)))) (fun j x σ G2 hx hW => ?_) (fun σ G2 hW => ?_)
      · obtain ⟨j1, j2, j3, j4, j5, j6, j7, j8, j9, j10, j11⟩ := hJ
        refine ⟨j1, j2, j3, j4, j5, j6, fun p' hp' => ?_, j8, j9, fun p' u h => ?_, j11⟩
        · obtain ⟨p2, h2, u, hu, e, hR, hd⟩ := j7 p' hp'
          exact ⟨p2, h2, u, hu, e, hR, .inl hd⟩
        · rcases h with h | h
          · exact j10 p' u h
          · exact absurd h.2 (by rw [List.take_zero]; exact List.not_mem_nil)
      · obtain ⟨z5, cs, P', kv, rfl, j1, j2, j3, j4, j5, j6, j7, j8, j9, j10, j11⟩ := hW
        obtain ⟨u, eu, rfl⟩ := int_at_inv hx
        have hum := List.mem_of_getElem? eu
        have hun := flw_mem hum
        have haG2 := j11 _ _ ha0 (nps a (List.mem_of_getElem? ea))
        refine ⟨_, rfl, _, rfl, rd, _, rfl, DGet.k (k := Sum.inl u) j4, _, rfl, ?_⟩
        cases hval : valV kv (Sum.inl u) with
        | some y =>
          refine iteF ⟨_, cs, P', kv, rfl, j1, j2, j3, j4, j5, j6, fun p' hp' => ?_, j8, j9, fun p' u' h => ?_, j11⟩
          · obtain ⟨p2, h2, u2, hu2, e, hR, hd⟩ := j7 p' hp'
            refine ⟨p2, h2, u2, hu2, e, hR, hd.imp _root_.id fun h => ⟨h.1, ?_⟩⟩
            rw [take_more eu]
            exact List.mem_append_left _ h.2
          · rcases h with h | ⟨rfl, h⟩
            · exact j10 p' u' (.inl h)
            · rw [take_more eu] at h
              rcases List.mem_append.mp h with h | h
              · exact j10 p' u' (.inr ⟨rfl, h⟩)
              · rw [List.mem_singleton.mp h]
                have hRk : Rk kv u := by unfold Rk; rw [hval]; rfl
                rcases (j9 u).mp hRk with h | ⟨q', hq', e⟩
                · exact .inl h
                · obtain ⟨p2, h2, u2, hu2, e2, _, hd⟩ := j7 q' hq'
                  have eu2 : u2 = u := by rw [e2] at e; simpa using e
                  subst eu2
                  refine .inr ⟨q', hq', e, ?_⟩
                  rw [e2]
                  have le2 : p2 ≤ p' := by
                    rcases hd with hd | hd
                    · rw [List.mem_iff_getElem?] at hd
                      obtain ⟨⟨i2, hi2⟩, _⟩ := hd
                      have hlt : i2 < i := by
                        have := (List.getElem?_eq_some_iff.mp hi2).1
                        rw [List.length_take] at this
                        omega
                      rw [List.getElem?_take_of_lt hlt] at hi2
                      have hs2 := List.pairwise_iff_getElem.mp hsrt
                      obtain ⟨g1, e1⟩ := List.getElem?_eq_some_iff.mp hi2
                      obtain ⟨g2, e3⟩ := List.getElem?_eq_some_iff.mp ep
                      have := hs2 i2 i g1 g2 hlt
                      rw [e1, e3] at this
                      exact List.le_of_lt this
                    · rw [hd.1]
                      exact List.le_refl _
                  exact snoc_le (by rw [(hP p2 h2).1, pl]) le2 (Int.le_refl _)
        | none =>
          refine iteT ⟨_, rfl, _, rfl, rd, _, rfl, DPut.k (k := Sum.inl u) j4 (line_lt (by omega)), ?_⟩
          have hlg1 : (upd G2 rd (.dK (putK kv (Sum.inl u) (.bl true)))) lg = _ := (upd_ne nlr).trans j1
          have ha1 : (upd G2 rd (.dK (putK kv (Sum.inl u) (.bl true)))) a = _ := (upd_ne (nps a (List.mem_of_getElem? ea))).trans haG2
          have hrd1 : (upd G2 rd (.dK (putK kv (Sum.inl u) (.bl true)))) rd = _ := upd_same
          have hL1 : LL (upd G2 rd (.dK (putK kv (Sum.inl u) (.bl true)))) cs P' := j2.keep fun c hc o e => by rw [upd_ne (j3 c hc).2.2]; exact e
          have kp1 : KeepD rd H (upd G2 rd (.dK (putK kv (Sum.inl u) (.bl true)))) := fun c o e nc => by rw [upd_ne nc]; exact j11 c o e nc
          generalize upd G2 rd (.dK (putK kv (Sum.inl u) (.bl true))) = G3 at hlg1 ha1 hrd1 hL1 kp1 ⊢
          have hcl := j2.len
          have hup := unr_put (y := V.bl true) hun hval
          have hkl := length_putK kv (Sum.inl u) (V.bl true)
          refine ⟨_, rfl, .inl ⟨rfl, _, SqL.of hlg1⟩, _, rfl, _, rfl, line_small (by show 1 ≤ 16777216; decide), fun e1 ne1 => ?_⟩
          have s4 := same_new (o := .lst [.int u]) ne1
          refine ⟨a, e1, _, _, rfl, rfl, s4 _ _ ha1, upd_same, line_small (by rw [List.length_map, pl]; show k' + 1 + 1 ≤ 16777216; omega), fun e2 ne2 => ?_⟩
          have s5 := s4.trans (same_new (o := .lst (p.map V.int ++ [.int u])) ne2)
          have he2 : (upd (upd G3 e1 (.lst [.int u])) e2 (.lst (p.map V.int ++ [.int u]))) e2 = _ := upd_same
          generalize upd (upd G3 e1 (.lst [.int u])) e2 (.lst (p.map V.int ++ [.int u])) = G4 at s5 he2 ⊢
          have hlg4 := s5 _ _ hlg1
          have ne2G3 : G3 e2 = none := s4.free ne2
          have ne2lg : e2 ≠ lg := fun z => by rw [z, hlg1] at ne2G3; cases ne2G3
          have ne2rd : e2 ≠ rd := fun z => by rw [z, hrd1] at ne2G3; cases ne2G3
          have ne2H : H e2 = none := kp1.none ne2G3 ne2rd
          have hul : P'.length + unr n kv ≤ n := by
            have : unr n kvs ≤ n := Nat.le_trans (List.length_filter_le _ _) (by rw [rg_len]; exact Nat.le_refl _)
            omega
          have hnR : ¬ Rk kvs u := fun h => by
            have := (j9 u).mpr (.inl h)
            unfold Rk at this
            rw [hval] at this
            cases this
          refine ⟨lg, _, _, rfl, rfl, hlg4, line_lt (by rw [List.length_map]; omega), ?_⟩
          refine ⟨_, cs ++ [e2], P' ++ [p ++ [u]], putK kv (Sum.inl u) (.bl true), rfl, by rw [upd_same, List.map_append]; rfl, ?_, fun c hc => ?_, by rw [upd_ne nlr.symm]; exact s5 _ _ hrd1, by omega, by rw [List.length_append]; show _ + 1 + _ ≤ _; omega, fun p' hp' => ?_, ?_, fun u' => ?_, fun p' u' h => ?_, fun c o e nc => ?_⟩
          · refine LL.snoc ((hL1.same s5).keep fun c hc o e => ?_) ?_
            · rw [upd_ne (j3 c hc).2.1]
              exact e
            · rw [upd_ne ne2lg, he2, List.map_append]
              rfl
          · rcases List.mem_append.mp hc with h | h
            · exact j3 c h
            · rw [List.mem_singleton.mp h]
              exact ⟨ne2H, ne2lg, ne2rd⟩
          · rcases List.mem_append.mp hp' with h | h
            · obtain ⟨p2, h2, u2, hu2, e, hR, hd⟩ := j7 p' h
              refine ⟨p2, h2, u2, hu2, e, hR, hd.imp _root_.id fun h => ⟨h.1, ?_⟩⟩
              rw [take_more eu]
              exact List.mem_append_left _ h.2
            · rw [List.mem_singleton.mp h]
              refine ⟨p, hpm, u, by rw [hv]; exact hum, rfl, hnR, .inr ⟨rfl, ?_⟩⟩
              rw [take_more eu]
              exact List.mem_append_right _ (List.mem_singleton.mpr rfl)
          · refine List.pairwise_append.mpr ⟨j8, List.pairwise_singleton _ _, fun x hx y hy => ?_⟩
            rw [List.mem_singleton.mp hy]
            obtain ⟨p2, h2, u2, hu2, e, hR, hd⟩ := j7 x hx
            rw [e]
            rcases hd with hd | hd
            · obtain ⟨i2, hi2⟩ := List.mem_iff_getElem?.mp hd.1
              have hlt : i2 < i := by
                have := (List.getElem?_eq_some_iff.mp hi2).1
                rw [List.length_take] at this
                omega
              rw [List.getElem?_take_of_lt hlt] at hi2
              have hs2 := List.pairwise_iff_getElem.mp hsrt
              obtain ⟨g1, e1⟩ := List.getElem?_eq_some_iff.mp hi2
              obtain ⟨g2, e3⟩ := List.getElem?_eq_some_iff.mp ep
              have := hs2 i2 i g1 g2 hlt
              rw [e1, e3] at this
              exact lt_snoc (by rw [(hP p2 h2).1, pl]) this u2 u
            · rw [hd.1]
              apply snoc_lt
              obtain ⟨j2', hj2⟩ := List.mem_iff_getElem?.mp hd.2
              have hlt : j2' < j := by
                have := (List.getElem?_eq_some_iff.mp hj2).1
                rw [List.length_take] at this
                omega
              rw [List.getElem?_take_of_lt hlt] at hj2
              have hs2 := List.pairwise_iff_getElem.mp (flw_sorted n rs (v : Int))
              obtain ⟨g1, e1⟩ := List.getElem?_eq_some_iff.mp hj2
              obtain ⟨g2, e3⟩ := List.getElem?_eq_some_iff.mp eu
              have := hs2 j2' j g1 g2 hlt
              rw [e1, e3] at this
              exact this
          · rw [Rk_put, j9 u']
            constructor
            · rintro ((h | ⟨q', hq', e⟩) | rfl)
              · exact .inl h
              · exact .inr ⟨q', List.mem_append_left _ hq', e⟩
              · exact .inr ⟨p ++ [u'], List.mem_append_right _ (List.mem_singleton.mpr rfl), by simp⟩
            · rintro (h | ⟨q', hq', e⟩)
              · exact .inl (.inl h)
              · rcases List.mem_append.mp hq' with h | h
                · exact .inl (.inr ⟨q', h, e⟩)
                · rw [List.mem_singleton.mp h] at e
                  refine .inr ?_
                  have : u = u' := by simpa using e
                  exact this.symm
          · rcases h with h | ⟨rfl, h⟩
            · rcases j10 p' u' (.inl h) with h | ⟨q', hq', e, hle⟩
              · exact .inl h
              · exact .inr ⟨q', List.mem_append_left _ hq', e, hle⟩
            · rw [take_more eu] at h
              rcases List.mem_append.mp h with h | h
              · rcases j10 p' u' (.inr ⟨rfl, h⟩) with h | ⟨q', hq', e, hle⟩
                · exact .inl h
                · exact .inr ⟨q', List.mem_append_left _ hq', e, hle⟩
              · rw [List.mem_singleton.mp h]
                exact .inr ⟨p' ++ [u], List.mem_append_right _ (List.mem_singleton.mpr rfl), by simp, List.le_refl _⟩
          · rw [upd_ne (ne_of_none e nlg)]
            exact s5 _ _ (kp1 c o e nc)
      · obtain ⟨z5, cs, P', kv, rfl, j1, j2, j3, j4, j5, j6, j7, j8, j9, j10, j11⟩ := hW
        rw [List.length_map, List.take_length] at j7 j10
        refine ⟨_, _, cs, P', kv, rfl, j1, j2, j3, j4, j5, j6, fun p' hp' => ?_, j8, j9, fun p' u h => ?_, j11⟩
        · obtain ⟨p2, h2, u2, hu2, e, hR, hd⟩ := j7 p' hp'
          refine ⟨p2, h2, u2, hu2, e, hR, ?_, hu2⟩
          rw [take_more' ep]
          rcases hd with hd | hd
          · exact List.mem_append_left _ hd.1
          · exact List.mem_append_right _ (List.mem_singleton.mpr hd.1)
        · rw [take_more' ep] at h
          rcases List.mem_append.mp h.1 with h1 | h1
          · exact j10 p' u (.inl ⟨h1, h.2⟩)
          · have e := List.mem_singleton.mp h1
            refine j10 p' u (.inr ⟨e, ?_⟩)
            have := h.2
            rw [e, hv] at this
            exact this
    · obtain ⟨y4, y5, cs, P', kv, rfl, j1, j2, j3, j4, j5, j6, j7, j8, j9, j10, j11⟩ := hW
      rw [List.length_map, hpl, List.take_length] at j7 j10
      refine ⟨_, rfl, q lg cs P' kv G nlg (fun a ha => (j3 a ha).1) nlr (fun h => (j3 rd h).2.2 rfl) j1 j2 j4 j5 (fun hne => ?_) ⟨fun p' hp' => ?_, j8, j9, fun p hp u hu => j10 p u ⟨hp, hu⟩⟩ j11⟩
      · have : 0 < P'.length := List.length_pos_iff.mpr hne
        omega
      · obtain ⟨p2, h2, u2, hu2, e, hR, _⟩ := j7 p' hp'
        exact ⟨p2, h2, u2, hu2, e, hR⟩
end
end Fo
namespace Fo
open PySem PySem.Spec PyProof.Rows L2
def Rn (kvs : List (Key × V)) (u : Int) : Prop := Rk kvs u ∨ u < 0
theorem step_neg {n : Nat} {rs : List (List Int)} {P P' : List (List Int)} {kvs kvs' : List (Key × V)} (S : BStep (flw n rs) P P' (Rk kvs) (Rk kvs')) : BStep (flw n rs) P P' (Rn kvs) (Rn kvs') where
  a := fun q hq => by
    obtain ⟨p, hp, u, hu, e, hR⟩ := S.a q hq
    refine ⟨p, hp, u, hu, e, fun h => h.elim hR fun h => ?_⟩
    have := flw_mem hu
    omega
  b := S.b
  r := fun u => by
    unfold Rn
    rw [S.r u]
    constructor
    · rintro ((h | h) | h)
      · exact .inl (.inl h)
      · exact .inr h
      · exact .inl (.inr h)
    · rintro ((h | h) | h)
      · exact .inl (.inl h)
      · exact .inr h
      · exact .inl (.inr h)
  g := fun p hp u hu => by
    rcases S.g p hp u hu with h | h
    · exact .inl (.inl h)
    · exact .inr h
theorem filt_le {p q : Int → Bool} : ∀ {m : List Int}, (∀ u ∈ m, q u = true → p u = true) → (m.filter q).length ≤ (m.filter p).length
  | [], _ => Nat.le_refl _
  | b :: m, hm => by
    have i2 := filt_le (m := m) fun u hu => hm u (List.mem_cons_of_mem _ hu)
    have hb := hm b List.mem_cons_self
    rw [List.filter_cons, List.filter_cons]
    cases e1 : q b <;> cases e2 : p b
    · simpa using i2
    · simp
      omega
    · rw [hb e1] at e2
      cases e2
    · simpa using i2
theorem BInv.congr {fl : Int → List Int} {z : Int} {k : Nat} {P : List (List Int)} {Rb R R' : Int → Prop} (I : BInv fl z k P Rb R) (h : ∀ u, R' u ↔ R u) : BInv fl z k P Rb R' := ⟨I.a, I.b, I.c, I.d, I.e, fun v h1 h2 u hu hz => (h u).mpr (I.f v h1 h2 u hu hz), fun u => (h u).trans (I.r u), fun u hu => (h u).mpr (I.h u hu)⟩
theorem wk_bound {n : Nat} {rs : List (List Int)} {z : Int} (hz : 0 ≤ z ∧ z < n) {k : Nat} {p : List Int} {v : Int} (h : Wk (flw n rs) z k p v) : 0 ≤ v ∧ v < n := by
  cases h with
  | nil => exact hz
  | snoc _ hu _ => exact flw_mem hu
def spRFrom : Sp := fun vs H Q _ => ∃ (z : Nat) (lf : Addr) (fs : List Addr) (n : Nat) (rs : List (List Int)), vs = [.int z, .ref lf] ∧ z < n ∧ n ≤ 12 ∧ H lf = some (.lst (fs.map V.ref)) ∧ LL H fs (flM n rs) ∧
  (∀ H', RingAt (flw n rs) (z : Int) none → Same H H' → Q .non H') ∧ (∀ (g : Addr) (p : List Int) (H' : Hp), H g = none → H' g = some (.lst (p.map V.int)) → RingAt (flw n rs) (z : Int) (some p) → p.length ≤ n → Same H H' → Q (.ref g) H')
def spRing : Sp := fun vs H Q _ => ∃ (l : Addr) (as : List Addr) (rs : List (List Int)) (n : Nat), vs = [.ref l] ∧ OL H l as rs n ∧ 1 ≤ rs.length ∧ rs.length ≤ 20 ∧ n ≤ 9 ∧
  (∀ H', (∀ z : Nat, z < n → RingAt (flw n rs) (z : Int) none) → Same H H' → Q .non H') ∧ (∀ (g : Addr) (p : List Int) (z : Nat) (H' : Hp), H g = none → H' g = some (.lst (p.map V.int)) → z < n → RingAt (flw n rs) (z : Int) (some p) → p.length ≤ n → (∀ z' : Nat, z' < n → ∀ p', RingAt (flw n rs) (z' : Int) (some p') → p.length < p'.length ∨ (p.length = p'.length ∧ z ≤ z')) → (∀ z' : Nat, z' < n → RingAt (flw n rs) (z' : Int) none ∨ ∃ p', RingAt (flw n rs) (z' : Int) (some p')) → Same H H' → Q (.ref g) H')
theorem ring_not {fl : Int → List Int} {z : Int} {p : List Int} (h : RingAt fl z none) (h2 : RingAt fl z (some p)) : False := by
  obtain ⟨k, v, h1, h3, _⟩ := h2
  exact h k p v h1 h3
theorem unr_le {n : Nat} {kvs : List (Key × V)} {m : Nat} (h : ∀ u : Int, 0 ≤ u → u < m → Rk kvs u) (hm : m ≤ n) : unr n kvs + m ≤ n := by
  unfold unr
  have hs : ∀ j : Nat, m ≤ j → ((rg j).filter fun u => (valV kvs (Sum.inl u)).isNone).length + m ≤ j := fun j => by
    induction j with
    | zero => intro h0; have : m = 0 := by omega
              subst this; exact Nat.le_refl _
    | succ j ih =>
      intro hj
      rw [rg_succ, List.filter_append, List.length_append]
      by_cases c : m ≤ j
      · have i1 := ih c
        have i2 := List.length_filter_le (fun u => (valV kvs (Sum.inl u)).isNone) [(j : Int)]
        have e1 : [(j : Int)].length = 1 := rfl
        omega
      · have e : m = j + 1 := by omega
        have z1 : ∀ i : Nat, i ≤ m → (rg i).filter (fun u => (valV kvs (Sum.inl u)).isNone) = [] := fun i hi => by
          rw [List.filter_eq_nil_iff]
          intro u hu
          have hb := rg_mem.mp hu
          have := h u hb.1 (by omega)
          unfold Rk at this
          cases hv : valV kvs (Sum.inl u) with
          | none => rw [hv] at this; cases this
          | some y => simp
        have z2 : [(j : Int)].filter (fun u => (valV kvs (Sum.inl u)).isNone) = [] := by
          rw [List.filter_eq_nil_iff]
          intro u hu
          rw [List.mem_singleton.mp hu]
          have := h (j : Int) (by omega) (by omega)
          unfold Rk at this
          cases hv : valV kvs (Sum.inl (j : Int)) with
          | none => rw [hv] at this; cases this
          | some y => simp
        rw [z1 j (by omega), z2]
        show 0 + 0 + m ≤ j + 1
        omega
  exact hs n hm
section
variable {P : Program} {w : World} {K : PySem.W.Frag} {mg : Str → Option Value} {base : Heap}
theorem scRFrom : FnScope ["least", "followers", "reached", "paths", "path", "thing"] ["least", "followers"] (defScope s_ring_from) := ⟨rfl, rfl, rfl, by decide +kernel, rfl, by decide +kernel, by decide +kernel⟩
set_option maxHeartbeats 4000000 in
theorem ok_rfrom {f f1 : Addr} {fd d1 : FuncData} {k : Nat} (T : Df K mg "ring_from" s_ring_from ["least", "followers"] f fd) (T_longer_paths : Df K mg "longer_paths" s_longer_paths ["paths", "followers", "reached"] f1 d1) (G_longer_paths : FnOk P w K mg base CX0 k f1 d1 ["paths", "followers", "reached"] spLonger) (B : Bi mg) : FnOk P w K mg base CX0 (k + 1) f fd ["least", "followers"] spRFrom := by
  refine T.F.ok scRFrom (fun vs H Q E h => ?_) (fun cdv A outer s H vs Q E hr h => ?_)
  · obtain ⟨z, lf, fs, n, rs, rfl, _⟩ := h
    rfl
  · obtain ⟨z, lf, fs, n, rs, rfl, hz, hn, hlf, hLf, q0, q1⟩ := h
    have hfl := hLf.len
    rw [flM_len] at hfl
    refine ⟨_, 
      (pss_cons (ps_setDc (i := 2) (own := [("thing", 5)]) (g := (gName 5)) (tt := tYes) (tk := (tVar 5)) (tv := (tC (.bl true))) (by rfl) scRFrom.nd rfl rfl (by rfl) (pi_range1 (by rfl) B.range (pa_cons (pe_op op_add (pv 0) pe_int) pa_nil)) (blkOk_by (N := ["least", "followers", "reached", "paths", "path", "thing"]) (sc := defScope s_ring_from) (by decide +kernel)) (fun _ _ _ _ _ => (pg_name (i := 5) scRFrom.nd rfl (.inl rfl))) (fun _ _ _ _ _ => pts_nil) (fun _ _ _ _ _ => (pv 5)) (fun _ _ _ _ _ => pe_bl))
      (pss_cons (ps_set (i := 3) scRFrom.nd rfl (.inl rfl) (pe_lst (pa_cons (pe_lst (pa_cons (pv 0) pa_nil)) pa_nil)))
      (pss_cons (ps_while PassesOwn.never (pt_cmpR op_gt (pe_callB call_len_seq (by rfl) B.len PySem.boot_len (pa_cons (pv 3) pa_nil)) pe_int (nomark _))
        (pss_cons (ps_for PassesOwn.never rfl (pi_list (pv 3)) (pg_name (i := 4) scRFrom.nd rfl (.inl rfl))
          (pss_one (ps_if (pt_cmpR op_in_seq (pv 0) (pe_ix ix_list (pv 1) (pe_ix ix_list (pv 4) (pe_un un_neg pe_int) (fun _ _ => rfl)) (fun _ _ => rfl)) (by rfl))
            (pss_one (ps_ret (pv 4)))
            pss_nil)))
        (pss_one (ps_set (i := 3) scRFrom.nd rfl (.inl rfl) (pe_call G_longer_paths hr (by rfl) T_longer_paths.g T_longer_paths.F.kp T_longer_paths.b .nil pass0 (pa_cons (pv 3) (pa_cons (pv 1) (pa_cons (pv 2) pa_nil))))))))
      (pss_one (ps_ret pe_non))))), ?_⟩
    -- reached
    refine ⟨_, rfl, (z : Int), 1, rfl, rfl, _, rfl, by omega, by omega, fun rd nrd => ?_⟩
    rw [show ((z : Int) + 1).toNat = z + 1 by omega]
    refine dc_range (lo := 0) (n := z + 1) (fun i G => ∃ kvs : List (Key × V), G rd = some (.dK kvs) ∧ kvs.length ≤ i ∧ (∀ u, Rk kvs u ↔ (0 ≤ u ∧ u < i)) ∧ Same H G) ⟨[], upd_same, Nat.le_refl _, fun u => ⟨fun h => absurd h (by unfold Rk; rw [valV_nil]; decide), fun h => absurd h (by omega)⟩, same_new nrd⟩ (fun i G hi hP => ?_) (fun G hP => ?_)
    · obtain ⟨kvs, hk, hkl, hku, sG⟩ := hP
      refine ⟨rfl, _, rfl, kvs, Sum.inl (0 + (i : Int)), rfl, hk, line_lt (by omega), putK kvs (Sum.inl (0 + (i : Int))) (.bl true), upd_same, Nat.le_trans (length_putK _ _ _) (by omega), fun u => ?_, fun b o e => ?_⟩
      · rw [Rk_put, hku u]
        omega
      · rw [upd_ne (ne_of_none e nrd)]
        exact sG _ _ e
    obtain ⟨kvs, hk, hkl, hku, sG⟩ := hP
    -- paths
    refine ⟨_, rfl, line_small (by show 1 ≤ 16777216; decide), fun e1 ne1 => ⟨line_small (by show 1 ≤ 16777216; decide), fun lp nlp => ?_⟩⟩
    have s1 := (same_new (o := .lst [.int (z : Int)]) ne1).trans (same_new (o := .lst [.ref e1]) nlp)
    have he1 := same_new (o := .lst [.ref e1]) nlp e1 (.lst [.int (z : Int)]) upd_same
    have hlp : (upd (upd G e1 (.lst [.int (z : Int)])) lp (.lst [.ref e1])) lp = _ := upd_same
    generalize upd (upd G e1 (.lst [.int (z : Int)])) lp (.lst [.ref e1]) = G1 at s1 he1 hlp ⊢
    have s01 := sG.trans s1
    have nlfr : lf ≠ rd := fun e => by rw [e, nrd] at hlf; cases hlf
    have hne1 : H e1 = none := sG.free ne1
    have hu0 : unr n kvs + (z + 1) ≤ n := unr_le (fun u h0 h1 => (hku u).mpr ⟨h0, h1⟩) (by omega)
    refine ⟨fun mm σ G => ∃ (k : Nat) (PP : List (List Int)) (Rb : Int → Prop) (kv : List (Key × V)) (lp : Addr) (ps : List Addr) (y4 : Option V), (2 * unr n kv + PP.length.min 1) = mm ∧ σ = [some (.int (z : Int)), some (.ref lf), some (.ref rd), some (.ref lp), y4, none] ∧ BInv (flw n rs) (z : Int) k PP Rb (Rn kv) ∧ G lp = some (.lst (ps.map V.ref)) ∧ LL G ps PP ∧ (∀ a ∈ ps, H a = none) ∧ G rd = some (.dK kv) ∧ kv.length + unr n kv ≤ n ∧ (PP ≠ [] → unr n kv + k + 1 ≤ n) ∧ Same H G,
      ⟨_, 0, [[(z : Int)]], (fun u => u < (z : Int)), kvs, lp, [e1], none, rfl, rfl, ?_, hlp, ⟨he1, trivial⟩, fun a ha => by rw [List.mem_singleton.mp ha]; exact hne1, s1 _ _ hk, by omega, fun _ => by omega, s01⟩, fun mm σ G hW => ?_⟩
    · refine binv0.congr fun u => ?_
      unfold Rn
      rw [hku u]
      omega
    obtain ⟨k, PP, Rb, kv, lp, ps, y4, emm, rfl, I, hlp, hLp, hps, hrd, hku, hk1, sG⟩ := hW
    have hpl := hLp.len
    refine ⟨_, rfl, lp, _, rfl, .inl (SqL.of hlp), _, 0, rfl, rfl, _, rfl, ite2 (fun c => ?_) (fun c => ?_)⟩
    · have hne : PP ≠ [] := fun e => by
        have h0 : (0 : Int) < (((ps.map V.ref).length : Nat) : Int) := of_decide_eq_true c
        rw [List.length_map, hpl, e] at h0
        exact absurd h0 (by decide)
      refine ⟨_, fun σ' H' h => h, ?_⟩
      have hlfG := sG _ _ hlf
      refine ⟨_, rfl, lp, rfl, ⟨_, SqL.of hlp⟩, ?_⟩
      refine for_list (xs := ps.map V.ref) (fun i σ G' => ∃ y4 : Option V, σ = [some (.int (z : Int)), some (.ref lf), some (.ref rd), some (.ref lp), y4, none] ∧ (∀ p ∈ PP.take i, (z : Int) ∉ flw n rs (p.getLastD 0)) ∧ G' = G) ⟨_, rfl, fun p h => absurd h (by rw [List.take_zero]; exact List.not_mem_nil), rfl⟩ (fun i σ G' _ hW => by obtain ⟨_, _, _, rfl⟩ := hW; exact SqL.of hlp) (fun i x σ G' hx hW => ?_) (fun σ G' hW => ?_)
      · obtain ⟨y4, rfl, hno, rfl⟩ := hW
        obtain ⟨a, ea, rfl⟩ := ref_at_inv hx
        obtain ⟨p, ep, ha⟩ := hLp.get ea
        obtain ⟨v, hw, _⟩ := I.a p (List.mem_of_getElem? ep)
        have hvb := wk_bound (by omega) hw
        obtain ⟨vn, rfl⟩ : ∃ vn : Nat, v = (vn : Int) := ⟨v.toNat, by omega⟩
        obtain ⟨b, eb⟩ : ∃ b, fs[vn]? = some b := ⟨fs[vn]'(by omega), List.getElem?_eq_getElem (by omega)⟩
        obtain ⟨fr, efr, hb0⟩ := hLf.get eb
        rw [flM_at (show vn < n by omega)] at efr
        have efr2 := Option.some.inj efr
        subst efr2
        have hb := sG _ _ hb0
        have la := last_at hw.len
        rw [hw.last] at la
        refine ⟨_, rfl, _, rfl, _, rfl, 1, rfl, a, _, _, _, rfl, rfl, SqL.of ha, la, lf, _, _, _, rfl, rfl, SqL.of hlfG, at_of (j := vn) rfl (ref_at eb), b, _, rfl, .inl (SqL.of hb), rfl, flat_ints _, _, rfl, ?_⟩
        show if inV (.int (z : Int)) ((flw n rs (vn : Int)).map V.int) = true then _ else _
        rw [inV_int]
        by_cases cz : (z : Int) ∈ flw n rs (vn : Int)
        · rw [decide_eq_true cz, if_pos rfl]
          refine ⟨_, rfl, q1 a p G' (hps a (List.mem_of_getElem? ea)) ha ?_ (by rw [hw.len]; have := hk1 hne; omega) sG⟩
          obtain ⟨hi, e3⟩ := List.getElem?_eq_some_iff.mp ep
          refine binv_some I (P1 := PP.take i) (P2 := PP.drop (i + 1)) ?_ hno (by rw [hw.last]; exact cz)
          rw [← e3, ← List.drop_eq_getElem_cons hi, List.take_append_drop]
        · rw [decide_eq_false cz, if_neg (by decide)]
          refine ⟨_, rfl, fun p' hp' => ?_, rfl⟩
          rw [take_more' ep] at hp'
          rcases List.mem_append.mp hp' with h | h
          · exact hno p' h
          · rw [List.mem_singleton.mp h, hw.last]
            exact cz
      · obtain ⟨y4, rfl, hno, rfl⟩ := hW
        rw [List.length_map, hpl, List.take_length] at hno
        have hk1' := hk1 hne
        refine ⟨_, rfl, _, rfl, _, rfl, lp, lf, rd, ps, fs, PP, n, k, rs, kv, rfl, hn, hlp, hLp, hlfG, hLf.same sG, hrd, hku, by omega, fun p hp => ?_, I.b, fun l' as' P' kvs' H' nl' nas' nlr nda hl' hL' hrd' hku' hun hS kp => ?_⟩
        · obtain ⟨v, hw, _⟩ := I.a p hp
          have hvb := wk_bound (by omega) hw
          rw [hw.last]
          exact ⟨hw.len, hvb.1, hvb.2⟩
        · have hS2 := step_neg hS
          have I2 := binv_step I hno hS2
          refine ⟨2 * unr n kvs' + P'.length.min 1, ?_, k + 1, P', Rn kv, kvs', l', as', y4, rfl, rfl, I2, hl', hL', fun a ha => sG.free (nas' a ha), hrd', hku', fun hne' => ?_, fun b o e => kp b o (sG b o e) (ne_of_none e nrd)⟩
          · have hm1 : PP.length.min 1 = 1 := by
              have : 0 < PP.length := List.length_pos_iff.mpr hne
              show min PP.length 1 = 1
              omega
            rw [← emm, hm1]
            by_cases cP : P' = []
            · subst cP
              have hle : unr n kvs' ≤ unr n kv := by
                unfold unr
                refine filt_le fun u _ hu => ?_
                have hr := hS.r u
                cases hv : valV kv (Sum.inl u) with
                | none => rfl
                | some y =>
                  have h1 : Rk kv u := by unfold Rk; rw [hv]; rfl
                  have h2 := hr.mpr (.inl h1)
                  unfold Rk at h2
                  cases hv2 : valV kvs' (Sum.inl u) with
                  | none => rw [hv2] at h2; cases h2
                  | some y2 => rw [hv2] at hu; cases hu
              show 2 * unr n kvs' + 0 < _
              omega
            · have h1 := hun cP
              have h2 : P'.length.min 1 ≤ 1 := Nat.min_le_right _ _
              omega
          · have h1 := hun hne'
            omega
    · have hnil : PP = [] := by
        apply List.eq_nil_of_length_eq_zero
        have h0 : ¬ (0 : Int) < (((ps.map V.ref).length : Nat) : Int) := fun h => c (decide_eq_true h)
        rw [List.length_map, hpl] at h0
        omega
      subst hnil
      exact q0 G (binv_none I) sG
theorem scRing : FnScope ["poll", "n", "followers", "best", "least", "ring"] ["poll"] (defScope s_ring_of) := ⟨rfl, rfl, rfl, by decide +kernel, rfl, by decide +kernel, by decide +kernel⟩
set_option maxHeartbeats 4000000 in
theorem ok_ring {f f1 f2 f3 f4 : Addr} {fd d1 d2 d3 d4 : FuncData} {k : Nat} {t1 : Tok} (T : Df K mg "ring_of" s_ring_of ["poll"] f fd) (T_check_poll : Df K mg "check_poll" s_check_poll ["thing"] f1 d1) (T_check_few : Df K mg "check_few" s_check_few ["n", "most"] f2 d2) (T_mostly_behind : Df K mg "mostly_behind" s_mostly_behind ["poll"] f3 d3) (T_ring_from : Df K mg "ring_from" s_ring_from ["least", "followers"] f4 d4) (G_check_poll : FnOk P w K mg base CX0 k f1 d1 ["thing"] spCPoll) (G_check_few : FnOk P w K mg base CX0 k f2 d2 ["n", "most"] spFew) (G_mostly_behind : FnOk P w K mg base CX0 k f3 d3 ["poll"] spMBeh) (G_ring_from : FnOk P w K mg base CX0 k f4 d4 ["least", "followers"] spRFrom) (B : Bi mg) (mB : mg "MOST_BY_PAIRS" = some (.int 9 t1)) : FnOk P w K mg base CX0 (k + 1) f fd ["poll"] spRing := by
  refine T.F.ok scRing (fun vs H Q E h => ?_) (fun cdv A outer s H vs Q E hr h => ?_)
  · obtain ⟨l, as, rs, n, rfl, _⟩ := h
    rfl
  · obtain ⟨l, as, rs, n, rfl, hO, h1, h2, hn9, q0, q1⟩ := h
    have hal := hO.ll.len
    refine ⟨_, 
      (pss_cons (ps_expr (pe_call G_check_poll hr (by rfl) T_check_poll.g T_check_poll.F.kp T_check_poll.b .nil pass0 (pa_cons (pv 0) pa_nil)))
      (pss_cons (ps_set (i := 1) scRing.nd rfl (.inl rfl) (pe_callB call_len_seq (by rfl) B.len PySem.boot_len (pa_cons (pe_ix ix_list (pv 0) pe_int (fun _ _ => rfl)) pa_nil)))
      (pss_cons (ps_expr (pe_call G_check_few hr (by rfl) T_check_few.g T_check_few.F.kp T_check_few.b .nil pass0 (pa_cons (pv 1) (pa_cons (pe_glob (v := .int 9) (by rfl) mB ⟨_, rfl⟩) pa_nil))))
      (pss_cons (ps_set (i := 2) scRing.nd rfl (.inl rfl) (pe_call G_mostly_behind hr (by rfl) T_mostly_behind.g T_mostly_behind.F.kp T_mostly_behind.b .nil pass0 (pa_cons (pv 0) pa_nil)))
      (pss_cons (ps_set (i := 3) scRing.nd rfl (.inl rfl) pe_non)
      (pss_cons (ps_for PassesOwn.never rfl (pi_range1 (by rfl) B.range (pa_cons (pv 1) pa_nil)) (pg_name (i := 4) scRing.nd rfl (.inl rfl))
        (pss_cons (ps_set (i := 5) scRing.nd rfl (.inl rfl) (pe_call G_ring_from hr (by rfl) T_ring_from.g T_ring_from.F.kp T_ring_from.b .nil pass0 (pa_cons (pv 4) (pa_cons (pv 2) pa_nil))))
        (pss_one (ps_if (PW.pt (pw_and (pt_cmpR op_notN (pv 5) pe_non (nomark _)) (pw_and1 (PW.pt (pw_or (pt_cmpR op_isN (pv 3) pe_non (nomark _)) (pw_or1 (pt_cmpR op_lt (pe_callB call_len_seq (by rfl) B.len PySem.boot_len (pa_cons (pv 5) pa_nil)) (pe_callB call_len_seq (by rfl) B.len PySem.boot_len (pa_cons (pv 3) pa_nil)) (nomark _))))))))
          (pss_one (ps_set (i := 3) scRing.nd rfl (.inl rfl) (pv 5)))
          pss_nil))))
      (pss_one (ps_ret (pv 3))))))))), ?_⟩
    refine ⟨_, rfl, l, as, rs, n, rfl, hO, h1, h2, fun H1 s1 => ?_⟩
    have hO1 := hO.same s1
    obtain ⟨a0, ea0⟩ : ∃ a0, as[0]? = some a0 := ⟨as[0]'(by omega), List.getElem?_eq_getElem (by omega)⟩
    obtain ⟨r0, er0, ha0⟩ := hO1.ll.get ea0
    have lr0 : (r0.map V.int).length = n := by rw [List.length_map]; exact (hO.ord r0 (List.mem_of_getElem? er0)).len
    refine ⟨_, rfl, l, _, 0, _, rfl, rfl, SqL.of hO1.top, at_of (j := 0) rfl (ref_at ea0), a0, _, rfl, .inl (SqL.of ha0), ?_⟩
    rw [lr0]
    refine ⟨_, rfl, (n : Int), 9, rfl, by omega, ?_⟩
    refine ⟨_, rfl, l, as, rs, n, rfl, hO1, h1, by omega, fun lf fs H2 hlf hLf s2 => ?_⟩
    have s02 := s1.trans s2
    refine ⟨_, rfl, n, rfl, by omega, by omega, ?_⟩
    rw [Int.toNat_natCast]
    refine for_range (n := n) (fun i σ G => ∃ (y4 y5 : Option V) (v3 : V), σ = [some (.ref l), some (.int n), some (.ref lf), some v3, y4, y5] ∧ ((v3 = .non ∧ ∀ z : Nat, z < i → RingAt (flw n rs) (z : Int) none) ∨ ∃ (g : Addr) (p : List Int) (z : Nat), v3 = .ref g ∧ H g = none ∧ G g = some (.lst (p.map V.int)) ∧ z < i ∧ RingAt (flw n rs) (z : Int) (some p) ∧ p.length ≤ n ∧ (∀ z' : Nat, z' < i → ∀ p', RingAt (flw n rs) (z' : Int) (some p') → p.length < p'.length ∨ (p.length = p'.length ∧ z ≤ z')) ∧ ∀ z' : Nat, z' < i → RingAt (flw n rs) (z' : Int) none ∨ ∃ p', RingAt (flw n rs) (z' : Int) (some p')) ∧ Same H2 G)
      ⟨_, _, _, rfl, .inl ⟨rfl, fun z h => absurd h (Nat.not_lt_zero _)⟩, Same.refl _⟩ (fun i σ G hi hW => ?_) (fun σ G hW => ?_)
    · obtain ⟨y4, y5, v3, rfl, hst, sG⟩ := hW
      rw [show (0 : Int) + (i : Int) = (i : Int) by omega]
      have s0G := s02.trans sG
      refine ⟨_, rfl, _, rfl, i, lf, fs, n, rs, rfl, hi, by omega, sG _ _ hlf, hLf.same sG, fun G1 hR s3 => ?_, fun g p G1 ng hg hR hpl s3 => ?_⟩
      · -- no ring from here
        refine ⟨_, rfl, rfl, _, rfl, ite2 (fun c => absurd c (by decide)) (fun _ => ?_)⟩
        refine iteF ⟨_, _, _, rfl, ?_, sG.trans s3⟩
        rcases hst with ⟨e, hz⟩ | ⟨g, p, z, e, ng, hg, hz, hR2, hl, hm, hh⟩
        · refine .inl ⟨e, fun z h => ?_⟩
          by_cases c : z = i
          · rw [c]
            exact hR
          · exact hz z (by omega)
        · refine .inr ⟨g, p, z, e, ng, s3 _ _ hg, by omega, hR2, hl, fun z' h p' hp' => ?_, fun z' h => ?_⟩
          · by_cases c : z' = i
            · rw [c] at hp'
              exact (ring_not hR hp').elim
            · exact hm z' (by omega) p' hp'
          · by_cases c : z' = i
            · rw [c]
              exact .inl hR
            · exact hh z' (by omega)
      · -- a ring from here
        have ngH := s0G.free ng
        refine ⟨_, rfl, rfl, _, rfl, ite2 (fun _ => ?_) (fun c => absurd rfl c)⟩
        have hh2 : ∀ z' : Nat, z' < i + 1 → RingAt (flw n rs) (z' : Int) none ∨ ∃ p', RingAt (flw n rs) (z' : Int) (some p') := fun z' h => by
          by_cases c : z' = i
          · rw [c]
            exact .inr ⟨p, hR⟩
          · rcases hst with ⟨_, hz⟩ | ⟨_, _, _, _, _, _, _, _, _, _, hh⟩
            · exact .inl (hz z' (by omega))
            · exact hh z' (by omega)
        rcases hst with ⟨rfl, hz⟩ | ⟨g2, p2, z, rfl, ng2, hg2, hz, hR2, hl2, hm, _⟩
        · refine ⟨_, rfl, rfl, _, rfl, ite2 (fun _ => ?_) (fun c => absurd (decide_eq_true rfl) c)⟩
          refine ⟨_, rfl, _, _, _, rfl, .inr ⟨g, p, i, rfl, ngH, hg, by omega, hR, hpl, fun z' h p' hp' => ?_, hh2⟩, sG.trans s3⟩
          by_cases c : z' = i
          · rw [c] at hp'
            rw [hR.uniq (o := none) hp']
            exact .inr ⟨rfl, by omega⟩
          · exact (ring_not (hz z' (by omega)) hp').elim
        · refine ⟨_, rfl, rfl, _, rfl, ite2 (fun c => by cases of_decide_eq_true c) (fun _ => ?_)⟩
          refine ⟨_, rfl, g, _, rfl, .inl (SqL.of hg), _, rfl, g2, _, rfl, .inl (SqL.of (s3 _ _ hg2)), _, _, rfl, rfl, _, rfl, ite2 (fun c => ?_) (fun c => ?_)⟩
          · have hlt : p.length < p2.length := by
              have := of_decide_eq_true c
              rw [List.length_map, List.length_map] at this
              omega
            refine ⟨_, rfl, _, _, _, rfl, .inr ⟨g, p, i, rfl, ngH, hg, by omega, hR, hpl, fun z' h p' hp' => ?_, hh2⟩, sG.trans s3⟩
            by_cases cz : z' = i
            · rw [cz] at hp'
              rw [hR.uniq (o := none) hp']
              exact .inr ⟨rfl, by omega⟩
            · rcases hm z' (by omega) p' hp' with h | h
              · exact .inl (by omega)
              · exact .inl (by omega)
          · have hge : ¬ p.length < p2.length := fun h => c (decide_eq_true (by rw [List.length_map, List.length_map]; omega))
            refine ⟨_, _, _, rfl, .inr ⟨g2, p2, z, rfl, ng2, s3 _ _ hg2, by omega, hR2, hl2, fun z' h p' hp' => ?_, hh2⟩, sG.trans s3⟩
            by_cases cz : z' = i
            · rw [cz] at hp'
              rw [← hR.uniq (o := none) hp']
              by_cases ce : p2.length < p.length
              · exact .inl ce
              · exact .inr ⟨by omega, by omega⟩
            · exact hm z' (by omega) p' hp'
    · obtain ⟨y4, y5, v3, rfl, hst, sG⟩ := hW
      rcases hst with ⟨rfl, hz⟩ | ⟨g, p, z, rfl, ng, hg, hz, hR, hl, hm, hh⟩
      · exact ⟨_, rfl, q0 G hz (s02.trans sG)⟩
      · exact ⟨_, rfl, q1 g p z G ng hg hz hR hl hm hh (s02.trans sG)⟩
end
end Fo
namespace Fo
open PySem PySem.Spec PyProof.Rows L2
/-! pairs of things, told by a dict keyed by them -/
abbrev kk (i j : Int) : List Key := [Sum.inl i, Sum.inl j]
def tk (rs : List (List Int)) (ps : List (Int × Int)) : List (List Key × V) := ps.map fun p => (kk p.1 p.2, V.int (aN rs p.1 p.2))
def pre (f : Nat → List (Int × Int)) (i : Nat) : List (Int × Int) := (List.range i).flatMap f
theorem pre_succ (f : Nat → List (Int × Int)) (i : Nat) : pre f (i + 1) = pre f i ++ f i := by
  unfold pre
  rw [List.range_succ, List.flatMap_append, List.flatMap_cons, List.flatMap_nil, List.append_nil]
theorem pre_len {f : Nat → List (Int × Int)} {m : Nat} (h : ∀ u, (f u).length ≤ m) : ∀ i : Nat, (pre f i).length ≤ i * m
  | 0 => Nat.zero_le _
  | i + 1 => by
    have := pre_len h i
    have := h i
    rw [pre_succ, List.length_append, Nat.add_mul]
    omega
def upR (n i : Nat) : List (Int × Int) := (List.range (n - (i + 1))).map fun u => ((i : Int), ((i + 1 + u : Nat) : Int))
def alR (n i : Nat) : List (Int × Int) := (List.range n).map fun (j : Nat) => ((i : Int), (j : Int))
def prR (j : Nat) : List (Int × Int) := (List.range j).map fun (i : Nat) => ((i : Int), (j : Int))
def upP (n : Nat) : List (Int × Int) := pre (upR n) n
def alP (n : Nat) : List (Int × Int) := pre (alR n) n
def prP (n : Nat) : List (Int × Int) := pre prR n
theorem up_facts : ∀ n, n < 13 → (upP n).Nodup ∧ (alP n).filter (fun p => decide (p.1 < p.2)) = upP n ∧ (prP n).Perm (upP n) ∧ (upP n).length ≤ 144 ∧ (alP n).length ≤ 144 := by decide +kernel
theorem up_mem {n : Nat} {p : Int × Int} (h : p ∈ upP n) : 0 ≤ p.1 ∧ p.1 < p.2 ∧ p.2 < n := by
  unfold upP pre at h
  obtain ⟨i, hi, h⟩ := List.mem_flatMap.mp h
  obtain ⟨u, hu, rfl⟩ := List.mem_map.mp h
  have := List.mem_range.mp hi
  have := List.mem_range.mp hu
  show 0 ≤ (i : Int) ∧ (i : Int) < ((i + 1 + u : Nat) : Int) ∧ ((i + 1 + u : Nat) : Int) < n
  omega
theorem kk_inj {a b c d : Int} (h : kk a b = kk c d) : a = c ∧ b = d := ⟨Sum.inl.inj (List.head_eq_of_cons_eq h), Sum.inl.inj (List.head_eq_of_cons_eq (List.tail_eq_of_cons_eq h))⟩
theorem tk_none {rs : List (List Int)} {ps : List (Int × Int)} {p : Int × Int} (h : p ∉ ps) : valV (tk rs ps) (kk p.1 p.2) = none := by
  induction ps with
  | nil => rfl
  | cons q ps ih =>
    show valV ((kk q.1 q.2, V.int (aN rs q.1 q.2)) :: tk rs ps) _ = none
    rw [valV_neg (fun e => h (by obtain ⟨e1, e2⟩ := kk_inj e; rw [show p = q from Prod.ext e1.symm e2.symm]; exact List.mem_cons_self))]
    exact ih fun m => h (List.mem_cons_of_mem _ m)
theorem tk_get {rs : List (List Int)} {ps : List (Int × Int)} {p : Int × Int} (h : p ∈ ps) : valV (tk rs ps) (kk p.1 p.2) = some (.int (aN rs p.1 p.2)) := by
  induction ps with
  | nil => cases h
  | cons q ps ih =>
    show valV ((kk q.1 q.2, V.int (aN rs q.1 q.2)) :: tk rs ps) _ = _
    by_cases e : q = p
    · subst e
      rw [valV_pos rfl]
    · rw [valV_neg (fun z => e (by obtain ⟨e1, e2⟩ := kk_inj z; exact Prod.ext e1 e2))]
      rcases List.mem_cons.mp h with z | z
      · exact absurd z.symm e
      · exact ih z
theorem tk_put {rs : List (List Int)} {ps : List (Int × Int)} {p : Int × Int} (h : p ∉ ps) : putK (tk rs ps) (kk p.1 p.2) (.int (aN rs p.1 p.2)) = tk rs (ps ++ [p]) := by
  rw [putK_new _ (tk_none h)]
  unfold tk
  rw [List.map_append]
  rfl
theorem tk_merge {rs : List (List Int)} : ∀ (ps qs : List (Int × Int)), (qs ++ ps).Nodup → mergeT (tk rs qs) (tk rs ps) = tk rs (qs ++ ps)
  | [], qs, _ => by rw [List.append_nil]; rfl
  | p :: ps, qs, h => by
    have hp : p ∉ qs := fun m => (List.nodup_append.mp h).2.2 p m p List.mem_cons_self rfl
    show mergeT (putK (tk rs qs) (kk p.1 p.2) (.int (aN rs p.1 p.2))) (tk rs ps) = _
    have e : qs ++ p :: ps = (qs ++ [p]) ++ ps := by rw [List.append_assoc]; rfl
    rw [tk_put hp, e]
    exact tk_merge ps _ (by rw [← e]; exact h)
theorem tk_at {rs : List (List Int)} {ps : List (Int × Int)} {i : Nat} {k : List Key} {v : V} (h : (tk rs ps)[i]? = some (k, v)) : ∃ p, ps[i]? = some p ∧ k = kk p.1 p.2 ∧ v = .int (aN rs p.1 p.2) := by
  unfold tk at h
  rw [List.getElem?_map] at h
  obtain ⟨p, hp, e⟩ := Option.map_eq_some_iff.mp h
  cases e
  exact ⟨p, hp, rfl, rfl⟩
theorem tk_len {rs : List (List Int)} {ps : List (Int × Int)} : (tk rs ps).length = ps.length := List.length_map _
theorem pre_fresh {n i j : Nat} (lo : Nat) (f : Nat → List (Int × Int)) (hf : ∀ u, ∀ p ∈ f u, p.1 = (u : Int)) (g : Nat → Int) (hg : ∀ u, g u = ((lo + u : Nat) : Int)) :
    ((i : Int), g j) ∉ pre f i ++ (List.range j).map fun u => ((i : Int), g u) := by
  intro m
  rcases List.mem_append.mp m with m | m
  · obtain ⟨u, hu, m⟩ := List.mem_flatMap.mp m
    have := hf u _ m
    have := List.mem_range.mp hu
    have : (i : Int) = (u : Int) := by assumption
    omega
  · obtain ⟨u, hu, e⟩ := List.mem_map.mp m
    have := List.mem_range.mp hu
    have e2 : g u = g j := (Prod.mk.inj e).2
    rw [hg, hg] at e2
    omega
theorem aN_flip {n : Nat} {rs : List (List Int)} (ho : ∀ r ∈ rs, IsOrd n r) {i j : Int} (hi : 0 ≤ i) (hi2 : i < n) (hj : 0 ≤ j) (hj2 : j < n) (ne : i ≠ j) : aN rs j i = (rs.length : Int) - aN rs i j := by
  unfold aN
  induction rs with
  | nil => rfl
  | cons r rs ih =>
    have ih := ih fun r m => ho r (List.mem_cons_of_mem _ m)
    have orr := ho r List.mem_cons_self
    have hne : pos r i ≠ pos r j := fun e => ne (pos_inj orr (rg_mem.mpr ⟨hi, hi2⟩) (rg_mem.mpr ⟨hj, hj2⟩) e)
    rw [List.filter_cons, List.filter_cons, List.length_cons]
    by_cases c : pos r i < pos r j
    · rw [decide_eq_true c, decide_eq_false (show ¬ pos r j < pos r i by omega)]
      simp only [if_true, List.length_cons, Bool.false_eq_true, if_false]
      omega
    · rw [decide_eq_false c, decide_eq_true (show pos r j < pos r i by omega)]
      simp only [if_true, List.length_cons, Bool.false_eq_true, if_false]
      omega
theorem aN_bd (rs : List (List Int)) (i j : Int) : 0 ≤ aN rs i j ∧ aN rs i j ≤ rs.length := by
  unfold aN
  have := List.length_filter_le (fun r => decide (pos r i < pos r j)) rs
  omega
def mn (a b : Int) : Int := if b < a then b else a
/-- the sum over all pairs of the rarer way round -/
def psum (n : Nat) (rs : List (List Int)) : Int := ((prP n).map fun p => mn (aN rs p.1 p.2) (aN rs p.2 p.1)).sum
theorem sumPm66 {l m : List Int} (h : l.Perm m) : l.sum = m.sum := by
  induction h with
  | nil => rfl
  | cons x _ ih => rw [List.sum_cons, List.sum_cons, ih]
  | swap x y l => rw [List.sum_cons, List.sum_cons, List.sum_cons, List.sum_cons]; omega
  | trans _ _ h1 h2 => rw [h1, h2]
theorem psum_up {n : Nat} {rs : List (List Int)} (hn : n ≤ 12) (ho : ∀ r ∈ rs, IsOrd n r) : ((upP n).map fun p => mn (aN rs p.1 p.2) ((rs.length : Int) - aN rs p.1 p.2)).sum = psum n rs := by
  unfold psum
  have hp := (up_facts n (by omega)).2.2.1
  rw [← sumPm66 ((hp.symm).map fun p => mn (aN rs p.1 p.2) (aN rs p.2 p.1))]
  congr 1
  refine List.map_congr_left fun p m => ?_
  obtain ⟨h1, h2, h3⟩ := up_mem m
  rw [aN_flip ho h1 (by omega) (by omega) h3 (by omega)]
theorem aM_row {n : Nat} {rs : List (List Int)} {i : Nat} (h : i < n) : (aM n rs)[i]? = some ((rg n).map fun j => aN rs (i : Int) j) := by
  unfold aM
  rw [List.getElem?_map, rg_at h]
  rfl
theorem aM_cell {n : Nat} {rs : List (List Int)} {i j : Nat} (h : j < n) : (((rg n).map fun j => aN rs (i : Int) j).map V.int)[j]? = some (.int (aN rs (i : Int) (j : Int))) := by
  rw [List.getElem?_map, List.getElem?_map, rg_at h]
  rfl
/-- ahead[i][j] on the heap -/
theorem cell_at {H : Hp} {la : Addr} {as : List Addr} {n : Nat} {rs : List (List Int)} (h : H la = some (.lst (as.map V.ref))) (hL : LL H as (aM n rs)) {i j : Nat} (hi : i < n) (hj : j < n) :
    ∃ a, (as.map V.ref)[i]? = some (.ref a) ∧ H a = some (.lst (((rg n).map fun j => aN rs (i : Int) j).map V.int)) := by
  have hl := hL.len
  have ml : (aM n rs).length = n := by unfold aM; rw [List.length_map, rg_len]
  obtain ⟨a, ea⟩ : ∃ a, as[i]? = some a := ⟨_, List.getElem?_eq_getElem (by omega)⟩
  obtain ⟨r, er, ha⟩ := hL.get ea
  rw [aM_row hi] at er
  cases er
  exact ⟨a, ref_at ea, ha⟩
/-- a comprehension's first clause over a range -/
theorem lc2_rng {lo : Int} {n : Nat} {g : TG} {tt : TT} {wi1 : TI} {g1 : TG} {tt1 : TT} {te : TE} {vs vs1 : List Nat} {σ : L2.St} {H1 : Hp} {D : Addr} {Qd : Hp → Prop} (Pv : Nat → Hp → Prop) (h0 : Pv 0 (upd H1 D (.lst [])))
    (hs : ∀ i H, i < n → Pv i H → g (.int (lo + i)) (wipe σ vs) H fun σ2 H2 => wipe σ2 vs = wipe σ vs ∧ tt σ2 H2 fun b H3 =>
      if b = true then wi1 σ2 H3 fun J1 H4 => ∃ W1 : Nat → Nat → Hp → Prop, (∃ m, W1 0 m H4) ∧ ∀ j k H, W1 j k H →
        (J1.stop j H ∧ Pv (i + 1) H) ∨ (J1.go j H ∧ ∃ Nx1 : Hp → Prop, (∀ H', Nx1 H' → ∃ k', k' < k ∧ W1 (j + 1) k' H') ∧ ∀ x H', J1.yld j H x H' → g1 x (wipe σ2 vs1) H' fun σ3 H5 => wipe σ3 vs1 = wipe σ2 vs1 ∧ tt1 σ3 H5 fun b H6 =>
          if b = true then te σ3 H6 fun y H7 => ∃ acc, H7 D = some (.lst acc) ∧ acc.length < sizeLine ∧ Nx1 (upd H7 D (.lst (acc ++ [y]))) else Nx1 H6)
      else Pv (i + 1) H3) (hd : ∀ H, Pv n H → Qd H) :
    ∃ W : Nat → Nat → Hp → Prop, (∃ m, W 0 m (upd H1 D (.lst []))) ∧ ∀ i m H, W i m H →
      ((Itr lo n).stop i H ∧ Qd H) ∨ ((Itr lo n).go i H ∧ ∃ Nx : Hp → Prop, (∀ H', Nx H' → ∃ m', m' < m ∧ W (i + 1) m' H') ∧ ∀ x H', (Itr lo n).yld i H x H' → g x (wipe σ vs) H' fun σ2 H2 => wipe σ2 vs = wipe σ vs ∧ tt σ2 H2 fun b H3 =>
        if b = true then wi1 σ2 H3 fun J1 H4 => ∃ W1 : Nat → Nat → Hp → Prop, (∃ m, W1 0 m H4) ∧ ∀ j k H, W1 j k H →
          (J1.stop j H ∧ Nx H) ∨ (J1.go j H ∧ ∃ Nx1 : Hp → Prop, (∀ H', Nx1 H' → ∃ k', k' < k ∧ W1 (j + 1) k' H') ∧ ∀ x H', J1.yld j H x H' → g1 x (wipe σ2 vs1) H' fun σ3 H5 => wipe σ3 vs1 = wipe σ2 vs1 ∧ tt1 σ3 H5 fun b H6 =>
            if b = true then te σ3 H6 fun y H7 => ∃ acc, H7 D = some (.lst acc) ∧ acc.length < sizeLine ∧ Nx1 (upd H7 D (.lst (acc ++ [y]))) else Nx1 H6)
        else Nx H3) := by
  refine ⟨fun i m H => m = n - i ∧ i ≤ n ∧ Pv i H, ⟨n, by simp, Nat.zero_le _, h0⟩, ?_⟩
  rintro i m H ⟨rfl, hi, p⟩
  by_cases hlt : i < n
  · refine .inr ⟨hlt, Pv (i + 1), fun H' p' => ⟨n - (i + 1), by omega, rfl, hlt, p'⟩, fun x H' y => ?_⟩
    obtain ⟨rfl, rfl⟩ := y
    exact hs i _ hlt p
  · have e : i = n := by omega
    subst e
    exact .inl ⟨Nat.le_refl _, hd H p⟩
def spPairs : Sp := fun vs H Q _ => ∃ (l : Addr) (as : List Addr) (rs : List (List Int)) (n : Nat), vs = [.ref l] ∧ OL H l as rs n ∧ 1 ≤ rs.length ∧ rs.length ≤ 20 ∧ ∀ (d : Addr) (H' : Hp), H d = none → H' d = some (.dT (tk rs (upP n))) → Same H H' → Q (.ref d) H'
def spPSum : Sp := fun vs H Q _ => ∃ (l : Addr) (as : List Addr) (rs : List (List Int)) (n : Nat), vs = [.ref l] ∧ OL H l as rs n ∧ 1 ≤ rs.length ∧ rs.length ≤ 20 ∧ ∀ (H' : Hp), Same H H' → Q (.int (psum n rs)) H'
section
variable {P : Program} {w : World} {K : PySem.W.Frag} {mg : Str → Option Value} {base : Heap}
theorem scPah : FnScope ["poll", "ahead", "i", "j"] ["poll"] (defScope s_pairs_ahead) := ⟨rfl, rfl, rfl, by decide +kernel, rfl, by decide +kernel, by decide +kernel⟩
set_option maxHeartbeats 4000000 in
theorem ok_pairs {f f1 f2 : Addr} {fd d1 d2 : FuncData} {k : Nat} (T : Df K mg "pairs_ahead" s_pairs_ahead ["poll"] f fd) (T_check_poll : Df K mg "check_poll" s_check_poll ["thing"] f1 d1) (T_counts_ahead : Df K mg "counts_ahead" s_counts_ahead ["poll"] f2 d2) (G_check_poll : FnOk P w K mg base CX0 k f1 d1 ["thing"] spCPoll) (G_counts_ahead : FnOk P w K mg base CX0 k f2 d2 ["poll"] spAhead) (B : Bi mg) : FnOk P w K mg base CX0 (k + 1) f fd ["poll"] spPairs := by
  refine T.F.ok scPah (fun vs H Q E h => ?_) (fun cdv A outer s H vs Q E hr h => ?_)
  · obtain ⟨l, as, rs, n, rfl, _⟩ := h
    rfl
  · obtain ⟨l, as, rs, n, rfl, hO, h1, h2, q⟩ := h
    have hn2 := hO.n2
    refine ⟨_, 
      (pss_cons (ps_expr (pe_call G_check_poll hr (by rfl) T_check_poll.g T_check_poll.F.kp T_check_poll.b .nil pass0 (pa_cons (pv 0) pa_nil)))
      (pss_cons (ps_set (i := 1) scPah.nd rfl (.inr rfl) (pe_call G_counts_ahead hr (by rfl) T_counts_ahead.g T_counts_ahead.F.kp T_counts_ahead.b .nil pass0 (pa_cons (pv 0) pa_nil)))
      (pss_one (ps_ret (pe_dc2 hr.units0 rfl scPah.nd (own := [("i", 2), ("j", 3)]) (vj := [3]) (wj := (iRng2 (tCons (tOp (rI0 fun i j => .int (i + j)) (tVar 2) (tC (.int 1))) (tCons (tCB (rLenS K) (tCons (tVar 1) tNil)) tNil)))) (g := (gName 2)) (tt := tYes) (gj := (gName 3)) (tj := tYes) (tk := (tTup (tCons (tVar 2) (tCons (tVar 3) tNil)))) (tv := (tOp (rIxL K) (tOp (rIxL K) (tVar 1) (tVar 2)) (tVar 3))) (pi_range1 (by rfl) B.range (pa_cons (pe_callB call_len_seq (by rfl) B.len PySem.boot_len (pa_cons (pv 1) pa_nil)) pa_nil)) (blkOk_by (N := ["poll", "ahead", "i", "j"]) (sc := defScope s_pairs_ahead) (by decide +kernel)) (by decide) (fun _ _ _ _ _ => (pg_name (i := 2) scPah.nd rfl (.inl rfl))) (fun _ _ _ _ _ => pts_nil) (fun _ _ _ _ _ => (pi_range2 (by rfl) B.range (pa_cons (pe_op op_add (pv 2) pe_int) (pa_cons (pe_callB call_len_seq (by rfl) B.len PySem.boot_len (pa_cons (pv 1) pa_nil)) pa_nil)))) (fun _ _ _ _ _ => (pg_name (i := 3) scPah.nd rfl (.inl rfl))) (fun _ _ _ _ _ => pts_nil) (fun _ _ _ _ _ => (pe_tup (pa_cons (pv 2) (pa_cons (pv 3) pa_nil)))) (fun _ _ _ _ _ => (pe_ix ix_list (pe_ix ix_list (pv 1) (pv 2) (fun _ _ => rfl)) (pv 3) (fun _ _ => rfl)))))))), ?_⟩
    refine ⟨_, rfl, l, as, rs, n, rfl, hO, h1, h2, fun H1 s1 => ?_⟩
    refine ⟨_, rfl, l, as, rs, n, rfl, hO.same s1, h1, by omega, fun la bs H2 nla hla hL s2 => ?_⟩
    have s12 := s1.trans s2
    have hbl : bs.length = n := by rw [hL.len]; unfold aM; rw [List.length_map, rg_len]
    have hbm : (bs.map V.ref).length = n := by rw [List.length_map, hbl]
    refine ⟨_, rfl, la, _, rfl, .inl (SqL.of hla), n, by rw [hbm], by omega, by omega, fun D nD => ?_⟩
    have nlaD : la ≠ D := ne_of_none hla nD
    refine dc2_outer (lo := 0) (fun i G => G D = some (.dT (tk rs (pre (upR n) i))) ∧ Same H2 G) ⟨upd_same, same_new nD⟩ (fun i G hi hP => ?_) (fun G hP => q D G (s12.free nD) hP.1 (s12.trans hP.2))
    obtain ⟨hD, sG⟩ := hP
    rw [show (0 : Int) + (i : Int) = (i : Int) by omega]
    have ei : ((n : Int) - ((i : Int) + 1)).toNat = n - (i + 1) := by omega
    refine ⟨rfl, _, rfl, _, _, rfl, rfl, _, rfl, la, _, rfl, .inl (SqL.of (sG _ _ hla)), (i : Int) + 1, n, by rw [hbm], ⟨by omega, by omega, by omega, by omega⟩, ?_⟩
    rw [ei]
    refine dc2_inner (lo := (i : Int) + 1) (fun j G => G D = some (.dT (tk rs (pre (upR n) i ++ (List.range j).map fun (u : Nat) => ((i : Int), ((i + 1 + u : Nat) : Int))))) ∧ Same H2 G) ⟨by rw [List.range_zero, List.map_nil, List.append_nil]; exact hD, sG⟩ (fun j G hj hP => ?_) (fun G hP => by rw [pre_succ]; exact hP)
    obtain ⟨hD, sG⟩ := hP
    obtain ⟨a, ea, ha⟩ := cell_at (sG _ _ hla) (hL.same sG) (i := i) (j := i + 1 + j) hi (by omega)
    have ex : (i : Int) + 1 + (j : Int) = ((i + 1 + j : Nat) : Int) := by omega
    rw [ex]
    refine ⟨rfl, _, rfl, _, rfl, line_small (by show 2 ≤ 16777216; decide), fun t nt => ?_⟩
    have st := same_new (o := .tup [.int (i : Int), .int ((i + 1 + j : Nat) : Int)]) nt
    refine ⟨_, rfl, _, rfl, la, _, _, _, rfl, rfl, SqL.of (st _ _ (sG _ _ hla)), at_of (j := i) rfl ea, _, rfl, a, _, _, _, rfl, rfl, SqL.of (st _ _ ha), at_of (j := i + 1 + j) rfl (aM_cell (by omega)), ?_⟩
    have nDt : D ≠ t := ne_of_none hD nt
    have fr := pre_fresh (n := n) (i := i) (j := j) (i + 1) (upR n) (fun u p m => by obtain ⟨v, _, rfl⟩ := List.mem_map.mp m; rfl) (fun u => ((i + 1 + u : Nat) : Int)) (fun u => rfl)
    refine ⟨_, kk (i : Int) ((i + 1 + j : Nat) : Int), t, rfl, upd_same, st _ _ hD, line_lt ?_, ?_, fun b o e => ?_⟩
    · rw [tk_len, List.length_append, List.length_map, List.length_range]
      have := (up_facts n (by omega)).2.2.2.1
      have e2 : (upP n).length = (pre (upR n) n).length := rfl
      have hp := pre_len (f := upR n) (m := n) (fun u => by unfold upR; rw [List.length_map, List.length_range]; omega) i
      have : i * n ≤ 12 * 12 := Nat.mul_le_mul (by omega) hn2
      omega
    · rw [upd_same, tk_put fr, List.range_succ, List.map_append, List.append_assoc]
      rfl
    · rw [upd_ne (ne_of_none e nD)]
      exact st _ _ (sG _ _ e)
theorem scPsm : FnScope ["poll", "ahead", "j", "i"] ["poll"] (defScope s_pair_sum) := ⟨rfl, rfl, rfl, by decide +kernel, rfl, by decide +kernel, by decide +kernel⟩
set_option maxHeartbeats 4000000 in
theorem ok_psum {f f1 f2 : Addr} {fd d1 d2 : FuncData} {k : Nat} (T : Df K mg "pair_sum" s_pair_sum ["poll"] f fd) (T_check_poll : Df K mg "check_poll" s_check_poll ["thing"] f1 d1) (T_counts_ahead : Df K mg "counts_ahead" s_counts_ahead ["poll"] f2 d2) (G_check_poll : FnOk P w K mg base CX0 k f1 d1 ["thing"] spCPoll) (G_counts_ahead : FnOk P w K mg base CX0 k f2 d2 ["poll"] spAhead) (B : Bi mg) : FnOk P w K mg base CX0 (k + 1) f fd ["poll"] spPSum := by
  refine T.F.ok scPsm (fun vs H Q E h => ?_) (fun cdv A outer s H vs Q E hr h => ?_)
  · obtain ⟨l, as, rs, n, rfl, _⟩ := h
    rfl
  · obtain ⟨l, as, rs, n, rfl, hO, h1, h2, q⟩ := h
    have hn2 := hO.n2
    refine ⟨_, 
      (pss_cons (ps_expr (pe_call G_check_poll hr (by rfl) T_check_poll.g T_check_poll.F.kp T_check_poll.b .nil pass0 (pa_cons (pv 0) pa_nil)))
      (pss_cons (ps_set (i := 1) scPsm.nd rfl (.inr rfl) (pe_call G_counts_ahead hr (by rfl) T_counts_ahead.g T_counts_ahead.F.kp T_counts_ahead.b .nil pass0 (pa_cons (pv 0) pa_nil)))
      (pss_one (ps_ret (pe_callB (cr_sum rfl) (by rfl) B.sum (by decide +kernel) (pa_cons (pe_lc2 (own := [("j", 2), ("i", 3)]) (vs1 := [3]) (g := (gName 2)) (tt := tYes) (g1 := (gName 3)) (tt1 := tYes) (te := (tCB rMin2 (tCons (tOp (rIxL K) (tOp (rIxL K) (tVar 1) (tVar 3)) (tVar 2)) (tCons (tOp (rIxL K) (tOp (rIxL K) (tVar 1) (tVar 2)) (tVar 3)) tNil)))) rfl scPsm.nd (pi_range1 (by rfl) B.range (pa_cons (pe_callB call_len_seq (by rfl) B.len PySem.boot_len (pa_cons (pv 1) pa_nil)) pa_nil)) (blkOk_by (N := ["poll", "ahead", "j", "i"]) (sc := defScope s_pair_sum) (by decide +kernel)) (by decide) (fun _ _ _ _ _ => (pg_name (i := 2) scPsm.nd rfl (.inl rfl))) (fun _ _ _ _ _ => pts_nil) (fun _ _ _ _ _ => (pi_range1 (by rfl) B.range (pa_cons (pv 2) pa_nil))) (fun _ _ _ _ _ => (pg_name (i := 3) scPsm.nd rfl (.inl rfl))) (fun _ _ _ _ _ => pts_nil) (fun _ _ _ _ _ => (pe_callB (call_min2 rfl) (by rfl) B.min (by decide +kernel) (pa_cons (pe_ix ix_list (pe_ix ix_list (pv 1) (pv 3) (fun _ _ => rfl)) (pv 2) (fun _ _ => rfl)) (pa_cons (pe_ix ix_list (pe_ix ix_list (pv 1) (pv 2) (fun _ _ => rfl)) (pv 3) (fun _ _ => rfl)) pa_nil))))) pa_nil)))))), ?_⟩
    refine ⟨_, rfl, l, as, rs, n, rfl, hO, h1, h2, fun H1 s1 => ?_⟩
    refine ⟨_, rfl, l, as, rs, n, rfl, hO.same s1, h1, by omega, fun la bs H2 nla hla hL s2 => ?_⟩
    have s12 := s1.trans s2
    have hbl : bs.length = n := by rw [hL.len]; unfold aM; rw [List.length_map, rg_len]
    have hbm : (bs.map V.ref).length = n := by rw [List.length_map, hbl]
    let F : Int × Int → Int := fun p => mn (aN rs p.1 p.2) (aN rs p.2 p.1)
    refine ⟨_, rfl, la, _, rfl, .inl (SqL.of hla), n, by rw [hbm], by omega, by omega, fun D nD => ?_⟩
    refine lc2_rng (lo := 0) (fun i G => G D = some (.lst (((pre prR i).map F).map V.int)) ∧ Same H2 G) ⟨upd_same, same_new nD⟩ (fun j G hj hP => ?_) (fun G hP => ⟨D, _, rfl, SqL.of hP.1, q _ (s12.trans hP.2)⟩)
    obtain ⟨hD, sG⟩ := hP
    rw [show (0 : Int) + (j : Int) = (j : Int) by omega]
    refine ⟨rfl, _, rfl, j, rfl, by omega, by omega, ?_⟩
    rw [Int.toNat_natCast]
    refine in_range (fun i G => G D = some (.lst (((pre prR j ++ (List.range i).map fun (u : Nat) => ((u : Int), (j : Int))).map F).map V.int)) ∧ Same H2 G) ⟨by rw [List.range_zero, List.map_nil, List.append_nil]; exact hD, sG⟩ (fun i G hi hP => ?_) (fun G hP => by rw [pre_succ]; exact hP)
    obtain ⟨hD, sG⟩ := hP
    rw [show (0 : Int) + (i : Int) = (i : Int) by omega]
    obtain ⟨a, ea, ha⟩ := cell_at (sG _ _ hla) (hL.same sG) (i := i) (j := j) (by omega) (by omega)
    obtain ⟨b, eb, hb⟩ := cell_at (sG _ _ hla) (hL.same sG) (i := j) (j := i) (by omega) (by omega)
    refine ⟨rfl, _, rfl, _, rfl, la, _, _, _, rfl, rfl, SqL.of (sG _ _ hla), at_of (j := i) rfl ea, _, rfl, a, _, _, _, rfl, rfl, SqL.of ha, at_of (j := j) rfl (aM_cell (by omega)), ?_⟩
    refine ⟨_, rfl, _, rfl, la, _, _, _, rfl, rfl, SqL.of (sG _ _ hla), at_of (j := j) rfl eb, _, rfl, b, _, _, _, rfl, rfl, SqL.of hb, at_of (j := i) rfl (aM_cell (by omega)), ?_⟩
    refine ⟨_, _, rfl, _, hD, line_lt ?_, ?_, fun b o e => ?_⟩
    · rw [List.length_map, List.length_map, List.length_append, List.length_map, List.length_range]
      have := pre_len (f := prR) (m := n)
      have hp : ∀ j : Nat, j ≤ n → (pre prR j).length ≤ j * n := fun j hj => by
        induction j with
        | zero => exact Nat.zero_le _
        | succ j ih =>
          rw [pre_succ, List.length_append, Nat.add_mul]
          have := ih (by omega)
          have : (prR j).length = j := by unfold prR; rw [List.length_map, List.length_range]
          omega
      have := hp j (by omega)
      have : j * n ≤ 12 * 12 := Nat.mul_le_mul (by omega) hn2
      omega
    · rw [upd_same, List.range_succ]
      simp only [List.map_append, List.append_assoc]
      rfl
    · rw [upd_ne (ne_of_none e nD)]
      exact sG _ _ e
end
end Fo
namespace Fo
open PySem PySem.Spec PyProof.Rows L2
noncomputable def srcN (d : Addr) : Src where
  At := fun H => DqAt H d
  Kp := KeepD d
  cut := cut1 d
  refl := fun _ _ _ e _ => e
  trans := KeepD.trans
  kp := fun k b o e => by
    obtain ⟨e1, e2⟩ := cut1_of e
    rw [cut1_ne e2]
    exact k b o e1 e2
  le := fun _ _ _ e => (cut1_of e).1
  same := fun h s => ⟨h.same s, KeepD.of_same s⟩
  put := fun {H H1 p} o h k h1 np => by
    have n1 := h.ne np
    refine ⟨h1.upd n1, fun b x e f => ?_, by rw [cut1_ne n1]; exact upd_same, fun b hb => ?_⟩
    · rw [upd_ne (ne_of_none e np)]
      exact k b x e f
    · unfold cut1
      split
      · rfl
      · exact upd_ne hb
theorem oe_next {d : Addr} {σ : L2.St} {H : Hp} {i : Nat} (e : σ[i]? = some (some (.ref d))) : OE (srcN d) (tCall spNext [] E0 (tCons (tVar i) tNil)) σ H 110 0 (oI fun z => 0 ≤ z ∧ z < 2147483648) := fun H1 Q e1 at1 q =>
  ⟨_, e, d, rfl, at1, fun z H3 z0 z1 at3 k3 => q _ _ k3 at3 ⟨.int z, .int z, rw_int (by omega) (by omega), z, rfl, z0, z1⟩⟩
theorem oe_mod72 {S : Src} {σ : L2.St} {H : Hp} {t u : TE} {a b a' b' n : Nat} {A : Int → Prop} (h : OE S t σ H a b (oI A)) (g : OE S u σ H a' b' (oI fun i => i = (n : Int))) (hn : 0 < n ∧ n ≤ 1000) : OE S (tOp (rI (fun _ j => 0 < j) fun i j => .int (i % j)) t u) σ H 110 0 (oI fun z => 0 ≤ z ∧ z < (n : Int)) := fun H1 Q e1 at1 q =>
  h H1 _ e1 at1 fun v H2 e2 at2 o => g H2 _ (S.trans e1 e2) at2 fun y H3 e3 at3 o' => by
    obtain ⟨i, rfl, hi⟩ := od_int o
    obtain ⟨j, rfl, rfl⟩ := od_int o'
    have h0 := Int.emod_nonneg i (show (n : Int) ≠ 0 by omega)
    have h1 := Int.emod_lt_of_pos i (show (0 : Int) < (n : Int) by omega)
    exact ⟨i, (n : Int), rfl, rfl, by omega, q _ H3 (S.trans e2 e3) at3 ⟨.int _, .int _, rw_int (by omega) (by omega), _, rfl, h0, h1⟩⟩
theorem oe_modC {S : Src} {σ : L2.St} {H : Hp} {t : TE} {a b : Nat} {A : Int → Prop} (n : Nat) (h : OE S t σ H a b (oI A)) (hn : 0 < n ∧ n ≤ 1000) : OE S (tOp (rI (fun _ j => 0 < j) fun i j => .int (i % j)) t (tC (.int (n : Int)))) σ H 110 0 (oI fun z => 0 ≤ z ∧ z < (n : Int)) :=
  oe_mod72 h (oe_intI ⟨by omega, by omega⟩) hn
def BadE7 (n : Nat) (x : PyData) : Prop := ∀ i, x = .int i → ¬ (0 ≤ i ∧ i < (n : Int))
def FlO (x : PyData) : Prop := (flatD x = true ∧ ∀ z, x = .str z → PyData.strOk z = true) ∨ x = .list [.int 0] ∨ x = .tuple [.int 0] ∨ x = .dict []
def OddC (n : Nat) (oi : Int) (x : PyData) : Prop := (x = .int oi ∨ BadE7 n x) ∧ FlO x
section
variable {n : Nat} {oi : Int}
theorem odc_i {i : Int} (h : i = oi ∨ BadE7 n (.int i)) : OddC n oi (.int i) := ⟨h.imp (fun e => by rw [e]) id, .inl ⟨rfl, fun _ e => nomatch e⟩⟩
theorem odc_b {b : Bool} : OddC n oi (.bool b) := ⟨.inr (fun _ e => nomatch e), .inl ⟨rfl, fun _ e => nomatch e⟩⟩
theorem odc_n : OddC n oi .none := ⟨.inr (fun _ e => nomatch e), .inl ⟨rfl, fun _ e => nomatch e⟩⟩
theorem odc_s {z : Str} (h : PyData.strOk z = true) : OddC n oi (.str z) := ⟨.inr (fun _ e => nomatch e), .inl ⟨rfl, fun y e => by injection e with e; rw [← e]; exact h⟩⟩
theorem odc_l : OddC n oi (.list [.int 0]) := ⟨.inr (fun _ e => nomatch e), .inr (.inl rfl)⟩
theorem odc_t : OddC n oi (.tuple [.int 0]) := ⟨.inr (fun _ e => nomatch e), .inr (.inr (.inl rfl))⟩
theorem odc_d : OddC n oi (.dict []) := ⟨.inr (fun _ e => nomatch e), .inr (.inr (.inr rfl))⟩
end
theorem bad7_mem {n : Nat} {ds : List PyData} {x : PyData} (hx : x ∈ ds) (hl : ds.length = n) (hb : BadE7 n x) : ¬ GoodD (.list ds) := fun g => by
  obtain ⟨ms, e, o, _⟩ := g
  injection e with e
  subst e
  obtain ⟨y, hy, rfl⟩ := List.mem_map.mp hx
  rw [List.length_map] at hl
  have := o.mem hy
  exact hb y rfl ⟨this.1, by omega⟩
theorem bad7_bool {ds : List PyData} {b : Bool} (hx : PyData.bool b ∈ ds) : ¬ GoodD (.list ds) := fun g => by
  obtain ⟨ms, e, o, _⟩ := g
  injection e with e
  subst e
  obtain ⟨y, hy, e⟩ := List.mem_map.mp hx
  cases e
theorem bad7_dup {ns : List Int} (h : ¬ ns.Nodup) : ¬ GoodD (.list (ns.map PyData.int)) := fun g => by
  obtain ⟨ms, e, o, _⟩ := g
  injection e with e
  rw [intD_inj e] at h
  exact h o.nodup
theorem bad7_nl {d : PyData} (h : isListD d = false) : ¬ GoodD d := fun g => by
  obtain ⟨ms, rfl, _⟩ := g
  cases h
theorem bad7_long {ds : List PyData} (h : ds.length < 1 ∨ 12 < ds.length) : ¬ GoodD (.list ds) := fun g => by
  obtain ⟨ms, e, _, h1, h2⟩ := g
  injection e with e
  subst e
  rw [List.length_map] at h
  omega
theorem dq_flB {H : Hp} {v : V} {x : PyData} (h : Dq H v x) : FlB v := by
  cases h <;> trivial
theorem eqz_of {K : PySem.W.Frag} {H : Hp} {v : V} {x : PyData} (hx : Dq H v x) (hf : FlO x) : ∃ b : Bool, (x = .int 0 → b = true) ∧ ∀ Q : VK, Q (.bl b) H → rEqZ K v (.int 0) H Q := by
  have sh0 : SeqAt.shaped (.int 0) = true := by decide +kernel
  rcases hf with ⟨hf, hs⟩ | rfl | rfl | rfl
  · cases hx with
    | non => exact ⟨_, fun e => (nomatch e), fun Q q => .inl ⟨_, _, .non, .int 0, by decide +kernel, sh0, q⟩⟩
    | bl b => exact ⟨_, fun e => (nomatch e), fun Q q => .inl ⟨_, _, .bl b, .int 0, by cases b <;> decide +kernel, sh0, q⟩⟩
    | int i => exact ⟨_, fun e => by injection e with e; subst e; decide +kernel, fun Q q => .inl ⟨_, _, .int i, .int 0, by simp [SeqAt.shaped, PyData.canLay0, PyData.depth], sh0, q⟩⟩
    | str z => exact ⟨_, fun e => (nomatch e), fun Q q => .inl ⟨_, _, .str z, .int 0, by simp [SeqAt.shaped, PyData.canLay0, PyData.depth]; exact hs z rfl, sh0, q⟩⟩
    | lst _ _ => cases hf
    | tup _ _ => cases hf
    | dic _ _ => cases hf
  · obtain ⟨p, xs, rfl, hp, ax⟩ := dq_lst hx
    cases ax with
    | cons h1 h2 =>
      cases h1
      cases h2
      exact ⟨_, fun e => (nomatch e), fun Q q => .inl ⟨_, _, .lst (SqL.of hp) (.cons (.int 0) .nil), .int 0, by decide +kernel, sh0, q⟩⟩
  · obtain ⟨p, xs, rfl, hp, ax⟩ := dq_tupI hx
    cases ax with
    | cons h1 h2 =>
      cases h1
      cases h2
      exact ⟨_, fun e => (nomatch e), fun Q q => .inl ⟨_, _, .tup (SqT.of hp) (.cons (.int 0) .nil), .int 0, by decide +kernel, sh0, q⟩⟩
  · cases hx with
    | dic e _ => exact ⟨false, fun e => (nomatch e), fun Q q => .inr ⟨_, _, _, rfl, e, rfl, q⟩⟩
theorem cutG7_head {α : Type} (ws : List α) (k : Nat) : cutG ws none (some (k : Int)) = ws.take k := by
  unfold cutG
  rw [HT.sIx_none, HT.sIx_nat, List.drop_zero, Nat.sub_zero]
  by_cases h : k ≤ ws.length
  · rw [Nat.min_eq_left h]
  · rw [Nat.min_eq_right (by omega), List.take_length, List.take_of_length_le (by omega)]
theorem cutG7_tail {α : Type} (ws : List α) (k : Nat) : cutG ws (some (k : Int)) none = ws.drop k := by
  unfold cutG
  rw [HT.sIx_none, HT.sIx_nat]
  by_cases h : k ≤ ws.length
  · rw [Nat.min_eq_left h, List.take_of_length_le (by rw [List.length_drop]; exact Nat.le_refl _)]
  · rw [Nat.min_eq_right (by omega), List.drop_of_length_le (Nat.le_refl _), List.drop_of_length_le (by omega), List.take_nil]
theorem rw_sm7 : Rw 1000 2 (.int 1) := (rw_int (by decide) (by decide)).mono (by decide) (by decide)
def OddQ (n : Nat) (oi : Int) (x : PyData) : Prop := BadE7 n x ∨ 2 ≤ n ∧ x = .int oi
theorem spoilt_bad {n ai jn : Nat} {ns : List Int} {oi : Int} {x : PyData} (ho : IsOrd n ns) (ha : ai < n) (hj : ns[jn]? = some oi) (hja : 2 ≤ n → jn ≠ ai) (hx : OddQ n oi x) : ¬ GoodD (.list (cutG (ns.map PyData.int) none (some (ai : Int)) ++ [x] ++ cutG (ns.map PyData.int) (some ((ai : Int) + 1)) none)) := by
  have e1 : ((ai : Int) + 1) = ((ai + 1 : Nat) : Int) := by omega
  rw [e1, cutG7_head, cutG7_tail]
  have hl := ho.len
  rcases hx with hx | ⟨h2, rfl⟩
  · refine bad7_mem (x := x) (n := n) (by simp) ?_ hx
    simp only [List.length_append, List.length_take, List.length_drop, List.length_map, List.length_cons, List.length_nil]
    omega
  · have e2 : (ns.map PyData.int).take ai ++ [PyData.int oi] ++ (ns.map PyData.int).drop (ai + 1) = (ns.take ai ++ [oi] ++ ns.drop (ai + 1)).map PyData.int := by
      rw [List.map_append, List.map_append, List.map_take, List.map_drop]
      rfl
    rw [e2]
    refine bad7_dup fun hn => ?_
    have hj2 := (List.getElem?_eq_some_iff.mp hj).1
    have ne := hja h2
    rw [List.append_assoc] at hn
    rw [List.nodup_append] at hn
    obtain ⟨_, h3, h4⟩ := hn
    rcases Nat.lt_or_ge jn ai with c | c
    · have m : oi ∈ ns.take ai := List.mem_of_getElem? (i := jn) (by rw [List.getElem?_take_of_lt c]; exact hj)
      exact h4 oi m oi (by simp) rfl
    · have m : oi ∈ ns.drop (ai + 1) := List.mem_of_getElem? (i := jn - (ai + 1)) (by rw [List.getElem?_drop, show ai + 1 + (jn - (ai + 1)) = jn by omega]; exact hj)
      exact (List.nodup_cons.mp h3).1 m
theorem bad7_ne {ds : List PyData} {x : PyData} (hx : x ∈ ds) (h : ∀ i, x ≠ .int i) : ¬ GoodD (.list ds) := bad7_mem hx rfl fun i e => absurd e (h i)
theorem os_asg7 {S : Src} {σ : L2.St} {H : Hp} {t : TE} {m k i : Nat} {B : PyData → Prop} {D : Ends} (at1 : S.At H) (h : OE S t σ H m k B) (q : ∀ x H', S.Kp H H' → S.At H' → Od S m k B H' x → D.nx (σ.set i (some x)) H') : tAsg t (gName i) D σ H := h H _ (S.refl _) at1 q
theorem os_lst7 {S : Src} {σ : L2.St} {H : Hp} {j n m k : Nat} {C : PyData → Prop} {r : TA} {v : TS} {D : Ends} (at1 : S.At H) (h : OA S r σ H m k (fun ds => ds.length = n ∧ ∀ x ∈ ds, C x)) (hm : n ≤ 16777216)
    (q : ∀ vs H' p, S.Kp H H' → S.At H' → (∃ ds, DqAll (S.cut H') vs ds ∧ Rws m k ds ∧ ds.length = n ∧ ∀ x ∈ ds, C x) → H' p = none → v D (σ.set j (some (.ref p))) (upd H' p (.lst vs))) : tSeq (tAsg (tLst r) (gName j)) v D σ H := by
  refine h H _ (S.refl _) at1 fun vs H2 e2 at2 o => ?_
  obtain ⟨ds, g1, g2, g3, g4⟩ := o
  have l := g1.len
  exact ⟨line_small (by omega), fun p np => q vs H2 p e2 at2 ⟨ds, g1, g2, g3, g4⟩ np⟩
theorem oe_eqI {S : Src} {σ : L2.St} {H : Hp} {t u : TE} {a b a' b' : Nat} {A A' : Int → Prop} (h : OE S t σ H a b (oI A)) (g : OE S u σ H a' b' (oI A')) : OE S (tOp rEq t u) σ H 5 0 (fun d => ∃ b, d = .bool b) := fun H1 Q e1 at1 q =>
  h H1 _ e1 at1 fun v H2 e2 at2 o => g H2 _ (S.trans e1 e2) at2 fun y H3 e3 at3 o' => by
    obtain ⟨i, rfl, _⟩ := od_int o
    obtain ⟨j, rfl, _⟩ := od_int o'
    exact ⟨rfl, q _ H3 (S.trans e2 e3) at3 ⟨.bool _, .bl _, rw_bool _, _, rfl⟩⟩
theorem oe_if {S : Src} {σ : L2.St} {H : Hp} {tA : TT} {ta tb : TE} {m k : Nat} {B : PyData → Prop} (b0 : Bool) (ht : ∀ H1 Q, S.Kp H H1 → S.At H1 → Q b0 H1 → tA σ H1 Q) (h : b0 = true → OE S ta σ H m k B) (g : b0 = false → OE S tb σ H m k B) : OE S (tIf tA ta tb) σ H m k B := fun H1 Q e1 at1 q => by
  refine ht H1 _ e1 at1 ?_
  cases b0 with
  | true => exact iteT (h rfl H1 Q e1 at1 q)
  | false => exact iteF (g rfl H1 Q e1 at1 q)
theorem oe_int1 {S : Src} {σ : L2.St} {H : Hp} {t : TE} {a b : Nat} (h : OE S t σ H a b (fun d => ∃ b, d = .bool b)) : OE S (tCB rInt1 (tCons t tNil)) σ H 110 0 (oI fun z => 0 ≤ z ∧ z < 2) := fun H1 Q e1 at1 q =>
  h H1 _ e1 at1 fun v H2 e2 at2 o => by
    obtain ⟨_, hv, _, b, rfl⟩ := o
    cases hv
    refine .inr ⟨b, rfl, q _ H2 e2 at2 ?_⟩
    cases b
    · exact od_of_int ⟨by decide, by decide⟩ ⟨by decide, by decide⟩
    · exact od_of_int ⟨by decide, by decide⟩ ⟨by decide, by decide⟩
theorem head_bad {n : Nat} {ns : List Int} {x0 y : Int} (ho : IsOrd n ns) (h0 : ns[0]? = some x0) (hy : y ≠ x0) (hy0 : 0 ≤ y) : ¬ GoodD (.list ([PyData.int y] ++ cutG (ns.map PyData.int) (some ((1 : Nat) : Int)) none)) := by
  rw [cutG7_tail]
  have hl := ho.len
  have hn : 0 < ns.length := (List.getElem?_eq_some_iff.mp h0).1
  by_cases c : y < (n : Int)
  · have e2 : [PyData.int y] ++ (ns.map PyData.int).drop 1 = (y :: ns.drop 1).map PyData.int := by
      rw [List.map_cons, List.map_drop]
      rfl
    rw [e2]
    refine bad7_dup fun hnd => ?_
    have m : y ∈ ns := ho.symm.subset (by unfold rg; exact List.mem_map.mpr ⟨y.toNat, List.mem_range.mpr (by omega), Int.toNat_of_nonneg hy0⟩)
    cases ns with
    | nil => cases h0
    | cons x r =>
      have := Option.some.inj (show some x = some x0 from h0)
      rcases List.mem_cons.mp m with e | m
      · exact hy (by rw [e, this])
      · exact (List.nodup_cons.mp hnd).1 m
  · refine bad7_mem (x := .int y) (n := n) (by simp) ?_ fun i e => by injection e with e; omega
    simp only [List.length_append, List.length_drop, List.length_map, List.length_cons, List.length_nil]
    omega
noncomputable def srcNF (d p : Addr) (vs : List V) : Src where
  At := fun H => DqAt H d ∧ H p = some (.lst vs) ∧ p ≠ d
  Kp := fun H H' => ∀ b o, H b = some o → b ≠ d → b ≠ p → H' b = some o
  cut := fun H => cut1 p (cut1 d H)
  refl := fun _ _ _ e _ _ => e
  trans := fun k l b o e n1 n2 => l b o (k b o e n1 n2) n1 n2
  kp := fun k b o e => by
    obtain ⟨e1, e2⟩ := cut1_of e
    obtain ⟨e3, e4⟩ := cut1_of e1
    rw [cut1_ne e2, cut1_ne e4]
    exact k b o e3 e4 e2
  le := fun _ _ _ e => (cut1_of (cut1_of e).1).1
  same := fun h s => ⟨⟨h.1.same s, s _ _ h.2.1, h.2.2⟩, fun b o e _ _ => s b o e⟩
  put := fun {H H1 q} o h k h1 nq => by
    have n1 : q ≠ d := h.1.ne nq
    have n2 : q ≠ p := fun z => by rw [z, h.2.1] at nq; cases nq
    refine ⟨⟨h1.1.upd n1, by rw [upd_ne n2.symm]; exact h1.2.1, h1.2.2⟩, fun b x e f g => ?_, by rw [cut1_ne n2, cut1_ne n1]; exact upd_same, fun b hb => ?_⟩
    · rw [upd_ne (ne_of_none e nq)]
      exact k b x e f g
    · unfold cut1
      split
      · rfl
      · split
        · rfl
        · exact upd_ne hb
def spNoOrd72 : Sp := fun vs H Q _ => ∃ (d : Addr) (n : Nat), vs = [.ref d, .int n] ∧ DqAt H d ∧ 1 ≤ n ∧ n ≤ 12 ∧ ∀ (v : V) (H' : Hp), Od (srcN d) 100000 8 (fun x => ¬ GoodD x) H' v → DqAt H' d → KeepD d H H' → Q v H'
section
variable {P : Program} {w : World} {K : PySem.W.Frag} {mg : Str → Option Value} {base : Heap}
theorem scNo72 : FnScope ["deck", "n", "order", "at", "other", "odd", "spoilt", "some"] ["deck", "n"] (defScope s_law_no_order) := ⟨rfl, rfl, rfl, by decide +kernel, rfl, by decide +kernel, by decide +kernel⟩
set_option maxHeartbeats 8000000 in
theorem ok_noord72 {f f1 f2 : Addr} {fd d1 d2 : FuncData} {k : Nat} (T : Df K mg "_law_no_order" s_law_no_order ["deck", "n"] f fd) (T__law_order : Df K mg "_law_order" s_law_order ["deck", "n"] f1 d1) (T__law_next : Df K mg "_law_next" s_law_next ["deck"] f2 d2) (G__law_order : FnOk P w K mg base CX0 k f1 d1 ["deck", "n"] spOrderN) (G__law_next : FnOk P w K mg base CX0 k f2 d2 ["deck"] spNext) (B : Bi mg) : FnOk P w K mg base CX0 (k + 1) f fd ["deck", "n"] spNoOrd72 := by
  refine T.F.ok scNo72 (fun vs H Q E h => ?_) (fun cdv A outer s H vs Q E hr h => ?_)
  · obtain ⟨d, n, rfl, _⟩ := h
    rfl
  · obtain ⟨d, n, rfl, D0, hn1, hn2, q⟩ := h
    refine ⟨_, 
      (pss_cons (ps_set (i := 2) scNo72.nd rfl (.inl rfl) (pe_call G__law_order hr (by rfl) T__law_order.g T__law_order.F.kp T__law_order.b .nil pass0 (pa_cons (pv 0) (pa_cons (pv 1) pa_nil))))
      (pss_cons (ps_set (i := 3) scNo72.nd rfl (.inl rfl) (pe_op op_mod (pe_call G__law_next hr (by rfl) T__law_next.g T__law_next.F.kp T__law_next.b .nil pass0 (pa_cons (pv 0) pa_nil)) (pv 1)))
      (pss_cons (ps_set (i := 4) scNo72.nd rfl (.inl rfl) (pe_ix ix_list (pv 2) (pe_op op_mod (pe_op op_add (pv 3) pe_int) (pv 1)) (fun _ _ => rfl)))
      (pss_cons (ps_set (i := 5) scNo72.nd rfl (.inl rfl) (pe_ix ix_list (pe_lst (pa_cons (pv 1) (pa_cons (pe_un un_neg pe_int) (pa_cons pe_bl (pa_cons pe_bl (pa_cons pe_non (pa_cons pe_str (pa_cons (pe_lst (pa_cons pe_int pa_nil)) (pa_cons (pv 4) (pa_cons (pe_op op_pow pe_int pe_int) (pa_cons (pe_op op_add (pv 1) pe_int) (pa_cons (pe_tup (pa_cons pe_int pa_nil)) (pa_cons pe_dnewK pa_nil))))))))))))) (pe_op op_mod (pe_call G__law_next hr (by rfl) T__law_next.g T__law_next.F.kp T__law_next.b .nil pass0 (pa_cons (pv 0) pa_nil)) pe_int) (fun _ _ => rfl)))
      (Evl.pss_cut (ps_if (PW.pt (pw_and (pt_cmpR op_eq (pv 1) pe_int (nomark _)) (pw_and1 (pt_cmpR (op_eqZ hr.units) (pv 5) pe_int (nomark _)))))
        (pss_one (ps_set (i := 5) scNo72.nd rfl (.inl rfl) pe_int))
        pss_nil)
      (pss_cons (ps_set (i := 6) scNo72.nd rfl (.inl rfl) (pe_op op_cat (pe_op op_cat (pe_slice sl_list (pv 2) po_none (po_some (pv 3))) (pe_lst (pa_cons (pv 5) pa_nil))) (pe_slice sl_list (pv 2) (po_some (pe_op op_add (pv 3) pe_int)) po_none)))
      (Evl.pss_cut (ps_if (PW.pt (pw_or (pt_cmpR op_isT (pv 5) pe_bl (nomark _)) (pw_or1 (pt_cmpR op_isT (pv 5) pe_bl (nomark _)))))
        (pss_one (ps_set (i := 6) scNo72.nd rfl (.inl rfl) (pe_op op_cat (pe_op op_cat (pe_slice sl_list (pv 2) po_none (po_some (pv 3))) (pe_lst (pa_cons (pe_cmpR op_eq (pe_ix ix_list (pv 2) (pv 3) (fun _ _ => rfl)) pe_int (nomark _)) pa_nil))) (pe_slice sl_list (pv 2) (po_some (pe_op op_add (pv 3) pe_int)) po_none))))
        pss_nil)
      (pss_cons (ps_set (i := 7) scNo72.nd rfl (.inl rfl) (pe_lst (pa_cons pe_non (pa_cons pe_int (pa_cons pe_bl (pa_cons pe_str (pa_cons pe_str (pa_cons (pe_tup pa_nil) (pa_cons pe_dnewK (pa_cons (pe_lst pa_nil) (pa_cons (pe_callTy call_tuple_of (by rfl) B.tuple (by decide +kernel) (pa_cons (pv 2) pa_nil)) (pa_cons (pe_lst (pa_cons (pv 2) pa_nil)) (pa_cons (pe_op op_cat (pv 2) (pv 2)) (pa_cons (pe_listRg rfl (by rfl) B.list (prg_1 (by rfl) B.range pe_int)) pa_nil))))))))))))))
      (pss_cons (ps_expr (pe_bm PySem.F.plainAttrs_list PySem.F.slot_list_append PySem.F.type_list_append mt_append (pv 7) (pa_cons (pe_op op_cat (pv 2) (pe_lst (pa_cons (pe_op op_add (pv 1) pe_int) pa_nil))) pa_nil)))
      (pss_cons (ps_set (i := 7) scNo72.nd rfl (.inl rfl) (pe_op op_cat (pv 7) (pe_lst (pa_cons (pe_ifExp (pt_cmpR op_ne (pe_ix ix_list (pv 2) pe_int (fun _ _ => rfl)) pe_int (nomark _)) (pe_op op_cat (pe_lst (pa_cons pe_int pa_nil)) (pe_slice sl_list (pv 2) (po_some pe_int) po_none)) (pe_ifExp (pt_cmpR op_gt (pv 1) pe_int (nomark _)) (pe_op op_cat (pe_lst (pa_cons pe_int pa_nil)) (pe_slice sl_list (pv 2) (po_some pe_int) po_none)) (pe_lst (pa_cons pe_int pa_nil)))) pa_nil))))
      (pss_one (ps_ret (pe_ix ix_list (pe_lst (pa_cons (pv 6) (pa_cons (pe_ix ix_list (pv 7) (pe_op op_mod (pe_call G__law_next hr (by rfl) T__law_next.g T__law_next.F.kp T__law_next.b .nil pass0 (pa_cons (pv 0) pa_nil)) pe_int) (fun _ _ => rfl)) pa_nil))) (pe_callTy call_int1 (by rfl) B.int (by decide +kernel) (pa_cons (pe_cmpR op_eq (pe_op op_mod (pe_call G__law_next hr (by rfl) T__law_next.g T__law_next.F.kp T__law_next.b .nil pass0 (pa_cons (pv 0) pa_nil)) pe_int) pe_int (nomark _)) pa_nil)) (fun _ _ => rfl)))))))))))))), ?_⟩
    refine ⟨_, rfl, _, rfl, d, n, rfl, D0, hn2, fun ns o H1 hon no ho nod D1 k1 => ?_⟩
    have hnl := hon.len
    have o_n : Od (srcN d) 110 0 (oI fun i => i = (n : Int)) H1 (.int n) := od_of_int ⟨by omega, by omega⟩ rfl
    have kk : (srcN d).Kp H1 H1 := (srcN d).refl H1
    refine os_set (S := srcN d) D1 (oe_mod72 (oe_next rfl) (oe_v rfl o_n) ⟨by omega, by omega⟩) fun x2 H2 k2 D2 o_at => ?_
    replace o_n := o_n.kp k2
    replace kk := (srcN d).trans kk k2
    obtain ⟨at', rfl, ⟨a0, a1⟩⟩ := od_int o_at
    replace o_at := od_isI o_at
    obtain ⟨ai, rfl⟩ : ∃ ai : Nat, at' = (ai : Int) := ⟨at'.toNat, by omega⟩
    have ho2 := kk _ _ ho nod
    obtain ⟨jn, hjn, hjl, hja⟩ : ∃ jn : Nat, ((ai : Int) + 1) % (n : Int) = (jn : Int) ∧ jn < n ∧ (2 ≤ n → jn ≠ ai) := by
      have h0 := Int.emod_nonneg ((ai : Int) + 1) (show (n : Int) ≠ 0 by omega)
      have h1 := Int.emod_lt_of_pos ((ai : Int) + 1) (show (0 : Int) < (n : Int) by omega)
      refine ⟨(((ai : Int) + 1) % (n : Int)).toNat, by omega, by omega, fun h2 e => ?_⟩
      rcases Nat.lt_or_ge (ai + 1) n with c | c
      · rw [Int.emod_eq_of_lt (by omega) (by omega)] at e
        omega
      · have : ((ai : Int) + 1) = (n : Int) := by omega
        rw [this, Int.emod_self] at e
        omega
    obtain ⟨oi, eoi⟩ : ∃ x, ns[jn]? = some x := ⟨_, List.getElem?_eq_getElem (by omega)⟩
    have moi := hon.mem (List.mem_of_getElem? eoi)
    -- other
    refine ⟨_, rfl, _, rfl, _, _, rfl, rfl, _, rfl, _, _, rfl, rfl, (show (0 : Int) < (n : Int) by omega), o, _, _, _, rfl, rfl, SqL.of ho2, at_of (j := jn) hjn (by rw [List.getElem?_map, eoi]; rfl), ?_⟩
    have o_other : Od (srcN d) 110 0 (oI fun i => i = oi) H2 (.int oi) := od_of_int ⟨by omega, by omega⟩ rfl
    have D3 : DqAt H2 d := D2
    refine os_set (S := srcN d) D3 (oe_ix (oe_lst (oa_consN (oe_v rfl o_n) (by intro x h; first | (obtain ⟨i, rfl, hi⟩ := h; refine odc_i ?_; first | (exact .inl (by grind)) | (refine .inr fun j e => ?_; injection e with e; subst e; first | omega | (obtain ⟨_, rfl, rfl⟩ := hi; omega) | (obtain ⟨_, _, rfl, rfl, rfl⟩ := hi; omega) | (have h25 : (10 : Int) ^ Int.toNat 25 = 10000000000000000000000000 := (by decide +kernel); rw [h25] at hi; omega))) | (obtain rfl := h; first | exact odc_b | exact odc_n | exact odc_d) | (obtain ⟨_, rfl, _, _, rfl, ⟨_, rfl, rfl⟩, rfl⟩ := h; first | exact odc_l | exact odc_t) | (obtain ⟨_, rfl, _, rfl⟩ := h; exact odc_s (by decide +kernel))) (oa_consN (oe_neg (oe_intI (by decide)) (by grind)) (by intro x h; first | (obtain ⟨i, rfl, hi⟩ := h; refine odc_i ?_; first | (exact .inl (by grind)) | (refine .inr fun j e => ?_; injection e with e; subst e; first | omega | (obtain ⟨_, rfl, rfl⟩ := hi; omega) | (obtain ⟨_, _, rfl, rfl, rfl⟩ := hi; omega) | (have h25 : (10 : Int) ^ Int.toNat 25 = 10000000000000000000000000 := (by decide +kernel); rw [h25] at hi; omega))) | (obtain rfl := h; first | exact odc_b | exact odc_n | exact odc_d) | (obtain ⟨_, rfl, _, _, rfl, ⟨_, rfl, rfl⟩, rfl⟩ := h; first | exact odc_l | exact odc_t) | (obtain ⟨_, rfl, _, rfl⟩ := h; exact odc_s (by decide +kernel))) (oa_consN (oe_bl true) (by intro x h; first | (obtain ⟨i, rfl, hi⟩ := h; refine odc_i ?_; first | (exact .inl (by grind)) | (refine .inr fun j e => ?_; injection e with e; subst e; first | omega | (obtain ⟨_, rfl, rfl⟩ := hi; omega) | (obtain ⟨_, _, rfl, rfl, rfl⟩ := hi; omega) | (have h25 : (10 : Int) ^ Int.toNat 25 = 10000000000000000000000000 := (by decide +kernel); rw [h25] at hi; omega))) | (obtain rfl := h; first | exact odc_b | exact odc_n | exact odc_d) | (obtain ⟨_, rfl, _, _, rfl, ⟨_, rfl, rfl⟩, rfl⟩ := h; first | exact odc_l | exact odc_t) | (obtain ⟨_, rfl, _, rfl⟩ := h; exact odc_s (by decide +kernel))) (oa_consN (oe_bl false) (by intro x h; first | (obtain ⟨i, rfl, hi⟩ := h; refine odc_i ?_; first | (exact .inl (by grind)) | (refine .inr fun j e => ?_; injection e with e; subst e; first | omega | (obtain ⟨_, rfl, rfl⟩ := hi; omega) | (obtain ⟨_, _, rfl, rfl, rfl⟩ := hi; omega) | (have h25 : (10 : Int) ^ Int.toNat 25 = 10000000000000000000000000 := (by decide +kernel); rw [h25] at hi; omega))) | (obtain rfl := h; first | exact odc_b | exact odc_n | exact odc_d) | (obtain ⟨_, rfl, _, _, rfl, ⟨_, rfl, rfl⟩, rfl⟩ := h; first | exact odc_l | exact odc_t) | (obtain ⟨_, rfl, _, rfl⟩ := h; exact odc_s (by decide +kernel))) (oa_consN oe_non (by intro x h; first | (obtain ⟨i, rfl, hi⟩ := h; refine odc_i ?_; first | (exact .inl (by grind)) | (refine .inr fun j e => ?_; injection e with e; subst e; first | omega | (obtain ⟨_, rfl, rfl⟩ := hi; omega) | (obtain ⟨_, _, rfl, rfl, rfl⟩ := hi; omega) | (have h25 : (10 : Int) ^ Int.toNat 25 = 10000000000000000000000000 := (by decide +kernel); rw [h25] at hi; omega))) | (obtain rfl := h; first | exact odc_b | exact odc_n | exact odc_d) | (obtain ⟨_, rfl, _, _, rfl, ⟨_, rfl, rfl⟩, rfl⟩ := h; first | exact odc_l | exact odc_t) | (obtain ⟨_, rfl, _, rfl⟩ := h; exact odc_s (by decide +kernel))) (oa_consN (oe_tx 1 ⟨by decide +kernel, by decide +kernel⟩) (by intro x h; first | (obtain ⟨i, rfl, hi⟩ := h; refine odc_i ?_; first | (exact .inl (by grind)) | (refine .inr fun j e => ?_; injection e with e; subst e; first | omega | (obtain ⟨_, rfl, rfl⟩ := hi; omega) | (obtain ⟨_, _, rfl, rfl, rfl⟩ := hi; omega) | (have h25 : (10 : Int) ^ Int.toNat 25 = 10000000000000000000000000 := (by decide +kernel); rw [h25] at hi; omega))) | (obtain rfl := h; first | exact odc_b | exact odc_n | exact odc_d) | (obtain ⟨_, rfl, _, _, rfl, ⟨_, rfl, rfl⟩, rfl⟩ := h; first | exact odc_l | exact odc_t) | (obtain ⟨_, rfl, _, rfl⟩ := h; exact odc_s (by decide +kernel))) (oa_consN (oe_lst (oa_cons (oe_intI (by decide)) oa_nil) (by decide)) (by intro x h; first | (obtain ⟨i, rfl, hi⟩ := h; refine odc_i ?_; first | (exact .inl (by grind)) | (refine .inr fun j e => ?_; injection e with e; subst e; first | omega | (obtain ⟨_, rfl, rfl⟩ := hi; omega) | (obtain ⟨_, _, rfl, rfl, rfl⟩ := hi; omega) | (have h25 : (10 : Int) ^ Int.toNat 25 = 10000000000000000000000000 := (by decide +kernel); rw [h25] at hi; omega))) | (obtain rfl := h; first | exact odc_b | exact odc_n | exact odc_d) | (obtain ⟨_, rfl, _, _, rfl, ⟨_, rfl, rfl⟩, rfl⟩ := h; first | exact odc_l | exact odc_t) | (obtain ⟨_, rfl, _, rfl⟩ := h; exact odc_s (by decide +kernel))) (oa_consN (oe_v rfl o_other) (by intro x h; first | (obtain ⟨i, rfl, hi⟩ := h; refine odc_i ?_; first | (exact .inl (by grind)) | (refine .inr fun j e => ?_; injection e with e; subst e; first | omega | (obtain ⟨_, rfl, rfl⟩ := hi; omega) | (obtain ⟨_, _, rfl, rfl, rfl⟩ := hi; omega) | (have h25 : (10 : Int) ^ Int.toNat 25 = 10000000000000000000000000 := (by decide +kernel); rw [h25] at hi; omega))) | (obtain rfl := h; first | exact odc_b | exact odc_n | exact odc_d) | (obtain ⟨_, rfl, _, _, rfl, ⟨_, rfl, rfl⟩, rfl⟩ := h; first | exact odc_l | exact odc_t) | (obtain ⟨_, rfl, _, rfl⟩ := h; exact odc_s (by decide +kernel))) (oa_consN (oe_pow ⟨by decide, by decide, by decide⟩ ⟨by decide, by decide⟩) (by intro x h; first | (obtain ⟨i, rfl, hi⟩ := h; refine odc_i ?_; first | (exact .inl (by grind)) | (refine .inr fun j e => ?_; injection e with e; subst e; first | omega | (obtain ⟨_, rfl, rfl⟩ := hi; omega) | (obtain ⟨_, _, rfl, rfl, rfl⟩ := hi; omega) | (have h25 : (10 : Int) ^ Int.toNat 25 = 10000000000000000000000000 := (by decide +kernel); rw [h25] at hi; omega))) | (obtain rfl := h; first | exact odc_b | exact odc_n | exact odc_d) | (obtain ⟨_, rfl, _, _, rfl, ⟨_, rfl, rfl⟩, rfl⟩ := h; first | exact odc_l | exact odc_t) | (obtain ⟨_, rfl, _, rfl⟩ := h; exact odc_s (by decide +kernel))) (oa_consN (oe_add (oe_v rfl o_n) (oe_intI (by decide)) (by grind)) (by intro x h; first | (obtain ⟨i, rfl, hi⟩ := h; refine odc_i ?_; first | (exact .inl (by grind)) | (refine .inr fun j e => ?_; injection e with e; subst e; first | omega | (obtain ⟨_, rfl, rfl⟩ := hi; omega) | (obtain ⟨_, _, rfl, rfl, rfl⟩ := hi; omega) | (have h25 : (10 : Int) ^ Int.toNat 25 = 10000000000000000000000000 := (by decide +kernel); rw [h25] at hi; omega))) | (obtain rfl := h; first | exact odc_b | exact odc_n | exact odc_d) | (obtain ⟨_, rfl, _, _, rfl, ⟨_, rfl, rfl⟩, rfl⟩ := h; first | exact odc_l | exact odc_t) | (obtain ⟨_, rfl, _, rfl⟩ := h; exact odc_s (by decide +kernel))) (oa_consN (oe_tup (oa_cons (oe_intI (by decide)) oa_nil) (by decide)) (by intro x h; first | (obtain ⟨i, rfl, hi⟩ := h; refine odc_i ?_; first | (exact .inl (by grind)) | (refine .inr fun j e => ?_; injection e with e; subst e; first | omega | (obtain ⟨_, rfl, rfl⟩ := hi; omega) | (obtain ⟨_, _, rfl, rfl, rfl⟩ := hi; omega) | (have h25 : (10 : Int) ^ Int.toNat 25 = 10000000000000000000000000 := (by decide +kernel); rw [h25] at hi; omega))) | (obtain rfl := h; first | exact odc_b | exact odc_n | exact odc_d) | (obtain ⟨_, rfl, _, _, rfl, ⟨_, rfl, rfl⟩, rfl⟩ := h; first | exact odc_l | exact odc_t) | (obtain ⟨_, rfl, _, rfl⟩ := h; exact odc_s (by decide +kernel))) (oa_consN oe_d0 (by intro x h; first | (obtain ⟨i, rfl, hi⟩ := h; refine odc_i ?_; first | (exact .inl (by grind)) | (refine .inr fun j e => ?_; injection e with e; subst e; first | omega | (obtain ⟨_, rfl, rfl⟩ := hi; omega) | (obtain ⟨_, _, rfl, rfl, rfl⟩ := hi; omega) | (have h25 : (10 : Int) ^ Int.toNat 25 = 10000000000000000000000000 := (by decide +kernel); rw [h25] at hi; omega))) | (obtain rfl := h; first | exact odc_b | exact odc_n | exact odc_d) | (obtain ⟨_, rfl, _, _, rfl, ⟨_, rfl, rfl⟩, rfl⟩ := h; first | exact odc_l | exact odc_t) | (obtain ⟨_, rfl, _, rfl⟩ := h; exact odc_s (by decide +kernel))) (oa_nilN (OddC n oi)))))))))))))) (by decide)) (oe_modC 12 (oe_next rfl) (by decide)) (by grind)) fun x4 H4 k4 D4 o_odd => ?_
    replace o_n := o_n.kp k4
    replace o_at := o_at.kp k4
    replace o_other := o_other.kp k4
    replace kk := (srcN d).trans kk k4
    obtain ⟨x, hx, rx, hc, hf⟩ := o_odd
    have sq : Same (cut1 d H4) H4 := fun b o e => (cut1_of e).1
    -- n == 1 and odd == 0
    refine ⟨fun τ G => ∃ v x, τ = [some (.ref d), some (.int n), some (.ref o), some (.int ai), some (.int oi), some v, none, none] ∧ G = H4 ∧ Dq (cut1 d H4) v x ∧ Rw 1000 2 x ∧ OddQ n oi x, ?_, fun τ G hM => ?_⟩
    · refine ⟨_, rfl, rfl, _, rfl, ite2 (fun h1 => ?_) (fun h1 => iteF ?_)⟩
      · have h1 : (n : Int) = 1 := by simpa using h1
        obtain ⟨b, hb, hq⟩ := eqz_of (K := K) (hx.same sq) hf
        refine ⟨_, rfl, hq _ ⟨_, rfl, ?_⟩⟩
        cases b with
        | true => exact iteT ⟨_, _, rfl, rfl, .int 1, rw_sm7, .inl fun i e => by injection e with e; omega⟩
        | false =>
          refine iteF ⟨_, x, rfl, rfl, hx, rx.mono (by decide) (by decide), .inl ?_⟩
          rcases hc with rfl | hc
          · exact absurd (hb (by rw [show oi = 0 by omega])) Bool.false_ne_true
          · exact hc
      · have h1 : ¬ (n : Int) = 1 := by simpa using h1
        exact ⟨_, x, rfl, rfl, hx, rx.mono (by decide) (by decide), hc.elim (fun e => .inr ⟨by omega, e⟩) .inl⟩
    clear hx hc hf rx
    obtain ⟨v, x, rfl, rfl, hx, rx, hc⟩ := hM
    have hai : ai < n := by omega
    have hns : ∀ x ∈ ns, -100000000000000000000000000 ≤ x ∧ x ≤ 100000000000000000000000000 := fun x hx => by have := hon.mem hx; omega
    have o_order : Od (srcN d) (12 * 112 + 2) 1 (oL fun ds => ds = ns.map PyData.int) G (.ref o) := od_ints (by show cut1 d G o = _; rw [cut1_ne nod]; exact kk _ _ ho nod) hns (by omega)
    have o_odd : Od (srcN d) 1000 2 (OddQ n oi) G v := ⟨x, hx, rx, hc⟩
    have D5 := D4
    refine os_set (S := srcN d) D5 (oe_cat (oe_cat (oe_sl (oe_v rfl o_order) oo_none (oo_some (oe_v rfl o_at))) (oe_lst (oa_cons (oe_v rfl o_odd) oa_nil) (by decide)) (by decide)) (oe_sl (oe_v rfl o_order) (oo_some (oe_add (oe_v rfl o_at) (oe_intI (by decide)) (by grind))) oo_none) (by decide)) fun x6 H6 k6 D6 o_spoilt => ?_
    replace o_order := o_order.kp k6
    replace o_n := o_n.kp k6
    replace o_at := o_at.kp k6
    replace o_other := o_other.kp k6
    replace o_odd := o_odd.kp k6
    replace kk := (srcN d).trans kk k6
    replace o_spoilt := o_spoilt.mono (m' := 5000) (k' := 5) (C := fun x => ¬ GoodD x) (by decide) (by decide) (by
      rintro _ ⟨_, rfl, a, b, rfl, ⟨c, e, rfl, ⟨_, _, _, rfl, rfl, rfl, ⟨_, rfl, rfl⟩⟩, ⟨y, _, rfl, hy, rfl⟩⟩, ⟨_, _, _, rfl, rfl, ⟨_, rfl, ⟨_, _, rfl, rfl, rfl⟩⟩, rfl⟩⟩
      exact spoilt_bad hon hai eoi hja hy)
    have hxv := hx.same (fun b o e => (cut1_of e).1 : Same (cut1 d G) G)
    have fb := dq_flB hxv
    have dbl : ¬ GoodD (.list (ns.map PyData.int ++ ns.map PyData.int)) := by
      rw [← List.map_append]
      refine bad7_dup fun hn => ?_
      obtain ⟨_, _, h4⟩ := List.nodup_append.mp hn
      cases ns with
      | nil => rw [← hnl] at hn1; exact absurd hn1 (by decide)
      | cons x r => exact h4 x List.mem_cons_self x List.mem_cons_self rfl
    refine ⟨fun τ C => ∃ w, τ = [some (.ref d), some (.int n), some (.ref o), some (.int ai), some (.int oi), some v, some w, none] ∧ DqAt C d ∧ KeepD d H6 C ∧ Od (srcN d) 5000 5 (fun x => ¬ GoodD x) C w, ?_, fun τ C hM => ?_⟩
    · refine ⟨_, rfl, true, rfl, fb, _, rfl, ite2 (fun _ => iteT ?_) (fun _ => ⟨_, rfl, false, rfl, fb, _, rfl, ite2 (fun _ => ?_) (fun _ => ⟨_, rfl, D6, KeepD.refl d H6, o_spoilt⟩)⟩)⟩
      · refine os_asg7 (S := srcN d) D6 (oe_cat (oe_cat (oe_sl (oe_v rfl o_order) oo_none (oo_some (oe_v rfl o_at))) (oe_lst (oa_cons (oe_eqI (oe_ixI (oe_v rfl o_order) (oe_v rfl o_at) (by grind)) (oe_intI (by decide))) oa_nil) (by decide)) (by decide)) (oe_sl (oe_v rfl o_order) (oo_some (oe_add (oe_v rfl o_at) (oe_intI (by decide)) (by grind))) oo_none) (by decide)) fun u C2 k2 D2 ou => ⟨u, rfl, D2, k2, ou.mono (by decide) (by decide) ?_⟩
        rintro _ ⟨_, rfl, a, b, rfl, ⟨c, e, rfl, _, ⟨y, _, rfl, ⟨bb, rfl⟩, rfl⟩⟩, _⟩
        exact bad7_bool (b := bb) (by simp)
      · refine os_asg7 (S := srcN d) D6 (oe_cat (oe_cat (oe_sl (oe_v rfl o_order) oo_none (oo_some (oe_v rfl o_at))) (oe_lst (oa_cons (oe_eqI (oe_ixI (oe_v rfl o_order) (oe_v rfl o_at) (by grind)) (oe_intI (by decide))) oa_nil) (by decide)) (by decide)) (oe_sl (oe_v rfl o_order) (oo_some (oe_add (oe_v rfl o_at) (oe_intI (by decide)) (by grind))) oo_none) (by decide)) fun u C2 k2 D2 ou => ⟨u, rfl, D2, k2, ou.mono (by decide) (by decide) ?_⟩
        rintro _ ⟨_, rfl, a, b, rfl, ⟨c, e, rfl, _, ⟨y, _, rfl, ⟨bb, rfl⟩, rfl⟩⟩, _⟩
        exact bad7_bool (b := bb) (by simp)
    clear o_spoilt
    obtain ⟨w, rfl, DC, kC, o_spoilt⟩ := hM
    replace o_order := o_order.kp kC
    replace o_n := o_n.kp kC
    replace kk := KeepD.trans kk kC
    clear D2 D3 D4 D5 D6 k2 k4 k6 hx hxv
    refine os_lst7 (S := srcN d) DC (oa_consN oe_non (by intro x h; first | (refine bad7_nl ?_; first | (obtain ⟨_, rfl, _⟩ := h; rfl) | (obtain rfl := h; rfl)) | (obtain ⟨_, rfl, rfl⟩ := h; exact bad7_long (.inl (by decide))) | (obtain ⟨_, rfl, rfl⟩ := h; exact bad7_long (.inr (by decide +kernel))) | (obtain ⟨_, rfl, _, _, rfl, ⟨_, rfl, _⟩, _⟩ := h; exact bad7_ne List.mem_cons_self (fun _ e => nomatch e)) | (obtain ⟨_, rfl, _, _, rfl, rfl, rfl⟩ := h; exact dbl)) (oa_consN (oe_intI (by decide)) (by intro x h; first | (refine bad7_nl ?_; first | (obtain ⟨_, rfl, _⟩ := h; rfl) | (obtain rfl := h; rfl)) | (obtain ⟨_, rfl, rfl⟩ := h; exact bad7_long (.inl (by decide))) | (obtain ⟨_, rfl, rfl⟩ := h; exact bad7_long (.inr (by decide +kernel))) | (obtain ⟨_, rfl, _, _, rfl, ⟨_, rfl, _⟩, _⟩ := h; exact bad7_ne List.mem_cons_self (fun _ e => nomatch e)) | (obtain ⟨_, rfl, _, _, rfl, rfl, rfl⟩ := h; exact dbl)) (oa_consN (oe_bl true) (by intro x h; first | (refine bad7_nl ?_; first | (obtain ⟨_, rfl, _⟩ := h; rfl) | (obtain rfl := h; rfl)) | (obtain ⟨_, rfl, rfl⟩ := h; exact bad7_long (.inl (by decide))) | (obtain ⟨_, rfl, rfl⟩ := h; exact bad7_long (.inr (by decide +kernel))) | (obtain ⟨_, rfl, _, _, rfl, ⟨_, rfl, _⟩, _⟩ := h; exact bad7_ne List.mem_cons_self (fun _ e => nomatch e)) | (obtain ⟨_, rfl, _, _, rfl, rfl, rfl⟩ := h; exact dbl)) (oa_consN (oe_tx 0 ⟨by decide +kernel, by decide +kernel⟩) (by intro x h; first | (refine bad7_nl ?_; first | (obtain ⟨_, rfl, _⟩ := h; rfl) | (obtain rfl := h; rfl)) | (obtain ⟨_, rfl, rfl⟩ := h; exact bad7_long (.inl (by decide))) | (obtain ⟨_, rfl, rfl⟩ := h; exact bad7_long (.inr (by decide +kernel))) | (obtain ⟨_, rfl, _, _, rfl, ⟨_, rfl, _⟩, _⟩ := h; exact bad7_ne List.mem_cons_self (fun _ e => nomatch e)) | (obtain ⟨_, rfl, _, _, rfl, rfl, rfl⟩ := h; exact dbl)) (oa_consN (oe_tx 3 ⟨by decide +kernel, by decide +kernel⟩) (by intro x h; first | (refine bad7_nl ?_; first | (obtain ⟨_, rfl, _⟩ := h; rfl) | (obtain rfl := h; rfl)) | (obtain ⟨_, rfl, rfl⟩ := h; exact bad7_long (.inl (by decide))) | (obtain ⟨_, rfl, rfl⟩ := h; exact bad7_long (.inr (by decide +kernel))) | (obtain ⟨_, rfl, _, _, rfl, ⟨_, rfl, _⟩, _⟩ := h; exact bad7_ne List.mem_cons_self (fun _ e => nomatch e)) | (obtain ⟨_, rfl, _, _, rfl, rfl, rfl⟩ := h; exact dbl)) (oa_consN (oe_tup oa_nil (by decide)) (by intro x h; first | (refine bad7_nl ?_; first | (obtain ⟨_, rfl, _⟩ := h; rfl) | (obtain rfl := h; rfl)) | (obtain ⟨_, rfl, rfl⟩ := h; exact bad7_long (.inl (by decide))) | (obtain ⟨_, rfl, rfl⟩ := h; exact bad7_long (.inr (by decide +kernel))) | (obtain ⟨_, rfl, _, _, rfl, ⟨_, rfl, _⟩, _⟩ := h; exact bad7_ne List.mem_cons_self (fun _ e => nomatch e)) | (obtain ⟨_, rfl, _, _, rfl, rfl, rfl⟩ := h; exact dbl)) (oa_consN oe_d0 (by intro x h; first | (refine bad7_nl ?_; first | (obtain ⟨_, rfl, _⟩ := h; rfl) | (obtain rfl := h; rfl)) | (obtain ⟨_, rfl, rfl⟩ := h; exact bad7_long (.inl (by decide))) | (obtain ⟨_, rfl, rfl⟩ := h; exact bad7_long (.inr (by decide +kernel))) | (obtain ⟨_, rfl, _, _, rfl, ⟨_, rfl, _⟩, _⟩ := h; exact bad7_ne List.mem_cons_self (fun _ e => nomatch e)) | (obtain ⟨_, rfl, _, _, rfl, rfl, rfl⟩ := h; exact dbl)) (oa_consN (oe_lst oa_nil (by decide)) (by intro x h; first | (refine bad7_nl ?_; first | (obtain ⟨_, rfl, _⟩ := h; rfl) | (obtain rfl := h; rfl)) | (obtain ⟨_, rfl, rfl⟩ := h; exact bad7_long (.inl (by decide))) | (obtain ⟨_, rfl, rfl⟩ := h; exact bad7_long (.inr (by decide +kernel))) | (obtain ⟨_, rfl, _, _, rfl, ⟨_, rfl, _⟩, _⟩ := h; exact bad7_ne List.mem_cons_self (fun _ e => nomatch e)) | (obtain ⟨_, rfl, _, _, rfl, rfl, rfl⟩ := h; exact dbl)) (oa_consN (oe_tupOf (oe_v rfl o_order)) (by intro x h; first | (refine bad7_nl ?_; first | (obtain ⟨_, rfl, _⟩ := h; rfl) | (obtain rfl := h; rfl)) | (obtain ⟨_, rfl, rfl⟩ := h; exact bad7_long (.inl (by decide))) | (obtain ⟨_, rfl, rfl⟩ := h; exact bad7_long (.inr (by decide +kernel))) | (obtain ⟨_, rfl, _, _, rfl, ⟨_, rfl, _⟩, _⟩ := h; exact bad7_ne List.mem_cons_self (fun _ e => nomatch e)) | (obtain ⟨_, rfl, _, _, rfl, rfl, rfl⟩ := h; exact dbl)) (oa_consN (oe_lst (oa_cons (oe_v rfl o_order) oa_nil) (by decide)) (by intro x h; first | (refine bad7_nl ?_; first | (obtain ⟨_, rfl, _⟩ := h; rfl) | (obtain rfl := h; rfl)) | (obtain ⟨_, rfl, rfl⟩ := h; exact bad7_long (.inl (by decide))) | (obtain ⟨_, rfl, rfl⟩ := h; exact bad7_long (.inr (by decide +kernel))) | (obtain ⟨_, rfl, _, _, rfl, ⟨_, rfl, _⟩, _⟩ := h; exact bad7_ne List.mem_cons_self (fun _ e => nomatch e)) | (obtain ⟨_, rfl, _, _, rfl, rfl, rfl⟩ := h; exact dbl)) (oa_consN (oe_cat (oe_v rfl o_order) (oe_v rfl o_order) (by decide)) (by intro x h; first | (refine bad7_nl ?_; first | (obtain ⟨_, rfl, _⟩ := h; rfl) | (obtain rfl := h; rfl)) | (obtain ⟨_, rfl, rfl⟩ := h; exact bad7_long (.inl (by decide))) | (obtain ⟨_, rfl, rfl⟩ := h; exact bad7_long (.inr (by decide +kernel))) | (obtain ⟨_, rfl, _, _, rfl, ⟨_, rfl, _⟩, _⟩ := h; exact bad7_ne List.mem_cons_self (fun _ e => nomatch e)) | (obtain ⟨_, rfl, _, _, rfl, rfl, rfl⟩ := h; exact dbl)) (oa_consN (oe_lrg (n := 13) (by first | decide | omega) (oe_intI (by decide))) (by intro x h; first | (refine bad7_nl ?_; first | (obtain ⟨_, rfl, _⟩ := h; rfl) | (obtain rfl := h; rfl)) | (obtain ⟨_, rfl, rfl⟩ := h; exact bad7_long (.inl (by decide))) | (obtain ⟨_, rfl, rfl⟩ := h; exact bad7_long (.inr (by decide +kernel))) | (obtain ⟨_, rfl, _, _, rfl, ⟨_, rfl, _⟩, _⟩ := h; exact bad7_ne List.mem_cons_self (fun _ e => nomatch e)) | (obtain ⟨_, rfl, _, _, rfl, rfl, rfl⟩ := h; exact dbl)) (oa_nilN (fun x => ¬ GoodD x)))))))))))))) (by decide) fun vs H10 p e10 D10 oo np => ?_
    obtain ⟨es, g1, g2, g3, g4⟩ := oo
    have npd : p ≠ d := DqAt.ne (H := H10) D10 np
    have s11 := same_new (o := .lst vs) np
    have hp11 : (upd H10 p (.lst vs)) p = some (.lst vs) := upd_same
    have D11 : (srcNF d p vs).At (upd H10 p (.lst vs)) := ⟨DqAt.same (H := H10) D10 s11, hp11, npd⟩
    replace o_order := o_order.kp e10
    replace o_n := o_n.kp e10
    replace o_spoilt := o_spoilt.kp e10
    replace kk := KeepD.trans kk e10
    have hvl := g1.len
    generalize upd H10 p (.lst vs) = H11 at s11 D11 hp11 ⊢
    refine ⟨_, rfl, .inl ⟨rfl, _, SqL.of hp11⟩, ?_⟩
    have z_order := o_order
    have z_n := o_n
    have of_ : ∀ {m k : Nat} {B : PyData → Prop} {v : V}, Od (srcN d) m k B H10 v → Od (srcNF d p vs) m k B H11 v := fun ⟨x, h1, h2, h3⟩ => ⟨x, h1.same fun b o e => by
      obtain ⟨e1, e2⟩ := cut1_of e
      show cut1 p (cut1 d H11) b = _
      rw [cut1_ne (ne_of_none e1 np), cut1_ne e2]
      exact s11 _ _ e1, h2, h3⟩
    replace o_order := of_ z_order
    replace o_n := of_ z_n
    refine oa_one (S := srcNF d p vs) D11 (oe_cat (oe_v rfl o_order) (oe_lst (oa_cons (oe_add (oe_v rfl o_n) (oe_intI (by decide)) (by grind)) oa_nil) (by decide)) (by decide)) fun v1 H12 e12 D12 o1 => ?_
    refine ⟨p, _, _, rfl, rfl, D12.2.1, line_lt (by omega), ?_⟩
    have kA : KeepD d H10 (upd H12 p (.lst (vs ++ [v1]))) := fun b o e nb => by
      have nbp := ne_of_none e np
      rw [upd_ne nbp]
      exact e12 b o (s11 _ _ e) nb nbp
    have D13 : DqAt (upd H12 p (.lst (vs ++ [v1]))) d := D12.1.upd npd
    have o_some : Od (srcN d) 60000 6 (oL fun ds => ds.length = 13 ∧ ∀ x ∈ ds, ¬ GoodD x) (upd H12 p (.lst (vs ++ [v1]))) (.ref p) := by
      obtain ⟨y1, h1, h2, h3⟩ := o1
      refine ⟨.list (es ++ [y1]), .lst (by show cut1 d _ p = _; rw [cut1_ne npd]; exact upd_same) ((g1.same ((srcN d).kp kA)).app (.cons (h1.same fun b o e => ?_) .nil)), ?_, _, rfl, by rw [List.length_append, g3]; rfl, fun x m => ?_⟩
      · obtain ⟨e1, e2⟩ := cut1_of e
        obtain ⟨e3, e4⟩ := cut1_of e1
        show cut1 d _ b = _
        rw [cut1_ne e4, upd_ne e2]
        exact e3
      · exact (rw_list (rws_snoc (g2.mono (Nat.le_refl _) (show _ ≤ 5 by decide)) (h2.mono (Nat.le_refl _) (show _ ≤ 5 by decide)))).mono (by decide) (by decide)
      · rcases List.mem_append.mp m with m | m
        · exact g4 x m
        · rw [List.mem_singleton.mp m]
          obtain ⟨_, rfl, _, _, rfl, rfl, ⟨y, _, rfl, ⟨_, rfl, _, _, rfl, rfl, rfl⟩, rfl⟩⟩ := h3
          exact bad7_mem (x := .int ((n : Int) + 1)) (n := n + 1) (by simp) (by simp [hnl]) fun i e => by injection e with e; omega
    replace o_order := z_order.kp kA
    replace o_n := z_n.kp kA
    replace o_spoilt := o_spoilt.kp kA
    replace kk := KeepD.trans kk kA
    generalize upd H12 p (.lst (vs ++ [v1])) = H13 at D13 o_some o_order o_n o_spoilt kk ⊢
    clear z_order z_n kA o1 D12 e12 of_ D11 s11 hp11 g1 g2 np e10 D10 kC
    have ho13 := kk _ _ ho nod
    obtain ⟨x0, hx0⟩ : ∃ x, ns[0]? = some x := ⟨_, List.getElem?_eq_getElem (by omega)⟩
    have m0 := hon.mem (List.mem_of_getElem? hx0)
    refine os_set (S := srcN d) (m := 80000) (k := 7) (B := oL fun ds => ds.length = 14 ∧ ∀ x ∈ ds, ¬ GoodD x) D13 ((oe_catN (n2 := 1) (C := fun x => ¬ GoodD x) (oe_v rfl o_some) (oe_lst (oa_consN (B := fun x => ¬ GoodD x) (a := 2000) (k := 3) (oe_if (!decide (V.int x0 = V.int 1)) (fun H1 Q e1 at1 q => ?_) (fun hb => ?_) (fun hb => oe_if (decide (1 < (n : Int))) (fun H1 Q e1 at1 q => ?_) (fun hb2 => ?_) (fun hb2 => ?_))) (fun _ h => h) (oa_nilN _)) (by decide)) (by decide)).mono (by decide) (by decide) fun _ h => h) fun x14 H14 k14 D14 o_some2 => ?_
    · exact ⟨_, rfl, o, _, _, _, rfl, rfl, SqL.of (e1 _ _ ho13 nod), at_of (j := 0) rfl (by rw [List.getElem?_map, hx0]; rfl), rfl, _, rfl, q⟩
    · refine ((oe_cat (oe_lst (oa_cons (oe_intI (by decide)) oa_nil) (by decide)) (oe_sl (oe_v rfl o_order) (oo_some (oe_intI (by decide))) oo_none) (by decide))).mono (by decide) (by decide) ?_
      rintro _ ⟨_, rfl, _, _, rfl, ⟨_, _, rfl, ⟨_, rfl, rfl⟩, rfl⟩, ⟨_, _, _, rfl, rfl, ⟨_, rfl, rfl⟩, rfl⟩⟩
      exact head_bad hon hx0 (fun e => by rw [← e] at hb; exact absurd hb (by decide)) (by decide)
    · exact ⟨_, rfl, _, _, rfl, rfl, _, rfl, q⟩
    · have e0 : x0 = 1 := by simpa using hb
      refine ((oe_cat (oe_lst (oa_cons (oe_intI (by decide)) oa_nil) (by decide)) (oe_sl (oe_v rfl o_order) (oo_some (oe_intI (by decide))) oo_none) (by decide))).mono (by decide) (by decide) ?_
      rintro _ ⟨_, rfl, _, _, rfl, ⟨_, _, rfl, ⟨_, rfl, rfl⟩, rfl⟩, ⟨_, _, _, rfl, rfl, ⟨_, rfl, rfl⟩, rfl⟩⟩
      exact head_bad hon hx0 (by omega) (by decide)
    · have e0 : x0 = 1 := by simpa using hb
      have e1 : ¬ 1 < (n : Int) := by simpa using hb2
      exact absurd m0.2 (by omega)
    have D14' := D14
    replace o_spoilt := o_spoilt.kp k14
    have o_some := o_some2
    replace kk := KeepD.trans kk k14
    refine os_ret (S := srcN d) D14 (oe_ix (oe_lst (oa_consN (oe_v rfl o_spoilt) (by exact fun _ h => h) (oa_consN (oe_ix (oe_v rfl o_some) (oe_modC 14 (oe_next rfl) (by decide)) (by grind)) (by exact fun _ h => h) (oa_nilN (fun x => ¬ GoodD x)))) (by decide)) (oe_int1 (oe_eqI (oe_modC 3 (oe_next rfl) (by decide)) (oe_intI (by decide)))) (by grind)) fun u H' k' D' o' => q u H' (o'.mono (by decide) (by decide) fun _ h => h) D' (KeepD.trans k1 (KeepD.trans kk k'))
end
end Fo
namespace Fo
open PySem PySem.Spec PyProof.Rows L2
theorem ll_dq68 {H : Hp} : ∀ {as : List Addr} {rs : List (List Int)}, LL H as rs → DqAll H (as.map V.ref) (rs.map fun r => PyData.list (r.map PyData.int))
  | [], [], _ => .nil
  | _ :: _, _ :: _, h => .cons (dq_list h.1) (ll_dq68 h.2)
  | [], _ :: _, h => h.elim
  | _ :: _, [], h => h.elim
theorem ol_dq68 {H : Hp} {l : Addr} {as : List Addr} {rs : List (List Int)} {n : Nat} (h : OL H l as rs n) : Dq H (.ref l) (dLL rs) := .lst h.top (ll_dq68 h.ll)
theorem ol_old68 {H : Hp} {l : Addr} {as : List Addr} {rs : List (List Int)} {n : Nat} (h : OL H l as rs n) : OLd (dLL rs) := by
  refine ⟨_, rfl, fun x m => ?_, fun x mx y my => ?_⟩
  · obtain ⟨r, mr, rfl⟩ := List.mem_map.mp m
    have o := h.ord r mr
    have l := o.len
    exact ⟨r, rfl, by rw [l]; exact o, by have := h.n1; omega, by have := h.n2; omega⟩
  · obtain ⟨r, mr, rfl⟩ := List.mem_map.mp mx
    obtain ⟨r2, mr2, rfl⟩ := List.mem_map.mp my
    show (r.map PyData.int).length = (r2.map PyData.int).length
    rw [List.length_map, List.length_map, (h.ord r mr).len, (h.ord r2 mr2).len]
end Fo
namespace Fo
open PySem PySem.Spec PyProof.Rows L2
/-! polls, asked of anything -/
def PollD (d : PyData) : Prop := OLd d ∧ ∀ ds, d = .list ds → 1 ≤ ds.length ∧ ds.length ≤ 20
/-- how many things the orders of a poll have -/
def nP : PyData → Nat
  | .list (x :: _) => lenD x
  | _ => 0
def lmP : PyData → Int
  | .str z => if z = "swap" then 9 else 6
  | _ => 6
theorem poll_ol {H : Hp} {v : V} {d : PyData} (h : Dq H v d) (g : PollD d) : ∃ (l : Addr) (as : List Addr) (rs : List (List Int)), v = .ref l ∧ OL H l as rs (nP d) ∧ 1 ≤ rs.length ∧ rs.length ≤ 20 := by
  obtain ⟨⟨ds, rfl, g1, g2⟩, g3⟩ := g
  obtain ⟨h1, h2⟩ := g3 ds rfl
  cases h with
  | @lst a xs _ e al =>
    obtain ⟨as, rfl, hL⟩ := good_ll al g1
    obtain ⟨d0, ds', rfl⟩ : ∃ d0 ds', ds = d0 :: ds' := by
      cases ds with
      | nil => exact absurd h1 (by decide)
      | cons d0 r => exact ⟨d0, r, rfl⟩
    have z0 := good_ints (g1 d0 List.mem_cons_self)
    have e0 : nP (.list (d0 :: ds')) = (intsD d0).length := by
      show lenD d0 = _
      rw [z0.1, intsD_of]
      show ((intsD d0).map PyData.int).length = _
      rw [List.length_map]
    refine ⟨a, as, (d0 :: ds').map intsD, rfl, ⟨e, hL, fun r m => ?_, by rw [e0]; exact z0.2.2.1, by rw [e0]; exact z0.2.2.2⟩, by rw [List.length_map]; exact h1, by rw [List.length_map]; exact h2⟩
    obtain ⟨y, my, rfl⟩ := List.mem_map.mp m
    have z1 := good_ints (g1 y my)
    have e1 : lenD y = (intsD y).length := by
      rw [z1.1, intsD_of]
      show ((intsD y).map PyData.int).length = _
      rw [List.length_map]
    have e2 := g2 y my d0 List.mem_cons_self
    have e3 : lenD d0 = nP (.list (d0 :: ds')) := rfl
    rw [← e3, ← e2, e1]
    exact z1.2.1
theorem ol_poll {H : Hp} {l : Addr} {as : List Addr} {rs : List (List Int)} {n : Nat} (h : OL H l as rs n) (h1 : 1 ≤ rs.length) (h2 : rs.length ≤ 20) : Dq H (.ref l) (dLL rs) ∧ PollD (dLL rs) ∧ nP (dLL rs) = n := by
  refine ⟨ol_dq68 h, ⟨ol_old68 h, fun ds e => by injection e with e; rw [← e, List.length_map]; exact ⟨h1, h2⟩⟩, ?_⟩
  cases rs with
  | nil => exact absurd h1 (by decide)
  | cons r rs =>
    show ((r.map PyData.int).length) = n
    rw [List.length_map]
    exact (h.ord r List.mem_cons_self).len
def spCPX (cO : Addr) : Sp := fun vs H Q E => ∃ (v : V) (d : PyData), vs = [v] ∧ Dq H v d ∧ (∀ ds, d = .list ds → ds.length ≤ 1000000) ∧ (PollD d → ∀ H', Same H H' → Q .non H') ∧ (¬ PollD d → ∀ H', Same H H' → E (.ref cO) none H')
def spFewY (cT : Addr) : Sp := fun vs H Q E => ∃ (n m : Int), vs = [.int n, .int m] ∧ 0 ≤ m ∧ m ≤ 12 ∧ (n ≤ m → Q .non H) ∧ (m < n → E (.ref cT) none H)
def spPSX (cO cW cF : Addr) : Sp := fun vs H Q E => ∃ (x p o : V) (f dp d : PyData), vs = [x, p, o] ∧ Dq H x f ∧ Dq H p dp ∧ Dq H o d ∧ (∀ ds, dp = .list ds → ds.length ≤ 1000000) ∧
  ((¬ (PollD dp ∧ GoodD d) ∧ ∀ H', Same H H' → E (.ref cO) none H') ∨ (PollD dp ∧ GoodD d ∧ ¬ WayD f ∧ ∀ H', Same H H' → E (.ref cW) none H') ∨ (PollD dp ∧ GoodD d ∧ WayD f ∧ lenD d ≠ nP dp ∧ ∀ H', Same H H' → E (.ref cF) none H')
   ∨ (PollD dp ∧ GoodD d ∧ WayD f ∧ lenD d = nP dp ∧ ∀ (i : Int) (H' : Hp), Same H H' → Q (.int i) H'))
def spMidR (cO cW cT : Addr) : Sp := fun vs H Q E => ∃ (x p : V) (f dp : PyData), vs = [x, p] ∧ Dq H x f ∧ Dq H p dp ∧ (∀ ds, dp = .list ds → ds.length ≤ 1000000) ∧
  ((¬ PollD dp ∧ ∀ H', Same H H' → E (.ref cO) none H') ∨ (PollD dp ∧ ¬ WayD f ∧ ∀ H', Same H H' → E (.ref cW) none H') ∨ (PollD dp ∧ WayD f ∧ lmP f < nP dp ∧ ∀ H', Same H H' → E (.ref cT) none H'))
def spPaR (cO : Addr) : Sp := fun vs H Q E => ∃ (p : V) (dp : PyData), vs = [p] ∧ Dq H p dp ∧ (∀ ds, dp = .list ds → ds.length ≤ 1000000) ∧ ¬ PollD dp ∧ ∀ H', Same H H' → E (.ref cO) none H'
def spRiR (cO cT : Addr) : Sp := fun vs H Q E => ∃ (p : V) (dp : PyData), vs = [p] ∧ Dq H p dp ∧ (∀ ds, dp = .list ds → ds.length ≤ 1000000) ∧ ((¬ PollD dp ∧ ∀ H', Same H H' → E (.ref cO) none H') ∨ (PollD dp ∧ 9 < nP dp ∧ ∀ H', Same H H' → E (.ref cT) none H'))
section
variable {P : Program} {w : World} {K : PySem.W.Frag} {mg : Str → Option Value} {base : Heap}
theorem scCPX : FnScope ["thing"] ["thing"] (defScope s_check_poll) := ⟨rfl, rfl, rfl, by decide +kernel, rfl, by decide +kernel, by decide +kernel⟩
set_option maxHeartbeats 2000000 in
theorem ok_cpX {f f1 cO : Addr} {fd d1 : FuncData} {k : Nat} {t : Tok} (T : Df K mg "check_poll" s_check_poll ["thing"] f fd) (T_is_order_list : Df K mg "is_order_list" s_is_order_list ["thing"] f1 d1) (G_is_order_list : FnOk P w K mg base CX0 k f1 d1 ["thing"] spOLD) (X_NoOrder : ExK K mg "NoOrder" cO) (B : Bi mg) (mP : mg "MOST_POLLED" = some (.int 20 t)) : FnOk P w K mg base (L2.CX P w) (k + 1) f fd ["thing"] (spCPX cO) := by
  refine T.F.okX scCPX (fun vs H Q E h => ?_) (fun cdv A outer s H vs Q E hr h => ?_)
  · obtain ⟨v, d, rfl, _⟩ := h
    rfl
  · obtain ⟨v, d, rfl, hd, hl, q1, q2⟩ := h
    refine ⟨_, 
      (pss_one (ps_if (PW.pt (pw_or (pt_not (pt_val (pe_call G_is_order_list hr (by rfl) T_is_order_list.g T_is_order_list.F.kp T_is_order_list.b .nil pass0 (pa_cons (pv 0) pa_nil)))) (pw_or (pt_cmpR op_eq (pe_callB call_len_seq (by rfl) B.len PySem.boot_len (pa_cons (pv 0) pa_nil)) pe_int (nomark _)) (pw_or1 (pt_cmpR op_gt (pe_callB call_len_seq (by rfl) B.len PySem.boot_len (pa_cons (pv 0) pa_nil)) (pe_glob (v := .int 20) (by rfl) mP ⟨_, rfl⟩) (nomark _))))))
        (pss_one (ps_raiseK rfl (takes_of rfl rfl rfl rfl) X_NoOrder (by rfl)))
        pss_nil)), ?_⟩
    refine ⟨_, rfl, v, d, rfl, hd, hl, fun b H1 hb s1 => ⟨_, rfl, ?_⟩⟩
    cases b with
    | false => exact iteT (iteT (q2 (fun z => absurd (hb.mpr z.1) Bool.false_ne_true) _ s1))
    | true =>
      have hO := hb.mp rfl
      obtain ⟨ds, rfl, g1, g2⟩ := id hO
      cases hd with
      | @lst a xs _ e al =>
        have hxl := al.len
        have e1 := s1 _ _ e
        refine iteF ⟨_, rfl, a, _, rfl, .inl (SqL.of e1), rfl, _, rfl, ?_⟩
        by_cases c : ds.length = 0
        · refine ite2 (fun _ => iteT (q2 (fun z => ?_) _ s1)) (fun cc => absurd (decide_eq_true (show V.int ((xs.length : Nat) : Int) = V.int 0 by rw [hxl, c]; rfl)) cc)
          have := (z.2 ds rfl).1
          omega
        · refine ite2 (fun cc => absurd (V.int.inj (of_decide_eq_true cc)) (by rw [hxl]; omega)) (fun _ => ?_)
          refine ⟨_, rfl, a, _, rfl, .inl (SqL.of e1), _, 20, rfl, rfl, _, rfl, ?_⟩
          by_cases c2 : (20 : Int) < ((xs.length : Nat) : Int)
          · refine ite2 (fun _ => q2 (fun z => ?_) _ s1) (fun cc => absurd (decide_eq_true c2) cc)
            have := (z.2 ds rfl).2
            omega
          · exact ite2 (fun cc => absurd (of_decide_eq_true cc) c2) (fun _ => q1 ⟨hO, fun ds' e' => by injection e' with e'; subst e'; omega⟩ _ s1)
theorem scFewY : FnScope ["n", "most"] ["n", "most"] (defScope s_check_few) := ⟨rfl, rfl, rfl, by decide +kernel, rfl, by decide +kernel, by decide +kernel⟩
theorem ok_fewY {f cT : Addr} {fd : FuncData} {k : Nat} (T : Df K mg "check_few" s_check_few ["n", "most"] f fd) (X_TooMany : ExK K mg "TooMany" cT) : FnOk P w K mg base (L2.CX P w) (k + 1) f fd ["n", "most"] (spFewY cT) := by
  refine T.F.okX scFewY (fun vs H Q E h => ?_) (fun cdv A outer s H vs Q E hr h => ?_)
  · obtain ⟨n, m, rfl, _⟩ := h
    rfl
  · obtain ⟨n, m, rfl, m0, m1, q1, q2⟩ := h
    refine ⟨_, 
      (pss_one (ps_if (pt_cmpR op_gt (pv 0) (pv 1) (nomark _))
        (pss_one (ps_raiseA rfl (takes_of rfl rfl rfl rfl) X_TooMany (by rfl) (pe_joined (PJ.cons pe_str (PJ.cons (pe_fmt (pv 1)) (PJ.cons pe_str PJ.nil))))))
        pss_nil)), ?_⟩
    have fits : ∀ u : Nat, u < 13 → ((u : Int).natAbs.log2 < 1920 ∧ (Str.empty ++ Str.ofString "more than " ++ Str.ofString (toString (u : Int))).length ≤ 16777216 ∧ (Str.empty ++ Str.ofString "more than " ++ Str.ofString (toString (u : Int)) ++ Str.ofString " things").length ≤ 16777216) := by decide +kernel
    obtain ⟨u, rfl⟩ : ∃ u : Nat, m = (u : Int) := ⟨m.toNat, by omega⟩
    obtain ⟨g1, g2, g3⟩ := fits u (by omega)
    refine ⟨_, rfl, _, rfl, n, u, rfl, rfl, _, rfl, ite2 (fun c => ?_) (fun c => q1 (Int.not_lt.mp fun h => c (decide_eq_true h)))⟩
    refine ⟨_, rfl, by decide +kernel, _, rfl, .inr ⟨u, rfl, g1, _, rfl, g2, _, rfl, g3, q2 (of_decide_eq_true c)⟩⟩
theorem scPSX : FnScope ["way", "poll", "order"] ["way", "poll", "order"] (defScope s_poll_sum) := ⟨rfl, rfl, rfl, by decide +kernel, rfl, by decide +kernel, by decide +kernel⟩
set_option maxHeartbeats 2000000 in
theorem ok_psX {f f1 f2 f3 f4 f5 cO cW cF : Addr} {fd d1 d2 d3 d4 d5 : FuncData} {k : Nat} (T : Df K mg "poll_sum" s_poll_sum ["way", "poll", "order"] f fd) (T_check_poll : Df K mg "check_poll" s_check_poll ["thing"] f1 d1) (T_check_order : Df K mg "check_order" s_check_order ["thing"] f2 d2) (T_check_way : Df K mg "check_way" s_check_way ["thing"] f3 d3) (T_check_fit : Df K mg "check_fit" s_check_fit ["one", "other"] f4 d4) (T_known_sum : Df K mg "known_sum" s_known_sum ["way", "poll", "order"] f5 d5) (G_check_poll : FnOk P w K mg base (L2.CX P w) k f1 d1 ["thing"] (spCPX cO)) (G_check_order : FnOk P w K mg base (L2.CX P w) k f2 d2 ["thing"] (spChk cO)) (G_check_way : FnOk P w K mg base (L2.CX P w) k f3 d3 ["thing"] (spWayX cW)) (G_check_fit : FnOk P w K mg base (L2.CX P w) k f4 d4 ["one", "other"] (spFitX cF)) (G_known_sum : FnOk P w K mg base CX0 k f5 d5 ["way", "poll", "order"] spKSum) : FnOk P w K mg base (L2.CX P w) (k + 1) f fd ["way", "poll", "order"] (spPSX cO cW cF) := by
  refine T.F.okX scPSX (fun vs H Q E h => ?_) (fun cdv A outer s H vs Q E hr h => ?_)
  · obtain ⟨x, p, o, f, dp, d, rfl, _⟩ := h
    rfl
  · obtain ⟨x, p, o, f, dp, d, rfl, hf, hp, hd, hl, q⟩ := h
    refine ⟨_, 
      (pss_cons (ps_expr (pe_callS G_check_poll hr (by rfl) T_check_poll.g T_check_poll.F.kp T_check_poll.b (fun σ => passAt (takes_of rfl rfl rfl rfl) σ) (pa_cons (pv 1) pa_nil)))
      (pss_cons (ps_expr (pe_callS G_check_order hr (by rfl) T_check_order.g T_check_order.F.kp T_check_order.b (fun σ => passAt (takes_of rfl rfl rfl rfl) σ) (pa_cons (pv 2) pa_nil)))
      (pss_cons (ps_expr (pe_callS G_check_way hr (by rfl) T_check_way.g T_check_way.F.kp T_check_way.b (fun σ => passAt (takes_of rfl rfl rfl rfl) σ) (pa_cons (pv 0) pa_nil)))
      (pss_cons (ps_expr (pe_callS G_check_fit hr (by rfl) T_check_fit.g T_check_fit.F.kp T_check_fit.b (fun σ => passAt (takes_of rfl rfl rfl rfl) σ) (pa_cons (pv 2) (pa_cons (pe_ix ix_list (pv 1) pe_int (fun _ _ => rfl)) pa_nil))))
      (pss_one (ps_ret (pe_call G_known_sum hr (by rfl) T_known_sum.g T_known_sum.F.kp T_known_sum.b .nil pass0 (pa_cons (pv 0) (pa_cons (pv 1) (pa_cons (pv 2) pa_nil)))))))))), ?_⟩
    refine ⟨_, rfl, p, dp, rfl, hp, hl, fun g1 H1 s1 => ?_, fun n1 H1 s1 => ?_⟩
    rotate_left
    · rcases q with ⟨_, q⟩ | ⟨g, _⟩ | ⟨g, _⟩ | ⟨g, _⟩
      · exact q _ s1
      all_goals exact absurd g n1
    refine ⟨_, rfl, o, d, rfl, hd.same s1, fun g2 H2 s2 => ?_, fun n2 H2 s2 => ?_⟩
    rotate_left
    · rcases q with ⟨_, q⟩ | ⟨_, g, _⟩ | ⟨_, g, _⟩ | ⟨_, g, _⟩
      · exact q _ (s1.trans s2)
      all_goals exact absurd g n2
    have s12 := s1.trans s2
    refine ⟨_, rfl, x, f, rfl, hf.same s12, fun g3 => ?_, fun n3 => ?_⟩
    rotate_left
    · rcases q with ⟨z, _⟩ | ⟨_, _, _, q⟩ | ⟨_, _, g, _⟩ | ⟨_, _, g, _⟩
      · exact absurd ⟨g1, g2⟩ z
      · exact q _ s12
      all_goals exact absurd g n3
    obtain ⟨l, as, rs, rfl, hO, h1, h2⟩ := poll_ol (hp.same s12) g1
    obtain ⟨a, ns, rfl, ha, on, _, _, e1⟩ := good_at (hd.same s12) g2
    obtain ⟨z, rfl, wz⟩ := id g3
    cases hf
    obtain ⟨a0, ea0⟩ : ∃ a0, as[0]? = some a0 := ⟨_, List.getElem?_eq_getElem (by rw [hO.ll.len]; omega)⟩
    obtain ⟨r0, er0, ha0⟩ := hO.ll.get ea0
    have l0 := (hO.ord r0 (List.mem_of_getElem? er0)).len
    refine ⟨_, rfl, _, rfl, l, _, 0, _, rfl, rfl, SqL.of hO.top, at_of (j := 0) rfl (ref_at ea0), a, a0, _, _, rfl, ha, ha0, fun c => ?_, fun c => ?_⟩
    · rw [List.length_map, List.length_map] at c
      have e2 : lenD d = nP dp := by rw [e1, c, l0]
      refine ⟨_, rfl, _, rfl, _, rfl, z, l, a, as, rs, nP dp, ns, rfl, wz, hO, by omega, ha, by rw [← e2, e1]; exact on, fun H' s' => ?_⟩
      rcases q with ⟨z, _⟩ | ⟨_, _, z, _⟩ | ⟨_, _, _, z, _⟩ | ⟨_, _, _, _, q⟩
      · exact absurd ⟨g1, g2⟩ z
      · exact absurd g3 z
      · exact absurd e2 z
      · exact q _ _ (s12.trans s')
    · rw [List.length_map, List.length_map] at c
      have e2 : lenD d ≠ nP dp := by rw [e1, ← l0]; exact c
      rcases q with ⟨z, _⟩ | ⟨_, _, z, _⟩ | ⟨_, _, _, _, q⟩ | ⟨_, _, _, z, _⟩
      · exact absurd ⟨g1, g2⟩ z
      · exact absurd g3 z
      · exact q _ s12
      · exact absurd z e2
theorem scMidR : FnScope ["way", "poll", "n"] ["way", "poll"] (defScope s_middle_of) := ⟨rfl, rfl, rfl, by decide +kernel, rfl, by decide +kernel, by decide +kernel⟩
set_option maxHeartbeats 2000000 in
theorem ok_midR {f f1 f3 f4 f5 f6 f7 cO cW cT : Addr} {fd d1 d3 d4 d5 d6 d7 : FuncData} {k : Nat} {tB tL : Tok} (T : Df K mg "middle_of" s_middle_of ["way", "poll"] f fd) (T_check_poll : Df K mg "check_poll" s_check_poll ["thing"] f1 d1) (T_check_way : Df K mg "check_way" s_check_way ["thing"] f3 d3) (T_check_few : Df K mg "check_few" s_check_few ["n", "most"] f4 d4) (T_counts_ahead : Df K mg "counts_ahead" s_counts_ahead ["poll"] f5 d5) (T_middle_by_pairs : Df K mg "middle_by_pairs" s_middle_by_pairs ["ahead"] f6 d6) (T_middle_by_all : Df K mg "middle_by_all" s_middle_by_all ["way", "poll", "n"] f7 d7) (G_check_poll : FnOk P w K mg base (L2.CX P w) k f1 d1 ["thing"] (spCPX cO)) (G_check_way : FnOk P w K mg base (L2.CX P w) k f3 d3 ["thing"] (spWayX cW)) (G_check_few : FnOk P w K mg base (L2.CX P w) k f4 d4 ["n", "most"] (spFewY cT)) (G_counts_ahead : FnOk P w K mg base CX0 k f5 d5 ["poll"] spAhead) (G_middle_by_pairs : FnOk P w K mg base CX0 k f6 d6 ["ahead"] spMPairs) (G_middle_by_all : FnOk P w K mg base CX0 k f7 d7 ["way", "poll", "n"] spMAll) (B : Bi mg) (mB : mg "MOST_BY_PAIRS" = some (.int 9 tB)) (mL : mg "MOST_LISTED" = some (.int 6 tL)) : FnOk P w K mg base (L2.CX P w) (k + 1) f fd ["way", "poll"] (spMidR cO cW cT) := by
  refine T.F.okX scMidR (fun vs H Q E h => ?_) (fun cdv A outer s H vs Q E hr h => ?_)
  · obtain ⟨x, p, f, dp, rfl, _⟩ := h
    rfl
  · obtain ⟨x, p, f, dp, rfl, hf, hp, hl, q⟩ := h
    refine ⟨_, 
      (pss_cons (ps_expr (pe_callS G_check_poll hr (by rfl) T_check_poll.g T_check_poll.F.kp T_check_poll.b (fun σ => passAt (takes_of rfl rfl rfl rfl) σ) (pa_cons (pv 1) pa_nil)))
      (pss_cons (ps_expr (pe_callS G_check_way hr (by rfl) T_check_way.g T_check_way.F.kp T_check_way.b (fun σ => passAt (takes_of rfl rfl rfl rfl) σ) (pa_cons (pv 0) pa_nil)))
      (pss_cons (ps_set (i := 2) scMidR.nd rfl (.inl rfl) (pe_callB call_len_seq (by rfl) B.len PySem.boot_len (pa_cons (pe_ix ix_list (pv 1) pe_int (fun _ _ => rfl)) pa_nil)))
      (pss_cons (ps_if (pt_cmpR op_eq (pv 0) pe_str (nomark _))
        (pss_cons (ps_expr (pe_callS G_check_few hr (by rfl) T_check_few.g T_check_few.F.kp T_check_few.b (fun σ => passAt (takes_of rfl rfl rfl rfl) σ) (pa_cons (pv 2) (pa_cons (pe_glob (v := .int 9) (by rfl) mB ⟨_, rfl⟩) pa_nil))))
        (pss_one (ps_ret (pe_call G_middle_by_pairs hr (by rfl) T_middle_by_pairs.g T_middle_by_pairs.F.kp T_middle_by_pairs.b .nil pass0 (pa_cons (pe_call G_counts_ahead hr (by rfl) T_counts_ahead.g T_counts_ahead.F.kp T_counts_ahead.b .nil pass0 (pa_cons (pv 1) pa_nil)) pa_nil)))))
        pss_nil)
      (pss_cons (ps_expr (pe_callS G_check_few hr (by rfl) T_check_few.g T_check_few.F.kp T_check_few.b (fun σ => passAt (takes_of rfl rfl rfl rfl) σ) (pa_cons (pv 2) (pa_cons (pe_glob (v := .int 6) (by rfl) mL ⟨_, rfl⟩) pa_nil))))
      (pss_one (ps_ret (pe_call G_middle_by_all hr (by rfl) T_middle_by_all.g T_middle_by_all.F.kp T_middle_by_all.b .nil pass0 (pa_cons (pv 0) (pa_cons (pv 1) (pa_cons (pv 2) pa_nil))))))))))), ?_⟩
    refine ⟨_, rfl, p, dp, rfl, hp, hl, fun g1 H1 s1 => ?_, fun n1 H1 s1 => ?_⟩
    rotate_left
    · rcases q with ⟨_, q⟩ | ⟨g, _⟩ | ⟨g, _⟩
      · exact q _ s1
      all_goals exact absurd g n1
    refine ⟨_, rfl, x, f, rfl, hf.same s1, fun g3 => ?_, fun n3 => ?_⟩
    rotate_left
    · rcases q with ⟨z, _⟩ | ⟨_, _, q⟩ | ⟨_, g, _⟩
      · exact absurd g1 z
      · exact q _ s1
      all_goals exact absurd g n3
    obtain ⟨l, as, rs, rfl, hO, h1, h2⟩ := poll_ol (hp.same s1) g1
    obtain ⟨z, rfl, wz⟩ := id g3
    cases hf
    obtain ⟨a0, ea0⟩ : ∃ a0, as[0]? = some a0 := ⟨_, List.getElem?_eq_getElem (by rw [hO.ll.len]; omega)⟩
    obtain ⟨r0, er0, ha0⟩ := hO.ll.get ea0
    have l0 := (hO.ord r0 (List.mem_of_getElem? er0)).len
    have l0' : (r0.map V.int).length = nP dp := by rw [List.length_map, l0]
    have hgt : lmP (.str z) < nP dp ∧ ∀ H', Same H H' → E (.ref cT) none H' := by
      rcases q with ⟨z, _⟩ | ⟨_, z, _⟩ | ⟨_, _, q⟩
      · exact absurd g1 z
      · exact absurd g3 z
      · exact q
    refine ⟨_, rfl, l, _, 0, _, rfl, rfl, SqL.of hO.top, at_of (j := 0) rfl (ref_at ea0), a0, _, rfl, .inl (SqL.of ha0), ?_⟩
    rw [l0']
    refine ⟨_, rfl, rfl, _, rfl, ?_⟩
    by_cases c : z = "swap"
    · subst c
      refine ite2 (fun _ => ?_) (fun c => absurd (decide_eq_true rfl) c)
      refine ⟨_, rfl, _, _, rfl, by decide, by decide, fun c => ?_, fun _ => hgt.2 _ s1⟩
      have : (9 : Int) < nP dp := hgt.1
      omega
    · refine ite2 (fun cc => absurd (V.str.inj (of_decide_eq_true cc)) c) (fun _ => ?_)
      refine ⟨_, rfl, _, _, rfl, by decide, by decide, fun cc => ?_, fun _ => hgt.2 _ s1⟩
      have : (if z = "swap" then (9 : Int) else 6) < nP dp := hgt.1
      rw [if_neg c] at this
      omega
theorem scPaR : FnScope ["poll", "ahead", "i", "j"] ["poll"] (defScope s_pairs_ahead) := ⟨rfl, rfl, rfl, by decide +kernel, rfl, by decide +kernel, by decide +kernel⟩
theorem ok_paR {f f1 f2 cO : Addr} {fd d1 d2 : FuncData} {k : Nat} (T : Df K mg "pairs_ahead" s_pairs_ahead ["poll"] f fd) (T_check_poll : Df K mg "check_poll" s_check_poll ["thing"] f1 d1) (T_counts_ahead : Df K mg "counts_ahead" s_counts_ahead ["poll"] f2 d2) (G_check_poll : FnOk P w K mg base (L2.CX P w) k f1 d1 ["thing"] (spCPX cO)) (G_counts_ahead : FnOk P w K mg base CX0 k f2 d2 ["poll"] spAhead) (B : Bi mg) : FnOk P w K mg base (L2.CX P w) (k + 1) f fd ["poll"] (spPaR cO) := by
  refine T.F.okX scPaR (fun vs H Q E h => ?_) (fun cdv A outer s H vs Q E hr h => ?_)
  · obtain ⟨p, dp, rfl, _⟩ := h
    rfl
  · obtain ⟨p, dp, rfl, hp, hl, hn, q⟩ := h
    refine ⟨_, 
      (pss_cons (ps_expr (pe_callS G_check_poll hr (by rfl) T_check_poll.g T_check_poll.F.kp T_check_poll.b (fun σ => passAt (takes_of rfl rfl rfl rfl) σ) (pa_cons (pv 0) pa_nil)))
      (pss_cons (ps_set (i := 1) scPaR.nd rfl (.inr rfl) (pe_call G_counts_ahead hr (by rfl) T_counts_ahead.g T_counts_ahead.F.kp T_counts_ahead.b .nil pass0 (pa_cons (pv 0) pa_nil)))
      (pss_one (ps_ret (pe_dc2 hr.units0 rfl scPaR.nd (own := [("i", 2), ("j", 3)]) (vj := [3]) (wj := (iRng2 (tCons (tOp (rI0 fun i j => .int (i + j)) (tVar 2) (tC (.int 1))) (tCons (tCB (rLenS K) (tCons (tVar 1) tNil)) tNil)))) (g := (gName 2)) (tt := tYes) (gj := (gName 3)) (tj := tYes) (tk := (tTup (tCons (tVar 2) (tCons (tVar 3) tNil)))) (tv := (tOp (rIxL K) (tOp (rIxL K) (tVar 1) (tVar 2)) (tVar 3))) (pi_range1 (by rfl) B.range (pa_cons (pe_callB call_len_seq (by rfl) B.len PySem.boot_len (pa_cons (pv 1) pa_nil)) pa_nil)) (blkOk_by (N := ["poll", "ahead", "i", "j"]) (sc := defScope s_pairs_ahead) (by decide +kernel)) (by decide) (fun _ _ _ _ _ => (pg_name (i := 2) scPaR.nd rfl (.inl rfl))) (fun _ _ _ _ _ => pts_nil) (fun _ _ _ _ _ => (pi_range2 (by rfl) B.range (pa_cons (pe_op op_add (pv 2) pe_int) (pa_cons (pe_callB call_len_seq (by rfl) B.len PySem.boot_len (pa_cons (pv 1) pa_nil)) pa_nil)))) (fun _ _ _ _ _ => (pg_name (i := 3) scPaR.nd rfl (.inl rfl))) (fun _ _ _ _ _ => pts_nil) (fun _ _ _ _ _ => (pe_tup (pa_cons (pv 2) (pa_cons (pv 3) pa_nil)))) (fun _ _ _ _ _ => (pe_ix ix_list (pe_ix ix_list (pv 1) (pv 2) (fun _ _ => rfl)) (pv 3) (fun _ _ => rfl)))))))), ?_⟩
    exact ⟨_, rfl, p, dp, rfl, hp, hl, fun g1 => absurd g1 hn, fun _ => q⟩
theorem scPsR : FnScope ["poll", "ahead", "j", "i"] ["poll"] (defScope s_pair_sum) := ⟨rfl, rfl, rfl, by decide +kernel, rfl, by decide +kernel, by decide +kernel⟩
theorem ok_psR {f f1 f2 cO : Addr} {fd d1 d2 : FuncData} {k : Nat} (T : Df K mg "pair_sum" s_pair_sum ["poll"] f fd) (T_check_poll : Df K mg "check_poll" s_check_poll ["thing"] f1 d1) (T_counts_ahead : Df K mg "counts_ahead" s_counts_ahead ["poll"] f2 d2) (G_check_poll : FnOk P w K mg base (L2.CX P w) k f1 d1 ["thing"] (spCPX cO)) (G_counts_ahead : FnOk P w K mg base CX0 k f2 d2 ["poll"] spAhead) (B : Bi mg) : FnOk P w K mg base (L2.CX P w) (k + 1) f fd ["poll"] (spPaR cO) := by
  refine T.F.okX scPsR (fun vs H Q E h => ?_) (fun cdv A outer s H vs Q E hr h => ?_)
  · obtain ⟨p, dp, rfl, _⟩ := h
    rfl
  · obtain ⟨p, dp, rfl, hp, hl, hn, q⟩ := h
    refine ⟨_, 
      (pss_cons (ps_expr (pe_callS G_check_poll hr (by rfl) T_check_poll.g T_check_poll.F.kp T_check_poll.b (fun σ => passAt (takes_of rfl rfl rfl rfl) σ) (pa_cons (pv 0) pa_nil)))
      (pss_cons (ps_set (i := 1) scPsR.nd rfl (.inr rfl) (pe_call G_counts_ahead hr (by rfl) T_counts_ahead.g T_counts_ahead.F.kp T_counts_ahead.b .nil pass0 (pa_cons (pv 0) pa_nil)))
      (pss_one (ps_ret (pe_callB (cr_sum rfl) (by rfl) B.sum (by decide +kernel) (pa_cons (pe_lc2 (own := [("j", 2), ("i", 3)]) (vs1 := [3]) (g := (gName 2)) (tt := tYes) (g1 := (gName 3)) (tt1 := tYes) (te := (tCB rMin2 (tCons (tOp (rIxL K) (tOp (rIxL K) (tVar 1) (tVar 3)) (tVar 2)) (tCons (tOp (rIxL K) (tOp (rIxL K) (tVar 1) (tVar 2)) (tVar 3)) tNil)))) rfl scPsR.nd (pi_range1 (by rfl) B.range (pa_cons (pe_callB call_len_seq (by rfl) B.len PySem.boot_len (pa_cons (pv 1) pa_nil)) pa_nil)) (blkOk_by (N := ["poll", "ahead", "j", "i"]) (sc := defScope s_pair_sum) (by decide +kernel)) (by decide) (fun _ _ _ _ _ => (pg_name (i := 2) scPsR.nd rfl (.inl rfl))) (fun _ _ _ _ _ => pts_nil) (fun _ _ _ _ _ => (pi_range1 (by rfl) B.range (pa_cons (pv 2) pa_nil))) (fun _ _ _ _ _ => (pg_name (i := 3) scPsR.nd rfl (.inl rfl))) (fun _ _ _ _ _ => pts_nil) (fun _ _ _ _ _ => (pe_callB (call_min2 rfl) (by rfl) B.min (by decide +kernel) (pa_cons (pe_ix ix_list (pe_ix ix_list (pv 1) (pv 3) (fun _ _ => rfl)) (pv 2) (fun _ _ => rfl)) (pa_cons (pe_ix ix_list (pe_ix ix_list (pv 1) (pv 2) (fun _ _ => rfl)) (pv 3) (fun _ _ => rfl)) pa_nil))))) pa_nil)))))), ?_⟩
    exact ⟨_, rfl, p, dp, rfl, hp, hl, fun g1 => absurd g1 hn, fun _ => q⟩
theorem scRiR : FnScope ["poll", "n", "followers", "best", "least", "ring"] ["poll"] (defScope s_ring_of) := ⟨rfl, rfl, rfl, by decide +kernel, rfl, by decide +kernel, by decide +kernel⟩
theorem ok_riR {f f1 f2 f3 f4 cO cT : Addr} {fd d1 d2 d3 d4 : FuncData} {k : Nat} {tB : Tok} (T : Df K mg "ring_of" s_ring_of ["poll"] f fd) (T_check_poll : Df K mg "check_poll" s_check_poll ["thing"] f1 d1) (T_check_few : Df K mg "check_few" s_check_few ["n", "most"] f2 d2) (T_mostly_behind : Df K mg "mostly_behind" s_mostly_behind ["poll"] f3 d3) (T_ring_from : Df K mg "ring_from" s_ring_from ["least", "followers"] f4 d4) (G_check_poll : FnOk P w K mg base (L2.CX P w) k f1 d1 ["thing"] (spCPX cO)) (G_check_few : FnOk P w K mg base (L2.CX P w) k f2 d2 ["n", "most"] (spFewY cT)) (G_mostly_behind : FnOk P w K mg base CX0 k f3 d3 ["poll"] spMBeh) (G_ring_from : FnOk P w K mg base CX0 k f4 d4 ["least", "followers"] spRFrom) (B : Bi mg) (mB : mg "MOST_BY_PAIRS" = some (.int 9 tB)) : FnOk P w K mg base (L2.CX P w) (k + 1) f fd ["poll"] (spRiR cO cT) := by
  refine T.F.okX scRiR (fun vs H Q E h => ?_) (fun cdv A outer s H vs Q E hr h => ?_)
  · obtain ⟨p, dp, rfl, _⟩ := h
    rfl
  · obtain ⟨p, dp, rfl, hp, hl, q⟩ := h
    refine ⟨_, 
      (pss_cons (ps_expr (pe_callS G_check_poll hr (by rfl) T_check_poll.g T_check_poll.F.kp T_check_poll.b (fun σ => passAt (takes_of rfl rfl rfl rfl) σ) (pa_cons (pv 0) pa_nil)))
      (pss_cons (ps_set (i := 1) scRiR.nd rfl (.inl rfl) (pe_callB call_len_seq (by rfl) B.len PySem.boot_len (pa_cons (pe_ix ix_list (pv 0) pe_int (fun _ _ => rfl)) pa_nil)))
      (pss_cons (ps_expr (pe_callS G_check_few hr (by rfl) T_check_few.g T_check_few.F.kp T_check_few.b (fun σ => passAt (takes_of rfl rfl rfl rfl) σ) (pa_cons (pv 1) (pa_cons (pe_glob (v := .int 9) (by rfl) mB ⟨_, rfl⟩) pa_nil))))
      (pss_cons (ps_set (i := 2) scRiR.nd rfl (.inl rfl) (pe_call G_mostly_behind hr (by rfl) T_mostly_behind.g T_mostly_behind.F.kp T_mostly_behind.b .nil pass0 (pa_cons (pv 0) pa_nil)))
      (pss_cons (ps_set (i := 3) scRiR.nd rfl (.inl rfl) pe_non)
      (pss_cons (ps_for (passes_of rfl) rfl (pi_range1 (by rfl) B.range (pa_cons (pv 1) pa_nil)) (pg_name (i := 4) scRiR.nd rfl (.inl rfl))
        (pss_cons (ps_set (i := 5) scRiR.nd rfl (.inl rfl) (pe_call G_ring_from hr (by rfl) T_ring_from.g T_ring_from.F.kp T_ring_from.b .nil pass0 (pa_cons (pv 4) (pa_cons (pv 2) pa_nil))))
        (pss_one (ps_if (PW.pt (pw_and (pt_cmpR op_notN (pv 5) pe_non (nomark _)) (pw_and1 (PW.pt (pw_or (pt_cmpR op_isN (pv 3) pe_non (nomark _)) (pw_or1 (pt_cmpR op_lt (pe_callB call_len_seq (by rfl) B.len PySem.boot_len (pa_cons (pv 5) pa_nil)) (pe_callB call_len_seq (by rfl) B.len PySem.boot_len (pa_cons (pv 3) pa_nil)) (nomark _))))))))
          (pss_one (ps_set (i := 3) scRiR.nd rfl (.inl rfl) (pv 5)))
          pss_nil))))
      (pss_one (ps_ret (pv 3))))))))), ?_⟩
    refine ⟨_, rfl, p, dp, rfl, hp, hl, fun g1 H1 s1 => ?_, fun n1 H1 s1 => ?_⟩
    rotate_left
    · rcases q with ⟨_, q⟩ | ⟨g, _⟩
      · exact q _ s1
      · exact absurd g n1
    obtain ⟨l, as, rs, rfl, hO, h1, h2⟩ := poll_ol (hp.same s1) g1
    obtain ⟨a0, ea0⟩ : ∃ a0, as[0]? = some a0 := ⟨_, List.getElem?_eq_getElem (by rw [hO.ll.len]; omega)⟩
    obtain ⟨r0, er0, ha0⟩ := hO.ll.get ea0
    have l0 := (hO.ord r0 (List.mem_of_getElem? er0)).len
    have l0' : (r0.map V.int).length = nP dp := by rw [List.length_map, l0]
    refine ⟨_, rfl, l, _, 0, _, rfl, rfl, SqL.of hO.top, at_of (j := 0) rfl (ref_at ea0), a0, _, rfl, .inl (SqL.of ha0), ?_⟩
    rw [l0']
    rcases q with ⟨z, _⟩ | ⟨_, hn, q⟩
    · exact absurd g1 z
    · exact ⟨_, rfl, _, _, rfl, by decide, by decide, fun c => by omega, fun _ => q _ s1⟩
end
end Fo
namespace Fo
open PySem PySem.Spec PyProof.Rows L2
def spMidE (cO cW cT : Addr) : Sp := fun vs H Q E => spMid vs H Q E ∨ spMidR cO cW cT vs H Q E
def spPaE (cO : Addr) : Sp := fun vs H Q E => spPairs vs H Q E ∨ spPaR cO vs H Q E
def spPsE (cO : Addr) : Sp := fun vs H Q E => spPSum vs H Q E ∨ spPaR cO vs H Q E
def spRiE (cO cT : Addr) : Sp := fun vs H Q E => spRing vs H Q E ∨ spRiR cO cT vs H Q E
theorem same_at68 {H H' : Hp} {a : Addr} {o : HO} (s : Same H H') (na : H a = none) : Same H (upd H' a o) := fun b x e => by
  rw [upd_ne (ne_of_none e na)]
  exact s _ _ e
/-- what is told of an asking: the refusal's name, or nothing -/
def AskD (which : Nat) (f dp d : PyData) (r : Str) : Prop :=
  (which ≤ 4 ∧ ¬ PollD dp ∧ r = "NoOrder") ∨
  (PollD dp ∧ which = 0 ∧ ((¬ GoodD d ∧ r = "NoOrder") ∨ (GoodD d ∧ ¬ WayD f ∧ r = "NoWay") ∨ (GoodD d ∧ WayD f ∧ lenD d ≠ nP dp ∧ r = "NoFit") ∨ (GoodD d ∧ WayD f ∧ lenD d = nP dp ∧ r = ""))) ∨
  (PollD dp ∧ which = 1 ∧ ((¬ WayD f ∧ r = "NoWay") ∨ (WayD f ∧ lmP f < nP dp ∧ r = "TooMany") ∨ (WayD f ∧ nP dp ≤ lmP f ∧ r = ""))) ∨
  (PollD dp ∧ (which = 2 ∨ which = 3) ∧ r = "") ∨
  (PollD dp ∧ which = 4 ∧ ((9 < nP dp ∧ r = "TooMany") ∨ (nP dp ≤ 9 ∧ r = "")))
def spAsk68 : Sp := fun vs H Q _ => ∃ (which : Nat) (x p o : V) (f dp d : PyData) (r : Str), vs = [.int which, x, p, o] ∧ Dq H x f ∧ Dq H p dp ∧ Dq H o d ∧ Rw 100000 8 f ∧ Rw 4000000 14 dp ∧ Rw 200000 8 d ∧ (∀ ds, dp = .list ds → ds.length ≤ 1000000) ∧ AskD which f dp d r ∧ ∀ H', Same H H' → Q (.str r) H'
section
variable {P : Program} {w : World} {K : PySem.W.Frag} {mg : Str → Option Value} {base : Heap}
theorem scAsk68 : FnScope ["which", "way", "poll", "order", "found", "kept", "e"] ["which", "way", "poll", "order"] (defScope s_law_asked) := ⟨rfl, rfl, rfl, by decide +kernel, rfl, by decide +kernel, by decide +kernel⟩
set_option maxHeartbeats 4000000 in
theorem ok_ask68 {f f1 f2 f3 f4 f5 f6 cE : Addr} {c : Nat → Addr} {fd d1 d2 d3 d4 d5 d6 : FuncData} {k : Nat} (T : Df K mg "_law_asked" s_law_asked ["which", "way", "poll", "order"] f fd) (T_poll_sum : Df K mg "poll_sum" s_poll_sum ["way", "poll", "order"] f1 d1) (T_middle_of : Df K mg "middle_of" s_middle_of ["way", "poll"] f2 d2) (T_pairs_ahead : Df K mg "pairs_ahead" s_pairs_ahead ["poll"] f3 d3) (T_pair_sum : Df K mg "pair_sum" s_pair_sum ["poll"] f4 d4) (T_ring_of : Df K mg "ring_of" s_ring_of ["poll"] f5 d5) (T__law_word : Df K mg "_law_word" s_law_word ["caught"] f6 d6)
    (G_poll_sum : FnOk P w K mg base (L2.CX P w) k f1 d1 ["way", "poll", "order"] (spPSX (c 0) (c 1) (c 2))) (G_middle_of : FnOk P w K mg base (L2.CX P w) k f2 d2 ["way", "poll"] (spMidE (c 0) (c 1) (c 5))) (G_pairs_ahead : FnOk P w K mg base (L2.CX P w) k f3 d3 ["poll"] (spPaE (c 0))) (G_pair_sum : FnOk P w K mg base (L2.CX P w) k f4 d4 ["poll"] (spPsE (c 0))) (G_ring_of : FnOk P w K mg base (L2.CX P w) k f5 d5 ["poll"] (spRiE (c 0) (c 5))) (G__law_word : FnP P w K mg base k f6 d6 ["caught"] (spWordP K c)) (sy : SysAt base) (B : Bi mg)
    (k0 : KdY K c (c 0) 0) (k1 : KdY K c (c 1) 1) (k2 : KdY K c (c 2) 2) (k5 : KdY K c (c 5) 5) (g_OrderError : mg "OrderError" = some (.ref cE)) (x0 : PySem.W.exmOne K (.ref (c 0)) (.ref cE) = some true) (x1 : PySem.W.exmOne K (.ref (c 1)) (.ref cE) = some true) (x2 : PySem.W.exmOne K (.ref (c 2)) (.ref cE) = some true) (x5 : PySem.W.exmOne K (.ref (c 5)) (.ref cE) = some true) : FnG P w K mg base (k + 1) f fd ["which", "way", "poll", "order"] spAsk68 := by
  refine okG T.F scAsk68 (fun vs H Q E h => ?_) (fun cdv A outer s H vs Q E gA hr h => ?_)
  · obtain ⟨wh, x, p, o, f, dp, d, r, rfl, _⟩ := h
    rfl
  · obtain ⟨wh, x, p, o, f, dp, d, r, rfl, hf, hp, hd, rf, rp, rd, hl, ask, q⟩ := h
    refine ⟨_, 
      (pss_cons (ps_set (i := 4) scAsk68.nd rfl (.inl rfl) pe_str)
      (pss_cons (ps_set (i := 5) scAsk68.nd rfl (.inl rfl) (pe_callB (call_reprD gA hr sy) (by rfl) B.repr (by decide +kernel) (pa_cons (pe_lst (pa_cons (pv 1) (pa_cons (pv 2) (pa_cons (pv 3) pa_nil)))) pa_nil)))
      (Evl.pss_cut (ps_try_k (i := 6) rfl rfl rfl scAsk68.nd rfl rfl ⟨by rfl, by decide, .inl g_OrderError⟩ takes0 (fun W pn xe tk po =>
        (pss_one (ps_if (pt_cmpR op_eq (pv 0) pe_int (nomark _))
          (pss_one (ps_expr (pe_callS G_poll_sum hr (by rfl) T_poll_sum.g T_poll_sum.F.kp T_poll_sum.b (fun σ => passAt tk σ) (pa_cons (pv 1) (pa_cons (pv 2) (pa_cons (pv 3) pa_nil))))))
          (pss_one (ps_if (pt_cmpR op_eq (pv 0) pe_int (nomark _))
            (pss_one (ps_expr (pe_callS G_middle_of hr (by rfl) T_middle_of.g T_middle_of.F.kp T_middle_of.b (fun σ => passAt tk σ) (pa_cons (pv 1) (pa_cons (pv 2) pa_nil)))))
            (pss_one (ps_if (pt_cmpR op_eq (pv 0) pe_int (nomark _))
              (pss_one (ps_expr (pe_callS G_pairs_ahead hr (by rfl) T_pairs_ahead.g T_pairs_ahead.F.kp T_pairs_ahead.b (fun σ => passAt tk σ) (pa_cons (pv 2) pa_nil))))
              (pss_one (ps_if (pt_cmpR op_eq (pv 0) pe_int (nomark _))
                (pss_one (ps_expr (pe_callS G_pair_sum hr (by rfl) T_pair_sum.g T_pair_sum.F.kp T_pair_sum.b (fun σ => passAt tk σ) (pa_cons (pv 2) pa_nil))))
                (pss_one (ps_expr (pe_callS G_ring_of hr (by rfl) T_ring_of.g T_ring_of.F.kp T_ring_of.b (fun σ => passAt tk σ) (pa_cons (pv 2) pa_nil))))))))))))) (fun a oe cls d pn hz hf =>
        (pss_one (ps_set (i := 4) scAsk68.nd rfl (.inl rfl) (pe_callP List.mem_cons_self hz hf G__law_word ⟨hr.dp, hr.un⟩ (by rfl) T__law_word.g T__law_word.F.kp T__law_word.b (pa_cons (pv 6) pa_nil))))))
      (pss_cons (ps_if (pt_cmpR op_ne (pe_callB (call_reprD gA hr sy) (by rfl) B.repr (by decide +kernel) (pa_cons (pe_lst (pa_cons (pv 1) (pa_cons (pv 2) (pa_cons (pv 3) pa_nil)))) pa_nil)) (pv 5) (nomark _))
        (pss_one (ps_ret pe_str))
        pss_nil)
      (pss_one (ps_ret (pv 4))))))), ?_⟩
    have rA : Rp 4300100 (.list [f, dp, d]) := ((rw_list (rws_cons (rf.mono (Nat.le_refl _) (show 8 ≤ 14 by decide)) (rws_cons rp (rws_cons (rd.mono (Nat.le_refl _) (show 8 ≤ 14 by decide)) rws_nil)))).mono (by decide) (Nat.le_refl _)).rp (by decide)
    have rpr : ∀ G, Same H G → ∀ b, G b = none → Dq (upd G b (.lst [x, p, o])) (.ref b) (.list [f, dp, d]) := fun G s b nb => by
      have sb := s.trans (same_new (o := .lst [x, p, o]) nb)
      exact .lst upd_same (.cons (hf.same sb) (.cons (hp.same sb) (.cons (hd.same sb) .nil)))
    refine ⟨_, rfl, _, rfl, _, rfl, line_small (by show 3 ≤ 16777216; decide), fun b nb => ?_⟩
    refine ⟨_, _, 4300100, rfl, rpr H (Same.refl H) b nb, rA, by decide, ?_⟩
    have s1 := same_new (o := .lst [x, p, o]) nb
    generalize upd H b (.lst [x, p, o]) = H1 at s1 ⊢
    refine ⟨fun τ G => ∃ y, τ = [some (.int wh), some x, some p, some o, some (.str r), some (.str (PyData.shown (.list [f, dp, d]))), y] ∧ Same H G, ?_, fun τ G hM => ?_⟩
    · have pol : ∀ {G : Hp}, Same H G → PollD dp → ∃ (l : Addr) (as : List Addr) (rs : List (List Int)), p = .ref l ∧ OL G l as rs (nP dp) ∧ 1 ≤ rs.length ∧ rs.length ≤ 20 := fun s g => poll_ol (hp.same s) g
      refine ⟨_, rfl, rfl, _, rfl, ?_⟩
      rcases ask with ⟨hw, np, rfl⟩ | ⟨g, rfl, a⟩ | ⟨g, rfl, a⟩ | ⟨g, hw, rfl⟩ | ⟨g, rfl, a⟩
      · have : wh = 0 ∨ wh = 1 ∨ wh = 2 ∨ wh = 3 ∨ wh = 4 := by omega
        rcases this with rfl | rfl | rfl | rfl | rfl
        · exact iteT ⟨_, rfl, _, rfl, _, rfl, x, p, o, f, dp, d, rfl, hf.same s1, hp.same s1, hd.same s1, hl, .inl ⟨fun z => np z.1, fun G s => ⟨true, x0, fun _ a na => ⟨_, rfl, _, 0, rfl, rfl, k0, .inl rfl, rfl, fun H' s' => ⟨_, rfl, same_at68 ((s1.trans s).trans s') ((s1.trans s).free na)⟩⟩, fun z => absurd z.symm Bool.false_ne_true⟩⟩⟩
        · exact iteF ⟨_, rfl, rfl, _, rfl, iteT ⟨_, rfl, _, rfl, .inr ⟨x, p, f, dp, rfl, hf.same s1, hp.same s1, hl, .inl ⟨np, fun G s => ⟨true, x0, fun _ a na => ⟨_, rfl, _, 0, rfl, rfl, k0, .inl rfl, rfl, fun H' s' => ⟨_, rfl, same_at68 ((s1.trans s).trans s') ((s1.trans s).free na)⟩⟩, fun z => absurd z.symm Bool.false_ne_true⟩⟩⟩⟩⟩
        · exact iteF ⟨_, rfl, rfl, _, rfl, iteF ⟨_, rfl, rfl, _, rfl, iteT ⟨_, rfl, .inr ⟨p, dp, rfl, hp.same s1, hl, np, fun G s => ⟨true, x0, fun _ a na => ⟨_, rfl, _, 0, rfl, rfl, k0, .inl rfl, rfl, fun H' s' => ⟨_, rfl, same_at68 ((s1.trans s).trans s') ((s1.trans s).free na)⟩⟩, fun z => absurd z.symm Bool.false_ne_true⟩⟩⟩⟩⟩
        · exact iteF ⟨_, rfl, rfl, _, rfl, iteF ⟨_, rfl, rfl, _, rfl, iteF ⟨_, rfl, rfl, _, rfl, iteT ⟨_, rfl, .inr ⟨p, dp, rfl, hp.same s1, hl, np, fun G s => ⟨true, x0, fun _ a na => ⟨_, rfl, _, 0, rfl, rfl, k0, .inl rfl, rfl, fun H' s' => ⟨_, rfl, same_at68 ((s1.trans s).trans s') ((s1.trans s).free na)⟩⟩, fun z => absurd z.symm Bool.false_ne_true⟩⟩⟩⟩⟩⟩
        · exact iteF ⟨_, rfl, rfl, _, rfl, iteF ⟨_, rfl, rfl, _, rfl, iteF ⟨_, rfl, rfl, _, rfl, iteF ⟨_, rfl, .inr ⟨p, dp, rfl, hp.same s1, hl, .inl ⟨np, fun G s => ⟨true, x0, fun _ a na => ⟨_, rfl, _, 0, rfl, rfl, k0, .inl rfl, rfl, fun H' s' => ⟨_, rfl, same_at68 ((s1.trans s).trans s') ((s1.trans s).free na)⟩⟩, fun z => absurd z.symm Bool.false_ne_true⟩⟩⟩⟩⟩⟩⟩
      · rcases a with ⟨a1, rfl⟩ | ⟨a1, a2, rfl⟩ | ⟨a1, a2, a3, rfl⟩ | ⟨a1, a2, a3, rfl⟩
        · exact iteT ⟨_, rfl, _, rfl, _, rfl, x, p, o, f, dp, d, rfl, hf.same s1, hp.same s1, hd.same s1, hl, .inl ⟨fun z => a1 z.2, fun G s => ⟨true, x0, fun _ a na => ⟨_, rfl, _, 0, rfl, rfl, k0, .inl rfl, rfl, fun H' s' => ⟨_, rfl, same_at68 ((s1.trans s).trans s') ((s1.trans s).free na)⟩⟩, fun z => absurd z.symm Bool.false_ne_true⟩⟩⟩
        · exact iteT ⟨_, rfl, _, rfl, _, rfl, x, p, o, f, dp, d, rfl, hf.same s1, hp.same s1, hd.same s1, hl, .inr (.inl ⟨g, a1, a2, fun G s => ⟨true, x1, fun _ a na => ⟨_, rfl, _, 1, rfl, rfl, k1, .inr (.inl rfl), rfl, fun H' s' => ⟨_, rfl, same_at68 ((s1.trans s).trans s') ((s1.trans s).free na)⟩⟩, fun z => absurd z.symm Bool.false_ne_true⟩⟩)⟩
        · exact iteT ⟨_, rfl, _, rfl, _, rfl, x, p, o, f, dp, d, rfl, hf.same s1, hp.same s1, hd.same s1, hl, .inr (.inr (.inl ⟨g, a1, a2, a3, fun G s => ⟨true, x2, fun _ a na => ⟨_, rfl, _, 2, rfl, rfl, k2, .inr (.inr (.inl rfl)), rfl, fun H' s' => ⟨_, rfl, same_at68 ((s1.trans s).trans s') ((s1.trans s).free na)⟩⟩, fun z => absurd z.symm Bool.false_ne_true⟩⟩))⟩
        · exact iteT ⟨_, rfl, _, rfl, _, rfl, x, p, o, f, dp, d, rfl, hf.same s1, hp.same s1, hd.same s1, hl, .inr (.inr (.inr ⟨g, a1, a2, a3, fun i G s => ⟨_, rfl, s1.trans s⟩⟩))⟩
      · rcases a with ⟨a1, rfl⟩ | ⟨a1, a2, rfl⟩ | ⟨a1, a2, rfl⟩
        · exact iteF ⟨_, rfl, rfl, _, rfl, iteT ⟨_, rfl, _, rfl, .inr ⟨x, p, f, dp, rfl, hf.same s1, hp.same s1, hl, .inr (.inl ⟨g, a1, fun G s => ⟨true, x1, fun _ a na => ⟨_, rfl, _, 1, rfl, rfl, k1, .inr (.inl rfl), rfl, fun H' s' => ⟨_, rfl, same_at68 ((s1.trans s).trans s') ((s1.trans s).free na)⟩⟩, fun z => absurd z.symm Bool.false_ne_true⟩⟩)⟩⟩⟩
        · exact iteF ⟨_, rfl, rfl, _, rfl, iteT ⟨_, rfl, _, rfl, .inr ⟨x, p, f, dp, rfl, hf.same s1, hp.same s1, hl, .inr (.inr ⟨g, a1, a2, fun G s => ⟨true, x5, fun _ a na => ⟨_, rfl, _, 5, rfl, rfl, k5, .inr (.inr (.inr (.inr rfl))), rfl, fun H' s' => ⟨_, rfl, same_at68 ((s1.trans s).trans s') ((s1.trans s).free na)⟩⟩, fun z => absurd z.symm Bool.false_ne_true⟩⟩)⟩⟩⟩
        · obtain ⟨l, as, rs, rfl, hO, h1, h2⟩ := pol s1 g
          obtain ⟨z, rfl, wz⟩ := id a1
          cases hf
          have lim : nP dp ≤ 6 ∨ (z = "swap" ∧ nP dp ≤ 9) := by
            have a2 : (nP dp : Int) ≤ (if z = "swap" then (9 : Int) else 6) := a2
            by_cases c : z = "swap"
            · rw [if_pos c] at a2
              exact .inr ⟨c, by omega⟩
            · rw [if_neg c] at a2
              exact .inl (by omega)
          exact iteF ⟨_, rfl, rfl, _, rfl, iteT ⟨_, rfl, _, rfl, .inl ⟨z, l, as, rs, nP dp, rfl, wz, hO, h1, h2, lim, fun _ _ _ _ G _ _ _ _ _ s => ⟨_, rfl, s1.trans s⟩⟩⟩⟩
      · obtain ⟨l, as, rs, rfl, hO, h1, h2⟩ := pol s1 g
        rcases hw with rfl | rfl
        · exact iteF ⟨_, rfl, rfl, _, rfl, iteF ⟨_, rfl, rfl, _, rfl, iteT ⟨_, rfl, .inl ⟨l, as, rs, nP dp, rfl, hO, h1, h2, fun _ G _ _ s => ⟨_, rfl, s1.trans s⟩⟩⟩⟩⟩
        · exact iteF ⟨_, rfl, rfl, _, rfl, iteF ⟨_, rfl, rfl, _, rfl, iteF ⟨_, rfl, rfl, _, rfl, iteT ⟨_, rfl, .inl ⟨l, as, rs, nP dp, rfl, hO, h1, h2, fun G s => ⟨_, rfl, s1.trans s⟩⟩⟩⟩⟩⟩
      · rcases a with ⟨a1, rfl⟩ | ⟨a1, rfl⟩
        · exact iteF ⟨_, rfl, rfl, _, rfl, iteF ⟨_, rfl, rfl, _, rfl, iteF ⟨_, rfl, rfl, _, rfl, iteF ⟨_, rfl, .inr ⟨p, dp, rfl, hp.same s1, hl, .inr ⟨g, a1, fun G s => ⟨true, x5, fun _ a na => ⟨_, rfl, _, 5, rfl, rfl, k5, .inr (.inr (.inr (.inr rfl))), rfl, fun H' s' => ⟨_, rfl, same_at68 ((s1.trans s).trans s') ((s1.trans s).free na)⟩⟩, fun z => absurd z.symm Bool.false_ne_true⟩⟩⟩⟩⟩⟩⟩
        · obtain ⟨l, as, rs, rfl, hO, h1, h2⟩ := pol s1 g
          exact iteF ⟨_, rfl, rfl, _, rfl, iteF ⟨_, rfl, rfl, _, rfl, iteF ⟨_, rfl, rfl, _, rfl, iteF ⟨_, rfl, .inl ⟨l, as, rs, nP dp, rfl, hO, h1, h2, a1, fun G _ s => ⟨_, rfl, s1.trans s⟩, fun _ _ _ G _ _ _ _ _ _ _ s => ⟨_, rfl, s1.trans s⟩⟩⟩⟩⟩⟩
    · obtain ⟨y, rfl, sG⟩ := hM
      refine ⟨_, rfl, _, rfl, _, rfl, line_small (by show 3 ≤ 16777216; decide), fun b2 nb2 => ?_⟩
      refine ⟨_, _, 4300100, rfl, rpr G sG b2 nb2, rA, by decide, _, rfl, rfl, _, rfl, ?_⟩
      rw [decide_eq_true rfl]
      exact iteF ⟨_, rfl, q _ (sG.trans (same_new nb2))⟩
end
end Fo
namespace Fo
open PySem PySem.Spec PyProof.Rows L2
theorem notway7_s {z : Str} (h : (!(decide (z = "swap") || decide (z = "spot") || decide (z = "shift"))) = true) : ¬ WayD (.str z) := fun ⟨y, e, w⟩ => by
  injection e with e
  subst e
  rcases w with rfl | rfl | rfl <;> exact absurd h (by decide +kernel)
theorem notway7 {d : PyData} (h : isStrD d = false) : ¬ WayD d := fun g => by
  obtain ⟨z, rfl, _⟩ := g
  cases h
def spNoWay72 : Sp := fun vs H Q _ => ∃ (d : Addr), vs = [.ref d] ∧ DqAt H d ∧ ∀ (v : V) (H' : Hp), Od (srcN d) 5000 4 (fun x => ¬ WayD x) H' v → DqAt H' d → KeepD d H H' → Q v H'
section
variable {P : Program} {w : World} {K : PySem.W.Frag} {mg : Str → Option Value} {base : Heap}
theorem scNoWay72 : FnScope ["deck", "some"] ["deck"] (defScope s_law_no_way) := ⟨rfl, rfl, rfl, by decide +kernel, rfl, by decide +kernel, by decide +kernel⟩
set_option maxHeartbeats 4000000 in
theorem ok_noWay72 {f fD : Addr} {fd dD : FuncData} {k : Nat} (T : Df K mg "_law_no_way" s_law_no_way ["deck"] f fd) (T__law_next : Df K mg "_law_next" s_law_next ["deck"] fD dD) (G__law_next : FnOk P w K mg base CX0 k fD dD ["deck"] spNext) (B : Bi mg) : FnOk P w K mg base CX0 (k + 1) f fd ["deck"] spNoWay72 := by
  refine T.F.ok scNoWay72 (fun vs H Q E h => ?_) (fun cdv A outer s H vs Q E hr h => ?_)
  · obtain ⟨d, rfl, _⟩ := h
    rfl
  · obtain ⟨d, rfl, D0, q⟩ := h
    have kk : (srcN d).Kp H H := (srcN d).refl H
    refine ⟨_, 
      (pss_cons (ps_set (i := 1) scNoWay72.nd rfl (.inl rfl) (pe_lst (pa_cons pe_non (pa_cons pe_int (pa_cons pe_bl (pa_cons pe_str (pa_cons pe_str (pa_cons pe_str (pa_cons pe_str (pa_cons pe_str (pa_cons pe_str (pa_cons pe_str (pa_cons pe_str (pa_cons pe_str (pa_cons pe_str (pa_cons (pe_lst (pa_cons pe_str pa_nil)) pa_nil))))))))))))))))
      (pss_cons (ps_set (i := 1) scNoWay72.nd rfl (.inl rfl) (pe_op op_cat (pv 1) (pe_lst (pa_cons (pe_tup (pa_cons pe_str pa_nil)) (pa_cons pe_dnewK (pa_cons pe_str (pa_cons pe_str (pa_cons pe_str (pa_cons (pe_op op_pow pe_int pe_int) pa_nil)))))))))
      (pss_one (ps_ret (pe_ix ix_list (pv 1) (pe_op op_mod (pe_call G__law_next hr (by rfl) T__law_next.g T__law_next.F.kp T__law_next.b .nil pass0 (pa_cons (pv 0) pa_nil)) pe_int) (fun _ _ => rfl)))))), ?_⟩
    refine os_set (S := srcN d) D0 (oe_lst (oa_consN oe_non (by first | (rintro _ ⟨_, rfl, _, rfl⟩; exact notway7_s (by decide +kernel)) | (intro d h; exact notway7 (by first | (obtain ⟨_, rfl, _⟩ := h; rfl) | (cases h; rfl)))) (oa_consN (oe_intI (by decide)) (by first | (rintro _ ⟨_, rfl, _, rfl⟩; exact notway7_s (by decide +kernel)) | (intro d h; exact notway7 (by first | (obtain ⟨_, rfl, _⟩ := h; rfl) | (cases h; rfl)))) (oa_consN (oe_bl true) (by first | (rintro _ ⟨_, rfl, _, rfl⟩; exact notway7_s (by decide +kernel)) | (intro d h; exact notway7 (by first | (obtain ⟨_, rfl, _⟩ := h; rfl) | (cases h; rfl)))) (oa_consN (oe_tx 0 ⟨by decide +kernel, by decide +kernel⟩) (by first | (rintro _ ⟨_, rfl, _, rfl⟩; exact notway7_s (by decide +kernel)) | (intro d h; exact notway7 (by first | (obtain ⟨_, rfl, _⟩ := h; rfl) | (cases h; rfl)))) (oa_consN (oe_tx 5 ⟨by decide +kernel, by decide +kernel⟩) (by first | (rintro _ ⟨_, rfl, _, rfl⟩; exact notway7_s (by decide +kernel)) | (intro d h; exact notway7 (by first | (obtain ⟨_, rfl, _⟩ := h; rfl) | (cases h; rfl)))) (oa_consN (oe_tx 4 ⟨by decide +kernel, by decide +kernel⟩) (by first | (rintro _ ⟨_, rfl, _, rfl⟩; exact notway7_s (by decide +kernel)) | (intro d h; exact notway7 (by first | (obtain ⟨_, rfl, _⟩ := h; rfl) | (cases h; rfl)))) (oa_consN (oe_tx 4 ⟨by decide +kernel, by decide +kernel⟩) (by first | (rintro _ ⟨_, rfl, _, rfl⟩; exact notway7_s (by decide +kernel)) | (intro d h; exact notway7 (by first | (obtain ⟨_, rfl, _⟩ := h; rfl) | (cases h; rfl)))) (oa_consN (oe_tx 5 ⟨by decide +kernel, by decide +kernel⟩) (by first | (rintro _ ⟨_, rfl, _, rfl⟩; exact notway7_s (by decide +kernel)) | (intro d h; exact notway7 (by first | (obtain ⟨_, rfl, _⟩ := h; rfl) | (cases h; rfl)))) (oa_consN (oe_tx 5 ⟨by decide +kernel, by decide +kernel⟩) (by first | (rintro _ ⟨_, rfl, _, rfl⟩; exact notway7_s (by decide +kernel)) | (intro d h; exact notway7 (by first | (obtain ⟨_, rfl, _⟩ := h; rfl) | (cases h; rfl)))) (oa_consN (oe_tx 4 ⟨by decide +kernel, by decide +kernel⟩) (by first | (rintro _ ⟨_, rfl, _, rfl⟩; exact notway7_s (by decide +kernel)) | (intro d h; exact notway7 (by first | (obtain ⟨_, rfl, _⟩ := h; rfl) | (cases h; rfl)))) (oa_consN (oe_tx 6 ⟨by decide +kernel, by decide +kernel⟩) (by first | (rintro _ ⟨_, rfl, _, rfl⟩; exact notway7_s (by decide +kernel)) | (intro d h; exact notway7 (by first | (obtain ⟨_, rfl, _⟩ := h; rfl) | (cases h; rfl)))) (oa_consN (oe_tx 4 ⟨by decide +kernel, by decide +kernel⟩) (by first | (rintro _ ⟨_, rfl, _, rfl⟩; exact notway7_s (by decide +kernel)) | (intro d h; exact notway7 (by first | (obtain ⟨_, rfl, _⟩ := h; rfl) | (cases h; rfl)))) (oa_consN (oe_tx 4 ⟨by decide +kernel, by decide +kernel⟩) (by first | (rintro _ ⟨_, rfl, _, rfl⟩; exact notway7_s (by decide +kernel)) | (intro d h; exact notway7 (by first | (obtain ⟨_, rfl, _⟩ := h; rfl) | (cases h; rfl)))) (oa_consN (oe_lst (oa_cons (oe_tx 4 ⟨by decide +kernel, by decide +kernel⟩) oa_nil) (by decide)) (by first | (rintro _ ⟨_, rfl, _, rfl⟩; exact notway7_s (by decide +kernel)) | (intro d h; exact notway7 (by first | (obtain ⟨_, rfl, _⟩ := h; rfl) | (cases h; rfl)))) (oa_nilN (fun x => ¬ WayD x)))))))))))))))) (by decide)) fun x1 H1 k1 D1 o_some => ?_
    replace kk := (srcN d).trans kk k1
    refine os_set (S := srcN d) D1 (oe_catN (oe_v rfl o_some) (oe_lst (oa_consN (oe_tup (oa_cons (oe_tx 4 ⟨by decide +kernel, by decide +kernel⟩) oa_nil) (by decide)) (by first | (rintro _ ⟨_, rfl, _, rfl⟩; exact notway7_s (by decide +kernel)) | (intro d h; exact notway7 (by first | (obtain ⟨_, rfl, _⟩ := h; rfl) | (cases h; rfl)))) (oa_consN oe_d0 (by first | (rintro _ ⟨_, rfl, _, rfl⟩; exact notway7_s (by decide +kernel)) | (intro d h; exact notway7 (by first | (obtain ⟨_, rfl, _⟩ := h; rfl) | (cases h; rfl)))) (oa_consN (oe_tx 3 ⟨by decide +kernel, by decide +kernel⟩) (by first | (rintro _ ⟨_, rfl, _, rfl⟩; exact notway7_s (by decide +kernel)) | (intro d h; exact notway7 (by first | (obtain ⟨_, rfl, _⟩ := h; rfl) | (cases h; rfl)))) (oa_consN (oe_tx 1 ⟨by decide +kernel, by decide +kernel⟩) (by first | (rintro _ ⟨_, rfl, _, rfl⟩; exact notway7_s (by decide +kernel)) | (intro d h; exact notway7 (by first | (obtain ⟨_, rfl, _⟩ := h; rfl) | (cases h; rfl)))) (oa_consN (oe_tx 9 ⟨by decide +kernel, by decide +kernel⟩) (by first | (rintro _ ⟨_, rfl, _, rfl⟩; exact notway7_s (by decide +kernel)) | (intro d h; exact notway7 (by first | (obtain ⟨_, rfl, _⟩ := h; rfl) | (cases h; rfl)))) (oa_consN (oe_pow ⟨by decide, by decide, by decide⟩ ⟨by decide, by decide⟩) (by first | (rintro _ ⟨_, rfl, _, rfl⟩; exact notway7_s (by decide +kernel)) | (intro d h; exact notway7 (by first | (obtain ⟨_, rfl, _⟩ := h; rfl) | (cases h; rfl)))) (oa_nilN (fun x => ¬ WayD x)))))))) (by decide)) (by decide)) fun x2 H2 k2 D2 o_some => ?_
    replace kk := (srcN d).trans kk k2
    refine os_ret (S := srcN d) D2 (oe_ix (oe_v rfl o_some) (oe_modC 20 (oe_next rfl) (by decide)) (by grind)) fun v H' k' D' o' => q v H' (o'.mono (by decide) (by decide) fun _ h => h) D' ((srcN d).trans kk k')
end
end Fo
namespace Fo
open PySem PySem.Spec PyProof.Rows L2
/-! what is no poll -/
theorem np_nl {x : PyData} (h : isListD x = false) : ¬ PollD x := fun g => by
  obtain ⟨⟨ds, rfl, _⟩, _⟩ := g
  cases h
theorem np_nil : ¬ PollD (.list []) := fun g => by
  have := (g.2 [] rfl).1
  exact absurd this (by decide)
theorem np_hd {x : PyData} {ds : List PyData} (h : ¬ GoodD x) : ¬ PollD (.list (x :: ds)) := fun g => by
  obtain ⟨⟨es, e, g1, _⟩, _⟩ := g
  injection e with e
  subst e
  exact h (g1 x List.mem_cons_self)
theorem np_mem {x : PyData} {ds : List PyData} (m : x ∈ ds) (h : ¬ GoodD x) : ¬ PollD (.list ds) := fun g => by
  obtain ⟨⟨es, e, g1, _⟩, _⟩ := g
  injection e with e
  subst e
  exact h (g1 x m)
theorem np_long {ds : List PyData} (h : 20 < ds.length) : ¬ PollD (.list ds) := fun g => by
  have := (g.2 ds rfl).2
  omega
/-- a row of numbers, not empty -/
def RowN (x : PyData) : Prop := ∃ r : List Int, x = .list (r.map PyData.int) ∧ 1 ≤ r.length
theorem np_row {x : PyData} (h : RowN x) : ¬ PollD x := by
  obtain ⟨r, rfl, h⟩ := h
  cases r with
  | nil => exact absurd h (by decide)
  | cons a r => exact np_hd fun g => bad7_nl (d := .int a) rfl g
/-- what makes a list of orders of n things none -/
def OddP (n : Nat) (x : PyData) : Prop := ¬ (GoodD x ∧ lenD x = n)
theorem oddp_no {n : Nat} {x : PyData} (h : ¬ GoodD x) : OddP n x := fun g => h g.1
theorem oe_noord {d : Addr} {σ : L2.St} {H : Hp} {i j n : Nat} (e : σ[i]? = some (some (.ref d))) (e2 : σ[j]? = some (some (.int n))) (hn : 1 ≤ n ∧ n ≤ 12) : OE (srcN d) (tCall spNoOrd72 [] E0 (tCons (tVar i) (tCons (tVar j) tNil))) σ H 100000 8 (fun x => ¬ GoodD x) := fun H1 Q e1 at1 q =>
  ⟨_, e, _, e2, d, n, rfl, at1, hn.1, hn.2, fun v H' o D k => q v H' k D o⟩
theorem spoilt_np {n a : Nat} {rows : List PyData} {x : PyData} (hr : ∀ y ∈ rows, lenD y = n) (h1 : 1 ≤ rows.length) (hx : OddP n x) : ¬ PollD (.list (cutG rows none (some (a : Int)) ++ [x] ++ cutG rows (some (a : Int)) none)) := by
  rw [cutG7_head, cutG7_tail]
  intro g
  obtain ⟨⟨es, e, g1, g2⟩, _⟩ := g
  injection e with e
  subst e
  have mx : x ∈ rows.take a ++ [x] ++ rows.drop a := List.mem_append_left _ (List.mem_append_right _ List.mem_cons_self)
  obtain ⟨y, my⟩ : ∃ y, y ∈ rows := ⟨rows[0]'(by omega), List.getElem_mem _⟩
  have my2 : y ∈ rows.take a ++ [x] ++ rows.drop a := by
    have : y ∈ rows.take a ++ rows.drop a := by rw [List.take_append_drop]; exact my
    rcases List.mem_append.mp this with m | m
    · exact List.mem_append_left _ (List.mem_append_left _ m)
    · exact List.mem_append_right _ m
  exact hx ⟨g1 x mx, by rw [g2 x mx y my2]; exact hr y my⟩
theorem rws_rows68 {n : Nat} (hn : n ≤ 12) : ∀ {rs : List (List Int)}, (∀ r ∈ rs, IsOrd n r) → Rws (rs.length * 1348) 1 (rs.map fun r => PyData.list (r.map PyData.int))
  | [], _ => by rw [List.map_nil, List.length_nil, Nat.zero_mul]; exact rws_nil
  | r :: rs, h => by
    have o := h r List.mem_cons_self
    have h1 : Rw 1346 1 (.list (r.map PyData.int)) := (rw_list (rws_ints (b := 0) fun y hy => by have := o.mem hy; omega)).mono (by have := o.len; omega) (Nat.le_refl _)
    have h2 := rws_cons h1 (rws_rows68 hn fun x m => h x (List.mem_cons_of_mem _ m))
    rw [List.length_cons, Nat.succ_mul]
    exact h2.mono (by omega) (Nat.le_refl _)
theorem od_poll {d : Addr} {H : Hp} {l : Addr} {as : List Addr} {rs : List (List Int)} {n : Nat} (h : OL H l as rs n) (hl : rs.length ≤ 20) (nl : l ≠ d) (na : d ∉ as) : Od (srcN d) 27000 2 (oL fun ds => ds = rs.map fun r => PyData.list (r.map PyData.int)) H (.ref l) := by
  have h' : OL (cut1 d H) l as rs n := ⟨by rw [cut1_ne nl]; exact h.top, h.ll.keep fun a ha o e => by rw [cut1_ne (fun z => na (by rw [← z]; exact ha))]; exact e, h.ord, h.n1, h.n2⟩
  exact ⟨_, ol_dq68 h', (rw_list (rws_rows68 h.n2 h.ord)).mono (by omega) (by decide), _, rfl, rfl⟩
theorem len_wt : ∀ ds : List PyData, ds.length ≤ wtL ds
  | [] => Nat.zero_le _
  | x :: ds => by
    rw [List.length_cons, wtL]
    have := len_wt ds
    omega
theorem rw_len68 {m k : Nat} {ds : List PyData} (h : Rw m k (.list ds)) : ds.length ≤ m := by
  obtain ⟨j, _, h⟩ := h.lst
  exact Nat.le_trans (len_wt ds) h.l
theorem DqAll.reps {H : Hp} {xs : List V} {ds : List PyData} (h : DqAll H xs ds) : ∀ n : Nat, DqAll H (List.replicate n xs).flatten (List.replicate n ds).flatten
  | 0 => .nil
  | n + 1 => by
    rw [List.replicate_succ, List.replicate_succ, List.flatten_cons, List.flatten_cons]
    exact h.app (DqAll.reps h n)
theorem Rws.reps {m k : Nat} {ds : List PyData} (h : Rws m k ds) : ∀ n : Nat, Rws (n * m) k (List.replicate n ds).flatten
  | 0 => by rw [Nat.zero_mul]; exact rws_nil
  | n + 1 => by
    rw [List.replicate_succ, List.flatten_cons]
    exact (h.app (Rws.reps h n)).mono (by rw [Nat.succ_mul]; omega) (Nat.le_refl _)
theorem len_reps {α : Type} (ds : List α) : ∀ n : Nat, (List.replicate n ds).flatten.length = n * ds.length
  | 0 => by rw [Nat.zero_mul]; rfl
  | n + 1 => by rw [List.replicate_succ, List.flatten_cons, List.length_append, len_reps ds n, Nat.succ_mul]; omega
theorem oe_reps {S : Src} {σ : L2.St} {H : Hp} {t : TE} {m k n : Nat} {A : List PyData → Prop} (h : OE S t σ H m (k + 1) (oL A)) (hn : n ≤ 500) (hm : m ≤ 30000) : OE S (tOp rRep t (tC (.int (n : Int)))) σ H (n * m + 2) (k + 1) (oL fun ds => ∃ es, ds = (List.replicate n es).flatten ∧ A es) := fun H1 Q e1 at1 q =>
  h H1 _ e1 at1 fun v H2 e2 at2 o => by
    obtain ⟨_, h1, h2, ds, rfl, h3⟩ := o
    obtain ⟨p, xs, rfl, hp, ax⟩ := dq_lst h1
    have hxl := ax.len
    have hw : Rws m k ds := by
      obtain ⟨j, ej, h4⟩ := h2.lst
      exact h4.mono (Nat.le_refl _) (by omega)
    have hl : ds.length ≤ m := Nat.le_trans (len_wt ds) hw.l
    have hb : n * xs.length ≤ 500 * 30000 := Nat.mul_le_mul hn (by omega)
    refine ⟨p, (n : Int), xs, rfl, rfl, S.le _ _ _ hp, by omega, by omega, by rw [Int.toNat_natCast, Nat.mul_comm]; exact line_small (by omega), fun c nc => ?_⟩
    rw [Int.toNat_natCast]
    obtain ⟨at3, e3⟩ := S.same at2 (same_new (o := .lst (List.replicate n xs).flatten) nc)
    exact q _ _ (S.trans e2 e3) at3 ⟨.list (List.replicate n ds).flatten, .lst (S.new _ at2 nc) ((DqAll.reps ax n).same (S.kp e3)), rw_list (Rws.reps hw n), _, rfl, ds, rfl, h3⟩
def spNoPoll : Sp := fun vs H Q _ => ∃ (d l : Addr) (as : List Addr) (rs : List (List Int)) (n : Nat), vs = [.ref d, .ref l] ∧ DqAt H d ∧ OL H l as rs n ∧ 1 ≤ rs.length ∧ rs.length ≤ 20 ∧ l ≠ d ∧ d ∉ as ∧ ∀ (v : V) (H' : Hp), Od (srcN d) 2000000 12 (fun x => ¬ PollD x) H' v → DqAt H' d → KeepD d H H' → Q v H'
section
variable {P : Program} {w : World} {K : PySem.W.Frag} {mg : Str → Option Value} {base : Heap}
theorem scNop : FnScope ["deck", "poll", "n", "base", "at", "many", "other", "odd", "things", "spoilt"] ["deck", "poll"] (defScope s_law_no_poll) := ⟨rfl, rfl, rfl, by decide +kernel, rfl, by decide +kernel, by decide +kernel⟩
set_option maxHeartbeats 8000000 in
theorem ok_nop {f f1 f2 f3 : Addr} {fd d1 d2 d3 : FuncData} {k : Nat} (T : Df K mg "_law_no_poll" s_law_no_poll ["deck", "poll"] f fd) (T__law_order : Df K mg "_law_order" s_law_order ["deck", "n"] f1 d1) (T__law_next : Df K mg "_law_next" s_law_next ["deck"] f2 d2) (T__law_no_order : Df K mg "_law_no_order" s_law_no_order ["deck", "n"] f3 d3) (G__law_order : FnOk P w K mg base CX0 k f1 d1 ["deck", "n"] spOrderN) (G__law_next : FnOk P w K mg base CX0 k f2 d2 ["deck"] spNext) (G__law_no_order : FnOk P w K mg base CX0 k f3 d3 ["deck", "n"] spNoOrd72) (B : Bi mg) : FnOk P w K mg base CX0 (k + 1) f fd ["deck", "poll"] spNoPoll := by
  refine T.F.ok scNop (fun vs H Q E h => ?_) (fun cdv A outer s H vs Q E hr h => ?_)
  · obtain ⟨d, l, as, rs, n, rfl, _⟩ := h
    rfl
  · obtain ⟨d, l, as, rs, n, rfl, D0, hO, h1, h2, nl, na, q⟩ := h
    have hn1 := hO.n1
    have hn2 := hO.n2
    refine ⟨_, 
      (pss_cons (ps_set (i := 2) scNop.nd rfl (.inl rfl) (pe_callB call_len_seq (by rfl) B.len PySem.boot_len (pa_cons (pe_ix ix_list (pv 1) pe_int (fun _ _ => rfl)) pa_nil)))
      (pss_cons (ps_set (i := 3) scNop.nd rfl (.inl rfl) (pe_slice sl_list (pv 1) po_none (po_some pe_int)))
      (pss_cons (ps_set (i := 4) scNop.nd rfl (.inl rfl) (pe_op op_mod (pe_call G__law_next hr (by rfl) T__law_next.g T__law_next.F.kp T__law_next.b .nil pass0 (pa_cons (pv 0) pa_nil)) (pe_op op_add (pe_callB call_len_seq (by rfl) B.len PySem.boot_len (pa_cons (pv 3) pa_nil)) pe_int)))
      (pss_cons (ps_set (i := 5) scNop.nd rfl (.inl rfl) (pe_op op_mod (pe_ix ix_list (pe_lst (pa_cons (pe_op op_add (pv 2) pe_int) (pa_cons (pe_op op_sub (pv 2) pe_int) (pa_cons (pe_op op_add pe_int (pe_op op_mod (pe_call G__law_next hr (by rfl) T__law_next.g T__law_next.F.kp T__law_next.b .nil pass0 (pa_cons (pv 0) pa_nil)) pe_int)) pa_nil)))) (pe_op op_mod (pe_call G__law_next hr (by rfl) T__law_next.g T__law_next.F.kp T__law_next.b .nil pass0 (pa_cons (pv 0) pa_nil)) pe_int) (fun _ _ => rfl)) pe_int))
      (pss_cons (ps_set (i := 6) scNop.nd rfl (.inl rfl) (pe_call G__law_order hr (by rfl) T__law_order.g T__law_order.F.kp T__law_order.b .nil pass0 (pa_cons (pv 0) (pa_cons (pe_op op_mul (pv 5) (pe_callTy call_int1 (by rfl) B.int (by decide +kernel) (pa_cons (pe_cmpR op_ne (pv 5) (pv 2) (nomark _)) pa_nil))) pa_nil))))
      (pss_cons (ps_set (i := 7) scNop.nd rfl (.inl rfl) (pe_ix ix_list (pe_lst (pa_cons (pe_call G__law_no_order hr (by rfl) T__law_no_order.g T__law_no_order.F.kp T__law_no_order.b .nil pass0 (pa_cons (pv 0) (pa_cons (pv 2) pa_nil))) (pa_cons (pv 6) pa_nil))) (pe_callTy call_int1 (by rfl) B.int (by decide +kernel) (pa_cons (pe_cmpR op_eq (pe_op op_mod (pe_call G__law_next hr (by rfl) T__law_next.g T__law_next.F.kp T__law_next.b .nil pass0 (pa_cons (pv 0) pa_nil)) pe_int) pe_int (nomark _)) pa_nil)) (fun _ _ => rfl)))
      (pss_cons (ps_set (i := 8) scNop.nd rfl (.inl rfl) (pe_lst (pa_cons pe_non (pa_cons pe_int (pa_cons pe_bl (pa_cons pe_str (pa_cons (pe_tup pa_nil) (pa_cons pe_dnewK (pa_cons (pe_lst pa_nil) (pa_cons (pe_callTy call_tuple_of (by rfl) B.tuple (by decide +kernel) (pa_cons (pv 1) pa_nil)) (pa_cons (pe_lst (pa_cons pe_non pa_nil)) (pa_cons (pe_lst (pa_cons (pe_lst pa_nil) pa_nil)) (pa_cons (pe_lst (pa_cons (pe_listRg rfl (by rfl) B.list (prg_1 (by rfl) B.range pe_int)) pa_nil)) (pa_cons (pe_ix ix_list (pv 1) pe_int (fun _ _ => rfl)) pa_nil))))))))))))))
      (pss_cons (ps_expr (pe_bm PySem.F.plainAttrs_list PySem.F.slot_list_append PySem.F.type_list_append mt_append (pv 8) (pa_cons (pe_slice sl_list (pe_op op_rep (pv 1) pe_int) po_none (po_some pe_int)) pa_nil)))
      (pss_cons (ps_set (i := 9) scNop.nd rfl (.inl rfl) (pe_op op_cat (pe_op op_cat (pe_slice sl_list (pv 3) po_none (po_some (pv 4))) (pe_lst (pa_cons (pv 7) pa_nil))) (pe_slice sl_list (pv 3) (po_some (pv 4)) po_none)))
      (pss_one (ps_ret (pe_ix ix_list (pe_lst (pa_cons (pv 9) (pa_cons (pe_ix ix_list (pv 8) (pe_op op_mod (pe_call G__law_next hr (by rfl) T__law_next.g T__law_next.F.kp T__law_next.b .nil pass0 (pa_cons (pv 0) pa_nil)) pe_int) (fun _ _ => rfl)) pa_nil))) (pe_callTy call_int1 (by rfl) B.int (by decide +kernel) (pa_cons (pe_cmpR op_eq (pe_op op_mod (pe_call G__law_next hr (by rfl) T__law_next.g T__law_next.F.kp T__law_next.b .nil pass0 (pa_cons (pv 0) pa_nil)) pe_int) pe_int (nomark _)) pa_nil)) (fun _ _ => rfl))))))))))))), ?_⟩
    obtain ⟨a0, ea0⟩ : ∃ a0, as[0]? = some a0 := ⟨_, List.getElem?_eq_getElem (by rw [hO.ll.len]; omega)⟩
    obtain ⟨r0, er0, ha0⟩ := hO.ll.get ea0
    have l0 := (hO.ord r0 (List.mem_of_getElem? er0)).len
    refine ⟨_, rfl, l, _, 0, _, rfl, rfl, SqL.of hO.top, at_of (j := 0) rfl (ref_at ea0), a0, _, rfl, .inl (SqL.of ha0), ?_⟩
    rw [List.length_map, l0]
    have o_n : Od (srcN d) 110 0 (oI fun i => i = (n : Int)) H (.int n) := od_of_int ⟨by omega, by omega⟩ rfl
    have o_poll := od_poll hO h2 nl na
    have kk : (srcN d).Kp H H := (srcN d).refl H
    -- base
    have D0' := D0
    refine os_set (S := srcN d) D0 (oe_sl (oe_v rfl o_poll) oo_none (oo_some (oe_intI (by decide)))) fun x1 H1 k1 D1 o_base => ?_
    replace o_poll := o_poll.kp k1
    replace o_n := o_n.kp k1
    replace kk := (srcN d).trans kk k1
    replace o_base := o_base.mono (m' := 27000) (k' := 2) (C := oL fun ds => ds = (rs.map fun r => PyData.list (r.map PyData.int)).take 19) (by decide) (by decide) (by
      rintro _ ⟨_, rfl, _, _, _, rfl, rfl, rfl, ⟨_, rfl, rfl⟩⟩
      exact ⟨_, rfl, cutG7_head _ 19⟩)
    have hbl : ((rs.map fun r => PyData.list (r.map PyData.int)).take 19).length + 1 ≤ 20 ∧ 1 ≤ ((rs.map fun r => PyData.list (r.map PyData.int)).take 19).length := by
      rw [List.length_take, List.length_map]
      omega
    have hrow : ∀ y ∈ (rs.map fun r => PyData.list (r.map PyData.int)).take 19, lenD y = n := fun y m => by
      obtain ⟨r, mr, rfl⟩ := List.mem_map.mp (List.mem_of_mem_take m)
      show (r.map PyData.int).length = n
      rw [List.length_map]
      exact (hO.ord r mr).len
    generalize (rs.map fun r => PyData.list (r.map PyData.int)).take 19 = rows at o_base hbl hrow
    -- at
    refine os_set (S := srcN d) D1 (oe_mod72 (n := rows.length + 1) (oe_next rfl) ((oe_add (oe_len (oe_v rfl o_base) (by decide)) (oe_intI (by decide)) (by grind)).imp (by rintro _ ⟨_, rfl, _, _, rfl, ⟨_, rfl, rfl, _⟩, rfl⟩; exact ⟨_, rfl, by omega⟩)) ⟨by omega, by omega⟩) fun x2 H2 k2 D2 o_at => ?_
    replace o_poll := o_poll.kp k2
    replace o_n := o_n.kp k2
    replace o_base := o_base.kp k2
    replace kk := (srcN d).trans kk k2
    obtain ⟨at', rfl, ⟨b0, b1⟩⟩ := od_int o_at
    replace o_at := od_isI o_at
    obtain ⟨ai, rfl⟩ : ∃ ai : Nat, at' = (ai : Int) := ⟨at'.toNat, by omega⟩
    -- many
    refine os_set (S := srcN d) D2 (oe_modC 13 (oe_ix (oe_lst (oa_consN (oe_add (oe_v rfl o_n) (oe_intI (by decide)) (by grind)) (by exact fun _ ⟨i, e, _⟩ => ⟨i, e, trivial⟩) (oa_consN (oe_sub (oe_v rfl o_n) (oe_intI (by decide)) (by grind)) (by exact fun _ ⟨i, e, _⟩ => ⟨i, e, trivial⟩) (oa_consN (oe_add (oe_intI (by decide)) (oe_modC 12 (oe_next rfl) (by decide)) (by grind)) (by exact fun _ ⟨i, e, _⟩ => ⟨i, e, trivial⟩) (oa_nilN (oI fun _ => True))))) (by decide)) (oe_modC 3 (oe_next rfl) (by decide)) (by grind)) (by decide)) fun x3 H3 k3 D3 o_many => ?_
    replace o_poll := o_poll.kp k3
    replace o_n := o_n.kp k3
    replace o_base := o_base.kp k3
    replace o_at := o_at.kp k3
    replace kk := (srcN d).trans kk k3
    obtain ⟨mm, rfl, ⟨c0, c1⟩⟩ := od_int o_many
    replace o_many := od_isI o_many
    -- another order, of other many things
    have cm : ∀ b : Bool, CMul mm (if b = true then 1 else 0) := fun b => .inr (by cases b <;> decide)
    obtain ⟨N, eN, hN1, hN2⟩ : ∃ N : Nat, mm * (if (!decide (V.int mm = V.int (n : Int))) = true then 1 else 0) = (N : Int) ∧ N ≤ 12 ∧ N ≠ n := by
      by_cases c : mm = (n : Int)
      · exact ⟨0, by rw [c, decide_eq_true rfl]; simp, by decide, by omega⟩
      · exact ⟨mm.toNat, by rw [decide_eq_false (fun z => c (V.int.inj z))]; simp; omega, by omega, by omega⟩
    refine ⟨_, rfl, _, rfl, _, rfl, _, rfl, rfl, .inr ⟨!decide (V.int mm = V.int (n : Int)), rfl, mm, _, rfl, rfl, cm _, d, N, by show [V.ref d, V.int (mm * _)] = _; rw [eN], D3, hN1, fun ns lo H4 hon nlo hlo nlod D4 k4 => ?_⟩⟩
    have hns : ∀ x ∈ ns, -100000000000000000000000000 ≤ x ∧ x ≤ 100000000000000000000000000 := fun x hx => by have := hon.mem hx; omega
    have o_other : Od (srcN d) (12 * 112 + 2) 1 (oL fun ds => ds = ns.map PyData.int) H4 (.ref lo) := od_ints (by show cut1 d H4 lo = _; rw [cut1_ne nlod]; exact hlo) hns (by rw [hon.len]; exact hN1)
    have hoth : ∀ x, (∃ ds, x = .list ds ∧ ds = ns.map PyData.int) → OddP n x := by
      rintro _ ⟨_, rfl, rfl⟩ ⟨_, g⟩
      have g : (ns.map PyData.int).length = n := g
      rw [List.length_map, hon.len] at g
      exact hN2 g
    replace o_poll := o_poll.kp k4
    replace o_n := o_n.kp k4
    replace o_base := o_base.kp k4
    replace o_at := o_at.kp k4
    replace kk := KeepD.trans kk k4
    -- odd
    refine os_set (S := srcN d) D4 (oe_ix (oe_lst (oa_consN (oe_noord rfl rfl ⟨hn1, hn2⟩) (by intro x h; first | exact oddp_no h | exact hoth _ h) (oa_consN (oe_v rfl o_other) (by intro x h; first | exact oddp_no h | exact hoth _ h) (oa_nilN (OddP n)))) (by decide)) (oe_int1 (oe_eqI (oe_modC 3 (oe_next rfl) (by decide)) (oe_intI (by decide)))) (by grind)) fun x5 H5 k5 D5 o_odd => ?_
    replace o_poll := o_poll.kp k5
    replace o_n := o_n.kp k5
    replace o_base := o_base.kp k5
    replace o_at := o_at.kp k5
    replace o_other := o_other.kp k5
    replace kk := (srcN d).trans kk k5
    -- things
    have o_pollU : Od (srcN d) 27000 2 (oL fun ds => ds.length = rs.length ∧ ∀ x ∈ ds, RowN x) H5 (.ref l) := o_poll.mono (Nat.le_refl _) (Nat.le_refl _) (by
      rintro _ ⟨_, rfl, rfl⟩
      refine ⟨_, rfl, List.length_map _, fun x m => ?_⟩
      obtain ⟨r, mr, rfl⟩ := List.mem_map.mp m
      exact ⟨r, rfl, by rw [(hO.ord r mr).len]; exact hn1⟩)
    refine os_lst7 (S := srcN d) D5 (oa_consN oe_non (by intro x h; first | (refine np_nl ?_; first | (obtain ⟨_, rfl, _⟩ := h; rfl) | (obtain rfl := h; rfl)) | (obtain ⟨_, rfl, rfl⟩ := h; exact np_nil) | (obtain ⟨_, rfl, _, _, rfl, rfl, rfl⟩ := h; exact np_hd fun g => bad7_nl rfl g) | (obtain ⟨_, rfl, _, _, rfl, ⟨_, rfl, rfl⟩, rfl⟩ := h; first | exact np_hd fun g => bad7_long (.inl (by decide)) g | exact np_hd fun g => bad7_long (.inr (by decide +kernel)) g) | exact np_row h) (oa_consN (oe_intI (by decide)) (by intro x h; first | (refine np_nl ?_; first | (obtain ⟨_, rfl, _⟩ := h; rfl) | (obtain rfl := h; rfl)) | (obtain ⟨_, rfl, rfl⟩ := h; exact np_nil) | (obtain ⟨_, rfl, _, _, rfl, rfl, rfl⟩ := h; exact np_hd fun g => bad7_nl rfl g) | (obtain ⟨_, rfl, _, _, rfl, ⟨_, rfl, rfl⟩, rfl⟩ := h; first | exact np_hd fun g => bad7_long (.inl (by decide)) g | exact np_hd fun g => bad7_long (.inr (by decide +kernel)) g) | exact np_row h) (oa_consN (oe_bl true) (by intro x h; first | (refine np_nl ?_; first | (obtain ⟨_, rfl, _⟩ := h; rfl) | (obtain rfl := h; rfl)) | (obtain ⟨_, rfl, rfl⟩ := h; exact np_nil) | (obtain ⟨_, rfl, _, _, rfl, rfl, rfl⟩ := h; exact np_hd fun g => bad7_nl rfl g) | (obtain ⟨_, rfl, _, _, rfl, ⟨_, rfl, rfl⟩, rfl⟩ := h; first | exact np_hd fun g => bad7_long (.inl (by decide)) g | exact np_hd fun g => bad7_long (.inr (by decide +kernel)) g) | exact np_row h) (oa_consN (oe_tx 0 ⟨by decide +kernel, by decide +kernel⟩) (by intro x h; first | (refine np_nl ?_; first | (obtain ⟨_, rfl, _⟩ := h; rfl) | (obtain rfl := h; rfl)) | (obtain ⟨_, rfl, rfl⟩ := h; exact np_nil) | (obtain ⟨_, rfl, _, _, rfl, rfl, rfl⟩ := h; exact np_hd fun g => bad7_nl rfl g) | (obtain ⟨_, rfl, _, _, rfl, ⟨_, rfl, rfl⟩, rfl⟩ := h; first | exact np_hd fun g => bad7_long (.inl (by decide)) g | exact np_hd fun g => bad7_long (.inr (by decide +kernel)) g) | exact np_row h) (oa_consN (oe_tup oa_nil (by decide)) (by intro x h; first | (refine np_nl ?_; first | (obtain ⟨_, rfl, _⟩ := h; rfl) | (obtain rfl := h; rfl)) | (obtain ⟨_, rfl, rfl⟩ := h; exact np_nil) | (obtain ⟨_, rfl, _, _, rfl, rfl, rfl⟩ := h; exact np_hd fun g => bad7_nl rfl g) | (obtain ⟨_, rfl, _, _, rfl, ⟨_, rfl, rfl⟩, rfl⟩ := h; first | exact np_hd fun g => bad7_long (.inl (by decide)) g | exact np_hd fun g => bad7_long (.inr (by decide +kernel)) g) | exact np_row h) (oa_consN oe_d0 (by intro x h; first | (refine np_nl ?_; first | (obtain ⟨_, rfl, _⟩ := h; rfl) | (obtain rfl := h; rfl)) | (obtain ⟨_, rfl, rfl⟩ := h; exact np_nil) | (obtain ⟨_, rfl, _, _, rfl, rfl, rfl⟩ := h; exact np_hd fun g => bad7_nl rfl g) | (obtain ⟨_, rfl, _, _, rfl, ⟨_, rfl, rfl⟩, rfl⟩ := h; first | exact np_hd fun g => bad7_long (.inl (by decide)) g | exact np_hd fun g => bad7_long (.inr (by decide +kernel)) g) | exact np_row h) (oa_consN (oe_lst oa_nil (by decide)) (by intro x h; first | (refine np_nl ?_; first | (obtain ⟨_, rfl, _⟩ := h; rfl) | (obtain rfl := h; rfl)) | (obtain ⟨_, rfl, rfl⟩ := h; exact np_nil) | (obtain ⟨_, rfl, _, _, rfl, rfl, rfl⟩ := h; exact np_hd fun g => bad7_nl rfl g) | (obtain ⟨_, rfl, _, _, rfl, ⟨_, rfl, rfl⟩, rfl⟩ := h; first | exact np_hd fun g => bad7_long (.inl (by decide)) g | exact np_hd fun g => bad7_long (.inr (by decide +kernel)) g) | exact np_row h) (oa_consN (oe_tupOf (oe_v rfl o_poll)) (by intro x h; first | (refine np_nl ?_; first | (obtain ⟨_, rfl, _⟩ := h; rfl) | (obtain rfl := h; rfl)) | (obtain ⟨_, rfl, rfl⟩ := h; exact np_nil) | (obtain ⟨_, rfl, _, _, rfl, rfl, rfl⟩ := h; exact np_hd fun g => bad7_nl rfl g) | (obtain ⟨_, rfl, _, _, rfl, ⟨_, rfl, rfl⟩, rfl⟩ := h; first | exact np_hd fun g => bad7_long (.inl (by decide)) g | exact np_hd fun g => bad7_long (.inr (by decide +kernel)) g) | exact np_row h) (oa_consN (oe_lst (oa_cons oe_non oa_nil) (by decide)) (by intro x h; first | (refine np_nl ?_; first | (obtain ⟨_, rfl, _⟩ := h; rfl) | (obtain rfl := h; rfl)) | (obtain ⟨_, rfl, rfl⟩ := h; exact np_nil) | (obtain ⟨_, rfl, _, _, rfl, rfl, rfl⟩ := h; exact np_hd fun g => bad7_nl rfl g) | (obtain ⟨_, rfl, _, _, rfl, ⟨_, rfl, rfl⟩, rfl⟩ := h; first | exact np_hd fun g => bad7_long (.inl (by decide)) g | exact np_hd fun g => bad7_long (.inr (by decide +kernel)) g) | exact np_row h) (oa_consN (oe_lst (oa_cons (oe_lst oa_nil (by decide)) oa_nil) (by decide)) (by intro x h; first | (refine np_nl ?_; first | (obtain ⟨_, rfl, _⟩ := h; rfl) | (obtain rfl := h; rfl)) | (obtain ⟨_, rfl, rfl⟩ := h; exact np_nil) | (obtain ⟨_, rfl, _, _, rfl, rfl, rfl⟩ := h; exact np_hd fun g => bad7_nl rfl g) | (obtain ⟨_, rfl, _, _, rfl, ⟨_, rfl, rfl⟩, rfl⟩ := h; first | exact np_hd fun g => bad7_long (.inl (by decide)) g | exact np_hd fun g => bad7_long (.inr (by decide +kernel)) g) | exact np_row h) (oa_consN (oe_lst (oa_cons (oe_lrg (n := 13) (by first | decide | omega) (oe_intI (by decide))) oa_nil) (by decide)) (by intro x h; first | (refine np_nl ?_; first | (obtain ⟨_, rfl, _⟩ := h; rfl) | (obtain rfl := h; rfl)) | (obtain ⟨_, rfl, rfl⟩ := h; exact np_nil) | (obtain ⟨_, rfl, _, _, rfl, rfl, rfl⟩ := h; exact np_hd fun g => bad7_nl rfl g) | (obtain ⟨_, rfl, _, _, rfl, ⟨_, rfl, rfl⟩, rfl⟩ := h; first | exact np_hd fun g => bad7_long (.inl (by decide)) g | exact np_hd fun g => bad7_long (.inr (by decide +kernel)) g) | exact np_row h) (oa_consN (oe_ix (oe_v rfl o_pollU) (oe_intI (by decide)) (by grind)) (by intro x h; first | (refine np_nl ?_; first | (obtain ⟨_, rfl, _⟩ := h; rfl) | (obtain rfl := h; rfl)) | (obtain ⟨_, rfl, rfl⟩ := h; exact np_nil) | (obtain ⟨_, rfl, _, _, rfl, rfl, rfl⟩ := h; exact np_hd fun g => bad7_nl rfl g) | (obtain ⟨_, rfl, _, _, rfl, ⟨_, rfl, rfl⟩, rfl⟩ := h; first | exact np_hd fun g => bad7_long (.inl (by decide)) g | exact np_hd fun g => bad7_long (.inr (by decide +kernel)) g) | exact np_row h) (oa_nilN (fun x => ¬ PollD x)))))))))))))) (by decide) fun vs H10 p e10 D10 oo np => ?_
    obtain ⟨es, g1, g2, g3, g4⟩ := oo
    have npd : p ≠ d := DqAt.ne (H := H10) D10 np
    have s11 := same_new (o := .lst vs) np
    have hp11 : (upd H10 p (.lst vs)) p = some (.lst vs) := upd_same
    have D11 : (srcNF d p vs).At (upd H10 p (.lst vs)) := ⟨DqAt.same (H := H10) D10 s11, hp11, npd⟩
    replace o_poll := o_poll.kp e10
    replace o_base := o_base.kp e10
    replace o_odd := o_odd.kp e10
    replace kk := KeepD.trans kk e10
    have hvl := g1.len
    generalize upd H10 p (.lst vs) = H11 at s11 D11 hp11 ⊢
    refine ⟨_, rfl, .inl ⟨rfl, _, SqL.of hp11⟩, ?_⟩
    have z_poll := o_poll
    have z_base := o_base
    have z_odd := o_odd
    have of_ : ∀ {m k : Nat} {B : PyData → Prop} {v : V}, Od (srcN d) m k B H10 v → Od (srcNF d p vs) m k B H11 v := fun ⟨x, h1, h2, h3⟩ => ⟨x, h1.same fun b o e => by
      obtain ⟨e1, e2⟩ := cut1_of e
      show cut1 p (cut1 d H11) b = _
      rw [cut1_ne (ne_of_none e1 np), cut1_ne e2]
      exact s11 _ _ e1, h2, h3⟩
    replace o_poll := of_ z_poll
    refine oa_one (S := srcNF d p vs) D11 (oe_sl (oe_reps (n := 21) (oe_v rfl o_poll) (by decide) (by decide)) oo_none (oo_some (oe_intI (by decide)))) fun v1 H12 e12 D12 o1 => ?_
    refine ⟨p, _, _, rfl, rfl, D12.2.1, line_lt (by omega), ?_⟩
    have kA : KeepD d H10 (upd H12 p (.lst (vs ++ [v1]))) := fun b o e nb => by
      have nbp := ne_of_none e np
      rw [upd_ne nbp]
      exact e12 b o (s11 _ _ e) nb nbp
    have D13 : DqAt (upd H12 p (.lst (vs ++ [v1]))) d := D12.1.upd npd
    have o_things : Od (srcN d) 1000000 8 (oL fun ds => ds.length = 13 ∧ ∀ x ∈ ds, ¬ PollD x) (upd H12 p (.lst (vs ++ [v1]))) (.ref p) := by
      obtain ⟨y1, h1, h2, h3⟩ := o1
      refine ⟨.list (es ++ [y1]), .lst (by show cut1 d _ p = _; rw [cut1_ne npd]; exact upd_same) ((g1.same ((srcN d).kp kA)).app (.cons (h1.same fun b o e => ?_) .nil)), ?_, _, rfl, by rw [List.length_append, g3]; rfl, fun x m => ?_⟩
      · obtain ⟨e1, e2⟩ := cut1_of e
        obtain ⟨e3, e4⟩ := cut1_of e1
        show cut1 d _ b = _
        rw [cut1_ne e4, upd_ne e2]
        exact e3
      · exact (rw_list (rws_snoc (g2.mono (Nat.le_refl _) (show _ ≤ 7 by decide)) (h2.mono (Nat.le_refl _) (show _ ≤ 7 by decide)))).mono (by decide) (by decide)
      · rcases List.mem_append.mp m with m | m
        · exact g4 x m
        · rw [List.mem_singleton.mp m]
          obtain ⟨_, rfl, _, _, _, rfl, ⟨_, rfl, rfl⟩, rfl, ⟨_, rfl, rfl⟩⟩ := h3
          show ¬ PollD (.list (cutG _ none (some ((21 : Nat) : Int))))
          rw [cutG7_head _ 21]
          refine np_long ?_
          rw [List.length_take, len_reps, List.length_map]
          omega
    replace o_base := z_base.kp kA
    replace o_odd := z_odd.kp kA
    replace kk := KeepD.trans kk kA
    have o_at2 : Od (srcN d) 110 0 (oI fun i => i = (ai : Int)) (upd H12 p (.lst (vs ++ [v1]))) (.int ai) := od_of_int ⟨by omega, by omega⟩ rfl
    generalize upd H12 p (.lst (vs ++ [v1])) = H13 at D13 o_things o_base o_odd o_at2 kk ⊢
    clear z_poll z_base z_odd kA o1 D12 e12 of_ D11 s11 hp11 g1 g2 np e10 D10 o_at o_poll o_pollU o_n o_other k4 k5
    have o_at := o_at2
    refine os_set (S := srcN d) D13 ((oe_cat (oe_cat (oe_sl (oe_v rfl o_base) oo_none (oo_some (oe_v rfl o_at))) (oe_lst (oa_cons (oe_v rfl o_odd) oa_nil) (by decide)) (by decide)) (oe_sl (oe_v rfl o_base) (oo_some (oe_v rfl o_at)) oo_none) (by decide))) fun x14 H14 k14 D14 o_spoilt => ?_
    replace o_spoilt := o_spoilt.mono (m' := 200000) (k' := 10) (C := fun x => ¬ PollD x) (by decide) (by decide) (by
      rintro _ ⟨_, rfl, _, _, rfl, ⟨_, _, rfl, ⟨_, _, _, rfl, rfl, rfl, ⟨_, rfl, rfl⟩⟩, ⟨_, _, rfl, hy, rfl⟩⟩, ⟨_, _, _, rfl, rfl, ⟨_, rfl, rfl⟩, rfl⟩⟩
      exact spoilt_np hrow hbl.2 hy)
    replace o_things := o_things.kp k14
    replace kk := KeepD.trans kk k14
    refine os_ret (S := srcN d) D14 (oe_ix (oe_lst (oa_consN (oe_v rfl o_spoilt) (by exact fun _ h => h) (oa_consN (oe_ix (oe_v rfl o_things) (oe_modC 13 (oe_next rfl) (by decide)) (by grind)) (by exact fun _ h => h) (oa_nilN (fun x => ¬ PollD x)))) (by decide)) (oe_int1 (oe_eqI (oe_modC 3 (oe_next rfl) (by decide)) (oe_intI (by decide)))) (by grind)) fun u H' k' D' o' => q u H' (o'.mono (by decide) (by decide) fun _ h => h) D' (KeepD.trans kk k')
end
end Fo
namespace Fo
open PySem PySem.Spec PyProof.Rows L2
theorem rw_way {z : Str} (h : IsWay z) : Rw 100 0 (.str z) := by
  rcases h with rfl | rfl | rfl <;> exact rw_str (by decide +kernel)
theorem rw_poll {n : Nat} {rs : List (List Int)} (hn : n ≤ 12) (h : ∀ r ∈ rs, IsOrd n r) (hl : rs.length ≤ 20) : Rw 27000 2 (dLL rs) := (rw_list (rws_rows68 hn h)).mono (by omega) (by decide)
theorem dLL_len {rs : List (List Int)} (hl : rs.length ≤ 20) : ∀ ds, dLL rs = .list ds → ds.length ≤ 1000000 := fun ds e => by
  injection e with e
  rw [← e, List.length_map]
  omega
def spManyR : Sp := fun vs H Q _ => ∃ (z : Str) (l : Addr) (as : List Addr) (rs : List (List Int)) (n : Nat), vs = [.str z, .ref l] ∧ IsWay z ∧ OL H l as rs n ∧ 1 ≤ rs.length ∧ rs.length ≤ 20 ∧ ∀ H', Same H H' → Q (.bl true) H'
section
variable {P : Program} {w : World} {K : PySem.W.Frag} {mg : Str → Option Value} {base : Heap}
theorem scMnr : FnScope ["way", "poll", "n", "due"] ["way", "poll"] (defScope s_law_many_right) := ⟨rfl, rfl, rfl, by decide +kernel, rfl, by decide +kernel, by decide +kernel⟩
set_option maxHeartbeats 4000000 in
theorem ok_mnr {f f1 : Addr} {fd d1 : FuncData} {k : Nat} (T : Df K mg "_law_many_right" s_law_many_right ["way", "poll"] f fd) (T__law_asked : Df K mg "_law_asked" s_law_asked ["which", "way", "poll", "order"] f1 d1) (G__law_asked : FnG P w K mg base k f1 d1 ["which", "way", "poll", "order"] spAsk68) (B : Bi mg) : FnG P w K mg base (k + 1) f fd ["way", "poll"] spManyR := by
  refine okG T.F scMnr (fun vs H Q E h => ?_) (fun cdv A outer s H vs Q E gA hr h => ?_)
  · obtain ⟨z, l, as, rs, n, rfl, _⟩ := h
    rfl
  · obtain ⟨z, l, as, rs, n, rfl, wz, hO, h1, h2, q⟩ := h
    have hn1 := hO.n1
    have hn2 := hO.n2
    refine ⟨_, 
      (pss_cons (ps_set (i := 2) scMnr.nd rfl (.inl rfl) (pe_callB call_len_seq (by rfl) B.len PySem.boot_len (pa_cons (pe_ix ix_list (pv 1) pe_int (fun _ _ => rfl)) pa_nil)))
      (pss_cons (ps_set (i := 3) scMnr.nd rfl (.inl rfl) (pe_ix ix_list (pe_lst (pa_cons pe_str (pa_cons pe_str pa_nil))) (pe_callTy call_int1 (by rfl) B.int (by decide +kernel) (pa_cons (pe_cmpR op_gt (pv 2) (pe_ix ix_list (pe_lst (pa_cons pe_int (pa_cons pe_int pa_nil))) (pe_callTy call_int1 (by rfl) B.int (by decide +kernel) (pa_cons (pe_cmpR op_eq (pv 0) pe_str (nomark _)) pa_nil)) (fun _ _ => rfl)) (nomark _)) pa_nil)) (fun _ _ => rfl)))
      (Evl.pss_cut (ps_if (PW.pt (pw_or (pt_cmpR op_lt (pv 2) pe_int (nomark _)) (pw_or (pt_cmpR op_eq (pv 0) pe_str (nomark _)) (pw_or1 (pt_cmpR op_gt (pv 2) pe_int (nomark _))))))
        (pss_one (ps_if (pt_cmpR op_ne (pe_callG G__law_asked gA hr (by rfl) T__law_asked.g T__law_asked.F.kp T__law_asked.b (pa_cons pe_int (pa_cons (pv 0) (pa_cons (pv 1) (pa_cons pe_non pa_nil))))) (pv 3) (nomark _))
          (pss_one (ps_ret pe_bl))
          pss_nil))
        pss_nil)
      (pss_one (ps_ret (pe_cmpR op_eq (pe_callG G__law_asked gA hr (by rfl) T__law_asked.g T__law_asked.F.kp T__law_asked.b (pa_cons pe_int (pa_cons (pv 0) (pa_cons (pv 1) (pa_cons pe_non pa_nil))))) (pe_ix ix_list (pe_lst (pa_cons pe_str (pa_cons pe_str pa_nil))) (pe_callTy call_int1 (by rfl) B.int (by decide +kernel) (pa_cons (pe_cmpR op_gt (pv 2) pe_int (nomark _)) pa_nil)) (fun _ _ => rfl)) (nomark _))))))), ?_⟩
    obtain ⟨a0, ea0⟩ : ∃ a0, as[0]? = some a0 := ⟨_, List.getElem?_eq_getElem (by rw [hO.ll.len]; omega)⟩
    obtain ⟨r0, er0, ha0⟩ := hO.ll.get ea0
    have l0 := (hO.ord r0 (List.mem_of_getElem? er0)).len
    refine ⟨_, rfl, l, _, 0, _, rfl, rfl, SqL.of hO.top, at_of (j := 0) rfl (ref_at ea0), a0, _, rfl, .inl (SqL.of ha0), ?_⟩
    rw [List.length_map, l0]
    have fx : ∀ G, Same H G → Dq G (.ref l) (dLL rs) := fun G s => (ol_poll (hO.same s) h1 h2).1
    have r1 : Rw 100000 8 (.str z) := (rw_way wz).mono (by decide) (by decide)
    have r2 : Rw 4000000 14 (dLL rs) := (rw_poll hn2 hO.ord h2).mono (by decide) (by decide)
    have r3 : Rw 200000 8 .none := rw_none.mono (by decide) (by decide)
    have r4 := dLL_len h2
    obtain ⟨_, gP, gN⟩ := ol_poll hO h1 h2
    have wd : WayD (.str z) := ⟨z, rfl, wz⟩
    have two : ∀ (b : Bool) (x y : V), atI [x, y] (if b = true then 1 else 0) = some (if b = true then y else x) := fun b x y => by cases b <;> rfl
    obtain ⟨lim, elim⟩ : ∃ lim : Int, lim = if z = "swap" then (9 : Int) else 6 := ⟨_, rfl⟩
    -- due
    refine ⟨line_small (by show 2 ≤ 16777216; decide), fun t1 nt1 => ?_⟩
    have st1 := same_new (o := .lst [V.str "", .str "TooMany"]) nt1
    refine ⟨_, rfl, line_small (by show 2 ≤ 16777216; decide), fun t2 nt2 => ?_⟩
    have st2 := same_new (o := .lst [V.int 6, .int 9]) nt2
    refine ⟨_, rfl, rfl, .inr ⟨_, rfl, t2, _, _, _, rfl, rfl, SqL.of upd_same, two _ _ _, ?_⟩⟩
    have e9 : (if decide (V.str z = V.str "swap") = true then V.int 9 else V.int 6) = V.int lim := by
      rw [elim]
      by_cases c : z = "swap"
      · rw [if_pos (decide_eq_true (by rw [c])), if_pos c]
      · rw [if_neg (fun h => c (V.str.inj (of_decide_eq_true h))), if_neg c]
    rw [e9]
    refine ⟨_, _, rfl, rfl, .inr ⟨_, rfl, t1, _, _, _, rfl, rfl, SqL.of (st2 _ _ upd_same), two _ _ _, ?_⟩⟩
    have s12 := st1.trans st2
    generalize upd (upd H t1 (.lst [V.str "", .str "TooMany"])) t2 (.lst [V.int 6, .int 9]) = H2 at s12 ⊢
    have e10 : (if decide (lim < (n : Int)) = true then V.str "TooMany" else V.str "") = V.str (if lim < (n : Int) then "TooMany" else "") := by
      by_cases c : lim < (n : Int)
      · rw [if_pos (decide_eq_true c), if_pos c]
      · rw [if_neg (fun h => c (of_decide_eq_true h)), if_neg c]
    rw [e10]
    have a1 : AskD 1 (.str z) (dLL rs) .none (if lim < (n : Int) then "TooMany" else "") := by
      have el : lmP (.str z) = lim := by rw [elim]; rfl
      refine .inr (.inr (.inl ⟨gP, rfl, ?_⟩))
      by_cases c : lim < (n : Int)
      · exact .inr (.inl ⟨wd, by rw [el, gN]; exact c, if_pos c⟩)
      · exact .inr (.inr ⟨wd, by rw [el, gN]; omega, if_neg c⟩)
    generalize (if lim < (n : Int) then ("TooMany" : Str) else "") = due at a1 ⊢
    have a4 : AskD 4 (.str z) (dLL rs) .none (if (9 : Int) < (n : Int) then "TooMany" else "") := by
      refine .inr (.inr (.inr (.inr ⟨gP, rfl, ?_⟩)))
      by_cases c : (9 : Int) < (n : Int)
      · exact .inl ⟨by rw [gN]; omega, if_pos c⟩
      · exact .inr ⟨by rw [gN]; omega, if_neg c⟩
    refine ⟨fun τ G => τ = [some (.str z), some (.ref l), some (.int n), some (.str due)] ∧ Same H G, ?_, fun τ G hM => ?_⟩
    · exact ⟨_, rfl, _, _, rfl, rfl, _, rfl, ite2 (fun _ => iteT ⟨_, rfl, _, rfl, 1, .str z, .ref l, .non, .str z, dLL rs, .none, due, rfl, .str z, fx _ s12, .non, r1, r2, r3, r4, a1, fun G' s' => ⟨_, rfl, rfl, _, rfl, ite2 (fun c => absurd c (by rw [decide_eq_true rfl]; decide)) (fun _ => ⟨rfl, s12.trans s'⟩)⟩⟩) (fun _ => ⟨_, rfl, rfl, _, rfl, ite2 (fun _ => iteT ⟨_, rfl, _, rfl, 1, .str z, .ref l, .non, .str z, dLL rs, .none, due, rfl, .str z, fx _ s12, .non, r1, r2, r3, r4, a1, fun G' s' => ⟨_, rfl, rfl, _, rfl, ite2 (fun c => absurd c (by rw [decide_eq_true rfl]; decide)) (fun _ => ⟨rfl, s12.trans s'⟩)⟩⟩) (fun _ => ⟨_, rfl, _, _, rfl, rfl, _, rfl, ite2 (fun _ => ⟨_, rfl, _, rfl, 1, .str z, .ref l, .non, .str z, dLL rs, .none, due, rfl, .str z, fx _ s12, .non, r1, r2, r3, r4, a1, fun G' s' => ⟨_, rfl, rfl, _, rfl, ite2 (fun c => absurd c (by rw [decide_eq_true rfl]; decide)) (fun _ => ⟨rfl, s12.trans s'⟩)⟩⟩) (fun _ => ⟨rfl, s12⟩)⟩)⟩)⟩
    · obtain ⟨rfl, sG⟩ := hM
      refine ⟨_, rfl, _, rfl, 4, .str z, .ref l, .non, .str z, dLL rs, .none, _, rfl, .str z, fx _ sG, .non, r1, r2, r3, r4, a4, fun G' s' => ?_⟩
      refine ⟨line_small (by show 2 ≤ 16777216; decide), fun t3 nt3 => ⟨_, rfl, _, _, rfl, rfl, .inr ⟨_, rfl, t3, _, _, _, rfl, rfl, SqL.of upd_same, two _ _ _, ?_⟩⟩⟩
      have e11 : (if decide ((9 : Int) < (n : Int)) = true then V.str "TooMany" else V.str "") = V.str (if (9 : Int) < (n : Int) then "TooMany" else "") := by
        by_cases c : (9 : Int) < (n : Int)
        · rw [if_pos (decide_eq_true c), if_pos c]
        · rw [if_neg (fun h => c (of_decide_eq_true h)), if_neg c]
      rw [e11]
      refine ⟨rfl, ?_⟩
      rw [decide_eq_true rfl]
      exact q _ ((sG.trans s').trans (same_new nt3))
end
end Fo
namespace Fo
open PySem PySem.Spec PyProof.Rows L2
def spLaw (K : PySem.W.Frag) : Sp := fun vs H Q _ => ∃ (a : Addr) (ns : List Int), vs = [.ref a] ∧ SqL K H a (ns.map V.int) ∧ ns.length ≤ 63 ∧ ∀ H', Q (.bl true) H'
theorem turns5 (n : Nat) : ∃ m : Nat, (if (if 5 < (n : Int) then 5 else (n : Int)) > 1 then (if 5 < (n : Int) then 5 else (n : Int)) else 1) = (m : Int) ∧ m ≤ 5 := by
  by_cases c : 5 < (n : Int)
  · exact ⟨5, by rw [if_pos c]; rfl, by decide⟩
  · rw [if_neg c]
    by_cases c2 : (n : Int) > 1
    · exact ⟨n, by rw [if_pos c2], by omega⟩
    · exact ⟨1, by rw [if_neg c2]; rfl, by decide⟩
/-- what is drawn: the poll, the way, what is no way, what is no order, an order of other many things -/
structure Dr68 (d : Addr) (n : Nat) (l : Addr) (as : List Addr) (rs : List (List Int)) (bw bd : V) (xw xd : PyData) (lo : Addr) (os : List Int) (G : Hp) : Prop where
  dq : DqAt G d
  ol : OL G l as rs n
  bw : Dq (cut1 d G) bw xw
  bd : Dq (cut1 d G) bd xd
  lo : G lo = some (.lst (os.map V.int))
section
variable {d : Addr} {n : Nat} {l : Addr} {as : List Addr} {rs : List (List Int)} {bw bd : V} {xw xd : PyData} {lo : Addr} {os : List Int} {G G' : Hp}
theorem Dr68.keepD (h : Dr68 d n l as rs bw bd xw xd lo os G) (k : KeepD d G G') (q : DqAt G' d) (nl : l ≠ d) (na : d ∉ as) (no : lo ≠ d) : Dr68 d n l as rs bw bd xw xd lo os G' :=
  ⟨q, h.ol.keepD k nl na, h.bw.same ((srcN d).kp k), h.bd.same ((srcN d).kp k), k _ _ h.lo no⟩
theorem Dr68.same (h : Dr68 d n l as rs bw bd xw xd lo os G) (s : Same G G') : Dr68 d n l as rs bw bd xw xd lo os G' :=
  ⟨h.dq.same s, h.ol.same s, h.bw.same ((srcN d).kp (KeepD.of_same s)), h.bd.same ((srcN d).kp (KeepD.of_same s)), s _ _ h.lo⟩
theorem Dr68.w (h : Dr68 d n l as rs bw bd xw xd lo os G) : Dq G bw xw := h.bw.same ((srcN d).le G)
theorem Dr68.b (h : Dr68 d n l as rs bw bd xw xd lo os G) : Dq G bd xd := h.bd.same ((srcN d).le G)
end
theorem od_dq {d : Addr} {m k : Nat} {B : PyData → Prop} {G : Hp} {v : V} (h : Od (srcN d) m k B G v) : ∃ x, Dq G v x ∧ Rw m k x ∧ B x := by
  obtain ⟨x, h1, h2, h3⟩ := h
  exact ⟨x, h1.same ((srcN d).le G), h2, h3⟩
theorem len_wt2 : ∀ ds : List PyData, 2 * ds.length ≤ wtL ds
  | [] => Nat.zero_le _
  | x :: ds => by
    rw [List.length_cons, wtL]
    have := len_wt2 ds
    omega
theorem rw_len2 {k : Nat} {x : PyData} (h : Rw 2000000 k x) : ∀ ds, x = .list ds → ds.length ≤ 1000000 := fun ds e => by
  subst e
  obtain ⟨j, _, h⟩ := h.lst
  have := len_wt2 ds
  have := h.l
  omega
theorem good_ints68 {n : Nat} {r : List Int} (h : IsOrd n r) (h1 : 1 ≤ n) (h2 : n ≤ 12) : GoodD (.list (r.map PyData.int)) ∧ lenD (.list (r.map PyData.int)) = n :=
  ⟨⟨r, rfl, by rw [h.len]; exact h, by rw [h.len]; exact h1, by rw [h.len]; exact h2⟩, by show (r.map PyData.int).length = n; rw [List.length_map, h.len]⟩
theorem rw_ord68 {n : Nat} {r : List Int} (h : IsOrd n r) (h2 : n ≤ 12) : Rw 200000 8 (.list (r.map PyData.int)) :=
  (rw_list (rws_ints (b := 0) fun y hy => by have := h.mem hy; omega)).mono (by have := h.len; omega) (by decide)
section
variable {P : Program} {w : World} {K : PySem.W.Frag} {mg : Str → Option Value} {base : Heap}
theorem scLaw : FnScope ["script", "k", "deck", "n", "poll", "way", "bad_way", "bad", "other", "turn", "none", "asked", "dues", "which"] ["script"] (defScope s_law) := ⟨rfl, rfl, rfl, by decide +kernel, rfl, by decide +kernel, by decide +kernel⟩
set_option maxHeartbeats 8000000 in
theorem ok_law {f f1 f2 f3 f4 f5 f6 f7 f8 f9 fA : Addr} {fd d1 d2 d3 d4 d5 d6 d7 d8 d9 dA : FuncData} (T : Fun K "law" "law" s_law f fd) (T__law_deck : Df K mg "_law_deck" s_law_deck ["cell", "many"] f1 d1) (T__law_cell_at : Df K mg "_law_cell_at" s_law_cell_at ["script", "k"] f2 d2) (T__law_next : Df K mg "_law_next" s_law_next ["deck"] f3 d3) (T__law_poll : Df K mg "_law_poll" s_law_poll ["deck", "n", "most"] f4 d4) (T__law_no_way : Df K mg "_law_no_way" s_law_no_way ["deck"] f5 d5) (T__law_no_order : Df K mg "_law_no_order" s_law_no_order ["deck", "n"] f6 d6) (T__law_order : Df K mg "_law_order" s_law_order ["deck", "n"] f7 d7) (T__law_no_poll : Df K mg "_law_no_poll" s_law_no_poll ["deck", "poll"] f8 d8) (T__law_asked : Df K mg "_law_asked" s_law_asked ["which", "way", "poll", "order"] f9 d9) (T__law_many_right : Df K mg "_law_many_right" s_law_many_right ["way", "poll"] fA dA)
    (G__law_deck : FnOk P w K mg base CX0 39 f1 d1 ["cell", "many"] spDeckN) (G__law_cell_at : FnOk P w K mg base CX0 39 f2 d2 ["script", "k"] (spCell K)) (G__law_next : FnOk P w K mg base CX0 39 f3 d3 ["deck"] spNext) (G__law_poll : FnOk P w K mg base CX0 39 f4 d4 ["deck", "n", "most"] spPoll) (G__law_no_way : FnOk P w K mg base CX0 39 f5 d5 ["deck"] spNoWay72) (G__law_no_order : FnOk P w K mg base CX0 39 f6 d6 ["deck", "n"] spNoOrd72) (G__law_order : FnOk P w K mg base CX0 39 f7 d7 ["deck", "n"] spOrderN) (G__law_no_poll : FnOk P w K mg base CX0 39 f8 d8 ["deck", "poll"] spNoPoll) (G__law_asked : FnG P w K mg base 39 f9 d9 ["which", "way", "poll", "order"] spAsk68) (G__law_many_right : FnG P w K mg base 39 fA dA ["way", "poll"] spManyR) (sy : SysAt base) (B : Bi mg) : FnG P w K mg base 40 f fd ["script"] (spLaw K) := by
  refine okG T scLaw (fun vs H Q E h => ?_) (fun cdv A outer s H vs Q E gA hr h => ?_)
  · obtain ⟨a, ns, rfl, _⟩ := h
    rfl
  · obtain ⟨a, ns, rfl, hS, hlen, q⟩ := h
    refine ⟨_, 
      (pss_cons (ps_for PassesOwn.never rfl (pi_range1 (by rfl) B.range (pa_cons (pe_callB (call_max2 rfl) (by rfl) B.max (by decide +kernel) (pa_cons pe_int (pa_cons (pe_callB (call_min2 rfl) (by rfl) B.min (by decide +kernel) (pa_cons (pe_callB call_len_seq (by rfl) B.len PySem.boot_len (pa_cons (pv 0) pa_nil)) (pa_cons pe_int pa_nil))) pa_nil))) pa_nil)) (pg_name (i := 1) scLaw.nd rfl (.inl rfl))
        (pss_cons (ps_set (i := 2) scLaw.nd rfl (.inl rfl) (pe_call G__law_deck hr (by rfl) T__law_deck.g T__law_deck.F.kp T__law_deck.b .nil pass0 (pa_cons (pe_call G__law_cell_at hr (by rfl) T__law_cell_at.g T__law_cell_at.F.kp T__law_cell_at.b .nil pass0 (pa_cons (pv 0) (pa_cons (pv 1) pa_nil))) (pa_cons pe_int pa_nil))))
        (pss_cons (ps_set (i := 3) scLaw.nd rfl (.inl rfl) (pe_ix ix_list (pe_lst (pa_cons (pe_op op_add pe_int (pe_op op_mod (pe_call G__law_next hr (by rfl) T__law_next.g T__law_next.F.kp T__law_next.b .nil pass0 (pa_cons (pv 2) pa_nil)) pe_int)) (pa_cons (pe_op op_add pe_int (pe_op op_mod (pe_call G__law_next hr (by rfl) T__law_next.g T__law_next.F.kp T__law_next.b .nil pass0 (pa_cons (pv 2) pa_nil)) pe_int)) pa_nil))) (pe_op op_mod (pe_call G__law_next hr (by rfl) T__law_next.g T__law_next.F.kp T__law_next.b .nil pass0 (pa_cons (pv 2) pa_nil)) pe_int) (fun _ _ => rfl)))
        (pss_cons (ps_set (i := 4) scLaw.nd rfl (.inl rfl) (pe_call G__law_poll hr (by rfl) T__law_poll.g T__law_poll.F.kp T__law_poll.b .nil pass0 (pa_cons (pv 2) (pa_cons (pv 3) (pa_cons pe_int pa_nil)))))
        (pss_cons (ps_set (i := 5) scLaw.nd rfl (.inl rfl) (pe_ix ix_list (pe_lst (pa_cons pe_str (pa_cons pe_str (pa_cons pe_str pa_nil)))) (pe_op op_mod (pe_call G__law_next hr (by rfl) T__law_next.g T__law_next.F.kp T__law_next.b .nil pass0 (pa_cons (pv 2) pa_nil)) pe_int) (fun _ _ => rfl)))
        (pss_cons (ps_set (i := 6) scLaw.nd rfl (.inl rfl) (pe_call G__law_no_way hr (by rfl) T__law_no_way.g T__law_no_way.F.kp T__law_no_way.b .nil pass0 (pa_cons (pv 2) pa_nil)))
        (pss_cons (ps_set (i := 7) scLaw.nd rfl (.inl rfl) (pe_call G__law_no_order hr (by rfl) T__law_no_order.g T__law_no_order.F.kp T__law_no_order.b .nil pass0 (pa_cons (pv 2) (pa_cons (pv 3) pa_nil))))
        (pss_cons (ps_set (i := 8) scLaw.nd rfl (.inl rfl) (pe_call G__law_order hr (by rfl) T__law_order.g T__law_order.F.kp T__law_order.b .nil pass0 (pa_cons (pv 2) (pa_cons (pe_op op_sub (pe_op op_add (pv 3) pe_int) (pe_op op_mul pe_int (pe_callTy call_int1 (by rfl) B.int (by decide +kernel) (pa_cons (pe_cmpR op_eq (pv 3) pe_int (nomark _)) pa_nil)))) pa_nil))))
        (pss_cons (ps_for PassesOwn.never rfl (pi_range1 (by rfl) B.range (pa_cons pe_int pa_nil)) (pg_name (i := 9) scLaw.nd rfl (.inl rfl))
          (pss_cons (ps_set (i := 10) scLaw.nd rfl (.inr rfl) (pe_call G__law_no_poll hr (by rfl) T__law_no_poll.g T__law_no_poll.F.kp T__law_no_poll.b .nil pass0 (pa_cons (pv 2) (pa_cons (pv 4) pa_nil))))
          (pss_one (ps_for PassesOwn.never rfl (pi_list (pe_lst (pa_cons (pe_tup (pa_cons (pv 5) (pa_cons (pe_ix ix_list (pv 4) pe_int (fun _ _ => rfl)) pa_nil))) (pa_cons (pe_tup (pa_cons (pv 6) (pa_cons (pv 7) pa_nil))) (pa_cons (pe_tup (pa_cons (pv 5) (pa_cons (pv 7) pa_nil))) (pa_cons (pe_tup (pa_cons (pv 6) (pa_cons (pv 8) pa_nil))) pa_nil)))))) (pg_name (i := 11) scLaw.nd rfl (.inr rfl))
            (pss_one (ps_if (pt_cmpR (op_neD hr.units) (pe_lc (own := [("which", 13)]) (g := (gName 13)) (tt := (tTest (tOp rNe (tCall spAsk68 [] E0 (tCons (tVar 13) (tCons (tOp (rIxT K) (tVar 11) (tC (.int 0))) (tCons (tVar 10) (tCons (tOp (rIxT K) (tVar 11) (tC (.int 1))) tNil))))) (tC (.str "NoOrder"))))) (te := (tVar 13)) rfl scLaw.nd (pi_range1 (by rfl) B.range (pa_cons pe_int pa_nil)) (blkOk_by (N := ["script", "k", "deck", "n", "poll", "way", "bad_way", "bad", "other", "turn", "none", "asked", "dues", "which"]) (sc := defScope s_law) (by decide +kernel)) (fun _ _ _ _ _ => (pg_name (i := 13) scLaw.nd rfl (.inl rfl))) (fun _ _ _ _ _ => (pts_one (pt_cmpR op_ne (pe_callG G__law_asked gA hr (by rfl) T__law_asked.g T__law_asked.F.kp T__law_asked.b (pa_cons (pv 13) (pa_cons (pe_ix ix_tup (pv 11) pe_int (fun _ _ => rfl)) (pa_cons (pv 10) (pa_cons (pe_ix ix_tup (pv 11) pe_int (fun _ _ => rfl)) pa_nil))))) pe_str (nomark _)))) (fun _ _ _ _ _ => (pv 13))) (pe_lst pa_nil) (nomark _))
              (pss_one (ps_ret pe_bl))
              pss_nil))))))
        (pss_cons (ps_set (i := 12) scLaw.nd rfl (.inl rfl) (pe_lst (pa_cons (pe_callG G__law_asked gA hr (by rfl) T__law_asked.g T__law_asked.F.kp T__law_asked.b (pa_cons pe_int (pa_cons (pv 5) (pa_cons (pv 4) (pa_cons (pv 7) pa_nil))))) (pa_cons (pe_callG G__law_asked gA hr (by rfl) T__law_asked.g T__law_asked.F.kp T__law_asked.b (pa_cons pe_int (pa_cons (pv 6) (pa_cons (pv 4) (pa_cons (pv 7) pa_nil))))) (pa_cons (pe_callG G__law_asked gA hr (by rfl) T__law_asked.g T__law_asked.F.kp T__law_asked.b (pa_cons pe_int (pa_cons (pv 6) (pa_cons (pv 4) (pa_cons (pv 8) pa_nil))))) pa_nil)))))
        (pss_cons (ps_set (i := 12) scLaw.nd rfl (.inl rfl) (pe_op op_cat (pv 12) (pe_lst (pa_cons (pe_callG G__law_asked gA hr (by rfl) T__law_asked.g T__law_asked.F.kp T__law_asked.b (pa_cons pe_int (pa_cons (pv 6) (pa_cons (pv 4) (pa_cons (pe_ix ix_list (pv 4) pe_int (fun _ _ => rfl)) pa_nil))))) (pa_cons (pe_callG G__law_asked gA hr (by rfl) T__law_asked.g T__law_asked.F.kp T__law_asked.b (pa_cons pe_int (pa_cons (pv 6) (pa_cons (pv 4) (pa_cons pe_non pa_nil))))) pa_nil)))))
        (pss_cons (ps_set (i := 12) scLaw.nd rfl (.inl rfl) (pe_op op_cat (pv 12) (pe_lst (pa_cons (pe_callG G__law_asked gA hr (by rfl) T__law_asked.g T__law_asked.F.kp T__law_asked.b (pa_cons pe_int (pa_cons (pv 5) (pa_cons (pv 4) (pa_cons (pv 8) pa_nil))))) (pa_cons (pe_callG G__law_asked gA hr (by rfl) T__law_asked.g T__law_asked.F.kp T__law_asked.b (pa_cons pe_int (pa_cons (pv 5) (pa_cons (pv 4) (pa_cons (pe_ix ix_list (pv 4) pe_int (fun _ _ => rfl)) pa_nil))))) pa_nil)))))
        (pss_cons (ps_if (pt_cmpR (op_neD hr.units) (pv 12) (pe_lst (pa_cons pe_str (pa_cons pe_str (pa_cons pe_str (pa_cons pe_str (pa_cons pe_str (pa_cons pe_str (pa_cons pe_str pa_nil)))))))) (nomark _))
          (pss_one (ps_ret pe_bl))
          pss_nil)
        (pss_cons (ps_if (PW.pt (pw_or (pt_cmpR op_ne (pe_callG G__law_asked gA hr (by rfl) T__law_asked.g T__law_asked.F.kp T__law_asked.b (pa_cons pe_int (pa_cons (pv 5) (pa_cons (pv 4) (pa_cons pe_non pa_nil))))) pe_str (nomark _)) (pw_or1 (pt_cmpR op_ne (pe_callG G__law_asked gA hr (by rfl) T__law_asked.g T__law_asked.F.kp T__law_asked.b (pa_cons pe_int (pa_cons (pv 5) (pa_cons (pv 4) (pa_cons pe_non pa_nil))))) pe_str (nomark _)))))
          (pss_one (ps_ret pe_bl))
          pss_nil)
        (pss_one (ps_if (pt_not (pt_val (pe_callG G__law_many_right gA hr (by rfl) T__law_many_right.g T__law_many_right.F.kp T__law_many_right.b (pa_cons (pv 5) (pa_cons (pv 4) pa_nil)))))
          (pss_one (ps_ret pe_bl))
          pss_nil))))))))))))))))
      (pss_one (ps_ret pe_bl))), ?_⟩
    refine ⟨_, rfl, a, _, rfl, .inl hS, _, 5, rfl, 1, _, rfl, _, rfl, ?_⟩
    obtain ⟨m, em, hm⟩ := turns5 (ns.map V.int).length
    refine ⟨by rw [em]; omega, by rw [em]; omega, ?_⟩
    rw [em, Int.toNat_natCast]
    refine for_range (n := m) (fun k0 σ H3 => ∃ (y1 y2 y3 y4 y5 y6 y7 y8 y9 y10 y11 y12 : Option V), σ = [some (.ref a), y1, y2, y3, y4, y5, y6, y7, y8, y9, y10, y11, y12, none] ∧ Same H H3)
      ⟨_, _, _, _, _, _, _, _, _, _, _, _, rfl, Same.refl _⟩ (fun k0 σ H3 hi hP => ?_) (fun σ H3 hP => q _)
    obtain ⟨y1, y2, y3, y4, y5, y6, y7, y8, y9, y10, y11, y12, rfl, s3⟩ := hP
    refine ⟨_, rfl, _, rfl, a, ns, k0, by rw [show (0 + (k0 : Int)) = (k0 : Int) by omega]; rfl, s3.seq hS, fun c => ⟨c, 900, rfl, by decide, by decide, fun d H4 nd D4 s4 => ?_⟩⟩
    have s04 := s3.trans s4
    have nHd : H d = none := s3.free nd
    -- n
    refine ⟨_, rfl, d, rfl, D4, fun v1 H5 _ _ D5 k5 => ⟨v1, 12, rfl, rfl, (show (0 : Int) < 12 by decide), 1, _, rfl, rfl, ?_⟩⟩
    refine ⟨_, rfl, d, rfl, D5, fun v2 H6 _ _ D6 k6 => ⟨v2, 6, rfl, rfl, (show (0 : Int) < 6 by decide), 7, _, rfl, rfl, ?_⟩⟩
    refine ⟨line_small (by show 2 ≤ 16777216; decide), fun t nt => ?_⟩
    have D7 := D6.new (o := .lst [.int (1 + v1 % 12), .int (7 + v2 % 6)]) nt
    have ntd := D6.ne nt
    refine ⟨_, rfl, d, rfl, D7, fun v3 H8 _ _ D8 k8 => ⟨v3, 2, rfl, rfl, (show (0 : Int) < 2 by decide), ?_⟩⟩
    have b1 := mod_b v1 (m := 12) (by decide)
    have b2 := mod_b v2 (m := 6) (by decide)
    have b3 := mod_b v3 (m := 2) (by decide)
    obtain ⟨n, en, hn1, hn2⟩ : ∃ n : Nat, atI [V.int (1 + v1 % 12), V.int (7 + v2 % 6)] (v3 % 2) = some (.int n) ∧ 1 ≤ n ∧ n ≤ 12 := by
      have : v3 % 2 = 0 ∨ v3 % 2 = 1 := by omega
      rcases this with h | h <;> rw [h]
      · refine ⟨(1 + v1 % 12).toNat, ?_, by omega, by omega⟩
        rw [Int.toNat_of_nonneg (by omega)]
        rfl
      · refine ⟨(7 + v2 % 6).toNat, ?_, by omega, by omega⟩
        rw [Int.toNat_of_nonneg (by omega)]
        rfl
    refine ⟨t, _, _, _, rfl, rfl, SqL.of (k8 t _ upd_same ntd), en, ?_⟩
    have kk8 : KeepD d H4 H8 := ((k5.trans k6).trans (KeepD.new nt)).trans k8
    -- poll
    refine ⟨_, rfl, _, rfl, d, n, 20, rfl, D8, hn1, by omega, by decide, by decide, fun l as rs H9 hO hl1 hl2 nl nas nld nda D9 k9 => ?_⟩
    have kk9 : KeepD d H4 H9 := kk8.trans k9
    -- way
    refine ⟨line_small (by show 3 ≤ 16777216; decide), fun t1 nt1 => ?_⟩
    have st1 := same_new (o := .lst [.str "swap", .str "spot", .str "shift"]) nt1
    have nt1D := D9.ne nt1
    refine ⟨_, rfl, d, rfl, D9.same st1, fun v4 HA _ _ DA kA => ⟨v4, 3, rfl, rfl, (show (0 : Int) < 3 by decide), ?_⟩⟩
    have m1 := mod_b v4 (m := 3) (by decide)
    obtain ⟨z, ez, wz⟩ : ∃ z : Str, atI [V.str "swap", V.str "spot", V.str "shift"] (v4 % 3) = some (.str z) ∧ IsWay z := by
      have : v4 % 3 = 0 ∨ v4 % 3 = 1 ∨ v4 % 3 = 2 := by omega
      rcases this with h | h | h <;> rw [h]
      · exact ⟨_, rfl, .inl rfl⟩
      · exact ⟨_, rfl, .inr (.inl rfl)⟩
      · exact ⟨_, rfl, .inr (.inr rfl)⟩
    refine ⟨t1, _, _, _, rfl, rfl, SqL.of (kA t1 _ upd_same nt1D), ez, ?_⟩
    -- no way, no order, another order
    refine ⟨_, rfl, d, rfl, DA, fun bw HB obw DB kB => ?_⟩
    refine ⟨_, rfl, _, rfl, d, n, rfl, DB, hn1, hn2, fun bd HC obd DC kC => ?_⟩
    obtain ⟨N, eN, hN1, hN2, hN3⟩ : ∃ N : Nat, (n : Int) + 1 - 2 * (if decide (V.int (n : Int) = V.int 12) = true then 1 else 0) = (N : Int) ∧ N ≤ 12 ∧ N ≠ n ∧ 1 ≤ N := by
      by_cases c : n = 12
      · subst c
        exact ⟨11, by decide +kernel, by decide, by decide, by decide⟩
      · exact ⟨n + 1, by rw [decide_eq_false (fun z => c (by injection z with z; omega))]; simp, by omega, by omega, by omega⟩
    refine ⟨_, rfl, _, rfl, _, _, rfl, rfl, _, rfl, rfl, .inr ⟨decide (V.int (n : Int) = V.int 12), rfl, 2, _, rfl, rfl, .inl ⟨by decide, by decide⟩, _, _, rfl, rfl, d, N, by show [V.ref d, V.int ((n : Int) + 1 - 2 * _)] = _; rw [eN], DC, hN1, fun os lo HD hon nlo hlo nlod DD kD => ?_⟩⟩
    have kkD : KeepD d H9 HD := ((((KeepD.of_same st1).trans kA).trans kB).trans kC).trans kD
    obtain ⟨xw, hxw, rxw, nxw⟩ := obw.kp (kC.trans kD)
    obtain ⟨xd, hxd, rxd, nxd⟩ := obd.kp kD
    have W : Dr68 d n l as rs bw bd xw xd lo os HD := ⟨DD, hO.keepD kkD nld nda, hxw, hxd, hlo⟩
    have kF : Same H HD := fun b o e => kkD b o (kk9 b o (s04 b o e) (ne_of_none e nHd)) (ne_of_none e nHd)
    have hord := hO.ord
    clear kk9 kk8 k5 k6 k8 k9 kA kB kC kD kkD D4 D5 D6 D7 D8 D9 DA DB DC DD s3 s04 s4 st1 obw obd hxw hxd hlo
    obtain ⟨a0, ea0⟩ : ∃ a0, as[0]? = some a0 := ⟨_, List.getElem?_eq_getElem (by rw [hO.ll.len]; omega)⟩
    obtain ⟨r0, er0, _⟩ := hO.ll.get ea0
    have or0 := hord r0 (List.mem_of_getElem? er0)
    have ha0 : ∀ {G : Hp}, Dr68 d n l as rs bw bd xw xd lo os G → G a0 = some (.lst (r0.map V.int)) := fun W => by
      obtain ⟨r, e, h⟩ := W.ol.ll.get ea0
      rw [er0] at e
      cases e
      exact h
    clear hO
    have fz : Rw 100000 8 (.str z) := (rw_way wz).mono (by decide) (by decide)
    have fw : Rw 100000 8 xw := rxw.mono (by decide) (by decide)
    have fd' : Rw 200000 8 xd := rxd.mono (by decide) (by decide)
    have fo := rw_ord68 hon hN1
    have f0 := rw_ord68 or0 hn2
    have fp : Rw 4000000 14 (dLL rs) := (rw_poll hn2 hord hl2).mono (by decide) (by decide)
    obtain ⟨go1, go2⟩ := good_ints68 hon hN3 hN1
    obtain ⟨g01, g02⟩ := good_ints68 or0 hn1 hn2
    have wd : WayD (.str z) := ⟨z, rfl, wz⟩
    -- what is no poll
    refine ⟨4, rfl, by decide, by decide, ?_⟩
    refine for_range (n := 4) (fun j σ G => ∃ (y9 y10 y11 y12 : Option V), σ = [some (.ref a), some (.int (0 + (k0 : Int))), some (.ref d), some (.int n), some (.ref l), some (.str z), some bw, some bd, some (.ref lo), y9, y10, y11, y12, none] ∧ Dr68 d n l as rs bw bd xw xd lo os G ∧ KeepD d HD G) ⟨_, _, _, _, rfl, W, KeepD.refl d HD⟩ (fun j σ G hj hP => ?_) (fun σ G hP => ?_)
    · obtain ⟨y9, y10, y11, y12, rfl, W, kG⟩ := hP
      refine ⟨_, rfl, _, rfl, d, l, as, rs, n, rfl, W.dq, W.ol, hl1, hl2, nld, nda, fun nv G1 on D1 k1 => ?_⟩
      have W1 := W.keepD k1 D1 nld nda nlod
      obtain ⟨dn, hdn, rdn, ndn⟩ := od_dq on
      refine ⟨_, rfl, _, rfl, l, _, 0, _, rfl, rfl, SqL.of W1.ol.top, at_of (j := 0) rfl (ref_at ea0), line_small (by show 2 ≤ 16777216; decide), fun t1 nt1 => ?_⟩
      have u1 := same_new (o := .tup [.str z, .ref a0]) nt1
      refine ⟨_, rfl, _, rfl, line_small (by show 2 ≤ 16777216; decide), fun t2 nt2 => ?_⟩
      have u2 := same_new (o := .tup [bw, bd]) nt2
      refine ⟨_, rfl, _, rfl, line_small (by show 2 ≤ 16777216; decide), fun t3 nt3 => ?_⟩
      have u3 := same_new (o := .tup [.str z, bd]) nt3
      refine ⟨_, rfl, _, rfl, line_small (by show 2 ≤ 16777216; decide), fun t4 nt4 => ?_⟩
      have u4 := same_new (o := .tup [bw, .ref lo]) nt4
      refine ⟨line_small (by show 4 ≤ 16777216; decide), fun p np => ?_⟩
      have u5 := same_new (o := .lst [.ref t1, .ref t2, .ref t3, .ref t4]) np
      have q1 := (((u2.trans u3).trans u4).trans u5) _ _ (upd_same (H := G1) (a := t1) (o := .tup [.str z, .ref a0]))
      have q2 := ((u3.trans u4).trans u5) _ _ (upd_same (H := upd G1 t1 (.tup [.str z, .ref a0])) (a := t2) (o := .tup [bw, bd]))
      have q3 := (u4.trans u5) _ _ (upd_same (H := upd (upd G1 t1 (.tup [.str z, .ref a0])) t2 (.tup [bw, bd])) (a := t3) (o := .tup [.str z, bd]))
      have q4 := u5 _ _ (upd_same (H := upd (upd (upd G1 t1 (.tup [.str z, .ref a0])) t2 (.tup [bw, bd])) t3 (.tup [.str z, bd])) (a := t4) (o := .tup [bw, .ref lo]))
      have q5 := upd_same (H := upd (upd (upd (upd G1 t1 (.tup [.str z, .ref a0])) t2 (.tup [bw, bd])) t3 (.tup [.str z, bd])) t4 (.tup [bw, .ref lo])) (a := p) (o := .lst [.ref t1, .ref t2, .ref t3, .ref t4])
      have u05 := (((u1.trans u2).trans u3).trans u4).trans u5
      generalize upd (upd (upd (upd (upd G1 t1 (.tup [.str z, .ref a0])) t2 (.tup [bw, bd])) t3 (.tup [.str z, bd])) t4 (.tup [bw, .ref lo])) p (.lst [.ref t1, .ref t2, .ref t3, .ref t4]) = G5 at q1 q2 q3 q4 q5 u05 ⊢
      clear u1 u2 u3 u4 u5 nt1 nt2 nt3 nt4 np
      have W5 := W1.same u05
      have hdn5 := hdn.same u05
      have k5 : KeepD d HD G5 := (kG.trans k1).trans (KeepD.of_same u05)
      have each : ∀ (i : Nat) (x : V), [V.ref t1, .ref t2, .ref t3, .ref t4][i]? = some x → ∃ (t : Addr) (v u : V) (f e : PyData), x = .ref t ∧ G5 t = some (.tup [v, u]) ∧ Dq G5 v f ∧ Dq G5 u e ∧ Rw 100000 8 f ∧ Rw 200000 8 e := fun i x e => by
        match i, e with
        | 0, e => cases e; exact ⟨t1, _, _, _, _, rfl, q1, .str z, dq_list (ha0 W5), fz, f0⟩
        | 1, e => cases e; exact ⟨t2, _, _, _, _, rfl, q2, W5.w, W5.b, fw, fd'⟩
        | 2, e => cases e; exact ⟨t3, _, _, _, _, rfl, q3, .str z, W5.b, fz, fd'⟩
        | 3, e => cases e; exact ⟨t4, _, _, _, _, rfl, q4, W5.w, dq_list W5.lo, fw, fo⟩
        | i + 4, e => simp at e
      refine ⟨p, rfl, ⟨_, SqL.of q5⟩, ?_⟩
      refine for_it walk_list (fun i σ G => ∃ (y11 : Option V), σ = [some (.ref a), some (.int (0 + (k0 : Int))), some (.ref d), some (.int n), some (.ref l), some (.str z), some bw, some bd, some (.ref lo), some (.int (0 + (j : Int))), some nv, y11, y12, none] ∧ Same G5 G) ⟨_, rfl, Same.refl _⟩ (fun i σ G _ hP => by obtain ⟨_, _, s⟩ := hP; exact SqL.of (s _ _ q5)) (fun i x σ G G' hi hP hy => ?_) (fun σ G hP => ?_)
      · obtain ⟨y11, rfl, s5⟩ := hP
        obtain ⟨rfl, ex⟩ := hy
        obtain ⟨t, v, u, f, e, rfl, ht, hv, hu, rv, ru⟩ := each i x ex
        refine ⟨5, rfl, by decide, by decide, fun D nD => ?_⟩
        refine lc_it (walk_range (lo := 0) (n := 5)) (fun i G => G D = some (.lst (([] : List Int).map V.int)) ∧ Same G' G) ⟨upd_same, same_new nD⟩ (fun i G _ hP => trivial) (fun i x G G'' hi hP hy => ?_) (fun G hP => ?_)
        · obtain ⟨hD, sD⟩ := hP
          obtain ⟨rfl, rfl⟩ := hy
          have s5D := s5.trans sD
          have ht' := s5D _ _ ht
          refine ⟨rfl, _, rfl, _, rfl, t, _, _, _, rfl, rfl, SqT.of ht', rfl, _, rfl, _, rfl, t, _, _, _, rfl, rfl, SqT.of ht', rfl, i, v, nv, u, f, dn, e, "NoOrder", by show [V.int (0 + (i : Int)), v, nv, u] = _; rw [show (0 + (i : Int)) = (i : Int) by omega], hv.same s5D, hdn5.same s5D, hu.same s5D, rv, rdn.mono (by decide) (by decide), ru, rw_len2 rdn, .inl ⟨by omega, ndn, rfl⟩, fun G4 s4 => ⟨rfl, _, rfl, ?_⟩⟩
          rw [decide_eq_true rfl]
          exact iteF ⟨s4 _ _ hD, sD.trans s4⟩
        · obtain ⟨hD, sD⟩ := hP
          refine ⟨line_small (by show 0 ≤ 16777216; decide), fun e0 ne0 => ?_⟩
          have s6 := same_new (o := .lst (([] : List Int).map V.int)) ne0
          refine ⟨_, _, dp_list (s6 _ _ hD), dp_list (ns := []) upd_same, shaped_list _, shaped_list _, _, rfl, ?_⟩
          rw [eqv_list]
          exact iteF ⟨_, rfl, (s5.trans sD).trans s6⟩
      · obtain ⟨y11, rfl, s5⟩ := hP
        exact ⟨_, _, _, _, rfl, W5.same s5, k5.trans (KeepD.of_same s5)⟩
    obtain ⟨y9, y10, y11, y12, rfl, W, kG⟩ := hP
    have kFG : Same H G := fun b o e => kG b o (kF b o e) (ne_of_none e nHd)
    clear kG kF
    obtain ⟨_, gP, gN⟩ := ol_poll W.ol hl1 hl2
    have W0 := W
    refine ⟨_, rfl, _, rfl, _, rfl, 0, .str z, .ref l, bd, .str z, dLL rs, xd, "NoOrder", rfl, .str z, (ol_poll W0.ol hl1 hl2).1, W0.b, fz, fp, fd', dLL_len hl2, .inr (.inl ⟨gP, rfl, .inl ⟨nxd, rfl⟩⟩), fun G1 s1 => ?_⟩
    have W1 := W0.same s1
    refine ⟨_, rfl, _, rfl, _, rfl, 0, bw, .ref l, bd, xw, dLL rs, xd, "NoOrder", rfl, W1.w, (ol_poll W1.ol hl1 hl2).1, W1.b, fw, fp, fd', dLL_len hl2, .inr (.inl ⟨gP, rfl, .inl ⟨nxd, rfl⟩⟩), fun G2 s2 => ?_⟩
    have W2 := W1.same s2
    refine ⟨_, rfl, _, rfl, _, rfl, 0, bw, .ref l, .ref lo, xw, dLL rs, .list (os.map PyData.int), "NoWay", rfl, W2.w, (ol_poll W2.ol hl1 hl2).1, (dq_list W2.lo), fw, fp, fo, dLL_len hl2, .inr (.inl ⟨gP, rfl, .inr (.inl ⟨go1, nxw, rfl⟩)⟩), fun G3 s3 => ?_⟩
    have W3 := W2.same s3
    refine ⟨line_small (by show 3 ≤ 16777216; decide), fun p1 np1 => ⟨_, rfl, ?_⟩⟩
    have st1 := same_new (o := .lst [.str "NoOrder", .str "NoOrder", .str "NoWay"]) np1
    have hp1 : (upd G3 p1 (.lst [.str "NoOrder", .str "NoOrder", .str "NoWay"])) p1 = some (.lst [.str "NoOrder", .str "NoOrder", .str "NoWay"]) := upd_same
    have W4 := W3.same st1
    generalize upd G3 p1 (.lst [.str "NoOrder", .str "NoOrder", .str "NoWay"]) = G4 at W4 hp1 st1 ⊢
    refine ⟨_, rfl, _, rfl, _, rfl, l, _, 0, _, rfl, rfl, SqL.of W4.ol.top, at_of (j := 0) rfl (ref_at ea0), 0, bw, .ref l, .ref a0, xw, dLL rs, .list (r0.map PyData.int), "NoWay", rfl, W4.w, (ol_poll W4.ol hl1 hl2).1, (dq_list (ha0 W4)), fw, fp, f0, dLL_len hl2, .inr (.inl ⟨gP, rfl, .inr (.inl ⟨g01, nxw, rfl⟩)⟩), fun G5 s5 => ?_⟩
    have W5 := W4.same s5
    refine ⟨_, rfl, _, rfl, 1, bw, .ref l, .non, xw, dLL rs, .none, "NoWay", rfl, W5.w, (ol_poll W5.ol hl1 hl2).1, .non, fw, fp, (rw_none.mono (by decide) (by decide)), dLL_len hl2, .inr (.inr (.inl ⟨gP, rfl, .inl ⟨nxw, rfl⟩⟩)), fun G6 s6 => ?_⟩
    have W6 := W5.same s6
    refine ⟨line_small (by show 2 ≤ 16777216; decide), fun p2 np2 => ⟨_, _, _, _, rfl, rfl, (s5.trans (s6.trans (same_new (o := .lst [.str "NoWay", .str "NoWay"]) np2))) _ _ hp1, upd_same, line_small (by show 3 + 2 ≤ 16777216; decide), fun p3 np3 => ⟨_, rfl, ?_⟩⟩⟩
    have st2 := (same_new (o := .lst [.str "NoWay", .str "NoWay"]) np2).trans (same_new (o := .lst [.str "NoOrder", .str "NoOrder", .str "NoWay", .str "NoWay", .str "NoWay"]) np3)
    have hp3 : (upd (upd G6 p2 (.lst [.str "NoWay", .str "NoWay"])) p3 (.lst [.str "NoOrder", .str "NoOrder", .str "NoWay", .str "NoWay", .str "NoWay"])) p3 = some (.lst [.str "NoOrder", .str "NoOrder", .str "NoWay", .str "NoWay", .str "NoWay"]) := upd_same
    have W7 := W6.same st2
    show _
    generalize hG7 : upd (upd G6 p2 (.lst [.str "NoWay", .str "NoWay"])) p3 (.lst [.str "NoOrder", .str "NoOrder", .str "NoWay", .str "NoWay", .str "NoWay"]) = G7 at W7 hp3 st2
    replace hG7 : upd (upd G6 p2 (.lst [.str "NoWay", .str "NoWay"])) p3 (.lst ([.str "NoOrder", .str "NoOrder", .str "NoWay"] ++ [.str "NoWay", .str "NoWay"])) = G7 := hG7
    rw [hG7]
    clear hG7
    refine ⟨_, rfl, _, rfl, _, rfl, 0, .str z, .ref l, .ref lo, .str z, dLL rs, .list (os.map PyData.int), "NoFit", rfl, .str z, (ol_poll W7.ol hl1 hl2).1, (dq_list W7.lo), fz, fp, fo, dLL_len hl2, .inr (.inl ⟨gP, rfl, .inr (.inr (.inl ⟨go1, wd, by rw [go2, gN]; exact hN2, rfl⟩))⟩), fun G8 s8 => ?_⟩
    have W8 := W7.same s8
    refine ⟨_, rfl, _, rfl, _, rfl, l, _, 0, _, rfl, rfl, SqL.of W8.ol.top, at_of (j := 0) rfl (ref_at ea0), 0, .str z, .ref l, .ref a0, .str z, dLL rs, .list (r0.map PyData.int), "", rfl, .str z, (ol_poll W8.ol hl1 hl2).1, (dq_list (ha0 W8)), fz, fp, f0, dLL_len hl2, .inr (.inl ⟨gP, rfl, .inr (.inr (.inr ⟨g01, wd, by rw [g02, gN], rfl⟩))⟩), fun G9 s9 => ?_⟩
    have W9 := W8.same s9
    refine ⟨line_small (by show 2 ≤ 16777216; decide), fun p4 np4 => ⟨_, _, _, _, rfl, rfl, (s8.trans (s9.trans (same_new (o := .lst [.str "NoFit", .str ""]) np4))) _ _ hp3, upd_same, line_small (by show 5 + 2 ≤ 16777216; decide), fun p5 np5 => ⟨_, rfl, ?_⟩⟩⟩
    have st3 := (same_new (o := .lst [.str "NoFit", .str ""]) np4).trans (same_new (o := .lst [.str "NoOrder", .str "NoOrder", .str "NoWay", .str "NoWay", .str "NoWay", .str "NoFit", .str ""]) np5)
    have hp5 : (upd (upd G9 p4 (.lst [.str "NoFit", .str ""])) p5 (.lst [.str "NoOrder", .str "NoOrder", .str "NoWay", .str "NoWay", .str "NoWay", .str "NoFit", .str ""])) p5 = some (.lst [.str "NoOrder", .str "NoOrder", .str "NoWay", .str "NoWay", .str "NoWay", .str "NoFit", .str ""]) := upd_same
    have W10 := W9.same st3
    generalize hG10 : upd (upd G9 p4 (.lst [.str "NoFit", .str ""])) p5 (.lst [.str "NoOrder", .str "NoOrder", .str "NoWay", .str "NoWay", .str "NoWay", .str "NoFit", .str ""]) = G10 at W10 hp5 st3
    replace hG10 : upd (upd G9 p4 (.lst [.str "NoFit", .str ""])) p5 (.lst ([.str "NoOrder", .str "NoOrder", .str "NoWay", .str "NoWay", .str "NoWay"] ++ [.str "NoFit", .str ""])) = G10 := hG10
    rw [hG10]
    clear hG10
    refine ⟨line_small (by show 7 ≤ 16777216; decide), fun p6 np6 => ?_⟩
    have st4 := same_new (o := .lst [.str "NoOrder", .str "NoOrder", .str "NoWay", .str "NoWay", .str "NoWay", .str "NoFit", .str ""]) np6
    have W11 := W10.same st4
    refine ⟨.list [.str "NoOrder", .str "NoOrder", .str "NoWay", .str "NoWay", .str "NoWay", .str "NoFit", .str ""], .list [.str "NoOrder", .str "NoOrder", .str "NoWay", .str "NoWay", .str "NoWay", .str "NoFit", .str ""], .lst (SqL.of (st4 _ _ hp5)) (.cons (.str _) (.cons (.str _) (.cons (.str _) (.cons (.str _) (.cons (.str _) (.cons (.str _) (.cons (.str _) .nil))))))), .lst (SqL.of upd_same) (.cons (.str _) (.cons (.str _) (.cons (.str _) (.cons (.str _) (.cons (.str _) (.cons (.str _) (.cons (.str _) .nil))))))), by decide +kernel, by decide +kernel, _, rfl, ?_⟩
    rw [show (!PyData.eqv (.list [.str "NoOrder", .str "NoOrder", .str "NoWay", .str "NoWay", .str "NoWay", .str "NoFit", .str ""]) (.list [.str "NoOrder", .str "NoOrder", .str "NoWay", .str "NoWay", .str "NoWay", .str "NoFit", .str ""])) = false by decide +kernel]
    refine iteF ?_
    generalize upd G10 p6 (.lst [.str "NoOrder", .str "NoOrder", .str "NoWay", .str "NoWay", .str "NoWay", .str "NoFit", .str ""]) = G11 at W11 st4 ⊢
    refine ⟨_, rfl, _, rfl, 2, .str z, .ref l, .non, .str z, dLL rs, .none, "", rfl, .str z, (ol_poll W11.ol hl1 hl2).1, .non, fz, fp, (rw_none.mono (by decide) (by decide)), dLL_len hl2, .inr (.inr (.inr (.inl ⟨gP, .inl rfl, rfl⟩))), fun G12 s12 => ?_⟩
    have W12 := W11.same s12
    refine ⟨rfl, _, rfl, ?_⟩
    rw [decide_eq_true rfl]
    refine iteF ?_
    refine ⟨_, rfl, _, rfl, 3, .str z, .ref l, .non, .str z, dLL rs, .none, "", rfl, .str z, (ol_poll W12.ol hl1 hl2).1, .non, fz, fp, (rw_none.mono (by decide) (by decide)), dLL_len hl2, .inr (.inr (.inr (.inl ⟨gP, .inr rfl, rfl⟩))), fun G13 s13 => ?_⟩
    have W13 := W12.same s13
    refine ⟨rfl, _, rfl, ?_⟩
    rw [decide_eq_true rfl]
    refine iteF ?_
    refine ⟨_, rfl, _, rfl, z, l, as, rs, n, rfl, wz, W13.ol, hl1, hl2, fun G14 s14 => ⟨true, rfl, iteF ?_⟩⟩
    have sA := ((((((((((((s1.trans s2).trans s3).trans st1).trans s5).trans s6).trans st2).trans s8).trans s9).trans st3).trans st4).trans s12).trans s13).trans s14
    exact ⟨_, _, _, _, _, _, _, _, _, _, _, _, rfl, kFG.trans sA⟩
end
end Fo
--LEVEL 40
--GLAW
--CLASSES OrderError NoOrder NoWay NoFit NoPlace NoNumber TooMany NoText NoName NoRow
--RAISED NoOrder NoWay NoFit TooMany
--KINDS NoOrder NoWay NoFit NoPlace NoNumber TooMany NoText NoName NoRow
--LAWCALL ok_law F_law T__law_deck T__law_cell_at T__law_next T__law_poll T__law_no_way T__law_no_order T__law_order T__law_no_poll T__law_asked T__law_many_right (ok_deckN (k := 37) T__law_deck T__law_stir B) (ok_cell (k := 38) T__law_cell_at B) (ok_next (k := 37) T__law_next T__law_stir B) (ok_poll (k := 38) T__law_poll T__law_next (ok_next (k := 36) T__law_next T__law_stir B) T__law_order (ok_orderN (k := 37) T__law_order T__law_next (ok_next (k := 35) T__law_next T__law_stir B) B) T__law_near (ok_nearN (k := 37) T__law_near T__law_next (ok_next (k := 35) T__law_next T__law_stir B) B) B) (ok_noWay72 (k := 38) T__law_no_way T__law_next (ok_next (k := 36) T__law_next T__law_stir B) B) (ok_noord72 (k := 38) T__law_no_order T__law_order T__law_next (ok_orderN (k := 37) T__law_order T__law_next (ok_next (k := 35) T__law_next T__law_stir B) B) (ok_next (k := 36) T__law_next T__law_stir B) B) (ok_orderN (k := 38) T__law_order T__law_next (ok_next (k := 36) T__law_next T__law_stir B) B) (ok_nop (k := 38) T__law_no_poll T__law_order T__law_next T__law_no_order (ok_orderN (k := 37) T__law_order T__law_next (ok_next (k := 35) T__law_next T__law_stir B) B) (ok_next (k := 36) T__law_next T__law_stir B) (ok_noord72 (k := 37) T__law_no_order T__law_order T__law_next (ok_orderN (k := 36) T__law_order T__law_next (ok_next (k := 34) T__law_next T__law_stir B) B) (ok_next (k := 35) T__law_next T__law_stir B) B) B) (ok_ask68 (k := 38) (c := cls9 C_NoOrder C_NoWay C_NoFit C_NoPlace C_NoNumber C_TooMany C_NoText C_NoName C_NoRow) T__law_asked T_poll_sum T_middle_of T_pairs_ahead T_pair_sum T_ring_of T__law_word (ok_psX (k := 37) T_poll_sum T_check_poll T_check_order T_check_way T_check_fit T_known_sum (ok_cpX (k := 36) T_check_poll T_is_order_list (ok_olD (k := 35) T_is_order_list T_is_order (ok_isOrdD (k := 33) T_is_order T_is_whole B m_MOST_THINGS) B) X_NoOrder B m_MOST_POLLED) (ok_chk (k := 36) T_check_order T_is_order (ok_isOrdD (k := 34) T_is_order T_is_whole B m_MOST_THINGS) X_NoOrder) (ok_wayX (k := 36) T_check_way m_WAYS X_NoWay B) (ok_fitX (k := 36) T_check_fit X_NoFit B) (ok_ksum (k := 36) T_known_sum T_known_far (ok_known (k := 35) T_known_far T_far_by_swap T_far_by_spot T_far_by_shift (ok_swap (k := 34) T_far_by_swap T_seats_in (ok_seats (k := 32) T_seats_in T_places_in B) B) (ok_spot (k := 34) T_far_by_spot B) (ok_shift (k := 34) T_far_by_shift T_seats_in (ok_seats (k := 32) T_seats_in T_places_in B) B)) B)) (fn_or (fn_up (ok_mid (k := 37) T_middle_of T_check_poll T_check_way T_check_few T_middle_by_pairs T_counts_ahead T_middle_by_all (ok_cpoll (k := 36) T_check_poll T_is_order_list (ok_olst (k := 35) T_is_order_list T_is_order (ok_is_order (k := 33) T_is_order T_is_whole B m_MOST_THINGS) B) B m_MOST_POLLED) (ok_way (k := 36) T_check_way m_WAYS B) (ok_few (k := 36) T_check_few) (ok_mpairs (k := 36) T_middle_by_pairs T_least_sums T_best_first (ok_lsums (k := 35) T_least_sums T_things_in T_sum_with_first (ok_tin (k := 34) T_things_in B) (ok_swf (k := 34) T_sum_with_first T_things_in (ok_tin (k := 33) T_things_in B) B) B) (ok_bfirst (k := 35) T_best_first T_things_in T_sum_with_first (ok_tin (k := 34) T_things_in B) (ok_swf (k := 34) T_sum_with_first T_things_in (ok_tin (k := 33) T_things_in B) B) B) B) (ok_ahead (k := 36) T_counts_ahead T_places_in (ok_places (k := 35) T_places_in B) B) (ok_mall (k := 36) T_middle_by_all T_all_orders T_known_sum (ok_all_orders (k := 34) T_all_orders T_orders_with B) (ok_ksum (k := 35) T_known_sum T_known_far (ok_known (k := 34) T_known_far T_far_by_swap T_far_by_spot T_far_by_shift (ok_swap (k := 33) T_far_by_swap T_seats_in (ok_seats (k := 31) T_seats_in T_places_in B) B) (ok_spot (k := 33) T_far_by_spot B) (ok_shift (k := 33) T_far_by_shift T_seats_in (ok_seats (k := 31) T_seats_in T_places_in B) B)) B)) B m_MOST_BY_PAIRS m_MOST_LISTED)) (ok_midR (k := 37) T_middle_of T_check_poll T_check_way T_check_few T_counts_ahead T_middle_by_pairs T_middle_by_all (ok_cpX (k := 36) T_check_poll T_is_order_list (ok_olD (k := 35) T_is_order_list T_is_order (ok_isOrdD (k := 33) T_is_order T_is_whole B m_MOST_THINGS) B) X_NoOrder B m_MOST_POLLED) (ok_wayX (k := 36) T_check_way m_WAYS X_NoWay B) (ok_fewY (k := 36) T_check_few X_TooMany) (ok_ahead (k := 36) T_counts_ahead T_places_in (ok_places (k := 35) T_places_in B) B) (ok_mpairs (k := 36) T_middle_by_pairs T_least_sums T_best_first (ok_lsums (k := 35) T_least_sums T_things_in T_sum_with_first (ok_tin (k := 34) T_things_in B) (ok_swf (k := 34) T_sum_with_first T_things_in (ok_tin (k := 33) T_things_in B) B) B) (ok_bfirst (k := 35) T_best_first T_things_in T_sum_with_first (ok_tin (k := 34) T_things_in B) (ok_swf (k := 34) T_sum_with_first T_things_in (ok_tin (k := 33) T_things_in B) B) B) B) (ok_mall (k := 36) T_middle_by_all T_all_orders T_known_sum (ok_all_orders (k := 34) T_all_orders T_orders_with B) (ok_ksum (k := 35) T_known_sum T_known_far (ok_known (k := 34) T_known_far T_far_by_swap T_far_by_spot T_far_by_shift (ok_swap (k := 33) T_far_by_swap T_seats_in (ok_seats (k := 31) T_seats_in T_places_in B) B) (ok_spot (k := 33) T_far_by_spot B) (ok_shift (k := 33) T_far_by_shift T_seats_in (ok_seats (k := 31) T_seats_in T_places_in B) B)) B)) B m_MOST_BY_PAIRS m_MOST_LISTED)) (fn_or (fn_up (ok_pairs (k := 37) T_pairs_ahead T_check_poll T_counts_ahead (ok_cpoll (k := 36) T_check_poll T_is_order_list (ok_olst (k := 35) T_is_order_list T_is_order (ok_is_order (k := 33) T_is_order T_is_whole B m_MOST_THINGS) B) B m_MOST_POLLED) (ok_ahead (k := 36) T_counts_ahead T_places_in (ok_places (k := 35) T_places_in B) B) B)) (ok_paR (k := 37) T_pairs_ahead T_check_poll T_counts_ahead (ok_cpX (k := 36) T_check_poll T_is_order_list (ok_olD (k := 35) T_is_order_list T_is_order (ok_isOrdD (k := 33) T_is_order T_is_whole B m_MOST_THINGS) B) X_NoOrder B m_MOST_POLLED) (ok_ahead (k := 36) T_counts_ahead T_places_in (ok_places (k := 35) T_places_in B) B) B)) (fn_or (fn_up (ok_psum (k := 37) T_pair_sum T_check_poll T_counts_ahead (ok_cpoll (k := 36) T_check_poll T_is_order_list (ok_olst (k := 35) T_is_order_list T_is_order (ok_is_order (k := 33) T_is_order T_is_whole B m_MOST_THINGS) B) B m_MOST_POLLED) (ok_ahead (k := 36) T_counts_ahead T_places_in (ok_places (k := 35) T_places_in B) B) B)) (ok_psR (k := 37) T_pair_sum T_check_poll T_counts_ahead (ok_cpX (k := 36) T_check_poll T_is_order_list (ok_olD (k := 35) T_is_order_list T_is_order (ok_isOrdD (k := 33) T_is_order T_is_whole B m_MOST_THINGS) B) X_NoOrder B m_MOST_POLLED) (ok_ahead (k := 36) T_counts_ahead T_places_in (ok_places (k := 35) T_places_in B) B) B)) (fn_or (fn_up (ok_ring (k := 37) T_ring_of T_check_poll T_check_few T_mostly_behind T_ring_from (ok_cpoll (k := 36) T_check_poll T_is_order_list (ok_olst (k := 35) T_is_order_list T_is_order (ok_is_order (k := 33) T_is_order T_is_whole B m_MOST_THINGS) B) B m_MOST_POLLED) (ok_few (k := 36) T_check_few) (ok_mbeh (k := 36) T_mostly_behind T_counts_ahead (ok_ahead (k := 35) T_counts_ahead T_places_in (ok_places (k := 34) T_places_in B) B) B) (ok_rfrom (k := 36) T_ring_from T_longer_paths (ok_longer (k := 35) T_longer_paths B) B) B m_MOST_BY_PAIRS)) (ok_riR (k := 37) T_ring_of T_check_poll T_check_few T_mostly_behind T_ring_from (ok_cpX (k := 36) T_check_poll T_is_order_list (ok_olD (k := 35) T_is_order_list T_is_order (ok_isOrdD (k := 33) T_is_order T_is_whole B m_MOST_THINGS) B) X_NoOrder B m_MOST_POLLED) (ok_fewY (k := 36) T_check_few X_TooMany) (ok_mbeh (k := 36) T_mostly_behind T_counts_ahead (ok_ahead (k := 35) T_counts_ahead T_places_in (ok_places (k := 34) T_places_in B) B) B) (ok_rfrom (k := 36) T_ring_from T_longer_paths (ok_longer (k := 35) T_longer_paths B) B) B m_MOST_BY_PAIRS)) (ok_wordP (k := 37) (c := cls9 C_NoOrder C_NoWay C_NoFit C_NoPlace C_NoNumber C_TooMany C_NoText C_NoName C_NoRow) T__law_word g_NoOrder g_NoWay g_NoFit g_NoPlace g_NoNumber g_TooMany g_NoText g_NoName g_NoRow B) sy B kd_NoOrder kd_NoWay kd_NoFit kd_TooMany g_OrderError xm_NoOrder xm_NoWay xm_NoFit xm_TooMany) (ok_mnr (k := 38) T__law_many_right T__law_asked (ok_ask68 (k := 37) (c := cls9 C_NoOrder C_NoWay C_NoFit C_NoPlace C_NoNumber C_TooMany C_NoText C_NoName C_NoRow) T__law_asked T_poll_sum T_middle_of T_pairs_ahead T_pair_sum T_ring_of T__law_word (ok_psX (k := 36) T_poll_sum T_check_poll T_check_order T_check_way T_check_fit T_known_sum (ok_cpX (k := 35) T_check_poll T_is_order_list (ok_olD (k := 34) T_is_order_list T_is_order (ok_isOrdD (k := 32) T_is_order T_is_whole B m_MOST_THINGS) B) X_NoOrder B m_MOST_POLLED) (ok_chk (k := 35) T_check_order T_is_order (ok_isOrdD (k := 33) T_is_order T_is_whole B m_MOST_THINGS) X_NoOrder) (ok_wayX (k := 35) T_check_way m_WAYS X_NoWay B) (ok_fitX (k := 35) T_check_fit X_NoFit B) (ok_ksum (k := 35) T_known_sum T_known_far (ok_known (k := 34) T_known_far T_far_by_swap T_far_by_spot T_far_by_shift (ok_swap (k := 33) T_far_by_swap T_seats_in (ok_seats (k := 31) T_seats_in T_places_in B) B) (ok_spot (k := 33) T_far_by_spot B) (ok_shift (k := 33) T_far_by_shift T_seats_in (ok_seats (k := 31) T_seats_in T_places_in B) B)) B)) (fn_or (fn_up (ok_mid (k := 36) T_middle_of T_check_poll T_check_way T_check_few T_middle_by_pairs T_counts_ahead T_middle_by_all (ok_cpoll (k := 35) T_check_poll T_is_order_list (ok_olst (k := 34) T_is_order_list T_is_order (ok_is_order (k := 32) T_is_order T_is_whole B m_MOST_THINGS) B) B m_MOST_POLLED) (ok_way (k := 35) T_check_way m_WAYS B) (ok_few (k := 35) T_check_few) (ok_mpairs (k := 35) T_middle_by_pairs T_least_sums T_best_first (ok_lsums (k := 34) T_least_sums T_things_in T_sum_with_first (ok_tin (k := 33) T_things_in B) (ok_swf (k := 33) T_sum_with_first T_things_in (ok_tin (k := 32) T_things_in B) B) B) (ok_bfirst (k := 34) T_best_first T_things_in T_sum_with_first (ok_tin (k := 33) T_things_in B) (ok_swf (k := 33) T_sum_with_first T_things_in (ok_tin (k := 32) T_things_in B) B) B) B) (ok_ahead (k := 35) T_counts_ahead T_places_in (ok_places (k := 34) T_places_in B) B) (ok_mall (k := 35) T_middle_by_all T_all_orders T_known_sum (ok_all_orders (k := 33) T_all_orders T_orders_with B) (ok_ksum (k := 34) T_known_sum T_known_far (ok_known (k := 33) T_known_far T_far_by_swap T_far_by_spot T_far_by_shift (ok_swap (k := 32) T_far_by_swap T_seats_in (ok_seats (k := 30) T_seats_in T_places_in B) B) (ok_spot (k := 32) T_far_by_spot B) (ok_shift (k := 32) T_far_by_shift T_seats_in (ok_seats (k := 30) T_seats_in T_places_in B) B)) B)) B m_MOST_BY_PAIRS m_MOST_LISTED)) (ok_midR (k := 36) T_middle_of T_check_poll T_check_way T_check_few T_counts_ahead T_middle_by_pairs T_middle_by_all (ok_cpX (k := 35) T_check_poll T_is_order_list (ok_olD (k := 34) T_is_order_list T_is_order (ok_isOrdD (k := 32) T_is_order T_is_whole B m_MOST_THINGS) B) X_NoOrder B m_MOST_POLLED) (ok_wayX (k := 35) T_check_way m_WAYS X_NoWay B) (ok_fewY (k := 35) T_check_few X_TooMany) (ok_ahead (k := 35) T_counts_ahead T_places_in (ok_places (k := 34) T_places_in B) B) (ok_mpairs (k := 35) T_middle_by_pairs T_least_sums T_best_first (ok_lsums (k := 34) T_least_sums T_things_in T_sum_with_first (ok_tin (k := 33) T_things_in B) (ok_swf (k := 33) T_sum_with_first T_things_in (ok_tin (k := 32) T_things_in B) B) B) (ok_bfirst (k := 34) T_best_first T_things_in T_sum_with_first (ok_tin (k := 33) T_things_in B) (ok_swf (k := 33) T_sum_with_first T_things_in (ok_tin (k := 32) T_things_in B) B) B) B) (ok_mall (k := 35) T_middle_by_all T_all_orders T_known_sum (ok_all_orders (k := 33) T_all_orders T_orders_with B) (ok_ksum (k := 34) T_known_sum T_known_far (ok_known (k := 33) T_known_far T_far_by_swap T_far_by_spot T_far_by_shift (ok_swap (k := 32) T_far_by_swap T_seats_in (ok_seats (k := 30) T_seats_in T_places_in B) B) (ok_spot (k := 32) T_far_by_spot B) (ok_shift (k := 32) T_far_by_shift T_seats_in (ok_seats (k := 30) T_seats_in T_places_in B) B)) B)) B m_MOST_BY_PAIRS m_MOST_LISTED)) (fn_or (fn_up (ok_pairs (k := 36) T_pairs_ahead T_check_poll T_counts_ahead (ok_cpoll (k := 35) T_check_poll T_is_order_list (ok_olst (k := 34) T_is_order_list T_is_order (ok_is_order (k := 32) T_is_order T_is_whole B m_MOST_THINGS) B) B m_MOST_POLLED) (ok_ahead (k := 35) T_counts_ahead T_places_in (ok_places (k := 34) T_places_in B) B) B)) (ok_paR (k := 36) T_pairs_ahead T_check_poll T_counts_ahead (ok_cpX (k := 35) T_check_poll T_is_order_list (ok_olD (k := 34) T_is_order_list T_is_order (ok_isOrdD (k := 32) T_is_order T_is_whole B m_MOST_THINGS) B) X_NoOrder B m_MOST_POLLED) (ok_ahead (k := 35) T_counts_ahead T_places_in (ok_places (k := 34) T_places_in B) B) B)) (fn_or (fn_up (ok_psum (k := 36) T_pair_sum T_check_poll T_counts_ahead (ok_cpoll (k := 35) T_check_poll T_is_order_list (ok_olst (k := 34) T_is_order_list T_is_order (ok_is_order (k := 32) T_is_order T_is_whole B m_MOST_THINGS) B) B m_MOST_POLLED) (ok_ahead (k := 35) T_counts_ahead T_places_in (ok_places (k := 34) T_places_in B) B) B)) (ok_psR (k := 36) T_pair_sum T_check_poll T_counts_ahead (ok_cpX (k := 35) T_check_poll T_is_order_list (ok_olD (k := 34) T_is_order_list T_is_order (ok_isOrdD (k := 32) T_is_order T_is_whole B m_MOST_THINGS) B) X_NoOrder B m_MOST_POLLED) (ok_ahead (k := 35) T_counts_ahead T_places_in (ok_places (k := 34) T_places_in B) B) B)) (fn_or (fn_up (ok_ring (k := 36) T_ring_of T_check_poll T_check_few T_mostly_behind T_ring_from (ok_cpoll (k := 35) T_check_poll T_is_order_list (ok_olst (k := 34) T_is_order_list T_is_order (ok_is_order (k := 32) T_is_order T_is_whole B m_MOST_THINGS) B) B m_MOST_POLLED) (ok_few (k := 35) T_check_few) (ok_mbeh (k := 35) T_mostly_behind T_counts_ahead (ok_ahead (k := 34) T_counts_ahead T_places_in (ok_places (k := 33) T_places_in B) B) B) (ok_rfrom (k := 35) T_ring_from T_longer_paths (ok_longer (k := 34) T_longer_paths B) B) B m_MOST_BY_PAIRS)) (ok_riR (k := 36) T_ring_of T_check_poll T_check_few T_mostly_behind T_ring_from (ok_cpX (k := 35) T_check_poll T_is_order_list (ok_olD (k := 34) T_is_order_list T_is_order (ok_isOrdD (k := 32) T_is_order T_is_whole B m_MOST_THINGS) B) X_NoOrder B m_MOST_POLLED) (ok_fewY (k := 35) T_check_few X_TooMany) (ok_mbeh (k := 35) T_mostly_behind T_counts_ahead (ok_ahead (k := 34) T_counts_ahead T_places_in (ok_places (k := 33) T_places_in B) B) B) (ok_rfrom (k := 35) T_ring_from T_longer_paths (ok_longer (k := 34) T_longer_paths B) B) B m_MOST_BY_PAIRS)) (ok_wordP (k := 36) (c := cls9 C_NoOrder C_NoWay C_NoFit C_NoPlace C_NoNumber C_TooMany C_NoText C_NoName C_NoRow) T__law_word g_NoOrder g_NoWay g_NoFit g_NoPlace g_NoNumber g_TooMany g_NoText g_NoName g_NoRow B) sy B kd_NoOrder kd_NoWay kd_NoFit kd_TooMany g_OrderError xm_NoOrder xm_NoWay xm_NoFit xm_TooMany) B) sy B
namespace Fo
open PySem PySem.Spec PyProof.Rows L2
set_option maxHeartbeats 8000000 in
theorem all_mk {l : PySem.W.OpenLaw} {w : World} {K : PySem.W.Frag} {h : Heap} {mg : Str → Option Value} {fa : Addr} (X : K.In h) (G : h.Ns mainGlobals mg) (hfa : mg "law" = some (.ref fa))
    {f0 f1 f2 f3 f4 f5 f6 f7 f8 f9 f10 f11 f12 f13 f14 f15 f16 f17 f18 f19 f20 f21 f22 f23 f24 f25 f26 f27 f28 f29 f30 f31 f32 f33 f34 f35 f36 f37 f38 f39 f40 f41 f42 f43 f44 f45 : Addr} {od0 an0 od1 an1 od2 an2 od3 an3 od4 an4 od5 an5 od6 an6 od7 an7 od8 an8 od9 an9 od10 an10 od11 an11 od12 an12 od13 an13 od14 an14 od15 an15 od16 an16 od17 an17 od18 an18 od19 an19 od20 an20 od21 an21 od22 an22 od23 an23 od24 an24 od25 an25 od26 an26 od27 an27 od28 an28 od29 an29 od30 an30 od31 an31 od32 an32 od33 an33 od34 an34 od35 an35 od36 an36 od37 an37 od38 an38 od39 an39 od40 an40 od41 an41 od42 an42 od43 an43 od44 an44 od45 an45 : Option Addr} {sl0 sl1 sl2 sl3 sl4 sl5 sl6 sl7 sl8 sl9 sl10 sl11 sl12 sl13 sl14 sl15 sl16 sl17 sl18 sl19 sl20 sl21 sl22 sl23 sl24 sl25 sl26 sl27 sl28 sl29 sl30 sl31 sl32 sl33 sl34 sl35 sl36 sl37 sl38 sl39 sl40 sl41 sl42 sl43 sl44 sl45 : Array (Option Value)} {oc0 kV0 dc0 pm0 cd0 ct0 oc1 kV1 dc1 pm1 cd1 ct1 oc2 kV2 dc2 pm2 cd2 ct2 oc3 kV3 dc3 pm3 cd3 ct3 oc4 kV4 dc4 pm4 cd4 ct4 oc5 kV5 dc5 pm5 cd5 ct5 oc6 kV6 dc6 pm6 cd6 ct6 oc7 kV7 dc7 pm7 cd7 ct7 oc8 kV8 dc8 pm8 cd8 ct8 oc9 kV9 dc9 pm9 cd9 ct9 oc10 kV10 dc10 pm10 cd10 ct10 oc11 kV11 dc11 pm11 cd11 ct11 oc12 kV12 dc12 pm12 cd12 ct12 oc13 kV13 dc13 pm13 cd13 ct13 oc14 kV14 dc14 pm14 cd14 ct14 oc15 kV15 dc15 pm15 cd15 ct15 oc16 kV16 dc16 pm16 cd16 ct16 oc17 kV17 dc17 pm17 cd17 ct17 oc18 kV18 dc18 pm18 cd18 ct18 oc19 kV19 dc19 pm19 cd19 ct19 oc20 kV20 dc20 pm20 cd20 ct20 oc21 kV21 dc21 pm21 cd21 ct21 oc22 kV22 dc22 pm22 cd22 ct22 oc23 kV23 dc23 pm23 cd23 ct23 oc24 kV24 dc24 pm24 cd24 ct24 oc25 kV25 dc25 pm25 cd25 ct25 oc26 kV26 dc26 pm26 cd26 ct26 oc27 kV27 dc27 pm27 cd27 ct27 oc28 kV28 dc28 pm28 cd28 ct28 oc29 kV29 dc29 pm29 cd29 ct29 oc30 kV30 dc30 pm30 cd30 ct30 oc31 kV31 dc31 pm31 cd31 ct31 oc32 kV32 dc32 pm32 cd32 ct32 oc33 kV33 dc33 pm33 cd33 ct33 oc34 kV34 dc34 pm34 cd34 ct34 oc35 kV35 dc35 pm35 cd35 ct35 oc36 kV36 dc36 pm36 cd36 ct36 oc37 kV37 dc37 pm37 cd37 ct37 oc38 kV38 dc38 pm38 cd38 ct38 oc39 kV39 dc39 pm39 cd39 ct39 oc40 kV40 dc40 pm40 cd40 ct40 oc41 kV41 dc41 pm41 cd41 ct41 oc42 kV42 dc42 pm42 cd42 ct42 oc43 kV43 dc43 pm43 cd43 ct43 oc44 kV44 dc44 pm44 cd44 ct44 oc45 kV45 dc45 pm45 cd45 ct45 : Value} {tk_MOST_THINGS tk_MOST_LISTED tk_MOST_POLLED tk_MOST_BY_PAIRS : Tok} {aW : Addr} {ddW : Option Addr} {nW : Nat} {tW1 tW2 tW3 : Tok} {slW : Array (Option Value)} {C_OrderError C_NoOrder C_NoWay C_NoFit C_NoPlace C_NoNumber C_TooMany C_NoText C_NoName C_NoRow : Addr}
    (a0 : PySem.W.nsIn K mainGlobals "is_whole" = some (some (.ref f0))) (l0 : K.lookup f0 = some ⟨oc0, od0, .func (PySem.W.fnOf "is_whole" "is_whole" (defArgs s_is_whole) (defBody s_is_whole) (defScope s_is_whole) .none kV0 dc0 pm0 an0 cd0 ct0), sl0⟩) (c0 : PySem.W.codeIn K cd0 "is_whole" = true) (k0 : PySem.W.keepIn K (.ref f0) = true)
    (a1 : PySem.W.nsIn K mainGlobals "check_way" = some (some (.ref f1))) (l1 : K.lookup f1 = some ⟨oc1, od1, .func (PySem.W.fnOf "check_way" "check_way" (defArgs s_check_way) (defBody s_check_way) (defScope s_check_way) .none kV1 dc1 pm1 an1 cd1 ct1), sl1⟩) (c1 : PySem.W.codeIn K cd1 "check_way" = true) (k1 : PySem.W.keepIn K (.ref f1) = true)
    (a2 : PySem.W.nsIn K mainGlobals "check_few" = some (some (.ref f2))) (l2 : K.lookup f2 = some ⟨oc2, od2, .func (PySem.W.fnOf "check_few" "check_few" (defArgs s_check_few) (defBody s_check_few) (defScope s_check_few) .none kV2 dc2 pm2 an2 cd2 ct2), sl2⟩) (c2 : PySem.W.codeIn K cd2 "check_few" = true) (k2 : PySem.W.keepIn K (.ref f2) = true)
    (a3 : PySem.W.nsIn K mainGlobals "is_order" = some (some (.ref f3))) (l3 : K.lookup f3 = some ⟨oc3, od3, .func (PySem.W.fnOf "is_order" "is_order" (defArgs s_is_order) (defBody s_is_order) (defScope s_is_order) .none kV3 dc3 pm3 an3 cd3 ct3), sl3⟩) (c3 : PySem.W.codeIn K cd3 "is_order" = true) (k3 : PySem.W.keepIn K (.ref f3) = true)
    (a4 : PySem.W.nsIn K mainGlobals "check_order" = some (some (.ref f4))) (l4 : K.lookup f4 = some ⟨oc4, od4, .func (PySem.W.fnOf "check_order" "check_order" (defArgs s_check_order) (defBody s_check_order) (defScope s_check_order) .none kV4 dc4 pm4 an4 cd4 ct4), sl4⟩) (c4 : PySem.W.codeIn K cd4 "check_order" = true) (k4 : PySem.W.keepIn K (.ref f4) = true)
    (a5 : PySem.W.nsIn K mainGlobals "check_fit" = some (some (.ref f5))) (l5 : K.lookup f5 = some ⟨oc5, od5, .func (PySem.W.fnOf "check_fit" "check_fit" (defArgs s_check_fit) (defBody s_check_fit) (defScope s_check_fit) .none kV5 dc5 pm5 an5 cd5 ct5), sl5⟩) (c5 : PySem.W.codeIn K cd5 "check_fit" = true) (k5 : PySem.W.keepIn K (.ref f5) = true)
    (a6 : PySem.W.nsIn K mainGlobals "is_order_list" = some (some (.ref f6))) (l6 : K.lookup f6 = some ⟨oc6, od6, .func (PySem.W.fnOf "is_order_list" "is_order_list" (defArgs s_is_order_list) (defBody s_is_order_list) (defScope s_is_order_list) .none kV6 dc6 pm6 an6 cd6 ct6), sl6⟩) (c6 : PySem.W.codeIn K cd6 "is_order_list" = true) (k6 : PySem.W.keepIn K (.ref f6) = true)
    (a7 : PySem.W.nsIn K mainGlobals "places_in" = some (some (.ref f7))) (l7 : K.lookup f7 = some ⟨oc7, od7, .func (PySem.W.fnOf "places_in" "places_in" (defArgs s_places_in) (defBody s_places_in) (defScope s_places_in) .none kV7 dc7 pm7 an7 cd7 ct7), sl7⟩) (c7 : PySem.W.codeIn K cd7 "places_in" = true) (k7 : PySem.W.keepIn K (.ref f7) = true)
    (a8 : PySem.W.nsIn K mainGlobals "seats_in" = some (some (.ref f8))) (l8 : K.lookup f8 = some ⟨oc8, od8, .func (PySem.W.fnOf "seats_in" "seats_in" (defArgs s_seats_in) (defBody s_seats_in) (defScope s_seats_in) .none kV8 dc8 pm8 an8 cd8 ct8), sl8⟩) (c8 : PySem.W.codeIn K cd8 "seats_in" = true) (k8 : PySem.W.keepIn K (.ref f8) = true)
    (a9 : PySem.W.nsIn K mainGlobals "known_far" = some (some (.ref f9))) (l9 : K.lookup f9 = some ⟨oc9, od9, .func (PySem.W.fnOf "known_far" "known_far" (defArgs s_known_far) (defBody s_known_far) (defScope s_known_far) .none kV9 dc9 pm9 an9 cd9 ct9), sl9⟩) (c9 : PySem.W.codeIn K cd9 "known_far" = true) (k9 : PySem.W.keepIn K (.ref f9) = true)
    (a10 : PySem.W.nsIn K mainGlobals "far_by_swap" = some (some (.ref f10))) (l10 : K.lookup f10 = some ⟨oc10, od10, .func (PySem.W.fnOf "far_by_swap" "far_by_swap" (defArgs s_far_by_swap) (defBody s_far_by_swap) (defScope s_far_by_swap) .none kV10 dc10 pm10 an10 cd10 ct10), sl10⟩) (c10 : PySem.W.codeIn K cd10 "far_by_swap" = true) (k10 : PySem.W.keepIn K (.ref f10) = true)
    (a11 : PySem.W.nsIn K mainGlobals "far_by_spot" = some (some (.ref f11))) (l11 : K.lookup f11 = some ⟨oc11, od11, .func (PySem.W.fnOf "far_by_spot" "far_by_spot" (defArgs s_far_by_spot) (defBody s_far_by_spot) (defScope s_far_by_spot) .none kV11 dc11 pm11 an11 cd11 ct11), sl11⟩) (c11 : PySem.W.codeIn K cd11 "far_by_spot" = true) (k11 : PySem.W.keepIn K (.ref f11) = true)
    (a12 : PySem.W.nsIn K mainGlobals "far_by_shift" = some (some (.ref f12))) (l12 : K.lookup f12 = some ⟨oc12, od12, .func (PySem.W.fnOf "far_by_shift" "far_by_shift" (defArgs s_far_by_shift) (defBody s_far_by_shift) (defScope s_far_by_shift) .none kV12 dc12 pm12 an12 cd12 ct12), sl12⟩) (c12 : PySem.W.codeIn K cd12 "far_by_shift" = true) (k12 : PySem.W.keepIn K (.ref f12) = true)
    (a13 : PySem.W.nsIn K mainGlobals "all_orders" = some (some (.ref f13))) (l13 : K.lookup f13 = some ⟨oc13, od13, .func (PySem.W.fnOf "all_orders" "all_orders" (defArgs s_all_orders) (defBody s_all_orders) (defScope s_all_orders) .none kV13 dc13 pm13 an13 cd13 ct13), sl13⟩) (c13 : PySem.W.codeIn K cd13 "all_orders" = true) (k13 : PySem.W.keepIn K (.ref f13) = true)
    (a14 : PySem.W.nsIn K mainGlobals "orders_with" = some (some (.ref f14))) (l14 : K.lookup f14 = some ⟨oc14, od14, .func (PySem.W.fnOf "orders_with" "orders_with" (defArgs s_orders_with) (defBody s_orders_with) (defScope s_orders_with) .none kV14 dc14 pm14 an14 cd14 ct14), sl14⟩) (c14 : PySem.W.codeIn K cd14 "orders_with" = true) (k14 : PySem.W.keepIn K (.ref f14) = true)
    (a15 : PySem.W.nsIn K mainGlobals "check_poll" = some (some (.ref f15))) (l15 : K.lookup f15 = some ⟨oc15, od15, .func (PySem.W.fnOf "check_poll" "check_poll" (defArgs s_check_poll) (defBody s_check_poll) (defScope s_check_poll) .none kV15 dc15 pm15 an15 cd15 ct15), sl15⟩) (c15 : PySem.W.codeIn K cd15 "check_poll" = true) (k15 : PySem.W.keepIn K (.ref f15) = true)
    (a16 : PySem.W.nsIn K mainGlobals "poll_sum" = some (some (.ref f16))) (l16 : K.lookup f16 = some ⟨oc16, od16, .func (PySem.W.fnOf "poll_sum" "poll_sum" (defArgs s_poll_sum) (defBody s_poll_sum) (defScope s_poll_sum) .none kV16 dc16 pm16 an16 cd16 ct16), sl16⟩) (c16 : PySem.W.codeIn K cd16 "poll_sum" = true) (k16 : PySem.W.keepIn K (.ref f16) = true)
    (a17 : PySem.W.nsIn K mainGlobals "known_sum" = some (some (.ref f17))) (l17 : K.lookup f17 = some ⟨oc17, od17, .func (PySem.W.fnOf "known_sum" "known_sum" (defArgs s_known_sum) (defBody s_known_sum) (defScope s_known_sum) .none kV17 dc17 pm17 an17 cd17 ct17), sl17⟩) (c17 : PySem.W.codeIn K cd17 "known_sum" = true) (k17 : PySem.W.keepIn K (.ref f17) = true)
    (a18 : PySem.W.nsIn K mainGlobals "middle_of" = some (some (.ref f18))) (l18 : K.lookup f18 = some ⟨oc18, od18, .func (PySem.W.fnOf "middle_of" "middle_of" (defArgs s_middle_of) (defBody s_middle_of) (defScope s_middle_of) .none kV18 dc18 pm18 an18 cd18 ct18), sl18⟩) (c18 : PySem.W.codeIn K cd18 "middle_of" = true) (k18 : PySem.W.keepIn K (.ref f18) = true)
    (a19 : PySem.W.nsIn K mainGlobals "middle_by_all" = some (some (.ref f19))) (l19 : K.lookup f19 = some ⟨oc19, od19, .func (PySem.W.fnOf "middle_by_all" "middle_by_all" (defArgs s_middle_by_all) (defBody s_middle_by_all) (defScope s_middle_by_all) .none kV19 dc19 pm19 an19 cd19 ct19), sl19⟩) (c19 : PySem.W.codeIn K cd19 "middle_by_all" = true) (k19 : PySem.W.keepIn K (.ref f19) = true)
    (a20 : PySem.W.nsIn K mainGlobals "middle_by_pairs" = some (some (.ref f20))) (l20 : K.lookup f20 = some ⟨oc20, od20, .func (PySem.W.fnOf "middle_by_pairs" "middle_by_pairs" (defArgs s_middle_by_pairs) (defBody s_middle_by_pairs) (defScope s_middle_by_pairs) .none kV20 dc20 pm20 an20 cd20 ct20), sl20⟩) (c20 : PySem.W.codeIn K cd20 "middle_by_pairs" = true) (k20 : PySem.W.keepIn K (.ref f20) = true)
    (a21 : PySem.W.nsIn K mainGlobals "best_first" = some (some (.ref f21))) (l21 : K.lookup f21 = some ⟨oc21, od21, .func (PySem.W.fnOf "best_first" "best_first" (defArgs s_best_first) (defBody s_best_first) (defScope s_best_first) .none kV21 dc21 pm21 an21 cd21 ct21), sl21⟩) (c21 : PySem.W.codeIn K cd21 "best_first" = true) (k21 : PySem.W.keepIn K (.ref f21) = true)
    (a22 : PySem.W.nsIn K mainGlobals "least_sums" = some (some (.ref f22))) (l22 : K.lookup f22 = some ⟨oc22, od22, .func (PySem.W.fnOf "least_sums" "least_sums" (defArgs s_least_sums) (defBody s_least_sums) (defScope s_least_sums) .none kV22 dc22 pm22 an22 cd22 ct22), sl22⟩) (c22 : PySem.W.codeIn K cd22 "least_sums" = true) (k22 : PySem.W.keepIn K (.ref f22) = true)
    (a23 : PySem.W.nsIn K mainGlobals "sum_with_first" = some (some (.ref f23))) (l23 : K.lookup f23 = some ⟨oc23, od23, .func (PySem.W.fnOf "sum_with_first" "sum_with_first" (defArgs s_sum_with_first) (defBody s_sum_with_first) (defScope s_sum_with_first) .none kV23 dc23 pm23 an23 cd23 ct23), sl23⟩) (c23 : PySem.W.codeIn K cd23 "sum_with_first" = true) (k23 : PySem.W.keepIn K (.ref f23) = true)
    (a24 : PySem.W.nsIn K mainGlobals "things_in" = some (some (.ref f24))) (l24 : K.lookup f24 = some ⟨oc24, od24, .func (PySem.W.fnOf "things_in" "things_in" (defArgs s_things_in) (defBody s_things_in) (defScope s_things_in) .none kV24 dc24 pm24 an24 cd24 ct24), sl24⟩) (c24 : PySem.W.codeIn K cd24 "things_in" = true) (k24 : PySem.W.keepIn K (.ref f24) = true)
    (a25 : PySem.W.nsIn K mainGlobals "counts_ahead" = some (some (.ref f25))) (l25 : K.lookup f25 = some ⟨oc25, od25, .func (PySem.W.fnOf "counts_ahead" "counts_ahead" (defArgs s_counts_ahead) (defBody s_counts_ahead) (defScope s_counts_ahead) .none kV25 dc25 pm25 an25 cd25 ct25), sl25⟩) (c25 : PySem.W.codeIn K cd25 "counts_ahead" = true) (k25 : PySem.W.keepIn K (.ref f25) = true)
    (a26 : PySem.W.nsIn K mainGlobals "pairs_ahead" = some (some (.ref f26))) (l26 : K.lookup f26 = some ⟨oc26, od26, .func (PySem.W.fnOf "pairs_ahead" "pairs_ahead" (defArgs s_pairs_ahead) (defBody s_pairs_ahead) (defScope s_pairs_ahead) .none kV26 dc26 pm26 an26 cd26 ct26), sl26⟩) (c26 : PySem.W.codeIn K cd26 "pairs_ahead" = true) (k26 : PySem.W.keepIn K (.ref f26) = true)
    (a27 : PySem.W.nsIn K mainGlobals "pair_sum" = some (some (.ref f27))) (l27 : K.lookup f27 = some ⟨oc27, od27, .func (PySem.W.fnOf "pair_sum" "pair_sum" (defArgs s_pair_sum) (defBody s_pair_sum) (defScope s_pair_sum) .none kV27 dc27 pm27 an27 cd27 ct27), sl27⟩) (c27 : PySem.W.codeIn K cd27 "pair_sum" = true) (k27 : PySem.W.keepIn K (.ref f27) = true)
    (a28 : PySem.W.nsIn K mainGlobals "ring_of" = some (some (.ref f28))) (l28 : K.lookup f28 = some ⟨oc28, od28, .func (PySem.W.fnOf "ring_of" "ring_of" (defArgs s_ring_of) (defBody s_ring_of) (defScope s_ring_of) .none kV28 dc28 pm28 an28 cd28 ct28), sl28⟩) (c28 : PySem.W.codeIn K cd28 "ring_of" = true) (k28 : PySem.W.keepIn K (.ref f28) = true)
    (a29 : PySem.W.nsIn K mainGlobals "mostly_behind" = some (some (.ref f29))) (l29 : K.lookup f29 = some ⟨oc29, od29, .func (PySem.W.fnOf "mostly_behind" "mostly_behind" (defArgs s_mostly_behind) (defBody s_mostly_behind) (defScope s_mostly_behind) .none kV29 dc29 pm29 an29 cd29 ct29), sl29⟩) (c29 : PySem.W.codeIn K cd29 "mostly_behind" = true) (k29 : PySem.W.keepIn K (.ref f29) = true)
    (a30 : PySem.W.nsIn K mainGlobals "ring_from" = some (some (.ref f30))) (l30 : K.lookup f30 = some ⟨oc30, od30, .func (PySem.W.fnOf "ring_from" "ring_from" (defArgs s_ring_from) (defBody s_ring_from) (defScope s_ring_from) .none kV30 dc30 pm30 an30 cd30 ct30), sl30⟩) (c30 : PySem.W.codeIn K cd30 "ring_from" = true) (k30 : PySem.W.keepIn K (.ref f30) = true)
    (a31 : PySem.W.nsIn K mainGlobals "longer_paths" = some (some (.ref f31))) (l31 : K.lookup f31 = some ⟨oc31, od31, .func (PySem.W.fnOf "longer_paths" "longer_paths" (defArgs s_longer_paths) (defBody s_longer_paths) (defScope s_longer_paths) .none kV31 dc31 pm31 an31 cd31 ct31), sl31⟩) (c31 : PySem.W.codeIn K cd31 "longer_paths" = true) (k31 : PySem.W.keepIn K (.ref f31) = true)
    (a32 : PySem.W.nsIn K mainGlobals "_law_cell_at" = some (some (.ref f32))) (l32 : K.lookup f32 = some ⟨oc32, od32, .func (PySem.W.fnOf "_law_cell_at" "_law_cell_at" (defArgs s_law_cell_at) (defBody s_law_cell_at) (defScope s_law_cell_at) .none kV32 dc32 pm32 an32 cd32 ct32), sl32⟩) (c32 : PySem.W.codeIn K cd32 "_law_cell_at" = true) (k32 : PySem.W.keepIn K (.ref f32) = true)
    (a33 : PySem.W.nsIn K mainGlobals "_law_stir" = some (some (.ref f33))) (l33 : K.lookup f33 = some ⟨oc33, od33, .func (PySem.W.fnOf "_law_stir" "_law_stir" (defArgs s_law_stir) (defBody s_law_stir) (defScope s_law_stir) .none kV33 dc33 pm33 an33 cd33 ct33), sl33⟩) (c33 : PySem.W.codeIn K cd33 "_law_stir" = true) (k33 : PySem.W.keepIn K (.ref f33) = true)
    (a34 : PySem.W.nsIn K mainGlobals "_law_deck" = some (some (.ref f34))) (l34 : K.lookup f34 = some ⟨oc34, od34, .func (PySem.W.fnOf "_law_deck" "_law_deck" (defArgs s_law_deck) (defBody s_law_deck) (defScope s_law_deck) .none kV34 dc34 pm34 an34 cd34 ct34), sl34⟩) (c34 : PySem.W.codeIn K cd34 "_law_deck" = true) (k34 : PySem.W.keepIn K (.ref f34) = true)
    (a35 : PySem.W.nsIn K mainGlobals "_law_next" = some (some (.ref f35))) (l35 : K.lookup f35 = some ⟨oc35, od35, .func (PySem.W.fnOf "_law_next" "_law_next" (defArgs s_law_next) (defBody s_law_next) (defScope s_law_next) .none kV35 dc35 pm35 an35 cd35 ct35), sl35⟩) (c35 : PySem.W.codeIn K cd35 "_law_next" = true) (k35 : PySem.W.keepIn K (.ref f35) = true)
    (a36 : PySem.W.nsIn K mainGlobals "_law_order" = some (some (.ref f36))) (l36 : K.lookup f36 = some ⟨oc36, od36, .func (PySem.W.fnOf "_law_order" "_law_order" (defArgs s_law_order) (defBody s_law_order) (defScope s_law_order) .none kV36 dc36 pm36 an36 cd36 ct36), sl36⟩) (c36 : PySem.W.codeIn K cd36 "_law_order" = true) (k36 : PySem.W.keepIn K (.ref f36) = true)
    (a37 : PySem.W.nsIn K mainGlobals "_law_near" = some (some (.ref f37))) (l37 : K.lookup f37 = some ⟨oc37, od37, .func (PySem.W.fnOf "_law_near" "_law_near" (defArgs s_law_near) (defBody s_law_near) (defScope s_law_near) .none kV37 dc37 pm37 an37 cd37 ct37), sl37⟩) (c37 : PySem.W.codeIn K cd37 "_law_near" = true) (k37 : PySem.W.keepIn K (.ref f37) = true)
    (a38 : PySem.W.nsIn K mainGlobals "_law_poll" = some (some (.ref f38))) (l38 : K.lookup f38 = some ⟨oc38, od38, .func (PySem.W.fnOf "_law_poll" "_law_poll" (defArgs s_law_poll) (defBody s_law_poll) (defScope s_law_poll) .none kV38 dc38 pm38 an38 cd38 ct38), sl38⟩) (c38 : PySem.W.codeIn K cd38 "_law_poll" = true) (k38 : PySem.W.keepIn K (.ref f38) = true)
    (a39 : PySem.W.nsIn K mainGlobals "_law_no_order" = some (some (.ref f39))) (l39 : K.lookup f39 = some ⟨oc39, od39, .func (PySem.W.fnOf "_law_no_order" "_law_no_order" (defArgs s_law_no_order) (defBody s_law_no_order) (defScope s_law_no_order) .none kV39 dc39 pm39 an39 cd39 ct39), sl39⟩) (c39 : PySem.W.codeIn K cd39 "_law_no_order" = true) (k39 : PySem.W.keepIn K (.ref f39) = true)
    (a40 : PySem.W.nsIn K mainGlobals "_law_no_way" = some (some (.ref f40))) (l40 : K.lookup f40 = some ⟨oc40, od40, .func (PySem.W.fnOf "_law_no_way" "_law_no_way" (defArgs s_law_no_way) (defBody s_law_no_way) (defScope s_law_no_way) .none kV40 dc40 pm40 an40 cd40 ct40), sl40⟩) (c40 : PySem.W.codeIn K cd40 "_law_no_way" = true) (k40 : PySem.W.keepIn K (.ref f40) = true)
    (a41 : PySem.W.nsIn K mainGlobals "_law_word" = some (some (.ref f41))) (l41 : K.lookup f41 = some ⟨oc41, od41, .func (PySem.W.fnOf "_law_word" "_law_word" (defArgs s_law_word) (defBody s_law_word) (defScope s_law_word) .none kV41 dc41 pm41 an41 cd41 ct41), sl41⟩) (c41 : PySem.W.codeIn K cd41 "_law_word" = true) (k41 : PySem.W.keepIn K (.ref f41) = true)
    (a42 : PySem.W.nsIn K mainGlobals "_law_no_poll" = some (some (.ref f42))) (l42 : K.lookup f42 = some ⟨oc42, od42, .func (PySem.W.fnOf "_law_no_poll" "_law_no_poll" (defArgs s_law_no_poll) (defBody s_law_no_poll) (defScope s_law_no_poll) .none kV42 dc42 pm42 an42 cd42 ct42), sl42⟩) (c42 : PySem.W.codeIn K cd42 "_law_no_poll" = true) (k42 : PySem.W.keepIn K (.ref f42) = true)
    (a43 : PySem.W.nsIn K mainGlobals "_law_asked" = some (some (.ref f43))) (l43 : K.lookup f43 = some ⟨oc43, od43, .func (PySem.W.fnOf "_law_asked" "_law_asked" (defArgs s_law_asked) (defBody s_law_asked) (defScope s_law_asked) .none kV43 dc43 pm43 an43 cd43 ct43), sl43⟩) (c43 : PySem.W.codeIn K cd43 "_law_asked" = true) (k43 : PySem.W.keepIn K (.ref f43) = true)
    (a44 : PySem.W.nsIn K mainGlobals "_law_many_right" = some (some (.ref f44))) (l44 : K.lookup f44 = some ⟨oc44, od44, .func (PySem.W.fnOf "_law_many_right" "_law_many_right" (defArgs s_law_many_right) (defBody s_law_many_right) (defScope s_law_many_right) .none kV44 dc44 pm44 an44 cd44 ct44), sl44⟩) (c44 : PySem.W.codeIn K cd44 "_law_many_right" = true) (k44 : PySem.W.keepIn K (.ref f44) = true)
    (a45 : PySem.W.nsIn K mainGlobals "law" = some (some (.ref f45))) (l45 : K.lookup f45 = some ⟨oc45, od45, .func (PySem.W.fnOf "law" "law" (defArgs s_law) (defBody s_law) (defScope s_law) .none kV45 dc45 pm45 an45 cd45 ct45), sl45⟩) (c45 : PySem.W.codeIn K cd45 "law" = true) (k45 : PySem.W.keepIn K (.ref f45) = true)
    (g_MOST_THINGS : PySem.W.nsIn K mainGlobals "MOST_THINGS" = some (some (.int 12 tk_MOST_THINGS)))
    (g_MOST_LISTED : PySem.W.nsIn K mainGlobals "MOST_LISTED" = some (some (.int 6 tk_MOST_LISTED)))
    (g_MOST_POLLED : PySem.W.nsIn K mainGlobals "MOST_POLLED" = some (some (.int 20 tk_MOST_POLLED)))
    (g_MOST_BY_PAIRS : PySem.W.nsIn K mainGlobals "MOST_BY_PAIRS" = some (some (.int 9 tk_MOST_BY_PAIRS)))
    (g_WAYS : PySem.W.nsIn K mainGlobals "WAYS" = some (some (.ref aW))) (l_WAYS : K.lookup aW = some ⟨.type "tuple", ddW, .seq #[.str "swap" tW1, .str "spot" tW2, .str "shift" tW3] nW, slW⟩)
    (gc_OrderError : PySem.W.nsIn K mainGlobals "OrderError" = some (some (.ref C_OrderError)))
    (gc_NoOrder : PySem.W.nsIn K mainGlobals "NoOrder" = some (some (.ref C_NoOrder)))
    (gc_NoWay : PySem.W.nsIn K mainGlobals "NoWay" = some (some (.ref C_NoWay)))
    (gc_NoFit : PySem.W.nsIn K mainGlobals "NoFit" = some (some (.ref C_NoFit)))
    (gc_NoPlace : PySem.W.nsIn K mainGlobals "NoPlace" = some (some (.ref C_NoPlace)))
    (gc_NoNumber : PySem.W.nsIn K mainGlobals "NoNumber" = some (some (.ref C_NoNumber)))
    (gc_TooMany : PySem.W.nsIn K mainGlobals "TooMany" = some (some (.ref C_TooMany)))
    (gc_NoText : PySem.W.nsIn K mainGlobals "NoText" = some (some (.ref C_NoText)))
    (gc_NoName : PySem.W.nsIn K mainGlobals "NoName" = some (some (.ref C_NoName)))
    (gc_NoRow : PySem.W.nsIn K mainGlobals "NoRow" = some (some (.ref C_NoRow)))
    (xq_NoOrder : PySem.W.excIn K C_NoOrder [.type "ValueError", .type "Exception", .type "BaseException", .type "object"] "ValueError.__new__" = true) (xk_NoOrder : PySem.W.keepIn K (.ref C_NoOrder) = true) (xt_NoOrder : PySem.W.typeIn K (.ref C_NoOrder) = some (.type "type")) (xm_NoOrder : PySem.W.exmOne K (.ref C_NoOrder) (.ref C_OrderError) = some true) (xv_NoOrder : PySem.W.kitOne K (.ref C_NoOrder) (.type "ValueError") = some true)
    (xehg_NoOrder : PySem.W.findIn K (.ref C_NoOrder) "__getattribute__" = some (some (.builtin "BaseException.__getattribute__")))
    (xehk_NoOrder : PySem.W.findIn K (.ref C_NoOrder) "__getattr__" = some none)
    (xehs_NoOrder : PySem.W.subIn K (.ref C_NoOrder) (.type "BaseException") = some true)
    (xehd_NoOrder : PySem.W.hasDictIn K C_NoOrder = true)
    (xeha_NoOrder : PySem.W.findIn K (.ref C_NoOrder) "__class__" = some (some (.builtin "object.__class__")))
    (xehn_NoOrder : PySem.W.specialIn K (.builtin "object.__class__") "__get__" = some (some (.builtin "getset_descriptor.__get__")))
    (xeht_NoOrder : PySem.W.takesIn K (.builtin "object.__class__") = some true)
    (xehm_NoOrder : PySem.W.mroIn K C_NoOrder (.type "object") = some true)
    (xy_NoOrder_NoOrder : PySem.W.kitOne K (.ref C_NoOrder) (.ref C_NoOrder) = some true)
    (xy_NoOrder_NoWay : PySem.W.kitOne K (.ref C_NoOrder) (.ref C_NoWay) = some false)
    (xy_NoOrder_NoFit : PySem.W.kitOne K (.ref C_NoOrder) (.ref C_NoFit) = some false)
    (xy_NoOrder_NoPlace : PySem.W.kitOne K (.ref C_NoOrder) (.ref C_NoPlace) = some false)
    (xy_NoOrder_NoNumber : PySem.W.kitOne K (.ref C_NoOrder) (.ref C_NoNumber) = some false)
    (xy_NoOrder_TooMany : PySem.W.kitOne K (.ref C_NoOrder) (.ref C_TooMany) = some false)
    (xy_NoOrder_NoText : PySem.W.kitOne K (.ref C_NoOrder) (.ref C_NoText) = some false)
    (xy_NoOrder_NoName : PySem.W.kitOne K (.ref C_NoOrder) (.ref C_NoName) = some false)
    (xy_NoOrder_NoRow : PySem.W.kitOne K (.ref C_NoOrder) (.ref C_NoRow) = some false)
    (xq_NoWay : PySem.W.excIn K C_NoWay [.type "ValueError", .type "Exception", .type "BaseException", .type "object"] "ValueError.__new__" = true) (xk_NoWay : PySem.W.keepIn K (.ref C_NoWay) = true) (xt_NoWay : PySem.W.typeIn K (.ref C_NoWay) = some (.type "type")) (xm_NoWay : PySem.W.exmOne K (.ref C_NoWay) (.ref C_OrderError) = some true) (xv_NoWay : PySem.W.kitOne K (.ref C_NoWay) (.type "ValueError") = some true)
    (xehg_NoWay : PySem.W.findIn K (.ref C_NoWay) "__getattribute__" = some (some (.builtin "BaseException.__getattribute__")))
    (xehk_NoWay : PySem.W.findIn K (.ref C_NoWay) "__getattr__" = some none)
    (xehs_NoWay : PySem.W.subIn K (.ref C_NoWay) (.type "BaseException") = some true)
    (xehd_NoWay : PySem.W.hasDictIn K C_NoWay = true)
    (xeha_NoWay : PySem.W.findIn K (.ref C_NoWay) "__class__" = some (some (.builtin "object.__class__")))
    (xehn_NoWay : PySem.W.specialIn K (.builtin "object.__class__") "__get__" = some (some (.builtin "getset_descriptor.__get__")))
    (xeht_NoWay : PySem.W.takesIn K (.builtin "object.__class__") = some true)
    (xehm_NoWay : PySem.W.mroIn K C_NoWay (.type "object") = some true)
    (xy_NoWay_NoOrder : PySem.W.kitOne K (.ref C_NoWay) (.ref C_NoOrder) = some false)
    (xy_NoWay_NoWay : PySem.W.kitOne K (.ref C_NoWay) (.ref C_NoWay) = some true)
    (xy_NoWay_NoFit : PySem.W.kitOne K (.ref C_NoWay) (.ref C_NoFit) = some false)
    (xy_NoWay_NoPlace : PySem.W.kitOne K (.ref C_NoWay) (.ref C_NoPlace) = some false)
    (xy_NoWay_NoNumber : PySem.W.kitOne K (.ref C_NoWay) (.ref C_NoNumber) = some false)
    (xy_NoWay_TooMany : PySem.W.kitOne K (.ref C_NoWay) (.ref C_TooMany) = some false)
    (xy_NoWay_NoText : PySem.W.kitOne K (.ref C_NoWay) (.ref C_NoText) = some false)
    (xy_NoWay_NoName : PySem.W.kitOne K (.ref C_NoWay) (.ref C_NoName) = some false)
    (xy_NoWay_NoRow : PySem.W.kitOne K (.ref C_NoWay) (.ref C_NoRow) = some false)
    (xq_NoFit : PySem.W.excIn K C_NoFit [.type "ValueError", .type "Exception", .type "BaseException", .type "object"] "ValueError.__new__" = true) (xk_NoFit : PySem.W.keepIn K (.ref C_NoFit) = true) (xt_NoFit : PySem.W.typeIn K (.ref C_NoFit) = some (.type "type")) (xm_NoFit : PySem.W.exmOne K (.ref C_NoFit) (.ref C_OrderError) = some true) (xv_NoFit : PySem.W.kitOne K (.ref C_NoFit) (.type "ValueError") = some true)
    (xehg_NoFit : PySem.W.findIn K (.ref C_NoFit) "__getattribute__" = some (some (.builtin "BaseException.__getattribute__")))
    (xehk_NoFit : PySem.W.findIn K (.ref C_NoFit) "__getattr__" = some none)
    (xehs_NoFit : PySem.W.subIn K (.ref C_NoFit) (.type "BaseException") = some true)
    (xehd_NoFit : PySem.W.hasDictIn K C_NoFit = true)
    (xeha_NoFit : PySem.W.findIn K (.ref C_NoFit) "__class__" = some (some (.builtin "object.__class__")))
    (xehn_NoFit : PySem.W.specialIn K (.builtin "object.__class__") "__get__" = some (some (.builtin "getset_descriptor.__get__")))
    (xeht_NoFit : PySem.W.takesIn K (.builtin "object.__class__") = some true)
    (xehm_NoFit : PySem.W.mroIn K C_NoFit (.type "object") = some true)
    (xy_NoFit_NoOrder : PySem.W.kitOne K (.ref C_NoFit) (.ref C_NoOrder) = some false)
    (xy_NoFit_NoWay : PySem.W.kitOne K (.ref C_NoFit) (.ref C_NoWay) = some false)
    (xy_NoFit_NoFit : PySem.W.kitOne K (.ref C_NoFit) (.ref C_NoFit) = some true)
    (xy_NoFit_NoPlace : PySem.W.kitOne K (.ref C_NoFit) (.ref C_NoPlace) = some false)
    (xy_NoFit_NoNumber : PySem.W.kitOne K (.ref C_NoFit) (.ref C_NoNumber) = some false)
    (xy_NoFit_TooMany : PySem.W.kitOne K (.ref C_NoFit) (.ref C_TooMany) = some false)
    (xy_NoFit_NoText : PySem.W.kitOne K (.ref C_NoFit) (.ref C_NoText) = some false)
    (xy_NoFit_NoName : PySem.W.kitOne K (.ref C_NoFit) (.ref C_NoName) = some false)
    (xy_NoFit_NoRow : PySem.W.kitOne K (.ref C_NoFit) (.ref C_NoRow) = some false)
    (xq_TooMany : PySem.W.excIn K C_TooMany [.type "ValueError", .type "Exception", .type "BaseException", .type "object"] "ValueError.__new__" = true) (xk_TooMany : PySem.W.keepIn K (.ref C_TooMany) = true) (xt_TooMany : PySem.W.typeIn K (.ref C_TooMany) = some (.type "type")) (xm_TooMany : PySem.W.exmOne K (.ref C_TooMany) (.ref C_OrderError) = some true) (xv_TooMany : PySem.W.kitOne K (.ref C_TooMany) (.type "ValueError") = some true)
    (xehg_TooMany : PySem.W.findIn K (.ref C_TooMany) "__getattribute__" = some (some (.builtin "BaseException.__getattribute__")))
    (xehk_TooMany : PySem.W.findIn K (.ref C_TooMany) "__getattr__" = some none)
    (xehs_TooMany : PySem.W.subIn K (.ref C_TooMany) (.type "BaseException") = some true)
    (xehd_TooMany : PySem.W.hasDictIn K C_TooMany = true)
    (xeha_TooMany : PySem.W.findIn K (.ref C_TooMany) "__class__" = some (some (.builtin "object.__class__")))
    (xehn_TooMany : PySem.W.specialIn K (.builtin "object.__class__") "__get__" = some (some (.builtin "getset_descriptor.__get__")))
    (xeht_TooMany : PySem.W.takesIn K (.builtin "object.__class__") = some true)
    (xehm_TooMany : PySem.W.mroIn K C_TooMany (.type "object") = some true)
    (xy_TooMany_NoOrder : PySem.W.kitOne K (.ref C_TooMany) (.ref C_NoOrder) = some false)
    (xy_TooMany_NoWay : PySem.W.kitOne K (.ref C_TooMany) (.ref C_NoWay) = some false)
    (xy_TooMany_NoFit : PySem.W.kitOne K (.ref C_TooMany) (.ref C_NoFit) = some false)
    (xy_TooMany_NoPlace : PySem.W.kitOne K (.ref C_TooMany) (.ref C_NoPlace) = some false)
    (xy_TooMany_NoNumber : PySem.W.kitOne K (.ref C_TooMany) (.ref C_NoNumber) = some false)
    (xy_TooMany_TooMany : PySem.W.kitOne K (.ref C_TooMany) (.ref C_TooMany) = some true)
    (xy_TooMany_NoText : PySem.W.kitOne K (.ref C_TooMany) (.ref C_NoText) = some false)
    (xy_TooMany_NoName : PySem.W.kitOne K (.ref C_TooMany) (.ref C_NoName) = some false)
    (xy_TooMany_NoRow : PySem.W.kitOne K (.ref C_TooMany) (.ref C_NoRow) = some false)
    (z_ValueError : PySem.W.nsIn K mainGlobals "ValueError" = some none)
    (z_abs : PySem.W.nsIn K mainGlobals "abs" = some none)
    (z_all : PySem.W.nsIn K mainGlobals "all" = some none)
    (z_bool : PySem.W.nsIn K mainGlobals "bool" = some none)
    (z_enumerate : PySem.W.nsIn K mainGlobals "enumerate" = some none)
    (z_int : PySem.W.nsIn K mainGlobals "int" = some none)
    (z_isinstance : PySem.W.nsIn K mainGlobals "isinstance" = some none)
    (z_len : PySem.W.nsIn K mainGlobals "len" = some none)
    (z_list : PySem.W.nsIn K mainGlobals "list" = some none)
    (z_max : PySem.W.nsIn K mainGlobals "max" = some none)
    (z_min : PySem.W.nsIn K mainGlobals "min" = some none)
    (z_range : PySem.W.nsIn K mainGlobals "range" = some none)
    (z_repr : PySem.W.nsIn K mainGlobals "repr" = some none)
    (z_sorted : PySem.W.nsIn K mainGlobals "sorted" = some none)
    (z_str : PySem.W.nsIn K mainGlobals "str" = some none)
    (z_sum : PySem.W.nsIn K mainGlobals "sum" = some none)
    (z_tuple : PySem.W.nsIn K mainGlobals "tuple" = some none)
    : ∃ fd : FuncData, (∀ (s : Shared) (v : Value), BindsTo s fd ⟨[v], []⟩ [("script", v)]) ∧ ∀ base : Heap, K.In base → base.Ns mainGlobals mg → SysAt base → FnG l.prog w K mg base 40 fa fd ["script"] (spLaw K) := by
  have e := hfa.symm.trans (PySem.W.mg_of X G a45)
  cases e
  have F0 := fun_mk (st := s_is_whole) l0 c0 k0
  have F1 := fun_mk (st := s_check_way) l1 c1 k1
  have F2 := fun_mk (st := s_check_few) l2 c2 k2
  have F3 := fun_mk (st := s_is_order) l3 c3 k3
  have F4 := fun_mk (st := s_check_order) l4 c4 k4
  have F5 := fun_mk (st := s_check_fit) l5 c5 k5
  have F6 := fun_mk (st := s_is_order_list) l6 c6 k6
  have F7 := fun_mk (st := s_places_in) l7 c7 k7
  have F8 := fun_mk (st := s_seats_in) l8 c8 k8
  have F9 := fun_mk (st := s_known_far) l9 c9 k9
  have F10 := fun_mk (st := s_far_by_swap) l10 c10 k10
  have F11 := fun_mk (st := s_far_by_spot) l11 c11 k11
  have F12 := fun_mk (st := s_far_by_shift) l12 c12 k12
  have F13 := fun_mk (st := s_all_orders) l13 c13 k13
  have F14 := fun_mk (st := s_orders_with) l14 c14 k14
  have F15 := fun_mk (st := s_check_poll) l15 c15 k15
  have F16 := fun_mk (st := s_poll_sum) l16 c16 k16
  have F17 := fun_mk (st := s_known_sum) l17 c17 k17
  have F18 := fun_mk (st := s_middle_of) l18 c18 k18
  have F19 := fun_mk (st := s_middle_by_all) l19 c19 k19
  have F20 := fun_mk (st := s_middle_by_pairs) l20 c20 k20
  have F21 := fun_mk (st := s_best_first) l21 c21 k21
  have F22 := fun_mk (st := s_least_sums) l22 c22 k22
  have F23 := fun_mk (st := s_sum_with_first) l23 c23 k23
  have F24 := fun_mk (st := s_things_in) l24 c24 k24
  have F25 := fun_mk (st := s_counts_ahead) l25 c25 k25
  have F26 := fun_mk (st := s_pairs_ahead) l26 c26 k26
  have F27 := fun_mk (st := s_pair_sum) l27 c27 k27
  have F28 := fun_mk (st := s_ring_of) l28 c28 k28
  have F29 := fun_mk (st := s_mostly_behind) l29 c29 k29
  have F30 := fun_mk (st := s_ring_from) l30 c30 k30
  have F31 := fun_mk (st := s_longer_paths) l31 c31 k31
  have F32 := fun_mk (st := s_law_cell_at) l32 c32 k32
  have F33 := fun_mk (st := s_law_stir) l33 c33 k33
  have F34 := fun_mk (st := s_law_deck) l34 c34 k34
  have F35 := fun_mk (st := s_law_next) l35 c35 k35
  have F36 := fun_mk (st := s_law_order) l36 c36 k36
  have F37 := fun_mk (st := s_law_near) l37 c37 k37
  have F38 := fun_mk (st := s_law_poll) l38 c38 k38
  have F39 := fun_mk (st := s_law_no_order) l39 c39 k39
  have F40 := fun_mk (st := s_law_no_way) l40 c40 k40
  have F41 := fun_mk (st := s_law_word) l41 c41 k41
  have F42 := fun_mk (st := s_law_no_poll) l42 c42 k42
  have F43 := fun_mk (st := s_law_asked) l43 c43 k43
  have F44 := fun_mk (st := s_law_many_right) l44 c44 k44
  have F45 := fun_mk (st := s_law) l45 c45 k45
  have T_is_whole : Df K mg "is_whole" s_is_whole ["thing"] f0 _ := ⟨F0, F0.binds (ps := ["thing"]) (fun _ _ _ _ _ _ us hl => match us, hl with | [_], _ => rfl), PySem.W.mg_of X G a0⟩
  have T_check_way : Df K mg "check_way" s_check_way ["thing"] f1 _ := ⟨F1, F1.binds (ps := ["thing"]) (fun _ _ _ _ _ _ us hl => match us, hl with | [_], _ => rfl), PySem.W.mg_of X G a1⟩
  have T_check_few : Df K mg "check_few" s_check_few ["n", "most"] f2 _ := ⟨F2, F2.binds (ps := ["n", "most"]) (fun _ _ _ _ _ _ us hl => match us, hl with | [_, _], _ => rfl), PySem.W.mg_of X G a2⟩
  have T_is_order : Df K mg "is_order" s_is_order ["thing"] f3 _ := ⟨F3, F3.binds (ps := ["thing"]) (fun _ _ _ _ _ _ us hl => match us, hl with | [_], _ => rfl), PySem.W.mg_of X G a3⟩
  have T_check_order : Df K mg "check_order" s_check_order ["thing"] f4 _ := ⟨F4, F4.binds (ps := ["thing"]) (fun _ _ _ _ _ _ us hl => match us, hl with | [_], _ => rfl), PySem.W.mg_of X G a4⟩
  have T_check_fit : Df K mg "check_fit" s_check_fit ["one", "other"] f5 _ := ⟨F5, F5.binds (ps := ["one", "other"]) (fun _ _ _ _ _ _ us hl => match us, hl with | [_, _], _ => rfl), PySem.W.mg_of X G a5⟩
  have T_is_order_list : Df K mg "is_order_list" s_is_order_list ["thing"] f6 _ := ⟨F6, F6.binds (ps := ["thing"]) (fun _ _ _ _ _ _ us hl => match us, hl with | [_], _ => rfl), PySem.W.mg_of X G a6⟩
  have T_places_in : Df K mg "places_in" s_places_in ["order"] f7 _ := ⟨F7, F7.binds (ps := ["order"]) (fun _ _ _ _ _ _ us hl => match us, hl with | [_], _ => rfl), PySem.W.mg_of X G a7⟩
  have T_seats_in : Df K mg "seats_in" s_seats_in ["one", "other"] f8 _ := ⟨F8, F8.binds (ps := ["one", "other"]) (fun _ _ _ _ _ _ us hl => match us, hl with | [_, _], _ => rfl), PySem.W.mg_of X G a8⟩
  have T_known_far : Df K mg "known_far" s_known_far ["way", "one", "other"] f9 _ := ⟨F9, F9.binds (ps := ["way", "one", "other"]) (fun _ _ _ _ _ _ us hl => match us, hl with | [_, _, _], _ => rfl), PySem.W.mg_of X G a9⟩
  have T_far_by_swap : Df K mg "far_by_swap" s_far_by_swap ["one", "other"] f10 _ := ⟨F10, F10.binds (ps := ["one", "other"]) (fun _ _ _ _ _ _ us hl => match us, hl with | [_, _], _ => rfl), PySem.W.mg_of X G a10⟩
  have T_far_by_spot : Df K mg "far_by_spot" s_far_by_spot ["one", "other"] f11 _ := ⟨F11, F11.binds (ps := ["one", "other"]) (fun _ _ _ _ _ _ us hl => match us, hl with | [_, _], _ => rfl), PySem.W.mg_of X G a11⟩
  have T_far_by_shift : Df K mg "far_by_shift" s_far_by_shift ["one", "other"] f12 _ := ⟨F12, F12.binds (ps := ["one", "other"]) (fun _ _ _ _ _ _ us hl => match us, hl with | [_, _], _ => rfl), PySem.W.mg_of X G a12⟩
  have T_all_orders : Df K mg "all_orders" s_all_orders ["n"] f13 _ := ⟨F13, F13.binds (ps := ["n"]) (fun _ _ _ _ _ _ us hl => match us, hl with | [_], _ => rfl), PySem.W.mg_of X G a13⟩
  have T_orders_with : Df K mg "orders_with" s_orders_with ["choices"] f14 _ := ⟨F14, F14.binds (ps := ["choices"]) (fun _ _ _ _ _ _ us hl => match us, hl with | [_], _ => rfl), PySem.W.mg_of X G a14⟩
  have T_check_poll : Df K mg "check_poll" s_check_poll ["thing"] f15 _ := ⟨F15, F15.binds (ps := ["thing"]) (fun _ _ _ _ _ _ us hl => match us, hl with | [_], _ => rfl), PySem.W.mg_of X G a15⟩
  have T_poll_sum : Df K mg "poll_sum" s_poll_sum ["way", "poll", "order"] f16 _ := ⟨F16, F16.binds (ps := ["way", "poll", "order"]) (fun _ _ _ _ _ _ us hl => match us, hl with | [_, _, _], _ => rfl), PySem.W.mg_of X G a16⟩
  have T_known_sum : Df K mg "known_sum" s_known_sum ["way", "poll", "order"] f17 _ := ⟨F17, F17.binds (ps := ["way", "poll", "order"]) (fun _ _ _ _ _ _ us hl => match us, hl with | [_, _, _], _ => rfl), PySem.W.mg_of X G a17⟩
  have T_middle_of : Df K mg "middle_of" s_middle_of ["way", "poll"] f18 _ := ⟨F18, F18.binds (ps := ["way", "poll"]) (fun _ _ _ _ _ _ us hl => match us, hl with | [_, _], _ => rfl), PySem.W.mg_of X G a18⟩
  have T_middle_by_all : Df K mg "middle_by_all" s_middle_by_all ["way", "poll", "n"] f19 _ := ⟨F19, F19.binds (ps := ["way", "poll", "n"]) (fun _ _ _ _ _ _ us hl => match us, hl with | [_, _, _], _ => rfl), PySem.W.mg_of X G a19⟩
  have T_middle_by_pairs : Df K mg "middle_by_pairs" s_middle_by_pairs ["ahead"] f20 _ := ⟨F20, F20.binds (ps := ["ahead"]) (fun _ _ _ _ _ _ us hl => match us, hl with | [_], _ => rfl), PySem.W.mg_of X G a20⟩
  have T_best_first : Df K mg "best_first" s_best_first ["left", "ahead", "sums"] f21 _ := ⟨F21, F21.binds (ps := ["left", "ahead", "sums"]) (fun _ _ _ _ _ _ us hl => match us, hl with | [_, _, _], _ => rfl), PySem.W.mg_of X G a21⟩
  have T_least_sums : Df K mg "least_sums" s_least_sums ["ahead"] f22 _ := ⟨F22, F22.binds (ps := ["ahead"]) (fun _ _ _ _ _ _ us hl => match us, hl with | [_], _ => rfl), PySem.W.mg_of X G a22⟩
  have T_sum_with_first : Df K mg "sum_with_first" s_sum_with_first ["thing", "left", "ahead", "sums"] f23 _ := ⟨F23, F23.binds (ps := ["thing", "left", "ahead", "sums"]) (fun _ _ _ _ _ _ us hl => match us, hl with | [_, _, _, _], _ => rfl), PySem.W.mg_of X G a23⟩
  have T_things_in : Df K mg "things_in" s_things_in ["left", "ahead"] f24 _ := ⟨F24, F24.binds (ps := ["left", "ahead"]) (fun _ _ _ _ _ _ us hl => match us, hl with | [_, _], _ => rfl), PySem.W.mg_of X G a24⟩
  have T_counts_ahead : Df K mg "counts_ahead" s_counts_ahead ["poll"] f25 _ := ⟨F25, F25.binds (ps := ["poll"]) (fun _ _ _ _ _ _ us hl => match us, hl with | [_], _ => rfl), PySem.W.mg_of X G a25⟩
  have T_pairs_ahead : Df K mg "pairs_ahead" s_pairs_ahead ["poll"] f26 _ := ⟨F26, F26.binds (ps := ["poll"]) (fun _ _ _ _ _ _ us hl => match us, hl with | [_], _ => rfl), PySem.W.mg_of X G a26⟩
  have T_pair_sum : Df K mg "pair_sum" s_pair_sum ["poll"] f27 _ := ⟨F27, F27.binds (ps := ["poll"]) (fun _ _ _ _ _ _ us hl => match us, hl with | [_], _ => rfl), PySem.W.mg_of X G a27⟩
  have T_ring_of : Df K mg "ring_of" s_ring_of ["poll"] f28 _ := ⟨F28, F28.binds (ps := ["poll"]) (fun _ _ _ _ _ _ us hl => match us, hl with | [_], _ => rfl), PySem.W.mg_of X G a28⟩
  have T_mostly_behind : Df K mg "mostly_behind" s_mostly_behind ["poll"] f29 _ := ⟨F29, F29.binds (ps := ["poll"]) (fun _ _ _ _ _ _ us hl => match us, hl with | [_], _ => rfl), PySem.W.mg_of X G a29⟩
  have T_ring_from : Df K mg "ring_from" s_ring_from ["least", "followers"] f30 _ := ⟨F30, F30.binds (ps := ["least", "followers"]) (fun _ _ _ _ _ _ us hl => match us, hl with | [_, _], _ => rfl), PySem.W.mg_of X G a30⟩
  have T_longer_paths : Df K mg "longer_paths" s_longer_paths ["paths", "followers", "reached"] f31 _ := ⟨F31, F31.binds (ps := ["paths", "followers", "reached"]) (fun _ _ _ _ _ _ us hl => match us, hl with | [_, _, _], _ => rfl), PySem.W.mg_of X G a31⟩
  have T__law_cell_at : Df K mg "_law_cell_at" s_law_cell_at ["script", "k"] f32 _ := ⟨F32, F32.binds (ps := ["script", "k"]) (fun _ _ _ _ _ _ us hl => match us, hl with | [_, _], _ => rfl), PySem.W.mg_of X G a32⟩
  have T__law_stir : Df K mg "_law_stir" s_law_stir ["cell", "k"] f33 _ := ⟨F33, F33.binds (ps := ["cell", "k"]) (fun _ _ _ _ _ _ us hl => match us, hl with | [_, _], _ => rfl), PySem.W.mg_of X G a33⟩
  have T__law_deck : Df K mg "_law_deck" s_law_deck ["cell", "many"] f34 _ := ⟨F34, F34.binds (ps := ["cell", "many"]) (fun _ _ _ _ _ _ us hl => match us, hl with | [_, _], _ => rfl), PySem.W.mg_of X G a34⟩
  have T__law_next : Df K mg "_law_next" s_law_next ["deck"] f35 _ := ⟨F35, F35.binds (ps := ["deck"]) (fun _ _ _ _ _ _ us hl => match us, hl with | [_], _ => rfl), PySem.W.mg_of X G a35⟩
  have T__law_order : Df K mg "_law_order" s_law_order ["deck", "n"] f36 _ := ⟨F36, F36.binds (ps := ["deck", "n"]) (fun _ _ _ _ _ _ us hl => match us, hl with | [_, _], _ => rfl), PySem.W.mg_of X G a36⟩
  have T__law_near : Df K mg "_law_near" s_law_near ["deck", "order"] f37 _ := ⟨F37, F37.binds (ps := ["deck", "order"]) (fun _ _ _ _ _ _ us hl => match us, hl with | [_, _], _ => rfl), PySem.W.mg_of X G a37⟩
  have T__law_poll : Df K mg "_law_poll" s_law_poll ["deck", "n", "most"] f38 _ := ⟨F38, F38.binds (ps := ["deck", "n", "most"]) (fun _ _ _ _ _ _ us hl => match us, hl with | [_, _, _], _ => rfl), PySem.W.mg_of X G a38⟩
  have T__law_no_order : Df K mg "_law_no_order" s_law_no_order ["deck", "n"] f39 _ := ⟨F39, F39.binds (ps := ["deck", "n"]) (fun _ _ _ _ _ _ us hl => match us, hl with | [_, _], _ => rfl), PySem.W.mg_of X G a39⟩
  have T__law_no_way : Df K mg "_law_no_way" s_law_no_way ["deck"] f40 _ := ⟨F40, F40.binds (ps := ["deck"]) (fun _ _ _ _ _ _ us hl => match us, hl with | [_], _ => rfl), PySem.W.mg_of X G a40⟩
  have T__law_word : Df K mg "_law_word" s_law_word ["caught"] f41 _ := ⟨F41, F41.binds (ps := ["caught"]) (fun _ _ _ _ _ _ us hl => match us, hl with | [_], _ => rfl), PySem.W.mg_of X G a41⟩
  have T__law_no_poll : Df K mg "_law_no_poll" s_law_no_poll ["deck", "poll"] f42 _ := ⟨F42, F42.binds (ps := ["deck", "poll"]) (fun _ _ _ _ _ _ us hl => match us, hl with | [_, _], _ => rfl), PySem.W.mg_of X G a42⟩
  have T__law_asked : Df K mg "_law_asked" s_law_asked ["which", "way", "poll", "order"] f43 _ := ⟨F43, F43.binds (ps := ["which", "way", "poll", "order"]) (fun _ _ _ _ _ _ us hl => match us, hl with | [_, _, _, _], _ => rfl), PySem.W.mg_of X G a43⟩
  have T__law_many_right : Df K mg "_law_many_right" s_law_many_right ["way", "poll"] f44 _ := ⟨F44, F44.binds (ps := ["way", "poll"]) (fun _ _ _ _ _ _ us hl => match us, hl with | [_, _], _ => rfl), PySem.W.mg_of X G a44⟩
  have B : Bi mg := ⟨PySem.W.mg_none_of X G z_ValueError, PySem.W.mg_none_of X G z_abs, PySem.W.mg_none_of X G z_all, PySem.W.mg_none_of X G z_bool, PySem.W.mg_none_of X G z_enumerate, PySem.W.mg_none_of X G z_int, PySem.W.mg_none_of X G z_isinstance, PySem.W.mg_none_of X G z_len, PySem.W.mg_none_of X G z_list, PySem.W.mg_none_of X G z_max, PySem.W.mg_none_of X G z_min, PySem.W.mg_none_of X G z_range, PySem.W.mg_none_of X G z_repr, PySem.W.mg_none_of X G z_sorted, PySem.W.mg_none_of X G z_str, PySem.W.mg_none_of X G z_sum, PySem.W.mg_none_of X G z_tuple⟩
  have m_WAYS := wy_mk (PySem.W.mg_of X G g_WAYS) l_WAYS
  have m_MOST_THINGS := PySem.W.mg_of X G g_MOST_THINGS
  have m_MOST_LISTED := PySem.W.mg_of X G g_MOST_LISTED
  have m_MOST_POLLED := PySem.W.mg_of X G g_MOST_POLLED
  have m_MOST_BY_PAIRS := PySem.W.mg_of X G g_MOST_BY_PAIRS
  have g_OrderError := PySem.W.mg_of X G gc_OrderError
  have g_NoOrder := PySem.W.mg_of X G gc_NoOrder
  have g_NoWay := PySem.W.mg_of X G gc_NoWay
  have g_NoFit := PySem.W.mg_of X G gc_NoFit
  have g_NoPlace := PySem.W.mg_of X G gc_NoPlace
  have g_NoNumber := PySem.W.mg_of X G gc_NoNumber
  have g_TooMany := PySem.W.mg_of X G gc_TooMany
  have g_NoText := PySem.W.mg_of X G gc_NoText
  have g_NoName := PySem.W.mg_of X G gc_NoName
  have g_NoRow := PySem.W.mg_of X G gc_NoRow
  have ec_NoOrder : ExcC K C_NoOrder := ⟨xehg_NoOrder, xehk_NoOrder, xehs_NoOrder, xehd_NoOrder, xeha_NoOrder, xehn_NoOrder, xeht_NoOrder, xehm_NoOrder⟩
  have X_NoOrder : ExK K mg "NoOrder" C_NoOrder := ⟨g_NoOrder, xq_NoOrder, xk_NoOrder, xehs_NoOrder, xt_NoOrder, ec_NoOrder⟩
  have kd_NoOrder := kd_mk9 (i := 0) ec_NoOrder xy_NoOrder_NoOrder xy_NoOrder_NoWay xy_NoOrder_NoFit xy_NoOrder_NoPlace xy_NoOrder_NoNumber xy_NoOrder_TooMany xy_NoOrder_NoText xy_NoOrder_NoName xy_NoOrder_NoRow xv_NoOrder (by decide)
  have ec_NoWay : ExcC K C_NoWay := ⟨xehg_NoWay, xehk_NoWay, xehs_NoWay, xehd_NoWay, xeha_NoWay, xehn_NoWay, xeht_NoWay, xehm_NoWay⟩
  have X_NoWay : ExK K mg "NoWay" C_NoWay := ⟨g_NoWay, xq_NoWay, xk_NoWay, xehs_NoWay, xt_NoWay, ec_NoWay⟩
  have kd_NoWay := kd_mk9 (i := 1) ec_NoWay xy_NoWay_NoOrder xy_NoWay_NoWay xy_NoWay_NoFit xy_NoWay_NoPlace xy_NoWay_NoNumber xy_NoWay_TooMany xy_NoWay_NoText xy_NoWay_NoName xy_NoWay_NoRow xv_NoWay (by decide)
  have ec_NoFit : ExcC K C_NoFit := ⟨xehg_NoFit, xehk_NoFit, xehs_NoFit, xehd_NoFit, xeha_NoFit, xehn_NoFit, xeht_NoFit, xehm_NoFit⟩
  have X_NoFit : ExK K mg "NoFit" C_NoFit := ⟨g_NoFit, xq_NoFit, xk_NoFit, xehs_NoFit, xt_NoFit, ec_NoFit⟩
  have kd_NoFit := kd_mk9 (i := 2) ec_NoFit xy_NoFit_NoOrder xy_NoFit_NoWay xy_NoFit_NoFit xy_NoFit_NoPlace xy_NoFit_NoNumber xy_NoFit_TooMany xy_NoFit_NoText xy_NoFit_NoName xy_NoFit_NoRow xv_NoFit (by decide)
  have ec_TooMany : ExcC K C_TooMany := ⟨xehg_TooMany, xehk_TooMany, xehs_TooMany, xehd_TooMany, xeha_TooMany, xehn_TooMany, xeht_TooMany, xehm_TooMany⟩
  have X_TooMany : ExK K mg "TooMany" C_TooMany := ⟨g_TooMany, xq_TooMany, xk_TooMany, xehs_TooMany, xt_TooMany, ec_TooMany⟩
  have kd_TooMany := kd_mk9 (i := 5) ec_TooMany xy_TooMany_NoOrder xy_TooMany_NoWay xy_TooMany_NoFit xy_TooMany_NoPlace xy_TooMany_NoNumber xy_TooMany_TooMany xy_TooMany_NoText xy_TooMany_NoName xy_TooMany_NoRow xv_TooMany (by decide)
  exact ⟨PySem.W.fnOf "law" "law" (defArgs s_law) (defBody s_law) (defScope s_law) .none kV45 dc45 pm45 an45 cd45 ct45, fun s v => .of_eq rfl, fun base _ _ sy => ok_law F45 T__law_deck T__law_cell_at T__law_next T__law_poll T__law_no_way T__law_no_order T__law_order T__law_no_poll T__law_asked T__law_many_right (ok_deckN (k := 37) T__law_deck T__law_stir B) (ok_cell (k := 38) T__law_cell_at B) (ok_next (k := 37) T__law_next T__law_stir B) (ok_poll (k := 38) T__law_poll T__law_next (ok_next (k := 36) T__law_next T__law_stir B) T__law_order (ok_orderN (k := 37) T__law_order T__law_next (ok_next (k := 35) T__law_next T__law_stir B) B) T__law_near (ok_nearN (k := 37) T__law_near T__law_next (ok_next (k := 35) T__law_next T__law_stir B) B) B) (ok_noWay72 (k := 38) T__law_no_way T__law_next (ok_next (k := 36) T__law_next T__law_stir B) B) (ok_noord72 (k := 38) T__law_no_order T__law_order T__law_next (ok_orderN (k := 37) T__law_order T__law_next (ok_next (k := 35) T__law_next T__law_stir B) B) (ok_next (k := 36) T__law_next T__law_stir B) B) (ok_orderN (k := 38) T__law_order T__law_next (ok_next (k := 36) T__law_next T__law_stir B) B) (ok_nop (k := 38) T__law_no_poll T__law_order T__law_next T__law_no_order (ok_orderN (k := 37) T__law_order T__law_next (ok_next (k := 35) T__law_next T__law_stir B) B) (ok_next (k := 36) T__law_next T__law_stir B) (ok_noord72 (k := 37) T__law_no_order T__law_order T__law_next (ok_orderN (k := 36) T__law_order T__law_next (ok_next (k := 34) T__law_next T__law_stir B) B) (ok_next (k := 35) T__law_next T__law_stir B) B) B) (ok_ask68 (k := 38) (c := cls9 C_NoOrder C_NoWay C_NoFit C_NoPlace C_NoNumber C_TooMany C_NoText C_NoName C_NoRow) T__law_asked T_poll_sum T_middle_of T_pairs_ahead T_pair_sum T_ring_of T__law_word (ok_psX (k := 37) T_poll_sum T_check_poll T_check_order T_check_way T_check_fit T_known_sum (ok_cpX (k := 36) T_check_poll T_is_order_list (ok_olD (k := 35) T_is_order_list T_is_order (ok_isOrdD (k := 33) T_is_order T_is_whole B m_MOST_THINGS) B) X_NoOrder B m_MOST_POLLED) (ok_chk (k := 36) T_check_order T_is_order (ok_isOrdD (k := 34) T_is_order T_is_whole B m_MOST_THINGS) X_NoOrder) (ok_wayX (k := 36) T_check_way m_WAYS X_NoWay B) (ok_fitX (k := 36) T_check_fit X_NoFit B) (ok_ksum (k := 36) T_known_sum T_known_far (ok_known (k := 35) T_known_far T_far_by_swap T_far_by_spot T_far_by_shift (ok_swap (k := 34) T_far_by_swap T_seats_in (ok_seats (k := 32) T_seats_in T_places_in B) B) (ok_spot (k := 34) T_far_by_spot B) (ok_shift (k := 34) T_far_by_shift T_seats_in (ok_seats (k := 32) T_seats_in T_places_in B) B)) B)) (fn_or (fn_up (ok_mid (k := 37) T_middle_of T_check_poll T_check_way T_check_few T_middle_by_pairs T_counts_ahead T_middle_by_all (ok_cpoll (k := 36) T_check_poll T_is_order_list (ok_olst (k := 35) T_is_order_list T_is_order (ok_is_order (k := 33) T_is_order T_is_whole B m_MOST_THINGS) B) B m_MOST_POLLED) (ok_way (k := 36) T_check_way m_WAYS B) (ok_few (k := 36) T_check_few) (ok_mpairs (k := 36) T_middle_by_pairs T_least_sums T_best_first (ok_lsums (k := 35) T_least_sums T_things_in T_sum_with_first (ok_tin (k := 34) T_things_in B) (ok_swf (k := 34) T_sum_with_first T_things_in (ok_tin (k := 33) T_things_in B) B) B) (ok_bfirst (k := 35) T_best_first T_things_in T_sum_with_first (ok_tin (k := 34) T_things_in B) (ok_swf (k := 34) T_sum_with_first T_things_in (ok_tin (k := 33) T_things_in B) B) B) B) (ok_ahead (k := 36) T_counts_ahead T_places_in (ok_places (k := 35) T_places_in B) B) (ok_mall (k := 36) T_middle_by_all T_all_orders T_known_sum (ok_all_orders (k := 34) T_all_orders T_orders_with B) (ok_ksum (k := 35) T_known_sum T_known_far (ok_known (k := 34) T_known_far T_far_by_swap T_far_by_spot T_far_by_shift (ok_swap (k := 33) T_far_by_swap T_seats_in (ok_seats (k := 31) T_seats_in T_places_in B) B) (ok_spot (k := 33) T_far_by_spot B) (ok_shift (k := 33) T_far_by_shift T_seats_in (ok_seats (k := 31) T_seats_in T_places_in B) B)) B)) B m_MOST_BY_PAIRS m_MOST_LISTED)) (ok_midR (k := 37) T_middle_of T_check_poll T_check_way T_check_few T_counts_ahead T_middle_by_pairs T_middle_by_all (ok_cpX (k := 36) T_check_poll T_is_order_list (ok_olD (k := 35) T_is_order_list T_is_order (ok_isOrdD (k := 33) T_is_order T_is_whole B m_MOST_THINGS) B) X_NoOrder B m_MOST_POLLED) (ok_wayX (k := 36) T_check_way m_WAYS X_NoWay B) (ok_fewY (k := 36) T_check_few X_TooMany) (ok_ahead (k := 36) T_counts_ahead T_places_in (ok_places (k := 35) T_places_in B) B) (ok_mpairs (k := 36) T_middle_by_pairs T_least_sums T_best_first (ok_lsums (k := 35) T_least_sums T_things_in T_sum_with_first (ok_tin (k := 34) T_things_in B) (ok_swf (k := 34) T_sum_with_first T_things_in (ok_tin (k := 33) T_things_in B) B) B) (ok_bfirst (k := 35) T_best_first T_things_in T_sum_with_first (ok_tin (k := 34) T_things_in B) (ok_swf (k := 34) T_sum_with_first T_things_in (ok_tin (k := 33) T_things_in B) B) B) B) (ok_mall (k := 36) T_middle_by_all T_all_orders T_known_sum (ok_all_orders (k := 34) T_all_orders T_orders_with B) (ok_ksum (k := 35) T_known_sum T_known_far (ok_known (k := 34) T_known_far T_far_by_swap T_far_by_spot T_far_by_shift (ok_swap (k := 33) T_far_by_swap T_seats_in (ok_seats (k := 31) T_seats_in T_places_in B) B) (ok_spot (k := 33) T_far_by_spot B) (ok_shift (k := 33) T_far_by_shift T_seats_in (ok_seats (k := 31) T_seats_in T_places_in B) B)) B)) B m_MOST_BY_PAIRS m_MOST_LISTED)) (fn_or (fn_up (ok_pairs (k := 37) T_pairs_ahead T_check_poll T_counts_ahead (ok_cpoll (k := 36) T_check_poll T_is_order_list (ok_olst (k := 35) T_is_order_list T_is_order (ok_is_order (k := 33) T_is_order T_is_whole B m_MOST_THINGS) B) B m_MOST_POLLED) (ok_ahead (k := 36) T_counts_ahead T_places_in (ok_places (k := 35) T_places_in B) B) B)) (ok_paR (k := 37) T_pairs_ahead T_check_poll T_counts_ahead (ok_cpX (k := 36) T_check_poll T_is_order_list (ok_olD (k := 35) T_is_order_list T_is_order (ok_isOrdD (k := 33) T_is_order T_is_whole B m_MOST_THINGS) B) X_NoOrder B m_MOST_POLLED) (ok_ahead (k := 36) T_counts_ahead T_places_in (ok_places (k := 35) T_places_in B) B) B)) (fn_or (fn_up (ok_psum (k := 37) T_pair_sum T_check_poll T_counts_ahead (ok_cpoll (k := 36) T_check_poll T_is_order_list (ok_olst (k := 35) T_is_order_list T_is_order (ok_is_order (k := 33) T_is_order T_is_whole B m_MOST_THINGS) B) B m_MOST_POLLED) (ok_ahead (k := 36) T_counts_ahead T_places_in (ok_places (k := 35) T_places_in B) B) B)) (ok_psR (k := 37) T_pair_sum T_check_poll T_counts_ahead (ok_cpX (k := 36) T_check_poll T_is_order_list (ok_olD (k := 35) T_is_order_list T_is_order (ok_isOrdD (k := 33) T_is_order T_is_whole B m_MOST_THINGS) B) X_NoOrder B m_MOST_POLLED) (ok_ahead (k := 36) T_counts_ahead T_places_in (ok_places (k := 35) T_places_in B) B) B)) (fn_or (fn_up (ok_ring (k := 37) T_ring_of T_check_poll T_check_few T_mostly_behind T_ring_from (ok_cpoll (k := 36) T_check_poll T_is_order_list (ok_olst (k := 35) T_is_order_list T_is_order (ok_is_order (k := 33) T_is_order T_is_whole B m_MOST_THINGS) B) B m_MOST_POLLED) (ok_few (k := 36) T_check_few) (ok_mbeh (k := 36) T_mostly_behind T_counts_ahead (ok_ahead (k := 35) T_counts_ahead T_places_in (ok_places (k := 34) T_places_in B) B) B) (ok_rfrom (k := 36) T_ring_from T_longer_paths (ok_longer (k := 35) T_longer_paths B) B) B m_MOST_BY_PAIRS)) (ok_riR (k := 37) T_ring_of T_check_poll T_check_few T_mostly_behind T_ring_from (ok_cpX (k := 36) T_check_poll T_is_order_list (ok_olD (k := 35) T_is_order_list T_is_order (ok_isOrdD (k := 33) T_is_order T_is_whole B m_MOST_THINGS) B) X_NoOrder B m_MOST_POLLED) (ok_fewY (k := 36) T_check_few X_TooMany) (ok_mbeh (k := 36) T_mostly_behind T_counts_ahead (ok_ahead (k := 35) T_counts_ahead T_places_in (ok_places (k := 34) T_places_in B) B) B) (ok_rfrom (k := 36) T_ring_from T_longer_paths (ok_longer (k := 35) T_longer_paths B) B) B m_MOST_BY_PAIRS)) (ok_wordP (k := 37) (c := cls9 C_NoOrder C_NoWay C_NoFit C_NoPlace C_NoNumber C_TooMany C_NoText C_NoName C_NoRow) T__law_word g_NoOrder g_NoWay g_NoFit g_NoPlace g_NoNumber g_TooMany g_NoText g_NoName g_NoRow B) sy B kd_NoOrder kd_NoWay kd_NoFit kd_TooMany g_OrderError xm_NoOrder xm_NoWay xm_NoFit xm_TooMany) (ok_mnr (k := 38) T__law_many_right T__law_asked (ok_ask68 (k := 37) (c := cls9 C_NoOrder C_NoWay C_NoFit C_NoPlace C_NoNumber C_TooMany C_NoText C_NoName C_NoRow) T__law_asked T_poll_sum T_middle_of T_pairs_ahead T_pair_sum T_ring_of T__law_word (ok_psX (k := 36) T_poll_sum T_check_poll T_check_order T_check_way T_check_fit T_known_sum (ok_cpX (k := 35) T_check_poll T_is_order_list (ok_olD (k := 34) T_is_order_list T_is_order (ok_isOrdD (k := 32) T_is_order T_is_whole B m_MOST_THINGS) B) X_NoOrder B m_MOST_POLLED) (ok_chk (k := 35) T_check_order T_is_order (ok_isOrdD (k := 33) T_is_order T_is_whole B m_MOST_THINGS) X_NoOrder) (ok_wayX (k := 35) T_check_way m_WAYS X_NoWay B) (ok_fitX (k := 35) T_check_fit X_NoFit B) (ok_ksum (k := 35) T_known_sum T_known_far (ok_known (k := 34) T_known_far T_far_by_swap T_far_by_spot T_far_by_shift (ok_swap (k := 33) T_far_by_swap T_seats_in (ok_seats (k := 31) T_seats_in T_places_in B) B) (ok_spot (k := 33) T_far_by_spot B) (ok_shift (k := 33) T_far_by_shift T_seats_in (ok_seats (k := 31) T_seats_in T_places_in B) B)) B)) (fn_or (fn_up (ok_mid (k := 36) T_middle_of T_check_poll T_check_way T_check_few T_middle_by_pairs T_counts_ahead T_middle_by_all (ok_cpoll (k := 35) T_check_poll T_is_order_list (ok_olst (k := 34) T_is_order_list T_is_order (ok_is_order (k := 32) T_is_order T_is_whole B m_MOST_THINGS) B) B m_MOST_POLLED) (ok_way (k := 35) T_check_way m_WAYS B) (ok_few (k := 35) T_check_few) (ok_mpairs (k := 35) T_middle_by_pairs T_least_sums T_best_first (ok_lsums (k := 34) T_least_sums T_things_in T_sum_with_first (ok_tin (k := 33) T_things_in B) (ok_swf (k := 33) T_sum_with_first T_things_in (ok_tin (k := 32) T_things_in B) B) B) (ok_bfirst (k := 34) T_best_first T_things_in T_sum_with_first (ok_tin (k := 33) T_things_in B) (ok_swf (k := 33) T_sum_with_first T_things_in (ok_tin (k := 32) T_things_in B) B) B) B) (ok_ahead (k := 35) T_counts_ahead T_places_in (ok_places (k := 34) T_places_in B) B) (ok_mall (k := 35) T_middle_by_all T_all_orders T_known_sum (ok_all_orders (k := 33) T_all_orders T_orders_with B) (ok_ksum (k := 34) T_known_sum T_known_far (ok_known (k := 33) T_known_far T_far_by_swap T_far_by_spot T_far_by_shift (ok_swap (k := 32) T_far_by_swap T_seats_in (ok_seats (k := 30) T_seats_in T_places_in B) B) (ok_spot (k := 32) T_far_by_spot B) (ok_shift (k := 32) T_far_by_shift T_seats_in (ok_seats (k := 30) T_seats_in T_places_in B) B)) B)) B m_MOST_BY_PAIRS m_MOST_LISTED)) (ok_midR (k := 36) T_middle_of T_check_poll T_check_way T_check_few T_counts_ahead T_middle_by_pairs T_middle_by_all (ok_cpX (k := 35) T_check_poll T_is_order_list (ok_olD (k := 34) T_is_order_list T_is_order (ok_isOrdD (k := 32) T_is_order T_is_whole B m_MOST_THINGS) B) X_NoOrder B m_MOST_POLLED) (ok_wayX (k := 35) T_check_way m_WAYS X_NoWay B) (ok_fewY (k := 35) T_check_few X_TooMany) (ok_ahead (k := 35) T_counts_ahead T_places_in (ok_places (k := 34) T_places_in B) B) (ok_mpairs (k := 35) T_middle_by_pairs T_least_sums T_best_first (ok_lsums (k := 34) T_least_sums T_things_in T_sum_with_first (ok_tin (k := 33) T_things_in B) (ok_swf (k := 33) T_sum_with_first T_things_in (ok_tin (k := 32) T_things_in B) B) B) (ok_bfirst (k := 34) T_best_first T_things_in T_sum_with_first (ok_tin (k := 33) T_things_in B) (ok_swf (k := 33) T_sum_with_first T_things_in (ok_tin (k := 32) T_things_in B) B) B) B) (ok_mall (k := 35) T_middle_by_all T_all_orders T_known_sum (ok_all_orders (k := 33) T_all_orders T_orders_with B) (ok_ksum (k := 34) T_known_sum T_known_far (ok_known (k := 33) T_known_far T_far_by_swap T_far_by_spot T_far_by_shift (ok_swap (k := 32) T_far_by_swap T_seats_in (ok_seats (k := 30) T_seats_in T_places_in B) B) (ok_spot (k := 32) T_far_by_spot B) (ok_shift (k := 32) T_far_by_shift T_seats_in (ok_seats (k := 30) T_seats_in T_places_in B) B)) B)) B m_MOST_BY_PAIRS m_MOST_LISTED)) (fn_or (fn_up (ok_pairs (k := 36) T_pairs_ahead T_check_poll T_counts_ahead (ok_cpoll (k := 35) T_check_poll T_is_order_list (ok_olst (k := 34) T_is_order_list T_is_order (ok_is_order (k := 32) T_is_order T_is_whole B m_MOST_THINGS) B) B m_MOST_POLLED) (ok_ahead (k := 35) T_counts_ahead T_places_in (ok_places (k := 34) T_places_in B) B) B)) (ok_paR (k := 36) T_pairs_ahead T_check_poll T_counts_ahead (ok_cpX (k := 35) T_check_poll T_is_order_list (ok_olD (k := 34) T_is_order_list T_is_order (ok_isOrdD (k := 32) T_is_order T_is_whole B m_MOST_THINGS) B) X_NoOrder B m_MOST_POLLED) (ok_ahead (k := 35) T_counts_ahead T_places_in (ok_places (k := 34) T_places_in B) B) B)) (fn_or (fn_up (ok_psum (k := 36) T_pair_sum T_check_poll T_counts_ahead (ok_cpoll (k := 35) T_check_poll T_is_order_list (ok_olst (k := 34) T_is_order_list T_is_order (ok_is_order (k := 32) T_is_order T_is_whole B m_MOST_THINGS) B) B m_MOST_POLLED) (ok_ahead (k := 35) T_counts_ahead T_places_in (ok_places (k := 34) T_places_in B) B) B)) (ok_psR (k := 36) T_pair_sum T_check_poll T_counts_ahead (ok_cpX (k := 35) T_check_poll T_is_order_list (ok_olD (k := 34) T_is_order_list T_is_order (ok_isOrdD (k := 32) T_is_order T_is_whole B m_MOST_THINGS) B) X_NoOrder B m_MOST_POLLED) (ok_ahead (k := 35) T_counts_ahead T_places_in (ok_places (k := 34) T_places_in B) B) B)) (fn_or (fn_up (ok_ring (k := 36) T_ring_of T_check_poll T_check_few T_mostly_behind T_ring_from (ok_cpoll (k := 35) T_check_poll T_is_order_list (ok_olst (k := 34) T_is_order_list T_is_order (ok_is_order (k := 32) T_is_order T_is_whole B m_MOST_THINGS) B) B m_MOST_POLLED) (ok_few (k := 35) T_check_few) (ok_mbeh (k := 35) T_mostly_behind T_counts_ahead (ok_ahead (k := 34) T_counts_ahead T_places_in (ok_places (k := 33) T_places_in B) B) B) (ok_rfrom (k := 35) T_ring_from T_longer_paths (ok_longer (k := 34) T_longer_paths B) B) B m_MOST_BY_PAIRS)) (ok_riR (k := 36) T_ring_of T_check_poll T_check_few T_mostly_behind T_ring_from (ok_cpX (k := 35) T_check_poll T_is_order_list (ok_olD (k := 34) T_is_order_list T_is_order (ok_isOrdD (k := 32) T_is_order T_is_whole B m_MOST_THINGS) B) X_NoOrder B m_MOST_POLLED) (ok_fewY (k := 35) T_check_few X_TooMany) (ok_mbeh (k := 35) T_mostly_behind T_counts_ahead (ok_ahead (k := 34) T_counts_ahead T_places_in (ok_places (k := 33) T_places_in B) B) B) (ok_rfrom (k := 35) T_ring_from T_longer_paths (ok_longer (k := 34) T_longer_paths B) B) B m_MOST_BY_PAIRS)) (ok_wordP (k := 36) (c := cls9 C_NoOrder C_NoWay C_NoFit C_NoPlace C_NoNumber C_TooMany C_NoText C_NoName C_NoRow) T__law_word g_NoOrder g_NoWay g_NoFit g_NoPlace g_NoNumber g_TooMany g_NoText g_NoName g_NoRow B) sy B kd_NoOrder kd_NoWay kd_NoFit kd_TooMany g_OrderError xm_NoOrder xm_NoWay xm_NoFit xm_TooMany) B) sy B⟩
end Fo
open PySem PySem.W PyProof.Rows
set_option maxRecDepth 100000 in
set_option maxHeartbeats 0 in
theorem PySem.Challenge.cw_farorders_k68_polls_refused_holds : PySem.Challenge.rw_farorders_k68_polls_refused.Holds := by
  w_on; o_law; k_head; (case hw => w_witness2)
  k_fill
  refine Fo.walkG (l := PySem.Challenge.rw_farorders_k68_polls_refused) (n := 63) (k := 40) (y := "script") (sp := fun w => Fo.spLaw _) rfl (by decide) rfl ⟨rfl, by decide, by decide⟩ (fun w h Y => PySem.W.kIn_of Y) (by decide +kernel) ?F (fun _ _ a ns hl _ hS => ⟨a, ns, rfl, hS, hl, fun _ => rfl⟩)
  case F =>
    intro w mg fa h KX G hmg
    refine' Fo.all_mk KX G hmg ?a0 ?l0 ?c0 ?k0 ?a1 ?l1 ?c1 ?k1 ?a2 ?l2 ?c2 ?k2 ?a3 ?l3 ?c3 ?k3 ?a4 ?l4 ?c4 ?k4 ?a5 ?l5 ?c5 ?k5 ?a6 ?l6 ?c6 ?k6 ?a7 ?l7 ?c7 ?k7 ?a8 ?l8 ?c8 ?k8 ?a9 ?l9 ?c9 ?k9 ?a10 ?l10 ?c10 ?k10 ?a11 ?l11 ?c11 ?k11 ?a12 ?l12 ?c12 ?k12 ?a13 ?l13 ?c13 ?k13 ?a14 ?l14 ?c14 ?k14 ?a15 ?l15 ?c15 ?k15 ?a16 ?l16 ?c16 ?k16 ?a17 ?l17 ?c17 ?k17 ?a18 ?l18 ?c18 ?k18 ?a19 ?l19 ?c19 ?k19 ?a20 ?l20 ?c20 ?k20 ?a21 ?l21 ?c21 ?k21 ?a22 ?l22 ?c22 ?k22 ?a23 ?l23 ?c23 ?k23 ?a24 ?l24 ?c24 ?k24 ?a25 ?l25 ?c25 ?k25 ?a26 ?l26 ?c26 ?k26 ?a27 ?l27 ?c27 ?k27 ?a28 ?l28 ?c28 ?k28 ?a29 ?l29 ?c29 ?k29 ?a30 ?l30 ?c30 ?k30 ?a31 ?l31 ?c31 ?k31 ?a32 ?l32 ?c32 ?k32 ?a33 ?l33 ?c33 ?k33 ?a34 ?l34 ?c34 ?k34 ?a35 ?l35 ?c35 ?k35 ?a36 ?l36 ?c36 ?k36 ?a37 ?l37 ?c37 ?k37 ?a38 ?l38 ?c38 ?k38 ?a39 ?l39 ?c39 ?k39 ?a40 ?l40 ?c40 ?k40 ?a41 ?l41 ?c41 ?k41 ?a42 ?l42 ?c42 ?k42 ?a43 ?l43 ?c43 ?k43 ?a44 ?l44 ?c44 ?k44 ?a45 ?l45 ?c45 ?k45 ?g_MOST_THINGS ?g_MOST_LISTED ?g_MOST_POLLED ?g_MOST_BY_PAIRS ?g_WAYS ?l_WAYS ?gc_OrderError ?gc_NoOrder ?gc_NoWay ?gc_NoFit ?gc_NoPlace ?gc_NoNumber ?gc_TooMany ?gc_NoText ?gc_NoName ?gc_NoRow ?xq_NoOrder ?xk_NoOrder ?xt_NoOrder ?xm_NoOrder ?xv_NoOrder ?xehg_NoOrder ?xehk_NoOrder ?xehs_NoOrder ?xehd_NoOrder ?xeha_NoOrder ?xehn_NoOrder ?xeht_NoOrder ?xehm_NoOrder ?xy_NoOrder_NoOrder ?xy_NoOrder_NoWay ?xy_NoOrder_NoFit ?xy_NoOrder_NoPlace ?xy_NoOrder_NoNumber ?xy_NoOrder_TooMany ?xy_NoOrder_NoText ?xy_NoOrder_NoName ?xy_NoOrder_NoRow ?xq_NoWay ?xk_NoWay ?xt_NoWay ?xm_NoWay ?xv_NoWay ?xehg_NoWay ?xehk_NoWay ?xehs_NoWay ?xehd_NoWay ?xeha_NoWay ?xehn_NoWay ?xeht_NoWay ?xehm_NoWay ?xy_NoWay_NoOrder ?xy_NoWay_NoWay ?xy_NoWay_NoFit ?xy_NoWay_NoPlace ?xy_NoWay_NoNumber ?xy_NoWay_TooMany ?xy_NoWay_NoText ?xy_NoWay_NoName ?xy_NoWay_NoRow ?xq_NoFit ?xk_NoFit ?xt_NoFit ?xm_NoFit ?xv_NoFit ?xehg_NoFit ?xehk_NoFit ?xehs_NoFit ?xehd_NoFit ?xeha_NoFit ?xehn_NoFit ?xeht_NoFit ?xehm_NoFit ?xy_NoFit_NoOrder ?xy_NoFit_NoWay ?xy_NoFit_NoFit ?xy_NoFit_NoPlace ?xy_NoFit_NoNumber ?xy_NoFit_TooMany ?xy_NoFit_NoText ?xy_NoFit_NoName ?xy_NoFit_NoRow ?xq_TooMany ?xk_TooMany ?xt_TooMany ?xm_TooMany ?xv_TooMany ?xehg_TooMany ?xehk_TooMany ?xehs_TooMany ?xehd_TooMany ?xeha_TooMany ?xehn_TooMany ?xeht_TooMany ?xehm_TooMany ?xy_TooMany_NoOrder ?xy_TooMany_NoWay ?xy_TooMany_NoFit ?xy_TooMany_NoPlace ?xy_TooMany_NoNumber ?xy_TooMany_TooMany ?xy_TooMany_NoText ?xy_TooMany_NoName ?xy_TooMany_NoRow ?z_ValueError ?z_abs ?z_all ?z_bool ?z_enumerate ?z_int ?z_isinstance ?z_len ?z_list ?z_max ?z_min ?z_range ?z_repr ?z_sorted ?z_str ?z_sum ?z_tuple
    (case a0 => k_is); (case l0 => k_is); (case c0 => k_is); (case k0 => k_is); (case a1 => k_is); (case l1 => k_is); (case c1 => k_is); (case k1 => k_is); (case a2 => k_is); (case l2 => k_is); (case c2 => k_is); (case k2 => k_is); (case a3 => k_is); (case l3 => k_is); (case c3 => k_is); (case k3 => k_is); (case a4 => k_is); (case l4 => k_is); (case c4 => k_is); (case k4 => k_is); (case a5 => k_is); (case l5 => k_is); (case c5 => k_is); (case k5 => k_is); (case a6 => k_is); (case l6 => k_is); (case c6 => k_is); (case k6 => k_is); (case a7 => k_is); (case l7 => k_is); (case c7 => k_is); (case k7 => k_is); (case a8 => k_is); (case l8 => k_is); (case c8 => k_is); (case k8 => k_is); (case a9 => k_is); (case l9 => k_is); (case c9 => k_is); (case k9 => k_is); (case a10 => k_is); (case l10 => k_is); (case c10 => k_is); (case k10 => k_is); (case a11 => k_is); (case l11 => k_is); (case c11 => k_is); (case k11 => k_is); (case a12 => k_is); (case l12 => k_is); (case c12 => k_is); (case k12 => k_is); (case a13 => k_is); (case l13 => k_is); (case c13 => k_is); (case k13 => k_is); (case a14 => k_is); (case l14 => k_is); (case c14 => k_is); (case k14 => k_is); (case a15 => k_is); (case l15 => k_is); (case c15 => k_is); (case k15 => k_is); (case a16 => k_is); (case l16 => k_is); (case c16 => k_is); (case k16 => k_is); (case a17 => k_is); (case l17 => k_is); (case c17 => k_is); (case k17 => k_is); (case a18 => k_is); (case l18 => k_is); (case c18 => k_is); (case k18 => k_is); (case a19 => k_is); (case l19 => k_is); (case c19 => k_is); (case k19 => k_is); (case a20 => k_is); (case l20 => k_is); (case c20 => k_is); (case k20 => k_is); (case a21 => k_is); (case l21 => k_is); (case c21 => k_is); (case k21 => k_is); (case a22 => k_is); (case l22 => k_is); (case c22 => k_is); (case k22 => k_is); (case a23 => k_is); (case l23 => k_is); (case c23 => k_is); (case k23 => k_is); (case a24 => k_is); (case l24 => k_is); (case c24 => k_is); (case k24 => k_is); (case a25 => k_is); (case l25 => k_is); (case c25 => k_is); (case k25 => k_is); (case a26 => k_is); (case l26 => k_is); (case c26 => k_is); (case k26 => k_is); (case a27 => k_is); (case l27 => k_is); (case c27 => k_is); (case k27 => k_is); (case a28 => k_is); (case l28 => k_is); (case c28 => k_is); (case k28 => k_is); (case a29 => k_is); (case l29 => k_is); (case c29 => k_is); (case k29 => k_is); (case a30 => k_is); (case l30 => k_is); (case c30 => k_is); (case k30 => k_is); (case a31 => k_is); (case l31 => k_is); (case c31 => k_is); (case k31 => k_is); (case a32 => k_is); (case l32 => k_is); (case c32 => k_is); (case k32 => k_is); (case a33 => k_is); (case l33 => k_is); (case c33 => k_is); (case k33 => k_is); (case a34 => k_is); (case l34 => k_is); (case c34 => k_is); (case k34 => k_is); (case a35 => k_is); (case l35 => k_is); (case c35 => k_is); (case k35 => k_is); (case a36 => k_is); (case l36 => k_is); (case c36 => k_is); (case k36 => k_is); (case a37 => k_is); (case l37 => k_is); (case c37 => k_is); (case k37 => k_is); (case a38 => k_is); (case l38 => k_is); (case c38 => k_is); (case k38 => k_is); (case a39 => k_is); (case l39 => k_is); (case c39 => k_is); (case k39 => k_is); (case a40 => k_is); (case l40 => k_is); (case c40 => k_is); (case k40 => k_is); (case a41 => k_is); (case l41 => k_is); (case c41 => k_is); (case k41 => k_is); (case a42 => k_is); (case l42 => k_is); (case c42 => k_is); (case k42 => k_is); (case a43 => k_is); (case l43 => k_is); (case c43 => k_is); (case k43 => k_is); (case a44 => k_is); (case l44 => k_is); (case c44 => k_is); (case k44 => k_is); (case a45 => k_is); (case l45 => k_is); (case c45 => k_is); (case k45 => k_is); (case g_MOST_THINGS => k_is); (case g_MOST_LISTED => k_is); (case g_MOST_POLLED => k_is); (case g_MOST_BY_PAIRS => k_is); (case g_WAYS => k_is); (case l_WAYS => k_is); (case z_ValueError => k_is); (case z_abs => k_is); (case z_all => k_is); (case z_bool => k_is); (case z_enumerate => k_is); (case z_int => k_is); (case z_isinstance => k_is); (case z_len => k_is); (case z_list => k_is); (case z_max => k_is); (case z_min => k_is); (case z_range => k_is); (case z_repr => k_is); (case z_sorted => k_is); (case z_str => k_is); (case z_sum => k_is); (case z_tuple => k_is)
    (case gc_OrderError => first | k_is | rfl | kernel_rfl); (case gc_NoOrder => first | k_is | rfl | kernel_rfl); (case gc_NoWay => first | k_is | rfl | kernel_rfl); (case gc_NoFit => first | k_is | rfl | kernel_rfl); (case gc_NoPlace => first | k_is | rfl | kernel_rfl); (case gc_NoNumber => first | k_is | rfl | kernel_rfl); (case gc_TooMany => first | k_is | rfl | kernel_rfl); (case gc_NoText => first | k_is | rfl | kernel_rfl); (case gc_NoName => first | k_is | rfl | kernel_rfl); (case gc_NoRow => first | k_is | rfl | kernel_rfl); (case xq_NoOrder => first | k_is | rfl | kernel_rfl); (case xk_NoOrder => first | k_is | rfl | kernel_rfl); (case xt_NoOrder => first | k_is | rfl | kernel_rfl); (case xm_NoOrder => first | k_is | rfl | kernel_rfl); (case xv_NoOrder => first | k_is | rfl | kernel_rfl); (case xehg_NoOrder => first | k_is | rfl | kernel_rfl); (case xehk_NoOrder => first | k_is | rfl | kernel_rfl); (case xehs_NoOrder => first | k_is | rfl | kernel_rfl); (case xehd_NoOrder => first | k_is | rfl | kernel_rfl); (case xeha_NoOrder => first | k_is | rfl | kernel_rfl); (case xehn_NoOrder => first | k_is | rfl | kernel_rfl); (case xeht_NoOrder => first | k_is | rfl | kernel_rfl); (case xehm_NoOrder => first | k_is | rfl | kernel_rfl); (case xy_NoOrder_NoOrder => first | k_is | rfl | kernel_rfl); (case xy_NoOrder_NoWay => first | k_is | rfl | kernel_rfl); (case xy_NoOrder_NoFit => first | k_is | rfl | kernel_rfl); (case xy_NoOrder_NoPlace => first | k_is | rfl | kernel_rfl); (case xy_NoOrder_NoNumber => first | k_is | rfl | kernel_rfl); (case xy_NoOrder_TooMany => first | k_is | rfl | kernel_rfl); (case xy_NoOrder_NoText => first | k_is | rfl | kernel_rfl); (case xy_NoOrder_NoName => first | k_is | rfl | kernel_rfl); (case xy_NoOrder_NoRow => first | k_is | rfl | kernel_rfl); (case xq_NoWay => first | k_is | rfl | kernel_rfl); (case xk_NoWay => first | k_is | rfl | kernel_rfl); (case xt_NoWay => first | k_is | rfl | kernel_rfl); (case xm_NoWay => first | k_is | rfl | kernel_rfl); (case xv_NoWay => first | k_is | rfl | kernel_rfl); (case xehg_NoWay => first | k_is | rfl | kernel_rfl); (case xehk_NoWay => first | k_is | rfl | kernel_rfl); (case xehs_NoWay => first | k_is | rfl | kernel_rfl); (case xehd_NoWay => first | k_is | rfl | kernel_rfl); (case xeha_NoWay => first | k_is | rfl | kernel_rfl); (case xehn_NoWay => first | k_is | rfl | kernel_rfl); (case xeht_NoWay => first | k_is | rfl | kernel_rfl); (case xehm_NoWay => first | k_is | rfl | kernel_rfl); (case xy_NoWay_NoOrder => first | k_is | rfl | kernel_rfl); (case xy_NoWay_NoWay => first | k_is | rfl | kernel_rfl); (case xy_NoWay_NoFit => first | k_is | rfl | kernel_rfl); (case xy_NoWay_NoPlace => first | k_is | rfl | kernel_rfl); (case xy_NoWay_NoNumber => first | k_is | rfl | kernel_rfl); (case xy_NoWay_TooMany => first | k_is | rfl | kernel_rfl); (case xy_NoWay_NoText => first | k_is | rfl | kernel_rfl); (case xy_NoWay_NoName => first | k_is | rfl | kernel_rfl); (case xy_NoWay_NoRow => first | k_is | rfl | kernel_rfl); (case xq_NoFit => first | k_is | rfl | kernel_rfl); (case xk_NoFit => first | k_is | rfl | kernel_rfl); (case xt_NoFit => first | k_is | rfl | kernel_rfl); (case xm_NoFit => first | k_is | rfl | kernel_rfl); (case xv_NoFit => first | k_is | rfl | kernel_rfl); (case xehg_NoFit => first | k_is | rfl | kernel_rfl); (case xehk_NoFit => first | k_is | rfl | kernel_rfl); (case xehs_NoFit => first | k_is | rfl | kernel_rfl); (case xehd_NoFit => first | k_is | rfl | kernel_rfl); (case xeha_NoFit => first | k_is | rfl | kernel_rfl); (case xehn_NoFit => first | k_is | rfl | kernel_rfl); (case xeht_NoFit => first | k_is | rfl | kernel_rfl); (case xehm_NoFit => first | k_is | rfl | kernel_rfl); (case xy_NoFit_NoOrder => first | k_is | rfl | kernel_rfl); (case xy_NoFit_NoWay => first | k_is | rfl | kernel_rfl); (case xy_NoFit_NoFit => first | k_is | rfl | kernel_rfl); (case xy_NoFit_NoPlace => first | k_is | rfl | kernel_rfl); (case xy_NoFit_NoNumber => first | k_is | rfl | kernel_rfl); (case xy_NoFit_TooMany => first | k_is | rfl | kernel_rfl); (case xy_NoFit_NoText => first | k_is | rfl | kernel_rfl); (case xy_NoFit_NoName => first | k_is | rfl | kernel_rfl); (case xy_NoFit_NoRow => first | k_is | rfl | kernel_rfl); (case xq_TooMany => first | k_is | rfl | kernel_rfl); (case xk_TooMany => first | k_is | rfl | kernel_rfl); (case xt_TooMany => first | k_is | rfl | kernel_rfl); (case xm_TooMany => first | k_is | rfl | kernel_rfl); (case xv_TooMany => first | k_is | rfl | kernel_rfl); (case xehg_TooMany => first | k_is | rfl | kernel_rfl); (case xehk_TooMany => first | k_is | rfl | kernel_rfl); (case xehs_TooMany => first | k_is | rfl | kernel_rfl); (case xehd_TooMany => first | k_is | rfl | kernel_rfl); (case xeha_TooMany => first | k_is | rfl | kernel_rfl); (case xehn_TooMany => first | k_is | rfl | kernel_rfl); (case xeht_TooMany => first | k_is | rfl | kernel_rfl); (case xehm_TooMany => first | k_is | rfl | kernel_rfl); (case xy_TooMany_NoOrder => first | k_is | rfl | kernel_rfl); (case xy_TooMany_NoWay => first | k_is | rfl | kernel_rfl); (case xy_TooMany_NoFit => first | k_is | rfl | kernel_rfl); (case xy_TooMany_NoPlace => first | k_is | rfl | kernel_rfl); (case xy_TooMany_NoNumber => first | k_is | rfl | kernel_rfl); (case xy_TooMany_TooMany => first | k_is | rfl | kernel_rfl); (case xy_TooMany_NoText => first | k_is | rfl | kernel_rfl); (case xy_TooMany_NoName => first | k_is | rfl | kernel_rfl); (case xy_TooMany_NoRow => first | k_is | rfl | kernel_rfl)

