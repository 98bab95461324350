import PyProof.Rows.All
import Wide.All
import OpenK.AllK
import Wide.FinOn
import HandS.ForMost
import HandS.IsInst
import HandS.Conv
import HandS.Style
import HandS.More
import HandS.Evl
import HandS.Zip
import HandS.SetFor
import HandS.Sort
import HandS.Wide
import HandS.Deep
import KE.SortData
import PyProof.ReprRoads
import HandS.Exc
import HandS.ExcOwn
import HandS.ExcIs
import HandS.ExcValue
import HandS.Small
import HandS.FStr
import HandS.WordsExc
import KE.KDictZip
import HandS.RaiseMore
import HandS.FStr
import HandS.Text
import PySem.Challenge.RW_farorders_k18_no_ways_and_no_numbers
set_option Elab.async false
set_option linter.all false
set_option maxRecDepth 100000
namespace Fo
open PySem PySem.Spec PyProof.Rows L2
/-! ### lists and orders -/
def rg (n : Nat) : List Int := (List.range n).map fun k => ((k : Nat) : Int)
def IsOrd (n : Nat) (ns : List Int) : Prop := ns.Perm (rg n)
theorem rg_len (n : Nat) : (rg n).length = n := by
  unfold rg
  rw [List.length_map, List.length_range]
theorem rg_mem {n : Nat} {x : Int} : x ∈ rg n ↔ 0 ≤ x ∧ x < n := by
  unfold rg
  rw [List.mem_map]
  constructor
  · rintro ⟨k, hk, rfl⟩
    have := List.mem_range.mp hk
    omega
  · rintro ⟨h0, h1⟩
    exact ⟨x.toNat, List.mem_range.mpr (by omega), by omega⟩
theorem rg_nodup (n : Nat) : (rg n).Nodup := by
  unfold rg
  exact List.Pairwise.map _ (fun a b h e => h (by omega)) List.nodup_range
theorem rg_sorted (n : Nat) : (rg n).Pairwise (· ≤ ·) := by
  unfold rg
  exact List.Pairwise.map _ (fun a b h => by omega) List.pairwise_lt_range
theorem rg_V (n : Nat) : rgV 0 (n : Int) = (rg n).map V.int := by
  unfold rgV rg
  rw [List.map_map, show ((n : Int) - 0).toNat = n by omega]
  apply List.map_congr_left
  intro a _
  show V.int (0 + (a : Int)) = V.int (a : Int)
  rw [Int.zero_add]
theorem IsOrd.len {n : Nat} {ns : List Int} (h : IsOrd n ns) : ns.length = n := (List.Perm.length_eq h).trans (rg_len n)
theorem IsOrd.mem {n : Nat} {ns : List Int} (h : IsOrd n ns) {x : Int} (m : x ∈ ns) : 0 ≤ x ∧ x < n := rg_mem.mp ((List.Perm.mem_iff h).mp m)
theorem IsOrd.nodup {n : Nat} {ns : List Int} (h : IsOrd n ns) : ns.Nodup := (List.Perm.nodup_iff h).mpr (rg_nodup n)
/-- two sorted lists of the same things are one -/
theorem sorted_eq : ∀ {a b : List Int}, a.Perm b → a.Pairwise (· ≤ ·) → b.Pairwise (· ≤ ·) → a = b := by
  intro a b hp ha hb
  exact List.Perm.eq_of_pairwise (fun x y _ _ h1 h2 => by omega) ha hb hp
/-- the things at p and p + 1 change places -/
def sw (xs : List Int) (p : Nat) : List Int := (xs.set p (xs.getD (p + 1) 0)).set (p + 1) (xs.getD p 0)
theorem split2 : ∀ {xs : List Int} {p : Nat}, p + 1 < xs.length → ∃ A a b B, xs = A ++ a :: b :: B ∧ A.length = p
  | [], p, h => by simp at h
  | [_], p, h => by simp at h
  | a :: b :: r, 0, _ => ⟨[], a, b, r, rfl, rfl⟩
  | a :: b :: r, p + 1, h => by
    obtain ⟨A, x, y, B, e, l⟩ := split2 (xs := b :: r) (p := p) (by simpa using h)
    exact ⟨a :: A, x, y, B, by rw [e]; rfl, by rw [List.length_cons, l]⟩
theorem sw_at : ∀ (A : List Int) (a b : Int) (B : List Int), sw (A ++ a :: b :: B) A.length = A ++ b :: a :: B
  | [], a, b, B => rfl
  | x :: A, a, b, B => by
    have ih := sw_at A a b B
    unfold sw at ih ⊢
    show x :: _ = x :: _
    exact congrArg (x :: ·) ih
theorem sw_perm {xs : List Int} {p : Nat} (h : p + 1 < xs.length) : (sw xs p).Perm xs := by
  obtain ⟨A, a, b, B, rfl, rfl⟩ := split2 h
  rw [sw_at]
  exact List.Perm.append_left A (List.Perm.swap a b B)
theorem sw_len (xs : List Int) (p : Nat) : (sw xs p).length = xs.length := by
  unfold sw
  rw [List.length_set, List.length_set]
theorem sw_ord {n : Nat} {xs : List Int} {p : Nat} (o : IsOrd n xs) (h : p + 1 < n) : IsOrd n (sw xs p) :=
  (sw_perm (by rw [o.len]; exact h)).trans o
theorem sw_V {xs : List Int} {p : Nat} {a b : Int} (ha : xs[p]? = some a) (hb : xs[p + 1]? = some b) : ((xs.map V.int).set p (V.int b)).set (p + 1) (V.int a) = (sw xs p).map V.int := by
  unfold sw
  rw [List.getD_eq_getElem?_getD, List.getD_eq_getElem?_getD, ha, hb, List.map_set, List.map_set]
  rfl
theorem pop_ins {xs : List Int} {p : Nat} {a : Int} (h : p + 1 < xs.length) (ha : xs[p]? = some a) : (xs.eraseIdx p).take (p + 1) ++ [a] ++ (xs.eraseIdx p).drop (p + 1) = sw xs p := by
  obtain ⟨A, x, y, B, rfl, rfl⟩ := split2 h
  have ex : x = a := by
    rw [List.getElem?_append_right (Nat.le_refl _), Nat.sub_self] at ha
    exact Option.some.inj ha
  subst ex
  rw [sw_at, List.eraseIdx_append_of_length_le (Nat.le_refl _), Nat.sub_self]
  show (A ++ y :: B).take (A.length + 1) ++ [x] ++ (A ++ y :: B).drop (A.length + 1) = _
  rw [List.take_append, List.drop_append]
  have t : A.length + 1 - A.length = 1 := by omega
  rw [t, List.take_of_length_le (by omega), List.drop_of_length_le (by omega)]
  simp
/-- the order at a walk's end -/
def wEnd (xs : List Int) (ws : List Int) : List Int := ws.foldl (fun x p => sw x p.toNat) xs
theorem wEnd_more {xs ws : List Int} {i : Nat} {p : Int} (h : ws[i]? = some p) : wEnd xs (ws.take (i + 1)) = sw (wEnd xs (ws.take i)) p.toNat := by
  unfold wEnd
  rw [List.take_add_one, h, List.foldl_append]
  rfl
theorem wEnd_ord {n : Nat} {xs : List Int} (o : IsOrd n xs) : ∀ {ws : List Int}, (∀ p ∈ ws, 0 ≤ p ∧ p + 1 < n) → IsOrd n (wEnd xs ws) := by
  intro ws
  induction ws generalizing xs with
  | nil => intro _; exact o
  | cons p ws ih =>
    intro h
    have hp := h p List.mem_cons_self
    exact ih (sw_ord o (by omega)) fun q hq => h q (List.mem_cons_of_mem _ hq)
theorem nodup_len : ∀ {l m : List Int}, l.Nodup → (∀ x ∈ l, x ∈ m) → l.length ≤ m.length
  | [], m, _, _ => Nat.zero_le _
  | a :: l, m, hn, hs => by
    obtain ⟨h1, h2⟩ := List.nodup_cons.mp hn
    have ha := hs a List.mem_cons_self
    have ih := nodup_len (l := l) (m := m.erase a) h2 fun x hx => by
      have ne : x ≠ a := fun e => h1 (by rw [← e]; exact hx)
      exact (List.mem_erase_of_ne ne).mpr (hs x (List.mem_cons_of_mem _ hx))
    rw [List.length_erase_of_mem ha] at ih
    have : 0 < m.length := List.length_pos_of_mem ha
    rw [List.length_cons]
    omega
theorem int_at {ns : List Int} {i : Nat} {x : Int} (h : ns[i]? = some x) : (ns.map V.int)[i]? = some (V.int x) := by
  rw [List.getElem?_map, h]
  rfl
theorem int_at_inv {ns : List Int} {i : Nat} {v : V} (h : (ns.map V.int)[i]? = some v) : ∃ x, ns[i]? = some x ∧ v = V.int x := by
  rw [List.getElem?_map] at h
  cases e : ns[i]? with
  | none => rw [e] at h; cases h
  | some x => rw [e] at h; exact ⟨x, rfl, (Option.some.inj h).symm⟩
theorem line_small {n : Nat} (h : n ≤ 16777216) : n ≤ sizeLine := by rw [sizeLine_eq]; exact h
theorem line_lt {n : Nat} (h : n < 16777216) : n < sizeLine := by rw [sizeLine_eq]; exact h
/-! ### data of ints -/
theorem dp_ints {K : PySem.W.Frag} {H : Hp} : ∀ ns : List Int, DpAll K H (ns.map V.int) (ns.map PyData.int)
  | [] => .nil
  | n :: r => .cons (.int n) (dp_ints r)
theorem dp_list {K : PySem.W.Frag} {H : Hp} {a : Addr} {ns : List Int} (h : H a = some (.lst (ns.map V.int))) : Dp K H (.ref a) (.list (ns.map PyData.int)) := .lst (SqL.of h) (dp_ints ns)
theorem eqv_int (i j : Int) : PyData.eqv (.int i) (.int j) = (i == j) := rfl
end Fo
namespace Fo
open PySem PySem.Spec PyProof.Rows L2
abbrev dI (ns : List Int) : List PyData := ns.map PyData.int
abbrev dL (ns : List Int) : PyData := .list (dI ns)
abbrev dLL (l : List (List Int)) : PyData := .list (l.map dL)
theorem lay_ints : ∀ ns : List Int, PyData.canLayAll0 (dI ns) = true
  | [] => rfl
  | n :: r => by
    show (PyData.canLay0 (.int n) && PyData.canLayAll0 (dI r)) = true
    rw [lay_ints r]
    rfl
theorem depth_ints : ∀ ns : List Int, PyData.depthAll (dI ns) = 0
  | [] => by simp [PyData.depthAll]
  | n :: r => by
    show PyData.depthAll (.int n :: dI r) = 0
    rw [PyData.depthAll, depth_ints r]
    simp [PyData.depth]
theorem lay_list (ns : List Int) : PyData.canLay0 (dL ns) = true := by
  rw [PyData.canLay0]
  exact lay_ints ns
theorem depth_list (ns : List Int) : PyData.depth (dL ns) = 1 := by
  rw [PyData.depth, depth_ints]
theorem shaped_list (ns : List Int) : SeqAt.shaped (dL ns) = true := by
  unfold SeqAt.shaped
  rw [lay_list, depth_list]
  rfl
theorem lay_lists : ∀ l : List (List Int), PyData.canLayAll0 (l.map dL) = true
  | [] => rfl
  | n :: r => by
    show (PyData.canLay0 (dL n) && PyData.canLayAll0 (r.map dL)) = true
    rw [lay_lists r, lay_list]
    rfl
theorem depth_lists : ∀ l : List (List Int), PyData.depthAll (l.map dL) ≤ 1
  | [] => by simp [PyData.depthAll]
  | n :: r => by
    show PyData.depthAll (dL n :: r.map dL) ≤ 1
    rw [PyData.depthAll, depth_list]
    have := depth_lists r
    omega
theorem shaped_lists (l : List (List Int)) : SeqAt.shaped (dLL l) = true := by
  unfold SeqAt.shaped
  rw [Bool.and_eq_true_iff]
  constructor
  · rw [PyData.canLay0]
    exact lay_lists l
  · apply decide_eq_true
    rw [PyData.depth]
    have := depth_lists l
    omega
theorem eqv_list (ns : List Int) : PyData.eqv (dL ns) (dL ns) = true := SeqAt.eqv_refl _ (lay_list ns)
theorem eqv_lists (l : List (List Int)) : PyData.eqv (dLL l) (dLL l) = true := SeqAt.eqv_refl _ (SeqAt.canLay_of_shaped (shaped_lists l))
theorem eqvAll_ints : ∀ a b : List Int, PyData.eqvAll (dI a) (dI b) = decide (a = b)
  | [], [] => by simp [PyData.eqvAll]
  | [], _ :: _ => by simp [PyData.eqvAll]
  | _ :: _, [] => by simp [PyData.eqvAll]
  | x :: a, y :: b => by
    show PyData.eqvAll (.int x :: dI a) (.int y :: dI b) = _
    rw [PyData.eqvAll, eqvAll_ints a b]
    show ((x == y) && decide (a = b)) = decide (x :: a = y :: b)
    by_cases h : x = y
    · subst h
      simp
    · simp [h]
theorem eqv_ints (a b : List Int) : PyData.eqv (dL a) (dL b) = decide (a = b) := by
  rw [PyData.eqv]
  exact eqvAll_ints a b
end Fo
namespace Fo
open PySem PySem.Spec PyProof.Rows L2
/-! ### slices of ints -/
def cutI (ws : List Int) (lo hi : Option Int) : List Int := (ws.drop (HT.sIx ws.length 0 lo)).take (HT.sIx ws.length ws.length hi - HT.sIx ws.length 0 lo)
theorem cut_ints (ws : List Int) (lo hi : Option Int) : cutV (ws.map V.int) lo hi = (cutI ws lo hi).map V.int := by
  unfold cutV cutI
  rw [List.length_map, List.map_take, List.map_drop]
theorem cutI_mem {ws : List Int} {lo hi : Option Int} {x : Int} (h : x ∈ cutI ws lo hi) : x ∈ ws := List.mem_of_mem_drop (List.mem_of_mem_take h)
theorem cutI_len (ws : List Int) (lo hi : Option Int) : (cutI ws lo hi).length ≤ ws.length := by
  unfold cutI
  rw [List.length_take, List.length_drop]
  omega
theorem cutI_head (ws : List Int) (k : Nat) : cutI ws none (some (k : Int)) = ws.take k := by
  unfold cutI
  rw [HT.sIx_none, HT.sIx_nat, List.drop_zero, Nat.sub_zero]
  by_cases h : k ≤ ws.length
  · rw [Nat.min_eq_left h]
  · rw [Nat.min_eq_right (by omega), List.take_length, List.take_of_length_le (by omega)]
theorem cutI_tail (ws : List Int) (k : Nat) : cutI ws (some (k : Int)) none = ws.drop k := by
  unfold cutI
  rw [HT.sIx_none, HT.sIx_nat]
  by_cases h : k ≤ ws.length
  · rw [Nat.min_eq_left h, List.take_of_length_le (by rw [List.length_drop]; exact Nat.le_refl _)]
  · rw [Nat.min_eq_right (by omega), List.drop_of_length_le (Nat.le_refl _), List.drop_of_length_le (by omega), List.take_nil]
end Fo
namespace Fo
open PySem PySem.Spec PyProof.Rows L2
/-! ### the text -/
def topS (i : Nat) : Stmt := PySem.Challenge.pw_farorders_k18_no_ways_and_no_numbers.main.body.getD i (.Pass ⟨0, 0, 0, 0⟩)
abbrev s_OrderError : Stmt := topS 1
abbrev s_NoOrder : Stmt := topS 2
abbrev s_NoWay : Stmt := topS 3
abbrev s_NoFit : Stmt := topS 4
abbrev s_NoPlace : Stmt := topS 5
abbrev s_NoNumber : Stmt := topS 6
abbrev s_TooMany : Stmt := topS 7
abbrev s_NoText : Stmt := topS 8
abbrev s_NoName : Stmt := topS 9
abbrev s_NoRow : Stmt := topS 10
abbrev s_is_whole : Stmt := topS 13
abbrev s_check_way : Stmt := topS 14
abbrev s_check_from : Stmt := topS 15
abbrev s_check_size : Stmt := topS 16
abbrev s_is_order : Stmt := topS 20
abbrev s_check_order : Stmt := topS 21
abbrev s_check_listed : Stmt := topS 22
abbrev s_places_in : Stmt := topS 23
abbrev s_seats_in : Stmt := topS 24
abbrev s_known_far : Stmt := topS 25
abbrev s_far_by_swap : Stmt := topS 26
abbrev s_far_by_spot : Stmt := topS 27
abbrev s_far_by_shift : Stmt := topS 28
abbrev s_all_orders : Stmt := topS 29
abbrev s_orders_with : Stmt := topS 30
abbrev s_count_within : Stmt := topS 32
abbrev s_count_at : Stmt := topS 33
abbrev s_check_count : Stmt := topS 34
abbrev s_known_within : Stmt := topS 35
abbrev s_swap_counts : Stmt := topS 36
abbrev s_swap_counts_with_one_more : Stmt := topS 37
abbrev s_spot_counts : Stmt := topS 38
abbrev s_count_all_moved : Stmt := topS 39
abbrev s_shift_within : Stmt := topS 40
abbrev s_things_near : Stmt := topS 41
abbrev s_one_place_further : Stmt := topS 42
abbrev s_all_within : Stmt := topS 43
abbrev s_law_draws : Stmt := topS 45
abbrev s_law_take : Stmt := topS 46
abbrev s_law_order : Stmt := topS 47
abbrev s_law_kinds : Stmt := topS 48
abbrev s_law_no_order : Stmt := topS 49
abbrev s_law_no_way : Stmt := topS 50
abbrev s_law_caught : Stmt := topS 51
abbrev s_law_refused : Stmt := topS 52
abbrev s_law_counts_refused : Stmt := topS 53
abbrev s_law_lists_refused : Stmt := topS 54
abbrev s_law : Stmt := topS 55
/-- a def of the text, where it stands -/
structure Df (K : PySem.W.Frag) (mg : Str → Option Value) (x : Str) (st : Stmt) (ps : List Str) (f : Addr) (fd : FuncData) : Prop where
  F : Fun K x x st f fd
  b : Binds K fd ps []
  g : mg x = some (.ref f)
/-- the built-in names as they were -/
structure Bi (mg : Str → Option Value) : Prop where
  ValueError : mg "ValueError" = none
  abs : mg "abs" = none
  all : mg "all" = none
  bool : mg "bool" = none
  enumerate : mg "enumerate" = none
  int : mg "int" = none
  isinstance : mg "isinstance" = none
  len : mg "len" = none
  list : mg "list" = none
  max : mg "max" = none
  min : mg "min" = none
  range : mg "range" = none
  repr : mg "repr" = none
  sorted : mg "sorted" = none
  str : mg "str" = none
  sum : mg "sum" = none
  tuple : mg "tuple" = none
end Fo
namespace Fo
open PySem PySem.Spec PyProof.Rows L2
theorem same_new {H : Hp} {p : Addr} {o : HO} (h : H p = none) : Same H (upd H p o) := fun b x e => by
  rw [upd_ne (ne_of_none e h)]
  exact e
theorem at2_0 {x y : V} : atI [x, y] 0 = some x := rfl
theorem at2_1 {x y : V} : atI [x, y] 1 = some y := rfl
end Fo
namespace Fo
open PySem PySem.Spec PyProof.Rows L2
theorem pop_perm : ∀ {xs : List Int} {k : Nat} {y : Int}, xs[k]? = some y → (y :: xs.eraseIdx k).Perm xs
  | [], k, y, h => by simp at h
  | a :: r, 0, y, h => by
    have e : a = y := Option.some.inj h
    subst e
    exact List.Perm.refl _
  | a :: r, k + 1, y, h => by
    have ih := pop_perm (xs := r) (k := k) (y := y) h
    show (y :: a :: r.eraseIdx k).Perm (a :: r)
    exact (List.Perm.swap a y _).trans (List.Perm.cons a ih)
theorem map_erase : ∀ (xs : List Int) (k : Nat), (xs.map V.int).eraseIdx k = (xs.eraseIdx k).map V.int
  | [], k => rfl
  | a :: r, 0 => rfl
  | a :: r, k + 1 => congrArg (V.int a :: ·) (map_erase r k)
/-- what len asks of a list or a tuple -/
abbrev rLenS (K : PySem.W.Frag) : List V → Hp → VK → Prop := fun xs H Q => ∃ p ys, xs = [.ref p] ∧ (SqL K H p ys ∨ SqT K H p ys) ∧ Q (.int ys.length) H
theorem seq_ix {i : Int} {k n : Nat} (e : i = (k : Int)) (h : k < n) : seqIndex? i n = some k := by
  subst e
  unfold seqIndex?
  have h1 : ¬ ((k : Int) < 0) := by omega
  simp only [h1, if_false]
  have h2 : (decide ((0 : Int) ≤ (k : Int)) && decide ((k : Int) < (n : Int))) = true := by
    simp
    omega
  rw [if_pos h2, Int.toNat_natCast]
theorem ix_n {i : Int} {k n : Nat} (e : i = (k : Int)) (h : k < n) : ixN n i = some k := by
  subst e
  unfold ixN
  rw [if_pos (by omega), if_pos (by omega), Int.toNat_natCast]
end Fo
namespace Fo
open PySem PySem.Spec PyProof.Rows L2
abbrev rMax2 : List V → Hp → VK → Prop := fun xs H Q => ∃ i j, xs = [.int i, .int j] ∧ Q (.int (if j > i then j else i)) H
abbrev rMin2 : List V → Hp → VK → Prop := fun xs H Q => ∃ i j, xs = [.int i, .int j] ∧ Q (.int (if j < i then j else i)) H
abbrev rInt1 : List V → Hp → VK → Prop := fun xs H Q => (∃ i, xs = [.int i] ∧ Q (.int i) H) ∨ ∃ k, xs = [.bl k] ∧ Q (.int (if k then 1 else 0)) H
theorem filter_more {l : List Int} {m : Nat} {x : Int} (p : Int → Bool) (h : l[m]? = some x) : (l.take (m + 1)).filter p = (l.take m).filter p ++ (if p x then [x] else []) := by
  rw [List.take_add_one, h, List.filter_append]
  show _ ++ List.filter p [x] = _
  rw [List.filter_cons]
  rfl
end Fo
namespace Fo
open PySem PySem.Spec PyProof.Rows L2
/-- what is tracked lies elsewhere than the table of modules -/
def SysAt (base : Heap) : Prop := ∃ o, base.get? sysModules = some o
/-! defs that ask repr: they want to know that no other repr is under way (A.guards) -/
structure FnG (P : Program) (w : World) (K : PySem.W.Frag) (mg : Str → Option Value) (base : Heap) (k : Nat) (f : Addr) (fd : FuncData) (ps : List Str) (sp : Sp) : Prop where
  len : ∀ vs H Q E, sp vs H Q E → vs.length = ps.length
  go : ∀ (A : Around) (outer : List Env) (s : Shared) (H : Hp) (args : Args) (us : List Value) (vs : List V) (Q : VK) (E : XK), A.guards = some [] → Room k A → Env0 P w K mg base A outer s H → BindsTo s fd args (ps.zip us) → Vals vs us → sp vs H Q E → codeAny (model P w) A (.call (.ref f) args) (CR CX0 outer P w H s Q E) s
section
variable {P : Program} {w : World} {K : PySem.W.Frag} {mg : Str → Option Value} {base : Heap}
/-- as Fun.ok -/
theorem okG {y qual : Str} {st : Stmt} {f : Addr} {fd : FuncData} {N ps : List Str} {k : Nat} {sp : Sp} (F : Fun K y qual st f fd) (S : FnScope N ps (defScope st)) (len : ∀ vs H Q E, sp vs H Q E → vs.length = ps.length)
    (body : ∀ (cdv : Value) (A : Around) (outer : List Env) (s : Shared) (H : Hp) (vs : List V) (Q : VK) (E : XK), A.guards = some [] → Room k (A.deeper (envOfC qual (defScope st) s.heap.objs.size f cdv)) → sp vs H Q E →
      ∃ t, PSs (cxOf CX0 P w K mg base N qual (defScope st) f cdv A outer s H E).nox (defBody st) t ∧ t { nx := fun _ H' => Q .non H', rt := Q } (start N vs) H) : FnG P w K mg base (k + 1) f fd ps sp := by
  obtain ⟨oc, od, kV, dc, pm, an, cdv, ct, osl, rfl, lk, hcd⟩ := F.ex
  refine ⟨len, fun A outer s H args us vs Q E gA rm ev bn rv h => ?_⟩
  have kin : K.In s.heap := ev.mod.kin.keeps fun b o e => (ev.bs b o e).1
  have nol : s.heap.NoLimit := ev.mod.nolimit.keeps fun b o e => (ev.bs b o e).1
  refine codeAny_call_function rm.depth (kin _ _ lk) rfl S.co S.gen rfl (PySem.W.codeRec_of kin hcd) (bn _ _ _ _ ?_)
  refine wpAny_newFunctionEnv_cells S.kind (fun yv hy => ?_) fun env he s1 inc => ?_
  · rcases S.par yv.1 (List.of_mem_zip hy).1 with z | z
    · exact .inl z
    · exact .inr ⟨z, PySem.W.cellsFrom_some _ _ _ (.inl z)⟩
  · subst he
    refine ⟨nol.keeps inc.toInCall.keep, codeAny_func ?_⟩
    obtain ⟨t, pt, qt⟩ := body cdv A outer s H vs Q E gA (rm.deeper _) h
    have J : Inv (cxOf CX0 P w K mg base N qual (defScope st) f cdv A outer s H E) [] (start N vs) H s1 := inv_start S rm.hd ev (len _ _ _ _ h) rv inc
    refine wpAny_mono (pt.nox.run [] s1 (start N vs) H _ J qt) (fun fl s' z => ?_) fun _ _ z => z
    cases fl with
    | brk => exact z.choose_spec.choose_spec.2.elim
    | cont => exact z.choose_spec.choose_spec.2.elim
    | next =>
      obtain ⟨σ', H', J', q⟩ := z
      exact ⟨V.non, H', J'.os, J'.bare, J'.base, J'.hok, rfl, q⟩
    | ret u =>
      obtain ⟨v, σ', H', J', r', q⟩ := z
      exact ⟨v, H', J'.os, J'.bare, J'.base, J'.hok, r', q⟩
end
section
variable {X : Cx}
/-- the call of such a def -/
theorem pe_callG {k : Nat} {f : Addr} {fd : FuncData} {ps : List Str} {sp : Sp} {y : Str} {p pos : Pos} {e : Expr} {es : List Expr} {t : TA} (F : FnG X.prog X.w X.K X.mg X.base k f fd ps sp) (gA : X.A.guards = some []) (hr : Room k X.A) (hg : Gl X y) (hm : X.mg y = some (.ref f)) (hk : PySem.W.keepIn X.K (.ref f) = true) (hb : Binds X.K fd ps [])
    (ha : PA X (e :: es) t) (hdb : (y == ("__debug__" : Str)) = false := by decide) (he : starEach (e :: es) X.env = (false, eval e X.env) :: starEach es X.env := by rfl) (hpl : (backTo pos (starEach es X.env)).any (·.1) = false := by rfl) :
    PE X (.Call (.Name y p) (e :: es) [] pos) (tCall sp [] E0 t) := by
  refine ⟨fun pins s σ H Q I h => wpAny_Call_Name_kw (ld_glob I hg hm (PySem.W.callWith_K (h₀ := X.base) I.ok.mod.kin hk (thn (ha.run pos pins s σ H _ I h) fun us s1 ⟨vs, H1, I1, r, q⟩ => ⟨I1.kIn, ?_⟩) he hpl) hdb)⟩
  have r2 : Vals (vs ++ []) (us ++ []) := r.append .nil
  have hl : (us ++ []).length = ps.length := by rw [← r2.length]; exact F.len _ _ _ _ q
  refine wpAny_call (codeAny_mono (F.go X.A X.stack s1 H1 ⟨us, []⟩ (us ++ []) (vs ++ []) Q E0 gA hr I1.env0 (hb s1 us I1.kIn hl) r2 q) fun rs s' hq => ?_)
  match rs, hq with
  | .error _, hq => exact hq.elim
  | .ok (.ret u), hq => exact I1.after hq
  | .ok .next, hq => exact False.elim hq
  | .ok .brk, hq => exact False.elim hq
  | .ok .cont, hq => exact False.elim hq
end
/-! the end of such a law -/
section
variable {P : Program} {w : World} {K : PySem.W.Frag} {mg mb : Str → Option Value} {k : Nat} {fa a : Addr} {fd : FuncData} {y : Str} {sp : Sp} {s : Shared} {us : List Value} {ns : List Int}
theorem lawG_at (kin : K.In s.heap) (ng : s.heap.Ns mainGlobals mg) (nb : s.heap.Ns builtinsNs mb) (eb : ∀ x : Str, x ≠ "__name__" → mb x = bootBuiltins x) (lim : s.heap.NoLimit) (eg : s.gens = #[]) (oa : s.heap.get? a = some { cls := .type "list", data := .seq us.toArray }) (rm : Room k callerA)
    (sy : ∃ m, s.heap.Ns sysModules m) (F : ∀ base : Heap, K.In base → base.Ns mainGlobals mg → SysAt base → FnG P w K mg base k fa fd [y] sp) (bn : ∀ (s : Shared) (u : Value), BindsTo s fd ⟨[u], []⟩ [(y, u)]) {H : Hp} (only : Only H) (hok : HOk P w H s.heap) (h1 : ∀ b, H b ≠ none → b = a) (h2 : H a ≠ none → K.lookup a = none) (h : sp [.ref a] H (fun v _ => v = .bl true) fun _ _ _ => False) :
    codeAny (model P w) callerA (.call (.ref fa) ⟨[.ref a], []⟩) (fun r s' => r = .ok (.ret (.bool true)) ∧ OldK s.heap s'.heap ∧ s'.os = s.os ∧ AllBare s'.gens) s := by
  have trk : ∀ {b : Addr} {u : HO}, H b = some u → b = a := fun {b u} e => h1 b (by rw [e]; exact fun z => nomatch z)
  have noD : ∀ {b : Addr} {o : Obj} {es : Array DictEntry} {ep : Nat}, s.heap.get? b = some o → o.data = .dict es ep → H b = none := fun {b o es ep} e dd => by
    cases q : H b with
    | none => rfl
    | some u =>
      have eq := trk q
      rw [eq, oa] at e
      cases e
      cases (show Data.seq us.toArray _ = Data.dict es ep from dd)
  have nsB : ∀ {b : Addr} {m : Str → Option Value}, s.heap.Ns b m → (hidT s.heap H).Ns b m := fun {b m} ⟨o, es, ep, e, dd, r⟩ => ⟨o, es, ep, hidT_get e (noD e dd), dd, r⟩
  have kinB : K.In (hidT s.heap H) := fun b o e => hidT_get (kin b o e) (by
    cases q : H b with
    | none => rfl
    | some u =>
      have eq := trk q
      rw [eq] at e q
      rw [h2 (by rw [q]; exact fun z => nomatch z)] at e
      cases e)
  have md : Mod K mg (hidT s.heap H) := ⟨kinB, nsB ng, ⟨mb, nsB nb, eb⟩, let ⟨mc, l1, l2⟩ := lim; ⟨mc, nsB l1, l2⟩⟩
  have noF : ∀ b : Addr, b ∉ ([] : List Addr) := fun b z => nomatch z
  have ev : Env0 P w K mg (hidT s.heap H) callerA [] s H := ⟨rfl, md, fun b o e => of_hidT e, Nat.le_of_eq (hidT_size _ _), trivial, fun b z => absurd (show b ∈ ([] : List Addr) from z) (noF b), hok, .of_eq eg⟩
  have sB : SysAt (hidT s.heap H) := by
    obtain ⟨m, z⟩ := sy
    obtain ⟨o, _, _, e, _⟩ := nsB z
    exact ⟨o, e⟩
  refine codeAny_mono ((F _ kinB (nsB ng) sB).go callerA [] s H ⟨[.ref a], []⟩ [.ref a] [.ref a] _ _ rfl rm ev (bn s (.ref a)) (.cons rfl .nil) h) fun rs s' z => ?_
  match rs, z with
  | .error _, z => exact z.elim
  | .ok .next, z => exact False.elim z
  | .ok .brk, z => exact False.elim z
  | .ok .cont, z => exact False.elim z
  | .ok (.ret u), z =>
    obtain ⟨v, H', os, ba, un, hok', rv, q⟩ := z
    obtain rfl : v = .bl true := q
    obtain rfl : u = Value.bool true := rv
    refine ⟨rfl, OldK.of_keep fun b o e => ?_, os, ba⟩
    rcases only b with z | ⟨ob, xs, z⟩
    · exact un.keep b o e z (fun y => absurd (show b ∈ ([] : List Addr) from y) (noF b)) (noF b)
    · obtain ⟨g1, _⟩ := hok b _ z
      obtain ⟨g2, _⟩ := hok' b _ (un.frzs b ob _ z)
      rw [e] at g1
      cases g1
      exact g2
theorem lawG (kin : K.In s.heap) (ng : s.heap.Ns mainGlobals mg) (nb : s.heap.Ns builtinsNs mb) (eb : ∀ x : Str, x ≠ "__name__" → mb x = bootBuiltins x) (lim : s.heap.NoLimit) (eg : s.gens = #[]) (oa : s.heap.get? a = some { cls := .type "list", data := .seq us.toArray }) (hi : IntsAre us ns) (hl : ns.length ≤ sizeLine) (rm : Room k callerA)
    (sy : ∃ m, s.heap.Ns sysModules m) (F : ∀ base : Heap, K.In base → base.Ns mainGlobals mg → SysAt base → FnG P w K mg base k fa fd [y] sp) (bn : ∀ (s : Shared) (u : Value), BindsTo s fd ⟨[u], []⟩ [(y, u)]) (hsp : ∀ H : Hp, Only H → SqL K H a (ns.map V.int) → sp [.ref a] H (fun v _ => v = .bl true) fun _ _ _ => False) :
    codeAny (model P w) callerA (.call (.ref fa) ⟨[.ref a], []⟩) (fun r s' => r = .ok (.ret (.bool true)) ∧ OldK s.heap s'.heap ∧ s'.os = s.os ∧ AllBare s'.gens) s := by
  have rv := vals_ints hi
  have el := hi.length
  cases hk : K.lookup a with
  | some o =>
    have e := kin a o hk
    rw [oa] at e
    cases e
    have o0 : Only (fun _ => none) := fun _ => .inl rfl
    exact lawG_at kin ng nb eb lim eg oa rm sy F bn o0 (fun b u z => absurd (show (none : Option HO) = some u from z) (fun y => nomatch y)) (fun b z => absurd rfl z) (fun z => absurd rfl z) (hsp _ o0 (.inr ⟨_, us.toArray, _, hk, rfl, rfl, rfl, by rw [List.size_toArray, el]; exact hl, by simpa using rv⟩))
  | none =>
    obtain ⟨ob, eo⟩ : ∃ ob : Obj, ob = { cls := .type "list", data := .seq us.toArray } := ⟨_, rfl⟩
    obtain ⟨H, eH⟩ : ∃ H : Hp, H = fun b => if b = a then some (.frz ob (.lst (ns.map V.int))) else none := ⟨_, rfl⟩
    have ha : H a = some (.frz ob (.lst (ns.map V.int))) := by rw [eH]; exact if_pos rfl
    have hb : ∀ b, b ≠ a → H b = none := fun b z => by rw [eH]; exact if_neg z
    have on : Only H := fun b => by
      by_cases z : b = a
      · rw [z]
        exact .inr ⟨_, _, ha⟩
      · exact .inl (hb b z)
    refine lawG_at kin ng nb eb lim eg oa rm sy F bn on (fun b u z => ?_) (fun b z => ?_) (fun _ => hk) (hsp H on (.inl (.inr ⟨ob, ha⟩)))
    · by_cases y : b = a
      · subst y
        rw [ha] at z
        cases z
        rw [eo]
        exact ⟨oa, by rw [List.length_map]; exact hl, us, _, rv, oa⟩
      · rw [hb b y] at z
        cases z
    · by_cases y : b = a
      · exact y
      · exact absurd (hb b y) z
end
theorem walkG {l : PySem.W.OpenLaw} {n k : Nat} {q : Program} {loose : List Str} {XP : (Str → Option Value) → Heap → Prop} {YP : World → Heap → Prop} {d : DefRec} {K : Params → PySem.W.Frag} {sp : World → Sp} {y : Str} (hn : l.most = some n) (hn2 : n ≤ sizeLine) (hdf : d.params.defaults = []) (rm : Room k callerA) (hY : ∀ (w : World) (h : Heap), YP w h → (K w.params).In h) (him : importsNone q = true)
    (F : ∀ (w : World) (mg : Str → Option Value) (fa : Addr) (h : Heap), (K w.params).In h → h.Ns mainGlobals mg → mg d.name = some (.ref fa) → ∃ fd : FuncData, (∀ (s : Shared) (u : Value), BindsTo s fd ⟨[u], []⟩ [(y, u)]) ∧ ∀ base : Heap, (K w.params).In base → base.Ns mainGlobals mg → SysAt base → FnG l.prog w (K w.params) mg base k fa fd [y] (sp w))
    (hsp : ∀ (w : World) (H : Hp) (a : Addr) (ns : List Int), ns.length ≤ n → Only H → SqL (K w.params) H a (ns.map V.int) → sp w [.ref a] H (fun v _ => v = .bl true) fun _ _ _ => False) : PySem.W.WalkO q loose XP YP l.row.toRowW d [] (fun f vs => PySem.call f vs) := by
  refine Att.attach_call hn hdf fun w sA sB mg mb fa o1 pm cd dc ad us ns G Y ho hd hcd hmg hob hin hle hge => ?_
  have KX := hY w _ Y
  obtain ⟨fd, hb, hF⟩ := F w mg fa _ KX G.T.g hmg
  obtain ⟨mm, sy, _⟩ := (G.T.seer him).mods
  exact lawG KX G.T.g G.T.b G.T.builtins G.T.nolimit hge hob hin (Nat.le_trans hle hn2) rm ⟨mm, sy⟩ hF hb fun H hH hS => hsp w H ad ns hle hH hS
end Fo
namespace Fo
open PySem PySem.Spec PyProof.Rows L2
/-! an error that was caught is known behind the try, too -/
def ExV (cls : Value) (d : Option Addr) (a : Addr) : HO := .ext fun h => ∃ oe : Obj, h.get? a = some oe ∧ Zc cls d oe ∧ ∃ vs, oe.data = .fields vs
theorem exV_ok {P : Program} {w : World} {H : Hp} {h : Heap} {a : Addr} {cls : Value} {d : Option Addr} {oe : Obj} (e : h.get? a = some oe) (z : Zc cls d oe) (f : ∃ vs, oe.data = .fields vs) : ObjOk P w H h a (ExV cls d a) :=
  ⟨⟨oe, e, z, f⟩, ⟨oe, e⟩, fun _ _ ⟨o, q, r⟩ k => ⟨o, k o q, r⟩⟩
theorem inv_track {X : Cx} {pins : List (Addr × Obj)} {σ : L2.St} {H : Hp} {s : Shared} {a : Addr} {o : HO} (I : Inv X pins σ H s) (na : H a = none) (n0 : X.s_0.heap.get? a = none) (nL : a ≠ X.env.locals) (nC : ∀ x c, X.env.cells.lookup x = some c → c ≠ a) (nP : ∀ p ∈ X.pn ++ pins, p.1 ≠ a) (new : ObjOk X.prog X.w (upd H a o) s.heap a o) :
    Inv X pins σ (upd H a o) s := by
  have n1 : ∀ b u, X.s_0.heap.get? b = some u → b ≠ a := fun b u e z => by rw [z, n0] at e; cases e
  refine ⟨I.ok, I.os, I.bare, ⟨I.base.keep, I.base.slot, fun b u e n hq => ?_, I.base.there, fun b xs e => ?_, fun b u xs e => ?_, fun b ps e => ?_⟩, I.loc, I.cell, ?_, fun x c e => ?_, fun p hp => ?_, I.hok.laidN (fun _ _ e => e) na new, I.len⟩
  · rw [upd_ne (n1 b u e)]
    exact I.base.free b u e n hq
  · have q := I.base.tups b xs e
    rw [upd_ne (ne_of_none q na)]
    exact q
  · have q := I.base.frzs b u xs e
    rw [upd_ne (ne_of_none q na)]
    exact q
  · obtain ⟨m, q⟩ := I.base.tbls b ps e
    exact ⟨m, by rw [upd_ne (ne_of_none q na)]; exact q⟩
  · rw [upd_ne (Ne.symm nL)]
    exact I.free
  · rw [upd_ne (nC x c e)]
    exact I.freeC x c e
  · obtain ⟨e, n, ne, nf, d⟩ := I.pin p hp
    exact ⟨e, by rw [upd_ne (nP p hp)]; exact n, ne, nf, d⟩
/-- what an «except x as n» wishes, the error known behind it -/
def wAsK (K : PySem.W.Frag) (c : Value) (i : Nat) (ts : Addr → Value → Option Addr → TS) (Wout : WX) (D : Ends) : WX := fun cls d σ H =>
  ∃ b, PySem.W.exmOne K cls c = some b ∧ (b = true → ∀ a, H a = none → ts a cls d ⟨fun σ' H' => D.nx (σ'.set i none) (upd H' a (ExV cls d a)), fun v H' => D.rt v (upd H' a (ExV cls d a)), fun σ' H' => D.bk (σ'.set i none) (upd H' a (ExV cls d a)), fun σ' H' => D.ct (σ'.set i none) (upd H' a (ExV cls d a))⟩ (σ.set i (some (.ref a))) H) ∧ (b = false → Wout cls d σ H)
section
variable {X : Cx} {x n : Str} {c : Value} {i : Nat} {body suite : List Stmt} {b₀ : Stmt} {np pos pos' : Pos} {tb : WX → TS} {ts : Addr → Value → Option Addr → TS} {Wout : WX}
theorem ps_try_k (hs : X.stack = X.env :: X.outer) (hf : X.env.frame = some X.env.locals) (hex : X.ex = []) (hN : X.N.Nodup) (hi : X.N[i]? = some n) (hln : X.env.kindOf n = some .local) (hc : Names X x c) (tk : Takes X Wout)
    (hb : ∀ (W : WX) (pn : List (Addr × Obj)) (xe : Value → Shared → Prop), Takes (X.tr pn xe) W → PassesOwn (model X.prog X.w) X.A X.env xe → PSs (X.tr pn xe) body (tb W)) (hsu : ∀ (a : Addr) (oe : Obj) (cls : Value) (d : Option Addr) (pn : List (Addr × Obj)), Zc cls d oe → (∃ vs, oe.data = .fields vs) → PSs (X.suite a ((a, oe) :: pn)) (b₀ :: suite) (ts a cls d)) : PS X (.Try body [.ExceptHandler (some (.Name x np)) (some n) (b₀ :: suite) pos'] [] [] pos) (fun D σ H => tb (wAsK X.K c i ts Wout D) D σ H) := by
  refine ⟨fun pins s σ H D I hw => ?_⟩
  have okX := I.ok
  have frX : X.A.frames = some (X.env :: X.outer) := by rw [okX.frames, hs]
  have lcN : Loc X.env.scope n := .inl hln
  refine wpAny_Try_except (wpAny_mono ((hb (wAsK X.K c i ts Wout D) (X.pn ++ pins) (fun e s₁ => wpAny (model X.prog X.w) X.A (noteFrame e X.env) (fun _ s₂ => wpAny (model X.prog X.w) X.A (setFlight e none) (fun _ s₃ => wpAny (model X.prog X.w) X.A (handleBy e X.env [.ExceptHandler (some (.Name x np)) (some n) (b₀ :: suite) pos']) (SP X pins D) X.xe s₃) X.xe s₂) X.xe s₁) (fun u s' xx => ?_) PassesOwn.looking).run [] s σ H D (I.toTry _) hw) (fun fl s1 hsp => ?_) (fun _ _ he => he))
  · obtain ⟨a, Bg, sI, pins', σ', H', cls, d, rfl, J', nb, up, sky, na, os, ag, b, hb1, hyes, hno⟩ := xx
    have Ja : Inv X pins σ' H' sI := J'.ofTry okX
    have skyE : Sky Bg (X.env :: X.outer) a (Zc cls d) X.env.locals s'.heap := by rw [← hs]; exact sky
    show wpAny (model X.prog X.w) X.A (noteFrame (.ref a) X.env) _ _ _
    refine Sky.land Zc.steady frX hf skyE fun h3 fl3 up3 => ?_
    have Jb : Inv X pins σ' H' { s' with heap := h3 } := Ja.landed nb fl3.1 (up.trans up3) os ag
    obtain ⟨oe3, vs3, he3, hz3, hd3⟩ := fl3.there
    have nfr : a ∉ frs (X.env :: X.outer) := fun hm => by
      obtain ⟨_, o', e', hnf⟩ := fl3.2.2.1.mem hm
      rw [he3] at e'
      cases e'
      exact hnf _ hd3
    have nL : a ≠ X.env.locals := fun z => nfr (List.mem_filterMap.mpr ⟨X.env, List.mem_cons_self, by rw [hf, z]⟩)
    have nF : a ∉ X.fs := fun hm => by
      obtain ⟨e, hem, q⟩ := List.mem_filterMap.mp hm
      exact nfr (List.mem_filterMap.mpr ⟨e, List.mem_cons_of_mem _ hem, q⟩)
    have nB : Bg.get? a = none := fl3.2.1
    have n0 : X.s_0.heap.get? a = none := by
      cases e : X.s_0.heap.get? a with
      | none => rfl
      | some o =>
        obtain ⟨o', q⟩ := Ja.base.there a o e (by rw [hex]; exact fun z => nomatch z)
        have z := nb a o' q (by rw [hs]; exact nfr)
        rw [nB] at z
        cases z
    have nP : ∀ p ∈ X.pn ++ pins, p.1 ≠ a := fun p hp z => by
      obtain ⟨e, _, ne, nf, _⟩ := Ja.pin p hp
      have q := nb p.1 p.2 e (fun hm => by
        rcases List.mem_cons.mp (Ja.stkSub p.1 hm) with y | y
        · exact ne y
        · exact nf y)
      rw [z, nB] at q
      cases q
    have Sb := Jb.suite he3 hd3 na nL nF
    refine wpAny_handleBy_cons (codeAny_handlers_test ?_) (by intro q; cases q)
    have tyA : PySem.W.Looks (model X.prog X.w) h3 (typeOf (.ref a)) cls := fun A Q E s k q => wpAny_typeOf_ref (k _ _ he3) (by rw [hz3.1]; exact q)
    have exA := PySem.W.exm_one (M := model X.prog X.w) (Jb.kIn) tyA hb1
    have nameA : ∀ {Q : Value → Shared → Prop} {E : Value → Shared → Prop}, Q c { s' with heap := h3 } → wpAny (model X.prog X.w) (X.A.mark (some (.ref a))) (eval (.Name x np) X.env) Q E { s' with heap := h3 } := fun {Q E} q => by
      rcases hc with ⟨hg, hdbg, hm | ⟨hm, hv, hnn⟩⟩
      · exact ld_glob (X := X.suite a ((a, oe3) :: (X.pn ++ pins))) Sb hg hm q hdbg
      · exact ld_blt (X := X.suite a ((a, oe3) :: (X.pn ++ pins))) Sb hg hm hv q hnn hdbg
    refine nameA (exA.here ?_)
    cases b with
    | false =>
      show wpAny _ X.A (handleBy (.ref a) X.env []) _ _ _
      refine wpAny_handleBy_nil ?_
      obtain ⟨k1, k2, k3, oe, vs, T, oT, ts', he, hz, hd, h1, hr⟩ := id fl3
      unfold PySem.passOn
      refine wpAny_bind (wpAny_field he hd h1 ?_)
      rw [if_neg (show ¬ ((Value.ref T == Value.none) = true) from by simp)]
      have out : wpAny (model X.prog X.w) X.A (setFlight (.ref a) X.env.frame) (fun _ s4 => wpAny (model X.prog X.w) X.A (throw (.ref a) : Sem Flow) (SP X pins D) X.xe s4) X.xe { s' with heap := h3 } := by
        rw [hf]
        exact HandSPX.setFlight_upZ fl3 fun h4 hh4 up4 => wpAny_throw (tk _ _ ⟨a, Bg, sI, pins, σ', H', cls, d, rfl, Ja, nb, (up.trans up3).trans up4, .inr (.inr (by rw [hs]; exact hh4)), na, os, ag, hno rfl⟩)
      first
        | exact wpAny_bind (wpAny_pure (wpAny_bind out))
        | exact wpAny_bind out
    | true =>
      refine codeAny_handlers_suite_as (HandSPX.lands_againZ fl3 fun h4 fl4 up4 => ?_)
      have Jc : Inv X pins σ' H' { s' with heap := h4 } := Ja.landed nb fl4.1 ((up.trans up3).trans up4) os ag
      obtain ⟨oe4, vs4, he4, hz4, hd4⟩ := fl4.there
      have Sc := Jc.suite he4 hd4 na nL nF
      refine store_ok (X := X.suite a ((a, oe4) :: (X.pn ++ pins))) (v := .ref a) Sc hN hi lcN rfl (fun s5 S5 => ?_) (.inr hln)
      refine wpAny_mono ((hsu a oe4 cls d (X.pn ++ pins) hz4 ⟨_, hd4⟩).run [] s5 _ H' _ S5 (hyes rfl a na)) (fun fl s6 hsp => ?_) (fun _ _ z => False.elim z)
      have fin : ∀ {σ6 : L2.St} {H6 : Hp} {Q : Shared → Prop}, Inv (X.suite a ((a, oe4) :: (X.pn ++ pins))) [] σ6 H6 s6 → (∀ s7, Inv X pins (σ6.set i none) (upd H6 a (ExV cls d a)) s7 → Q s7) → wpAny (model X.prog X.w) X.A (do bindName X.env n .none; unbindBehindTheSuite X.env n pos') (fun _ s7 => Q s7) X.xe s6 := fun {σ6 H6 Q} S6 hq =>
        gone_ok (X := X.suite a ((a, oe4) :: (X.pn ++ pins))) S6 hN hi hln fun s7 S7 => by
          obtain ⟨g7, n7, _, _, _⟩ := S7.pin (a, oe4) (List.mem_append.mpr (.inl List.mem_cons_self))
          have U7 : Inv X pins (σ6.set i none) H6 s7 := S7.unsuite okX
          refine hq s7 (inv_track U7 n7 n0 nL (fun y cc e z => ?_) nP (exV_ok g7 hz4 ⟨_, hd4⟩))
          obtain ⟨v, o, ho, hdo⟩ := U7.cell y cc e
          rw [z, show s7.heap.get? a = some oe4 from g7] at ho
          cases ho
          rw [hd4] at hdo
          cases hdo
      cases fl with
      | next => obtain ⟨σ6, H6, S6, q6⟩ := hsp; exact fin S6 fun s7 J7 => ⟨_, _, J7, q6⟩
      | brk => obtain ⟨σ6, H6, S6, q6⟩ := hsp; exact fin S6 fun s7 J7 => ⟨_, _, J7, q6⟩
      | cont => obtain ⟨σ6, H6, S6, q6⟩ := hsp; exact fin S6 fun s7 J7 => ⟨_, _, J7, q6⟩
      | ret u => obtain ⟨v6, σ6, H6, S6, r6, q6⟩ := hsp; exact fin S6 fun s7 J7 => ⟨_, _, _, J7, r6, q6⟩
  · cases fl with
    | next => obtain ⟨σ', H', J', q⟩ := hsp; exact wpAny_execs_nil ⟨σ', H', J'.ofTry okX, q⟩
    | brk => obtain ⟨σ', H', J', q⟩ := hsp; exact ⟨σ', H', J'.ofTry okX, q⟩
    | cont => obtain ⟨σ', H', J', q⟩ := hsp; exact ⟨σ', H', J'.ofTry okX, q⟩
    | ret u => obtain ⟨v, σ', H', J', r, q⟩ := hsp; exact ⟨v, σ', H', J'.ofTry okX, r, q⟩
end
/-! isinstance of such an error -/
theorem inst_of {X : Cx} {pins : List (Addr × Obj)} {σ : L2.St} {H : Hp} {s : Shared} {a C : Addr} (I : Inv X pins σ H s) (h : H a = some (ExV (.ref C) none a)) : ∃ oe, PySem.W.InstAt s.heap a oe C none := by
  obtain ⟨⟨oe, g, ⟨h1, h2⟩, vs, hv⟩, _, _⟩ := I.hok a _ h
  obtain ⟨oc, od, oda, osl⟩ := oe
  dsimp only at h1 h2 hv
  subst h1 h2 hv
  exact ⟨_, g, rfl, rfl, trivial⟩
/-- types, errors among them -/
inductive TyZ (K : PySem.W.Frag) (H : Hp) : V → Value → Prop where
  | x {v : V} {t : Value} (h : TyX K H v t) : TyZ K H v t
  | exc {a C : Addr} (h : H a = some (ExV (.ref C) none a)) (c : ExcC K C) : TyZ K H (.ref a) (.ref C)
theorem kitz_of {X : Cx} {pins : List (Addr × Obj)} {σ : L2.St} {H : Hp} {s : Shared} {v : V} {u t : Value} (I : Inv X pins σ H s) (rv : RelV v u) (ty : TyZ X.K H v t) : ∃ Pz : Heap → Prop, PySem.W.KitX X.K u t Pz ∧ Pz s.heap ∧ u ≠ .builtin "__main__.__loader__#opaque" := by
  cases ty with
  | x h => exact kit_of I rv h
  | @exc a C h c =>
    cases (show u = Value.ref a from rv)
    obtain ⟨oe, J⟩ := inst_of I h
    exact ⟨_, PySem.W.handS_kitx_exc c.hg c.hk c.hs c.hd c.ha c.hn c.ht c.hm, J, fun z => nomatch z⟩
def rIsZ (K : PySem.W.Frag) : List V → Hp → VK → Prop := fun xs H Q => ∃ (v c : V) (t u : Value) (b : Bool), xs = [v, c] ∧ ClsV c u ∧ TyZ K H v t ∧ PySem.W.kitOne K t u = some b ∧ Q (.bl b) H
def rIsZT (K : PySem.W.Frag) : List V → Hp → VK → Prop := fun xs H Q => ∃ (v : V) (tp : Addr) (cs : List V) (t : Value) (us : List Value) (b : Bool), xs = [v, .ref tp] ∧ H tp = some (.tup cs) ∧ Paired ClsV cs us ∧ TyZ K H v t ∧ PySem.W.kitAny K t us = some b ∧ Q (.bl b) H
theorem call_isZ {X : Cx} : CallR X (.builtin "isinstance") (rIsZ X.K) := by
  intro pins s σ H xs us Q I r h
  obtain ⟨v, c, t, u, b, rfl, k, ty, e, q⟩ := h
  obtain ⟨w1, w2, rfl, r1, r2⟩ := vals2 r
  obtain rfl := k.eq r2
  obtain ⟨Pz, Z, p, hx⟩ := kitz_of I r1 ty
  exact PySem.W.kia_one Z I.kIn p e hx fun tk => ⟨.bl b, H, I.tok tk, rfl, q⟩
theorem call_isZT {X : Cx} : CallR X (.builtin "isinstance") (rIsZT X.K) := by
  intro pins s σ H xs us Q I r h
  obtain ⟨v, tp, cs, t, ws, b, rfl, hT, k, ty, e, q⟩ := h
  obtain ⟨w1, w2, rfl, r1, r2⟩ := vals2 r
  cases (show w2 = Value.ref tp from r2)
  obtain ⟨Pz, Z, p, hx⟩ := kitz_of I r1 ty
  obtain ⟨_, its, rv, ob, h1, h2, n, h3⟩ := (show ObjOk X.prog X.w H s.heap tp (.tup cs) from I.hok tp _ hT)
  obtain rfl := ClsV.all k rv
  obtain ⟨oc, od, dt, sl⟩ := ob
  simp only at h2 h3
  subst h2 h3
  exact PySem.W.kia_tup Z I.kIn p h1 e hx fun tk => ⟨.bl b, H, I.tok tk, rfl, q⟩
end Fo
namespace Fo
open PySem PySem.Spec PyProof.Rows L2
/-! things of any kind, as data; repr of them -/
def keyD : Key → PyData
  | .inl i => .int i
  | .inr x => .str x
inductive Kvs : List (Key × V) → List (PyData × PyData) → Prop
  | nil : Kvs [] []
  | cons {k : Key} {i : Int} {r : List (Key × V)} {s : List (PyData × PyData)} : Kvs r s → Kvs ((k, .int i) :: r) ((keyD k, .int i) :: s)
mutual
inductive Dq (H : Hp) : V → PyData → Prop
  | non : Dq H .non .none
  | bl (b : Bool) : Dq H (.bl b) (.bool b)
  | int (i : Int) : Dq H (.int i) (.int i)
  | str (x : Str) : Dq H (.str x) (.str x)
  | lst {a : Addr} {xs : List V} {ds : List PyData} : H a = some (.lst xs) → DqAll H xs ds → Dq H (.ref a) (.list ds)
  | tup {a : Addr} {xs : List V} {ds : List PyData} : H a = some (.tup xs) → DqAll H xs ds → Dq H (.ref a) (.tuple ds)
  | dic {a : Addr} {kvs : List (Key × V)} {ks : List (PyData × PyData)} : H a = some (.dK kvs) → Kvs kvs ks → Dq H (.ref a) (.dict ks)
inductive DqAll (H : Hp) : List V → List PyData → Prop
  | nil : DqAll H [] []
  | cons {v : V} {vs : List V} {d : PyData} {ds : List PyData} : Dq H v d → DqAll H vs ds → DqAll H (v :: vs) (d :: ds)
end
mutual
theorem Dq.keep {H H' : Hp} (k : ∀ b o, H b = some o → H' b = some o) : ∀ (d : PyData) (v : V), Dq H v d → Dq H' v d
  | .none, _, h => by cases h; exact .non
  | .bool b, _, h => by cases h; exact .bl b
  | .int i, _, h => by cases h; exact .int i
  | .str x, _, h => by cases h; exact .str x
  | .list ds, _, h => by
    cases h with
    | lst e a => exact .lst (k _ _ e) (DqAll.keep k ds _ a)
  | .tuple ds, _, h => by
    cases h with
    | tup e a => exact .tup (k _ _ e) (DqAll.keep k ds _ a)
  | .dict ks, _, h => by
    cases h with
    | dic e a => exact .dic (k _ _ e) a
theorem DqAll.keep {H H' : Hp} (k : ∀ b o, H b = some o → H' b = some o) : ∀ (ds : List PyData) (vs : List V), DqAll H vs ds → DqAll H' vs ds
  | [], _, h => by cases h; exact .nil
  | d :: ds, _, h => by
    cases h with
    | cons h1 h2 => exact .cons (Dq.keep k d _ h1) (DqAll.keep k ds _ h2)
end
theorem Dq.same {H H' : Hp} {d : PyData} {v : V} (h : Dq H v d) (s : Same H H') : Dq H' v d := Dq.keep s d v h
theorem DqAll.same {H H' : Hp} {ds : List PyData} {vs : List V} (h : DqAll H vs ds) (s : Same H H') : DqAll H' vs ds := DqAll.keep s ds vs h
theorem DqAll.len {H : Hp} : ∀ {ds : List PyData} {vs : List V}, DqAll H vs ds → vs.length = ds.length
  | [], _, h => by cases h; rfl
  | d :: ds, _, h => by
    cases h with
    | cons h1 h2 => rw [List.length_cons, List.length_cons, DqAll.len h2]
theorem DqAll.get {H : Hp} : ∀ {ds : List PyData} {vs : List V} {i : Nat} {v : V}, DqAll H vs ds → vs[i]? = some v → ∃ d, ds[i]? = some d ∧ Dq H v d
  | [], _, i, v, h, e => by cases h; simp at e
  | d :: ds, _, 0, v, h, e => by
    cases h with
    | cons h1 h2 =>
      cases (Option.some.inj e)
      exact ⟨d, rfl, h1⟩
  | d :: ds, _, i + 1, v, h, e => by
    cases h with
    | cons h1 h2 => exact DqAll.get (i := i) h2 e
theorem DqAll.app {H : Hp} : ∀ {ds es : List PyData} {vs us : List V}, DqAll H vs ds → DqAll H us es → DqAll H (vs ++ us) (ds ++ es)
  | [], _, _, _, h, g => by cases h; exact g
  | d :: ds, _, _, _, h, g => by
    cases h with
    | cons h1 h2 => exact .cons h1 (DqAll.app h2 g)
theorem DqAll.take {H : Hp} : ∀ {ds : List PyData} {vs : List V} (n : Nat), DqAll H vs ds → DqAll H (vs.take n) (ds.take n)
  | [], _, n, h => by cases h; rw [List.take_nil, List.take_nil]; exact .nil
  | d :: ds, _, 0, h => .nil
  | d :: ds, _, n + 1, h => by
    cases h with
    | cons h1 h2 => exact .cons h1 (DqAll.take n h2)
theorem DqAll.drop {H : Hp} : ∀ {ds : List PyData} {vs : List V} (n : Nat), DqAll H vs ds → DqAll H (vs.drop n) (ds.drop n)
  | [], _, n, h => by cases h; rw [List.drop_nil, List.drop_nil]; exact .nil
  | d :: ds, _, 0, h => h
  | d :: ds, _, n + 1, h => by
    cases h with
    | cons h1 h2 => exact DqAll.drop n h2
theorem dq_ints {H : Hp} : ∀ ns : List Int, DqAll H (ns.map V.int) (ns.map PyData.int)
  | [] => .nil
  | n :: r => .cons (.int n) (dq_ints r)
theorem dq_list {H : Hp} {a : Addr} {ns : List Int} (h : H a = some (.lst (ns.map V.int))) : Dq H (.ref a) (.list (ns.map PyData.int)) := .lst h (dq_ints ns)
section
variable {X : Cx} {pins : List (Addr × Obj)} {σ : L2.St} {H : Hp} {s : Shared}
theorem not_sys (I : Inv X pins σ H s) (z : SysAt X.base) {a : Addr} {o : HO} (e : H a = some o) : sysModules ≠ a := fun q => by
  obtain ⟨ob, eb⟩ := z
  have := (I.env0.bs _ _ eb).2
  rw [q, e] at this
  cases this
theorem kvs_reads (h : Heap) : ∀ {kvs : List (Key × V)} {ks : List (PyData × PyData)} {vs : List (Key × Value)} {es : List DictEntry}, Kvs kvs ks → KV kvs vs → Pairs (mixKind X.prog X.w) es vs → ReadsAll h (es.map (·.key)) (ks.map (·.1)) [] ∧ ReadsAll h (es.map (·.val)) (ks.map (·.2)) []
  | [], _, _, _, q, r, p => by
    cases q
    cases r
    cases p
    exact ⟨.nil, .nil⟩
  | kv :: kvs, _, _, _, q, r, p => by
    cases q with
    | cons q' =>
      cases r with
      | cons r1 r2 =>
        cases p with
        | cons p1 p2 =>
          obtain ⟨hk, hv⟩ := r1
          obtain ⟨t1, t2⟩ := kvs_reads h q' r2 (by assumption)
          obtain ⟨tv, ev⟩ := hv
          rename_i kk ii ss bb l2 ee ees p3
          have e1 : ∃ u, Reads h ee.key (keyD kk) u ∧ u = [] := by
            have p1' : keyIs bb.1 ee.key = true := p1
            rw [← hk] at p1'
            rcases keyIs_shape p1' with ⟨i, t, a1, a2⟩ | ⟨x, t, a1, a2⟩
            · have a1 : kk = Sum.inl i := a1
              rw [a2, a1]
              exact ⟨_, .int i t, rfl⟩
            · have a1 : kk = Sum.inr x := a1
              rw [a2, a1]
              exact ⟨_, .str x t, rfl⟩
          obtain ⟨_, e1, rfl⟩ := e1
          refine ⟨ReadsAll.cons e1 t1, ReadsAll.cons (as := []) (d := .int ii) ?_ t2⟩
          show Reads h ee.val _ _
          rw [p2, ev]
          exact .int ii tv
mutual
theorem Dq.reads (I : Inv X pins σ H s) (z : SysAt X.base) : ∀ (d : PyData) (v : V) (u : Value), Dq H v d → RelV v u → ∃ as, Reads s.heap u d as ∧ sysModules ∉ as
  | .none, _, _, h, r => by
    cases h
    cases r
    exact ⟨_, .none, List.not_mem_nil⟩
  | .bool b, _, _, h, r => by
    cases h
    cases r
    exact ⟨_, .bool b, List.not_mem_nil⟩
  | .int i, _, _, h, r => by
    cases h
    obtain ⟨t, rfl⟩ := r
    exact ⟨_, .int i t, List.not_mem_nil⟩
  | .str x, _, _, h, r => by
    cases h
    obtain ⟨t, rfl⟩ := r
    exact ⟨_, .str x t, List.not_mem_nil⟩
  | .list ds, _, _, h, r => by
    cases h with
    | lst e ha =>
      cases r
      obtain ⟨its, rv, ⟨o, n, ho, hc, _, hd⟩, _⟩ := I.list (SqL.of e)
      obtain ⟨as, hr, hn⟩ := Dq.readsAll I z ds _ its ha rv
      exact ⟨_, .list ho hc hd hr, fun q => by
        rcases List.mem_cons.mp q with q | q
        · exact not_sys I z e q
        · exact hn q⟩
  | .tuple ds, _, _, h, r => by
    cases h with
    | tup e ha =>
      cases r
      obtain ⟨its, rv, ⟨o, ho, hc, n, hd⟩, _⟩ := I.tuple (SqT.of e)
      obtain ⟨as, hr, hn⟩ := Dq.readsAll I z ds _ its ha rv
      exact ⟨_, .tuple ho hc hd hr, hn⟩
  | .dict ks, _, _, h, r => by
    cases h with
    | dic e hk =>
      cases r
      obtain ⟨_, nsys, vs, rel, dof⟩ := dk_of I.hok e
      obtain ⟨ep, ob, es, ho, exd, hdat, hko, hpr, hnd⟩ := dof.dictAt
      obtain ⟨r1, r2⟩ := kvs_reads (X := X) s.heap hk rel hpr
      exact ⟨_, .dict ho exd.1 hdat r1 r2, fun q => by
        rcases List.mem_cons.mp q with q | q
        · exact not_sys I z e q
        · cases q⟩
theorem Dq.readsAll (I : Inv X pins σ H s) (z : SysAt X.base) : ∀ (ds : List PyData) (vs : List V) (us : List Value), DqAll H vs ds → Vals vs us → ∃ as, ReadsAll s.heap us ds as ∧ sysModules ∉ as
  | [], _, _, h, r => by
    cases h
    cases r
    exact ⟨_, .nil, List.not_mem_nil⟩
  | d :: ds, _, _, h, r => by
    cases h with
    | cons h1 h2 =>
      cases r with
      | cons r1 r2 =>
        obtain ⟨as, q1, n1⟩ := Dq.reads I z d _ _ h1 r1
        obtain ⟨bs, q2, n2⟩ := Dq.readsAll I z ds _ _ h2 r2
        exact ⟨_, .cons q1 q2, fun q => by
          rcases List.mem_append.mp q with q | q
          · exact n1 q
          · exact n2 q⟩
end
/-- fit to be shown -/
structure Rp (m : Nat) (d : PyData) : Prop where
  show' : d.showable = true
  len : d.shown.length ≤ m
  dep : d.depth ≤ 20
/-- repr of a thing -/
def rReprD : List V → Hp → VK → Prop := fun xs H Q => ∃ (v : V) (d : PyData) (m : Nat), xs = [v] ∧ Dq H v d ∧ Rp m d ∧ m ≤ 16777216 ∧ Q (.str d.shown) H
theorem call_reprD {k : Nat} (g : X.A.guards = some []) (rm : Room k X.A) (z : SysAt X.base) : CallR X (.builtin "repr") rReprD := by
  intro pins s σ H xs us Q I r h
  obtain ⟨v, d, m, rfl, hd, rp, hm, q⟩ := h
  obtain ⟨u, rfl, ru⟩ := vals1 r
  have hun := rm.un
  have hdp := rp.dep
  have hsz : d.shown.length ≤ sizeLine := by rw [sizeLine_eq]; exact Nat.le_trans rp.len hm
  obtain ⟨as, rd, ns⟩ := Dq.reads I z d v u hd ru
  have big : ∀ {a : Addr}, u = .ref a → wpAny (model X.prog X.w) X.A (PySem.call (.builtin "repr") [u]) (EP X pins σ Q) X.xe s := fun {a} e => by
    subst e
    exact repr_of_reads' rd rp.show' (fun _ => ns) g (by omega) (fun _ _ e => e) (fun h' tk' tk kp => ⟨.str d.shown, H, I.kept (t' := tk) kp, ⟨_, rfl⟩, q⟩) hsz
  cases hd with
  | non =>
    cases ru
    have e : PyData.shown .none = "None" := by rw [PyData.shown]
    rw [e] at q
    exact PySem.P.repr_of_none ⟨.str _, H, I.tok _, ⟨_, rfl⟩, q⟩
  | bl b =>
    cases ru
    have e : PyData.shown (.bool b) = (if b = true then Str.ofString "True" else Str.ofString "False") := by rw [PyData.shown]
    rw [e] at q
    exact PySem.P.repr_of_bool ⟨.str _, H, I.tok _, ⟨_, rfl⟩, q⟩
  | int i =>
    obtain ⟨t, rfl⟩ := ru
    have e : PyData.shown (.int i) = Str.ofString (toString i) := by rw [PyData.shown]
    rw [e] at q
    exact PySem.P.repr_of_int (by have := rp.show'; rw [PyData.showable] at this; exact of_decide_eq_true this) ⟨.str _, H, I.tok _, ⟨_, rfl⟩, q⟩
  | str x =>
    obtain ⟨t, rfl⟩ := ru
    have e : PyData.shown (.str x) = reprText x := by rw [PyData.shown]
    rw [e] at q hsz
    exact PySem.P.repr_of_str ⟨.str _, H, I.tok _, ⟨_, rfl⟩, q⟩ hsz
  | lst e _ => exact big ru
  | tup e _ => exact big ru
  | dic e _ => exact big ru
end
/-! how long the texts are -/
theorem textFrom_le : ∀ (ts : List Str) (k : Nat) (acc : Str), (textFrom k acc ts).length ≤ acc.length + piled ts
  | [], k, acc => by rw [textFrom]; exact Nat.le_add_right _ _
  | t :: ts, k, acc => by
    rw [textFrom, piled_cons]
    have := textFrom_le ts (k + 1) (acc ++ Str.ofString (if k > 0 then ", " else "") ++ t)
    have e : (Str.ofString (if k > 0 then ", " else "")).length ≤ 2 := by split <;> decide
    rw [strLen_append, strLen_append] at this
    omega
theorem listText_le (ts : List Str) : (listText ts).length ≤ piled ts + 2 := by
  unfold listText
  have := textFrom_le ts 0 (Str.ofString "[")
  rw [strLen_append]
  have e1 : (Str.ofString "[").length = 1 := rfl
  have e2 : (Str.ofString "]").length = 1 := rfl
  omega
theorem piled_le : ∀ {ts : List Str} {m : Nat}, (∀ t ∈ ts, t.length ≤ m) → piled ts ≤ ts.length * (m + 2)
  | [], m, _ => by rw [piled_nil]; exact Nat.zero_le _
  | t :: ts, m, h => by
    rw [piled_cons, List.length_cons, Nat.succ_mul]
    have h1 := piled_le (ts := ts) fun x hx => h x (List.mem_cons_of_mem _ hx)
    have h2 := h t List.mem_cons_self
    omega
theorem join_le (ts : List Str) : (Str.join ", " ts).length ≤ piled ts := by
  by_cases h : ts = []
  · subst h
    decide
  · have := join_length_add ts h
    omega
theorem shownAll_eq : ∀ xs : List PyData, PyData.shownAll xs = xs.map PyData.shown
  | [] => by rw [PyData.shownAll]; rfl
  | x :: xs => by rw [PyData.shownAll, shownAll_eq xs]; rfl
theorem showableAll_of : ∀ {xs : List PyData}, (∀ x ∈ xs, PyData.showable x = true) → PyData.showableAll xs = true
  | [], _ => by rw [PyData.showableAll]
  | x :: xs, h => by rw [PyData.showableAll, h x List.mem_cons_self, showableAll_of fun y hy => h y (List.mem_cons_of_mem _ hy)]; rfl
theorem depthAll_of : ∀ {xs : List PyData} {k : Nat}, (∀ x ∈ xs, PyData.depth x ≤ k) → PyData.depthAll xs ≤ k
  | [], _, _ => by rw [PyData.depthAll]; exact Nat.zero_le _
  | x :: xs, k, h => by
    rw [PyData.depthAll]
    have h1 := h x List.mem_cons_self
    have h2 := depthAll_of fun y hy => h y (List.mem_cons_of_mem _ hy)
    exact Nat.max_le.mpr ⟨h1, h2⟩
/-- shown in m signs, k deep -/
structure Rq (m k : Nat) (d : PyData) : Prop where
  s : d.showable = true
  l : d.shown.length ≤ m
  d : d.depth ≤ k
theorem Rq.rp {m k : Nat} {d : PyData} (h : Rq m k d) (hk : k ≤ 20) : Rp m d := ⟨h.s, h.l, Nat.le_trans h.d hk⟩
theorem Rq.mono {m k m' k' : Nat} {d : PyData} (h : Rq m k d) (hm : m ≤ m') (hk : k ≤ k') : Rq m' k' d := ⟨h.s, Nat.le_trans h.l hm, Nat.le_trans h.d hk⟩
theorem rq_none : Rq 110 0 .none := ⟨by rw [PyData.showable], by rw [PyData.shown]; decide, by rw [PyData.depth]; exact Nat.le_refl _⟩
theorem rq_bool (b : Bool) : Rq 110 0 (.bool b) := ⟨by rw [PyData.showable], by rw [PyData.shown]; cases b <;> decide, by rw [PyData.depth]; exact Nat.le_refl _⟩
theorem rq_int {i : Int} (h : i.natAbs.log2 < 100) : Rq 110 0 (.int i) := by
  refine ⟨by rw [PyData.showable]; exact decide_eq_true (by omega), ?_, by rw [PyData.depth]; exact Nat.le_refl _⟩
  rw [PyData.shown]
  have := int_text_length_le (k := 100) (by decide) h
  show (Str.ofString (toString i)).length ≤ 110
  rw [PySem.ofString_length]
  omega
theorem rq_str {x : Str} (h : (reprText x).length ≤ 110) : Rq 110 0 (.str x) := ⟨by rw [PyData.showable], by rw [PyData.shown]; exact h, by rw [PyData.depth]; exact Nat.le_refl _⟩
theorem rq_list {xs : List PyData} {m k n : Nat} (h : ∀ x ∈ xs, Rq m k x) (hn : xs.length ≤ n) : Rq (n * (m + 2) + 2) (k + 1) (.list xs) := by
  refine ⟨by rw [PyData.showable]; exact showableAll_of fun x hx => (h x hx).s, ?_, by rw [PyData.depth]; exact Nat.succ_le_succ (depthAll_of fun x hx => (h x hx).d)⟩
  rw [PyData.shown, shownAll_eq]
  have h1 := listText_le (xs.map PyData.shown)
  have h2 := piled_le (ts := xs.map PyData.shown) (m := m) fun t ht => by
    obtain ⟨x, hx, rfl⟩ := List.mem_map.mp ht
    exact (h x hx).l
  rw [List.length_map] at h2
  have h3 := Nat.mul_le_mul_right (m + 2) hn
  omega
theorem rq_tup {xs : List PyData} {m k n : Nat} (h : ∀ x ∈ xs, Rq m k x) (hn : xs.length ≤ n) : Rq (n * (m + 2) + 3) (k + 1) (.tuple xs) := by
  refine ⟨by rw [PyData.showable]; exact showableAll_of fun x hx => (h x hx).s, ?_, by rw [PyData.depth]; exact Nat.succ_le_succ (depthAll_of fun x hx => (h x hx).d)⟩
  rw [PyData.shown, shownAll_eq]
  unfold tupleText
  rw [strLen_append, strLen_append]
  have h1 := join_le (xs.map PyData.shown)
  have h2 := piled_le (ts := xs.map PyData.shown) (m := m) fun t ht => by
    obtain ⟨x, hx, rfl⟩ := List.mem_map.mp ht
    exact (h x hx).l
  rw [List.length_map] at h2
  have h3 := Nat.mul_le_mul_right (m + 2) hn
  have e1 : (Str.ofString "(").length = 1 := rfl
  have e2 : (Str.ofString (if ((xs.map PyData.shown).length == 1) = true then ",)" else ")")).length ≤ 2 := by split <;> decide
  omega
theorem showableKv_of : ∀ {ks : List (PyData × PyData)}, (∀ p ∈ ks, PyData.showable p.1 = true ∧ PyData.showable p.2 = true) → PyData.showableKv ks = true
  | [], _ => by rw [PyData.showableKv]
  | (a, b) :: ks, h => by
    obtain ⟨h1, h2⟩ := h (a, b) List.mem_cons_self
    rw [PyData.showableKv, h1, h2, showableKv_of fun y hy => h y (List.mem_cons_of_mem _ hy)]
    rfl
theorem depthKv_of : ∀ {ks : List (PyData × PyData)} {k : Nat}, (∀ p ∈ ks, PyData.depth p.1 ≤ k ∧ PyData.depth p.2 ≤ k) → PyData.depthKv ks ≤ k
  | [], _, _ => by rw [PyData.depthKv]; exact Nat.zero_le _
  | (a, b) :: ks, k, h => by
    rw [PyData.depthKv]
    obtain ⟨h1, h3⟩ := h (a, b) List.mem_cons_self
    exact Nat.max_le.mpr ⟨Nat.max_le.mpr ⟨h1, h3⟩, depthKv_of fun y hy => h y (List.mem_cons_of_mem _ hy)⟩
theorem shownKv_map : ∀ ks : List (PyData × PyData), PyData.shownKv ks = ks.map fun p => p.1.shown ++ Str.ofString ": " ++ p.2.shown
  | [] => by rw [PyData.shownKv]; rfl
  | (a, b) :: ks => by rw [PyData.shownKv, shownKv_map ks]; rfl
theorem rq_dict {ks : List (PyData × PyData)} {m k n : Nat} (h : ∀ p ∈ ks, Rq m k p.1 ∧ Rq m k p.2) (hn : ks.length ≤ n) : Rq (n * (2 * m + 4) + 2) (k + 1) (.dict ks) := by
  refine ⟨by rw [PyData.showable]; exact showableKv_of fun p hp => ⟨(h p hp).1.s, (h p hp).2.s⟩, ?_, by rw [PyData.depth]; exact Nat.succ_le_succ (depthKv_of fun p hp => ⟨(h p hp).1.d, (h p hp).2.d⟩)⟩
  rw [PyData.shown, shownKv_map]
  unfold dictText
  rw [strLen_append, strLen_append]
  have h1 := join_le (ks.map fun p => p.1.shown ++ Str.ofString ": " ++ p.2.shown)
  have h2 := piled_le (ts := ks.map fun p => p.1.shown ++ Str.ofString ": " ++ p.2.shown) (m := 2 * m + 2) fun t ht => by
    obtain ⟨p, hp, rfl⟩ := List.mem_map.mp ht
    have a1 := (h p hp).1.l
    have a2 := (h p hp).2.l
    have e3 : (Str.ofString ": ").length = 2 := rfl
    rw [strLen_append, strLen_append]
    omega
  rw [List.length_map, show 2 * m + 2 + 2 = 2 * m + 4 by omega] at h2
  have h3 := Nat.mul_le_mul_right (2 * m + 4) hn
  have e1 : (Str.ofString "{").length = 1 := rfl
  have e2 : (Str.ofString "}").length = 1 := rfl
  omega
end Fo
namespace Fo
open PySem PySem.Spec PyProof.Rows L2
/-! dict(enumerate(xs)) of a list of ints -/
def enumKV : Nat → List Int → List (Key × V)
  | _, [] => []
  | i, x :: r => (.inl (i : Int), .int x) :: enumKV (i + 1) r
theorem enumKV_len : ∀ (i : Nat) (ns : List Int), (enumKV i ns).length = ns.length
  | _, [] => rfl
  | i, x :: r => by rw [enumKV, List.length_cons, List.length_cons, enumKV_len (i + 1) r]
def enumD : Nat → List Int → List (PyData × PyData)
  | _, [] => []
  | i, x :: r => (.int (i : Int), .int x) :: enumD (i + 1) r
theorem enumD_len : ∀ (i : Nat) (ns : List Int), (enumD i ns).length = ns.length
  | _, [] => rfl
  | i, x :: r => by rw [enumD, List.length_cons, List.length_cons, enumD_len (i + 1) r]
theorem enum_kvs : ∀ (i : Nat) (ns : List Int), Kvs (enumKV i ns) (enumD i ns)
  | _, [] => .nil
  | i, x :: r => .cons (k := .inl (i : Int)) (enum_kvs (i + 1) r)
theorem enumD_mem : ∀ {i : Nat} {ns : List Int} {p : PyData × PyData}, p ∈ enumD i ns → ∃ (j : Nat) (x : Int), p = (.int (j : Int), .int x) ∧ j < i + ns.length ∧ x ∈ ns
  | _, [], _, h => absurd h List.not_mem_nil
  | i, x :: r, p, h => by
    rcases List.mem_cons.mp h with h | h
    · exact ⟨i, x, h, by rw [List.length_cons]; omega, List.mem_cons_self⟩
    · obtain ⟨j, y, e, hj, hy⟩ := enumD_mem h
      exact ⟨j, y, e, by rw [List.length_cons]; omega, List.mem_cons_of_mem _ hy⟩
theorem merge_enum : ∀ (ns : List Int) (acc : List (Key × V)) (i : Nat), (∀ p ∈ acc, ∃ j : Nat, p.1 = .inl (j : Int) ∧ j < i) → mergeK acc (enumKV i ns) = acc ++ enumKV i ns
  | [], acc, i, _ => by
    rw [enumKV, List.append_nil]
    rfl
  | x :: r, acc, i, h => by
    have e : valV acc (.inl (i : Int)) = none := by
      unfold valV
      rw [Option.map_eq_none_iff, List.find?_eq_none]
      intro p hp hd
      obtain ⟨j, ej, hj⟩ := h p hp
      have := of_decide_eq_true hd
      rw [ej] at this
      injection this with this
      omega
    show mergeK (putK acc (.inl (i : Int)) (.int x)) (enumKV (i + 1) r) = _
    rw [putK_new _ e, merge_enum r _ (i + 1) (fun p hp => ?_), List.append_assoc]
    · rfl
    · rcases List.mem_append.mp hp with hp | hp
      · obtain ⟨j, ej, hj⟩ := h p hp
        exact ⟨j, ej, by omega⟩
      · rw [List.mem_singleton.mp hp]
        exact ⟨i, rfl, by omega⟩
/-- what the dict holds, by the list's own values -/
def enumV : Nat → List Value → List (Key × Value)
  | _, [] => []
  | i, x :: r => (.inl (i : Int), x) :: enumV (i + 1) r
theorem enumV_len : ∀ (i : Nat) (us : List Value), (enumV i us).length = us.length
  | _, [] => rfl
  | i, x :: r => by rw [enumV, List.length_cons, List.length_cons, enumV_len (i + 1) r]
theorem enumV_at : ∀ {j i : Nat} {us : List Value} {v : Value}, us[j]? = some v → (enumV i us)[j]? = some (.inl ((i + j : Nat) : Int), v)
  | _, _, [], _, h => by simp at h
  | 0, i, x :: r, v, h => by
    cases (Option.some.inj h)
    rfl
  | j + 1, i, x :: r, v, h => by
    have := enumV_at (j := j) (i := i + 1) (us := r) h
    rw [show i + (j + 1) = i + 1 + j by omega]
    exact this
theorem enumV_rel : ∀ {i : Nat} {ns : List Int} {us : List Value}, Vals (ns.map V.int) us → KV (enumKV i ns) (enumV i us)
  | _, [], _, h => by cases h; exact .nil
  | i, x :: r, _, h => by
    cases h with
    | cons h1 h2 => exact .cons ⟨rfl, h1⟩ (enumV_rel h2)
section
variable {X : Cx}
def tDictEnum (K : PySem.W.Frag) (te : TE) : TE := fun σ H Q => te σ H fun x H1 => ∃ (a : Addr) (ns : List Int), x = .ref a ∧ SqL K H1 a (ns.map V.int) ∧ ∀ p, H1 p = none → Q (.ref p) (upd H1 p (.dK (enumKV 0 ns)))
theorem pe_dictEnum {e : Expr} {te : TE} {p q pos qos : Pos} (calm : X.calm = true) (gd : Gl X "dict") (md : X.mg "dict" = none) (ge : Gl X "enumerate") (me : X.mg "enumerate" = none) (he : PE X e te)
    (st : starEach [Expr.Call (.Name "enumerate" q) [e] [] qos] X.env = [(false, eval (Expr.Call (.Name "enumerate" q) [e] [] qos) X.env)] := by rfl) (su : starEach [e] X.env = [(false, eval e X.env)] := by rfl) :
    PE X (.Call (.Name "dict" p) [.Call (.Name "enumerate" q) [e] [] qos] [] pos) (tDictEnum X.K te) := by
  refine ⟨fun pins s σ H Q I h => ?_⟩
  refine wpAny_Call_Name_kw (ld_blt I gd md (u := .type "dict") (by decide +kernel) ?_ (by decide +kernel) (by decide +kernel))
  rw [st]
  refine PySem.callWith_type1 ?_
  refine wpAny_Call_Name_kw (ld_blt I ge me (u := .type "enumerate") (by decide +kernel) ?_ (by decide +kernel) (by decide +kernel))
  rw [su]
  refine PySem.callWith_type1 (thn (he.run pins s σ H _ I h) fun u s1 ⟨x, H1, I1, r1, a, ns, ex, sq, qk⟩ => ?_)
  subst ex
  obtain rfl : u = Value.ref a := r1
  obtain ⟨its, rv, pl, hz⟩ := I1.list sq
  have hlt := Heap.lt_size pl.isList.choose_spec.1
  refine call_enumerate_list pl.isList fun h' en it sz kp => ?_
  have I2 : Inv X pins σ H1 { s1 with heap := h' } := I1.kept (t' := s1.toks) kp
  have lis : h'.IsList a its.toArray := pl.isList.at fun o e => kp _ _ e
  have ln : its.length = ns.length := by rw [← rv.length, List.length_map]
  have hzn : ns.length ≤ sizeLine := by rw [List.length_map] at hz; exact hz
  refine PySem.call_dict_pairs (knd := mixKind X.prog X.w) (kvs := enumV 0 its) (PairArg.enumerate (s1.heap.objs.size + 1) s1.heap.objs.size a (Nat.succ_ne_self _) (Nat.ne_of_lt (Nat.lt_succ_of_lt hlt)) (Nat.ne_of_lt hlt) its.toArray) (I.ok.hd calm) ⟨⟨_, en⟩, it, lis⟩ ⟨by rw [enumV_len]; simp, fun i key v hr => ?_⟩ (by simp only [List.size_toArray]; omega) fun h2 tk hd2 kp2 => ?_
  · obtain ⟨⟨t, rfl⟩, hv⟩ := hr
    refine ⟨.inl (i : Int), ?_, ?_⟩
    · have := enumV_at (j := i) (i := 0) (us := its) (v := v) (by simpa using hv)
      rw [Nat.zero_add] at this
      exact this
    · show Value.isInt (i : Int) (.int (i : Int) t) = true
      simp [Value.isInt]
  · have em : KV (enumKV 0 ns) (merged [] (enumV 0 its)) := by
      have := KV.merge (enumV_rel (i := 0) rv) (.nil : KV (κ := Key) [] [])
      rw [merge_enum ns [] 0 (fun p hp => absurd hp List.not_mem_nil)] at this
      exact this
    have nn : H1 h'.objs.size = none := I2.hok.fresh (Nat.le_refl _)
    refine ⟨.ref h'.objs.size, upd H1 h'.objs.size (.dK (enumKV 0 ns)), I1.laid (t' := tk) (fun b o e => kp2 b o (fun z => ?_) (kp b o e)) (by rw [sz]; omega) (show ObjOk X.prog X.w _ _ _ (.dK (enumKV 0 ns)) from ⟨by rw [enumKV_len]; exact hzn, beq_eq_false_iff_ne.mpr (Nat.ne_of_gt I2.big), merged [] (enumV 0 its), em, hd2⟩), rfl, qk _ nn⟩
    have := Heap.lt_size e
    simp only [List.mem_cons, List.not_mem_nil, or_false] at z
    rcases z with z | z
    · rw [z] at this
      exact absurd this (Nat.not_lt.mpr (Nat.le_succ _))
    · rw [z] at this
      exact absurd this (Nat.lt_irrefl _)
end
end Fo
namespace Fo
open PySem PySem.Spec PyProof.Rows L2
/-! kinds of things -/
def tyD : PyData → String
  | .none => "NoneType"
  | .bool _ => "bool"
  | .int _ => "int"
  | .str _ => "str"
  | .list _ => "list"
  | .tuple _ => "tuple"
  | .dict _ => "dict"
theorem dq_ty {K : PySem.W.Frag} {H : Hp} {v : V} {d : PyData} (h : Dq H v d) : TyX K H v (.type (tyD d)) := by
  cases h with
  | non => exact .base .non
  | bl b => exact .base (.bl b)
  | int i => exact .base (.int i)
  | str x => exact .base (.str x)
  | lst e _ => exact .base (.lst e)
  | tup e _ => exact .base (.tup e)
  | dic e _ => exact .base (.dK e)
def isIntD : PyData → Bool
  | .int _ => true
  | .bool _ => true
  | _ => false
def isBoolD : PyData → Bool
  | .bool _ => true
  | _ => false
def isListD : PyData → Bool
  | .list _ => true
  | _ => false
def isStrD : PyData → Bool
  | .str _ => true
  | _ => false
theorem kit_intD {K : PySem.W.Frag} : ∀ d : PyData, PySem.W.kitOne K (.type (tyD d)) (.type "int") = some (isIntD d)
  | .none => show PySem.W.kitOne K (.type "NoneType") (.type "int") = some false from kit_ty (by decide +kernel)
  | .bool _ => show PySem.W.kitOne K (.type "bool") (.type "int") = some true from kit_ty (by decide +kernel)
  | .int _ => show PySem.W.kitOne K (.type "int") (.type "int") = some true from kit_ty (by decide +kernel)
  | .str _ => show PySem.W.kitOne K (.type "str") (.type "int") = some false from kit_ty (by decide +kernel)
  | .list _ => show PySem.W.kitOne K (.type "list") (.type "int") = some false from kit_ty (by decide +kernel)
  | .tuple _ => show PySem.W.kitOne K (.type "tuple") (.type "int") = some false from kit_ty (by decide +kernel)
  | .dict _ => show PySem.W.kitOne K (.type "dict") (.type "int") = some false from kit_ty (by decide +kernel)
theorem kit_boolD {K : PySem.W.Frag} : ∀ d : PyData, PySem.W.kitOne K (.type (tyD d)) (.type "bool") = some (isBoolD d)
  | .none => show PySem.W.kitOne K (.type "NoneType") (.type "bool") = some false from kit_ty (by decide +kernel)
  | .bool _ => show PySem.W.kitOne K (.type "bool") (.type "bool") = some true from kit_ty (by decide +kernel)
  | .int _ => show PySem.W.kitOne K (.type "int") (.type "bool") = some false from kit_ty (by decide +kernel)
  | .str _ => show PySem.W.kitOne K (.type "str") (.type "bool") = some false from kit_ty (by decide +kernel)
  | .list _ => show PySem.W.kitOne K (.type "list") (.type "bool") = some false from kit_ty (by decide +kernel)
  | .tuple _ => show PySem.W.kitOne K (.type "tuple") (.type "bool") = some false from kit_ty (by decide +kernel)
  | .dict _ => show PySem.W.kitOne K (.type "dict") (.type "bool") = some false from kit_ty (by decide +kernel)
theorem kit_listD {K : PySem.W.Frag} : ∀ d : PyData, PySem.W.kitOne K (.type (tyD d)) (.type "list") = some (isListD d)
  | .none => show PySem.W.kitOne K (.type "NoneType") (.type "list") = some false from kit_ty (by decide +kernel)
  | .bool _ => show PySem.W.kitOne K (.type "bool") (.type "list") = some false from kit_ty (by decide +kernel)
  | .int _ => show PySem.W.kitOne K (.type "int") (.type "list") = some false from kit_ty (by decide +kernel)
  | .str _ => show PySem.W.kitOne K (.type "str") (.type "list") = some false from kit_ty (by decide +kernel)
  | .list _ => show PySem.W.kitOne K (.type "list") (.type "list") = some true from kit_ty (by decide +kernel)
  | .tuple _ => show PySem.W.kitOne K (.type "tuple") (.type "list") = some false from kit_ty (by decide +kernel)
  | .dict _ => show PySem.W.kitOne K (.type "dict") (.type "list") = some false from kit_ty (by decide +kernel)
theorem kit_strD {K : PySem.W.Frag} : ∀ d : PyData, PySem.W.kitOne K (.type (tyD d)) (.type "str") = some (isStrD d)
  | .none => show PySem.W.kitOne K (.type "NoneType") (.type "str") = some false from kit_ty (by decide +kernel)
  | .bool _ => show PySem.W.kitOne K (.type "bool") (.type "str") = some false from kit_ty (by decide +kernel)
  | .int _ => show PySem.W.kitOne K (.type "int") (.type "str") = some false from kit_ty (by decide +kernel)
  | .str _ => show PySem.W.kitOne K (.type "str") (.type "str") = some true from kit_ty (by decide +kernel)
  | .list _ => show PySem.W.kitOne K (.type "list") (.type "str") = some false from kit_ty (by decide +kernel)
  | .tuple _ => show PySem.W.kitOne K (.type "tuple") (.type "str") = some false from kit_ty (by decide +kernel)
  | .dict _ => show PySem.W.kitOne K (.type "dict") (.type "str") = some false from kit_ty (by decide +kernel)
def wholeD : PyData → Bool
  | .int _ => true
  | _ => false
def GoodD (d : PyData) : Prop := ∃ ns : List Int, d = .list (ns.map PyData.int) ∧ IsOrd ns.length ns ∧ 1 ≤ ns.length ∧ ns.length ≤ 12
theorem all_ints : ∀ {ds : List PyData}, ds.all wholeD = true → ∃ ns : List Int, ds = ns.map PyData.int
  | [], _ => ⟨[], rfl⟩
  | d :: ds, h => by
    rw [List.all_cons, Bool.and_eq_true] at h
    obtain ⟨ns, e⟩ := all_ints h.2
    cases d with
    | int i => exact ⟨i :: ns, by rw [e]; rfl⟩
    | _ => cases h.1
theorem dq_intsV {H : Hp} : ∀ {ns : List Int} {vs : List V}, DqAll H vs (ns.map PyData.int) → vs = ns.map V.int
  | [], _, h => by cases h; rfl
  | n :: r, _, h => by
    rw [List.map_cons] at h
    cases h with
    | cons h1 h2 =>
      cases h1
      rw [dq_intsV h2]
      rfl
theorem intD_inj : ∀ {a b : List Int}, a.map PyData.int = b.map PyData.int → a = b
  | [], [], _ => rfl
  | [], _ :: _, h => by cases h
  | _ :: _, [], h => by cases h
  | x :: a, y :: b, h => by
    rw [List.map_cons, List.map_cons] at h
    injection h with h1 h2
    injection h1 with h1
    rw [h1, intD_inj h2]
theorem good_all {ds : List PyData} (h : GoodD (.list ds)) : ds.all wholeD = true := by
  obtain ⟨ns, e, _⟩ := h
  injection e with e
  rw [e, List.all_eq_true]
  intro x hx
  obtain ⟨i, _, rfl⟩ := List.mem_map.mp hx
  rfl
def spWholeD : Sp := fun vs H Q _ => ∃ (v : V) (d : PyData), vs = [v] ∧ Dq H v d ∧ Q (.bl (wholeD d)) H
def spIsOrdD : Sp := fun vs H Q _ => ∃ (v : V) (d : PyData), vs = [v] ∧ Dq H v d ∧ ∀ (b : Bool) (H' : Hp), (b = true ↔ GoodD d) → Same H H' → Q (.bl b) H'
def spGoodL : Sp := fun vs H Q _ => ∃ (v : V) (d : PyData), vs = [v] ∧ Dq H v d ∧ ∀ (b : Bool) (H' : Hp), (b = true ↔ GoodD d) → Same H H' → Q (.bl b) H'
theorem not_good {d : PyData} (h : isListD d = false) : (false = true ↔ GoodD d) := by
  refine ⟨fun z => absurd z Bool.false_ne_true, fun z => ?_⟩
  obtain ⟨ns, e, _⟩ := z
  rw [e] at h
  cases h
theorem not_good_len {ds : List PyData} (h : ds.length < 1 ∨ 12 < ds.length) : (false = true ↔ GoodD (.list ds)) := by
  refine ⟨fun z => absurd z Bool.false_ne_true, fun z => ?_⟩
  obtain ⟨ns, e, _, h1, h2⟩ := z
  injection e with e
  rw [e, List.length_map] at h
  omega
theorem not_good_all {ds : List PyData} (h : ds.all wholeD = false) : (false = true ↔ GoodD (.list ds)) := ⟨fun z => absurd z Bool.false_ne_true, fun z => by rw [good_all z] at h; cases h⟩
theorem all_map_id (ds : List PyData) : (ds.map wholeD).all id = ds.all wholeD := by
  rw [List.all_map]
  rfl
theorem perm_sub : ∀ {a b : List Int}, a.Nodup → (∀ x ∈ a, x ∈ b) → b.length ≤ a.length → a.Perm b
  | [], b, _, _, h => by
    have : b = [] := List.eq_nil_of_length_eq_zero (Nat.le_zero.mp h)
    rw [this]
  | x :: a, b, nd, sub, h => by
    have hx := sub x List.mem_cons_self
    have nx := (List.nodup_cons.mp nd).1
    have h1 := List.length_erase_of_mem hx
    rw [List.length_cons] at h
    refine List.Perm.trans (List.Perm.cons x (perm_sub (b := b.erase x) (List.nodup_cons.mp nd).2 (fun y hy => ?_) (by omega))) (List.perm_cons_erase hx).symm
    exact (List.mem_erase_of_ne (fun z => nx (by rw [← z]; exact hy))).mpr (sub y (List.mem_cons_of_mem _ hy))
theorem ord_of {ns : List Int} (nd : ns.Nodup) (h : ∀ x ∈ ns, 0 ≤ x ∧ x < (ns.length : Int)) : IsOrd ns.length ns := by
  have sub : ∀ x ∈ ns, x ∈ rg ns.length := fun x hx => rg_mem.mpr (h x hx)
  exact perm_sub nd sub (by rw [rg_len]; exact Nat.le_refl _)
theorem inV_ints (t : Int) : ∀ row : List Int, inV (.int t) (row.map V.int) = decide (t ∈ row)
  | [] => rfl
  | x :: r => by
    have ih := inV_ints t r
    unfold inV at ih ⊢
    have eqI : eqV (.int x) (.int t) = decide (x = t) := by
      unfold eqV
      by_cases e : x = t
      · subst e
        simp
      · simp [e]
    rw [List.map_cons, List.any_cons, ih, eqI]
    by_cases e : x = t
    · subst e
      simp
    · have e1 : ¬ t = x := fun z => e z.symm
      simp [e, e1]
theorem flatI (row : List Int) : (row.map V.int).all flatV = true := by
  rw [List.all_eq_true]
  intro x hx
  obtain ⟨i, _, rfl⟩ := List.mem_map.mp hx
  rfl
section
variable {P : Program} {w : World} {K : PySem.W.Frag} {mg : Str → Option Value} {base : Heap}
theorem scWholeD : FnScope ["thing"] ["thing"] (defScope s_is_whole) := ⟨rfl, rfl, rfl, by decide +kernel, rfl, by decide +kernel, by decide +kernel⟩
theorem ok_wholeD {f : Addr} {fd : FuncData} {k : Nat} (T : Df K mg "is_whole" s_is_whole ["thing"] f fd) (B : Bi mg) : FnOk P w K mg base CX0 (k + 1) f fd ["thing"] spWholeD := by
  refine T.F.ok scWholeD (fun vs H Q E h => ?_) (fun cdv A outer s H vs Q E hr h => ?_)
  · obtain ⟨v, d, rfl, _⟩ := h
    rfl
  · obtain ⟨v, d, rfl, hd, q⟩ := h
    refine ⟨_, 
      (pss_one (ps_ret (pe_and (pe_callB call_isi (by rfl) B.isinstance (by decide +kernel) (pa_cons (pv 0) (pa_cons (pe_bltn (v := .ty "int") (by rfl) B.int (by decide +kernel) rfl) pa_nil))) (pe_one (pe_not (pe_callB call_isi (by rfl) B.isinstance (by decide +kernel) (pa_cons (pv 0) (pa_cons (pe_bltn (v := .ty "bool") (by rfl) B.bool (by decide +kernel) rfl) pa_nil)))))))), ?_⟩
    refine ⟨_, rfl, _, _, _, _, isIntD d, rfl, .ty _, dq_ty hd, kit_intD d, _, rfl, ?_⟩
    cases d with
    | int i => exact iteT ⟨_, rfl, _, _, _, _, false, rfl, .ty _, dq_ty hd, kit_boolD _, false, rfl, q⟩
    | bool b => exact iteT ⟨_, rfl, _, _, _, _, true, rfl, .ty _, dq_ty hd, kit_boolD _, true, rfl, q⟩
    | _ => exact iteF q
theorem scIsOrdD : FnScope ["thing", "number"] ["thing"] (defScope s_is_order) := ⟨rfl, rfl, rfl, by decide +kernel, rfl, by decide +kernel, by decide +kernel⟩
set_option maxHeartbeats 2000000 in
theorem ok_isOrdD {f fW : Addr} {fd fdW : FuncData} {k : Nat} {t : Tok} (T : Df K mg "is_order" s_is_order ["thing"] f fd) (T_is_whole : Df K mg "is_whole" s_is_whole ["thing"] fW fdW) (B : Bi mg) (mM : mg "MOST_THINGS" = some (.int 12 t)) : FnOk P w K mg base CX0 (k + 2) f fd ["thing"] spIsOrdD := by
  have G_is_whole : FnOk P w K mg base CX0 (k + 1) fW fdW ["thing"] spWholeD := ok_wholeD T_is_whole B
  refine T.F.ok scIsOrdD (fun vs H Q E h => ?_) (fun cdv A outer s H vs Q E hr h => ?_)
  · obtain ⟨v, d, rfl, _⟩ := h
    rfl
  · obtain ⟨v, d, rfl, hd, q⟩ := h
    refine ⟨_, 
      (pss_cons (ps_if (PW.pt (pw_or (pt_not (pt_val (pe_callB call_isi (by rfl) B.isinstance (by decide +kernel) (pa_cons (pv 0) (pa_cons (pe_bltn (v := .ty "list") (by rfl) B.list (by decide +kernel) rfl) pa_nil))))) (pw_or (pt_cmpR op_lt (pe_callB call_len_seq (by rfl) B.len PySem.boot_len (pa_cons (pv 0) pa_nil)) pe_int (nomark _)) (pw_or1 (pt_cmpR op_gt (pe_callB call_len_seq (by rfl) B.len PySem.boot_len (pa_cons (pv 0) pa_nil)) (pe_glob (v := .int 12) (by rfl) mM ⟨_, rfl⟩) (nomark _))))))
        (pss_one (ps_ret pe_bl))
        pss_nil)
      (pss_cons (ps_if (pt_not (pt_val (pe_callB (cr_all rfl) (by rfl) B.all (by decide +kernel) (pa_cons (pe_lc (own := [("number", 1)]) (g := (gName 1)) (tt := tYes) (te := (tCall spWholeD [] E0 (tCons (tVar 1) tNil))) rfl scIsOrdD.nd (pi_list (pv 0)) (blkOk_by (N := ["thing", "number"]) (sc := defScope s_is_order) (by decide +kernel)) (fun _ _ _ _ _ => (pg_name (i := 1) scIsOrdD.nd rfl (.inl rfl))) (fun _ _ _ _ _ => pts_nil) (fun _ _ _ _ _ => (pe_call G_is_whole hr (by rfl) T_is_whole.g T_is_whole.F.kp T_is_whole.b .nil pass0 (pa_cons (pv 1) pa_nil)))) pa_nil))))
        (pss_one (ps_ret pe_bl))
        pss_nil)
      (pss_one (ps_ret (pe_cmpR (op_eqD hr.units) (pe_callB cr_sorted (by rfl) B.sorted (by decide +kernel) (pa_cons (pv 0) pa_nil)) (pe_listRg rfl (by rfl) B.list (prg_1 (by rfl) B.range (pe_callB call_len_seq (by rfl) B.len PySem.boot_len (pa_cons (pv 0) pa_nil)))) (nomark _)))))), ?_⟩
    refine ⟨_, rfl, _, _, _, _, isListD d, rfl, .ty _, dq_ty hd, kit_listD d, _, rfl, ?_⟩
    cases hl : isListD d with
    | false => exact iteT (iteT (q _ _ (not_good hl) (Same.refl _)))
    | true =>
      cases hd with
      | @lst a xs ds e al =>
        have hlen := al.len
        refine iteF ?_
        refine ⟨_, rfl, a, _, rfl, .inl (SqL.of e), _, 1, rfl, rfl, _, rfl, ite2 (fun c => ?_) (fun c => ?_)⟩
        · exact iteT (q _ _ (not_good_len (.inl (by have := of_decide_eq_true c; omega))) (Same.refl _))
        have c1 : 1 ≤ ds.length := by
          by_cases z : ds.length < 1
          · exact absurd (decide_eq_true (show ((xs.length : Nat) : Int) < 1 by omega)) c
          · omega
        refine ⟨_, rfl, a, _, rfl, .inl (SqL.of e), _, 12, rfl, rfl, _, rfl, ite2 (fun c => ?_) (fun c => ?_)⟩
        · exact q _ _ (not_good_len (.inr (by have := of_decide_eq_true c; omega))) (Same.refl _)
        have c2 : ds.length ≤ 12 := by
          by_cases z : 12 < ds.length
          · exact absurd (decide_eq_true (show (12 : Int) < ((xs.length : Nat) : Int) by omega)) c
          · omega
        refine ⟨_, rfl, a, rfl, ⟨_, SqL.of e⟩, fun p np => ?_⟩
        refine lc_list (K := K) (a := a) (xs := xs) (fun i H3 => H3 p = some (.lst (((ds.take i).map wholeD).map V.bl)) ∧ Same H H3) ⟨upd_same, same_new np⟩ (fun i H3 _ hP => SqL.of (hP.2 _ _ e)) (fun i x H3 hx hP => ?_) (fun H3 hP => ?_)
        · obtain ⟨hp3, sm⟩ := hP
          obtain ⟨d, ed, hd⟩ := al.get hx
          have hi := (List.getElem?_eq_some_iff.mp ed).1
          refine ⟨rfl, _, rfl, x, d, rfl, hd.same sm, _, hp3, line_lt (by rw [List.length_map, List.length_map, List.length_take]; omega), ?_, fun b o eb => ?_⟩
          · rw [upd_same, List.take_add_one, ed, List.map_append, List.map_append]
            rfl
          · rw [upd_ne (ne_of_none eb np)]
            exact sm _ _ eb
        · obtain ⟨hp3, sm⟩ := hP
          rw [hlen, List.take_length] at hp3
          have e3 := sm _ _ e
          refine ⟨p, _, rfl, SqL.of hp3, _, rfl, ?_⟩
          rw [all_map_id]
          cases ha : ds.all wholeD with
          | false => exact iteT (q _ _ (not_good_all ha) sm)
          | true =>
            obtain ⟨ns, ens⟩ := all_ints ha
            subst ens
            have exs := dq_intsV al
            subst exs
            rw [List.length_map] at c1 c2 hlen
            refine iteF ?_
            refine ⟨_, rfl, a, ns, rfl, SqL.of e3, by omega, fun ns' s1 hperm hsrt ns1 => ?_⟩
            have e4 := same_new (o := .lst (ns'.map V.int)) ns1 _ _ e3
            refine ⟨_, rfl, a, _, rfl, .inl (SqL.of e4), _, rfl, RgOk.of_le (by omega) (by rw [List.length_map]; omega) (by omega) (by omega), fun s2 ns2 => ?_⟩
            rw [List.length_map]
            have h1 : (upd (upd H3 s1 (.lst (ns'.map V.int))) s2 (.lst (rgV 0 (ns.length : Int)))) s1 = some (.lst (ns'.map V.int)) := same_new ns2 _ _ upd_same
            have h2 : (upd (upd H3 s1 (.lst (ns'.map V.int))) s2 (.lst (rgV 0 (ns.length : Int)))) s2 = some (.lst ((rg ns.length).map V.int)) := by rw [upd_same, rg_V]
            refine ⟨_, _, dp_list h1, dp_list h2, shaped_list _, shaped_list _, ?_⟩
            rw [show PyData.eqv (.list (ns'.map PyData.int)) (.list ((rg ns.length).map PyData.int)) = decide (ns' = rg ns.length) from eqv_ints _ _]
            refine q _ _ ⟨fun z => ?_, fun z => ?_⟩ ((sm.trans (same_new ns1)).trans (same_new ns2))
            · have z := of_decide_eq_true z
              rw [z] at hperm
              exact ⟨ns, rfl, hperm.symm, c1, c2⟩
            · obtain ⟨ms, em, ho, _⟩ := z
              injection em with em
              have em := intD_inj em
              subst em
              exact decide_eq_true (sorted_eq (hperm.trans ho) hsrt (rg_sorted _))
      | _ => cases hl
end
end Fo
namespace Fo
open PySem PySem.Spec PyProof.Rows L2
/-! how long a thing is, shown: added up -/
mutual
def wt : PyData → Nat
  | .none => 4
  | .bool _ => 5
  | .int i => (Str.ofString (toString i)).length
  | .str x => (reprText x).length
  | .list xs => wtL xs + 2
  | .tuple xs => wtL xs + 3
  | .dict kvs => wtK kvs + 2
def wtL : List PyData → Nat
  | [] => 0
  | x :: xs => wt x + 2 + wtL xs
def wtK : List (PyData × PyData) → Nat
  | [] => 0
  | (k, v) :: r => wt k + wt v + 4 + wtK r
end
theorem kvLen {k v : Str} : (k ++ Str.ofString ": " ++ v).length = k.length + v.length + 2 := by
  rw [strLen_append, strLen_append, show (Str.ofString ": ").length = 2 from rfl]
  omega
mutual
theorem shown_le : ∀ d : PyData, d.shown.length ≤ wt d
  | .none => by rw [PyData.shown, wt]; decide
  | .bool b => by rw [PyData.shown, wt]; cases b <;> decide
  | .int i => by rw [PyData.shown, wt]; exact Nat.le_refl _
  | .str x => by rw [PyData.shown, wt]; exact Nat.le_refl _
  | .list xs => by
    rw [PyData.shown, wt]
    have h1 := listText_le (PyData.shownAll xs)
    have h2 := piled_shown xs
    omega
  | .tuple xs => by
    rw [PyData.shown, wt]
    unfold tupleText
    rw [strLen_append, strLen_append]
    have h1 := join_le (PyData.shownAll xs)
    have h2 := piled_shown xs
    have e1 : (Str.ofString "(").length = 1 := rfl
    have e2 : (Str.ofString (if ((PyData.shownAll xs).length == 1) = true then ",)" else ")")).length ≤ 2 := by split <;> decide
    omega
  | .dict kvs => by
    rw [PyData.shown, wt]
    unfold dictText
    rw [strLen_append, strLen_append]
    have h1 := join_le (PyData.shownKv kvs)
    have h2 := piled_kv kvs
    have e1 : (Str.ofString "{").length = 1 := rfl
    have e2 : (Str.ofString "}").length = 1 := rfl
    omega
theorem piled_shown : ∀ xs : List PyData, piled (PyData.shownAll xs) ≤ wtL xs
  | [] => by rw [PyData.shownAll, piled_nil]; exact Nat.zero_le _
  | x :: xs => by
    rw [PyData.shownAll, piled_cons, wtL]
    have h1 := shown_le x
    have h2 := piled_shown xs
    omega
theorem piled_kv : ∀ ks : List (PyData × PyData), piled (PyData.shownKv ks) ≤ wtK ks
  | [] => by rw [PyData.shownKv, piled_nil]; exact Nat.zero_le _
  | (a, b) :: ks => by
    rw [PyData.shownKv, piled_cons, wtK]
    have h1 := shown_le a
    have h2 := shown_le b
    have h3 := piled_kv ks
    have e : (PyData.shown a ++ ": " ++ PyData.shown b).length = (PyData.shown a).length + (PyData.shown b).length + 2 := kvLen
    omega
end
/-- fit to be shown, in m signs, k deep -/
structure Rw (m k : Nat) (d : PyData) : Prop where
  s : d.showable = true
  l : wt d ≤ m
  d : d.depth ≤ k
structure Rws (m k : Nat) (ds : List PyData) : Prop where
  s : PyData.showableAll ds = true
  l : wtL ds ≤ m
  d : PyData.depthAll ds ≤ k
theorem Rw.rp {m k : Nat} {d : PyData} (h : Rw m k d) (hk : k ≤ 20) : Rp m d := ⟨h.s, Nat.le_trans (shown_le d) h.l, Nat.le_trans h.d hk⟩
theorem Rw.mono {m k m' k' : Nat} {d : PyData} (h : Rw m k d) (hm : m ≤ m') (hk : k ≤ k') : Rw m' k' d := ⟨h.s, Nat.le_trans h.l hm, Nat.le_trans h.d hk⟩
theorem Rws.mono {m k m' k' : Nat} {d : List PyData} (h : Rws m k d) (hm : m ≤ m') (hk : k ≤ k') : Rws m' k' d := ⟨h.s, Nat.le_trans h.l hm, Nat.le_trans h.d hk⟩
theorem rw_none : Rw 4 0 .none := ⟨by rw [PyData.showable], by rw [wt]; exact Nat.le_refl _, by rw [PyData.depth]; exact Nat.le_refl _⟩
theorem rw_bool (b : Bool) : Rw 5 0 (.bool b) := ⟨by rw [PyData.showable], by rw [wt]; exact Nat.le_refl _, by rw [PyData.depth]; exact Nat.le_refl _⟩
theorem log2_100 {i : Int} (h1 : -100000000000000000000000000 ≤ i) (h2 : i ≤ 100000000000000000000000000) : i.natAbs.log2 < 100 := by
  by_cases z : i.natAbs = 0
  · rw [z]
    decide
  · rw [Nat.log2_lt z]
    have : (2 : Nat) ^ 100 = 1267650600228229401496703205376 := by decide
    omega
theorem rw_int {i : Int} (h1 : -100000000000000000000000000 ≤ i) (h2 : i ≤ 100000000000000000000000000) : Rw 110 0 (.int i) := by
  have h := log2_100 h1 h2
  refine ⟨by rw [PyData.showable]; exact decide_eq_true (by omega), ?_, by rw [PyData.depth]; exact Nat.le_refl _⟩
  rw [wt]
  have := int_text_length_le (k := 100) (by decide) h
  rw [PySem.ofString_length]
  omega
theorem rw_str {x : Str} {n : Nat} (h : (reprText x).length ≤ n) : Rw n 0 (.str x) := ⟨by rw [PyData.showable], by rw [wt]; exact h, by rw [PyData.depth]; exact Nat.le_refl _⟩
theorem rws_nil {k : Nat} : Rws 0 k [] := ⟨by rw [PyData.showableAll], by rw [wtL]; exact Nat.le_refl _, by rw [PyData.depthAll]; exact Nat.zero_le _⟩
theorem rws_cons {a b k : Nat} {d : PyData} {ds : List PyData} (h : Rw a k d) (g : Rws b k ds) : Rws (a + 2 + b) k (d :: ds) :=
  ⟨by rw [PyData.showableAll, h.s, g.s]; rfl, by rw [wtL]; have := h.l; have := g.l; omega, by rw [PyData.depthAll]; exact Nat.max_le.mpr ⟨h.d, g.d⟩⟩
theorem rws_ints {b : Nat} : ∀ {ns : List Int}, (∀ x ∈ ns, -100000000000000000000000000 ≤ x ∧ x ≤ 100000000000000000000000000) → Rws (ns.length * 112) b (ns.map PyData.int)
  | [], _ => by rw [List.map_nil, List.length_nil, Nat.zero_mul]; exact rws_nil
  | x :: r, h => by
    have h1 := h x List.mem_cons_self
    have h2 := rws_cons ((rw_int h1.1 h1.2).mono (Nat.le_refl _) (Nat.zero_le b)) (rws_ints (b := b) (ns := r) fun y hy => h y (List.mem_cons_of_mem _ hy))
    exact h2.mono (by rw [List.length_cons, Nat.succ_mul]; omega) (Nat.le_refl _)
theorem rw_list {m k : Nat} {ds : List PyData} (h : Rws m k ds) : Rw (m + 2) (k + 1) (.list ds) := ⟨by rw [PyData.showable]; exact h.s, by rw [wt]; have := h.l; omega, by rw [PyData.depth]; exact Nat.succ_le_succ h.d⟩
theorem rw_tup {m k : Nat} {ds : List PyData} (h : Rws m k ds) : Rw (m + 3) (k + 1) (.tuple ds) := ⟨by rw [PyData.showable]; exact h.s, by rw [wt]; have := h.l; omega, by rw [PyData.depth]; exact Nat.succ_le_succ h.d⟩
theorem wtL_app : ∀ a b : List PyData, wtL (a ++ b) = wtL a + wtL b
  | [], b => by rw [List.nil_append, wtL, Nat.zero_add]
  | x :: a, b => by
    rw [List.cons_append, wtL, wtL, wtL_app a b]
    omega
theorem showAll_app : ∀ a b : List PyData, PyData.showableAll (a ++ b) = (PyData.showableAll a && PyData.showableAll b)
  | [], b => by rw [List.nil_append, PyData.showableAll, Bool.true_and]
  | x :: a, b => by rw [List.cons_append, PyData.showableAll, PyData.showableAll, showAll_app a b, Bool.and_assoc]
theorem depAll_app : ∀ a b : List PyData, PyData.depthAll (a ++ b) = max (PyData.depthAll a) (PyData.depthAll b)
  | [], b => by rw [List.nil_append, PyData.depthAll, Nat.zero_max]
  | x :: a, b => by
    rw [List.cons_append, PyData.depthAll, PyData.depthAll, depAll_app a b]
    omega
theorem Rws.app {m n k : Nat} {a b : List PyData} (h : Rws m k a) (g : Rws n k b) : Rws (m + n) k (a ++ b) :=
  ⟨by rw [showAll_app, h.s, g.s]; rfl, by rw [wtL_app]; have := h.l; have := g.l; omega, by rw [depAll_app]; exact Nat.max_le.mpr ⟨h.d, g.d⟩⟩
theorem Rws.left {m k : Nat} {a b : List PyData} (h : Rws m k (a ++ b)) : Rws m k a := by
  have h1 := h.s
  have h2 := h.l
  have h3 := h.d
  rw [showAll_app, Bool.and_eq_true] at h1
  rw [wtL_app] at h2
  rw [depAll_app] at h3
  exact ⟨h1.1, by omega, by omega⟩
theorem Rws.right {m k : Nat} {a b : List PyData} (h : Rws m k (a ++ b)) : Rws m k b := by
  have h1 := h.s
  have h2 := h.l
  have h3 := h.d
  rw [showAll_app, Bool.and_eq_true] at h1
  rw [wtL_app] at h2
  rw [depAll_app] at h3
  exact ⟨h1.2, by omega, by omega⟩
theorem Rws.take {m k : Nat} {a : List PyData} (h : Rws m k a) (n : Nat) : Rws m k (a.take n) := Rws.left (b := a.drop n) (by rw [List.take_append_drop]; exact h)
theorem Rws.drop {m k : Nat} {a : List PyData} (h : Rws m k a) (n : Nat) : Rws m k (a.drop n) := Rws.right (a := a.take n) (by rw [List.take_append_drop]; exact h)
theorem Rws.mem {m k : Nat} {x : PyData} : ∀ {a : List PyData}, Rws m k a → x ∈ a → Rw m k x
  | [], _, h => absurd h List.not_mem_nil
  | y :: a, h, hx => by
    have h1 := h.s
    have h2 := h.l
    have h3 := h.d
    rw [PyData.showableAll, Bool.and_eq_true] at h1
    rw [wtL] at h2
    rw [PyData.depthAll] at h3
    rcases List.mem_cons.mp hx with rfl | hx
    · exact ⟨h1.1, by omega, by omega⟩
    · exact Rws.mem (a := a) ⟨h1.2, by omega, by omega⟩ hx
theorem Rw.lst {m k : Nat} {ds : List PyData} (h : Rw m k (.list ds)) : ∃ j, j + 1 = k ∧ Rws m j ds := by
  have h1 := h.s
  have h2 := h.l
  have h3 := h.d
  rw [PyData.showable] at h1
  rw [wt] at h2
  rw [PyData.depth] at h3
  exact ⟨k - 1, by omega, h1, by omega, by omega⟩
theorem Rw.lsts {m k : Nat} {ds : List PyData} (h : Rw m k (.list ds)) : Rws m k ds := by
  obtain ⟨j, e, h⟩ := h.lst
  exact h.mono (Nat.le_refl _) (by omega)
theorem rw_cat {m n k : Nat} {a b : List PyData} (h : Rw m k (.list a)) (g : Rw n k (.list b)) : Rw (m + n) k (.list (a ++ b)) := by
  have h1 := h.s
  have h2 := h.l
  have h3 := h.d
  have g1 := g.s
  have g2 := g.l
  have g3 := g.d
  rw [PyData.showable] at h1 g1
  rw [wt] at h2 g2
  rw [PyData.depth] at h3 g3
  exact ⟨by rw [PyData.showable, showAll_app, h1, g1]; rfl, by rw [wt, wtL_app]; omega, by rw [PyData.depth, depAll_app]; omega⟩
theorem rw_take {m k : Nat} {a : List PyData} (h : Rw m k (.list a)) (n : Nat) : Rw m k (.list (a.take n)) := by
  have h1 := h.s
  have h2 := h.l
  have h3 := h.d
  rw [PyData.showable] at h1
  rw [wt] at h2
  rw [PyData.depth] at h3
  obtain ⟨g1, g2, g3⟩ := Rws.take ⟨h1, Nat.le_refl _, Nat.le_refl _⟩ n
  exact ⟨by rw [PyData.showable]; exact g1, by rw [wt]; omega, by rw [PyData.depth]; omega⟩
theorem rw_drop {m k : Nat} {a : List PyData} (h : Rw m k (.list a)) (n : Nat) : Rw m k (.list (a.drop n)) := by
  have h1 := h.s
  have h2 := h.l
  have h3 := h.d
  rw [PyData.showable] at h1
  rw [wt] at h2
  rw [PyData.depth] at h3
  obtain ⟨g1, g2, g3⟩ := Rws.drop ⟨h1, Nat.le_refl _, Nat.le_refl _⟩ n
  exact ⟨by rw [PyData.showable]; exact g1, by rw [wt]; omega, by rw [PyData.depth]; omega⟩
theorem rw_mem {m k : Nat} {a : List PyData} {x : PyData} (h : Rw m k (.list a)) (hx : x ∈ a) : Rw m k x := h.lsts.mem hx
theorem rw_totup {m k : Nat} {a : List PyData} (h : Rw m k (.list a)) : Rw (m + 1) k (.tuple a) := by
  have h1 := h.s
  have h2 := h.l
  have h3 := h.d
  rw [PyData.showable] at h1
  rw [wt] at h2
  rw [PyData.depth] at h3
  exact ⟨by rw [PyData.showable]; exact h1, by rw [wt]; omega, by rw [PyData.depth]; omega⟩
theorem rw_repl {m k : Nat} {x : PyData} (h : Rw m k x) : ∀ n : Nat, Rws (n * (m + 2)) k (List.replicate n x)
  | 0 => rws_nil.mono (Nat.zero_le _) (Nat.le_refl _)
  | n + 1 => by
    rw [List.replicate_succ]
    exact (rws_cons h (rw_repl h n)).mono (by rw [Nat.succ_mul]; omega) (Nat.le_refl _)
theorem rw_dict1 {m n : Nat} {k v : PyData} (h : Rw m 0 k) (g : Rw n 0 v) : Rw (m + n + 6) 1 (.dict [(k, v)]) :=
  ⟨by rw [PyData.showable, PyData.showableKv, h.s, g.s, PyData.showableKv]; rfl, by rw [wt, wtK, wtK]; have := h.l; have := g.l; omega, by
    rw [PyData.depth, PyData.depthKv, PyData.depthKv]
    have := h.d
    have := g.d
    omega⟩
theorem rw_dict0 : Rw 2 1 (.dict []) := ⟨by rw [PyData.showable, PyData.showableKv], by rw [wt, wtK]; decide, by rw [PyData.depth, PyData.depthKv]; decide⟩
end Fo
namespace Fo
open PySem PySem.Spec PyProof.Rows L2
/-! expressions that make things of any kind: what they are, and how long they are shown -/
/-- what draws numbers, and what stays while it draws -/
structure Src where
  At : Hp → Prop
  Kp : Hp → Hp → Prop
  cut : Hp → Hp
  refl : ∀ H, Kp H H
  trans : ∀ {a b c}, Kp a b → Kp b c → Kp a c
  kp : ∀ {H H'}, Kp H H' → Same (cut H) (cut H')
  le : ∀ H, Same (cut H) H
  same : ∀ {H H'}, At H → Same H H' → At H' ∧ Kp H H'
  put : ∀ {H H1 p} (o : HO), At H → Kp H H1 → At H1 → H p = none → At (upd H1 p o) ∧ Kp H (upd H1 p o) ∧ (cut (upd H1 p o)) p = some o ∧ ∀ b, b ≠ p → cut (upd H1 p o) b = cut H1 b
theorem Src.new (S : Src) {H : Hp} {p : Addr} (o : HO) (h : S.At H) (np : H p = none) : (S.cut (upd H p o)) p = some o := (S.put o h (S.refl H) h np).2.2.1
def Od (S : Src) (m k : Nat) (B : PyData → Prop) (H : Hp) (v : V) : Prop := ∃ d, Dq (S.cut H) v d ∧ Rw m k d ∧ B d
theorem Od.kp {S : Src} {m k : Nat} {B : PyData → Prop} {H H' : Hp} {v : V} (h : Od S m k B H v) (e : S.Kp H H') : Od S m k B H' v := by
  obtain ⟨d, h1, h2, h3⟩ := h
  exact ⟨d, h1.same (S.kp e), h2, h3⟩
theorem Od.mono {S : Src} {m k m' k' : Nat} {B C : PyData → Prop} {H : Hp} {v : V} (h : Od S m k B H v) (hm : m ≤ m') (hk : k ≤ k') (i : ∀ d, B d → C d) : Od S m' k' C H v := by
  obtain ⟨d, h1, h2, h3⟩ := h
  exact ⟨d, h1, h2.mono hm hk, i d h3⟩
abbrev bT : PyData → Prop := fun _ => True
abbrev oL (A : List PyData → Prop) : PyData → Prop := fun d => ∃ ds, d = .list ds ∧ A ds
abbrev oT (A : List PyData → Prop) : PyData → Prop := fun d => ∃ ds, d = .tuple ds ∧ A ds
abbrev oI (A : Int → Prop) : PyData → Prop := fun d => ∃ i, d = .int i ∧ A i
abbrev oS (A : Str → Prop) : PyData → Prop := fun d => ∃ x, d = .str x ∧ A x
def OE (S : Src) (t : TE) (σ : L2.St) (H : Hp) (m k : Nat) (B : PyData → Prop) : Prop := ∀ H1 Q, S.Kp H H1 → S.At H1 → (∀ v H2, S.Kp H1 H2 → S.At H2 → Od S m k B H2 v → Q v H2) → t σ H1 Q
def OA (S : Src) (t : TA) (σ : L2.St) (H : Hp) (m k : Nat) (A : List PyData → Prop) : Prop := ∀ H1 Q, S.Kp H H1 → S.At H1 → (∀ vs H2, S.Kp H1 H2 → S.At H2 → (∃ ds, DqAll (S.cut H2) vs ds ∧ Rws m k ds ∧ A ds) → Q vs H2) → t σ H1 Q
def OO (S : Src) (t : TO) (σ : L2.St) (H : Hp) (P : Option Int → Prop) : Prop := ∀ H1 Q, S.Kp H H1 → S.At H1 → (∀ o H2, S.Kp H1 H2 → S.At H2 → P o → Q o H2) → t σ H1 Q
section
variable {S : Src} {σ : L2.St} {H : Hp} {m k a b : Nat} {B C : PyData → Prop} {t u : TE}
theorem OE.kp (h : OE S t σ H m k B) {H' : Hp} (e : S.Kp H H') : OE S t σ H' m k B := fun H1 Q e1 at1 q => h H1 Q (S.trans e e1) at1 q
theorem OE.mono (h : OE S t σ H m k B) {m' k' : Nat} (hm : m ≤ m') (hk : k ≤ k') (i : ∀ d, B d → C d) : OE S t σ H m' k' C := fun H1 Q e1 at1 q => h H1 Q e1 at1 fun v H2 e2 at2 o => q v H2 e2 at2 (o.mono hm hk i)
theorem OE.imp (h : OE S t σ H m k B) (i : ∀ d, B d → C d) : OE S t σ H m k C := h.mono (Nat.le_refl _) (Nat.le_refl _) i
theorem oe_var {i : Nat} {v : V} (e : σ[i]? = some (some v)) (o : Od S m a B H v) (hk : a ≤ k) : OE S (tVar i) σ H m k B := fun H1 _ e1 at1 q => ⟨v, e, q v H1 (S.refl _) at1 ((o.kp e1).mono (Nat.le_refl _) hk fun _ h => h)⟩
theorem oe_v {i : Nat} {v : V} (e : σ[i]? = some (some v)) (o : Od S m k B H v) : OE S (tVar i) σ H m k B := fun H1 _ e1 at1 q => ⟨v, e, q v H1 (S.refl _) at1 (o.kp e1)⟩
theorem oe_c {v : V} {d : PyData} (h : ∀ G, Dq G v d) (r : Rw m 0 d) : OE S (tC v) σ H m 0 (fun x => x = d) := fun H1 _ _ at1 q => q v H1 (S.refl _) at1 ⟨d, h _, r, rfl⟩
theorem oe_non : OE S (tC .non) σ H 4 0 (fun x => x = .none) := oe_c (fun _ => .non) rw_none
theorem oe_bl (x : Bool) : OE S (tC (.bl x)) σ H 5 0 (fun d => d = .bool x) := oe_c (fun _ => .bl x) (rw_bool x)
theorem oe_int {i : Int} (h : -100000000000000000000000000 ≤ i ∧ i ≤ 100000000000000000000000000) : OE S (tC (.int i)) σ H 110 0 (fun d => d = .int i) := oe_c (fun _ => .int i) (rw_int h.1 h.2)
theorem oe_intI {i : Int} (h : -100000000000000000000000000 ≤ i ∧ i ≤ 100000000000000000000000000) : OE S (tC (.int i)) σ H 110 0 (oI fun j => j = i) := (oe_int h).imp fun _ e => ⟨i, e, rfl⟩
theorem oe_str {x : Str} (n : Nat) (h : (reprText x).length ≤ n) : OE S (tC (.str x)) σ H n 0 (fun d => d = .str x) := oe_c (fun _ => .str x) (rw_str h)
theorem oa_nil : OA S tNil σ H 0 0 (fun ds => ds = []) := fun H1 _ _ at1 q => q [] H1 (S.refl _) at1 ⟨[], .nil, rws_nil, rfl⟩
theorem oa_nilN (C : PyData → Prop) : OA S tNil σ H 0 0 (fun ds => ds.length = 0 ∧ ∀ x ∈ ds, C x) := fun H1 _ _ at1 q => q [] H1 (S.refl _) at1 ⟨[], .nil, rws_nil, rfl, fun _ h => absurd h List.not_mem_nil⟩
theorem oa_cons {r : TA} {k2 : Nat} {A : List PyData → Prop} (h : OE S t σ H a k B) (g : OA S r σ H b k2 A) : OA S (tCons t r) σ H (a + 2 + b) (max k k2) (fun ds => ∃ x y, ds = x :: y ∧ B x ∧ A y) := fun H1 Q e1 at1 q =>
  h H1 _ e1 at1 fun v H2 e2 at2 o => g H2 _ (S.trans e1 e2) at2 fun vs H3 e3 at3 p => by
    obtain ⟨x, h1, h2, h3⟩ := o.kp e3
    obtain ⟨y, g1, g2, g3⟩ := p
    exact q (v :: vs) H3 (S.trans e2 e3) at3 ⟨x :: y, .cons h1 g1, rws_cons (h2.mono (Nat.le_refl _) (Nat.le_max_left _ _)) (g2.mono (Nat.le_refl _) (Nat.le_max_right _ _)), x, y, rfl, h3, g3⟩
theorem oa_consN {r : TA} {n k2 : Nat} {C : PyData → Prop} (h : OE S t σ H a k B) (i : ∀ d, B d → C d) (g : OA S r σ H b k2 (fun ds => ds.length = n ∧ ∀ x ∈ ds, C x)) : OA S (tCons t r) σ H (a + 2 + b) (max k k2) (fun ds => ds.length = n + 1 ∧ ∀ x ∈ ds, C x) := fun H1 Q e1 at1 q =>
  oa_cons h g H1 Q e1 at1 fun vs H2 e2 at2 o => by
    obtain ⟨_, h1, h2, x, y, rfl, h3, h4, h5⟩ := o
    refine q vs H2 e2 at2 ⟨x :: y, h1, h2, by rw [List.length_cons, h4], fun z hz => ?_⟩
    rcases List.mem_cons.mp hz with rfl | hz
    · exact i _ h3
    · exact h5 z hz
theorem wtL_len : ∀ ds : List PyData, ds.length ≤ wtL ds
  | [] => Nat.zero_le _
  | d :: ds => by
    rw [wtL, List.length_cons]
    have := wtL_len ds
    omega
theorem oe_lst {r : TA} {A : List PyData → Prop} (h : OA S r σ H m k A) (hm : m ≤ 16777216) : OE S (tLst r) σ H (m + 2) (k + 1) (oL A) := fun H1 Q e1 at1 q =>
  h H1 _ e1 at1 fun vs H2 e2 at2 o => by
    obtain ⟨ds, h1, h2, h3⟩ := o
    have hl := wtL_len ds
    have := h2.l
    refine ⟨line_small (by rw [h1.len]; omega), fun p np => ?_⟩
    obtain ⟨at3, e3⟩ := S.same at2 (same_new (o := .lst vs) np)
    exact q _ _ (S.trans e2 e3) at3 ⟨.list ds, .lst (S.new _ at2 np) (h1.same (S.kp e3)), rw_list h2, ds, rfl, h3⟩
theorem oe_tup {r : TA} {A : List PyData → Prop} (h : OA S r σ H m k A) (hm : m ≤ 16777216) : OE S (tTup r) σ H (m + 3) (k + 1) (oT A) := fun H1 Q e1 at1 q =>
  h H1 _ e1 at1 fun vs H2 e2 at2 o => by
    obtain ⟨ds, h1, h2, h3⟩ := o
    have hl := wtL_len ds
    have := h2.l
    refine ⟨line_small (by rw [h1.len]; omega), fun p np => ?_⟩
    obtain ⟨at3, e3⟩ := S.same at2 (same_new (o := .tup vs) np)
    exact q _ _ (S.trans e2 e3) at3 ⟨.tuple ds, .tup (S.new _ at2 np) (h1.same (S.kp e3)), rw_tup h2, ds, rfl, h3⟩
theorem dq_lst {G : Hp} {v : V} {ds : List PyData} (h : Dq G v (.list ds)) : ∃ p xs, v = .ref p ∧ G p = some (.lst xs) ∧ DqAll G xs ds := by
  cases h with
  | @lst p xs _ e al => exact ⟨p, xs, rfl, e, al⟩
theorem dq_tupI {G : Hp} {v : V} {ds : List PyData} (h : Dq G v (.tuple ds)) : ∃ p xs, v = .ref p ∧ G p = some (.tup xs) ∧ DqAll G xs ds := by
  cases h with
  | @tup p xs _ e al => exact ⟨p, xs, rfl, e, al⟩
theorem dq_intI {G : Hp} {v : V} {i : Int} (h : Dq G v (.int i)) : v = .int i := by
  cases h with
  | int => rfl
theorem dq_strI {G : Hp} {v : V} {x : Str} (h : Dq G v (.str x)) : v = .str x := by
  cases h with
  | str => rfl
theorem rw_len {ds : List PyData} (h : Rw m k (.list ds)) : ds.length ≤ m := by
  have h2 := h.l
  rw [wt] at h2
  have := wtL_len ds
  omega
theorem oe_cat {k2 : Nat} {A A' : List PyData → Prop} (h : OE S t σ H a k (oL A)) (g : OE S u σ H b k2 (oL A')) (hm : a + b ≤ 16777216) : OE S (tOp rCat t u) σ H (a + b) (max k k2) (oL fun ds => ∃ x y, ds = x ++ y ∧ A x ∧ A' y) := fun H1 Q e1 at1 q =>
  h H1 _ e1 at1 fun v H2 e2 at2 o => g H2 _ (S.trans e1 e2) at2 fun w H3 e3 at3 o' => by
    obtain ⟨_, h1, h2, x, rfl, h3⟩ := o.kp e3
    obtain ⟨_, g1, g2, y, rfl, g3⟩ := o'
    obtain ⟨p, xs, rfl, hp, ax⟩ := dq_lst h1
    obtain ⟨r, ys, rfl, hr, ay⟩ := dq_lst g1
    have l1 := rw_len h2
    have l2 := rw_len g2
    refine ⟨p, r, xs, ys, rfl, rfl, S.le _ _ _ hp, S.le _ _ _ hr, line_small (by rw [ax.len, ay.len]; omega), fun c nc => ?_⟩
    obtain ⟨at4, e4⟩ := S.same at3 (same_new (o := .lst (xs ++ ys)) nc)
    exact q _ _ (S.trans (S.trans e2 e3) e4) at4 ⟨.list (x ++ y), .lst (S.new _ at3 nc) ((ax.app ay).same (S.kp e4)), rw_cat (h2.mono (Nat.le_refl _) (Nat.le_max_left _ _)) (g2.mono (Nat.le_refl _) (Nat.le_max_right _ _)), x ++ y, rfl, x, y, rfl, h3, g3⟩
theorem oe_catN {n1 n2 k2 : Nat} (h : OE S t σ H a k (oL fun ds => ds.length = n1 ∧ ∀ x ∈ ds, C x)) (g : OE S u σ H b k2 (oL fun ds => ds.length = n2 ∧ ∀ x ∈ ds, C x)) (hm : a + b ≤ 16777216) : OE S (tOp rCat t u) σ H (a + b) (max k k2) (oL fun ds => ds.length = n1 + n2 ∧ ∀ x ∈ ds, C x) :=
  (oe_cat h g hm).imp fun d hd => by
    obtain ⟨_, rfl, x, y, rfl, ⟨h1, h2⟩, g1, g2⟩ := hd
    refine ⟨_, rfl, by rw [List.length_append, h1, g1], fun z hz => ?_⟩
    rcases List.mem_append.mp hz with hz | hz
    · exact h2 z hz
    · exact g2 z hz
/-- a slice of anything -/
def cutG {α : Type} (xs : List α) (lo hi : Option Int) : List α := (xs.drop (HT.sIx xs.length 0 lo)).take (HT.sIx xs.length xs.length hi - HT.sIx xs.length 0 lo)
theorem DqAll.cut {G : Hp} {vs : List V} {ds : List PyData} (h : DqAll G vs ds) (lo hi : Option Int) : DqAll G (cutV vs lo hi) (cutG ds lo hi) := by
  unfold cutV cutG
  rw [h.len]
  exact (h.drop _).take _
theorem oo_none : OO S tNoPart σ H (fun o => o = none) := fun H1 _ _ at1 q => q none H1 (S.refl _) at1 rfl
theorem oo_some {A : Int → Prop} (h : OE S t σ H m k (oI A)) : OO S (tPart t) σ H (fun o => ∃ i, o = some i ∧ A i) := fun H1 _ e1 at1 q => h H1 _ e1 at1 fun v H2 e2 at2 o => by
  obtain ⟨_, h1, _, i, rfl, h3⟩ := o
  exact ⟨i, dq_intI h1, q _ _ e2 at2 ⟨i, rfl, h3⟩⟩
theorem oe_sl {K : PySem.W.Frag} {A : List PyData → Prop} {tl th : TO} {P R : Option Int → Prop} (h : OE S t σ H m k (oL A)) (hl : OO S tl σ H P) (hh : OO S th σ H R) : OE S (tSl (rSlL K) t tl th) σ H m k (oL fun ds => ∃ x l u, ds = cutG x l u ∧ A x ∧ P l ∧ R u) := fun H1 Q e1 at1 q =>
  h H1 _ e1 at1 fun v H2 e2 at2 o => hl H2 _ (S.trans e1 e2) at2 fun l H3 e3 at3 pl => hh H3 _ (S.trans e1 (S.trans e2 e3)) at3 fun u H4 e4 at4 pu => by
    obtain ⟨_, h1, h2, x, rfl, h3⟩ := o.kp (S.trans e3 e4)
    obtain ⟨p, xs, rfl, hp, ax⟩ := dq_lst h1
    refine ⟨p, xs, rfl, SqL.of (S.le _ _ _ hp), fun c nc => ?_⟩
    obtain ⟨at5, e5⟩ := S.same at4 (same_new (o := .lst (cutV xs l u)) nc)
    exact q _ _ (S.trans (S.trans (S.trans e2 e3) e4) e5) at5 ⟨.list (cutG x l u), .lst (S.new _ at4 nc) ((ax.cut l u).same (S.kp e5)), rw_take (rw_drop h2 _) _, _, rfl, x, l, u, rfl, h3, pl, pu⟩
theorem oe_add {A A' : Int → Prop} (h : OE S t σ H m a (oI A)) (g : OE S u σ H m b (oI A')) (hb : ∀ i j, A i → A' j → -100000000000000000000000000 ≤ i + j ∧ i + j ≤ 100000000000000000000000000) : OE S (tOp (rI0 fun i j => .int (i + j)) t u) σ H 110 0 (oI fun z => ∃ i j, z = i + j ∧ A i ∧ A' j) := fun H1 Q e1 at1 q =>
  h H1 _ e1 at1 fun v H2 e2 at2 o => g H2 _ (S.trans e1 e2) at2 fun w H3 e3 at3 o' => by
    obtain ⟨_, h1, _, i, rfl, h3⟩ := o.kp e3
    obtain ⟨_, g1, _, j, rfl, g3⟩ := o'
    have hz := hb i j h3 g3
    exact ⟨i, j, dq_intI h1, dq_intI g1, q _ _ (S.trans e2 e3) at3 ⟨.int (i + j), .int _, rw_int hz.1 hz.2, _, rfl, i, j, rfl, h3, g3⟩⟩
theorem oe_sub {A A' : Int → Prop} (h : OE S t σ H m a (oI A)) (g : OE S u σ H m b (oI A')) (hb : ∀ i j, A i → A' j → -100000000000000000000000000 ≤ i - j ∧ i - j ≤ 100000000000000000000000000) : OE S (tOp (rI0 fun i j => .int (i - j)) t u) σ H 110 0 (oI fun z => ∃ i j, z = i - j ∧ A i ∧ A' j) := fun H1 Q e1 at1 q =>
  h H1 _ e1 at1 fun v H2 e2 at2 o => g H2 _ (S.trans e1 e2) at2 fun w H3 e3 at3 o' => by
    obtain ⟨_, h1, _, i, rfl, h3⟩ := o.kp e3
    obtain ⟨_, g1, _, j, rfl, g3⟩ := o'
    have hz := hb i j h3 g3
    exact ⟨i, j, dq_intI h1, dq_intI g1, q _ _ (S.trans e2 e3) at3 ⟨.int (i - j), .int _, rw_int hz.1 hz.2, _, rfl, i, j, rfl, h3, g3⟩⟩
theorem oe_neg {A : Int → Prop} (h : OE S t σ H m a (oI A)) (hb : ∀ i, A i → -100000000000000000000000000 ≤ -i ∧ -i ≤ 100000000000000000000000000) : OE S (tUn (rU fun i => .int (-i)) t) σ H 110 0 (oI fun z => ∃ i, z = -i ∧ A i) := fun H1 Q e1 at1 q =>
  h H1 _ e1 at1 fun v H2 e2 at2 o => by
    obtain ⟨_, h1, _, i, rfl, h3⟩ := o
    have hz := hb i h3
    exact ⟨i, dq_intI h1, q _ _ e2 at2 ⟨.int (-i), .int _, rw_int hz.1 hz.2, _, rfl, i, rfl, h3⟩⟩
theorem oe_pow {i j : Int} (hc : CPow i j) (hb : -100000000000000000000000000 ≤ i ^ j.toNat ∧ i ^ j.toNat ≤ 100000000000000000000000000) : OE S (tOp (rI CPow fun i j => .int (i ^ j.toNat)) (tC (.int i)) (tC (.int j))) σ H 110 0 (oI fun z => z = i ^ j.toNat) := fun H1 Q e1 at1 q =>
  ⟨i, j, rfl, rfl, hc, q _ _ (S.refl _) at1 ⟨.int (i ^ j.toNat), .int _, rw_int hb.1 hb.2, _, rfl, rfl⟩⟩
theorem oe_ix {K : PySem.W.Frag} {n : Nat} {A : Int → Prop} (h : OE S t σ H m k (oL fun ds => ds.length = n ∧ ∀ x ∈ ds, B x)) (g : OE S u σ H a b (oI A)) (hi : ∀ i, A i → 0 ≤ i ∧ i < (n : Int)) : OE S (tOp (rIxL K) t u) σ H m k B := fun H1 Q e1 at1 q =>
  h H1 _ e1 at1 fun v H2 e2 at2 o => g H2 _ (S.trans e1 e2) at2 fun w H3 e3 at3 o' => by
    obtain ⟨_, h1, h2, x, rfl, h3, h4⟩ := o.kp e3
    obtain ⟨_, g1, _, i, rfl, gi⟩ := o'
    obtain ⟨i0, i1⟩ := hi i gi
    obtain ⟨p, xs, rfl, hp, ax⟩ := dq_lst h1
    have hl := ax.len
    have hi : i.toNat < xs.length := by omega
    have ev : xs[i.toNat]? = some xs[i.toNat] := List.getElem?_eq_getElem hi
    obtain ⟨d, ed, hd⟩ := ax.get ev
    have md := List.mem_of_getElem? ed
    refine ⟨p, xs, i, xs[i.toNat], rfl, dq_intI g1, SqL.of (S.le _ _ _ hp), at_of (j := i.toNat) (Int.toNat_of_nonneg i0).symm ev, ?_⟩
    exact q _ _ (S.trans e2 e3) at3 ⟨d, hd, rw_mem h2 md, h4 d md⟩
theorem oe_ixI {K : PySem.W.Frag} {ns : List Int} {A : Int → Prop} (h : OE S t σ H m k (oL fun ds => ds = ns.map PyData.int)) (g : OE S u σ H a b (oI A)) (hi : ∀ i, A i → 0 ≤ i ∧ i < (ns.length : Int)) : OE S (tOp (rIxL K) t u) σ H m k (oI fun z => z ∈ ns) :=
  oe_ix (n := ns.length) (h.imp fun d hd => by obtain ⟨ds, rfl, rfl⟩ := hd; exact ⟨_, rfl, List.length_map _, fun x hx => by obtain ⟨y, hy, rfl⟩ := List.mem_map.mp hx; exact ⟨y, rfl, hy⟩⟩) g hi
theorem oe_lenI {K : PySem.W.Frag} {ns : List Int} (h : OE S t σ H m a (oL fun ds => ds = ns.map PyData.int)) (hn : ns.length ≤ 10000) : OE S (tCB (rLenS K) (tCons t tNil)) σ H 110 0 (oI fun z => z = (ns.length : Int)) := fun H1 Q e1 at1 q =>
  h H1 _ e1 at1 fun v H2 e2 at2 o => by
    obtain ⟨_, h1, h2, x, rfl, rfl⟩ := o
    obtain ⟨p, xs, rfl, hp, ax⟩ := dq_lst h1
    refine ⟨p, xs, rfl, .inl (SqL.of (S.le _ _ _ hp)), ?_⟩
    rw [ax.len, List.length_map]
    exact q _ _ e2 at2 ⟨.int (ns.length : Int), .int _, rw_int (by omega) (by omega), _, rfl, rfl⟩
theorem od_isI {i : Int} (h : Od S m k B H (.int i)) : Od S m k (oI fun j => j = i) H (.int i) := by
  obtain ⟨d, h1, h2, _⟩ := h
  cases h1 with
  | int => exact ⟨_, .int i, h2, i, rfl, rfl⟩
theorem oe_len {K : PySem.W.Frag} {A : List PyData → Prop} (h : OE S t σ H m a (oL A)) (hm : m ≤ 16777216) : OE S (tCB (rLenS K) (tCons t tNil)) σ H 110 0 (oI fun z => ∃ ds : List PyData, z = ds.length ∧ A ds ∧ ds.length ≤ m) := fun H1 Q e1 at1 q =>
  h H1 _ e1 at1 fun v H2 e2 at2 o => by
    obtain ⟨_, h1, h2, x, rfl, h3⟩ := o
    obtain ⟨p, xs, rfl, hp, ax⟩ := dq_lst h1
    have hl := rw_len h2
    refine ⟨p, xs, rfl, .inl (SqL.of (S.le _ _ _ hp)), ?_⟩
    rw [ax.len]
    exact q _ _ e2 at2 ⟨.int (x.length : Int), .int _, rw_int (by omega) (by omega), _, rfl, x, rfl, h3, hl⟩
theorem oe_tupOf {K : PySem.W.Frag} {A : List PyData → Prop} (h : OE S t σ H m k (oL A)) : OE S (tCB (fun xs H Q => ∃ p ys, xs = [.ref p] ∧ ((SqL K H p ys ∧ ∀ l, H l = none → Q (.ref l) (upd H l (.tup ys))) ∨ (SqT K H p ys ∧ Q (.ref p) H))) (tCons t tNil)) σ H (m + 1) k (oT A) := fun H1 Q e1 at1 q =>
  h H1 _ e1 at1 fun v H2 e2 at2 o => by
    obtain ⟨_, h1, h2, x, rfl, h3⟩ := o
    obtain ⟨p, xs, rfl, hp, ax⟩ := dq_lst h1
    refine ⟨p, xs, rfl, .inl ⟨SqL.of (S.le _ _ _ hp), fun c nc => ?_⟩⟩
    obtain ⟨at3, e3⟩ := S.same at2 (same_new (o := .tup xs) nc)
    exact q _ _ (S.trans e2 e3) at3 ⟨.tuple x, .tup (S.new _ at2 nc) (ax.same (S.kp e3)), rw_totup h2, x, rfl, h3⟩
theorem oe_listOf {K : PySem.W.Frag} {A : List PyData → Prop} (h : OE S t σ H m k (oL A)) : OE S (tCB (fun xs H Q => ∃ p ys, xs = [.ref p] ∧ (SqL K H p ys ∨ SqT K H p ys) ∧ ∀ l, H l = none → Q (.ref l) (upd H l (.lst ys))) (tCons t tNil)) σ H m k (oL A) := fun H1 Q e1 at1 q =>
  h H1 _ e1 at1 fun v H2 e2 at2 o => by
    obtain ⟨_, h1, h2, x, rfl, h3⟩ := o
    obtain ⟨p, xs, rfl, hp, ax⟩ := dq_lst h1
    refine ⟨p, xs, rfl, .inl (SqL.of (S.le _ _ _ hp)), fun c nc => ?_⟩
    obtain ⟨at3, e3⟩ := S.same at2 (same_new (o := .lst xs) nc)
    exact q _ _ (S.trans e2 e3) at3 ⟨.list x, .lst (S.new _ at2 nc) (ax.same (S.kp e3)), h2, x, rfl, h3⟩
theorem flat_rep {α : Type} (x : α) : ∀ n : Nat, (List.replicate n [x]).flatten = List.replicate n x
  | 0 => rfl
  | n + 1 => by
    rw [List.replicate_succ, List.flatten_cons, flat_rep x n]
    rfl
theorem DqAll.repl {G : Hp} {v : V} {d : PyData} (h : Dq G v d) : ∀ n : Nat, DqAll G (List.replicate n v) (List.replicate n d)
  | 0 => .nil
  | n + 1 => by
    rw [List.replicate_succ, List.replicate_succ]
    exact .cons h (DqAll.repl h n)
/-- [x] * n -/
theorem oe_rep1 {n : Nat} (h : OE S t σ H m k B) (hn : n ≤ 1000) (hm : m ≤ 10000) : OE S (tOp rRep (tLst (tCons t tNil)) (tC (.int (n : Int)))) σ H (n * (m + 2) + 2) (k + 1) (oL fun ds => ∃ x, ds = List.replicate n x ∧ B x) := fun H1 Q e1 at1 q =>
  oe_lst (oa_cons h oa_nil) (by omega) H1 _ e1 at1 fun v H2 e2 at2 o => by
    rw [Nat.max_eq_left (Nat.zero_le k)] at o
    obtain ⟨_, h1, h2, _, rfl, x, _, rfl, h3, rfl⟩ := o
    obtain ⟨p, xs, rfl, hp, ax⟩ := dq_lst h1
    cases ax with
    | @cons v _ _ _ hv an =>
      cases an
      refine ⟨p, (n : Int), [v], rfl, rfl, S.le _ _ _ hp, by omega, by omega, line_small (by rw [Int.toNat_natCast]; show 1 * n ≤ _; omega), fun c nc => ?_⟩
      rw [Int.toNat_natCast, flat_rep]
      obtain ⟨at3, e3⟩ := S.same at2 (same_new (o := .lst (List.replicate n v)) nc)
      obtain ⟨j, ej, h4⟩ := h2.lst
      have h5 := rw_repl (h4.mem List.mem_cons_self) n
      refine q _ _ (S.trans e2 e3) at3 ⟨.list (List.replicate n x), .lst (S.new _ at2 nc) ((DqAll.repl hv n).same (S.kp e3)), ?_, _, rfl, x, rfl, h3⟩
      have h6 : Rw m k x := by
        have s1 := h4.s
        have s2 := h4.l
        have s3 := h4.d
        have t2 := h2.l
        have t3 := h2.d
        rw [PyData.showableAll, Bool.and_eq_true] at s1
        rw [wt, wtL, wtL] at t2
        rw [PyData.depth, PyData.depthAll] at t3
        exact ⟨s1.1, by omega, by omega⟩
      exact rw_list (rw_repl h6 n)
theorem oe_d0 : OE S (fun _ H1 Q => ∀ d, H1 d = none → Q (.ref d) (upd H1 d (.dK []))) σ H 2 1 (fun d => d = .dict []) := fun H1 Q e1 at1 q => fun c nc => by
  obtain ⟨at3, e3⟩ := S.same at1 (same_new (o := .dK []) nc)
  exact q _ _ e3 at3 ⟨.dict [], .dic (S.new _ at1 nc) .nil, rw_dict0, rfl⟩
/-! statements -/
theorem os_set {i : Nat} {v : TS} {D : Ends} (at1 : S.At H) (h : OE S t σ H m k B) (q : ∀ x H', S.Kp H H' → S.At H' → Od S m k B H' x → v D (σ.set i (some x)) H') : tSeq (tAsg t (gName i)) v D σ H := h H _ (S.refl _) at1 q
theorem os_ret {D : Ends} (at1 : S.At H) (h : OE S t σ H m k B) (q : ∀ x H', S.Kp H H' → S.At H' → Od S m k B H' x → D.rt x H') : tRet t D σ H := h H _ (S.refl _) at1 q
end
end Fo
namespace Fo
open PySem PySem.Spec PyProof.Rows L2
/-! comprehensions whose values are flat; ranges; the store as a source -/
def flatD : PyData → Bool
  | .none => true
  | .bool _ => true
  | .int _ => true
  | .str _ => true
  | _ => false
theorem dq_flat {G G' : Hp} {v : V} {d : PyData} (h : Dq G v d) (f : flatD d = true) : Dq G' v d := by
  cases h with
  | non => exact .non
  | bl b => exact .bl b
  | int i => exact .int i
  | str x => exact .str x
  | _ => cases f
theorem dqAll_flat {G G' : Hp} : ∀ {vs : List V} {ds : List PyData}, DqAll G vs ds → (∀ d ∈ ds, flatD d = true) → DqAll G' vs ds
  | _, [], h, _ => by cases h; exact .nil
  | _, d :: ds, h, f => by
    cases h with
    | cons h1 h2 => exact .cons (dq_flat h1 (f d List.mem_cons_self)) (dqAll_flat h2 fun x hx => f x (List.mem_cons_of_mem _ hx))
/-- two lists, one by one -/
inductive Two2 {α β : Type} (R : α → β → Prop) : List α → List β → Prop
  | nil : Two2 R [] []
  | snoc {xs : List α} {ys : List β} {x : α} {y : β} : Two2 R xs ys → R x y → Two2 R (xs ++ [x]) (ys ++ [y])
theorem Two2.len {α β : Type} {R : α → β → Prop} {xs : List α} {ys : List β} (h : Two2 R xs ys) : xs.length = ys.length := by
  induction h with
  | nil => rfl
  | snoc _ _ ih => rw [List.length_append, List.length_append, ih]; rfl
theorem Two2.memR {α β : Type} {R : α → β → Prop} {xs : List α} {ys : List β} (h : Two2 R xs ys) : ∀ y ∈ ys, ∃ x ∈ xs, R x y := by
  induction h with
  | nil => exact fun _ h => absurd h List.not_mem_nil
  | snoc h r ih =>
    intro y hy
    rcases List.mem_append.mp hy with hy | hy
    · obtain ⟨x, hx, hr⟩ := ih y hy
      exact ⟨x, List.mem_append_left _ hx, hr⟩
    · rw [List.mem_singleton.mp hy]
      exact ⟨_, List.mem_append_right _ List.mem_cons_self, r⟩
theorem Two2.memL {α β : Type} {R : α → β → Prop} {xs : List α} {ys : List β} (h : Two2 R xs ys) : ∀ x ∈ xs, ∃ y ∈ ys, R x y := by
  induction h with
  | nil => exact fun _ h => absurd h List.not_mem_nil
  | snoc h r ih =>
    intro x hx
    rcases List.mem_append.mp hx with hx | hx
    · obtain ⟨y, hy, hr⟩ := ih x hx
      exact ⟨y, List.mem_append_left _ hy, hr⟩
    · rw [List.mem_singleton.mp hx]
      exact ⟨_, List.mem_append_right _ List.mem_cons_self, r⟩
theorem rws_snoc {a b k : Nat} {d : PyData} {ds : List PyData} (g : Rws b k ds) (h : Rw a k d) : Rws (b + (a + 2)) k (ds ++ [d]) := (g.app (rws_cons h rws_nil)).mono (by omega) (Nat.le_refl _)
theorem DqAll.snoc {G : Hp} {vs : List V} {ds : List PyData} {v : V} {d : PyData} (h : DqAll G vs ds) (g : Dq G v d) : DqAll G (vs ++ [v]) (ds ++ [d]) := h.app (.cons g .nil)
section
variable {S : Src} {σ : L2.St} {H : Hp} {m k a b : Nat} {B C : PyData → Prop} {t u : TE}
theorem oe_lcF {K : PySem.W.Frag} {j : Nat} {vs : List Nat} {A : List PyData → Prop} {R : PyData → PyData → Prop} {me ke n : Nat} {te : TE} (h : OE S t σ H m a (oL A)) (hn : ∀ ds, A ds → ds.length ≤ n) (hz : n * (me + 2) ≤ 16777216)
    (hw : ∀ x : V, wipe ((wipe σ vs).set j (some x)) vs = wipe σ vs) (he : ∀ ds x v H', A ds → x ∈ ds → S.Kp H H' → S.At H' → Dq (S.cut H') v x → OE S te ((wipe σ vs).set j (some v)) H' me ke (R x)) (hf : ∀ x y, R x y → flatD y = true) :
    OE S (tLc (iList K t) (gName j) tYes te vs) σ H (n * (me + 2) + 2) (ke + 1) (oL fun ys => ∃ xs, A xs ∧ Two2 R xs ys) := fun H1 Q e1 at1 q =>
  h H1 _ e1 at1 fun v H2 e2 at2 o => by
    obtain ⟨_, h1, h2, ds, rfl, h3⟩ := o
    obtain ⟨p, xs, rfl, hp, ax⟩ := dq_lst h1
    refine ⟨p, rfl, ⟨xs, SqL.of (S.le _ _ _ hp)⟩, fun D nD => ?_⟩
    have hD0 := S.put (.lst []) at2 (S.refl _) at2 nD
    have hpD : p ≠ D := fun z => by rw [z] at hp; have := S.le _ _ _ hp; rw [nD] at this; cases this
    refine lc_list (K := K) (a := p) (xs := xs) (fun i H3 => ∃ acc ys, H3 D = some (.lst acc) ∧ S.cut H3 D = some (.lst acc) ∧ acc.length = i ∧ DqAll H3 acc ys ∧ (∀ d ∈ ys, flatD d = true) ∧ Rws (i * (me + 2)) ke ys ∧ Two2 R (ds.take i) ys ∧ S.Kp H2 H3 ∧ S.At H3)
      ⟨[], [], upd_same, hD0.2.2.1, rfl, .nil, fun _ h => absurd h List.not_mem_nil, rws_nil.mono (Nat.zero_le _) (Nat.le_refl _), by rw [List.take_zero]; exact .nil, hD0.2.1, hD0.1⟩
      (fun i H3 _ hP => by obtain ⟨_, _, _, _, _, _, _, _, _, k3, _⟩ := hP; exact SqL.of (S.le _ _ _ (S.kp k3 _ _ hp))) (fun i x H3 hx hP => ?_) (fun H3 hP => ?_)
    · obtain ⟨acc, ys, hD, hcD, la, ay, fy, ry, ty, k3, at3⟩ := hP
      obtain ⟨d, ed, hd⟩ := (ax.same (S.kp k3)).get hx
      have hi := (List.getElem?_eq_some_iff.mp ed).1
      have hin := hn ds h3
      refine ⟨hw x, ?_⟩
      refine (he ds d x H3 h3 (List.mem_of_getElem? ed) (S.trans e1 (S.trans e2 k3)) at3 hd) H3 _ (S.refl _) at3 fun y H4 k4 at4 o4 => ?_
      obtain ⟨z, hz4, rz, bz⟩ := o4
      have hD4 : H4 D = some (.lst acc) := S.le _ _ _ (S.kp k4 _ _ hcD)
      have pD := S.put (.lst (acc ++ [y])) at2 (S.trans k3 k4) at4 nD
      refine ⟨acc, hD4, line_small (by
        have : i * 2 ≤ 16777216 := by
          have a1 : i * (me + 2) ≤ n * (me + 2) := Nat.mul_le_mul_right _ (by omega)
          have a2 : i * 2 ≤ i * (me + 2) := Nat.mul_le_mul_left _ (by omega)
          omega
        omega), acc ++ [y], ys ++ [z], upd_same, pD.2.2.1, by rw [List.length_append, la]; rfl, (dqAll_flat ay fy).snoc (dq_flat hz4 (hf _ _ bz)), fun w hw => ?_, ?_, ?_, pD.2.1, pD.1⟩
      · rcases List.mem_append.mp hw with hw | hw
        · exact fy w hw
        · rw [List.mem_singleton.mp hw]
          exact hf _ _ bz
      · rw [Nat.succ_mul]
        exact rws_snoc ry rz
      · rw [List.take_add_one, ed]
        exact ty.snoc bz
    · obtain ⟨acc, ys, hD, hcD, la, ay, fy, ry, ty, k3, at3⟩ := hP
      rw [ax.len, List.take_length] at ty
      have hin := hn ds h3
      exact q _ _ (S.trans e2 k3) at3 ⟨.list ys, .lst hcD (dqAll_flat ay fy), rw_list (ry.mono (Nat.mul_le_mul_right _ (by rw [ax.len]; exact hin)) (Nat.le_refl _)), ys, rfl, ds, h3, ty⟩
theorem od_int {A : Int → Prop} {v : V} (h : Od S m k (oI A) H v) : ∃ i, v = .int i ∧ A i := by
  obtain ⟨_, h1, _, i, rfl, h3⟩ := h
  exact ⟨i, dq_intI h1, h3⟩
theorem od_of_int {i : Int} {A : Int → Prop} (h : -100000000000000000000000000 ≤ i ∧ i ≤ 100000000000000000000000000) (g : A i) : Od S 110 0 (oI A) H (.int i) := ⟨.int i, .int i, rw_int h.1 h.2, i, rfl, g⟩
theorem dqAll_intsG {G : Hp} : ∀ {ns : List Int}, DqAll G (ns.map V.int) (ns.map PyData.int)
  | [] => .nil
  | n :: r => .cons (.int n) dqAll_intsG
theorem od_ints {a : Addr} {ns : List Int} {n : Nat} (h : S.cut H a = some (.lst (ns.map V.int))) (hb : ∀ x ∈ ns, -100000000000000000000000000 ≤ x ∧ x ≤ 100000000000000000000000000) (hn : ns.length ≤ n) : Od S (n * 112 + 2) 1 (oL fun ds => ds = ns.map PyData.int) H (.ref a) :=
  ⟨.list (ns.map PyData.int), .lst h dqAll_intsG, rw_list ((rws_ints hb).mono (Nat.mul_le_mul_right _ hn) (Nat.le_refl 0)), _, rfl, rfl⟩
theorem od_str {x : Str} {A : Str → Prop} {n : Nat} (h : (reprText x).length ≤ n) (g : A x) : Od S n 0 (oS A) H (.str x) := ⟨.str x, .str x, rw_str h, x, rfl, g⟩
end
end Fo
namespace Fo
open PySem PySem.Spec PyProof.Rows L2
/-! ### a slice with a step that is reckoned, 1 or -1 -/
theorem pick_one (items : Array Value) : slicePick items none none (some 1) = items := by
  have e : slicePick items none none (some 1) = slicePick items none none none := rfl
  rw [e, PySem.W.kmk_pick_nat (a := 0) (b := items.size) items rfl, List.drop_zero, Nat.sub_zero, ← Array.length_toList, List.take_length]
def tStepL (K : PySem.W.Frag) (te ts : TE) : TE := fun σ H Q => te σ H fun x H1 => ∃ a, x = .ref a ∧ tPart ts σ H1 fun o H2 => ∃ xs, SqL K H2 a xs ∧
  ((o = some 1 ∧ ∀ p, H2 p = none → Q (.ref p) (upd H2 p (.lst xs))) ∨ (o = some (-1) ∧ ∀ p, H2 p = none → Q (.ref p) (upd H2 p (.lst xs.reverse))))
theorem pe_stepL {X : Cx} {e st : Expr} {te ts : TE} {p3 pos : Pos} (he : PE X e te) (hst : PE X st ts)
    (hsub : ∀ u : Value, ∀ r : Addr, subscripted (.Slice none none (some st) p3) false u (.ref r) = operate [u, .ref r] (getItem u (.ref r)) := by intro _ _; with_unfolding_all rfl) : PE X (.Subscript e (.Slice none none (some st) p3) pos) (tStepL X.K te ts) := by
  refine ⟨fun pins s σ H Q I h => ?_⟩
  refine Subscript_ (thn (he.run pins s σ H _ I h) fun v s1 z1 => ?_)
  obtain ⟨x, H1, I1, r1, a, ex, q1⟩ := z1
  subst ex
  cases r1
  refine wpAny_Slice (thn (po_none.run pins s1 σ H1 (fun o H2 => o = none ∧ H2 = H1) I1 ⟨rfl, rfl⟩) fun vl s2 z2 => ?_)
  obtain ⟨l, H2, I2, pl, el, e2⟩ := z2
  subst el e2
  refine thn (po_none.run pins s2 σ H2 (fun o H3 => o = none ∧ H3 = H2) I2 ⟨rfl, rfl⟩) fun vu s3 z3 => ?_
  obtain ⟨u, H3, I3, pu, eu, e3⟩ := z3
  subst eu e3
  refine thn ((po_some hst).run pins s3 σ H3 _ I3 q1) fun vs s4 z4 => ?_
  obtain ⟨o, H4, I4, ps, xs, hx, q⟩ := z4
  have I5 : Inv X pins σ H4 { s4 with heap := s4.heap.push { cls := .type "slice", data := .fields #[vl, vu, vs] } } := I4.kept (t' := s4.toks) fun b ob w => Heap.get?_push_of_some _ w
  obtain ⟨its, r, ht, hz⟩ := I5.list hx
  have hlen := r.length
  show wpAny (model X.prog X.w) X.A (subscriptTail e (.Slice none none (some st) p3) (.ref a) (.ref s4.heap.objs.size)) (EP X pins σ Q) X.xe _
  refine tail_any (ops := [.ref a, .ref s4.heap.objs.size]) ht.isList.typeIs (PySem.slot_list_getitem.lookup) ?_ (hsub _ _)
  rcases q with ⟨eo, q⟩ | ⟨eo, q⟩
  · subst eo
    refine wpAny_getItem_list_slice ht.isList (Heap.IsSliceOf.new _ vl vu vs) pl pu ps (by decide) ?_ (by rw [List.size_toArray]; omega)
    rw [pick_one]
    refine ⟨.ref _, _, I5.laid (t' := s4.toks) (o := .lst xs) (fun b ob w => Heap.get?_push_of_some _ w) (Nat.le_refl _) ?_, rfl, q _ (I5.hok.fresh (Nat.le_refl _))⟩
    exact ⟨hz, _, 0, r, Heap.get?_push_size _ rfl⟩
  · subst eo
    refine wpAny_getItem_list_slice ht.isList (Heap.IsSliceOf.new _ vl vu vs) pl pu ps (by decide) ?_ (by rw [List.size_toArray]; omega)
    rw [PySem.W.krv_pick]
    refine ⟨.ref _, _, I5.laid (t' := s4.toks) (o := .lst xs.reverse) (fun b ob w => Heap.get?_push_of_some _ w) (Nat.le_refl _) ?_, rfl, q _ (I5.hok.fresh (Nat.le_refl _))⟩
    exact ⟨by rw [List.length_reverse]; exact hz, _, 0, r.reverse, Heap.get?_push_size _ rfl⟩
end Fo
namespace Fo
open PySem PySem.Spec PyProof.Rows L2
/-- a loop over enumerate of a list that stands still -/
theorem for_enumL {K : PySem.W.Frag} {a : Addr} {xs : List V} {g : TG} {tb : TS} {D : Ends} {σ : L2.St} {H : Hp} (Pv : Nat → L2.St → Hp → Prop) (h0 : Pv 0 σ H) (hq : ∀ i σ H, Pv i σ H → SqL K H a xs)
    (hs : ∀ (i : Nat) (x : V) (T : Addr) (σ : L2.St) (H : Hp), xs[i]? = some x → Pv i σ H → H T = none → g (.ref T) σ (upd H T (.tup [.int (i : Nat), x])) fun σ2 H2 => tb { D with nx := Pv (i + 1), ct := Pv (i + 1), bk := D.nx } σ2 H2) (hd : ∀ σ H, Pv xs.length σ H → D.nx σ H) :
    ∃ W : Nat → Nat → L2.St → Hp → Prop, (∃ m, W 0 m σ H) ∧ ∀ i m σ H, W i m σ H →
      ((Ite K a).stop i H ∧ D.nx σ H) ∨ ((Ite K a).go i H ∧ ∃ N : L2.St → Hp → Prop, (∀ σ' H', N σ' H' → ∃ m', m' < m ∧ W (i + 1) m' σ' H') ∧ ∀ v H', (Ite K a).yld i H v H' → g v σ H' fun σ2 H2 => tb { D with nx := N, ct := N, bk := D.nx } σ2 H2) := by
  refine ⟨fun i m σ H => m = xs.length - i ∧ i ≤ xs.length ∧ Pv i σ H, ⟨xs.length, rfl, Nat.zero_le _, h0⟩, ?_⟩
  rintro i m σ H ⟨rfl, hi, p⟩
  have qx := hq i σ H p
  by_cases hlt : i < xs.length
  · have hx : xs[i]? = some xs[i] := List.getElem?_eq_getElem hlt
    refine .inr ⟨⟨xs, _, qx, hx⟩, Pv (i + 1), fun σ' H' p' => ⟨xs.length - (i + 1), by omega, rfl, hlt, p'⟩, fun v H' y => ?_⟩
    obtain ⟨T, x', rfl, hT, rfl, f1⟩ := y
    exact hs i x' T σ H (f1 xs qx) p hT
  · have e : i = xs.length := by omega
    subst e
    exact .inl ⟨⟨xs, qx, Nat.le_refl _⟩, hd σ H p⟩
/-- a comprehension over enumerate of a list that stands still -/
theorem lc_enumL {K : PySem.W.Frag} {a : Addr} {xs : List V} {g : TG} {tt : TT} {te : TE} {vs : List Nat} {σ : L2.St} {H1 : Hp} {D : Addr} {Qd : Hp → Prop} (Pv : Nat → Hp → Prop) (h0 : Pv 0 (upd H1 D (.lst []))) (hl : ∀ i H, i ≤ xs.length → Pv i H → SqL K H a xs)
    (hs : ∀ (i : Nat) (x : V) (T : Addr) (H : Hp), xs[i]? = some x → Pv i H → H T = none → g (.ref T) (wipe σ vs) (upd H T (.tup [.int (i : Nat), x])) fun σ2 H2 => wipe σ2 vs = wipe σ vs ∧ tt σ2 H2 fun b H3 =>
      if b = true then te σ2 H3 fun y H4 => ∃ acc, H4 D = some (.lst acc) ∧ acc.length < sizeLine ∧ Pv (i + 1) (upd H4 D (.lst (acc ++ [y]))) else Pv (i + 1) H3) (hd : ∀ H, Pv xs.length H → Qd H) :
    ∃ W : Nat → Nat → Hp → Prop, (∃ m, W 0 m (upd H1 D (.lst []))) ∧ ∀ i m H, W i m H →
      ((Ite K a).stop i H ∧ Qd H) ∨ ((Ite K a).go i H ∧ ∃ Nx : Hp → Prop, (∀ H', Nx H' → ∃ m', m' < m ∧ W (i + 1) m' H') ∧ ∀ x H', (Ite K a).yld i H x H' → g x (wipe σ vs) H' fun σ2 H2 => wipe σ2 vs = wipe σ vs ∧ tt σ2 H2 fun b H3 =>
        if b = true then te σ2 H3 fun y H4 => ∃ acc, H4 D = some (.lst acc) ∧ acc.length < sizeLine ∧ Nx (upd H4 D (.lst (acc ++ [y]))) else Nx H3) := by
  refine ⟨fun i m H => m = xs.length - i ∧ i ≤ xs.length ∧ Pv i H, ⟨xs.length, by simp, Nat.zero_le _, h0⟩, ?_⟩
  rintro i m H ⟨rfl, hi, p⟩
  have q := hl i H hi p
  by_cases hlt : i < xs.length
  · refine .inr ⟨⟨xs, xs[i], q, by simp [hlt]⟩, Pv (i + 1), fun H' p' => ⟨xs.length - (i + 1), by omega, rfl, hlt, p'⟩, fun x H' y => ?_⟩
    obtain ⟨T, x', rfl, hT, rfl, f1⟩ := y
    exact hs i x' T H (f1 xs q) p hT
  · have e : i = xs.length := by omega
    subst e
    exact .inl ⟨⟨xs, q, Nat.le_refl _⟩, hd H p⟩
/-! ### the back of an order -/
def IsBack (ns ps : List Int) : Prop := ps.length = ns.length ∧ ∀ (j : Nat) (x : Int), ns[j]? = some x → ps[x.toNat]? = some (j : Int)
theorem ord_at {n : Nat} {ns : List Int} (o : IsOrd n ns) {t : Nat} (h : t < n) : ∃ j : Nat, j < n ∧ ns[j]? = some (t : Int) := by
  have m : (t : Int) ∈ ns := (List.Perm.mem_iff o).mpr (rg_mem.mpr ⟨by omega, by omega⟩)
  obtain ⟨j, hj⟩ := List.mem_iff_getElem?.mp m
  exact ⟨j, by have := (List.getElem?_eq_some_iff.mp hj).1; rw [o.len] at this; exact this, hj⟩
theorem ord_ix {n : Nat} {ns : List Int} (o : IsOrd n ns) {j : Nat} (h : j < n) : ∃ x : Int, ns[j]? = some x ∧ 0 ≤ x ∧ x < n := by
  have hj : j < ns.length := by rw [o.len]; exact h
  exact ⟨ns[j], List.getElem?_eq_getElem hj, o.mem (List.getElem_mem hj)⟩
theorem back_eq {n : Nat} {ns a b : List Int} (o : IsOrd n ns) (ha : IsBack ns a) (hb : IsBack ns b) : a = b := by
  apply List.ext_getElem?
  intro t
  by_cases h : t < n
  · obtain ⟨j, _, hj⟩ := ord_at o h
    have h1 := ha.2 j _ hj
    have h2 := hb.2 j _ hj
    rw [Int.toNat_natCast] at h1 h2
    rw [h1, h2]
  · rw [List.getElem?_eq_none (by rw [ha.1, o.len]; omega), List.getElem?_eq_none (by rw [hb.1, o.len]; omega)]
def behindL (ns ms : List Int) : List Int := ms.map fun p => ns.getD p.toNat 0
theorem behind_at {ns ms : List Int} {i : Nat} {p x : Int} (hp : ms[i]? = some p) (hx : ns[p.toNat]? = some x) : (behindL ns ms)[i]? = some x := by
  unfold behindL
  rw [List.getElem?_map, hp]
  show some (ns.getD p.toNat 0) = some x
  rw [List.getD_eq_getElem?_getD, hx]
  rfl
theorem behind_len (ns ms : List Int) : (behindL ns ms).length = ms.length := by
  unfold behindL
  rw [List.length_map]
theorem take_more {l : List Int} {i : Nat} {x : Int} (h : l[i]? = some x) : l.take (i + 1) = l.take i ++ [x] := by
  rw [List.take_add_one, h]
  rfl
theorem flat_ints : ∀ ns : List Int, (ns.map V.int).all flatV = true
  | [] => rfl
  | n :: r => by
    show (flatV (V.int n) && (r.map V.int).all flatV) = true
    rw [flat_ints r]
    rfl
theorem eqV_int (i j : Int) : eqV (.int i) (.int j) = (i == j) := rfl
end Fo
namespace Fo
open PySem PySem.Spec PyProof.Rows L2
/-! ### a store: the drawn numbers and how many were taken -/
structure Sk where
  d : Addr
  dl : Addr
  ds : List Int
structure SkAt (H : Hp) (S : Sk) : Prop where
  top : ∃ i : Int, H S.d = some (.lst [.ref S.dl, .int i])
  nums : H S.dl = some (.lst (S.ds.map V.int))
  len : 0 < S.ds.length
  pos : ∀ x ∈ S.ds, 0 ≤ x
  ne : S.dl ≠ S.d
def KeepS (S : Sk) (H H' : Hp) : Prop := ∀ b o, H b = some o → b ≠ S.d → H' b = some o
theorem KeepS.trans {S : Sk} {H H1 H2 : Hp} (a : KeepS S H H1) (b : KeepS S H1 H2) : KeepS S H H2 := fun c o e f => b c o (a c o e f) f
theorem KeepS.of_same {S : Sk} {H H' : Hp} (h : Same H H') : KeepS S H H' := fun b o e _ => h b o e
theorem SkAt.same {H H' : Hp} {S : Sk} (h : SkAt H S) (s : Same H H') : SkAt H' S := ⟨by obtain ⟨i, e⟩ := h.top; exact ⟨i, s _ _ e⟩, s _ _ h.nums, h.len, h.pos, h.ne⟩
theorem SkAt.apart {H : Hp} {S : Sk} (h : SkAt H S) {p : Addr} (e : H p = none) : p ≠ S.d ∧ p ≠ S.dl := by
  obtain ⟨i, e1⟩ := h.top
  exact ⟨(ne_of_none e1 e).symm, (ne_of_none h.nums e).symm⟩
theorem SkAt.upd {H : Hp} {S : Sk} (h : SkAt H S) {p : Addr} {o : HO} (n1 : p ≠ S.d) (n2 : p ≠ S.dl) : SkAt (upd H p o) S :=
  ⟨by obtain ⟨i, e⟩ := h.top; exact ⟨i, by rw [upd_ne n1.symm]; exact e⟩, by rw [upd_ne n2.symm]; exact h.nums, h.len, h.pos, h.ne⟩
theorem keepS_none {S : Sk} {H H1 : Hp} (k : KeepS S H H1) {p : Addr} (np : H1 p = none) (nf : p ≠ S.d) : H p = none := by
  cases e : H p with
  | none => rfl
  | some o =>
    have z := k p o e nf
    rw [np] at z
    cases z
def spDraws (K : PySem.W.Frag) : Sp := fun vs H Q _ => ∃ (a : Addr) (ns : List Int) (many : Int), vs = [.ref a, .int many] ∧ SqL K H a (ns.map V.int) ∧ ns.length ≤ 63 ∧ 0 < many ∧ many ≤ 1000 ∧
  ∀ (ds : List Int) (l : Addr) (H' : Hp), 0 < ds.length → (∀ x ∈ ds, 0 ≤ x) → H l = none → H' l = some (.lst (ds.map V.int)) → Same H H' → Q (.ref l) H'
def spTake : Sp := fun vs H Q _ => ∃ (S : Sk) (many : Int), vs = [.ref S.d, .int many] ∧ SkAt H S ∧ 0 < many ∧ ∀ (v : Int) (H' : Hp), 0 ≤ v → v < many → SkAt H' S → KeepS S H H' → Q (.int v) H'
def spOrder : Sp := fun vs H Q _ => ∃ (S : Sk) (n : Nat), vs = [.ref S.d, .int n] ∧ SkAt H S ∧ 1 ≤ n ∧ n ≤ 12 ∧
  ∀ (ns : List Int) (l : Addr) (H' : Hp), IsOrd n ns → H l = none → H' l = some (.lst (ns.map V.int)) → SkAt H' S → KeepS S H H' → Q (.ref l) H'
section
variable {P : Program} {w : World} {K : PySem.W.Frag} {mg : Str → Option Value} {base : Heap}
theorem mod_b (x : Int) {m : Int} (h : 0 < m) : 0 ≤ x % m ∧ x % m < m := ⟨Int.emod_nonneg x (by omega), Int.emod_lt_of_pos x h⟩
theorem scTake : FnScope ["store", "many"] ["store", "many"] (defScope s_law_take) := ⟨rfl, rfl, rfl, by decide +kernel, rfl, by decide +kernel, by decide +kernel⟩
theorem ok_take {f : Addr} {fd : FuncData} {k : Nat} (T : Df K mg "_law_take" s_law_take ["store", "many"] f fd) (B : Bi mg) : FnOk P w K mg base CX0 (k + 1) f fd ["store", "many"] spTake := by
  refine T.F.ok scTake (fun vs H Q E h => ?_) (fun cdv A outer s H vs Q E hr h => ?_)
  · obtain ⟨S, m, rfl, _⟩ := h
    rfl
  · obtain ⟨S, m, rfl, hS, hm, q⟩ := h
    obtain ⟨i, hd⟩ := hS.top
    refine ⟨_, 
      (pss_cons (ps_asg (pe_op op_add (pe_ix ix_list (pv 0) pe_int (fun _ _ => rfl)) pe_int) (pg_sub (pv 0) pe_int set_list))
      (pss_one (ps_ret (pe_op op_mod (pe_ix ix_list (pe_ix ix_list (pv 0) pe_int (fun _ _ => rfl)) (pe_op op_mod (pe_op op_sub (pe_ix ix_list (pv 0) pe_int (fun _ _ => rfl)) pe_int) (pe_callB call_len_seq (by rfl) B.len PySem.boot_len (pa_cons (pe_ix ix_list (pv 0) pe_int (fun _ _ => rfl)) pa_nil))) (fun _ _ => rfl)) (pv 1))))), ?_⟩
    refine ⟨_, rfl, S.d, _, 1, _, rfl, rfl, SqL.of hd, at2_1, i, 1, rfl, rfl, _, rfl, S.d, _, 1, 1, rfl, rfl, hd, rfl, ?_⟩
    have hd1 : (upd H S.d (.lst [.ref S.dl, .int (i + 1)])) S.d = some (.lst [.ref S.dl, .int (i + 1)]) := upd_same
    have hn1 : (upd H S.d (.lst [.ref S.dl, .int (i + 1)])) S.dl = some (.lst (S.ds.map V.int)) := by rw [upd_ne hS.ne]; exact hS.nums
    have hl := hS.len
    have hlm : (S.ds.map V.int).length = S.ds.length := List.length_map _
    obtain ⟨b1, b2⟩ := mod_b (i + 1 - 1) (m := (((S.ds.map V.int).length : Nat) : Int)) (by rw [hlm]; omega)
    obtain ⟨j, ej⟩ : ∃ j : Nat, (i + 1 - 1) % (((S.ds.map V.int).length : Nat) : Int) = (j : Int) := ⟨((i + 1 - 1) % (((S.ds.map V.int).length : Nat) : Int)).toNat, by omega⟩
    have hj : j < S.ds.length := by rw [hlm] at b2 ej; omega
    refine ⟨_, rfl, S.d, _, 0, _, rfl, rfl, SqL.of hd1, at2_0, _, rfl, S.d, _, 1, _, rfl, rfl, SqL.of hd1, at2_1, i + 1, 1, rfl, rfl, _, rfl, S.d, _, 0, _, rfl, rfl, SqL.of hd1, at2_0, S.dl, _, rfl, .inl (SqL.of hn1), _, _, rfl, rfl, ?_, S.dl, _, _, _, rfl, rfl, SqL.of hn1, at_of ej (int_at (List.getElem?_eq_getElem hj)), _, rfl, _, m, rfl, rfl, hm, ?_⟩
    · rw [hlm]; omega
    obtain ⟨c1, c2⟩ := mod_b S.ds[j] hm
    exact q _ _ c1 c2 ⟨⟨i + 1, hd1⟩, hn1, hS.len, hS.pos, hS.ne⟩ fun b o e nb => by rw [upd_ne nb]; exact e
theorem scDraws : FnScope ["script", "many", "drawn", "base", "k", "cell", "number", "one"] ["script", "many"] (defScope s_law_draws) := ⟨rfl, rfl, rfl, by decide +kernel, rfl, by decide +kernel, by decide +kernel⟩
set_option maxHeartbeats 4000000 in
theorem ok_draws {f : Addr} {fd : FuncData} {k : Nat} (T : Df K mg "_law_draws" s_law_draws ["script", "many"] f fd) (B : Bi mg) : FnOk P w K mg base CX0 (k + 1) f fd ["script", "many"] (spDraws K) := by
  refine T.F.ok scDraws (fun vs H Q E h => ?_) (fun cdv A outer s H vs Q E hr h => ?_)
  · obtain ⟨a, ns, m, rfl, _⟩ := h
    rfl
  · obtain ⟨a, ns, m, rfl, hS, hlen, hm0, hm1, q⟩ := h
    refine ⟨_, 
      (pss_cons (ps_set (i := 2) scDraws.nd rfl (.inl rfl) (pe_lst pa_nil))
      (pss_cons (ps_set (i := 3) scDraws.nd rfl (.inl rfl) pe_int)
      (pss_cons (ps_for PassesOwn.never rfl (pi_enum (by rfl) B.enumerate (pa_cons (pe_slice sl_list (pv 0) po_none (po_some pe_int)) pa_nil)) (pg_tup (by rfl) (pgs_cons (pg_name (i := 4) scDraws.nd rfl (.inl rfl)) (pgs_cons (pg_name (i := 5) scDraws.nd rfl (.inl rfl)) pgs_nil)))
        (pss_cons (ps_set (i := 6) scDraws.nd rfl (.inl rfl) (pe_callB call_abs (by rfl) B.abs (by decide +kernel) (pa_cons (pv 5) pa_nil)))
        (pss_cons (ps_set (i := 3) scDraws.nd rfl (.inl rfl) (pe_op op_mod (pe_op op_add (pe_op op_mul (pv 3) pe_int) (pv 6)) pe_int))
        (pss_one (ps_if (pt_cmpR op_ge (pv 6) (pe_op op_pow pe_int pe_int) (nomark _))
          (pss_one (ps_while PassesOwn.never (PW.pt (pw_and (pt_cmpR op_gt (pv 6) pe_int (nomark _)) (pw_and1 (pt_cmpR op_lt (pe_callB call_len_seq (by rfl) B.len PySem.boot_len (pa_cons (pv 2) pa_nil)) (pv 1) (nomark _)))))
            (pss_cons (ps_expr (pe_bm PySem.F.plainAttrs_list PySem.F.slot_list_append PySem.F.type_list_append mt_append (pv 2) (pa_cons (pe_op op_mod (pv 6) pe_int) pa_nil)))
            (pss_one (ps_set (i := 6) scDraws.nd rfl (.inl rfl) (pe_op op_fdiv (pv 6) pe_int))))))
          (Evl.pss_cut (ps_set (i := 7) scDraws.nd rfl (.inl rfl) (pe_op op_mod (pe_op op_mul (pe_op op_add (pe_op op_add (pe_op op_mod (pv 6) pe_int) (pv 4)) pe_int) pe_int) pe_int))
          (Evl.pss_cut (ps_set (i := 7) scDraws.nd rfl (.inl rfl) (pe_op op_mod (pe_op op_mul (pv 7) (pv 7)) pe_int))
          (pss_cons (ps_expr (pe_bm PySem.F.plainAttrs_list PySem.F.slot_list_append PySem.F.type_list_append mt_append (pv 2) (pa_cons (pe_op op_mod (pe_op op_fdiv (pv 7) pe_int) pe_int) pa_nil)))
          (Evl.pss_cut (ps_set (i := 7) scDraws.nd rfl (.inl rfl) (pe_op op_mod (pe_op op_add (pe_op op_add (pe_op op_mul (pv 7) pe_int) (pe_op op_mul pe_int (pv 4))) pe_int) pe_int))
          (Evl.pss_cut (ps_set (i := 7) scDraws.nd rfl (.inl rfl) (pe_op op_mod (pe_op op_mul (pv 7) (pv 7)) pe_int))
          (pss_one (ps_expr (pe_bm PySem.F.plainAttrs_list PySem.F.slot_list_append PySem.F.type_list_append mt_append (pv 2) (pa_cons (pe_op op_mod (pe_op op_fdiv (pv 7) pe_int) pe_int) pa_nil))))))))))))))
      (pss_cons (ps_for PassesOwn.never rfl (pi_range1 (by rfl) B.range (pa_cons (pe_op op_sub (pv 1) (pe_callB call_len_seq (by rfl) B.len PySem.boot_len (pa_cons (pv 2) pa_nil))) pa_nil)) (pg_name (i := 4) scDraws.nd rfl (.inl rfl))
        (Evl.pss_cut (ps_set (i := 7) scDraws.nd rfl (.inl rfl) (pe_op op_mod (pe_op op_add (pe_op op_add (pv 3) (pe_op op_mul pe_int (pv 4))) pe_int) pe_int))
        (Evl.pss_cut (ps_set (i := 7) scDraws.nd rfl (.inl rfl) (pe_op op_mod (pe_op op_mul (pv 7) (pv 7)) pe_int))
        (Evl.pss_cut (ps_set (i := 7) scDraws.nd rfl (.inl rfl) (pe_op op_mod (pe_op op_add (pe_op op_mul (pv 7) pe_int) (pv 4)) pe_int))
        (pss_one (ps_expr (pe_bm PySem.F.plainAttrs_list PySem.F.slot_list_append PySem.F.type_list_append mt_append (pv 2) (pa_cons (pe_op op_mod (pe_op op_fdiv (pe_op op_mod (pe_op op_mul (pv 7) (pv 7)) pe_int) pe_int) pe_int) pa_nil))))))))
      (pss_one (ps_ret (pv 2))))))), ?_⟩
    refine ⟨Nat.zero_le _, fun l nl => ?_⟩
    have s1 := same_new (o := .lst []) nl
    refine ⟨_, rfl, 63, rfl, a, _, rfl, s1.seq hS, fun c nc => ?_⟩
    have s2 := s1.trans (same_new (o := .lst (cutV (ns.map V.int) none (some 63))) nc)
    have nlc : l ≠ c := ne_of_none upd_same nc
    have hc2 : (upd (upd H l (.lst [])) c (.lst (cutV (ns.map V.int) none (some 63)))) c = some (.lst ((cutI ns none (some 63)).map V.int)) := by rw [upd_same, cut_ints]
    have hcl : (cutI ns none (some 63)).length ≤ 63 := Nat.le_trans (cutI_len _ _ _) hlen
    refine ⟨c, _, rfl, SqL.of hc2, ?_⟩
    refine for_enumL (xs := (cutI ns none (some 63)).map V.int) (fun i σ H3 => ∃ (b0 : Int) (y4 y5 y6 y7 : Option V) (ds : List Int), σ = [some (.ref a), some (.int m), some (.ref l), some (.int b0), y4, y5, y6, y7] ∧ 0 ≤ b0 ∧ b0 < 2147483629 ∧ ds.length ≤ 1000 + 2 * i ∧ (∀ x ∈ ds, 0 ≤ x) ∧ H3 l = some (.lst (ds.map V.int)) ∧ H3 c = some (.lst ((cutI ns none (some 63)).map V.int)) ∧ Same H H3)
      ⟨7, _, _, _, _, [], rfl, by decide, by decide, by simp, fun x hx => absurd hx List.not_mem_nil, by rw [upd_ne nlc]; exact upd_same, hc2, s2⟩ (fun i σ H3 hP => by obtain ⟨_, _, _, _, _, _, _, _, _, _, _, _, hc3, _⟩ := hP; exact SqL.of hc3) (fun i x t σ H3 hx hP nt => ?_) (fun σ H3 hP => ?_)
    · obtain ⟨b0, y4, y5, y6, y7, ds, rfl, hb0, hb1, hdl, hdp, hl3, hc3, sm⟩ := hP
      obtain ⟨y, ey, rfl⟩ := int_at_inv hx
      have hi := (List.getElem?_eq_some_iff.mp ey).1
      have st := same_new (o := .tup [.int (i : Nat), .int y]) nt
      have hl4 := st _ _ hl3
      have hc4 := st _ _ hc3
      have sm4 := sm.trans st
      have ht4 : (upd H3 t (.tup [.int (i : Nat), .int y])) t = some (.tup [.int (i : Nat), .int y]) := upd_same
      generalize upd H3 t (.tup [.int (i : Nat), .int y]) = H4 at ht4 hl4 hc4 sm4 ⊢
      refine ⟨t, _, rfl, .inl (.inl ht4), rfl, _, _, rfl, _, _, rfl, rfl, ?_⟩
      -- number, base
      refine ⟨_, rfl, y, rfl, ?_⟩
      obtain ⟨num, enum, hnum⟩ : ∃ num : Int, (if y < 0 then -y else y) = num ∧ 0 ≤ num := ⟨_, rfl, by split <;> omega⟩
      rw [enum]
      refine ⟨_, rfl, b0, 31, rfl, rfl, .inl ⟨by omega, by omega⟩, _, rfl, _, num, rfl, rfl, _, 2147483629, rfl, rfl, (show (0 : Int) < 2147483629 by decide), ?_⟩
      obtain ⟨m1, m2⟩ := mod_b (b0 * 31 + num) (m := 2147483629) (by decide)
      refine ⟨_, rfl, 10, 18, rfl, rfl, ⟨by decide, by decide, by decide⟩, num, _, rfl, rfl, _, rfl, ite2 (fun _ => ?_) (fun _ => ?_)⟩
      · -- while
        refine ⟨fun q' σ H5 => ∃ (nm : Int) (es : List Int), σ = [some (.ref a), some (.int m), some (.ref l), some (.int ((b0 * 31 + num) % 2147483629)), some (.int (i : Nat)), some (.int y), some (.int nm), y7] ∧ 0 ≤ nm ∧ q' = nm.toNat ∧ es.length ≤ 1000 + 2 * i ∧ (∀ x ∈ es, 0 ≤ x) ∧ H5 l = some (.lst (es.map V.int)) ∧ H5 c = some (.lst ((cutI ns none (some 63)).map V.int)) ∧ Same H H5,
          ⟨_, num, ds, rfl, hnum, rfl, hdl, hdp, hl4, hc4, sm4⟩, fun q' σ H5 hW => ?_⟩
        obtain ⟨nm, es, rfl, hnm, rfl, hel, hep, hl5, hc5, sm5⟩ := hW
        have stop : ∃ (b0' : Int) (y4 y5 y6 y7' : Option V) (ds : List Int), [some (V.ref a), some (.int m), some (.ref l), some (.int ((b0 * 31 + num) % 2147483629)), some (.int (i : Nat)), some (.int y), some (.int nm), y7] = [some (V.ref a), some (.int m), some (.ref l), some (.int b0'), y4, y5, y6, y7'] ∧ 0 ≤ b0' ∧ b0' < 2147483629 ∧ ds.length ≤ 1000 + 2 * (i + 1) ∧ (∀ x ∈ ds, 0 ≤ x) ∧ H5 l = some (.lst (ds.map V.int)) ∧ H5 c = some (.lst ((cutI ns none (some 63)).map V.int)) ∧ Same H H5 :=
          ⟨_, _, _, _, _, es, rfl, m1, m2, by omega, hep, hl5, hc5, sm5⟩
        refine ⟨_, rfl, nm, 0, rfl, rfl, _, rfl, ite2 (fun c1 => ?_) (fun _ => iteF stop)⟩
        have hnpos : 0 < nm := of_decide_eq_true c1
        refine ⟨_, rfl, l, _, rfl, .inl (SqL.of hl5), _, rfl, _, _, rfl, rfl, _, rfl, ite2 (fun c2 => ?_) (fun _ => stop)⟩
        have hless : (((es.map V.int).length : Nat) : Int) < m := of_decide_eq_true c2
        rw [List.length_map] at hless
        refine ⟨fun σ' H' => ∃ (nm' : Int) (es' : List Int), σ' = [some (.ref a), some (.int m), some (.ref l), some (.int ((b0 * 31 + num) % 2147483629)), some (.int (i : Nat)), some (.int y), some (.int nm'), y7] ∧ 0 ≤ nm' ∧ nm' < nm ∧ es'.length ≤ 1000 + 2 * i ∧ (∀ x ∈ es', 0 ≤ x) ∧ H' l = some (.lst (es'.map V.int)) ∧ H' c = some (.lst ((cutI ns none (some 63)).map V.int)) ∧ Same H H', fun σ' H' hN => ?_, ?_⟩
        · obtain ⟨nm', es', e1, e2, e3, r⟩ := hN
          exact ⟨nm'.toNat, by omega, nm', es', e1, e2, rfl, r⟩
        · refine ⟨_, rfl, .inl ⟨rfl, _, SqL.of hl5⟩, _, rfl, nm, 10007, rfl, rfl, (show (0 : Int) < 10007 by decide), l, _, _, rfl, rfl, hl5, line_lt (by rw [List.length_map]; omega), ?_⟩
          refine ⟨_, rfl, nm, 10007, rfl, rfl, ⟨by decide, by decide⟩, nm / 10007, es ++ [nm % 10007], rfl, Int.ediv_nonneg hnm (by decide), by omega, by rw [List.length_append, List.length_singleton]; omega, fun x hx => ?_, by rw [upd_same, List.map_append]; rfl, by rw [upd_ne nlc.symm]; exact hc5, fun b o e => ?_⟩
          · rcases List.mem_append.mp hx with hx | hx
            · exact hep x hx
            · rw [List.mem_singleton.mp hx]
              exact (mod_b nm (by decide)).1
          · rw [upd_ne (ne_of_none e nl)]
            exact sm5 _ _ e
      · -- two of a small number
        refine ⟨fun τ1 G1 => ∃ o1 : Int, 0 ≤ o1 ∧ o1 < 2147483647 ∧ τ1 = [some (.ref a), some (.int m), some (.ref l), some (.int ((b0 * 31 + num) % 2147483629)), some (.int (i : Nat)), some (.int y), some (.int num), some (.int o1)] ∧ G1 = H4, ?_, fun τ1 G1 hM => ?_⟩
        · exact ⟨_, rfl, num, 2147483647, rfl, rfl, (show (0 : Int) < 2147483647 by decide), _, rfl, _, _, rfl, rfl, _, 1, rfl, rfl, _, 48271, rfl, rfl, .inr ⟨by decide, by decide⟩, _, 2147483647, rfl, rfl, (show (0 : Int) < 2147483647 by decide), _, (mod_b _ (by decide)).1, (mod_b _ (by decide)).2, rfl, rfl⟩
        obtain ⟨o1, o10, o11, rfl, e1⟩ := hM
        subst e1
        refine ⟨fun τ2 G2 => ∃ o2 : Int, 0 ≤ o2 ∧ o2 < 2147483629 ∧ τ2 = [some (.ref a), some (.int m), some (.ref l), some (.int ((b0 * 31 + num) % 2147483629)), some (.int (i : Nat)), some (.int y), some (.int num), some (.int o2)] ∧ G2 = G1, ?_, fun τ2 G2 hM => ?_⟩
        · exact ⟨_, rfl, _, rfl, o1, o1, rfl, rfl, .inl ⟨by omega, by omega⟩, _, 2147483629, rfl, rfl, (show (0 : Int) < 2147483629 by decide), _, (mod_b _ (by decide)).1, (mod_b _ (by decide)).2, rfl, rfl⟩
        obtain ⟨o2, o20, o21, rfl, e1⟩ := hM
        subst e1
        refine ⟨_, rfl, .inl ⟨rfl, _, SqL.of hl4⟩, _, rfl, o2, 8, rfl, rfl, ⟨by decide, by decide⟩, _, 10007, rfl, rfl, (show (0 : Int) < 10007 by decide), l, _, _, rfl, rfl, hl4, line_lt (by rw [List.length_map]; omega), ?_⟩
        refine ⟨fun τ3 G3 => ∃ o3 : Int, 0 ≤ o3 ∧ o3 < 2147483563 ∧ τ3 = [some (.ref a), some (.int m), some (.ref l), some (.int ((b0 * 31 + num) % 2147483629)), some (.int (i : Nat)), some (.int y), some (.int num), some (.int o3)] ∧ G3 = upd G2 l (.lst (ds.map V.int ++ [.int (o2 / 8 % 10007)])), ?_, fun τ3 G3 hM => ?_⟩
        · exact ⟨_, rfl, o2, 40692, rfl, rfl, .inl ⟨by omega, by omega⟩, _, rfl, 2, _, rfl, rfl, .inl ⟨by decide, by decide⟩, _, _, rfl, rfl, _, 1, rfl, rfl, _, 2147483563, rfl, rfl, (show (0 : Int) < 2147483563 by decide), _, (mod_b _ (by decide)).1, (mod_b _ (by decide)).2, rfl, rfl⟩
        obtain ⟨o3, o30, o31, rfl, rfl⟩ := hM
        refine ⟨fun τ4 G4 => ∃ o4 : Int, 0 ≤ o4 ∧ o4 < 2147483647 ∧ τ4 = [some (.ref a), some (.int m), some (.ref l), some (.int ((b0 * 31 + num) % 2147483629)), some (.int (i : Nat)), some (.int y), some (.int num), some (.int o4)] ∧ G4 = upd G2 l (.lst (ds.map V.int ++ [.int (o2 / 8 % 10007)])), ?_, fun τ4 G4 hM => ?_⟩
        · exact ⟨_, rfl, _, rfl, o3, o3, rfl, rfl, .inl ⟨by omega, by omega⟩, _, 2147483647, rfl, rfl, (show (0 : Int) < 2147483647 by decide), _, (mod_b _ (by decide)).1, (mod_b _ (by decide)).2, rfl, rfl⟩
        obtain ⟨o4, o40, o41, rfl, rfl⟩ := hM
        refine ⟨_, rfl, .inl ⟨rfl, _, SqL.of upd_same⟩, _, rfl, o4, 8, rfl, rfl, ⟨by decide, by decide⟩, _, 10007, rfl, rfl, (show (0 : Int) < 10007 by decide), l, _, _, rfl, rfl, upd_same, line_lt (by rw [List.length_append, List.length_map]; show _ + 1 < _; omega), ?_⟩
        refine ⟨_, _, _, _, _, (ds ++ [o2 / 8 % 10007]) ++ [o4 / 8 % 10007], rfl, m1, m2, by rw [List.length_append, List.length_append]; show _ + 1 + 1 ≤ _; omega, fun x hx => ?_, by rw [upd_same, List.map_append, List.map_append]; rfl, by rw [upd_ne nlc.symm, upd_ne nlc.symm]; exact hc4, fun b o e => ?_⟩
        · rcases List.mem_append.mp hx with hx | hx
          · rcases List.mem_append.mp hx with hx | hx
            · exact hdp x hx
            · rw [List.mem_singleton.mp hx]
              exact (mod_b _ (by decide)).1
          · rw [List.mem_singleton.mp hx]
            exact (mod_b _ (by decide)).1
        · rw [upd_ne (ne_of_none e nl), upd_ne (ne_of_none e nl)]
          exact sm4 _ _ e
    · obtain ⟨b0, y4, y5, y6, y7, ds, rfl, hb0, hb1, hdl, hdp, hl3, hc3, sm⟩ := hP
      rw [List.length_map] at hdl
      -- the rest
      refine ⟨_, rfl, _, rfl, l, _, rfl, .inl (SqL.of hl3), m, _, rfl, rfl, _, rfl, by rw [List.length_map]; omega, by rw [List.length_map]; omega, ?_⟩
      rw [List.length_map]
      refine for_range (n := (m - (ds.length : Int)).toNat) (fun i σ H4 => ∃ (y4 y5 y6 y7 : Option V) (es : List Int), σ = [some (.ref a), some (.int m), some (.ref l), some (.int b0), y4, y5, y6, y7] ∧ es.length = ds.length + i ∧ (∀ x ∈ es, 0 ≤ x) ∧ H4 l = some (.lst (es.map V.int)) ∧ Same H H4)
        ⟨_, _, _, _, ds, rfl, rfl, hdp, hl3, sm⟩ (fun i σ H4 hi hP => ?_) (fun σ H4 hP => ?_)
      · obtain ⟨z4, z5, z6, z7, es, rfl, hel, hep, hl4, sm4⟩ := hP
        refine ⟨fun τ1 G1 => ∃ o1 : Int, 0 ≤ o1 ∧ o1 < 2147483629 ∧ τ1 = [some (.ref a), some (.int m), some (.ref l), some (.int b0), some (.int (0 + (i : Int))), z5, z6, some (.int o1)] ∧ G1 = H4, ?_, fun τ1 G1 hM => ?_⟩
        · exact ⟨_, rfl, _, rfl, 7919, _, rfl, rfl, .inl ⟨by decide, by decide⟩, _, _, rfl, rfl, _, 13, rfl, rfl, _, 2147483629, rfl, rfl, (show (0 : Int) < 2147483629 by decide), _, (mod_b _ (by decide)).1, (mod_b _ (by decide)).2, rfl, rfl⟩
        obtain ⟨o1, o10, o11, rfl, e1⟩ := hM
        subst e1
        refine ⟨fun τ2 G2 => ∃ o2 : Int, 0 ≤ o2 ∧ o2 < 2147483647 ∧ τ2 = [some (.ref a), some (.int m), some (.ref l), some (.int b0), some (.int (0 + (i : Int))), z5, z6, some (.int o2)] ∧ G2 = G1, ?_, fun τ2 G2 hM => ?_⟩
        · exact ⟨_, rfl, _, rfl, o1, o1, rfl, rfl, .inl ⟨by omega, by omega⟩, _, 2147483647, rfl, rfl, (show (0 : Int) < 2147483647 by decide), _, (mod_b _ (by decide)).1, (mod_b _ (by decide)).2, rfl, rfl⟩
        obtain ⟨o2, o20, o21, rfl, e1⟩ := hM
        subst e1
        refine ⟨fun τ3 G3 => ∃ o3 : Int, 0 ≤ o3 ∧ o3 < 2147483563 ∧ τ3 = [some (.ref a), some (.int m), some (.ref l), some (.int b0), some (.int (0 + (i : Int))), z5, z6, some (.int o3)] ∧ G3 = G2, ?_, fun τ3 G3 hM => ?_⟩
        · exact ⟨_, rfl, o2, 69621, rfl, rfl, .inl ⟨by omega, by omega⟩, _, rfl, _, _, rfl, rfl, _, 2147483563, rfl, rfl, (show (0 : Int) < 2147483563 by decide), _, (mod_b _ (by decide)).1, (mod_b _ (by decide)).2, rfl, rfl⟩
        obtain ⟨o3, o30, o31, rfl, e1⟩ := hM
        subst e1
        refine ⟨_, rfl, .inl ⟨rfl, _, SqL.of hl4⟩, _, rfl, _, rfl, o3, o3, rfl, rfl, .inl ⟨by omega, by omega⟩, _, 2147483629, rfl, rfl, (show (0 : Int) < 2147483629 by decide), _, 8, rfl, rfl, ⟨by decide, by decide⟩, _, 10007, rfl, rfl, (show (0 : Int) < 10007 by decide), l, _, _, rfl, rfl, hl4, line_lt (by rw [List.length_map]; omega), ?_⟩
        refine ⟨_, _, _, _, es ++ [o3 * o3 % 2147483629 / 8 % 10007], rfl, by rw [List.length_append, hel]; show _ + 1 = _; omega, fun x hx => ?_, by rw [upd_same, List.map_append]; rfl, fun b o e => ?_⟩
        · rcases List.mem_append.mp hx with hx | hx
          · exact hep x hx
          · rw [List.mem_singleton.mp hx]
            exact (mod_b _ (by decide)).1
        · rw [upd_ne (ne_of_none e nl)]
          exact sm4 _ _ e
      · obtain ⟨z4, z5, z6, z7, es, rfl, hel, hep, hl4, sm4⟩ := hP
        exact ⟨_, rfl, q es l H4 (by omega) hep nl hl4 sm4⟩
theorem scOrder : FnScope ["store", "n", "way", "left", "by", "at", "found", "place"] ["store", "n"] (defScope s_law_order) := ⟨rfl, rfl, rfl, by decide +kernel, rfl, by decide +kernel, by decide +kernel⟩
set_option maxHeartbeats 4000000 in
theorem ok_order {f fD : Addr} {fd fdD : FuncData} {k : Nat} (T : Df K mg "_law_order" s_law_order ["store", "n"] f fd) (T__law_take : Df K mg "_law_take" s_law_take ["store", "many"] fD fdD) (B : Bi mg) : FnOk P w K mg base CX0 (k + 2) f fd ["store", "n"] spOrder := by
  have G__law_take : FnOk P w K mg base CX0 (k + 1) fD fdD ["store", "many"] spTake := ok_take T__law_take B
  refine T.F.ok scOrder (fun vs H Q E h => ?_) (fun cdv A outer s H vs Q E hr h => ?_)
  · obtain ⟨S, n, rfl, _⟩ := h
    rfl
  · obtain ⟨S, n, rfl, hS, hn1, hn2, q⟩ := h
    refine ⟨_, 
      (pss_cons (ps_set (i := 2) scOrder.nd rfl (.inl rfl) (pe_call G__law_take hr (by rfl) T__law_take.g T__law_take.F.kp T__law_take.b .nil pass0 (pa_cons (pv 0) (pa_cons pe_int pa_nil))))
      (pss_cons (ps_set (i := 3) scOrder.nd rfl (.inr rfl) (pe_listRg rfl (by rfl) B.list (prg_1 (by rfl) B.range (pv 1))))
      (pss_cons (ps_if (pt_cmpR op_gt (pv 2) pe_int (nomark _))
        (pss_one (ps_ret (pe_lc (own := [("place", 7)]) (g := (gName 7)) (tt := tYes) (te := (tBM K "list" rPopAt (tVar 3) (tCons (tCall spTake [] E0 (tCons (tVar 0) (tCons (tCB (rLenS K) (tCons (tVar 3) tNil)) tNil))) tNil))) rfl scOrder.nd (pi_range1 (by rfl) B.range (pa_cons (pv 1) pa_nil)) (blkOk_by (N := ["store", "n", "way", "left", "by", "at", "found", "place"]) (sc := defScope s_law_order) (by decide +kernel)) (fun _ _ _ _ _ => (pg_name (i := 7) scOrder.nd rfl (.inl rfl))) (fun _ _ _ _ _ => pts_nil) (fun _ _ _ _ _ => (pe_bm PySem.F.plainAttrs_list PySem.F.slot_list_pop PySem.F.type_list_pop mt_popAt (pv 3) (pa_cons (pe_call G__law_take hr (by rfl) T__law_take.g T__law_take.F.kp T__law_take.b .nil pass0 (pa_cons (pv 0) (pa_cons (pe_callB call_len_seq (by rfl) B.len PySem.boot_len (pa_cons (pv 3) pa_nil)) pa_nil))) pa_nil))))))
        pss_nil)
      (pss_cons (ps_set (i := 4) scOrder.nd rfl (.inl rfl) (pe_call G__law_take hr (by rfl) T__law_take.g T__law_take.F.kp T__law_take.b .nil pass0 (pa_cons (pv 0) (pa_cons (pv 1) pa_nil))))
      (pss_cons (ps_set (i := 5) scOrder.nd rfl (.inl rfl) (pe_call G__law_take hr (by rfl) T__law_take.g T__law_take.F.kp T__law_take.b .nil pass0 (pa_cons (pv 0) (pa_cons (pv 1) pa_nil))))
      (pss_cons (ps_set (i := 6) scOrder.nd rfl (.inl rfl) (pe_ix ix_list (pe_lst (pa_cons (pv 3) (pa_cons (pe_revL (pv 3)) (pa_cons (pe_op op_cat (pe_slice sl_list (pv 3) (po_some (pv 4)) po_none) (pe_slice sl_list (pv 3) po_none (po_some (pv 4)))) pa_nil)))) (pv 2) (fun _ _ => rfl)))
      (pss_one (ps_ret (pe_op op_cat (pe_slice sl_list (pv 6) po_none (po_some (pv 5))) (pe_stepL (pe_slice sl_list (pv 6) (po_some (pv 5)) po_none) (pe_ix ix_list (pe_lst (pa_cons pe_int (pa_cons (pe_un un_neg pe_int) pa_nil))) (pe_call G__law_take hr (by rfl) T__law_take.g T__law_take.F.kp T__law_take.b .nil pass0 (pa_cons (pv 0) (pa_cons pe_int pa_nil))) (fun _ _ => rfl)))))))))))), ?_⟩
    refine ⟨_, rfl, S, 5, rfl, hS, by decide, fun way H1 w0 w1 S1 k1 => ?_⟩
    refine ⟨_, rfl, n, rfl, RgOk.of_le (by omega) (by omega) (by omega) (by omega), fun l nl => ?_⟩
    have sl := same_new (o := .lst (rgV 0 (n : Int))) nl
    have hl2 : (upd H1 l (.lst (rgV 0 (n : Int)))) l = some (.lst ((rg n).map V.int)) := by rw [upd_same, rg_V]
    have S2 := S1.same sl
    have k2 : KeepS S H (upd H1 l (.lst (rgV 0 (n : Int)))) := k1.trans (KeepS.of_same sl)
    obtain ⟨nld, nldl⟩ := S1.apart nl
    have nHl : H l = none := keepS_none k1 nl nld
    generalize upd H1 l (.lst (rgV 0 (n : Int))) = H2 at hl2 S2 k2 ⊢
    refine ⟨_, rfl, way, 2, rfl, rfl, _, rfl, ite2 (fun _ => ?_) (fun cw => ?_)⟩
    · refine ⟨_, rfl, n, rfl, by omega, by omega, ?_⟩
      rw [Int.toNat_natCast]
      intro p np
      obtain ⟨npd, npdl⟩ := S2.apart np
      have lp : l ≠ p := ne_of_none hl2 np
      refine lc_range (lo := 0) (n := n) (fun i H3 => ∃ (rest acc : List Int), (acc ++ rest).Perm (rg n) ∧ acc.length = i ∧ H3 l = some (.lst (rest.map V.int)) ∧ H3 p = some (.lst (acc.map V.int)) ∧ SkAt H3 S ∧ KeepS S H H3)
        ⟨rg n, [], List.Perm.refl _, rfl, by rw [upd_ne lp]; exact hl2, upd_same, S2.upd npd npdl, fun b o e f => by rw [upd_ne (ne_of_none (k2 b o e f) np)]; exact k2 b o e f⟩ (fun i H3 hi hP => ?_) (fun H3 hP => ?_)
      · obtain ⟨rest, acc, hperm, el, hl3, hp3, S3, kp3⟩ := hP
        have hlen : rest.length = n - i := by
          have := List.Perm.length_eq hperm
          rw [List.length_append, rg_len] at this
          omega
        have hlm : (rest.map V.int).length = rest.length := List.length_map _
        refine ⟨rfl, ?_⟩
        refine ⟨_, rfl, .inl ⟨rfl, _, SqL.of hl3⟩, _, rfl, _, rfl, l, _, rfl, .inl (SqL.of hl3), S, _, rfl, S3, by rw [hlm]; omega, fun v H4 v0 v1 S4 k4 => ?_⟩
        rw [hlm] at v1
        obtain ⟨y, ey⟩ : ∃ y, rest[v.toNat]? = some y := ⟨rest[v.toNat]'(by omega), List.getElem?_eq_getElem (by omega)⟩
        have hl4 := k4 l _ hl3 nld
        have hp4 := k4 p _ hp3 npd
        refine ⟨l, _, v, v.toNat, _, rfl, rfl, hl4, by omega, by omega, seq_ix (by omega) (by rw [hlm]; omega), int_at ey, ?_⟩
        refine ⟨acc.map V.int, by rw [upd_ne lp.symm]; exact hp4, line_lt (by rw [List.length_map]; omega), rest.eraseIdx v.toNat, acc ++ [y], ?_, by rw [List.length_append, el]; rfl, ?_, by rw [upd_same, List.map_append]; rfl, ?_, fun b o e f => ?_⟩
        · rw [List.append_assoc]
          exact (List.Perm.append_left acc (pop_perm ey)).trans hperm
        · rw [upd_ne lp, upd_same, map_erase]
        · exact (S4.upd nld nldl).upd npd npdl
        · rw [upd_ne (ne_of_none (k2 b o e f) np), upd_ne (ne_of_none e nHl)]
          exact k4 b o (kp3 b o e f) f
      · obtain ⟨rest, acc, hperm, el, hl3, hp3, S3, kp3⟩ := hP
        have hr0 : rest = [] := by
          have := List.Perm.length_eq hperm
          rw [List.length_append, rg_len] at this
          exact List.eq_nil_of_length_eq_zero (by omega)
        subst hr0
        rw [List.append_nil] at hperm
        exact q acc p H3 hperm (keepS_none k2 np npd) hp3 S3 kp3
    · have hway : way = 0 ∨ way = 1 ∨ way = 2 := by
        have : ¬ (2 : Int) < way := fun z => cw (decide_eq_true z)
        omega
      refine ⟨_, rfl, _, rfl, S, n, rfl, S2, by omega, fun by' H3 b0 b1 S3 k3 => ?_⟩
      have hl3 := k3 l _ hl2 nld
      refine ⟨_, rfl, _, rfl, S, n, rfl, S3, by omega, fun at' H4 a0 a1 S4 k4 => ?_⟩
      have hl4 := k4 l _ hl3 nld
      have kk4 : KeepS S H H4 := (k2.trans k3).trans k4
      obtain ⟨bn, rfl⟩ : ∃ bn : Nat, by' = (bn : Int) := ⟨by'.toNat, by omega⟩
      obtain ⟨an, rfl⟩ : ∃ an : Nat, at' = (an : Int) := ⟨at'.toNat, by omega⟩
      -- found
      refine ⟨_, rfl, _, rfl, l, _, rfl, SqL.of hl4, fun q1 nq1 => ?_⟩
      have t1 := same_new (o := .lst ((rg n).map V.int).reverse) nq1
      refine ⟨_, rfl, _, rfl, _, rfl, l, _, rfl, SqL.of (t1 _ _ hl4), fun q2 nq2 => ?_⟩
      have t2 := same_new (o := .lst (cutV ((rg n).map V.int) (some (bn : Int)) none)) nq2
      refine ⟨_, rfl, _, rfl, _, rfl, l, _, rfl, SqL.of (t2 _ _ (t1 _ _ hl4)), fun q3 nq3 => ?_⟩
      have t3 := same_new (o := .lst (cutV ((rg n).map V.int) none (some (bn : Int)))) nq3
      have hq2 := t3 _ _ (upd_same (H := upd H4 q1 (.lst ((rg n).map V.int).reverse)) (a := q2) (o := .lst (cutV ((rg n).map V.int) (some (bn : Int)) none)))
      have ec2 : cutV ((rg n).map V.int) (some (bn : Int)) none = ((rg n).drop bn).map V.int := by rw [cut_ints, cutI_tail]
      have ec3 : cutV ((rg n).map V.int) none (some (bn : Int)) = ((rg n).take bn).map V.int := by rw [cut_ints, cutI_head]
      refine ⟨q2, q3, _, _, rfl, rfl, hq2, upd_same, line_small (by rw [ec2, ec3, List.length_map, List.length_map, List.length_drop, List.length_take, rg_len]; omega), fun q4 nq4 => ?_⟩
      have t4 := same_new (o := .lst (cutV ((rg n).map V.int) (some (bn : Int)) none ++ cutV ((rg n).map V.int) none (some (bn : Int)))) nq4
      refine ⟨line_small (by show 3 ≤ 16777216; decide), fun q5 nq5 => ?_⟩
      have t5 := same_new (o := .lst [.ref l, .ref q1, .ref q4]) nq5
      have tt := ((((t1.trans t2).trans t3).trans t4).trans t5)
      have hl5 := tt _ _ hl4
      have hq15 := t5 _ _ (t4 _ _ (t3 _ _ (t2 _ _ (upd_same (H := H4) (a := q1) (o := .lst ((rg n).map V.int).reverse)))))
      have hq45 := t5 _ _ (upd_same (H := upd (upd (upd H4 q1 (.lst ((rg n).map V.int).reverse)) q2 (.lst (cutV ((rg n).map V.int) (some (bn : Int)) none))) q3 (.lst (cutV ((rg n).map V.int) none (some (bn : Int))))) (a := q4) (o := .lst (cutV ((rg n).map V.int) (some (bn : Int)) none ++ cutV ((rg n).map V.int) none (some (bn : Int)))))
      have hq55 := upd_same (H := upd (upd (upd (upd H4 q1 (.lst ((rg n).map V.int).reverse)) q2 (.lst (cutV ((rg n).map V.int) (some (bn : Int)) none))) q3 (.lst (cutV ((rg n).map V.int) none (some (bn : Int))))) q4 (.lst (cutV ((rg n).map V.int) (some (bn : Int)) none ++ cutV ((rg n).map V.int) none (some (bn : Int))))) (a := q5) (o := .lst [.ref l, .ref q1, .ref q4])
      have S5 := S4.same tt
      have k5 : KeepS S H4 _ := KeepS.of_same tt
      generalize upd (upd (upd (upd (upd H4 q1 (.lst ((rg n).map V.int).reverse)) q2 (.lst (cutV ((rg n).map V.int) (some (bn : Int)) none))) q3 (.lst (cutV ((rg n).map V.int) none (some (bn : Int))))) q4 (.lst (cutV ((rg n).map V.int) (some (bn : Int)) none ++ cutV ((rg n).map V.int) none (some (bn : Int))))) q5 (.lst [.ref l, .ref q1, .ref q4]) = H5 at hl5 hq15 hq45 hq55 S5 k5 ⊢
      obtain ⟨fo, fs, efo, hfo, ofs⟩ : ∃ (fo : Addr) (fs : List Int), atI [V.ref l, V.ref q1, V.ref q4] way = some (.ref fo) ∧ H5 fo = some (.lst (fs.map V.int)) ∧ IsOrd n fs := by
        rcases hway with rfl | rfl | rfl
        · exact ⟨l, rg n, rfl, hl5, List.Perm.refl _⟩
        · exact ⟨q1, (rg n).reverse, rfl, by rw [hq15, List.map_reverse], List.reverse_perm _⟩
        · refine ⟨q4, (rg n).drop bn ++ (rg n).take bn, rfl, by rw [hq45, ec2, ec3, List.map_append], ?_⟩
          have h : ((rg n).drop bn ++ (rg n).take bn).Perm ((rg n).take bn ++ (rg n).drop bn) := List.perm_append_comm
          rw [List.take_append_drop] at h
          exact h
      refine ⟨_, rfl, q5, _, way, _, rfl, rfl, SqL.of hq55, efo, ?_⟩
      have nfo : fo ≠ S.d := fun z => by
        obtain ⟨i, e⟩ := S5.top
        rw [← z, hfo] at e
        have hfl := ofs.len
        match fs, hfl, e with
        | [], hfl, _ => simp at hfl; omega
        | x :: r, _, e => cases e
      -- found[:at] + found[at:][::step]
      refine ⟨_, rfl, _, rfl, _, rfl, fo, _, rfl, SqL.of hfo, fun q6 nq6 => ?_⟩
      have t6 := same_new (o := .lst (cutV (fs.map V.int) none (some (an : Int)))) nq6
      refine ⟨_, rfl, _, rfl, _, rfl, fo, _, rfl, SqL.of (t6 _ _ hfo), fun q7 nq7 => ?_⟩
      have t7 := same_new (o := .lst (cutV (fs.map V.int) (some (an : Int)) none)) nq7
      have ec6 : cutV (fs.map V.int) none (some (an : Int)) = (fs.take an).map V.int := by rw [cut_ints, cutI_head]
      have ec7 : cutV (fs.map V.int) (some (an : Int)) none = (fs.drop an).map V.int := by rw [cut_ints, cutI_tail]
      refine ⟨q7, rfl, 1, rfl, line_small (by show 2 ≤ 16777216; decide), fun q8 nq8 => ?_⟩
      have t8 := same_new (o := .lst [.int 1, .int (-1)]) nq8
      have t68 := (t6.trans t7).trans t8
      have S8 := S5.same t68
      obtain ⟨n6, _⟩ := S5.apart nq6
      obtain ⟨n7, _⟩ := (S5.same t6).apart nq7
      obtain ⟨n8, _⟩ := (S5.same (t6.trans t7)).apart nq8
      refine ⟨_, rfl, S, 2, rfl, S8, by decide, fun v H9 v0 v1 S9 k9 => ?_⟩
      have hq6 := k9 q6 _ (t8 _ _ (t7 _ _ upd_same)) n6
      have hq7 := k9 q7 _ (t8 _ _ upd_same) n7
      have hq8 := k9 q8 _ upd_same n8
      have kk9 : KeepS S H H9 := ((kk4.trans k5).trans (KeepS.of_same t68)).trans k9
      have fin : ∀ (zs : List V) (ms : List Int), zs = ms.map V.int → (fs.take an ++ ms).Perm fs → ∀ p, H9 p = none → ∀ r, (upd H9 p (.lst zs)) r = none → Q (.ref r) (upd (upd H9 p (.lst zs)) r (.lst (cutV (fs.map V.int) none (some (an : Int)) ++ zs))) := fun zs ms ezs hpm p np r nr => by
        have u1 := same_new (o := .lst zs) np
        have u2 := same_new (o := .lst (cutV (fs.map V.int) none (some (an : Int)) ++ zs)) nr
        obtain ⟨nrd, _⟩ := (S9.same u1).apart nr
        exact q _ r _ (hpm.trans ofs) (keepS_none (kk9.trans (KeepS.of_same u1)) nr nrd) (by rw [upd_same, ec6, ezs, List.map_append]) ((S9.same u1).same u2) ((kk9.trans (KeepS.of_same u1)).trans (KeepS.of_same u2))
      have hsz : ∀ ms : List Int, (fs.take an ++ ms).Perm fs → (cutV (fs.map V.int) none (some (an : Int))).length + (ms.map V.int).length ≤ sizeLine := fun ms hpm => line_small (by
        have := hpm.length_eq
        rw [List.length_append, ofs.len] at this
        rw [ec6, List.length_map, List.length_map]
        omega)
      have p1 : (fs.take an ++ fs.drop an).Perm fs := by rw [List.take_append_drop]
      have p2 : (fs.take an ++ (fs.drop an).reverse).Perm fs := by
        have h : (fs.take an ++ (fs.drop an).reverse).Perm (fs.take an ++ fs.drop an) := List.Perm.append_left _ (List.reverse_perm _)
        rw [List.take_append_drop] at h
        exact h
      have hv : v = 0 ∨ v = 1 := by omega
      rcases hv with rfl | rfl
      · refine ⟨q8, _, 0, _, rfl, rfl, SqL.of hq8, at2_0, 1, rfl, _, SqL.of hq7, .inl ⟨rfl, fun p np => ?_⟩⟩
        refine ⟨q6, p, _, _, rfl, rfl, same_new np _ _ hq6, upd_same, by rw [ec7]; exact hsz _ p1, fun r nr => ?_⟩
        exact fin _ (fs.drop an) ec7 p1 p np r nr
      · refine ⟨q8, _, 1, _, rfl, rfl, SqL.of hq8, at2_1, -1, rfl, _, SqL.of hq7, .inr ⟨rfl, fun p np => ?_⟩⟩
        refine ⟨q6, p, _, _, rfl, rfl, same_new np _ _ hq6, upd_same, by rw [ec7, ← List.map_reverse]; exact hsz _ p2, fun r nr => ?_⟩
        exact fin _ (fs.drop an).reverse (by rw [ec7, List.map_reverse]) p2 p np r nr
end
end Fo
namespace Fo
open PySem PySem.Spec PyProof.Rows L2
open Classical in
noncomputable def cutK (S : Sk) (H : Hp) : Hp := fun b => if b = S.d then none else H b
theorem cutK_ne {S : Sk} {H : Hp} {b : Addr} (h : b ≠ S.d) : cutK S H b = H b := by
  unfold cutK
  rw [if_neg h]
theorem cutK_of {S : Sk} {H : Hp} {b : Addr} {o : HO} (h : cutK S H b = some o) : H b = some o ∧ b ≠ S.d := by
  unfold cutK at h
  split at h
  · cases h
  · exact ⟨h, by assumption⟩
noncomputable def srcSk (S : Sk) : Src where
  At := fun H => SkAt H S
  Kp := KeepS S
  cut := cutK S
  refl := fun _ _ _ e _ => e
  trans := KeepS.trans
  kp := fun k b o e => by
    obtain ⟨e1, e2⟩ := cutK_of e
    rw [cutK_ne e2]
    exact k b o e1 e2
  le := fun _ _ _ e => (cutK_of e).1
  same := fun h s => ⟨h.same s, KeepS.of_same s⟩
  put := fun {H H1 p} o h k h1 np => by
    obtain ⟨n1, n2⟩ := h.apart np
    refine ⟨h1.upd n1 n2, fun b x e f => ?_, by rw [cutK_ne n1]; exact upd_same, fun b hb => ?_⟩
    · rw [upd_ne (ne_of_none e np)]
      exact k b x e f
    · unfold cutK
      split
      · rfl
      · exact upd_ne hb
section
variable {S : Sk} {σ : L2.St} {H : Hp} {m k a b : Nat} {u : TE}
theorem oe_take {i : Nat} {A : Int → Prop} (e : σ[i]? = some (some (.ref S.d))) (g : OE (srcSk S) u σ H a b (oI A)) (hA : ∀ z, A z → 0 < z ∧ z ≤ 100000000000000000000000000) : OE (srcSk S) (tCall spTake [] E0 (tCons (tVar i) (tCons u tNil))) σ H 110 0 (oI fun z => ∃ y, A y ∧ 0 ≤ z ∧ z < y) := fun H1 Q e1 at1 q =>
  ⟨_, e, g H1 _ e1 at1 fun v H2 e2 at2 o => by
    obtain ⟨y, rfl, hy⟩ := od_int o
    obtain ⟨h1, h2⟩ := hA y hy
    exact ⟨S, y, rfl, at2, h1, fun z H3 z0 z1 at3 k3 => q _ _ (KeepS.trans e2 k3) at3 ⟨.int z, .int z, rw_int (by omega) (by omega), z, rfl, y, hy, z0, z1⟩⟩⟩
/-- with a written number -/
theorem oe_takeC {i : Nat} {n : Int} (e : σ[i]? = some (some (.ref S.d))) (h : 0 < n ∧ n ≤ 100000000000000000000000000) : OE (srcSk S) (tCall spTake [] E0 (tCons (tVar i) (tCons (tC (.int n)) tNil))) σ H 110 0 (oI fun z => 0 ≤ z ∧ z < n) :=
  (oe_take e (oe_intI ⟨by omega, h.2⟩) fun z e => by rw [e]; exact h).imp fun _ ⟨z, h1, y, h2, h3⟩ => ⟨z, h1, by rw [← h2]; exact h3⟩
end
end Fo
namespace Fo
open PySem PySem.Spec PyProof.Rows L2
/-! defs that refuse -/
section
variable {P : Program} {w : World} {K : PySem.W.Frag} {mg : Str → Option Value} {base : Heap} {k : Nat} {f : Addr} {fd : FuncData} {ps : List Str}
theorem fn_up {sp : Sp} (F : FnOk P w K mg base CX0 k f fd ps sp) : FnOk P w K mg base (L2.CX P w) k f fd ps sp :=
  ⟨F.len, fun A outer s H args us vs Q E hr e0 hb hv hs => codeAny_mono (F.run A outer s H args us vs Q E hr e0 hb hv hs) fun r s' h => match r, h with
    | .error _, h => h.elim
    | .ok (.ret _), h => h
    | .ok .next, h => h
    | .ok .brk, h => h
    | .ok .cont, h => h⟩
theorem fn_or {CX : CXT} {sp sp' : Sp} (F : FnOk P w K mg base CX k f fd ps sp) (G : FnOk P w K mg base CX k f fd ps sp') : FnOk P w K mg base CX k f fd ps (fun vs H Q E => sp vs H Q E ∨ sp' vs H Q E) :=
  ⟨fun vs H Q E h => h.elim (F.len vs H Q E) (G.len vs H Q E), fun A outer s H args us vs Q E hr e0 hb hv hs => hs.elim (F.run A outer s H args us vs Q E hr e0 hb hv) (G.run A outer s H args us vs Q E hr e0 hb hv)⟩
def spNever : Sp := fun _ _ _ _ => False
theorem fn_never {CX : CXT} : FnOk P w K mg base CX k f fd ps spNever := ⟨fun _ _ _ _ h => h.elim, fun _ _ _ _ _ _ _ _ _ _ _ _ _ h => h.elim⟩
end
/-- an error class of the program, over ValueError -/
structure ExK (K : PySem.W.Frag) (mg : Str → Option Value) (x : Str) (C : Addr) : Prop where
  g : mg x = some (.ref C)
  q : PySem.W.excIn K C [.type "ValueError", .type "Exception", .type "BaseException", .type "object"] "ValueError.__new__" = true
  kp : PySem.W.keepIn K (.ref C) = true
  sb : PySem.W.subIn K (.ref C) (.type "BaseException") = some true
  ty : PySem.W.typeIn K (.ref C) = some (.type "type")
  ec : ExcC K C
section
variable {X : Cx}
theorem ps_raiseK {W : WX} {x m : Str} {C : Addr} {j : Nat} {p p2 pos pos' : Pos} (hc : X.calm = true) (tk : Takes X W) (c : ExK X.K X.mg x C) (hg : Gl X x) (hdb : (x == ("__debug__" : Str)) = false := by decide) :
    PS X (.Raise (some (.Call (.Name x p) [.Constant (.str m) j p2] [] pos)) none pos') (fun _ σ H => W (.ref C) none σ H) :=
  ps_raise hc tk (pmk_own PySem.F.excBase_ValueError c.q c.g c.kp (raises_own c.sb c.ty) hg hdb)
theorem ps_raiseA {W : WX} {x : Str} {C : Addr} {e : Expr} {ta : TE} {p pos pos' : Pos} (hc : X.calm = true) (tk : Takes X W) (c : ExK X.K X.mg x C) (hg : Gl X x) (he : PE X e ta) (hdb : (x == ("__debug__" : Str)) = false := by decide)
    (hs : starEach [e] X.env = (false, eval e X.env) :: starEach [] X.env := by rfl) :
    PS X (.Raise (some (.Call (.Name x p) [e] [] pos)) none pos') (fun _ σ H => ta σ H fun _ H1 => W (.ref C) none σ H1) :=
  ps_raise hc tk (SkE.pmk_own1 PySem.F.excBase_ValueError c.q c.g c.kp (raises_own c.sb c.ty) hg he hs hdb)
end
end Fo
namespace Fo
open PySem PySem.Spec PyProof.Rows L2
/-! what is no order is refused -/
def lenD : PyData → Nat
  | .list ds => ds.length
  | _ => 0
theorem good_at {H : Hp} {v : V} {d : PyData} (h : Dq H v d) (g : GoodD d) : ∃ (a : Addr) (ns : List Int), v = .ref a ∧ H a = some (.lst (ns.map V.int)) ∧ IsOrd ns.length ns ∧ 1 ≤ ns.length ∧ ns.length ≤ 12 ∧ lenD d = ns.length := by
  obtain ⟨ns, rfl, h1, h2, h3⟩ := g
  cases h with
  | @lst a xs _ e al =>
    have := dq_intsV al
    subst this
    exact ⟨a, ns, rfl, e, h1, h2, h3, List.length_map _⟩
def spChk (cO : Addr) : Sp := fun vs H Q E => ∃ (v : V) (d : PyData), vs = [v] ∧ Dq H v d ∧ (GoodD d → ∀ H', Same H H' → Q .non H') ∧ (¬ GoodD d → ∀ H', Same H H' → E (.ref cO) none H')
section
variable {P : Program} {w : World} {K : PySem.W.Frag} {mg : Str → Option Value} {base : Heap}
theorem scChk : FnScope ["thing"] ["thing"] (defScope s_check_order) := ⟨rfl, rfl, rfl, by decide +kernel, rfl, by decide +kernel, by decide +kernel⟩
theorem ok_chk {f f1 cO : Addr} {fd d1 : FuncData} {k : Nat} (T : Df K mg "check_order" s_check_order ["thing"] f fd) (T_is_order : Df K mg "is_order" s_is_order ["thing"] f1 d1) (G_is_order : FnOk P w K mg base CX0 k f1 d1 ["thing"] spIsOrdD) (X_NoOrder : ExK K mg "NoOrder" cO) : FnOk P w K mg base (L2.CX P w) (k + 1) f fd ["thing"] (spChk cO) := by
  refine T.F.okX scChk (fun vs H Q E h => ?_) (fun cdv A outer s H vs Q E hr h => ?_)
  · obtain ⟨v, d, rfl, _⟩ := h
    rfl
  · obtain ⟨v, d, rfl, hd, q1, q2⟩ := h
    refine ⟨_, 
      (pss_one (ps_if (pt_not (pt_val (pe_call G_is_order hr (by rfl) T_is_order.g T_is_order.F.kp T_is_order.b .nil pass0 (pa_cons (pv 0) pa_nil))))
        (pss_one (ps_raiseK rfl (takes_of rfl rfl rfl rfl) X_NoOrder (by rfl)))
        pss_nil)), ?_⟩
    refine ⟨_, rfl, v, d, rfl, hd, fun b H1 hb s1 => ?_⟩
    refine ⟨_, rfl, ?_⟩
    cases b with
    | true => exact iteF (q1 (hb.mp rfl) _ s1)
    | false => exact iteT (q2 (fun z => absurd (hb.mpr z) Bool.false_ne_true) _ s1)
end
end Fo
namespace Fo
open PySem PySem.Spec PyProof.Rows L2
def IsWay (w : Str) : Prop := w = "swap" ∨ w = "spot" ∨ w = "shift"
theorem n1 : ¬ (("spot" : Str) = "swap") := by decide +kernel
theorem n2 : ¬ (("shift" : Str) = "swap") := by decide +kernel
theorem n3 : ¬ (("shift" : Str) = "spot") := by decide +kernel
/-- the ways as the top has written them -/
structure Wy (K : PySem.W.Frag) (mg : Str → Option Value) (aW : Addr) : Prop where
  g : mg "WAYS" = some (.ref aW)
  t : ∀ H : Hp, SqT K H aW [.str "swap", .str "spot", .str "shift"]
theorem wy_mk {K : PySem.W.Frag} {mg : Str → Option Value} {aW : Addr} {dd : Option Addr} {n : Nat} {t1 t2 t3 : Tok} {sl : Array (Option Value)} (g : mg "WAYS" = some (.ref aW)) (l : K.lookup aW = some ⟨.type "tuple", dd, .seq #[.str "swap" t1, .str "spot" t2, .str "shift" t3] n, sl⟩) : Wy K mg aW :=
  ⟨g, fun H => .inr ⟨_, _, _, l, rfl, rfl, line_small (by show 3 ≤ 16777216; decide), .cons ⟨_, rfl⟩ (.cons ⟨_, rfl⟩ (.cons ⟨_, rfl⟩ .nil))⟩⟩
def spWay : Sp := fun vs H Q _ => ∃ (w : Str), vs = [.str w] ∧ IsWay w ∧ Q .non H
section
variable {P : Program} {w : World} {K : PySem.W.Frag} {mg : Str → Option Value} {base : Heap}
theorem scWay : FnScope ["thing"] ["thing"] (defScope s_check_way) := ⟨rfl, rfl, rfl, by decide +kernel, rfl, by decide +kernel, by decide +kernel⟩
theorem ok_way {f aW : Addr} {fd : FuncData} {k : Nat} (T : Df K mg "check_way" s_check_way ["thing"] f fd) (W : Wy K mg aW) (B : Bi mg) : FnOk P w K mg base CX0 (k + 1) f fd ["thing"] spWay := by
  refine T.F.ok scWay (fun vs H Q E h => ?_) (fun cdv A outer s H vs Q E hr h => ?_)
  · obtain ⟨z, rfl, _⟩ := h
    rfl
  · obtain ⟨z, rfl, hz, q⟩ := h
    refine ⟨_, 
      (pss_one (ps_if (PW.pt (pw_or (pt_not (pt_val (pe_callB call_isi (by rfl) B.isinstance (by decide +kernel) (pa_cons (pv 0) (pa_cons (pe_bltn (v := .ty "str") (by rfl) B.str (by decide +kernel) rfl) pa_nil))))) (pw_or1 (pt_cmpR op_notIn_seq (pv 0) (pe_glob (v := .ref aW) (by rfl) W.g rfl) (by rfl)))))
        (pss_one ps_never)
        pss_nil)), ?_⟩
    refine ⟨_, rfl, _, _, _, _, true, rfl, .ty _, .base (.str _), kit_ty (by decide +kernel), true, rfl, iteF ?_⟩
    rcases hz with rfl | rfl | rfl
    · exact ⟨_, rfl, aW, _, rfl, .inr (W.t H), rfl, rfl, _, rfl, ite2 (fun c => absurd c (by decide +kernel)) (fun _ => q)⟩
    · exact ⟨_, rfl, aW, _, rfl, .inr (W.t H), rfl, rfl, _, rfl, ite2 (fun c => absurd c (by decide +kernel)) (fun _ => q)⟩
    · exact ⟨_, rfl, aW, _, rfl, .inr (W.t H), rfl, rfl, _, rfl, ite2 (fun c => absurd c (by decide +kernel)) (fun _ => q)⟩
end
end Fo
namespace Fo
open PySem PySem.Spec PyProof.Rows L2
def WayD (d : PyData) : Prop := ∃ z : Str, d = .str z ∧ IsWay z
def spWayX (cW : Addr) : Sp := fun vs H Q E => ∃ (v : V) (d : PyData), vs = [v] ∧ Dq H v d ∧ (WayD d → Q .non H) ∧ (¬ WayD d → E (.ref cW) none H)
theorem inV_ways (z : Str) : inV (.str z) [.str "swap", .str "spot", .str "shift"] = decide (z = "swap" ∨ z = "spot" ∨ z = "shift") := by
  have e : ∀ x : Str, eqV (.str x) (.str z) = decide (z = x) := fun x => by
    unfold eqV
    by_cases h : x = z
    · subst h
      simp
    · have h2 : ¬ z = x := fun y => h y.symm
      simp [h, h2]
  unfold inV
  simp only [List.any_cons, List.any_nil, e, Bool.or_false]
  by_cases h1 : z = "swap"
  · simp [h1]
  · by_cases h2 : z = "spot"
    · simp [h2]
    · by_cases h3 : z = "shift"
      · simp [h3]
      · simp [h1, h2, h3]
section
variable {P : Program} {w : World} {K : PySem.W.Frag} {mg : Str → Option Value} {base : Heap}
theorem scWayX : FnScope ["thing"] ["thing"] (defScope s_check_way) := ⟨rfl, rfl, rfl, by decide +kernel, rfl, by decide +kernel, by decide +kernel⟩
theorem ok_wayX {f aW cW : Addr} {fd : FuncData} {k : Nat} (T : Df K mg "check_way" s_check_way ["thing"] f fd) (W : Wy K mg aW) (X_NoWay : ExK K mg "NoWay" cW) (B : Bi mg) : FnOk P w K mg base (L2.CX P w) (k + 1) f fd ["thing"] (spWayX cW) := by
  refine T.F.okX scWayX (fun vs H Q E h => ?_) (fun cdv A outer s H vs Q E hr h => ?_)
  · obtain ⟨v, d, rfl, _⟩ := h
    rfl
  · obtain ⟨v, d, rfl, hd, q1, q2⟩ := h
    refine ⟨_, 
      (pss_one (ps_if (PW.pt (pw_or (pt_not (pt_val (pe_callB call_isi (by rfl) B.isinstance (by decide +kernel) (pa_cons (pv 0) (pa_cons (pe_bltn (v := .ty "str") (by rfl) B.str (by decide +kernel) rfl) pa_nil))))) (pw_or1 (pt_cmpR op_notIn_seq (pv 0) (pe_glob (v := .ref aW) (by rfl) W.g rfl) (by rfl)))))
        (pss_one (ps_raiseK rfl (takes_of rfl rfl rfl rfl) X_NoWay (by rfl)))
        pss_nil)), ?_⟩
    refine ⟨_, rfl, _, _, _, _, isStrD d, rfl, .ty _, dq_ty hd, kit_strD d, _, rfl, ?_⟩
    cases hd with
    | str z =>
      refine iteF ⟨_, rfl, aW, _, rfl, .inr (W.t H), rfl, rfl, _, rfl, ?_⟩
      show if (!inV (.str z) [.str "swap", .str "spot", .str "shift"]) = true then _ else _
      rw [inV_ways]
      by_cases c : z = "swap" ∨ z = "spot" ∨ z = "shift"
      · rw [decide_eq_true c]
        exact iteF (q1 ⟨z, rfl, c⟩)
      · rw [decide_eq_false c]
        exact iteT (q2 fun y => by obtain ⟨z2, e, h⟩ := y; injection e with e; subst e; exact c h)
    | _ => exact iteT (iteT (q2 fun y => by obtain ⟨z2, e, h⟩ := y; cases e))
end
end Fo
namespace Fo
open PySem PySem.Spec PyProof.Rows L2
/-! what is no number is refused -/
def SizeD (most : Int) (d : PyData) : Prop := ∃ i : Int, d = .int i ∧ 1 ≤ i ∧ i ≤ most
def FromD (least : Int) (d : PyData) : Prop := ∃ i : Int, d = .int i ∧ least ≤ i
def spSizeX (cN : Addr) : Sp := fun vs H Q E => ∃ (v : V) (d : PyData) (most : Int), vs = [v, .int most] ∧ Dq H v d ∧ 0 ≤ most ∧ most ≤ 1000 ∧ (SizeD most d → Q .non H) ∧ (¬ SizeD most d → E (.ref cN) none H)
def spFromX (cN : Addr) : Sp := fun vs H Q E => ∃ (v : V) (d : PyData) (least : Int), vs = [v, .int least] ∧ Dq H v d ∧ 0 ≤ least ∧ least ≤ 1000 ∧ (FromD least d → Q .non H) ∧ (¬ FromD least d → E (.ref cN) none H)
theorem log2_1000 {i : Int} (h1 : 0 ≤ i) (h2 : i ≤ 1000) : i.natAbs.log2 < 1920 := by
  by_cases z : i.natAbs = 0
  · rw [z]
    decide
  · have : i.natAbs.log2 < 10 := by
      rw [Nat.log2_lt z]
      omega
    omega
theorem text_1000 {i : Int} (h1 : 0 ≤ i) (h2 : i ≤ 1000) : (Str.ofString (toString i)).length ≤ 20 := by
  have h : i.natAbs.log2 < 10 := by
    by_cases z : i.natAbs = 0
    · rw [z]
      decide
    · rw [Nat.log2_lt z]
      omega
  have := int_text_length_le (k := 10) (by decide) h
  rw [PySem.ofString_length]
  omega
section
variable {P : Program} {w : World} {K : PySem.W.Frag} {mg : Str → Option Value} {base : Heap}
theorem scSizeX : FnScope ["thing", "most"] ["thing", "most"] (defScope s_check_size) := ⟨rfl, rfl, rfl, by decide +kernel, rfl, by decide +kernel, by decide +kernel⟩
theorem ok_sizeX {f f1 cN : Addr} {fd d1 : FuncData} {k : Nat} (T : Df K mg "check_size" s_check_size ["thing", "most"] f fd) (T_is_whole : Df K mg "is_whole" s_is_whole ["thing"] f1 d1) (G_is_whole : FnOk P w K mg base CX0 k f1 d1 ["thing"] spWholeD) (X_NoNumber : ExK K mg "NoNumber" cN) (B : Bi mg) : FnOk P w K mg base (L2.CX P w) (k + 1) f fd ["thing", "most"] (spSizeX cN) := by
  refine T.F.okX scSizeX (fun vs H Q E h => ?_) (fun cdv A outer s H vs Q E hr h => ?_)
  · obtain ⟨v, d, most, rfl, _⟩ := h
    rfl
  · obtain ⟨v, d, most, rfl, hd, m0, m1, q1, q2⟩ := h
    refine ⟨_, 
      (pss_one (ps_if (PW.pt (pw_or (pt_not (pt_val (pe_call G_is_whole hr (by rfl) T_is_whole.g T_is_whole.F.kp T_is_whole.b .nil pass0 (pa_cons (pv 0) pa_nil)))) (pw_or (pt_cmpR op_lt (pv 0) pe_int (nomark _)) (pw_or1 (pt_cmpR op_gt (pv 0) (pv 1) (nomark _))))))
        (pss_one (ps_raiseA rfl (takes_of rfl rfl rfl rfl) X_NoNumber (by rfl) (pe_joined (PJ.cons pe_str (PJ.cons (pe_fmt (pv 1)) PJ.nil)))))
        pss_nil)), ?_⟩
    have bad : ¬ SizeD most d → tJs [tC (.str "not a whole number from 1 to "), tFmt (tVar 1)] Str.empty [some v, some (.int most)] H fun _ H1 => E (.ref cN) none H1 := fun n => by
      refine ⟨_, rfl, by decide +kernel, _, rfl, .inr ⟨most, rfl, log2_1000 m0 m1, _, rfl, ?_, q2 n⟩⟩
      rw [strLen_append]
      have := text_1000 m0 m1
      exact line_small (by
        have e : (Str.empty ++ ("not a whole number from 1 to " : Str)).length ≤ 40 := by decide +kernel
        have e2 : (toString most : Str) = Str.ofString (toString most) := rfl
        omega)
    refine ⟨_, rfl, v, d, rfl, hd, _, rfl, ?_⟩
    cases hd with
    | int y =>
      refine iteF ⟨_, rfl, y, 1, rfl, rfl, _, rfl, ?_⟩
      by_cases c0 : y < 1
      · rw [decide_eq_true c0]
        exact iteT (iteT (bad fun z => by obtain ⟨i, e, h, _⟩ := z; injection e with e; omega))
      · rw [decide_eq_false c0]
        refine iteF ⟨_, rfl, _, rfl, y, most, rfl, rfl, _, rfl, ?_⟩
        by_cases c1 : most < y
        · rw [decide_eq_true c1]
          exact iteT (bad fun z => by obtain ⟨i, e, _, h⟩ := z; injection e with e; omega)
        · rw [decide_eq_false c1]
          exact iteF (q1 ⟨y, rfl, by omega, by omega⟩)
    | _ => exact iteT (iteT (bad fun z => by obtain ⟨i, e, _⟩ := z; cases e))
theorem scFromX : FnScope ["thing", "least"] ["thing", "least"] (defScope s_check_from) := ⟨rfl, rfl, rfl, by decide +kernel, rfl, by decide +kernel, by decide +kernel⟩
theorem ok_fromX {f f1 cN : Addr} {fd d1 : FuncData} {k : Nat} (T : Df K mg "check_from" s_check_from ["thing", "least"] f fd) (T_is_whole : Df K mg "is_whole" s_is_whole ["thing"] f1 d1) (G_is_whole : FnOk P w K mg base CX0 k f1 d1 ["thing"] spWholeD) (X_NoNumber : ExK K mg "NoNumber" cN) (B : Bi mg) : FnOk P w K mg base (L2.CX P w) (k + 1) f fd ["thing", "least"] (spFromX cN) := by
  refine T.F.okX scFromX (fun vs H Q E h => ?_) (fun cdv A outer s H vs Q E hr h => ?_)
  · obtain ⟨v, d, most, rfl, _⟩ := h
    rfl
  · obtain ⟨v, d, most, rfl, hd, m0, m1, q1, q2⟩ := h
    refine ⟨_, 
      (pss_one (ps_if (PW.pt (pw_or (pt_not (pt_val (pe_call G_is_whole hr (by rfl) T_is_whole.g T_is_whole.F.kp T_is_whole.b .nil pass0 (pa_cons (pv 0) pa_nil)))) (pw_or1 (pt_cmpR op_lt (pv 0) (pv 1) (nomark _)))))
        (pss_one (ps_raiseA rfl (takes_of rfl rfl rfl rfl) X_NoNumber (by rfl) (pe_joined (PJ.cons pe_str (PJ.cons (pe_fmt (pv 1)) (PJ.cons pe_str PJ.nil))))))
        pss_nil)), ?_⟩
    have bad : ¬ FromD most d → tJs [tC (.str "not a whole number from "), tFmt (tVar 1), tC (.str " on")] Str.empty [some v, some (.int most)] H fun _ H1 => E (.ref cN) none H1 := fun n => by
      have := text_1000 m0 m1
      have e : (Str.empty ++ ("not a whole number from " : Str)).length ≤ 40 := by decide +kernel
      have e2 : (toString most : Str) = Str.ofString (toString most) := rfl
      have e3 : (" on" : Str).length = 3 := by decide +kernel
      refine ⟨_, rfl, by decide +kernel, _, rfl, .inr ⟨most, rfl, log2_1000 m0 m1, _, rfl, ?_, _, rfl, ?_, q2 n⟩⟩
      · rw [strLen_append]
        exact line_small (by omega)
      · rw [strLen_append, strLen_append]
        exact line_small (by omega)
    refine ⟨_, rfl, v, d, rfl, hd, _, rfl, ?_⟩
    cases hd with
    | int y =>
      refine iteF ⟨_, rfl, _, rfl, y, most, rfl, rfl, _, rfl, ?_⟩
      by_cases c0 : y < most
      · rw [decide_eq_true c0]
        exact iteT (bad fun z => by obtain ⟨i, e, h⟩ := z; injection e with e; omega)
      · rw [decide_eq_false c0]
        exact iteF (q1 ⟨y, rfl, by omega⟩)
    | _ => exact iteT (iteT (bad fun z => by obtain ⟨i, e, _⟩ := z; cases e))
end
end Fo
namespace Fo
open PySem PySem.Spec PyProof.Rows L2
/-! short texts -/
structure TxOk (m : Nat) (x : Str) : Prop where
  l : x.length ≤ m
  c : ∀ c ∈ x.cps.toList, c < 16 ^ 8
theorem TxOk.app {m n : Nat} {x y : Str} (a : TxOk m x) (b : TxOk n y) : TxOk (m + n) (x ++ y) := by
  refine ⟨?_, fun c hc => ?_⟩
  · rw [strLen_append]
    have := a.l
    have := b.l
    omega
  · have e : (x ++ y).cps.toList = x.cps.toList ++ y.cps.toList := by
      show (x.cps ++ y.cps).toList = _
      simp
    rw [e] at hc
    rcases List.mem_append.mp hc with h | h
    · exact a.c c h
    · exact b.c c h
theorem TxOk.cut {m : Nat} {x : Str} (a : TxOk m x) (lo hi : Option Int) : TxOk m (cutS x lo hi) := by
  refine ⟨?_, fun c hc => ?_⟩
  · have := a.l
    show (((x.cps.toList.drop _).take _).toArray).size ≤ m
    rw [List.size_toArray, List.length_take, List.length_drop, Array.length_toList]
    have e : x.length = x.cps.size := rfl
    omega
  · have hc : c ∈ (x.cps.toList.drop _).take _ := hc
    exact a.c c (List.mem_of_mem_drop (List.mem_of_mem_take hc))
theorem TxOk.mono {m n : Nat} {x : Str} (a : TxOk m x) (h : m ≤ n) : TxOk n x := ⟨Nat.le_trans a.l h, a.c⟩
theorem TxOk.rw {m : Nat} {x : Str} (a : TxOk m x) : Rw (10 * m + 2) 0 (.str x) := rw_str (by
  have h1 := StrLaws.reprText_len x a.c
  have h2 := a.l
  omega)
theorem tx_one {c : Nat} (h : c < 16 ^ 8) : TxOk 1 ⟨#[c]⟩ := ⟨Nat.le_refl _, fun d hd => by
  have : d = c := List.mem_singleton.mp hd
  rw [this]
  exact h⟩
theorem at_memG {α : Type} {xs : List α} {i : Int} (h0 : 0 ≤ i) (h1 : i < (xs.length : Int)) : ∃ v, atI xs i = some v ∧ v ∈ xs := by
  have hl : i.toNat < xs.length := by omega
  refine ⟨xs[i.toNat], ?_, List.getElem_mem hl⟩
  unfold atI ixN
  rw [if_pos h0, if_pos h1]
  exact List.getElem?_eq_getElem hl
abbrev oX (m : Nat) (A : Str → Prop) : PyData → Prop := oS fun x => TxOk m x ∧ A x
section
variable {S : Src} {σ : L2.St} {H : Hp} {m n k a b : Nat} {t u : TE} {A A' : Str → Prop}
theorem oe_tx {x : Str} (n : Nat) (h : TxOk n x) : OE S (tC (.str x)) σ H (10 * n + 2) 0 (oX n fun y => y = x) := (oe_c (fun _ => .str x) h.rw).imp fun _ e => ⟨x, e, h, rfl⟩
theorem od_tx {v : V} (h : Od S a k (oX m A) H v) : ∃ x, v = .str x ∧ TxOk m x ∧ A x := by
  obtain ⟨_, h1, _, x, rfl, h3⟩ := h
  exact ⟨x, dq_strI h1, h3⟩
theorem od_of_tx {x : Str} (h : TxOk m x) (g : A x) : Od S (10 * m + 2) 0 (oX m A) H (.str x) := ⟨.str x, .str x, h.rw, x, rfl, h, g⟩
theorem oe_catS (h : OE S t σ H a k (oX m A)) (g : OE S u σ H b k (oX n A')) (hm : m + n ≤ 16777216) : OE S (tOp (fun x y H Q => ∃ i j, x = .str i ∧ y = .str j ∧ i.length + j.length ≤ sizeLine ∧ Q (.str (i ++ j)) H) t u) σ H (10 * (m + n) + 2) 0 (oX (m + n) fun z => ∃ x y, z = x ++ y ∧ A x ∧ A' y) := fun H1 Q e1 at1 q =>
  h H1 _ e1 at1 fun v H2 e2 at2 o => g H2 _ (S.trans e1 e2) at2 fun w H3 e3 at3 o' => by
    obtain ⟨x, rfl, x1, x2⟩ := od_tx o
    obtain ⟨y, rfl, y1, y2⟩ := od_tx o'
    have l1 := x1.l
    have l2 := y1.l
    exact ⟨x, y, rfl, rfl, line_small (by omega), q _ _ (S.trans e2 e3) at3 (od_of_tx (x1.app y1) ⟨x, y, rfl, x2, y2⟩)⟩
theorem oe_slS {tl th : TO} {P R : Option Int → Prop} (h : OE S t σ H a k (oX m A)) (hl : OO S tl σ H P) (hh : OO S th σ H R) (hm : m ≤ 16777216) : OE S (tSl rSlS t tl th) σ H (10 * m + 2) 0 (oX m fun z => ∃ x l u, z = cutS x l u ∧ A x ∧ P l ∧ R u) := fun H1 Q e1 at1 q =>
  h H1 _ e1 at1 fun v H2 e2 at2 o => hl H2 _ (S.trans e1 e2) at2 fun l H3 e3 at3 pl => hh H3 _ (S.trans e1 (S.trans e2 e3)) at3 fun u H4 e4 at4 pu => by
    obtain ⟨x, rfl, x1, x2⟩ := od_tx o
    have l1 := x1.l
    exact ⟨x, rfl, line_small (by omega), q _ _ (S.trans (S.trans e2 e3) e4) at4 (od_of_tx (x1.cut l u) ⟨x, l, u, rfl, x2, pl, pu⟩)⟩
theorem oe_ixS {z : Str} {B : Int → Prop} (hl : z.length = n) (hz : n ≤ 16777216) (hc : ∀ c ∈ z.cps.toList, c < 16 ^ 8) (g : OE S u σ H a b (oI B)) (hi : ∀ i, B i → 0 ≤ i ∧ i < (n : Int)) : OE S (tOp rIxS (tC (.str z)) u) σ H 12 0 (oX 1 fun y => ∃ c ∈ z.cps.toList, y = ⟨#[c]⟩) := fun H1 Q e1 at1 q =>
  g H1 _ e1 at1 fun w H3 e3 at3 o' => by
    obtain ⟨i, rfl, gi⟩ := od_int o'
    obtain ⟨i0, i1⟩ := hi i gi
    obtain ⟨c, ec, mc⟩ := at_memG (xs := z.cps.toList) i0 (by rw [Array.length_toList]; show i < ((z.length : Nat) : Int); rw [hl]; exact i1)
    exact ⟨z, i, c, rfl, rfl, line_small (by rw [hl]; exact hz), ec, q _ _ e3 at3 ((od_of_tx (tx_one (hc c mc)) ⟨c, mc, rfl⟩))⟩
theorem oe_upper (h : OE S t σ H a b (oX m A)) (hm : m ≤ 5592405) (hu : ∀ x, A x → TxOk n (Txt.upper x)) : OE S (tM0 (fun x xs H Q => ∃ a, x = .str a ∧ xs = [] ∧ a.length ≤ 5592405 ∧ Q (.str (Txt.upper a)) H) t) σ H (10 * n + 2) 0 (oX n fun z => ∃ x, z = Txt.upper x ∧ A x) := fun H1 Q e1 at1 q =>
  h H1 _ e1 at1 fun v H2 e2 at2 o => by
    obtain ⟨x, rfl, x1, x2⟩ := od_tx o
    have l1 := x1.l
    exact ⟨⟨x, rfl⟩, x, rfl, rfl, by omega, q _ _ e2 at2 (od_of_tx (hu x x2) ⟨x, rfl, x2⟩)⟩
theorem oe_lenS (h : OE S t σ H a b (oX m A)) (hm : m ≤ 16777216) : OE S (tCB (fun xs H Q => ∃ z, xs = [.str z] ∧ z.length ≤ sizeLine ∧ Q (.int z.length) H) (tCons t tNil)) σ H 110 0 (oI fun i => ∃ x : Str, i = (x.length : Int) ∧ A x) := fun H1 Q e1 at1 q =>
  h H1 _ e1 at1 fun v H2 e2 at2 o => by
    obtain ⟨x, rfl, x1, x2⟩ := od_tx o
    have l1 := x1.l
    exact ⟨x, rfl, line_small (by omega), q _ _ e2 at2 (od_of_int ⟨by omega, by omega⟩ ⟨x, rfl, x2⟩)⟩
/-- {text: number} -/
theorem oe_d1 {i : Nat} {z : Str} {y : Int} (e : σ[i]? = some (some (.str z))) (h : TxOk m z) (hy : -100 ≤ y ∧ y ≤ 100) : OE S (tDisp [(tVar i, tC (.int y))]) σ H (10 * m + 2 + 110 + 6) 1 (fun d => d = .dict [(.str z, .int y)]) := fun H1 Q e1 at1 q => fun p np => by
  refine ⟨_, e, upd_same, [(.inr z, .int y)], rfl, (by show 1 ≤ 15; decide), ?_⟩
  have p1 := S.put (.dK []) at1 (S.refl _) at1 np
  have p2 := S.put (.dK (mergeK [] [(.inr z, .int y)])) at1 p1.2.1 p1.1 np
  exact q _ _ p2.2.1 p2.1 ⟨.dict [(.str z, .int y)], .dic p2.2.2.1 (.cons .nil), rw_dict1 (m := 10 * m + 2) (n := 110) h.rw (rw_int (i := y) (by omega) (by omega)), rfl⟩
/-- list(range(n)) -/
theorem oe_lrg {n : Nat} (hn : n ≤ 1000) (h : OE S t σ H a b (oI fun i => i = (n : Int))) : OE S (tLstRg (tRg1 t)) σ H (n * 112 + 2) 1 (oL fun ds => ds = (rg n).map PyData.int) := fun H1 Q e1 at1 q =>
  h H1 _ e1 at1 fun v H2 e2 at2 o => by
    obtain ⟨i, rfl, rfl⟩ := od_int o
    refine ⟨_, rfl, ⟨by omega, by omega, by omega, by omega, by omega⟩, fun p np => ?_⟩
    obtain ⟨at3, e3⟩ := S.same at2 (same_new (o := .lst (rgV 0 (n : Int))) np)
    have hb : ∀ x ∈ rg n, -100000000000000000000000000 ≤ x ∧ x ≤ 100000000000000000000000000 := fun x hx => by
      have := rg_mem.mp hx
      omega
    refine q _ _ (S.trans e2 e3) at3 ⟨.list ((rg n).map PyData.int), .lst (by rw [S.new _ at2 np, rg_V]) dqAll_intsG, ?_, _, rfl, rfl⟩
    exact (rw_list (rws_ints (b := 0) hb)).mono (by rw [rg_len]; exact Nat.le_refl _) (Nat.le_refl _)
end
end Fo
namespace Fo
open PySem PySem.Spec PyProof.Rows L2
/-- no int below n -/
def BadE (n : Nat) (d : PyData) : Prop := ∀ i, d = .int i → ¬ (0 ≤ i ∧ i < (n : Int))
theorem bad_mem {n : Nat} {ds : List PyData} {x : PyData} (hx : x ∈ ds) (hl : ds.length = n) (hb : BadE n x) : ¬ GoodD (.list ds) := fun g => by
  obtain ⟨ms, e, o, _⟩ := g
  injection e with e
  subst e
  obtain ⟨y, hy, rfl⟩ := List.mem_map.mp hx
  rw [List.length_map] at hl
  have := o.mem hy
  exact hb y rfl ⟨this.1, by omega⟩
theorem bad_neg {ds : List PyData} {i : Int} (hx : PyData.int i ∈ ds) (hi : i < 0) : ¬ GoodD (.list ds) := fun g => by
  obtain ⟨ms, e, o, _⟩ := g
  injection e with e
  subst e
  obtain ⟨y, hy, e⟩ := List.mem_map.mp hx
  injection e with e
  have := o.mem hy
  omega
theorem bad_dup {ns : List Int} (h : ¬ ns.Nodup) : ¬ GoodD (.list (ns.map PyData.int)) := fun g => by
  obtain ⟨ms, e, o, _⟩ := g
  injection e with e
  rw [intD_inj e] at h
  exact h o.nodup
theorem bad_nl {d : PyData} (h : isListD d = false) : ¬ GoodD d := fun g => by
  obtain ⟨ms, rfl, _⟩ := g
  cases h
theorem bad_long {ds : List PyData} (h : ds.length < 1 ∨ 12 < ds.length) : ¬ GoodD (.list ds) := fun g => by
  obtain ⟨ms, e, _, h1, h2⟩ := g
  injection e with e
  subst e
  rw [List.length_map] at h
  omega
theorem not_wayD {d : PyData} (h : isStrD d = false) : ¬ WayD d := fun g => by
  obtain ⟨z, rfl, _⟩ := g
  cases h
theorem cutG_head {α : Type} (ws : List α) (k : Nat) : cutG ws none (some (k : Int)) = ws.take k := by
  unfold cutG
  rw [HT.sIx_none, HT.sIx_nat, List.drop_zero, Nat.sub_zero]
  by_cases h : k ≤ ws.length
  · rw [Nat.min_eq_left h]
  · rw [Nat.min_eq_right (by omega), List.take_length, List.take_of_length_le (by omega)]
theorem cutG_tail {α : Type} (ws : List α) (k : Nat) : cutG ws (some (k : Int)) none = ws.drop k := by
  unfold cutG
  rw [HT.sIx_none, HT.sIx_nat]
  by_cases h : k ≤ ws.length
  · rw [Nat.min_eq_left h, List.take_of_length_le (by rw [List.length_drop]; exact Nat.le_refl _)]
  · rw [Nat.min_eq_right (by omega), List.drop_of_length_le (Nat.le_refl _), List.drop_of_length_le (by omega), List.take_nil]
abbrev big26 : Int := 100000000000000000000000000
def spNoOrd18 : Sp := fun vs H Q _ => ∃ (S : Sk) (o : Addr) (n : Nat) (ns : List Int), vs = [.ref S.d, .ref o] ∧ SkAt H S ∧ H o = some (.lst (ns.map V.int)) ∧ o ≠ S.d ∧ IsOrd n ns ∧ 1 ≤ n ∧ n ≤ 12 ∧
  ∀ (v : V) (H' : Hp), Od (srcSk S) 100000 5 (fun d => ¬ GoodD d) H' v → SkAt H' S → KeepS S H H' → Q v H'
def spNoWay18 : Sp := fun vs H Q _ => ∃ (S : Sk) (z : Str), vs = [.ref S.d, .str z] ∧ SkAt H S ∧ IsWay z ∧ ∀ (v : V) (H' : Hp), Od (srcSk S) 100000 5 (fun d => ¬ WayD d) H' v → SkAt H' S → KeepS S H H' → Q v H'
theorem bad_put {n a : Nat} {ns : List Int} {e : PyData} (or : IsOrd n ns) (ha : a < n) (hb : BadE n e) : ¬ GoodD (.list (cutG (ns.map PyData.int) none (some (a : Int)) ++ [e] ++ cutG (ns.map PyData.int) (some ((a : Int) + 1)) none)) := by
  have e1 : ((a : Int) + 1) = ((a + 1 : Nat) : Int) := by omega
  rw [cutG_head, e1, cutG_tail]
  have := or.len
  exact bad_mem (x := e) (by simp) (by simp; omega) hb
theorem bad_negin {x y : List PyData} {i : Int} (hi : i < 0) : ¬ GoodD (.list (x ++ [.int i] ++ y)) := bad_neg (i := i) (by simp) hi
theorem bad_ag1 {ns : List Int} {g : Int} (h : g ∈ ns) : ¬ GoodD (.list (ns.map PyData.int ++ [.int g])) := by
  have e : ns.map PyData.int ++ [PyData.int g] = (ns ++ [g]).map PyData.int := by simp
  rw [e]
  refine bad_dup fun z => ?_
  rw [List.nodup_append] at z
  exact z.2.2 g h g List.mem_cons_self rfl
theorem bad_ag2 {ns : List Int} {g : Int} {a : Nat} (h : g ∈ ns) : ¬ GoodD (.list (cutG (ns.map PyData.int) none (some (a : Int)) ++ [.int g] ++ cutG (ns.map PyData.int) (some (a : Int)) none)) := by
  rw [cutG_head, cutG_tail]
  have e : (ns.map PyData.int).take a ++ [PyData.int g] ++ (ns.map PyData.int).drop a = (ns.take a ++ [g] ++ ns.drop a).map PyData.int := by simp
  rw [e]
  refine bad_dup fun z => ?_
  have pm : (ns.take a ++ [g] ++ ns.drop a).Perm (g :: ns) := by
    have q1 : (ns.take a ++ [g] ++ ns.drop a).Perm (g :: (ns.take a ++ ns.drop a)) := by
      rw [List.append_assoc]
      exact List.perm_middle
    rwa [List.take_append_drop] at q1
  have := pm.nodup_iff.mp z
  rw [List.nodup_cons] at this
  exact this.1 h
theorem bad_turn {n : Nat} {ns : List Int} {ys : List PyData} (or : IsOrd n ns) (hn : 1 ≤ n) (h : Two2 (fun x y => ∃ i : Int, x = .int i ∧ y = .int ((n : Int) - i)) (ns.map PyData.int) ys) : ¬ GoodD (.list ys) := by
  have h0 : (0 : Int) ∈ ns := or.symm.mem_iff.mp (rg_mem.mpr ⟨by omega, by omega⟩)
  obtain ⟨y, hy, i, e, e2⟩ := h.memL (.int 0) (List.mem_map.mpr ⟨0, h0, rfl⟩)
  injection e with e
  subst e
  have hl := h.len
  rw [List.length_map, or.len] at hl
  refine bad_mem hy hl.symm fun j e3 => ?_
  rw [e2] at e3
  injection e3 with e3
  omega
theorem bad_13 : ¬ GoodD (.list ((rg 13).map PyData.int)) := bad_long (.inr (by decide))
theorem bad_00 : ¬ GoodD (.list (List.replicate 2 (PyData.int 0))) := bad_dup (ns := [0, 0]) (by decide)
theorem bad_1 : ¬ GoodD (.list [.int 1]) := bad_mem (x := .int 1) (n := 1) (by simp) rfl fun i e => by injection e with e; omega
theorem bad_of {A : List PyData → Prop} : ∀ d, oT A d → ¬ GoodD d := fun _ ⟨_, e, _⟩ => by rw [e]; exact bad_nl rfl
theorem bad_el {ds : List PyData} : ¬ GoodD (.list (.list ds :: [])) := bad_mem (x := .list ds) (n := 1) (by simp) rfl fun i e => by cases e
section
variable {P : Program} {w : World} {K : PySem.W.Frag} {mg : Str → Option Value} {base : Heap}
theorem scNoOrd18 : FnScope ["store", "order", "at", "again", "n", "odd", "ahead", "other", "some", "one"] ["store", "order"] (defScope s_law_no_order) := ⟨rfl, rfl, rfl, by decide +kernel, rfl, by decide +kernel, by decide +kernel⟩
set_option maxHeartbeats 4000000 in
theorem ok_noOrd18 {f fD : Addr} {fd dD : FuncData} {k : Nat} (T : Df K mg "_law_no_order" s_law_no_order ["store", "order"] f fd) (T__law_take : Df K mg "_law_take" s_law_take ["store", "many"] fD dD) (G__law_take : FnOk P w K mg base CX0 k fD dD ["store", "many"] spTake) (B : Bi mg) : FnOk P w K mg base CX0 (k + 1) f fd ["store", "order"] spNoOrd18 := by
  refine T.F.ok scNoOrd18 (fun vs H Q E h => ?_) (fun cdv A outer s H vs Q E hr h => ?_)
  · obtain ⟨S, o, n, ns, rfl, _⟩ := h
    rfl
  · obtain ⟨S, o, n, ns, rfl, D0, ho, no, or, hn1, hn2, q⟩ := h
    have hlen : ns.length = n := or.len
    have hns : ∀ x ∈ ns, -big26 ≤ x ∧ x ≤ big26 := fun x hx => by have := or.mem hx; unfold big26; omega
    have o_order : Od (srcSk S) (12 * 112 + 2) 1 (oL fun ds => ds = ns.map PyData.int) H (.ref o) := od_ints (by show cutK S H o = _; rw [cutK_ne no]; exact ho) hns (by omega)
    have kk : (srcSk S).Kp H H := (srcSk S).refl H
    refine ⟨_, 
      (pss_cons (ps_set (i := 2) scNoOrd18.nd rfl (.inl rfl) (pe_call G__law_take hr (by rfl) T__law_take.g T__law_take.F.kp T__law_take.b .nil pass0 (pa_cons (pv 0) (pa_cons (pe_callB call_len_seq (by rfl) B.len PySem.boot_len (pa_cons (pv 1) pa_nil)) pa_nil))))
      (pss_cons (ps_set (i := 3) scNoOrd18.nd rfl (.inl rfl) (pe_ix ix_list (pv 1) (pe_call G__law_take hr (by rfl) T__law_take.g T__law_take.F.kp T__law_take.b .nil pass0 (pa_cons (pv 0) (pa_cons (pe_callB call_len_seq (by rfl) B.len PySem.boot_len (pa_cons (pv 1) pa_nil)) pa_nil))) (fun _ _ => rfl)))
      (pss_cons (ps_set (i := 4) scNoOrd18.nd rfl (.inr rfl) (pe_callB call_len_seq (by rfl) B.len PySem.boot_len (pa_cons (pv 1) pa_nil)))
      (pss_cons (ps_set (i := 5) scNoOrd18.nd rfl (.inl rfl) (pe_lst (pa_cons (pv 4) (pa_cons (pe_un un_neg pe_int) (pa_cons pe_bl (pa_cons pe_bl (pa_cons pe_non (pa_cons pe_str (pa_cons (pe_lst (pa_cons pe_int pa_nil)) (pa_cons (pe_tup (pa_cons pe_int pa_nil)) (pa_cons (pe_op op_pow pe_int pe_int) (pa_cons (pe_un un_neg (pv 4)) (pa_cons (pe_op op_add (pv 4) (pe_call G__law_take hr (by rfl) T__law_take.g T__law_take.F.kp T__law_take.b .nil pass0 (pa_cons (pv 0) (pa_cons pe_int pa_nil)))) (pa_cons pe_dnewK pa_nil))))))))))))))
      (pss_cons (ps_set (i := 5) scNoOrd18.nd rfl (.inl rfl) (pe_ix ix_list (pv 5) (pe_call G__law_take hr (by rfl) T__law_take.g T__law_take.F.kp T__law_take.b .nil pass0 (pa_cons (pv 0) (pa_cons pe_int pa_nil))) (fun _ _ => rfl)))
      (pss_cons (ps_set (i := 6) scNoOrd18.nd rfl (.inl rfl) (pe_slice sl_list (pv 1) po_none (po_some (pv 2))))
      (pss_cons (ps_set (i := 7) scNoOrd18.nd rfl (.inl rfl) (pe_op op_cat (pe_op op_cat (pv 6) (pe_lst (pa_cons (pv 5) pa_nil))) (pe_slice sl_list (pv 1) (po_some (pe_op op_add (pv 2) pe_int)) po_none)))
      (pss_cons (ps_set (i := 8) scNoOrd18.nd rfl (.inl rfl) (pe_lst (pa_cons (pv 7) (pa_cons (pv 7) (pa_cons (pv 7) (pa_cons (pe_op op_cat (pe_op op_cat (pv 6) (pe_lst (pa_cons (pe_op op_sub (pe_un un_neg pe_int) (pv 2)) pa_nil))) (pe_slice sl_list (pv 1) (po_some (pv 2)) po_none)) pa_nil))))))
      (pss_cons (ps_set (i := 8) scNoOrd18.nd rfl (.inl rfl) (pe_op op_cat (pv 8) (pe_lst (pa_cons (pe_op op_cat (pv 1) (pe_lst (pa_cons (pv 3) pa_nil))) (pa_cons (pe_op op_cat (pe_op op_cat (pv 6) (pe_lst (pa_cons (pv 3) pa_nil))) (pe_slice sl_list (pv 1) (po_some (pv 2)) po_none)) (pa_cons (pe_lc (own := [("one", 9)]) (g := (gName 9)) (tt := tYes) (te := (tOp (rI0 fun i j => .int (i - j)) (tVar 4) (tVar 9))) rfl scNoOrd18.nd (pi_list (pv 1)) (blkOk_by (N := ["store", "order", "at", "again", "n", "odd", "ahead", "other", "some", "one"]) (sc := defScope s_law_no_order) (by decide +kernel)) (fun _ _ _ _ _ => (pg_name (i := 9) scNoOrd18.nd rfl (.inl rfl))) (fun _ _ _ _ _ => pts_nil) (fun _ _ _ _ _ => (pe_op op_sub (pv 4) (pv 9)))) pa_nil))))))
      (pss_cons (ps_set (i := 8) scNoOrd18.nd rfl (.inl rfl) (pe_op op_cat (pv 8) (pe_lst (pa_cons (pe_callTy call_tuple_of (by rfl) B.tuple (by decide +kernel) (pa_cons (pv 1) pa_nil)) (pa_cons (pe_lst (pa_cons (pv 1) pa_nil)) (pa_cons (pe_lst pa_nil) (pa_cons (pe_tup pa_nil) (pa_cons pe_non (pa_cons pe_int (pa_cons pe_str (pa_cons pe_dnewK (pa_cons pe_bl pa_nil))))))))))))
      (pss_one (ps_ret (pe_ix ix_list (pe_op op_cat (pv 8) (pe_lst (pa_cons (pe_listRg rfl (by rfl) B.list (prg_1 (by rfl) B.range pe_int)) (pa_cons (pe_op op_rep (pe_lst (pa_cons pe_int pa_nil)) pe_int) (pa_cons (pe_lst (pa_cons pe_int pa_nil)) pa_nil))))) (pe_call G__law_take hr (by rfl) T__law_take.g T__law_take.F.kp T__law_take.b .nil pass0 (pa_cons (pv 0) (pa_cons pe_int pa_nil))) (fun _ _ => rfl)))))))))))))), ?_⟩
    refine os_set (S := srcSk S) D0 (oe_take rfl (oe_lenI (oe_v rfl o_order) (by omega)) (by grind)) fun x1 H1 k1 D1 o_at => ?_
    replace o_order := o_order.kp k1
    replace kk := (srcSk S).trans kk k1
    obtain ⟨at', rfl, ⟨y, rfl, a0, a1⟩⟩ := od_int o_at
    replace o_at := od_isI o_at
    rw [hlen] at a1
    refine os_set (S := srcSk S) D1 (oe_ixI (oe_v rfl o_order) (oe_take rfl (oe_lenI (oe_v rfl o_order) (by omega)) (by grind)) (by grind)) fun x2 H2 k2 D2 o_again => ?_
    replace o_order := o_order.kp k2
    replace o_at := o_at.kp k2
    replace kk := (srcSk S).trans kk k2
    obtain ⟨ag, rfl, hag⟩ := od_int o_again
    replace o_again := od_isI o_again
    have hag12 := or.mem hag
    refine os_set (S := srcSk S) D2 (oe_lenI (oe_v rfl o_order) (by omega)) fun x3 H3 k3 D3 o_n => ?_
    replace o_order := o_order.kp k3
    replace o_at := o_at.kp k3
    replace o_again := o_again.kp k3
    replace kk := (srcSk S).trans kk k3
    obtain ⟨n', rfl, hn'⟩ := od_int o_n
    replace o_n := od_isI o_n
    subst hn'
    refine os_set (S := srcSk S) D3 (oe_lst (oa_consN (oe_v rfl o_n) (by grind [BadE]) (oa_consN (oe_neg (oe_intI (by decide)) (by grind)) (by grind [BadE]) (oa_consN (oe_bl true) (by grind [BadE]) (oa_consN (oe_bl false) (by grind [BadE]) (oa_consN oe_non (by grind [BadE]) (oa_consN (oe_tx 1 ⟨by decide +kernel, by decide +kernel⟩) (by grind [BadE]) (oa_consN (oe_lst (oa_cons (oe_intI (by decide)) oa_nil) (by decide)) (by grind [BadE]) (oa_consN (oe_tup (oa_cons (oe_intI (by decide)) oa_nil) (by decide)) (by grind [BadE]) (oa_consN (oe_pow ⟨by decide, by decide, by decide⟩ ⟨by decide, by decide⟩) (by grind [BadE]) (oa_consN (oe_neg (oe_v rfl o_n) (by grind)) (by grind [BadE]) (oa_consN (oe_add (oe_v rfl o_n) (oe_takeC rfl (by decide)) (by grind)) (by grind [BadE]) (oa_consN oe_d0 (by grind [BadE]) (oa_nilN (BadE n)))))))))))))) (by decide)) fun x4 H4 k4 D4 o_odd => ?_
    replace o_order := o_order.kp k4
    replace o_at := o_at.kp k4
    replace o_again := o_again.kp k4
    replace o_n := o_n.kp k4
    replace kk := (srcSk S).trans kk k4
    refine os_set (S := srcSk S) D4 (oe_ix (oe_v rfl o_odd) (oe_takeC rfl (by decide)) (by grind)) fun x5 H5 k5 D5 o_odd => ?_
    replace o_order := o_order.kp k5
    replace o_at := o_at.kp k5
    replace o_again := o_again.kp k5
    replace o_n := o_n.kp k5
    replace kk := (srcSk S).trans kk k5
    refine os_set (S := srcSk S) D5 (oe_sl (oe_v rfl o_order) oo_none (oo_some (oe_v rfl o_at))) fun x6 H6 k6 D6 o_ahead => ?_
    replace o_order := o_order.kp k6
    replace o_at := o_at.kp k6
    replace o_again := o_again.kp k6
    replace o_n := o_n.kp k6
    replace o_odd := o_odd.kp k6
    replace kk := (srcSk S).trans kk k6
    refine os_set (S := srcSk S) D6 (oe_cat (oe_cat (oe_v rfl o_ahead) (oe_lst (oa_cons (oe_v rfl o_odd) oa_nil) (by decide)) (by decide)) (oe_sl (oe_v rfl o_order) (oo_some (oe_add (oe_v rfl o_at) (oe_intI (by decide)) (by grind))) oo_none) (by decide)) fun x7 H7 k7 D7 o_other => ?_
    replace o_order := o_order.kp k7
    replace o_at := o_at.kp k7
    replace o_again := o_again.kp k7
    replace o_n := o_n.kp k7
    replace o_odd := o_odd.kp k7
    replace o_ahead := o_ahead.kp k7
    replace kk := (srcSk S).trans kk k7
    obtain ⟨a, rfl⟩ : ∃ a : Nat, at' = (a : Int) := ⟨at'.toNat, by omega⟩
    replace o_other := o_other.mono (m' := 4000) (k' := 3) (C := fun d => ¬ GoodD d) (by decide) (by decide) (by
      rintro _ ⟨_, rfl, x, y, rfl, ⟨a1, b1, rfl, ⟨_, _, _, rfl, rfl, rfl, _, rfl, rfl⟩, e, _, rfl, hb, rfl⟩, _, _, _, rfl, rfl, ⟨_, rfl, _, _, rfl, rfl, rfl⟩, rfl⟩
      exact bad_put or (by omega) hb)
    refine os_set (S := srcSk S) D7 (oe_lst (oa_consN (oe_v rfl o_other) (by first | exact fun _ h => h | (rintro _ ⟨_, rfl, x, y, rfl, ⟨a1, b1, rfl, _, _, _, rfl, ⟨_, rfl, _, _, rfl, ⟨_, rfl, rfl⟩, rfl⟩, rfl⟩, _⟩; exact bad_negin (by omega))) (oa_consN (oe_v rfl o_other) (by first | exact fun _ h => h | (rintro _ ⟨_, rfl, x, y, rfl, ⟨a1, b1, rfl, _, _, _, rfl, ⟨_, rfl, _, _, rfl, ⟨_, rfl, rfl⟩, rfl⟩, rfl⟩, _⟩; exact bad_negin (by omega))) (oa_consN (oe_v rfl o_other) (by first | exact fun _ h => h | (rintro _ ⟨_, rfl, x, y, rfl, ⟨a1, b1, rfl, _, _, _, rfl, ⟨_, rfl, _, _, rfl, ⟨_, rfl, rfl⟩, rfl⟩, rfl⟩, _⟩; exact bad_negin (by omega))) (oa_consN (oe_cat (oe_cat (oe_v rfl o_ahead) (oe_lst (oa_cons (oe_sub (oe_neg (oe_intI (by decide)) (by grind)) (oe_v rfl o_at) (by grind)) oa_nil) (by decide)) (by decide)) (oe_sl (oe_v rfl o_order) (oo_some (oe_v rfl o_at)) oo_none) (by decide)) (by first | exact fun _ h => h | (rintro _ ⟨_, rfl, x, y, rfl, ⟨a1, b1, rfl, _, _, _, rfl, ⟨_, rfl, _, _, rfl, ⟨_, rfl, rfl⟩, rfl⟩, rfl⟩, _⟩; exact bad_negin (by omega))) (oa_nilN (fun d => ¬ GoodD d)))))) (by decide)) fun x8 H8 k8 D8 o_some => ?_
    replace o_order := o_order.kp k8
    replace o_at := o_at.kp k8
    replace o_again := o_again.kp k8
    replace o_n := o_n.kp k8
    replace o_odd := o_odd.kp k8
    replace o_ahead := o_ahead.kp k8
    replace o_other := o_other.kp k8
    replace kk := (srcSk S).trans kk k8
    refine os_set (S := srcSk S) D8 (oe_catN (oe_v rfl o_some) (oe_lst (oa_consN (oe_cat (oe_v rfl o_order) (oe_lst (oa_cons (oe_v rfl o_again) oa_nil) (by decide)) (by decide)) (by first | exact fun _ h => h | (rintro _ ⟨_, rfl, _, _, rfl, rfl, _, _, rfl, ⟨_, rfl, rfl⟩, rfl⟩; exact bad_ag1 hag) | (rintro _ ⟨_, rfl, _, _, rfl, ⟨_, _, rfl, ⟨_, _, _, rfl, rfl, rfl, _, rfl, rfl⟩, _, _, rfl, ⟨_, rfl, rfl⟩, rfl⟩, _, _, _, rfl, rfl, ⟨_, rfl, rfl⟩, rfl⟩; exact bad_ag2 hag) | (rintro _ ⟨_, rfl, _, rfl, h⟩; exact bad_turn or hn1 h)) (oa_consN (oe_cat (oe_cat (oe_v rfl o_ahead) (oe_lst (oa_cons (oe_v rfl o_again) oa_nil) (by decide)) (by decide)) (oe_sl (oe_v rfl o_order) (oo_some (oe_v rfl o_at)) oo_none) (by decide)) (by first | exact fun _ h => h | (rintro _ ⟨_, rfl, _, _, rfl, rfl, _, _, rfl, ⟨_, rfl, rfl⟩, rfl⟩; exact bad_ag1 hag) | (rintro _ ⟨_, rfl, _, _, rfl, ⟨_, _, rfl, ⟨_, _, _, rfl, rfl, rfl, _, rfl, rfl⟩, _, _, rfl, ⟨_, rfl, rfl⟩, rfl⟩, _, _, _, rfl, rfl, ⟨_, rfl, rfl⟩, rfl⟩; exact bad_ag2 hag) | (rintro _ ⟨_, rfl, _, rfl, h⟩; exact bad_turn or hn1 h)) (oa_consN (oe_lcF (R := fun x y => ∃ i : Int, x = .int i ∧ y = .int ((n : Int) - i)) (me := 110) (ke := 0) (n := 12) (oe_v rfl o_order) (fun ds e => by rw [e, List.length_map]; omega) (by decide) (fun _ => rfl) (fun ds x v H' e hx kp _ hd => by rw [e] at hx; obtain ⟨i, hi, rfl⟩ := List.mem_map.mp hx; have := or.mem hi; rw [dq_intI hd]; exact (oe_sub (oe_v rfl (o_n.kp kp)) (oe_v rfl (od_of_int (A := fun j => j = i) (by omega) rfl)) (by grind)).imp (by rintro _ ⟨_, rfl, _, _, rfl, rfl, rfl⟩; exact ⟨_, rfl, by rw [hlen]⟩)) (by rintro _ _ ⟨_, rfl, rfl⟩; rfl)) (by first | exact fun _ h => h | (rintro _ ⟨_, rfl, _, _, rfl, rfl, _, _, rfl, ⟨_, rfl, rfl⟩, rfl⟩; exact bad_ag1 hag) | (rintro _ ⟨_, rfl, _, _, rfl, ⟨_, _, rfl, ⟨_, _, _, rfl, rfl, rfl, _, rfl, rfl⟩, _, _, rfl, ⟨_, rfl, rfl⟩, rfl⟩, _, _, _, rfl, rfl, ⟨_, rfl, rfl⟩, rfl⟩; exact bad_ag2 hag) | (rintro _ ⟨_, rfl, _, rfl, h⟩; exact bad_turn or hn1 h)) (oa_nilN (fun d => ¬ GoodD d))))) (by decide)) (by decide)) fun x9 H9 k9 D9 o_some => ?_
    replace o_order := o_order.kp k9
    replace o_at := o_at.kp k9
    replace o_again := o_again.kp k9
    replace o_n := o_n.kp k9
    replace o_odd := o_odd.kp k9
    replace o_ahead := o_ahead.kp k9
    replace o_other := o_other.kp k9
    replace kk := (srcSk S).trans kk k9
    refine os_set (S := srcSk S) D9 (oe_catN (oe_v rfl o_some) (oe_lst (oa_consN (oe_tupOf (oe_v rfl o_order)) (by first | exact bad_of | (rintro _ rfl; exact bad_nl rfl) | (rintro _ ⟨_, rfl, _⟩; exact bad_nl rfl) | (rintro _ ⟨_, rfl, rfl⟩; exact bad_long (by decide)) | (rintro _ ⟨_, rfl, _, _, rfl, ⟨_, rfl, _⟩, rfl⟩; exact bad_el)) (oa_consN (oe_lst (oa_cons (oe_v rfl o_order) oa_nil) (by decide)) (by first | exact bad_of | (rintro _ rfl; exact bad_nl rfl) | (rintro _ ⟨_, rfl, _⟩; exact bad_nl rfl) | (rintro _ ⟨_, rfl, rfl⟩; exact bad_long (by decide)) | (rintro _ ⟨_, rfl, _, _, rfl, ⟨_, rfl, _⟩, rfl⟩; exact bad_el)) (oa_consN (oe_lst oa_nil (by decide)) (by first | exact bad_of | (rintro _ rfl; exact bad_nl rfl) | (rintro _ ⟨_, rfl, _⟩; exact bad_nl rfl) | (rintro _ ⟨_, rfl, rfl⟩; exact bad_long (by decide)) | (rintro _ ⟨_, rfl, _, _, rfl, ⟨_, rfl, _⟩, rfl⟩; exact bad_el)) (oa_consN (oe_tup oa_nil (by decide)) (by first | exact bad_of | (rintro _ rfl; exact bad_nl rfl) | (rintro _ ⟨_, rfl, _⟩; exact bad_nl rfl) | (rintro _ ⟨_, rfl, rfl⟩; exact bad_long (by decide)) | (rintro _ ⟨_, rfl, _, _, rfl, ⟨_, rfl, _⟩, rfl⟩; exact bad_el)) (oa_consN oe_non (by first | exact bad_of | (rintro _ rfl; exact bad_nl rfl) | (rintro _ ⟨_, rfl, _⟩; exact bad_nl rfl) | (rintro _ ⟨_, rfl, rfl⟩; exact bad_long (by decide)) | (rintro _ ⟨_, rfl, _, _, rfl, ⟨_, rfl, _⟩, rfl⟩; exact bad_el)) (oa_consN (oe_intI (by decide)) (by first | exact bad_of | (rintro _ rfl; exact bad_nl rfl) | (rintro _ ⟨_, rfl, _⟩; exact bad_nl rfl) | (rintro _ ⟨_, rfl, rfl⟩; exact bad_long (by decide)) | (rintro _ ⟨_, rfl, _, _, rfl, ⟨_, rfl, _⟩, rfl⟩; exact bad_el)) (oa_consN (oe_tx 0 ⟨by decide +kernel, by decide +kernel⟩) (by first | exact bad_of | (rintro _ rfl; exact bad_nl rfl) | (rintro _ ⟨_, rfl, _⟩; exact bad_nl rfl) | (rintro _ ⟨_, rfl, rfl⟩; exact bad_long (by decide)) | (rintro _ ⟨_, rfl, _, _, rfl, ⟨_, rfl, _⟩, rfl⟩; exact bad_el)) (oa_consN oe_d0 (by first | exact bad_of | (rintro _ rfl; exact bad_nl rfl) | (rintro _ ⟨_, rfl, _⟩; exact bad_nl rfl) | (rintro _ ⟨_, rfl, rfl⟩; exact bad_long (by decide)) | (rintro _ ⟨_, rfl, _, _, rfl, ⟨_, rfl, _⟩, rfl⟩; exact bad_el)) (oa_consN (oe_bl true) (by first | exact bad_of | (rintro _ rfl; exact bad_nl rfl) | (rintro _ ⟨_, rfl, _⟩; exact bad_nl rfl) | (rintro _ ⟨_, rfl, rfl⟩; exact bad_long (by decide)) | (rintro _ ⟨_, rfl, _, _, rfl, ⟨_, rfl, _⟩, rfl⟩; exact bad_el)) (oa_nilN (fun d => ¬ GoodD d))))))))))) (by decide)) (by decide)) fun x10 H10 k10 D10 o_some => ?_
    replace o_order := o_order.kp k10
    replace o_at := o_at.kp k10
    replace o_again := o_again.kp k10
    replace o_n := o_n.kp k10
    replace o_odd := o_odd.kp k10
    replace o_ahead := o_ahead.kp k10
    replace o_other := o_other.kp k10
    replace kk := (srcSk S).trans kk k10
    refine os_ret (S := srcSk S) D10 (oe_ix (oe_catN (oe_v rfl o_some) (oe_lst (oa_consN (oe_lrg (n := 13) (by first | decide | omega) (oe_intI (by decide))) (by first | (rintro _ ⟨_, rfl, rfl⟩; exact bad_13) | (rintro _ ⟨_, rfl, _, rfl, _, rfl, rfl⟩; exact bad_00) | (rintro _ ⟨_, rfl, _, _, rfl, ⟨_, rfl, rfl⟩, rfl⟩; exact bad_1)) (oa_consN (oe_rep1 (n := 2) (oe_intI (by decide)) (by decide) (by decide)) (by first | (rintro _ ⟨_, rfl, rfl⟩; exact bad_13) | (rintro _ ⟨_, rfl, _, rfl, _, rfl, rfl⟩; exact bad_00) | (rintro _ ⟨_, rfl, _, _, rfl, ⟨_, rfl, rfl⟩, rfl⟩; exact bad_1)) (oa_consN (oe_lst (oa_cons (oe_intI (by decide)) oa_nil) (by decide)) (by first | (rintro _ ⟨_, rfl, rfl⟩; exact bad_13) | (rintro _ ⟨_, rfl, _, rfl, _, rfl, rfl⟩; exact bad_00) | (rintro _ ⟨_, rfl, _, _, rfl, ⟨_, rfl, rfl⟩, rfl⟩; exact bad_1)) (oa_nilN (fun d => ¬ GoodD d))))) (by decide)) (by decide)) (oe_takeC rfl (by decide)) (by grind)) fun v H' k' D' o' => q v H' (o'.mono (by decide) (by decide) fun _ h => h) D' ((srcSk S).trans kk k')
end
end Fo
namespace Fo
open PySem PySem.Spec PyProof.Rows L2
def notWay (z : Str) : Bool := !(decide (z = "swap") || decide (z = "spot") || decide (z = "shift"))
theorem notway_of {z : Str} (h : notWay z = true) : ¬ WayD (.str z) := fun ⟨y, e, w⟩ => by
  injection e with e
  subst e
  rcases w with rfl | rfl | rfl <;> exact absurd h (by decide +kernel)
def ways3 : List Str := ["swap", "spot", "shift"]
theorem way_mem {z : Str} (h : IsWay z) : z ∈ ways3 := by
  rcases h with rfl | rfl | rfl <;> decide
abbrev abcS : Str := "abcdefghijklmnopqrstuvwxyz"
theorem nw_ins : ∀ z ∈ ways3, ∀ a ∈ List.range 5, ∀ c ∈ abcS.cps.toList, notWay (cutS z none (some (a : Int)) ++ ⟨#[c]⟩ ++ cutS z (some (a : Int)) none) = true := by decide +kernel
theorem nw_del : ∀ z ∈ ways3, ∀ a ∈ List.range 5, decide (a < z.length) = true → notWay (cutS z none (some (a : Int)) ++ cutS z (some ((a : Int) + 1)) none) = true := by decide +kernel
theorem nw_more : ∀ z ∈ ways3, notWay (z ++ " ") = true ∧ notWay (" " ++ z) = true ∧ notWay (z ++ "\n") = true ∧ notWay (Txt.upper z) = true ∧ notWay (z ++ z) = true ∧ notWay "" = true ∧ notWay "swaps" = true ∧ notWay "Spot" = true := by decide +kernel
theorem way_tx {z : Str} (h : IsWay z) : TxOk 5 z ∧ TxOk 5 (Txt.upper z) ∧ 4 ≤ z.length ∧ z.length ≤ 5 := by
  rcases h with rfl | rfl | rfl <;> exact ⟨⟨by decide +kernel, by decide +kernel⟩, ⟨by decide +kernel, by decide +kernel⟩, by decide +kernel, by decide +kernel⟩
section
variable {P : Program} {w : World} {K : PySem.W.Frag} {mg : Str → Option Value} {base : Heap}
theorem scNoWay18 : FnScope ["store", "way", "at", "letter", "ahead", "some"] ["store", "way"] (defScope s_law_no_way) := ⟨rfl, rfl, rfl, by decide +kernel, rfl, by decide +kernel, by decide +kernel⟩
set_option maxHeartbeats 4000000 in
theorem ok_noWay18 {f fD : Addr} {fd dD : FuncData} {k : Nat} (T : Df K mg "_law_no_way" s_law_no_way ["store", "way"] f fd) (T__law_take : Df K mg "_law_take" s_law_take ["store", "many"] fD dD) (G__law_take : FnOk P w K mg base CX0 k fD dD ["store", "many"] spTake) (B : Bi mg) : FnOk P w K mg base CX0 (k + 1) f fd ["store", "way"] spNoWay18 := by
  refine T.F.ok scNoWay18 (fun vs H Q E h => ?_) (fun cdv A outer s H vs Q E hr h => ?_)
  · obtain ⟨S, z, rfl, _⟩ := h
    rfl
  · obtain ⟨S, z, rfl, D0, hz, q⟩ := h
    obtain ⟨t_way, tu, l4, l5⟩ := way_tx hz
    have hm := way_mem hz
    obtain ⟨m1, m2, m3, m4, m5, m6, m7, m8⟩ := nw_more z hm
    have o_way : Od (srcSk S) 52 0 (oX 5 fun x => x = z) H (.str z) := od_of_tx t_way rfl
    have u_way : ∀ x, x = z → TxOk 5 (Txt.upper x) := fun _ e => by rw [e]; exact tu
    have kk : (srcSk S).Kp H H := (srcSk S).refl H
    refine ⟨_, 
      (pss_cons (ps_set (i := 2) scNoWay18.nd rfl (.inl rfl) (pe_call G__law_take hr (by rfl) T__law_take.g T__law_take.F.kp T__law_take.b .nil pass0 (pa_cons (pv 0) (pa_cons (pe_callB call_len_str (by rfl) B.len PySem.boot_len (pa_cons (pv 1) pa_nil)) pa_nil))))
      (pss_cons (ps_set (i := 3) scNoWay18.nd rfl (.inl rfl) (pe_ix ix_str pe_str (pe_call G__law_take hr (by rfl) T__law_take.g T__law_take.F.kp T__law_take.b .nil pass0 (pa_cons (pv 0) (pa_cons pe_int pa_nil))) (fun _ _ => rfl)))
      (pss_cons (ps_set (i := 4) scNoWay18.nd rfl (.inl rfl) (pe_slice sl_str (pv 1) po_none (po_some (pv 2))))
      (pss_cons (ps_set (i := 5) scNoWay18.nd rfl (.inl rfl) (pe_lst (pa_cons (pe_op op_add_str (pe_op op_add_str (pv 4) (pv 3)) (pe_slice sl_str (pv 1) (po_some (pv 2)) po_none)) (pa_cons (pe_op op_add_str (pv 4) (pe_slice sl_str (pv 1) (po_some (pe_op op_add (pv 2) pe_int)) po_none)) (pa_cons (pe_op op_add_str (pv 1) pe_str) pa_nil)))))
      (pss_cons (ps_set (i := 5) scNoWay18.nd rfl (.inl rfl) (pe_op op_cat (pv 5) (pe_lst (pa_cons (pe_op op_add_str pe_str (pv 1)) (pa_cons (pe_op op_add_str (pv 1) pe_str) (pa_cons (pe_upper (pv 1)) (pa_cons (pe_op op_add_str (pv 1) (pv 1)) (pa_cons pe_str (pa_cons pe_non (pa_cons pe_int (pa_cons pe_bl (pa_cons (pe_lst (pa_cons (pv 1) pa_nil)) pa_nil))))))))))))
      (pss_one (ps_ret (pe_ix ix_list (pe_op op_cat (pv 5) (pe_lst (pa_cons (pe_tup (pa_cons (pv 1) pa_nil)) (pa_cons (pe_disp (pps_cons (pv 1) pe_int pps_nil) (by rfl) (by rfl) (fun z => by cases z) (by decide)) (pa_cons pe_str (pa_cons pe_str pa_nil)))))) (pe_call G__law_take hr (by rfl) T__law_take.g T__law_take.F.kp T__law_take.b .nil pass0 (pa_cons (pv 0) (pa_cons pe_int pa_nil))) (fun _ _ => rfl))))))))), ?_⟩
    refine os_set (S := srcSk S) D0 (oe_take rfl (oe_lenS (oe_v rfl o_way) (by decide)) (fun w hw => by obtain ⟨_, rfl, rfl⟩ := hw; omega)) fun x1 H1 k1 D1 o_at => ?_
    replace o_way := o_way.kp k1
    replace kk := (srcSk S).trans kk k1
    obtain ⟨at', rfl, ⟨y, ⟨_, rfl, rfl⟩, a0, a1⟩⟩ := od_int o_at
    replace o_at := od_isI o_at
    refine os_set (S := srcSk S) D1 (oe_ixS (n := 26) (by decide +kernel) (by decide) (by decide +kernel) (oe_takeC rfl (by decide)) (by grind)) fun x2 H2 k2 D2 o_letter => ?_
    replace o_way := o_way.kp k2
    replace o_at := o_at.kp k2
    replace kk := (srcSk S).trans kk k2
    obtain ⟨lt, rfl, tl, ch, mch, rfl⟩ := od_tx o_letter
    replace o_letter : Od (srcSk S) 12 0 (oX 1 fun x => x = ⟨#[ch]⟩) H2 (.str ⟨#[ch]⟩) := od_of_tx tl rfl
    refine os_set (S := srcSk S) D2 (oe_slS (oe_v rfl o_way) oo_none (oo_some (oe_v rfl o_at)) (by decide)) fun x3 H3 k3 D3 o_ahead => ?_
    replace o_way := o_way.kp k3
    replace o_at := o_at.kp k3
    replace o_letter := o_letter.kp k3
    replace kk := (srcSk S).trans kk k3
    obtain ⟨a, rfl⟩ : ∃ a : Nat, at' = (a : Int) := ⟨at'.toNat, by omega⟩
    have ha : a ∈ List.range 5 := List.mem_range.mpr (by omega)
    refine os_set (S := srcSk S) D3 (oe_lst (oa_consN (oe_catS (oe_catS (oe_v rfl o_ahead) (oe_v rfl o_letter) (by decide)) (oe_slS (oe_v rfl o_way) (oo_some (oe_v rfl o_at)) oo_none (by decide)) (by decide)) (by first | (rintro _ ⟨_, rfl, _, _, _, rfl, ⟨_, _, rfl, ⟨_, _, _, rfl, rfl, rfl, _, rfl, rfl⟩, rfl⟩, _, _, _, rfl, rfl, ⟨_, rfl, rfl⟩, rfl⟩; exact notway_of (nw_ins _ hm a ha ch mch)) | (rintro _ ⟨_, rfl, _, _, _, rfl, ⟨_, _, _, rfl, rfl, rfl, _, rfl, rfl⟩, _, _, _, rfl, rfl, ⟨_, rfl, _, _, rfl, rfl, rfl⟩, rfl⟩; exact notway_of (nw_del _ hm a ha (decide_eq_true (by omega)))) | (rintro _ ⟨_, rfl, _, _, _, rfl, rfl, rfl⟩; exact notway_of m1)) (oa_consN (oe_catS (oe_v rfl o_ahead) (oe_slS (oe_v rfl o_way) (oo_some (oe_add (oe_v rfl o_at) (oe_intI (by decide)) (by grind))) oo_none (by decide)) (by decide)) (by first | (rintro _ ⟨_, rfl, _, _, _, rfl, ⟨_, _, rfl, ⟨_, _, _, rfl, rfl, rfl, _, rfl, rfl⟩, rfl⟩, _, _, _, rfl, rfl, ⟨_, rfl, rfl⟩, rfl⟩; exact notway_of (nw_ins _ hm a ha ch mch)) | (rintro _ ⟨_, rfl, _, _, _, rfl, ⟨_, _, _, rfl, rfl, rfl, _, rfl, rfl⟩, _, _, _, rfl, rfl, ⟨_, rfl, _, _, rfl, rfl, rfl⟩, rfl⟩; exact notway_of (nw_del _ hm a ha (decide_eq_true (by omega)))) | (rintro _ ⟨_, rfl, _, _, _, rfl, rfl, rfl⟩; exact notway_of m1)) (oa_consN (oe_catS (oe_v rfl o_way) (oe_tx 1 ⟨by decide +kernel, by decide +kernel⟩) (by decide)) (by first | (rintro _ ⟨_, rfl, _, _, _, rfl, ⟨_, _, rfl, ⟨_, _, _, rfl, rfl, rfl, _, rfl, rfl⟩, rfl⟩, _, _, _, rfl, rfl, ⟨_, rfl, rfl⟩, rfl⟩; exact notway_of (nw_ins _ hm a ha ch mch)) | (rintro _ ⟨_, rfl, _, _, _, rfl, ⟨_, _, _, rfl, rfl, rfl, _, rfl, rfl⟩, _, _, _, rfl, rfl, ⟨_, rfl, _, _, rfl, rfl, rfl⟩, rfl⟩; exact notway_of (nw_del _ hm a ha (decide_eq_true (by omega)))) | (rintro _ ⟨_, rfl, _, _, _, rfl, rfl, rfl⟩; exact notway_of m1)) (oa_nilN (fun d => ¬ WayD d))))) (by decide)) fun x4 H4 k4 D4 o_some => ?_
    replace o_way := o_way.kp k4
    replace o_at := o_at.kp k4
    replace o_letter := o_letter.kp k4
    replace o_ahead := o_ahead.kp k4
    replace kk := (srcSk S).trans kk k4
    refine os_set (S := srcSk S) D4 (oe_catN (oe_v rfl o_some) (oe_lst (oa_consN (oe_catS (oe_tx 1 ⟨by decide +kernel, by decide +kernel⟩) (oe_v rfl o_way) (by decide)) (by first | (rintro _ ⟨_, rfl, _, _, _, rfl, rfl, rfl⟩; first | exact notway_of m2 | exact notway_of m3 | exact notway_of m5) | (rintro _ ⟨_, rfl, _, _, rfl, rfl⟩; exact notway_of m4) | (rintro _ ⟨_, rfl, _, rfl⟩; exact notway_of m6) | (rintro _ rfl; exact not_wayD rfl) | (rintro _ ⟨_, rfl, _⟩; exact not_wayD rfl)) (oa_consN (oe_catS (oe_v rfl o_way) (oe_tx 1 ⟨by decide +kernel, by decide +kernel⟩) (by decide)) (by first | (rintro _ ⟨_, rfl, _, _, _, rfl, rfl, rfl⟩; first | exact notway_of m2 | exact notway_of m3 | exact notway_of m5) | (rintro _ ⟨_, rfl, _, _, rfl, rfl⟩; exact notway_of m4) | (rintro _ ⟨_, rfl, _, rfl⟩; exact notway_of m6) | (rintro _ rfl; exact not_wayD rfl) | (rintro _ ⟨_, rfl, _⟩; exact not_wayD rfl)) (oa_consN (oe_upper (oe_v rfl o_way) (by decide) u_way) (by first | (rintro _ ⟨_, rfl, _, _, _, rfl, rfl, rfl⟩; first | exact notway_of m2 | exact notway_of m3 | exact notway_of m5) | (rintro _ ⟨_, rfl, _, _, rfl, rfl⟩; exact notway_of m4) | (rintro _ ⟨_, rfl, _, rfl⟩; exact notway_of m6) | (rintro _ rfl; exact not_wayD rfl) | (rintro _ ⟨_, rfl, _⟩; exact not_wayD rfl)) (oa_consN (oe_catS (oe_v rfl o_way) (oe_v rfl o_way) (by decide)) (by first | (rintro _ ⟨_, rfl, _, _, _, rfl, rfl, rfl⟩; first | exact notway_of m2 | exact notway_of m3 | exact notway_of m5) | (rintro _ ⟨_, rfl, _, _, rfl, rfl⟩; exact notway_of m4) | (rintro _ ⟨_, rfl, _, rfl⟩; exact notway_of m6) | (rintro _ rfl; exact not_wayD rfl) | (rintro _ ⟨_, rfl, _⟩; exact not_wayD rfl)) (oa_consN (oe_tx 0 ⟨by decide +kernel, by decide +kernel⟩) (by first | (rintro _ ⟨_, rfl, _, _, _, rfl, rfl, rfl⟩; first | exact notway_of m2 | exact notway_of m3 | exact notway_of m5) | (rintro _ ⟨_, rfl, _, _, rfl, rfl⟩; exact notway_of m4) | (rintro _ ⟨_, rfl, _, rfl⟩; exact notway_of m6) | (rintro _ rfl; exact not_wayD rfl) | (rintro _ ⟨_, rfl, _⟩; exact not_wayD rfl)) (oa_consN oe_non (by first | (rintro _ ⟨_, rfl, _, _, _, rfl, rfl, rfl⟩; first | exact notway_of m2 | exact notway_of m3 | exact notway_of m5) | (rintro _ ⟨_, rfl, _, _, rfl, rfl⟩; exact notway_of m4) | (rintro _ ⟨_, rfl, _, rfl⟩; exact notway_of m6) | (rintro _ rfl; exact not_wayD rfl) | (rintro _ ⟨_, rfl, _⟩; exact not_wayD rfl)) (oa_consN (oe_intI (by decide)) (by first | (rintro _ ⟨_, rfl, _, _, _, rfl, rfl, rfl⟩; first | exact notway_of m2 | exact notway_of m3 | exact notway_of m5) | (rintro _ ⟨_, rfl, _, _, rfl, rfl⟩; exact notway_of m4) | (rintro _ ⟨_, rfl, _, rfl⟩; exact notway_of m6) | (rintro _ rfl; exact not_wayD rfl) | (rintro _ ⟨_, rfl, _⟩; exact not_wayD rfl)) (oa_consN (oe_bl true) (by first | (rintro _ ⟨_, rfl, _, _, _, rfl, rfl, rfl⟩; first | exact notway_of m2 | exact notway_of m3 | exact notway_of m5) | (rintro _ ⟨_, rfl, _, _, rfl, rfl⟩; exact notway_of m4) | (rintro _ ⟨_, rfl, _, rfl⟩; exact notway_of m6) | (rintro _ rfl; exact not_wayD rfl) | (rintro _ ⟨_, rfl, _⟩; exact not_wayD rfl)) (oa_consN (oe_lst (oa_cons (oe_v rfl o_way) oa_nil) (by decide)) (by first | (rintro _ ⟨_, rfl, _, _, _, rfl, rfl, rfl⟩; first | exact notway_of m2 | exact notway_of m3 | exact notway_of m5) | (rintro _ ⟨_, rfl, _, _, rfl, rfl⟩; exact notway_of m4) | (rintro _ ⟨_, rfl, _, rfl⟩; exact notway_of m6) | (rintro _ rfl; exact not_wayD rfl) | (rintro _ ⟨_, rfl, _⟩; exact not_wayD rfl)) (oa_nilN (fun d => ¬ WayD d))))))))))) (by decide)) (by decide)) fun x5 H5 k5 D5 o_some => ?_
    replace o_way := o_way.kp k5
    replace o_at := o_at.kp k5
    replace o_letter := o_letter.kp k5
    replace o_ahead := o_ahead.kp k5
    replace kk := (srcSk S).trans kk k5
    refine os_ret (S := srcSk S) D5 (oe_ix (oe_catN (oe_v rfl o_some) (oe_lst (oa_consN (oe_tup (oa_cons (oe_v rfl o_way) oa_nil) (by decide)) (by first | (rintro _ ⟨_, rfl, _, rfl⟩; first | exact notway_of m7 | exact notway_of m8) | (rintro _ rfl; exact not_wayD rfl) | (rintro _ ⟨_, rfl, _⟩; exact not_wayD rfl)) (oa_consN (oe_d1 rfl t_way (by decide)) (by first | (rintro _ ⟨_, rfl, _, rfl⟩; first | exact notway_of m7 | exact notway_of m8) | (rintro _ rfl; exact not_wayD rfl) | (rintro _ ⟨_, rfl, _⟩; exact not_wayD rfl)) (oa_consN (oe_tx 5 ⟨by decide +kernel, by decide +kernel⟩) (by first | (rintro _ ⟨_, rfl, _, rfl⟩; first | exact notway_of m7 | exact notway_of m8) | (rintro _ rfl; exact not_wayD rfl) | (rintro _ ⟨_, rfl, _⟩; exact not_wayD rfl)) (oa_consN (oe_tx 4 ⟨by decide +kernel, by decide +kernel⟩) (by first | (rintro _ ⟨_, rfl, _, rfl⟩; first | exact notway_of m7 | exact notway_of m8) | (rintro _ rfl; exact not_wayD rfl) | (rintro _ ⟨_, rfl, _⟩; exact not_wayD rfl)) (oa_nilN (fun d => ¬ WayD d)))))) (by decide)) (by decide)) (oe_takeC rfl (by decide)) (by grind)) fun v H' k' D' o' => q v H' (o'.mono (by decide) (by decide) fun _ h => h) D' ((srcSk S).trans kk k')
end
end Fo
namespace Fo
open PySem PySem.Spec PyProof.Rows L2
/-! the counts and lists that are refused -/
def spListX (cF : Addr) : Sp := fun vs H Q E => ∃ (a : Addr) (xs : List V), vs = [.ref a] ∧ H a = some (.lst xs) ∧ (xs.length ≤ 6 → Q .non H) ∧ (6 < xs.length → E (.ref cF) none H)
def spCntX (cW cN : Addr) : Sp := fun vs H Q E => ∃ (x v u : V) (f d e : PyData), vs = [x, v, u] ∧ Dq H x f ∧ Dq H v d ∧ Dq H u e ∧ ((¬ WayD f ∧ E (.ref cW) none H) ∨ (WayD f ∧ ¬ (SizeD 12 d ∧ FromD 0 e) ∧ E (.ref cN) none H))
def spAllX (cO cW cF cN : Addr) : Sp := fun vs H Q E => ∃ (x v u : V) (f d e : PyData), vs = [x, v, u] ∧ Dq H x f ∧ Dq H v d ∧ Dq H u e ∧
  ((¬ GoodD d ∧ ∀ H', Same H H' → E (.ref cO) none H') ∨ (GoodD d ∧ ¬ WayD f ∧ ∀ H', Same H H' → E (.ref cW) none H') ∨ (GoodD d ∧ WayD f ∧ 6 < lenD d ∧ ∀ H', Same H H' → E (.ref cF) none H') ∨ (GoodD d ∧ WayD f ∧ lenD d ≤ 6 ∧ ¬ FromD 0 e ∧ ∀ H', Same H H' → E (.ref cN) none H'))
section
variable {P : Program} {w : World} {K : PySem.W.Frag} {mg : Str → Option Value} {base : Heap}
theorem scListX : FnScope ["order"] ["order"] (defScope s_check_listed) := ⟨rfl, rfl, rfl, by decide +kernel, rfl, by decide +kernel, by decide +kernel⟩
theorem ok_listX {f cF : Addr} {fd : FuncData} {k : Nat} {tL : Tok} (T : Df K mg "check_listed" s_check_listed ["order"] f fd) (mL : mg "MOST_LISTED" = some (.int 6 tL)) (X_NoFit : ExK K mg "NoFit" cF) (B : Bi mg) : FnOk P w K mg base (L2.CX P w) (k + 1) f fd ["order"] (spListX cF) := by
  refine T.F.okX scListX (fun vs H Q E h => ?_) (fun cdv A outer s H vs Q E hr h => ?_)
  · obtain ⟨a, xs, rfl, _⟩ := h
    rfl
  · obtain ⟨a, xs, rfl, ha, q1, q2⟩ := h
    refine ⟨_, 
      (pss_one (ps_if (pt_cmpR op_gt (pe_callB call_len_seq (by rfl) B.len PySem.boot_len (pa_cons (pv 0) pa_nil)) (pe_glob (v := .int 6) (by rfl) mL ⟨_, rfl⟩) (nomark _))
        (pss_one (ps_raiseK rfl (takes_of rfl rfl rfl rfl) X_NoFit (by rfl)))
        pss_nil)), ?_⟩
    refine ⟨_, rfl, a, _, rfl, .inl (SqL.of ha), _, _, rfl, rfl, _, rfl, ?_⟩
    by_cases c : 6 < xs.length
    · rw [decide_eq_true (show (6 : Int) < (xs.length : Int) by omega)]
      exact iteT (q2 c)
    · rw [decide_eq_false (show ¬ (6 : Int) < (xs.length : Int) by omega)]
      exact iteF (q1 (by omega))
theorem scCntX : FnScope ["way", "n", "r"] ["way", "n", "r"] (defScope s_check_count) := ⟨rfl, rfl, rfl, by decide +kernel, rfl, by decide +kernel, by decide +kernel⟩
theorem ok_cntX {f f1 f2 f3 cW cN : Addr} {fd d1 d2 d3 : FuncData} {k : Nat} {tM : Tok} (T : Df K mg "check_count" s_check_count ["way", "n", "r"] f fd) (T_check_way : Df K mg "check_way" s_check_way ["thing"] f1 d1) (T_check_size : Df K mg "check_size" s_check_size ["thing", "most"] f2 d2) (T_check_from : Df K mg "check_from" s_check_from ["thing", "least"] f3 d3) (G_check_way : FnOk P w K mg base (L2.CX P w) k f1 d1 ["thing"] (spWayX cW)) (G_check_size : FnOk P w K mg base (L2.CX P w) k f2 d2 ["thing", "most"] (spSizeX cN)) (G_check_from : FnOk P w K mg base (L2.CX P w) k f3 d3 ["thing", "least"] (spFromX cN)) (mM : mg "MOST_THINGS" = some (.int 12 tM)) : FnOk P w K mg base (L2.CX P w) (k + 1) f fd ["way", "n", "r"] (spCntX cW cN) := by
  refine T.F.okX scCntX (fun vs H Q E h => ?_) (fun cdv A outer s H vs Q E hr h => ?_)
  · obtain ⟨x, v, u, f, d, e, rfl, _⟩ := h
    rfl
  · obtain ⟨x, v, u, f, d, e, rfl, hf, hd, he, q⟩ := h
    refine ⟨_, 
      (pss_cons (ps_expr (pe_callS G_check_way hr (by rfl) T_check_way.g T_check_way.F.kp T_check_way.b (fun σ => passAt (takes_of rfl rfl rfl rfl) σ) (pa_cons (pv 0) pa_nil)))
      (pss_cons (ps_expr (pe_callS G_check_size hr (by rfl) T_check_size.g T_check_size.F.kp T_check_size.b (fun σ => passAt (takes_of rfl rfl rfl rfl) σ) (pa_cons (pv 1) (pa_cons (pe_glob (v := .int 12) (by rfl) mM ⟨_, rfl⟩) pa_nil))))
      (pss_one (ps_expr (pe_callS G_check_from hr (by rfl) T_check_from.g T_check_from.F.kp T_check_from.b (fun σ => passAt (takes_of rfl rfl rfl rfl) σ) (pa_cons (pv 2) (pa_cons pe_int pa_nil))))))), ?_⟩
    refine ⟨_, rfl, x, f, rfl, hf, fun wy => ?_, fun nw => ?_⟩
    · rcases q with ⟨nw, _⟩ | ⟨_, nn, q⟩
      · exact absurd wy nw
      refine ⟨_, rfl, v, d, 12, rfl, hd, by decide, by decide, fun sz => ?_, fun _ => q⟩
      exact ⟨_, rfl, u, e, 0, rfl, he, by decide, by decide, fun fr => absurd ⟨sz, fr⟩ nn, fun _ => q⟩
    · rcases q with ⟨_, q⟩ | ⟨wy, _⟩
      · exact q
      · exact absurd wy nw
theorem scCwX : FnScope ["way", "n", "r"] ["way", "n", "r"] (defScope s_count_within) := ⟨rfl, rfl, rfl, by decide +kernel, rfl, by decide +kernel, by decide +kernel⟩
theorem ok_cwX {f f1 f2 cW cN : Addr} {fd d1 d2 : FuncData} {k : Nat} (T : Df K mg "count_within" s_count_within ["way", "n", "r"] f fd) (T_check_count : Df K mg "check_count" s_check_count ["way", "n", "r"] f1 d1) (T_known_within : Df K mg "known_within" s_known_within ["way", "n", "r"] f2 d2) (G_check_count : FnOk P w K mg base (L2.CX P w) k f1 d1 ["way", "n", "r"] (spCntX cW cN)) : FnOk P w K mg base (L2.CX P w) (k + 1) f fd ["way", "n", "r"] (spCntX cW cN) := by
  have G_known_within : FnOk P w K mg base CX0 k f2 d2 ["way", "n", "r"] spNever := fn_never
  refine T.F.okX scCwX (fun vs H Q E h => ?_) (fun cdv A outer s H vs Q E hr h => ?_)
  · obtain ⟨x, v, u, f, d, e, rfl, _⟩ := h
    rfl
  · obtain ⟨x, v, u, f, d, e, rfl, hf, hd, he, q⟩ := h
    refine ⟨_, 
      (pss_cons (ps_expr (pe_callS G_check_count hr (by rfl) T_check_count.g T_check_count.F.kp T_check_count.b (fun σ => passAt (takes_of rfl rfl rfl rfl) σ) (pa_cons (pv 0) (pa_cons (pv 1) (pa_cons (pv 2) pa_nil)))))
      (pss_one (ps_ret (pe_call G_known_within hr (by rfl) T_known_within.g T_known_within.F.kp T_known_within.b .nil pass0 (pa_cons (pv 0) (pa_cons (pv 1) (pa_cons (pv 2) pa_nil))))))), ?_⟩
    exact ⟨_, rfl, _, rfl, _, rfl, x, v, u, f, d, e, rfl, hf, hd, he, q⟩
theorem scCaX : FnScope ["way", "n", "r"] ["way", "n", "r"] (defScope s_count_at) := ⟨rfl, rfl, rfl, by decide +kernel, rfl, by decide +kernel, by decide +kernel⟩
theorem ok_caX {f f1 f2 cW cN : Addr} {fd d1 d2 : FuncData} {k : Nat} (T : Df K mg "count_at" s_count_at ["way", "n", "r"] f fd) (T_check_count : Df K mg "check_count" s_check_count ["way", "n", "r"] f1 d1) (T_known_within : Df K mg "known_within" s_known_within ["way", "n", "r"] f2 d2) (G_check_count : FnOk P w K mg base (L2.CX P w) k f1 d1 ["way", "n", "r"] (spCntX cW cN)) : FnOk P w K mg base (L2.CX P w) (k + 1) f fd ["way", "n", "r"] (spCntX cW cN) := by
  have G_known_within : FnOk P w K mg base CX0 k f2 d2 ["way", "n", "r"] spNever := fn_never
  refine T.F.okX scCaX (fun vs H Q E h => ?_) (fun cdv A outer s H vs Q E hr h => ?_)
  · obtain ⟨x, v, u, f, d, e, rfl, _⟩ := h
    rfl
  · obtain ⟨x, v, u, f, d, e, rfl, hf, hd, he, q⟩ := h
    refine ⟨_, 
      (pss_cons (ps_expr (pe_callS G_check_count hr (by rfl) T_check_count.g T_check_count.F.kp T_check_count.b (fun σ => passAt (takes_of rfl rfl rfl rfl) σ) (pa_cons (pv 0) (pa_cons (pv 1) (pa_cons (pv 2) pa_nil)))))
      (pss_cons (ps_if (pt_cmpR op_eq (pv 2) pe_int (nomark _))
        (pss_one (ps_ret (pe_call G_known_within hr (by rfl) T_known_within.g T_known_within.F.kp T_known_within.b .nil pass0 (pa_cons (pv 0) (pa_cons (pv 1) (pa_cons pe_int pa_nil))))))
        pss_nil)
      (pss_one (ps_ret (pe_op op_sub (pe_call G_known_within hr (by rfl) T_known_within.g T_known_within.F.kp T_known_within.b .nil pass0 (pa_cons (pv 0) (pa_cons (pv 1) (pa_cons (pv 2) pa_nil)))) (pe_call G_known_within hr (by rfl) T_known_within.g T_known_within.F.kp T_known_within.b .nil pass0 (pa_cons (pv 0) (pa_cons (pv 1) (pa_cons (pe_op op_sub (pv 2) pe_int) pa_nil))))))))), ?_⟩
    exact ⟨_, rfl, _, rfl, _, rfl, x, v, u, f, d, e, rfl, hf, hd, he, q⟩
theorem scAllX : FnScope ["way", "order", "r", "other"] ["way", "order", "r"] (defScope s_all_within) := ⟨rfl, rfl, rfl, by decide +kernel, rfl, by decide +kernel, by decide +kernel⟩
theorem ok_allX {f f1 f2 f3 f4 f5 f6 cO cW cF cN : Addr} {fd d1 d2 d3 d4 d5 d6 : FuncData} {k : Nat} (T : Df K mg "all_within" s_all_within ["way", "order", "r"] f fd) (T_check_order : Df K mg "check_order" s_check_order ["thing"] f1 d1) (T_check_way : Df K mg "check_way" s_check_way ["thing"] f2 d2) (T_check_listed : Df K mg "check_listed" s_check_listed ["order"] f3 d3) (T_check_from : Df K mg "check_from" s_check_from ["thing", "least"] f4 d4) (T_all_orders : Df K mg "all_orders" s_all_orders ["n"] f5 d5) (T_known_far : Df K mg "known_far" s_known_far ["way", "one", "other"] f6 d6) (G_check_order : FnOk P w K mg base (L2.CX P w) k f1 d1 ["thing"] (spChk cO)) (G_check_way : FnOk P w K mg base (L2.CX P w) k f2 d2 ["thing"] (spWayX cW)) (G_check_listed : FnOk P w K mg base (L2.CX P w) k f3 d3 ["order"] (spListX cF)) (G_check_from : FnOk P w K mg base (L2.CX P w) k f4 d4 ["thing", "least"] (spFromX cN)) (B : Bi mg) : FnOk P w K mg base (L2.CX P w) (k + 1) f fd ["way", "order", "r"] (spAllX cO cW cF cN) := by
  have G_all_orders : FnOk P w K mg base CX0 k f5 d5 ["n"] spNever := fn_never
  have G_known_far : FnOk P w K mg base CX0 k f6 d6 ["way", "one", "other"] spNever := fn_never
  refine T.F.okX scAllX (fun vs H Q E h => ?_) (fun cdv A outer s H vs Q E hr h => ?_)
  · obtain ⟨x, v, u, f, d, e, rfl, _⟩ := h
    rfl
  · obtain ⟨x, v, u, f, d, e, rfl, hf, hd, he, q⟩ := h
    refine ⟨_, 
      (pss_cons (ps_expr (pe_callS G_check_order hr (by rfl) T_check_order.g T_check_order.F.kp T_check_order.b (fun σ => passAt (takes_of rfl rfl rfl rfl) σ) (pa_cons (pv 1) pa_nil)))
      (pss_cons (ps_expr (pe_callS G_check_way hr (by rfl) T_check_way.g T_check_way.F.kp T_check_way.b (fun σ => passAt (takes_of rfl rfl rfl rfl) σ) (pa_cons (pv 0) pa_nil)))
      (pss_cons (ps_expr (pe_callS G_check_listed hr (by rfl) T_check_listed.g T_check_listed.F.kp T_check_listed.b (fun σ => passAt (takes_of rfl rfl rfl rfl) σ) (pa_cons (pv 1) pa_nil)))
      (pss_cons (ps_expr (pe_callS G_check_from hr (by rfl) T_check_from.g T_check_from.F.kp T_check_from.b (fun σ => passAt (takes_of rfl rfl rfl rfl) σ) (pa_cons (pv 2) (pa_cons pe_int pa_nil))))
      (pss_one (ps_ret (pe_lc (own := [("other", 3)]) (g := (gName 3)) (tt := (tTest (tOp (rI0 fun i j => .bl (decide (i ≤ j))) (tCall spNever [] E0 (tCons (tVar 0) (tCons (tVar 1) (tCons (tVar 3) tNil)))) (tVar 2)))) (te := (tVar 3)) rfl scAllX.nd (pi_list (pe_call G_all_orders hr (by rfl) T_all_orders.g T_all_orders.F.kp T_all_orders.b .nil pass0 (pa_cons (pe_callB call_len_seq (by rfl) B.len PySem.boot_len (pa_cons (pv 1) pa_nil)) pa_nil))) (blkOk_by (N := ["way", "order", "r", "other"]) (sc := defScope s_all_within) (by decide +kernel)) (fun _ _ _ _ _ => (pg_name (i := 3) scAllX.nd rfl (.inl rfl))) (fun _ _ _ _ _ => (pts_one (pt_cmpR op_le (pe_call G_known_far hr (by rfl) T_known_far.g T_known_far.F.kp T_known_far.b .nil pass0 (pa_cons (pv 0) (pa_cons (pv 1) (pa_cons (pv 3) pa_nil)))) (pv 2) (nomark _)))) (fun _ _ _ _ _ => (pv 3))))))))), ?_⟩
    refine ⟨_, rfl, v, d, rfl, hd, fun g H1 s1 => ?_, fun ng => ?_⟩
    · rcases q with ⟨ng, _⟩ | q
      · exact absurd g ng
      refine ⟨_, rfl, x, f, rfl, hf.same s1, fun wy => ?_, fun nw => ?_⟩
      · rcases q with ⟨_, nw, _⟩ | q
        · exact absurd wy nw
        obtain ⟨a, ns, rfl, ha, o1, h1, h2, l1⟩ := good_at hd g
        refine ⟨_, rfl, a, _, rfl, s1 _ _ ha, fun l6 => ?_, fun l6 => ?_⟩
        · rw [List.length_map] at l6
          rcases q with ⟨_, _, l, _⟩ | ⟨_, _, _, nf, q⟩
          · omega
          exact ⟨_, rfl, u, e, 0, rfl, he.same s1, by decide, by decide, fun fr => absurd fr nf, fun _ => q _ s1⟩
        · rw [List.length_map] at l6
          rcases q with ⟨_, _, _, q⟩ | ⟨_, _, l, _⟩
          · exact q _ s1
          · omega
      · rcases q with ⟨_, _, q⟩ | ⟨_, wy, _⟩ | ⟨_, wy, _⟩
        · exact q _ s1
        · exact absurd wy nw
        · exact absurd wy nw
    · rcases q with ⟨_, q⟩ | ⟨g, _⟩ | ⟨g, _⟩ | ⟨g, _⟩
      · exact q
      · exact absurd g ng
      · exact absurd g ng
      · exact absurd g ng
end
end Fo
namespace Fo
open PySem PySem.Spec PyProof.Rows L2
/-! loops over lists of anything -/
section
variable {S : Src} {σ : L2.St} {H : Hp} {m k a b : Nat} {B C : PyData → Prop} {t u : TE}
theorem of_list {K : PySem.W.Frag} {A : List PyData → Prop} {g : TG} {tb : TS} {D : Ends} (at1 : S.At H) (h : OE S t σ H m k (oL A)) (Pv : L2.St → Hp → Prop) (h0 : ∀ H', S.Kp H H' → S.At H' → Pv σ H')
    (hs : ∀ σ' H' x d (N : L2.St → Hp → Prop), Pv σ' H' → S.Kp H H' → S.At H' → Dq (S.cut H') x d → Rw m k d → (∃ ds, A ds ∧ d ∈ ds) → (∀ s h, Pv s h → S.Kp H' h → S.At h → N s h) → g x σ' H' fun σ2 H2 => tb { D with nx := N, ct := N, bk := D.nx } σ2 H2) (hd : ∀ σ' H', Pv σ' H' → S.Kp H H' → S.At H' → D.nx σ' H') : tFor (iList K t) g tb D σ H :=
  h H _ (S.refl H) at1 fun v H2 e2 at2 o => by
    obtain ⟨_, h1, h2, ds, rfl, h3⟩ := o
    obtain ⟨p, xs, rfl, hp, ax⟩ := dq_lst h1
    refine ⟨p, rfl, ⟨xs, SqL.of (S.le _ _ _ hp)⟩, ?_⟩
    refine for_list (xs := xs) (fun _ s h => (Pv s h ∧ S.Kp H h ∧ S.At h) ∧ S.Kp H2 h) ⟨⟨h0 H2 e2 at2, e2, at2⟩, S.refl _⟩ (fun i s h _ w => SqL.of (S.le _ _ _ (S.kp w.2 _ _ hp))) (fun i x s h hx w => ?_) (fun s h w => hd s h w.1.1 w.1.2.1 w.1.2.2)
    obtain ⟨d, ed, hdq⟩ := (ax.same (S.kp w.2)).get hx
    have md := List.mem_of_getElem? ed
    exact hs s h x d _ w.1.1 w.1.2.1 w.1.2.2 hdq (rw_mem h2 md) ⟨ds, h3, md⟩ fun s' h' p k at' => ⟨⟨p, S.trans w.1.2.1 k, at'⟩, S.trans w.2 k⟩
theorem og_pair {K : PySem.W.Frag} {x : V} {p q : PyData} {i j : Nat} {Q : L2.St → Hp → Prop} (h : Dq (S.cut H) x (.tuple [p, q])) (c : ∀ v w, Dq (S.cut H) v p → Dq (S.cut H) w q → Q ((σ.set i (some v)).set j (some w)) H) : gTup K 2 (gCons (gName i) (gCons (gName j) gNil)) x σ H Q := by
  obtain ⟨a, xs, rfl, e, al⟩ := dq_tupI h
  cases al with
  | cons h1 al =>
    cases al with
    | cons h2 al =>
      cases al
      exact ⟨a, _, rfl, SqT.of (S.le _ _ _ e), rfl, _, _, rfl, _, _, rfl, rfl, c _ _ h1 h2⟩
end
end Fo
namespace Fo
open PySem PySem.Spec PyProof.Rows L2
/-- C is the i-th of the nine error classes, and none of the others -/
structure KdY (K : PySem.W.Frag) (c : Nat → Addr) (C : Addr) (i : Nat) : Prop where
  ec : ExcC K C
  ks : ∀ j, j < 9 → PySem.W.kitOne K (.ref C) (.ref (c j)) = some (decide (j = i))
  ve : PySem.W.kitOne K (.ref C) (.type "ValueError") = some true
  lt : i < 9
def cls9 (a0 a1 a2 a3 a4 a5 a6 a7 a8 : Addr) : Nat → Addr
  | 0 => a0
  | 1 => a1
  | 2 => a2
  | 3 => a3
  | 4 => a4
  | 5 => a5
  | 6 => a6
  | 7 => a7
  | _ => a8
theorem kd_mk9 {K : PySem.W.Frag} {C a0 a1 a2 a3 a4 a5 a6 a7 a8 : Addr} {i : Nat} (ec : ExcC K C) (h0 : PySem.W.kitOne K (.ref C) (.ref a0) = some (decide (0 = i))) (h1 : PySem.W.kitOne K (.ref C) (.ref a1) = some (decide (1 = i))) (h2 : PySem.W.kitOne K (.ref C) (.ref a2) = some (decide (2 = i))) (h3 : PySem.W.kitOne K (.ref C) (.ref a3) = some (decide (3 = i))) (h4 : PySem.W.kitOne K (.ref C) (.ref a4) = some (decide (4 = i))) (h5 : PySem.W.kitOne K (.ref C) (.ref a5) = some (decide (5 = i))) (h6 : PySem.W.kitOne K (.ref C) (.ref a6) = some (decide (6 = i))) (h7 : PySem.W.kitOne K (.ref C) (.ref a7) = some (decide (7 = i))) (h8 : PySem.W.kitOne K (.ref C) (.ref a8) = some (decide (8 = i))) (ve : PySem.W.kitOne K (.ref C) (.type "ValueError") = some true) (lt : i < 9) : KdY K (cls9 a0 a1 a2 a3 a4 a5 a6 a7 a8) C i := by
  refine ⟨ec, fun j hj => ?_, ve, lt⟩
  rcases (show j = 0 ∨ j = 1 ∨ j = 2 ∨ j = 3 ∨ j = 4 ∨ j = 5 ∨ j = 6 ∨ j = 7 ∨ j = 8 by omega) with rfl | rfl | rfl | rfl | rfl | rfl | rfl | rfl | rfl
  · exact h0
  · exact h1
  · exact h2
  · exact h3
  · exact h4
  · exact h5
  · exact h6
  · exact h7
  · exact h8
def spKindsY (K : PySem.W.Frag) (c : Nat → Addr) : Sp := fun vs H Q _ => ∃ (a C : Addr) (i : Nat), vs = [.ref a, .int i] ∧ H a = some (ExV (.ref C) none a) ∧ KdY K c C i ∧ ∀ H', Same H H' → Q (.bl true) H'
abbrev dB (bs : List Bool) : PyData := .list (bs.map PyData.bool)
theorem dp_bools {K : PySem.W.Frag} {H : Hp} : ∀ bs : List Bool, DpAll K H (bs.map V.bl) (bs.map PyData.bool)
  | [] => .nil
  | b :: r => .cons (.bl b) (dp_bools r)
theorem dp_boolL {K : PySem.W.Frag} {H : Hp} {a : Addr} {bs : List Bool} (h : H a = some (.lst (bs.map V.bl))) : Dp K H (.ref a) (dB bs) := .lst (SqL.of h) (dp_bools bs)
theorem lay_bools : ∀ bs : List Bool, PyData.canLayAll0 (bs.map PyData.bool) = true
  | [] => rfl
  | b :: r => by
    show (PyData.canLay0 (.bool b) && PyData.canLayAll0 (r.map PyData.bool)) = true
    rw [lay_bools r]
    rfl
theorem depth_bools : ∀ bs : List Bool, PyData.depthAll (bs.map PyData.bool) = 0
  | [] => by simp [PyData.depthAll]
  | b :: r => by
    show PyData.depthAll (.bool b :: r.map PyData.bool) = 0
    rw [PyData.depthAll, depth_bools r]
    simp [PyData.depth]
theorem shaped_bools (bs : List Bool) : SeqAt.shaped (dB bs) = true := by
  unfold SeqAt.shaped
  rw [Bool.and_eq_true_iff]
  constructor
  · rw [PyData.canLay0]
    exact lay_bools bs
  · apply decide_eq_true
    rw [PyData.depth, depth_bools]
    decide
theorem eqv_bools (bs : List Bool) : PyData.eqv (dB bs) (dB bs) = true := SeqAt.eqv_refl _ (SeqAt.canLay_of_shaped (shaped_bools bs))
/-- bools and a new list of them -/
theorem nb (bs : List Bool) {H : Hp} {p : Addr} (np : H p = none) : Same H (upd H p (.lst (bs.map V.bl))) ∧ (upd H p (.lst (bs.map V.bl))) p = some (.lst (bs.map V.bl)) := ⟨same_new np, upd_same⟩
section
variable {P : Program} {w : World} {K : PySem.W.Frag} {mg : Str → Option Value} {base : Heap}
theorem scKindsY : FnScope ["caught", "due", "kinds", "k"] ["caught", "due"] (defScope s_law_kinds) := ⟨rfl, rfl, rfl, by decide +kernel, rfl, by decide +kernel, by decide +kernel⟩
set_option maxHeartbeats 4000000 in
theorem ok_kindsY {f : Addr} {fd : FuncData} {k : Nat} {c : Nat → Addr} (T : Df K mg "_law_kinds" s_law_kinds ["caught", "due"] f fd) (g_NoOrder : mg "NoOrder" = some (.ref (c 0))) (g_NoWay : mg "NoWay" = some (.ref (c 1))) (g_NoFit : mg "NoFit" = some (.ref (c 2))) (g_NoPlace : mg "NoPlace" = some (.ref (c 3))) (g_NoNumber : mg "NoNumber" = some (.ref (c 4))) (g_TooMany : mg "TooMany" = some (.ref (c 5))) (g_NoText : mg "NoText" = some (.ref (c 6))) (g_NoName : mg "NoName" = some (.ref (c 7))) (g_NoRow : mg "NoRow" = some (.ref (c 8))) (B : Bi mg) : FnOk P w K mg base CX0 (k + 1) f fd ["caught", "due"] (spKindsY K c) := by
  refine T.F.ok scKindsY (fun vs H Q E h => ?_) (fun cdv A outer s H vs Q E hr h => ?_)
  · obtain ⟨a, C, i, rfl, _⟩ := h
    rfl
  · obtain ⟨a, C, i, rfl, ha, kd, q⟩ := h
    refine ⟨_, 
      (pss_cons (ps_set (i := 2) scKindsY.nd rfl (.inl rfl) (pe_lst (pa_cons (pe_callB call_isZ (by rfl) B.isinstance (by decide +kernel) (pa_cons (pv 0) (pa_cons (pe_glob (v := .ref (c 0)) (by rfl) g_NoOrder rfl) pa_nil))) (pa_cons (pe_callB call_isZ (by rfl) B.isinstance (by decide +kernel) (pa_cons (pv 0) (pa_cons (pe_glob (v := .ref (c 1)) (by rfl) g_NoWay rfl) pa_nil))) (pa_cons (pe_callB call_isZ (by rfl) B.isinstance (by decide +kernel) (pa_cons (pv 0) (pa_cons (pe_glob (v := .ref (c 2)) (by rfl) g_NoFit rfl) pa_nil))) pa_nil)))))
      (pss_cons (ps_set (i := 2) scKindsY.nd rfl (.inl rfl) (pe_op op_cat (pv 2) (pe_lst (pa_cons (pe_callB call_isZ (by rfl) B.isinstance (by decide +kernel) (pa_cons (pv 0) (pa_cons (pe_glob (v := .ref (c 3)) (by rfl) g_NoPlace rfl) pa_nil))) (pa_cons (pe_callB call_isZ (by rfl) B.isinstance (by decide +kernel) (pa_cons (pv 0) (pa_cons (pe_glob (v := .ref (c 4)) (by rfl) g_NoNumber rfl) pa_nil))) pa_nil)))))
      (pss_cons (ps_set (i := 2) scKindsY.nd rfl (.inl rfl) (pe_op op_cat (pv 2) (pe_lst (pa_cons (pe_callB call_isZ (by rfl) B.isinstance (by decide +kernel) (pa_cons (pv 0) (pa_cons (pe_glob (v := .ref (c 5)) (by rfl) g_TooMany rfl) pa_nil))) (pa_cons (pe_callB call_isZ (by rfl) B.isinstance (by decide +kernel) (pa_cons (pv 0) (pa_cons (pe_glob (v := .ref (c 6)) (by rfl) g_NoText rfl) pa_nil))) pa_nil)))))
      (pss_cons (ps_set (i := 2) scKindsY.nd rfl (.inl rfl) (pe_op op_cat (pv 2) (pe_lst (pa_cons (pe_callB call_isZ (by rfl) B.isinstance (by decide +kernel) (pa_cons (pv 0) (pa_cons (pe_glob (v := .ref (c 7)) (by rfl) g_NoName rfl) pa_nil))) (pa_cons (pe_callB call_isZ (by rfl) B.isinstance (by decide +kernel) (pa_cons (pv 0) (pa_cons (pe_glob (v := .ref (c 8)) (by rfl) g_NoRow rfl) pa_nil))) pa_nil)))))
      (pss_cons (ps_if (PW.pt (pw_or (pt_cmpR op_isN (pv 0) pe_non (nomark _)) (pw_or1 (pt_not (pt_val (pe_callB call_isZ (by rfl) B.isinstance (by decide +kernel) (pa_cons (pv 0) (pa_cons (pe_bltn (v := .ty "ValueError") (by rfl) B.ValueError (by decide +kernel) rfl) pa_nil))))))))
        (pss_one (ps_ret pe_bl))
        pss_nil)
      (pss_one (ps_ret (pe_cmpR (op_eqD hr.units) (pv 2) (pe_lc (own := [("k", 3)]) (g := (gName 3)) (tt := tYes) (te := (tOp rEq (tVar 3) (tVar 1))) rfl scKindsY.nd (pi_range1 (by rfl) B.range (pa_cons pe_int pa_nil)) (blkOk_by (N := ["caught", "due", "kinds", "k"]) (sc := defScope s_law_kinds) (by decide +kernel)) (fun _ _ _ _ _ => (pg_name (i := 3) scKindsY.nd rfl (.inl rfl))) (fun _ _ _ _ _ => pts_nil) (fun _ _ _ _ _ => (pe_cmpR op_eq (pv 3) (pv 1) (nomark _)))) (nomark _))))))))), ?_⟩
    refine ⟨_, rfl, _, _, _, _, _, rfl, .own _, .exc ha kd.ec, kd.ks 0 (by decide), ?_⟩
    refine ⟨_, rfl, _, _, _, _, _, rfl, .own _, .exc ha kd.ec, kd.ks 1 (by decide), ?_⟩
    refine ⟨_, rfl, _, _, _, _, _, rfl, .own _, .exc ha kd.ec, kd.ks 2 (by decide), ?_⟩
    refine ⟨line_small (by show 3 ≤ 16777216; decide), fun p1 np1 => ?_⟩
    obtain ⟨s1, h1⟩ := nb [decide (0 = i), decide (1 = i), decide (2 = i)] np1
    have ha1 := s1 _ _ ha
    refine ⟨_, rfl, _, rfl, _, _, _, _, _, rfl, .own _, .exc ha1 kd.ec, kd.ks 3 (by decide), ?_⟩
    refine ⟨_, rfl, _, _, _, _, _, rfl, .own _, .exc ha1 kd.ec, kd.ks 4 (by decide), ?_⟩
    refine ⟨line_small (by show 2 ≤ 16777216; decide), fun p2 np2 => ?_⟩
    obtain ⟨s2, h2⟩ := nb [decide (3 = i), decide (4 = i)] np2
    refine ⟨_, _, _, _, rfl, rfl, s2 _ _ h1, h2, line_small (by show 3 + 2 ≤ 16777216; decide), fun p3 np3 => ?_⟩
    obtain ⟨s3, h3⟩ := nb ([decide (0 = i), decide (1 = i), decide (2 = i)] ++ [decide (3 = i), decide (4 = i)]) np3
    have s13 := (s1.trans s2).trans s3
    have ha3 := s13 _ _ ha
    refine ⟨_, rfl, _, rfl, _, _, _, _, _, rfl, .own _, .exc ha3 kd.ec, kd.ks 5 (by decide), ?_⟩
    refine ⟨_, rfl, _, _, _, _, _, rfl, .own _, .exc ha3 kd.ec, kd.ks 6 (by decide), ?_⟩
    refine ⟨line_small (by show 2 ≤ 16777216; decide), fun p4 np4 => ?_⟩
    obtain ⟨s4, h4⟩ := nb [decide (5 = i), decide (6 = i)] np4
    refine ⟨_, _, _, _, rfl, rfl, s4 _ _ h3, h4, line_small (by show 5 + 2 ≤ 16777216; decide), fun p5 np5 => ?_⟩
    obtain ⟨s5, h5⟩ := nb (([decide (0 = i), decide (1 = i), decide (2 = i)] ++ [decide (3 = i), decide (4 = i)]) ++ [decide (5 = i), decide (6 = i)]) np5
    have s15 := (s13.trans s4).trans s5
    have ha5 := s15 _ _ ha
    refine ⟨_, rfl, _, rfl, _, _, _, _, _, rfl, .own _, .exc ha5 kd.ec, kd.ks 7 (by decide), ?_⟩
    refine ⟨_, rfl, _, _, _, _, _, rfl, .own _, .exc ha5 kd.ec, kd.ks 8 (by decide), ?_⟩
    refine ⟨line_small (by show 2 ≤ 16777216; decide), fun p6 np6 => ?_⟩
    obtain ⟨s6, h6⟩ := nb [decide (7 = i), decide (8 = i)] np6
    refine ⟨_, _, _, _, rfl, rfl, s6 _ _ h5, h6, line_small (by show 7 + 2 ≤ 16777216; decide), fun p7 np7 => ?_⟩
    obtain ⟨s7, h7⟩ := nb (([decide (0 = i), decide (1 = i), decide (2 = i)] ++ [decide (3 = i), decide (4 = i)] ++ [decide (5 = i), decide (6 = i)]) ++ [decide (7 = i), decide (8 = i)]) np7
    have s17 := (s15.trans s6).trans s7
    have ha7 := s17 _ _ ha
    refine ⟨_, rfl, rfl, _, rfl, iteF ?_⟩
    refine ⟨_, rfl, _, _, _, _, _, rfl, .ty _, .exc ha7 kd.ec, kd.ve, _, rfl, iteF ?_⟩
    refine ⟨_, rfl, 9, rfl, by decide, by decide, fun D nD => ?_⟩
    refine lc_range (n := 9) (fun m H8 => H8 D = some (.lst (((List.range m).map fun (j : Nat) => decide (V.int (0 + (j : Int)) = V.int (i : Int))).map V.bl)) ∧ Same _ H8) ⟨upd_same, same_new nD⟩ (fun m H8 hm hP => ?_) (fun H8 hP => ?_)
    · obtain ⟨hD3, s3⟩ := hP
      refine ⟨rfl, _, rfl, _, rfl, rfl, _, hD3, line_lt (by rw [List.length_map, List.length_map, List.length_range]; omega), ?_, fun u o e => ?_⟩
      · rw [upd_same, List.range_succ, List.map_append, List.map_append]
        rfl
      · rw [upd_ne (ne_of_none e nD)]
        exact s3 _ _ e
    · obtain ⟨hD3, s3⟩ := hP
      refine ⟨_, _, dp_boolL (s3 _ _ h7), dp_boolL hD3, shaped_bools _, shaped_bools _, ?_⟩
      have e : ((List.range 9).map fun (j : Nat) => decide (V.int (0 + (j : Int)) = V.int (i : Int))) = [decide (0 = i), decide (1 = i), decide (2 = i)] ++ [decide (3 = i), decide (4 = i)] ++ [decide (5 = i), decide (6 = i)] ++ [decide (7 = i), decide (8 = i)] := by
        have := kd.lt
        rcases (show i = 0 ∨ i = 1 ∨ i = 2 ∨ i = 3 ∨ i = 4 ∨ i = 5 ∨ i = 6 ∨ i = 7 ∨ i = 8 by omega) with rfl | rfl | rfl | rfl | rfl | rfl | rfl | rfl | rfl <;> decide
      rw [e, eqv_bools]
      exact q _ (s17.trans s3)
end
end Fo
namespace Fo
open PySem PySem.Spec PyProof.Rows L2
/-- what is due: i the door, f the way, d the thing asked, e the distance -/
def Due18 (i : Int) (f d e : PyData) (j : Nat) : Prop :=
  ((i = 0 ∨ i = 1) ∧ ((j = 1 ∧ ¬ WayD f) ∨ (j = 4 ∧ WayD f ∧ ¬ (SizeD 12 d ∧ FromD 0 e)))) ∨
  (i = 2 ∧ ((j = 0 ∧ ¬ GoodD d) ∨ (j = 1 ∧ GoodD d ∧ ¬ WayD f) ∨ (j = 2 ∧ GoodD d ∧ WayD f ∧ 6 < lenD d) ∨ (j = 4 ∧ GoodD d ∧ WayD f ∧ lenD d ≤ 6 ∧ ¬ FromD 0 e)))
theorem due18_lt {i : Int} {f d e : PyData} {j : Nat} (h : Due18 i f d e j) : j = 0 ∨ j = 1 ∨ j = 2 ∨ j = 4 := by
  unfold Due18 at h
  omega
def spCaught18 (c : Nat → Addr) : Sp := fun vs H Q _ => ∃ (i : Int) (j : Nat) (x v u : V) (f d e : PyData), vs = [.int i, x, v, u] ∧ Dq H x f ∧ Dq H v d ∧ Dq H u e ∧ Due18 i f d e j ∧ ∀ a H', H' a = some (ExV (.ref (c j)) none a) → Same H H' → Q (.ref a) H'
def spRef18 : Sp := fun vs H Q _ => ∃ (i : Int) (j : Nat) (x v u : V) (f d e : PyData), vs = [.int i, x, v, u, .int j] ∧ Dq H x f ∧ Dq H v d ∧ Dq H u e ∧ Rw 1000000 10 f ∧ Rw 1000000 10 d ∧ Rw 1000000 10 e ∧ Due18 i f d e j ∧ ∀ H', Same H H' → Q (.bl true) H'
def spCref18 : Sp := fun vs H Q _ => ∃ (S : Sk) (z : Str) (n : Nat), vs = [.ref S.d, .str z, .int n] ∧ SkAt H S ∧ IsWay z ∧ 1 ≤ n ∧ n ≤ 12 ∧ ∀ H', SkAt H' S → KeepS S H H' → Q (.bl true) H'
def spLref18 : Sp := fun vs H Q _ => ∃ (S : Sk) (z : Str) (o : Addr) (n : Nat) (ns : List Int), vs = [.ref S.d, .str z, .ref o] ∧ SkAt H S ∧ IsWay z ∧ H o = some (.lst (ns.map V.int)) ∧ o ≠ S.d ∧ IsOrd n ns ∧ 1 ≤ n ∧ n ≤ 12 ∧ ∀ H', SkAt H' S → KeepS S H H' → Q (.bl true) H'
def spLaw (K : PySem.W.Frag) : Sp := fun vs H Q _ => ∃ (a : Addr) (ns : List Int), vs = [.ref a] ∧ SqL K H a (ns.map V.int) ∧ ns.length ≤ 63 ∧ ∀ H', Q (.bl true) H'
theorem good_ints {n : Nat} {ns : List Int} (o : IsOrd n ns) (h1 : 1 ≤ n) (h2 : n ≤ 12) : GoodD (.list (ns.map PyData.int)) := ⟨ns, rfl, by rw [o.len]; exact o, by rw [o.len]; exact h1, by rw [o.len]; exact h2⟩
section
variable {P : Program} {w : World} {K : PySem.W.Frag} {mg : Str → Option Value} {base : Heap}
theorem scCaught18 : FnScope ["door", "way", "one", "r", "caught", "e"] ["door", "way", "one", "r"] (defScope s_law_caught) := ⟨rfl, rfl, rfl, by decide +kernel, rfl, by decide +kernel, by decide +kernel⟩
set_option maxHeartbeats 2000000 in
theorem ok_caught18 {f f1 f2 f3 cE : Addr} {c : Nat → Addr} {fd d1 d2 d3 : FuncData} {k : Nat} (T : Df K mg "_law_caught" s_law_caught ["door", "way", "one", "r"] f fd) (T_count_within : Df K mg "count_within" s_count_within ["way", "n", "r"] f1 d1) (T_count_at : Df K mg "count_at" s_count_at ["way", "n", "r"] f2 d2) (T_all_within : Df K mg "all_within" s_all_within ["way", "order", "r"] f3 d3) (G_count_within : FnOk P w K mg base (L2.CX P w) k f1 d1 ["way", "n", "r"] (spCntX (c 1) (c 4))) (G_count_at : FnOk P w K mg base (L2.CX P w) k f2 d2 ["way", "n", "r"] (spCntX (c 1) (c 4))) (G_all_within : FnOk P w K mg base (L2.CX P w) k f3 d3 ["way", "order", "r"] (spAllX (c 0) (c 1) (c 2) (c 4)))
    (g_OrderError : mg "OrderError" = some (.ref cE)) (xm : ∀ j, j = 0 ∨ j = 1 ∨ j = 2 ∨ j = 4 → PySem.W.exmOne K (.ref (c j)) (.ref cE) = some true) : FnOk P w K mg base CX0 (k + 1) f fd ["door", "way", "one", "r"] (spCaught18 c) := by
  refine T.F.ok scCaught18 (fun vs H Q E h => ?_) (fun cdv A outer s H vs Q E hr h => ?_)
  · obtain ⟨i, j, x, v, u, f, d, e, rfl, _⟩ := h
    rfl
  · obtain ⟨i, j, x, v, u, f, d, e, rfl, hf, hd, he, due, q⟩ := h
    refine ⟨_, 
      (pss_cons (ps_set (i := 4) scCaught18.nd rfl (.inl rfl) pe_non)
      (pss_cons (ps_try_k (i := 5) rfl rfl rfl scCaught18.nd rfl rfl ⟨by rfl, by decide, .inl g_OrderError⟩ takes0 (fun W pn xe tk po =>
        (pss_one (ps_if (pt_cmpR op_eq (pv 0) pe_int (nomark _))
          (pss_one (ps_expr (pe_callS G_count_within hr (by rfl) T_count_within.g T_count_within.F.kp T_count_within.b (fun σ => passAt tk σ) (pa_cons (pv 1) (pa_cons (pv 2) (pa_cons (pv 3) pa_nil))))))
          (pss_one (ps_if (pt_cmpR op_eq (pv 0) pe_int (nomark _))
            (pss_one (ps_expr (pe_callS G_count_at hr (by rfl) T_count_at.g T_count_at.F.kp T_count_at.b (fun σ => passAt tk σ) (pa_cons (pv 1) (pa_cons (pv 2) (pa_cons (pv 3) pa_nil))))))
            (pss_one (ps_expr (pe_callS G_all_within hr (by rfl) T_all_within.g T_all_within.F.kp T_all_within.b (fun σ => passAt tk σ) (pa_cons (pv 1) (pa_cons (pv 2) (pa_cons (pv 3) pa_nil))))))))))) (fun a oe cls d pn hz hf =>
        (pss_one (ps_set (i := 4) scCaught18.nd rfl (.inl rfl) (pv 5)))))
      (pss_one (ps_ret (pv 4))))), ?_⟩
    refine ⟨_, rfl, rfl, _, rfl, ?_⟩
    rcases (show i = 0 ∨ i = 1 ∨ i = 2 by unfold Due18 at due; omega) with rfl | rfl | rfl
    · refine iteT ⟨_, rfl, _, rfl, _, rfl, x, v, u, f, d, e, rfl, hf, hd, he, ?_⟩
      rcases due with ⟨_, ⟨rfl, nw⟩ | ⟨rfl, wy, nn⟩⟩ | ⟨z, _⟩
      · exact .inl ⟨nw, true, xm 1 (by decide), fun _ a na => ⟨_, rfl, _, rfl, q a _ upd_same (same_new na)⟩, fun z => absurd z.symm Bool.false_ne_true⟩
      · exact .inr ⟨wy, nn, true, xm 4 (by decide), fun _ a na => ⟨_, rfl, _, rfl, q a _ upd_same (same_new na)⟩, fun z => absurd z.symm Bool.false_ne_true⟩
      · omega
    · refine iteF ⟨_, rfl, rfl, _, rfl, iteT ⟨_, rfl, _, rfl, _, rfl, x, v, u, f, d, e, rfl, hf, hd, he, ?_⟩⟩
      rcases due with ⟨_, ⟨rfl, nw⟩ | ⟨rfl, wy, nn⟩⟩ | ⟨z, _⟩
      · exact .inl ⟨nw, true, xm 1 (by decide), fun _ a na => ⟨_, rfl, _, rfl, q a _ upd_same (same_new na)⟩, fun z => absurd z.symm Bool.false_ne_true⟩
      · exact .inr ⟨wy, nn, true, xm 4 (by decide), fun _ a na => ⟨_, rfl, _, rfl, q a _ upd_same (same_new na)⟩, fun z => absurd z.symm Bool.false_ne_true⟩
      · omega
    · refine iteF ⟨_, rfl, rfl, _, rfl, iteF ⟨_, rfl, _, rfl, _, rfl, x, v, u, f, d, e, rfl, hf, hd, he, ?_⟩⟩
      rcases due with ⟨z, _⟩ | ⟨_, ⟨rfl, ng⟩ | ⟨rfl, g, nw⟩ | ⟨rfl, g, wy, l⟩ | ⟨rfl, g, wy, l, nf⟩⟩
      · omega
      · exact .inl ⟨ng, fun H1 s1 => ⟨true, xm 0 (by decide), fun _ a na => ⟨_, rfl, _, rfl, q a _ upd_same (s1.trans (same_new na))⟩, fun z => absurd z.symm Bool.false_ne_true⟩⟩
      · exact .inr (.inl ⟨g, nw, fun H1 s1 => ⟨true, xm 1 (by decide), fun _ a na => ⟨_, rfl, _, rfl, q a _ upd_same (s1.trans (same_new na))⟩, fun z => absurd z.symm Bool.false_ne_true⟩⟩)
      · exact .inr (.inr (.inl ⟨g, wy, l, fun H1 s1 => ⟨true, xm 2 (by decide), fun _ a na => ⟨_, rfl, _, rfl, q a _ upd_same (s1.trans (same_new na))⟩, fun z => absurd z.symm Bool.false_ne_true⟩⟩))
      · exact .inr (.inr (.inr ⟨g, wy, l, nf, fun H1 s1 => ⟨true, xm 4 (by decide), fun _ a na => ⟨_, rfl, _, rfl, q a _ upd_same (s1.trans (same_new na))⟩, fun z => absurd z.symm Bool.false_ne_true⟩⟩))
theorem scRef18 : FnScope ["door", "way", "one", "r", "due", "kept", "caught"] ["door", "way", "one", "r", "due"] (defScope s_law_refused) := ⟨rfl, rfl, rfl, by decide +kernel, rfl, by decide +kernel, by decide +kernel⟩
set_option maxHeartbeats 2000000 in
theorem ok_ref18 {f f1 f2 : Addr} {c : Nat → Addr} {fd d1 d2 : FuncData} {k : Nat} (T : Df K mg "_law_refused" s_law_refused ["door", "way", "one", "r", "due"] f fd) (T__law_caught : Df K mg "_law_caught" s_law_caught ["door", "way", "one", "r"] f1 d1) (T__law_kinds : Df K mg "_law_kinds" s_law_kinds ["caught", "due"] f2 d2) (G__law_caught : FnOk P w K mg base CX0 k f1 d1 ["door", "way", "one", "r"] (spCaught18 c)) (G__law_kinds : FnOk P w K mg base CX0 k f2 d2 ["caught", "due"] (spKindsY K c)) (kd : ∀ j, j = 0 ∨ j = 1 ∨ j = 2 ∨ j = 4 → KdY K c (c j) j) (sy : SysAt base) (B : Bi mg) : FnG P w K mg base (k + 1) f fd ["door", "way", "one", "r", "due"] spRef18 := by
  refine okG T.F scRef18 (fun vs H Q E h => ?_) (fun cdv A outer s H vs Q E gA hr h => ?_)
  · obtain ⟨i, j, x, v, u, f, d, e, rfl, _⟩ := h
    rfl
  · obtain ⟨i, j, x, v, u, f, d, e, rfl, hf, hd, he, rf, rd, re, due, q⟩ := h
    have rl := rw_list (rws_cons rf (rws_cons rd (rws_cons re rws_nil)))
    refine ⟨_, 
      (pss_cons (ps_set (i := 5) scRef18.nd rfl (.inl rfl) (pe_callB (call_reprD gA hr sy) (by rfl) B.repr (by decide +kernel) (pa_cons (pe_lst (pa_cons (pv 1) (pa_cons (pv 2) (pa_cons (pv 3) pa_nil)))) pa_nil)))
      (pss_cons (ps_set (i := 6) scRef18.nd rfl (.inl rfl) (pe_call G__law_caught hr (by rfl) T__law_caught.g T__law_caught.F.kp T__law_caught.b .nil pass0 (pa_cons (pv 0) (pa_cons (pv 1) (pa_cons (pv 2) (pa_cons (pv 3) pa_nil))))))
      (pss_one (ps_ret (pe_and (pe_call G__law_kinds hr (by rfl) T__law_kinds.g T__law_kinds.F.kp T__law_kinds.b .nil pass0 (pa_cons (pv 6) (pa_cons (pv 4) pa_nil))) (pe_one (pe_cmpR op_eq (pe_callB (call_reprD gA hr sy) (by rfl) B.repr (by decide +kernel) (pa_cons (pe_lst (pa_cons (pv 1) (pa_cons (pv 2) (pa_cons (pv 3) pa_nil)))) pa_nil)) (pv 5) (nomark _)))))))), ?_⟩
    refine ⟨_, rfl, _, rfl, _, rfl, line_small (by show 3 ≤ 16777216; decide), fun p0 np0 => ?_⟩
    have s1 := same_new (o := .lst [x, v, u]) np0
    refine ⟨_, .list [f, d, e], _, rfl, .lst upd_same (.cons (hf.same s1) (.cons (hd.same s1) (.cons (he.same s1) .nil))), rl.rp (by decide), by decide, ?_⟩
    generalize upd H p0 (.lst [x, v, u]) = H1 at s1 ⊢
    generalize hk : PyData.shown (.list [f, d, e]) = kept
    refine ⟨_, rfl, _, rfl, _, rfl, _, rfl, i, j, x, v, u, f, d, e, rfl, hf.same s1, hd.same s1, he.same s1, due, fun a H2 ha s2 => ?_⟩
    refine ⟨_, rfl, _, rfl, a, c j, j, rfl, ha, kd j (due18_lt due), fun H3 s3 => ⟨_, rfl, iteT ?_⟩⟩
    have s13 := (s1.trans s2).trans s3
    refine ⟨_, rfl, _, rfl, _, rfl, line_small (by show 3 ≤ 16777216; decide), fun p6 np6 => ?_⟩
    have u6 := same_new (o := .lst [x, v, u]) np6
    have s16 := s13.trans u6
    refine ⟨_, .list [f, d, e], _, rfl, .lst upd_same (.cons (hf.same s16) (.cons (hd.same s16) (.cons (he.same s16) .nil))), rl.rp (by decide), by decide, ?_⟩
    refine ⟨_, rfl, rfl, ?_⟩
    rw [hk, decide_eq_true rfl]
    exact q _ s16
end
theorem oe_noway {S : Sk} {σ : L2.St} {H : Hp} {i j : Nat} {z : Str} (e1 : σ[i]? = some (some (.ref S.d))) (e2 : σ[j]? = some (some (.str z))) (hz : IsWay z) : OE (srcSk S) (tCall spNoWay18 [] E0 (tCons (tVar i) (tCons (tVar j) tNil))) σ H 100000 5 (fun d => ¬ WayD d) := fun H1 Q k1 at1 q =>
  ⟨_, e1, _, e2, S, z, rfl, at1, hz, fun v H2 o at2 k2 => q v H2 k2 at2 o⟩
theorem oe_noord {S : Sk} {σ : L2.St} {H : Hp} {i j : Nat} {o : Addr} {n : Nat} {ns : List Int} (e1 : σ[i]? = some (some (.ref S.d))) (e2 : σ[j]? = some (some (.ref o))) (ho : H o = some (.lst (ns.map V.int))) (no : o ≠ S.d) (or : IsOrd n ns) (h1 : 1 ≤ n) (h2 : n ≤ 12) : OE (srcSk S) (tCall spNoOrd18 [] E0 (tCons (tVar i) (tCons (tVar j) tNil))) σ H 100000 5 (fun d => ¬ GoodD d) := fun H1 Q k1 at1 q =>
  ⟨_, e1, _, e2, S, o, n, ns, rfl, at1, k1 _ _ ho no, no, or, h1, h2, fun v H2 o at2 k2 => q v H2 k2 at2 o⟩
theorem rw_pair {m k : Nat} {p q : PyData} (h : Rw m k (.tuple [p, q])) : Rw m k p ∧ Rw m k q := by
  have h1 := h.s
  have h2 := h.l
  have h3 := h.d
  rw [PyData.showable, PyData.showableAll, PyData.showableAll, PyData.showableAll, Bool.and_true, Bool.and_eq_true] at h1
  rw [wt, wtL, wtL, wtL] at h2
  rw [PyData.depth, PyData.depthAll, PyData.depthAll, PyData.depthAll] at h3
  exact ⟨⟨h1.1, by omega, by omega⟩, ⟨h1.2, by omega, by omega⟩⟩
section
variable {P : Program} {w : World} {K : PySem.W.Frag} {mg : Str → Option Value} {base : Heap}
theorem scCref18 : FnScope ["store", "way", "n", "odd", "bad", "wrong", "other", "door", "one", "r"] ["store", "way", "n"] (defScope s_law_counts_refused) := ⟨rfl, rfl, rfl, by decide +kernel, rfl, by decide +kernel, by decide +kernel⟩
set_option maxHeartbeats 4000000 in
theorem ok_cref18 {f f1 f2 f3 : Addr} {fd d1 d2 d3 : FuncData} {k : Nat} (T : Df K mg "_law_counts_refused" s_law_counts_refused ["store", "way", "n"] f fd) (T__law_take : Df K mg "_law_take" s_law_take ["store", "many"] f1 d1) (T__law_no_way : Df K mg "_law_no_way" s_law_no_way ["store", "way"] f2 d2) (T__law_refused : Df K mg "_law_refused" s_law_refused ["door", "way", "one", "r", "due"] f3 d3) (G__law_take : FnOk P w K mg base CX0 k f1 d1 ["store", "many"] spTake) (G__law_no_way : FnOk P w K mg base CX0 k f2 d2 ["store", "way"] spNoWay18) (G__law_refused : FnG P w K mg base k f3 d3 ["door", "way", "one", "r", "due"] spRef18) (B : Bi mg) : FnG P w K mg base (k + 1) f fd ["store", "way", "n"] spCref18 := by
  refine okG T.F scCref18 (fun vs H Q E h => ?_) (fun cdv A outer s H vs Q E gA hr h => ?_)
  · obtain ⟨S, z, n, rfl, _⟩ := h
    rfl
  · obtain ⟨S, z, n, rfl, D0, hz, hn1, hn2, q⟩ := h
    obtain ⟨t_way, _, _, _⟩ := way_tx hz
    have wy : WayD (.str z) := ⟨z, rfl, hz⟩
    have o_way : Od (srcSk S) 52 0 (oX 5 fun x => x = z) H (.str z) := od_of_tx t_way rfl
    have o_n : Od (srcSk S) 110 0 (oI fun i => i = (n : Int)) H (.int n) := od_of_int (by omega) rfl
    have kk : (srcSk S).Kp H H := (srcSk S).refl H
    refine ⟨_, 
      (pss_cons (ps_set (i := 3) scCref18.nd rfl (.inl rfl) (pe_lst (pa_cons pe_int (pa_cons pe_int (pa_cons (pe_un un_neg pe_int) (pa_cons pe_bl (pa_cons pe_bl (pa_cons pe_non (pa_cons pe_str (pa_cons (pe_lst (pa_cons pe_int pa_nil)) (pa_cons (pe_tup (pa_cons pe_int pa_nil)) (pa_cons pe_dnewK (pa_cons (pe_op op_pow pe_int pe_int) (pa_cons (pe_op op_add pe_int (pe_call G__law_take hr (by rfl) T__law_take.g T__law_take.F.kp T__law_take.b .nil pass0 (pa_cons (pv 0) (pa_cons pe_int pa_nil)))) (pa_cons pe_str pa_nil)))))))))))))))
      (pss_cons (ps_set (i := 4) scCref18.nd rfl (.inl rfl) (pe_ix ix_list (pv 3) (pe_call G__law_take hr (by rfl) T__law_take.g T__law_take.F.kp T__law_take.b .nil pass0 (pa_cons (pv 0) (pa_cons pe_int pa_nil))) (fun _ _ => rfl)))
      (pss_cons (ps_set (i := 5) scCref18.nd rfl (.inl rfl) (pe_lst (pa_cons (pe_un un_neg pe_int) (pa_cons pe_bl (pa_cons pe_bl (pa_cons pe_non (pa_cons pe_str (pa_cons (pe_lst (pa_cons pe_int pa_nil)) (pa_cons (pe_tup (pa_cons pe_int pa_nil)) (pa_cons pe_dnewK (pa_cons (pe_op op_sub (pe_un un_neg pe_int) (pe_call G__law_take hr (by rfl) T__law_take.g T__law_take.F.kp T__law_take.b .nil pass0 (pa_cons (pv 0) (pa_cons pe_int pa_nil)))) (pa_cons (pe_op op_sub pe_int (pe_op op_pow pe_int pe_int)) pa_nil))))))))))))
      (pss_cons (ps_set (i := 5) scCref18.nd rfl (.inl rfl) (pe_ix ix_list (pv 5) (pe_call G__law_take hr (by rfl) T__law_take.g T__law_take.F.kp T__law_take.b .nil pass0 (pa_cons (pv 0) (pa_cons pe_int pa_nil))) (fun _ _ => rfl)))
      (pss_cons (ps_set (i := 6) scCref18.nd rfl (.inl rfl) (pe_call G__law_no_way hr (by rfl) T__law_no_way.g T__law_no_way.F.kp T__law_no_way.b .nil pass0 (pa_cons (pv 0) (pa_cons (pv 1) pa_nil))))
      (pss_cons (ps_for PassesOwn.never rfl (pi_range1 (by rfl) B.range (pa_cons pe_int pa_nil)) (pg_name (i := 7) scCref18.nd rfl (.inl rfl))
        (pss_cons (ps_for PassesOwn.never rfl (pi_list (pe_lst (pa_cons (pe_tup (pa_cons (pv 2) (pa_cons pe_int pa_nil))) (pa_cons (pe_tup (pa_cons (pv 4) (pa_cons pe_int pa_nil))) (pa_cons (pe_tup (pa_cons (pv 2) (pa_cons (pv 5) pa_nil))) (pa_cons (pe_tup (pa_cons (pv 4) (pa_cons (pv 5) pa_nil))) pa_nil)))))) (pg_tup (by rfl) (pgs_cons (pg_name (i := 8) scCref18.nd rfl (.inl rfl)) (pgs_cons (pg_name (i := 9) scCref18.nd rfl (.inl rfl)) pgs_nil)))
          (pss_one (ps_if (pt_not (pt_val (pe_callG G__law_refused gA hr (by rfl) T__law_refused.g T__law_refused.F.kp T__law_refused.b (pa_cons (pv 7) (pa_cons (pv 6) (pa_cons (pv 8) (pa_cons (pv 9) (pa_cons pe_int pa_nil))))))))
            (pss_one (ps_ret pe_bl))
            pss_nil)))
        (pss_one (ps_for PassesOwn.never rfl (pi_list (pe_lst (pa_cons (pe_tup (pa_cons (pv 4) (pa_cons pe_int pa_nil))) (pa_cons (pe_tup (pa_cons (pv 2) (pa_cons (pv 5) pa_nil))) (pa_cons (pe_tup (pa_cons (pv 4) (pa_cons (pv 5) pa_nil))) pa_nil))))) (pg_tup (by rfl) (pgs_cons (pg_name (i := 8) scCref18.nd rfl (.inl rfl)) (pgs_cons (pg_name (i := 9) scCref18.nd rfl (.inl rfl)) pgs_nil)))
          (pss_one (ps_if (pt_not (pt_val (pe_callG G__law_refused gA hr (by rfl) T__law_refused.g T__law_refused.F.kp T__law_refused.b (pa_cons (pv 7) (pa_cons (pv 1) (pa_cons (pv 8) (pa_cons (pv 9) (pa_cons pe_int pa_nil))))))))
            (pss_one (ps_ret pe_bl))
            pss_nil))))))
      (pss_one (ps_ret pe_bl)))))))), ?_⟩
    refine os_set (S := srcSk S) D0 (oe_lst (oa_consN (oe_intI (by decide)) (by grind [SizeD]) (oa_consN (oe_intI (by decide)) (by grind [SizeD]) (oa_consN (oe_neg (oe_intI (by decide)) (by grind)) (by grind [SizeD]) (oa_consN (oe_bl true) (by grind [SizeD]) (oa_consN (oe_bl false) (by grind [SizeD]) (oa_consN oe_non (by grind [SizeD]) (oa_consN (oe_tx 1 ⟨by decide +kernel, by decide +kernel⟩) (by grind [SizeD]) (oa_consN (oe_lst (oa_cons (oe_intI (by decide)) oa_nil) (by decide)) (by grind [SizeD]) (oa_consN (oe_tup (oa_cons (oe_intI (by decide)) oa_nil) (by decide)) (by grind [SizeD]) (oa_consN oe_d0 (by grind [SizeD]) (oa_consN (oe_pow ⟨by decide, by decide, by decide⟩ ⟨by decide, by decide⟩) (by grind [SizeD]) (oa_consN (oe_add (oe_intI (by decide)) (oe_takeC rfl (by decide)) (by grind)) (by grind [SizeD]) (oa_consN (oe_tx 0 ⟨by decide +kernel, by decide +kernel⟩) (by grind [SizeD]) (oa_nilN (fun d => ¬ SizeD 12 d))))))))))))))) (by decide)) fun x1 H1 k1 D1 o_odd => ?_
    replace o_way := o_way.kp k1
    replace o_n := o_n.kp k1
    replace kk := (srcSk S).trans kk k1
    refine os_set (S := srcSk S) D1 (oe_ix (oe_v rfl o_odd) (oe_takeC rfl (by decide)) (by grind)) fun x2 H2 k2 D2 o_bad => ?_
    replace o_way := o_way.kp k2
    replace o_n := o_n.kp k2
    replace kk := (srcSk S).trans kk k2
    refine os_set (S := srcSk S) D2 (oe_lst (oa_consN (oe_neg (oe_intI (by decide)) (by grind)) (by grind [FromD]) (oa_consN (oe_bl true) (by grind [FromD]) (oa_consN (oe_bl false) (by grind [FromD]) (oa_consN oe_non (by grind [FromD]) (oa_consN (oe_tx 1 ⟨by decide +kernel, by decide +kernel⟩) (by grind [FromD]) (oa_consN (oe_lst (oa_cons (oe_intI (by decide)) oa_nil) (by decide)) (by grind [FromD]) (oa_consN (oe_tup (oa_cons (oe_intI (by decide)) oa_nil) (by decide)) (by grind [FromD]) (oa_consN oe_d0 (by grind [FromD]) (oa_consN (oe_sub (oe_neg (oe_intI (by decide)) (by grind)) (oe_takeC rfl (by decide)) (by grind)) (by grind [FromD]) (oa_consN (oe_sub (oe_intI (by decide)) (oe_pow ⟨by decide, by decide, by decide⟩ ⟨by decide, by decide⟩) (by grind)) (by grind [FromD]) (oa_nilN (fun d => ¬ FromD 0 d)))))))))))) (by decide)) fun x3 H3 k3 D3 o_wrong => ?_
    replace o_way := o_way.kp k3
    replace o_n := o_n.kp k3
    replace o_bad := o_bad.kp k3
    replace kk := (srcSk S).trans kk k3
    refine os_set (S := srcSk S) D3 (oe_ix (oe_v rfl o_wrong) (oe_takeC rfl (by decide)) (by grind)) fun x4 H4 k4 D4 o_wrong => ?_
    replace o_way := o_way.kp k4
    replace o_n := o_n.kp k4
    replace o_bad := o_bad.kp k4
    replace kk := (srcSk S).trans kk k4
    refine os_set (S := srcSk S) D4 (oe_noway rfl rfl hz) fun x5 H5 k5 D5 o_other => ?_
    replace o_way := o_way.kp k5
    replace o_n := o_n.kp k5
    replace o_bad := o_bad.kp k5
    replace o_wrong := o_wrong.kp k5
    replace kk := (srcSk S).trans kk k5
    refine ⟨2, rfl, by decide, by decide, ?_⟩
    refine for_range (n := 2) (fun i σ H7 => (∃ y7 y8 y9, σ = [some (.ref S.d), some (.str z), some (.int n), some x1, some x2, some x4, some x5, y7, y8, y9]) ∧ SkAt H7 S ∧ KeepS S H5 H7) ⟨⟨none, none, none, rfl⟩, D5, (srcSk S).refl _⟩ (fun i σ H7 hi hW => ?_) (fun σ H7 hW => ?_)
    · obtain ⟨⟨y7, y8, y9, rfl⟩, D7, k7⟩ := hW
      have i01 : (0 : Int) + i = 0 ∨ (0 : Int) + i = 1 := by omega
      have o_n := o_n.kp k7
      have o_bad := o_bad.kp k7
      have o_wrong := o_wrong.kp k7
      have o_other := o_other.kp k7
      refine of_list (S := srcSk S) D7 (oe_lst (oa_consN (oe_tup (oa_cons (oe_v rfl o_n) (oa_cons (oe_intI (by decide)) oa_nil)) (by decide)) (by (rintro _ ⟨_, rfl, _, _, rfl, h1, _, _, rfl, h2, rfl⟩; exact ⟨_, _, rfl⟩)) (oa_consN (oe_tup (oa_cons (oe_v rfl o_bad) (oa_cons (oe_intI (by decide)) oa_nil)) (by decide)) (by (rintro _ ⟨_, rfl, _, _, rfl, h1, _, _, rfl, h2, rfl⟩; exact ⟨_, _, rfl⟩)) (oa_consN (oe_tup (oa_cons (oe_v rfl o_n) (oa_cons (oe_v rfl o_wrong) oa_nil)) (by decide)) (by (rintro _ ⟨_, rfl, _, _, rfl, h1, _, _, rfl, h2, rfl⟩; exact ⟨_, _, rfl⟩)) (oa_consN (oe_tup (oa_cons (oe_v rfl o_bad) (oa_cons (oe_v rfl o_wrong) oa_nil)) (by decide)) (by (rintro _ ⟨_, rfl, _, _, rfl, h1, _, _, rfl, h2, rfl⟩; exact ⟨_, _, rfl⟩)) (oa_nilN (fun d => ∃ p q, d = .tuple [p, q])))))) (by decide)) (fun σ' H8 => ∃ y8 y9, σ' = [some (.ref S.d), some (.str z), some (.int n), some x1, some x2, some x4, some x5, some (.int (0 + (i : Int))), y8, y9]) (fun _ _ _ => ⟨_, _, rfl⟩) (fun σ' H8 x d N hP k8 D8 hd rd hA hN => ?_) (fun σ' H8 hP k8 D8 => ?_)
      · obtain ⟨y8, y9, rfl⟩ := hP
        obtain ⟨ds, ⟨_, hC⟩, md⟩ := hA
        obtain ⟨p, r, rfl⟩ := hC d md
        obtain ⟨r1, r2⟩ := rw_pair rd
        obtain ⟨f0, hf0, rf0, bf0⟩ := o_other.kp k8
        refine og_pair hd fun v w h1 h2 => ?_
        refine ⟨_, rfl, _, rfl, _, rfl, _, rfl, 0 + (i : Int), 1, x5, v, w, f0, p, r, rfl, hf0.same ((srcSk S).le _), h1.same ((srcSk S).le _), h2.same ((srcSk S).le _), rf0.mono (by decide) (by decide), r1.mono (by decide) (by decide), r2.mono (by decide) (by decide), .inl ⟨i01, .inl ⟨rfl, bf0⟩⟩, fun H9 s9 => ⟨_, rfl, iteF ?_⟩⟩
        obtain ⟨D9, k9⟩ := (srcSk S).same D8 s9
        exact hN _ _ ⟨_, _, rfl⟩ k9 D9
      · obtain ⟨y8, y9, rfl⟩ := hP
        have o_n := o_n.kp k8
        have o_bad := o_bad.kp k8
        have o_wrong := o_wrong.kp k8
        refine of_list (S := srcSk S) D8 (oe_lst (oa_consN (oe_tup (oa_cons (oe_v rfl o_bad) (oa_cons (oe_intI (by decide)) oa_nil)) (by decide)) (by (rintro _ ⟨_, rfl, _, _, rfl, h1, _, _, rfl, h2, rfl⟩; first | exact ⟨_, _, rfl, fun z => h1 z.1⟩ | exact ⟨_, _, rfl, fun z => h2 z.2⟩)) (oa_consN (oe_tup (oa_cons (oe_v rfl o_n) (oa_cons (oe_v rfl o_wrong) oa_nil)) (by decide)) (by (rintro _ ⟨_, rfl, _, _, rfl, h1, _, _, rfl, h2, rfl⟩; first | exact ⟨_, _, rfl, fun z => h1 z.1⟩ | exact ⟨_, _, rfl, fun z => h2 z.2⟩)) (oa_consN (oe_tup (oa_cons (oe_v rfl o_bad) (oa_cons (oe_v rfl o_wrong) oa_nil)) (by decide)) (by (rintro _ ⟨_, rfl, _, _, rfl, h1, _, _, rfl, h2, rfl⟩; first | exact ⟨_, _, rfl, fun z => h1 z.1⟩ | exact ⟨_, _, rfl, fun z => h2 z.2⟩)) (oa_nilN (fun d => ∃ p q, d = .tuple [p, q] ∧ ¬ (SizeD 12 p ∧ FromD 0 q)))))) (by decide)) (fun σ' H8 => ∃ y8 y9, σ' = [some (.ref S.d), some (.str z), some (.int n), some x1, some x2, some x4, some x5, some (.int (0 + (i : Int))), y8, y9]) (fun _ _ _ => ⟨_, _, rfl⟩) (fun σ' H9 x d N hP k9 D9 hd rd hA hN => ?_) (fun σ' H9 hP k9 D9 => ?_)
        · obtain ⟨y8, y9, rfl⟩ := hP
          obtain ⟨ds, ⟨_, hC⟩, md⟩ := hA
          obtain ⟨p, r, rfl, nn⟩ := hC d md
          obtain ⟨r1, r2⟩ := rw_pair rd
          refine og_pair hd fun v w h1 h2 => ?_
          refine ⟨_, rfl, _, rfl, _, rfl, _, rfl, 0 + (i : Int), 4, .str z, v, w, .str z, p, r, rfl, .str z, h1.same ((srcSk S).le _), h2.same ((srcSk S).le _), t_way.rw.mono (by decide) (by decide), r1.mono (by decide) (by decide), r2.mono (by decide) (by decide), .inl ⟨i01, .inr ⟨rfl, wy, nn⟩⟩, fun H10 s10 => ⟨_, rfl, iteF ?_⟩⟩
          obtain ⟨D10, k10⟩ := (srcSk S).same D9 s10
          exact hN _ _ ⟨_, _, rfl⟩ k10 D10
        · obtain ⟨y8, y9, rfl⟩ := hP
          exact ⟨⟨_, _, _, rfl⟩, D9, (srcSk S).trans k7 ((srcSk S).trans k8 k9)⟩
    · exact q _ hW.2.1 ((srcSk S).trans kk hW.2.2)
theorem scLref18 : FnScope ["store", "way", "order", "bad", "other", "wrong", "some", "r"] ["store", "way", "order"] (defScope s_law_lists_refused) := ⟨rfl, rfl, rfl, by decide +kernel, rfl, by decide +kernel, by decide +kernel⟩
set_option maxHeartbeats 4000000 in
theorem ok_lref18 {f f1 f2 f3 f4 : Addr} {fd d1 d2 d3 d4 : FuncData} {k : Nat} (T : Df K mg "_law_lists_refused" s_law_lists_refused ["store", "way", "order"] f fd) (T__law_take : Df K mg "_law_take" s_law_take ["store", "many"] f1 d1) (T__law_no_way : Df K mg "_law_no_way" s_law_no_way ["store", "way"] f2 d2) (T__law_refused : Df K mg "_law_refused" s_law_refused ["door", "way", "one", "r", "due"] f3 d3) (T__law_no_order : Df K mg "_law_no_order" s_law_no_order ["store", "order"] f4 d4) (G__law_take : FnOk P w K mg base CX0 k f1 d1 ["store", "many"] spTake) (G__law_no_way : FnOk P w K mg base CX0 k f2 d2 ["store", "way"] spNoWay18) (G__law_refused : FnG P w K mg base k f3 d3 ["door", "way", "one", "r", "due"] spRef18) (G__law_no_order : FnOk P w K mg base CX0 k f4 d4 ["store", "order"] spNoOrd18) (B : Bi mg) : FnG P w K mg base (k + 1) f fd ["store", "way", "order"] spLref18 := by
  refine okG T.F scLref18 (fun vs H Q E h => ?_) (fun cdv A outer s H vs Q E gA hr h => ?_)
  · obtain ⟨S, z, o, n, ns, rfl, _⟩ := h
    rfl
  · obtain ⟨S, z, o, n, ns, rfl, D0, hz, ho, no, or, hn1, hn2, q⟩ := h
    obtain ⟨t_way, _, _, _⟩ := way_tx hz
    have wy : WayD (.str z) := ⟨z, rfl, hz⟩
    have g := good_ints or hn1 hn2
    have hlen : ns.length = n := or.len
    have o_way : Od (srcSk S) 52 0 (oX 5 fun x => x = z) H (.str z) := od_of_tx t_way rfl
    have kk : (srcSk S).Kp H H := (srcSk S).refl H
    have hns : ∀ x ∈ ns, -big26 ≤ x ∧ x ≤ big26 := fun x hx => by have := or.mem hx; unfold big26; omega
    have o_order : Od (srcSk S) (12 * 112 + 2) 1 (oL fun ds => ds = ns.map PyData.int) H (.ref o) := od_ints (by show cutK S H o = _; rw [cutK_ne no]; exact ho) hns (by omega)
    refine ⟨_, 
      (pss_cons (ps_set (i := 3) scLref18.nd rfl (.inl rfl) (pe_call G__law_no_order hr (by rfl) T__law_no_order.g T__law_no_order.F.kp T__law_no_order.b .nil pass0 (pa_cons (pv 0) (pa_cons (pv 2) pa_nil))))
      (pss_cons (ps_set (i := 4) scLref18.nd rfl (.inl rfl) (pe_call G__law_no_way hr (by rfl) T__law_no_way.g T__law_no_way.F.kp T__law_no_way.b .nil pass0 (pa_cons (pv 0) (pa_cons (pv 1) pa_nil))))
      (pss_cons (ps_set (i := 5) scLref18.nd rfl (.inl rfl) (pe_ix ix_list (pe_lst (pa_cons (pe_un un_neg pe_int) (pa_cons pe_bl (pa_cons pe_non (pa_cons pe_str (pa_cons (pe_lst (pa_cons pe_int pa_nil)) (pa_cons pe_dnewK (pa_cons (pe_op op_sub (pe_un un_neg pe_int) (pe_call G__law_take hr (by rfl) T__law_take.g T__law_take.F.kp T__law_take.b .nil pass0 (pa_cons (pv 0) (pa_cons pe_int pa_nil)))) (pa_cons pe_bl pa_nil))))))))) (pe_call G__law_take hr (by rfl) T__law_take.g T__law_take.F.kp T__law_take.b .nil pass0 (pa_cons (pv 0) (pa_cons pe_int pa_nil))) (fun _ _ => rfl)))
      (pss_cons (ps_for PassesOwn.never rfl (pi_list (pe_lst (pa_cons (pe_tup (pa_cons (pv 1) (pa_cons pe_int pa_nil))) (pa_cons (pe_tup (pa_cons (pv 4) (pa_cons pe_int pa_nil))) (pa_cons (pe_tup (pa_cons (pv 1) (pa_cons (pv 5) pa_nil))) (pa_cons (pe_tup (pa_cons (pv 4) (pa_cons (pv 5) pa_nil))) pa_nil)))))) (pg_tup (by rfl) (pgs_cons (pg_name (i := 6) scLref18.nd rfl (.inl rfl)) (pgs_cons (pg_name (i := 7) scLref18.nd rfl (.inl rfl)) pgs_nil)))
        (pss_one (ps_if (pt_not (pt_val (pe_callG G__law_refused gA hr (by rfl) T__law_refused.g T__law_refused.F.kp T__law_refused.b (pa_cons pe_int (pa_cons (pv 6) (pa_cons (pv 3) (pa_cons (pv 7) (pa_cons pe_int pa_nil))))))))
          (pss_one (ps_ret pe_bl))
          pss_nil)))
      (pss_cons (ps_if (PW.pt (pw_or (pt_not (pt_val (pe_callG G__law_refused gA hr (by rfl) T__law_refused.g T__law_refused.F.kp T__law_refused.b (pa_cons pe_int (pa_cons (pv 4) (pa_cons (pv 2) (pa_cons pe_int (pa_cons pe_int pa_nil)))))))) (pw_or1 (pt_not (pt_val (pe_callG G__law_refused gA hr (by rfl) T__law_refused.g T__law_refused.F.kp T__law_refused.b (pa_cons pe_int (pa_cons (pv 4) (pa_cons (pv 2) (pa_cons (pv 5) (pa_cons pe_int pa_nil)))))))))))
        (pss_one (ps_ret pe_bl))
        pss_nil)
      (pss_cons (ps_if (pt_cmpR op_gt (pe_callB call_len_seq (by rfl) B.len PySem.boot_len (pa_cons (pv 2) pa_nil)) pe_int (nomark _))
        (pss_one (ps_ret (pe_and (pe_callG G__law_refused gA hr (by rfl) T__law_refused.g T__law_refused.F.kp T__law_refused.b (pa_cons pe_int (pa_cons (pv 1) (pa_cons (pv 2) (pa_cons pe_int (pa_cons pe_int pa_nil)))))) (pe_one (pe_callG G__law_refused gA hr (by rfl) T__law_refused.g T__law_refused.F.kp T__law_refused.b (pa_cons pe_int (pa_cons (pv 1) (pa_cons (pv 2) (pa_cons (pv 5) (pa_cons pe_int pa_nil))))))))))
        pss_nil)
      (pss_one (ps_ret (pe_callG G__law_refused gA hr (by rfl) T__law_refused.g T__law_refused.F.kp T__law_refused.b (pa_cons pe_int (pa_cons (pv 1) (pa_cons (pv 2) (pa_cons (pv 5) (pa_cons pe_int pa_nil)))))))))))))), ?_⟩
    refine os_set (S := srcSk S) D0 (oe_noord rfl rfl ho no or hn1 hn2) fun x1 H1 k1 D1 o_bad => ?_
    replace o_way := o_way.kp k1
    replace o_order := o_order.kp k1
    replace kk := (srcSk S).trans kk k1
    refine os_set (S := srcSk S) D1 (oe_noway rfl rfl hz) fun x2 H2 k2 D2 o_other => ?_
    replace o_way := o_way.kp k2
    replace o_order := o_order.kp k2
    replace o_bad := o_bad.kp k2
    replace kk := (srcSk S).trans kk k2
    refine os_set (S := srcSk S) D2 (oe_ix (oe_lst (oa_consN (oe_neg (oe_intI (by decide)) (by grind)) (by grind [FromD]) (oa_consN (oe_bl true) (by grind [FromD]) (oa_consN oe_non (by grind [FromD]) (oa_consN (oe_tx 1 ⟨by decide +kernel, by decide +kernel⟩) (by grind [FromD]) (oa_consN (oe_lst (oa_cons (oe_intI (by decide)) oa_nil) (by decide)) (by grind [FromD]) (oa_consN oe_d0 (by grind [FromD]) (oa_consN (oe_sub (oe_neg (oe_intI (by decide)) (by grind)) (oe_takeC rfl (by decide)) (by grind)) (by grind [FromD]) (oa_consN (oe_bl false) (by grind [FromD]) (oa_nilN (fun d => ¬ FromD 0 d)))))))))) (by decide)) (oe_takeC rfl (by decide)) (by grind)) fun x3 H3 k3 D3 o_wrong => ?_
    replace o_way := o_way.kp k3
    replace o_order := o_order.kp k3
    replace o_bad := o_bad.kp k3
    replace o_other := o_other.kp k3
    replace kk := (srcSk S).trans kk k3
    refine of_list (S := srcSk S) D3 (oe_lst (oa_consN (oe_tup (oa_cons (oe_v rfl o_way) (oa_cons (oe_intI (by decide)) oa_nil)) (by decide)) (by (rintro _ ⟨_, rfl, _, _, rfl, h1, _, _, rfl, h2, rfl⟩; exact ⟨_, _, rfl⟩)) (oa_consN (oe_tup (oa_cons (oe_v rfl o_other) (oa_cons (oe_intI (by decide)) oa_nil)) (by decide)) (by (rintro _ ⟨_, rfl, _, _, rfl, h1, _, _, rfl, h2, rfl⟩; exact ⟨_, _, rfl⟩)) (oa_consN (oe_tup (oa_cons (oe_v rfl o_way) (oa_cons (oe_v rfl o_wrong) oa_nil)) (by decide)) (by (rintro _ ⟨_, rfl, _, _, rfl, h1, _, _, rfl, h2, rfl⟩; exact ⟨_, _, rfl⟩)) (oa_consN (oe_tup (oa_cons (oe_v rfl o_other) (oa_cons (oe_v rfl o_wrong) oa_nil)) (by decide)) (by (rintro _ ⟨_, rfl, _, _, rfl, h1, _, _, rfl, h2, rfl⟩; exact ⟨_, _, rfl⟩)) (oa_nilN (fun d => ∃ p q, d = .tuple [p, q])))))) (by decide)) (fun σ' H8 => ∃ y6 y7, σ' = [some (.ref S.d), some (.str z), some (.ref o), some x1, some x2, some x3, y6, y7]) (fun _ _ _ => ⟨none, none, rfl⟩) (fun σ' H8 x d N hP k8 D8 hd rd hA hN => ?_) (fun σ' H8 hP k8 D8 => ?_)
    · obtain ⟨y8, y9, rfl⟩ := hP
      obtain ⟨ds, ⟨_, hC⟩, md⟩ := hA
      obtain ⟨p, r, rfl⟩ := hC d md
      obtain ⟨r1, r2⟩ := rw_pair rd
      obtain ⟨f0, hf0, rf0, bf0⟩ := o_bad.kp k8
      refine og_pair hd fun v w h1 h2 => ?_
      refine ⟨_, rfl, _, rfl, _, rfl, 2, 0, v, x1, w, p, f0, r, rfl, h1.same ((srcSk S).le _), hf0.same ((srcSk S).le _), h2.same ((srcSk S).le _), r1.mono (by decide) (by decide), rf0.mono (by decide) (by decide), r2.mono (by decide) (by decide), .inr ⟨rfl, .inl ⟨rfl, bf0⟩⟩, fun H9 s9 => ⟨_, rfl, iteF ?_⟩⟩
      obtain ⟨D9, k9⟩ := (srcSk S).same D8 s9
      exact hN _ _ ⟨_, _, rfl⟩ k9 D9
    · obtain ⟨y8, y9, rfl⟩ := hP
      obtain ⟨e0, he0, re0, be0⟩ := o_other.kp k8
      obtain ⟨w0, hw0, rw0, bw0⟩ := o_wrong.kp k8
      obtain ⟨_, hd0, rd0, _, rfl, rfl⟩ := o_order.kp k8
      have he0 := he0.same ((srcSk S).le _)
      have hw0 := hw0.same ((srcSk S).le _)
      have hd0 := hd0.same ((srcSk S).le _)
      have rd0 := rd0.mono (m' := 1000000) (k' := 10) (by decide) (by decide)
      have rw0 := rw0.mono (m' := 1000000) (k' := 10) (by decide) (by decide)
      have rn : Rw 1000000 10 (.int 0) := (rw_int (by decide) (by decide)).mono (by decide) (by decide)
      have rz : Rw 1000000 10 (.str z) := t_way.rw.mono (by decide) (by decide)
      refine ⟨_, rfl, _, rfl, 2, 1, x2, .ref o, .int 0, e0, _, .int 0, rfl, he0, hd0, .int 0, re0.mono (by decide) (by decide), rd0, rn, .inr ⟨rfl, .inr (.inl ⟨rfl, g, be0⟩)⟩, fun H9 s9 => ⟨_, rfl, iteF ?_⟩⟩
      refine ⟨_, rfl, _, rfl, _, rfl, 2, 1, x2, .ref o, x3, e0, _, w0, rfl, he0.same s9, hd0.same s9, hw0.same s9, re0.mono (by decide) (by decide), rd0, rw0, .inr ⟨rfl, .inr (.inl ⟨rfl, g, be0⟩)⟩, fun H10 s10 => ⟨_, rfl, iteF ?_⟩⟩
      have s910 := s9.trans s10
      have fin : ∀ H', Same H8 H' → Q (.bl true) H' := fun H' s' => by
        obtain ⟨D', k'⟩ := (srcSk S).same D8 s'
        exact q _ D' ((srcSk S).trans kk ((srcSk S).trans k8 k'))
      have hl : lenD (.list (ns.map PyData.int)) = n := by show (ns.map PyData.int).length = n; rw [List.length_map, hlen]
      refine ⟨_, rfl, o, _, rfl, .inl (SqL.of (s910 _ _ (k8 _ _ ((kk) _ _ ho no) no))), _, _, rfl, rfl, _, rfl, ?_⟩
      rw [List.length_map, hlen]
      by_cases c : (6 : Int) < (n : Int)
      · rw [decide_eq_true c]
        refine iteT ⟨_, rfl, _, rfl, 2, 2, .str z, .ref o, .int 0, .str z, _, .int 0, rfl, .str z, hd0.same s910, .int 0, rz, rd0, rn, .inr ⟨rfl, .inr (.inr (.inl ⟨rfl, g, wy, by rw [hl]; omega⟩))⟩, fun H11 s11 => ⟨_, rfl, iteT ?_⟩⟩
        refine ⟨_, rfl, _, rfl, _, rfl, 2, 2, .str z, .ref o, x3, .str z, _, w0, rfl, .str z, (hd0.same s910).same s11, (hw0.same s910).same s11, rz, rd0, rw0, .inr ⟨rfl, .inr (.inr (.inl ⟨rfl, g, wy, by rw [hl]; omega⟩))⟩, fun H12 s12 => ?_⟩
        exact fin _ ((s910.trans s11).trans s12)
      · rw [decide_eq_false c]
        refine iteF ⟨_, rfl, _, rfl, _, rfl, 2, 4, .str z, .ref o, x3, .str z, _, w0, rfl, .str z, hd0.same s910, hw0.same s910, rz, rd0, rw0, .inr ⟨rfl, .inr (.inr (.inr ⟨rfl, g, wy, by rw [hl]; omega, bw0⟩))⟩, fun H12 s12 => ?_⟩
        exact fin _ (s910.trans s12)
theorem scLaw : FnScope ["script", "store", "turn", "n", "way", "k"] ["script"] (defScope s_law) := ⟨rfl, rfl, rfl, by decide +kernel, rfl, by decide +kernel, by decide +kernel⟩
set_option maxHeartbeats 4000000 in
theorem ok_law {f f1 f2 f3 f4 f5 : Addr} {fd d1 d2 d3 d4 d5 : FuncData} (T : Fun K "law" "law" s_law f fd) (T__law_draws : Df K mg "_law_draws" s_law_draws ["script", "many"] f1 d1) (T__law_take : Df K mg "_law_take" s_law_take ["store", "many"] f2 d2) (T__law_counts_refused : Df K mg "_law_counts_refused" s_law_counts_refused ["store", "way", "n"] f3 d3) (T__law_lists_refused : Df K mg "_law_lists_refused" s_law_lists_refused ["store", "way", "order"] f4 d4) (T__law_order : Df K mg "_law_order" s_law_order ["store", "n"] f5 d5)
    (G__law_draws : FnOk P w K mg base CX0 9 f1 d1 ["script", "many"] (spDraws K)) (G__law_take : FnOk P w K mg base CX0 9 f2 d2 ["store", "many"] spTake) (G__law_counts_refused : FnG P w K mg base 9 f3 d3 ["store", "way", "n"] spCref18) (G__law_lists_refused : FnG P w K mg base 9 f4 d4 ["store", "way", "order"] spLref18) (G__law_order : FnOk P w K mg base CX0 9 f5 d5 ["store", "n"] spOrder)
    (B : Bi mg) : FnG P w K mg base 10 f fd ["script"] (spLaw K) := by
  refine okG T scLaw (fun vs H Q E h => ?_) (fun cdv A outer s H vs Q E gA hr h => ?_)
  · obtain ⟨a, ns, rfl, _⟩ := h
    rfl
  · obtain ⟨a, ns, rfl, hS, hlen, q⟩ := h
    refine ⟨_, 
      (pss_cons (ps_set (i := 1) scLaw.nd rfl (.inl rfl) (pe_lst (pa_cons (pe_call G__law_draws hr (by rfl) T__law_draws.g T__law_draws.F.kp T__law_draws.b .nil pass0 (pa_cons (pv 0) (pa_cons pe_int pa_nil))) (pa_cons pe_int pa_nil))))
      (pss_cons (ps_for PassesOwn.never rfl (pi_range1 (by rfl) B.range (pa_cons pe_int pa_nil)) (pg_name (i := 2) scLaw.nd rfl (.inl rfl))
        (pss_cons (ps_set (i := 3) scLaw.nd rfl (.inl rfl) (pe_op op_add pe_int (pe_call G__law_take hr (by rfl) T__law_take.g T__law_take.F.kp T__law_take.b .nil pass0 (pa_cons (pv 1) (pa_cons pe_int pa_nil)))))
        (pss_cons (ps_set (i := 4) scLaw.nd rfl (.inl rfl) (pe_ix ix_list (pe_lst (pa_cons pe_str (pa_cons pe_str (pa_cons pe_str pa_nil)))) (pe_call G__law_take hr (by rfl) T__law_take.g T__law_take.F.kp T__law_take.b .nil pass0 (pa_cons (pv 1) (pa_cons pe_int pa_nil))) (fun _ _ => rfl)))
        (pss_one (ps_for PassesOwn.never rfl (pi_range1 (by rfl) B.range (pa_cons pe_int pa_nil)) (pg_name (i := 5) scLaw.nd rfl (.inl rfl))
          (pss_cons (ps_if (pt_not (pt_val (pe_callG G__law_counts_refused gA hr (by rfl) T__law_counts_refused.g T__law_counts_refused.F.kp T__law_counts_refused.b (pa_cons (pv 1) (pa_cons (pv 4) (pa_cons (pv 3) pa_nil))))))
            (pss_one (ps_ret pe_bl))
            pss_nil)
          (pss_one (ps_if (pt_not (pt_val (pe_callG G__law_lists_refused gA hr (by rfl) T__law_lists_refused.g T__law_lists_refused.F.kp T__law_lists_refused.b (pa_cons (pv 1) (pa_cons (pv 4) (pa_cons (pe_call G__law_order hr (by rfl) T__law_order.g T__law_order.F.kp T__law_order.b .nil pass0 (pa_cons (pv 1) (pa_cons (pv 3) pa_nil))) pa_nil))))))
            (pss_one (ps_ret pe_bl))
            pss_nil))))))))
      (pss_one (ps_ret pe_bl)))), ?_⟩
    refine ⟨_, rfl, a, ns, 400, rfl, hS, hlen, by decide, by decide, fun ds l H0 hd1 hd2 nl hl _ => ?_⟩
    refine ⟨line_small (by show 2 ≤ 16777216; decide), fun st nst => ?_⟩
    have nls : l ≠ st := ne_of_none hl nst
    have hS0 : SkAt (upd H0 st (.lst [.ref l, .int 0])) ⟨st, l, ds⟩ := ⟨⟨0, upd_same⟩, by show upd _ _ _ l = _; rw [upd_ne nls]; exact hl, hd1, hd2, nls⟩
    generalize hSS : (⟨st, l, ds⟩ : Sk) = S at hS0
    have eS : st = S.d := by rw [← hSS]
    subst eS
    generalize upd H0 S.d (.lst [.ref l, .int 0]) = H1 at hS0 ⊢
    refine ⟨6, rfl, by decide, by decide, ?_⟩
    refine for_range (n := 6) (fun i σ H1 => ∃ y2 y3 y4 y5, σ = [some (.ref a), some (.ref S.d), y2, y3, y4, y5] ∧ SkAt H1 S)
      ⟨_, _, _, _, rfl, hS0⟩ (fun i σ H2 hi hP => ?_) (fun σ H2 hP => q _)
    obtain ⟨y2, y3, y4, y5, rfl, D0⟩ := hP
    have kk : (srcSk S).Kp H2 H2 := (srcSk S).refl _
    refine os_set (S := srcSk S) D0 (oe_add (oe_intI (by decide)) (oe_takeC rfl (by decide)) (by grind)) fun x1 H1 k1 D1 o_n => ?_
    replace kk := (srcSk S).trans kk k1
    obtain ⟨nn, rfl, ⟨i1, j1, rfl, rfl, j0, j2⟩⟩ := od_int o_n
    replace o_n := od_isI o_n
    obtain ⟨n, en⟩ : ∃ n : Nat, (n : Int) = 1 + j1 := ⟨(1 + j1).toNat, by omega⟩
    rw [← en] at o_n
    refine os_set (S := srcSk S) D1 (oe_ix (oe_lst (oa_consN (oe_tx 4 ⟨by decide +kernel, by decide +kernel⟩) (by (rintro _ ⟨x, rfl, _, rfl⟩; first | exact ⟨_, rfl, .inl rfl⟩ | exact ⟨_, rfl, .inr (.inl rfl)⟩ | exact ⟨_, rfl, .inr (.inr rfl)⟩)) (oa_consN (oe_tx 4 ⟨by decide +kernel, by decide +kernel⟩) (by (rintro _ ⟨x, rfl, _, rfl⟩; first | exact ⟨_, rfl, .inl rfl⟩ | exact ⟨_, rfl, .inr (.inl rfl)⟩ | exact ⟨_, rfl, .inr (.inr rfl)⟩)) (oa_consN (oe_tx 5 ⟨by decide +kernel, by decide +kernel⟩) (by (rintro _ ⟨x, rfl, _, rfl⟩; first | exact ⟨_, rfl, .inl rfl⟩ | exact ⟨_, rfl, .inr (.inl rfl)⟩ | exact ⟨_, rfl, .inr (.inr rfl)⟩)) (oa_nilN (fun d => ∃ z, d = .str z ∧ IsWay z))))) (by decide)) (oe_takeC rfl (by decide)) (by grind)) fun x2 H2 k2 D2 o_way => ?_
    replace o_n := o_n.kp k2
    replace kk := (srcSk S).trans kk k2
    obtain ⟨_, hw, _, z, rfl, hz⟩ := o_way
    obtain rfl := dq_strI hw
    refine ⟨4, rfl, by decide, by decide, ?_⟩
    refine for_range (n := 4) (fun j σ H1 => (∃ y5, σ = [some (.ref a), some (.ref S.d), some (.int (0 + (i : Int))), some (.int (n : Int)), some (.str z), y5]) ∧ SkAt H1 S)
      ⟨⟨y5, by rw [en]; rfl⟩, D2⟩ (fun j σ H3 hj hP => ?_) (fun σ H3 hP => ?_)
    · obtain ⟨⟨y5, rfl⟩, D3⟩ := hP
      refine ⟨_, rfl, _, rfl, _, rfl, S, z, n, rfl, D3, hz, by omega, by omega, fun H4 D4 _ => ⟨_, rfl, iteF ?_⟩⟩
      refine ⟨_, rfl, _, rfl, _, rfl, _, rfl, S, n, rfl, D4, by omega, by omega, fun os o H5 oo no ho D5 k5 => ?_⟩
      have noS := (D4.apart no).1
      refine ⟨S, z, o, n, os, rfl, D5, hz, ho, noS, oo, by omega, by omega, fun H6 D6 k6 => ⟨_, rfl, iteF ?_⟩⟩
      exact ⟨⟨_, rfl⟩, D6⟩
    · obtain ⟨⟨y5, rfl⟩, D3⟩ := hP
      exact ⟨_, _, _, _, rfl, D3⟩
end
end Fo
--GLAW
--CLASSES OrderError NoOrder NoWay NoFit NoPlace NoNumber TooMany NoText NoName NoRow
--RAISED NoOrder NoWay NoFit NoNumber
--KINDS NoOrder NoWay NoFit NoPlace NoNumber TooMany NoText NoName NoRow
--LAWCALL ok_law F_law T__law_draws T__law_take T__law_counts_refused T__law_lists_refused T__law_order (ok_draws (k := 8) T__law_draws B) (ok_take (k := 8) T__law_take B) (ok_cref18 (k := 8) T__law_counts_refused T__law_take T__law_no_way T__law_refused (ok_take (k := 7) T__law_take B) (ok_noWay18 (k := 7) T__law_no_way T__law_take (ok_take (k := 6) T__law_take B) B) (ok_ref18 (k := 7) (c := cls9 C_NoOrder C_NoWay C_NoFit C_NoPlace C_NoNumber C_TooMany C_NoText C_NoName C_NoRow) T__law_refused T__law_caught T__law_kinds (ok_caught18 (k := 6) (c := cls9 C_NoOrder C_NoWay C_NoFit C_NoPlace C_NoNumber C_TooMany C_NoText C_NoName C_NoRow) T__law_caught T_count_within T_count_at T_all_within (ok_cwX (k := 5) T_count_within T_check_count T_known_within (ok_cntX (k := 4) T_check_count T_check_way T_check_size T_check_from (ok_wayX (k := 3) T_check_way m_WAYS X_NoWay B) (ok_sizeX (k := 3) T_check_size T_is_whole (ok_wholeD (k := 2) T_is_whole B) X_NoNumber B) (ok_fromX (k := 3) T_check_from T_is_whole (ok_wholeD (k := 2) T_is_whole B) X_NoNumber B) m_MOST_THINGS)) (ok_caX (k := 5) T_count_at T_check_count T_known_within (ok_cntX (k := 4) T_check_count T_check_way T_check_size T_check_from (ok_wayX (k := 3) T_check_way m_WAYS X_NoWay B) (ok_sizeX (k := 3) T_check_size T_is_whole (ok_wholeD (k := 2) T_is_whole B) X_NoNumber B) (ok_fromX (k := 3) T_check_from T_is_whole (ok_wholeD (k := 2) T_is_whole B) X_NoNumber B) m_MOST_THINGS)) (ok_allX (k := 5) T_all_within T_check_order T_check_way T_check_listed T_check_from T_all_orders T_known_far (ok_chk (k := 4) T_check_order T_is_order (ok_isOrdD (k := 2) T_is_order T_is_whole B m_MOST_THINGS) X_NoOrder) (ok_wayX (k := 4) T_check_way m_WAYS X_NoWay B) (ok_listX (k := 4) T_check_listed m_MOST_LISTED X_NoFit B) (ok_fromX (k := 4) T_check_from T_is_whole (ok_wholeD (k := 3) T_is_whole B) X_NoNumber B) B) g_OrderError (fun j h => match j, h with | _, .inl rfl => xm_NoOrder | _, .inr (.inl rfl) => xm_NoWay | _, .inr (.inr (.inl rfl)) => xm_NoFit | _, .inr (.inr (.inr rfl)) => xm_NoNumber)) (ok_kindsY (k := 6) (c := cls9 C_NoOrder C_NoWay C_NoFit C_NoPlace C_NoNumber C_TooMany C_NoText C_NoName C_NoRow) T__law_kinds g_NoOrder g_NoWay g_NoFit g_NoPlace g_NoNumber g_TooMany g_NoText g_NoName g_NoRow B) (fun j h => match j, h with | _, .inl rfl => kd_NoOrder | _, .inr (.inl rfl) => kd_NoWay | _, .inr (.inr (.inl rfl)) => kd_NoFit | _, .inr (.inr (.inr rfl)) => kd_NoNumber) sy B) B) (ok_lref18 (k := 8) T__law_lists_refused T__law_take T__law_no_way T__law_refused T__law_no_order (ok_take (k := 7) T__law_take B) (ok_noWay18 (k := 7) T__law_no_way T__law_take (ok_take (k := 6) T__law_take B) B) (ok_ref18 (k := 7) (c := cls9 C_NoOrder C_NoWay C_NoFit C_NoPlace C_NoNumber C_TooMany C_NoText C_NoName C_NoRow) T__law_refused T__law_caught T__law_kinds (ok_caught18 (k := 6) (c := cls9 C_NoOrder C_NoWay C_NoFit C_NoPlace C_NoNumber C_TooMany C_NoText C_NoName C_NoRow) T__law_caught T_count_within T_count_at T_all_within (ok_cwX (k := 5) T_count_within T_check_count T_known_within (ok_cntX (k := 4) T_check_count T_check_way T_check_size T_check_from (ok_wayX (k := 3) T_check_way m_WAYS X_NoWay B) (ok_sizeX (k := 3) T_check_size T_is_whole (ok_wholeD (k := 2) T_is_whole B) X_NoNumber B) (ok_fromX (k := 3) T_check_from T_is_whole (ok_wholeD (k := 2) T_is_whole B) X_NoNumber B) m_MOST_THINGS)) (ok_caX (k := 5) T_count_at T_check_count T_known_within (ok_cntX (k := 4) T_check_count T_check_way T_check_size T_check_from (ok_wayX (k := 3) T_check_way m_WAYS X_NoWay B) (ok_sizeX (k := 3) T_check_size T_is_whole (ok_wholeD (k := 2) T_is_whole B) X_NoNumber B) (ok_fromX (k := 3) T_check_from T_is_whole (ok_wholeD (k := 2) T_is_whole B) X_NoNumber B) m_MOST_THINGS)) (ok_allX (k := 5) T_all_within T_check_order T_check_way T_check_listed T_check_from T_all_orders T_known_far (ok_chk (k := 4) T_check_order T_is_order (ok_isOrdD (k := 2) T_is_order T_is_whole B m_MOST_THINGS) X_NoOrder) (ok_wayX (k := 4) T_check_way m_WAYS X_NoWay B) (ok_listX (k := 4) T_check_listed m_MOST_LISTED X_NoFit B) (ok_fromX (k := 4) T_check_from T_is_whole (ok_wholeD (k := 3) T_is_whole B) X_NoNumber B) B) g_OrderError (fun j h => match j, h with | _, .inl rfl => xm_NoOrder | _, .inr (.inl rfl) => xm_NoWay | _, .inr (.inr (.inl rfl)) => xm_NoFit | _, .inr (.inr (.inr rfl)) => xm_NoNumber)) (ok_kindsY (k := 6) (c := cls9 C_NoOrder C_NoWay C_NoFit C_NoPlace C_NoNumber C_TooMany C_NoText C_NoName C_NoRow) T__law_kinds g_NoOrder g_NoWay g_NoFit g_NoPlace g_NoNumber g_TooMany g_NoText g_NoName g_NoRow B) (fun j h => match j, h with | _, .inl rfl => kd_NoOrder | _, .inr (.inl rfl) => kd_NoWay | _, .inr (.inr (.inl rfl)) => kd_NoFit | _, .inr (.inr (.inr rfl)) => kd_NoNumber) sy B) (ok_noOrd18 (k := 7) T__law_no_order T__law_take (ok_take (k := 6) T__law_take B) B) B) (ok_order (k := 7) T__law_order T__law_take B) B
namespace Fo
open PySem PySem.Spec PyProof.Rows L2
set_option maxHeartbeats 8000000 in
theorem all_mk {l : PySem.W.OpenLaw} {w : World} {K : PySem.W.Frag} {h : Heap} {mg : Str → Option Value} {fa : Addr} (X : K.In h) (G : h.Ns mainGlobals mg) (hfa : mg "law" = some (.ref fa))
    {f0 f1 f2 f3 f4 f5 f6 f7 f8 f9 f10 f11 f12 f13 f14 f15 f16 f17 f18 f19 f20 f21 f22 f23 f24 f25 f26 f27 f28 f29 f30 f31 f32 f33 f34 f35 f36 f37 : Addr} {od0 an0 od1 an1 od2 an2 od3 an3 od4 an4 od5 an5 od6 an6 od7 an7 od8 an8 od9 an9 od10 an10 od11 an11 od12 an12 od13 an13 od14 an14 od15 an15 od16 an16 od17 an17 od18 an18 od19 an19 od20 an20 od21 an21 od22 an22 od23 an23 od24 an24 od25 an25 od26 an26 od27 an27 od28 an28 od29 an29 od30 an30 od31 an31 od32 an32 od33 an33 od34 an34 od35 an35 od36 an36 od37 an37 : Option Addr} {sl0 sl1 sl2 sl3 sl4 sl5 sl6 sl7 sl8 sl9 sl10 sl11 sl12 sl13 sl14 sl15 sl16 sl17 sl18 sl19 sl20 sl21 sl22 sl23 sl24 sl25 sl26 sl27 sl28 sl29 sl30 sl31 sl32 sl33 sl34 sl35 sl36 sl37 : Array (Option Value)} {oc0 kV0 dc0 pm0 cd0 ct0 oc1 kV1 dc1 pm1 cd1 ct1 oc2 kV2 dc2 pm2 cd2 ct2 oc3 kV3 dc3 pm3 cd3 ct3 oc4 kV4 dc4 pm4 cd4 ct4 oc5 kV5 dc5 pm5 cd5 ct5 oc6 kV6 dc6 pm6 cd6 ct6 oc7 kV7 dc7 pm7 cd7 ct7 oc8 kV8 dc8 pm8 cd8 ct8 oc9 kV9 dc9 pm9 cd9 ct9 oc10 kV10 dc10 pm10 cd10 ct10 oc11 kV11 dc11 pm11 cd11 ct11 oc12 kV12 dc12 pm12 cd12 ct12 oc13 kV13 dc13 pm13 cd13 ct13 oc14 kV14 dc14 pm14 cd14 ct14 oc15 kV15 dc15 pm15 cd15 ct15 oc16 kV16 dc16 pm16 cd16 ct16 oc17 kV17 dc17 pm17 cd17 ct17 oc18 kV18 dc18 pm18 cd18 ct18 oc19 kV19 dc19 pm19 cd19 ct19 oc20 kV20 dc20 pm20 cd20 ct20 oc21 kV21 dc21 pm21 cd21 ct21 oc22 kV22 dc22 pm22 cd22 ct22 oc23 kV23 dc23 pm23 cd23 ct23 oc24 kV24 dc24 pm24 cd24 ct24 oc25 kV25 dc25 pm25 cd25 ct25 oc26 kV26 dc26 pm26 cd26 ct26 oc27 kV27 dc27 pm27 cd27 ct27 oc28 kV28 dc28 pm28 cd28 ct28 oc29 kV29 dc29 pm29 cd29 ct29 oc30 kV30 dc30 pm30 cd30 ct30 oc31 kV31 dc31 pm31 cd31 ct31 oc32 kV32 dc32 pm32 cd32 ct32 oc33 kV33 dc33 pm33 cd33 ct33 oc34 kV34 dc34 pm34 cd34 ct34 oc35 kV35 dc35 pm35 cd35 ct35 oc36 kV36 dc36 pm36 cd36 ct36 oc37 kV37 dc37 pm37 cd37 ct37 : Value} {tk_MOST_THINGS tk_MOST_LISTED : Tok} {aW : Addr} {ddW : Option Addr} {nW : Nat} {tW1 tW2 tW3 : Tok} {slW : Array (Option Value)} {C_OrderError C_NoOrder C_NoWay C_NoFit C_NoPlace C_NoNumber C_TooMany C_NoText C_NoName C_NoRow : Addr}
    (a0 : PySem.W.nsIn K mainGlobals "is_whole" = some (some (.ref f0))) (l0 : K.lookup f0 = some ⟨oc0, od0, .func (PySem.W.fnOf "is_whole" "is_whole" (defArgs s_is_whole) (defBody s_is_whole) (defScope s_is_whole) .none kV0 dc0 pm0 an0 cd0 ct0), sl0⟩) (c0 : PySem.W.codeIn K cd0 "is_whole" = true) (k0 : PySem.W.keepIn K (.ref f0) = true)
    (a1 : PySem.W.nsIn K mainGlobals "check_way" = some (some (.ref f1))) (l1 : K.lookup f1 = some ⟨oc1, od1, .func (PySem.W.fnOf "check_way" "check_way" (defArgs s_check_way) (defBody s_check_way) (defScope s_check_way) .none kV1 dc1 pm1 an1 cd1 ct1), sl1⟩) (c1 : PySem.W.codeIn K cd1 "check_way" = true) (k1 : PySem.W.keepIn K (.ref f1) = true)
    (a2 : PySem.W.nsIn K mainGlobals "check_from" = some (some (.ref f2))) (l2 : K.lookup f2 = some ⟨oc2, od2, .func (PySem.W.fnOf "check_from" "check_from" (defArgs s_check_from) (defBody s_check_from) (defScope s_check_from) .none kV2 dc2 pm2 an2 cd2 ct2), sl2⟩) (c2 : PySem.W.codeIn K cd2 "check_from" = true) (k2 : PySem.W.keepIn K (.ref f2) = true)
    (a3 : PySem.W.nsIn K mainGlobals "check_size" = some (some (.ref f3))) (l3 : K.lookup f3 = some ⟨oc3, od3, .func (PySem.W.fnOf "check_size" "check_size" (defArgs s_check_size) (defBody s_check_size) (defScope s_check_size) .none kV3 dc3 pm3 an3 cd3 ct3), sl3⟩) (c3 : PySem.W.codeIn K cd3 "check_size" = true) (k3 : PySem.W.keepIn K (.ref f3) = true)
    (a4 : PySem.W.nsIn K mainGlobals "is_order" = some (some (.ref f4))) (l4 : K.lookup f4 = some ⟨oc4, od4, .func (PySem.W.fnOf "is_order" "is_order" (defArgs s_is_order) (defBody s_is_order) (defScope s_is_order) .none kV4 dc4 pm4 an4 cd4 ct4), sl4⟩) (c4 : PySem.W.codeIn K cd4 "is_order" = true) (k4 : PySem.W.keepIn K (.ref f4) = true)
    (a5 : PySem.W.nsIn K mainGlobals "check_order" = some (some (.ref f5))) (l5 : K.lookup f5 = some ⟨oc5, od5, .func (PySem.W.fnOf "check_order" "check_order" (defArgs s_check_order) (defBody s_check_order) (defScope s_check_order) .none kV5 dc5 pm5 an5 cd5 ct5), sl5⟩) (c5 : PySem.W.codeIn K cd5 "check_order" = true) (k5 : PySem.W.keepIn K (.ref f5) = true)
    (a6 : PySem.W.nsIn K mainGlobals "check_listed" = some (some (.ref f6))) (l6 : K.lookup f6 = some ⟨oc6, od6, .func (PySem.W.fnOf "check_listed" "check_listed" (defArgs s_check_listed) (defBody s_check_listed) (defScope s_check_listed) .none kV6 dc6 pm6 an6 cd6 ct6), sl6⟩) (c6 : PySem.W.codeIn K cd6 "check_listed" = true) (k6 : PySem.W.keepIn K (.ref f6) = true)
    (a7 : PySem.W.nsIn K mainGlobals "places_in" = some (some (.ref f7))) (l7 : K.lookup f7 = some ⟨oc7, od7, .func (PySem.W.fnOf "places_in" "places_in" (defArgs s_places_in) (defBody s_places_in) (defScope s_places_in) .none kV7 dc7 pm7 an7 cd7 ct7), sl7⟩) (c7 : PySem.W.codeIn K cd7 "places_in" = true) (k7 : PySem.W.keepIn K (.ref f7) = true)
    (a8 : PySem.W.nsIn K mainGlobals "seats_in" = some (some (.ref f8))) (l8 : K.lookup f8 = some ⟨oc8, od8, .func (PySem.W.fnOf "seats_in" "seats_in" (defArgs s_seats_in) (defBody s_seats_in) (defScope s_seats_in) .none kV8 dc8 pm8 an8 cd8 ct8), sl8⟩) (c8 : PySem.W.codeIn K cd8 "seats_in" = true) (k8 : PySem.W.keepIn K (.ref f8) = true)
    (a9 : PySem.W.nsIn K mainGlobals "known_far" = some (some (.ref f9))) (l9 : K.lookup f9 = some ⟨oc9, od9, .func (PySem.W.fnOf "known_far" "known_far" (defArgs s_known_far) (defBody s_known_far) (defScope s_known_far) .none kV9 dc9 pm9 an9 cd9 ct9), sl9⟩) (c9 : PySem.W.codeIn K cd9 "known_far" = true) (k9 : PySem.W.keepIn K (.ref f9) = true)
    (a10 : PySem.W.nsIn K mainGlobals "far_by_swap" = some (some (.ref f10))) (l10 : K.lookup f10 = some ⟨oc10, od10, .func (PySem.W.fnOf "far_by_swap" "far_by_swap" (defArgs s_far_by_swap) (defBody s_far_by_swap) (defScope s_far_by_swap) .none kV10 dc10 pm10 an10 cd10 ct10), sl10⟩) (c10 : PySem.W.codeIn K cd10 "far_by_swap" = true) (k10 : PySem.W.keepIn K (.ref f10) = true)
    (a11 : PySem.W.nsIn K mainGlobals "far_by_spot" = some (some (.ref f11))) (l11 : K.lookup f11 = some ⟨oc11, od11, .func (PySem.W.fnOf "far_by_spot" "far_by_spot" (defArgs s_far_by_spot) (defBody s_far_by_spot) (defScope s_far_by_spot) .none kV11 dc11 pm11 an11 cd11 ct11), sl11⟩) (c11 : PySem.W.codeIn K cd11 "far_by_spot" = true) (k11 : PySem.W.keepIn K (.ref f11) = true)
    (a12 : PySem.W.nsIn K mainGlobals "far_by_shift" = some (some (.ref f12))) (l12 : K.lookup f12 = some ⟨oc12, od12, .func (PySem.W.fnOf "far_by_shift" "far_by_shift" (defArgs s_far_by_shift) (defBody s_far_by_shift) (defScope s_far_by_shift) .none kV12 dc12 pm12 an12 cd12 ct12), sl12⟩) (c12 : PySem.W.codeIn K cd12 "far_by_shift" = true) (k12 : PySem.W.keepIn K (.ref f12) = true)
    (a13 : PySem.W.nsIn K mainGlobals "all_orders" = some (some (.ref f13))) (l13 : K.lookup f13 = some ⟨oc13, od13, .func (PySem.W.fnOf "all_orders" "all_orders" (defArgs s_all_orders) (defBody s_all_orders) (defScope s_all_orders) .none kV13 dc13 pm13 an13 cd13 ct13), sl13⟩) (c13 : PySem.W.codeIn K cd13 "all_orders" = true) (k13 : PySem.W.keepIn K (.ref f13) = true)
    (a14 : PySem.W.nsIn K mainGlobals "orders_with" = some (some (.ref f14))) (l14 : K.lookup f14 = some ⟨oc14, od14, .func (PySem.W.fnOf "orders_with" "orders_with" (defArgs s_orders_with) (defBody s_orders_with) (defScope s_orders_with) .none kV14 dc14 pm14 an14 cd14 ct14), sl14⟩) (c14 : PySem.W.codeIn K cd14 "orders_with" = true) (k14 : PySem.W.keepIn K (.ref f14) = true)
    (a15 : PySem.W.nsIn K mainGlobals "count_within" = some (some (.ref f15))) (l15 : K.lookup f15 = some ⟨oc15, od15, .func (PySem.W.fnOf "count_within" "count_within" (defArgs s_count_within) (defBody s_count_within) (defScope s_count_within) .none kV15 dc15 pm15 an15 cd15 ct15), sl15⟩) (c15 : PySem.W.codeIn K cd15 "count_within" = true) (k15 : PySem.W.keepIn K (.ref f15) = true)
    (a16 : PySem.W.nsIn K mainGlobals "count_at" = some (some (.ref f16))) (l16 : K.lookup f16 = some ⟨oc16, od16, .func (PySem.W.fnOf "count_at" "count_at" (defArgs s_count_at) (defBody s_count_at) (defScope s_count_at) .none kV16 dc16 pm16 an16 cd16 ct16), sl16⟩) (c16 : PySem.W.codeIn K cd16 "count_at" = true) (k16 : PySem.W.keepIn K (.ref f16) = true)
    (a17 : PySem.W.nsIn K mainGlobals "check_count" = some (some (.ref f17))) (l17 : K.lookup f17 = some ⟨oc17, od17, .func (PySem.W.fnOf "check_count" "check_count" (defArgs s_check_count) (defBody s_check_count) (defScope s_check_count) .none kV17 dc17 pm17 an17 cd17 ct17), sl17⟩) (c17 : PySem.W.codeIn K cd17 "check_count" = true) (k17 : PySem.W.keepIn K (.ref f17) = true)
    (a18 : PySem.W.nsIn K mainGlobals "known_within" = some (some (.ref f18))) (l18 : K.lookup f18 = some ⟨oc18, od18, .func (PySem.W.fnOf "known_within" "known_within" (defArgs s_known_within) (defBody s_known_within) (defScope s_known_within) .none kV18 dc18 pm18 an18 cd18 ct18), sl18⟩) (c18 : PySem.W.codeIn K cd18 "known_within" = true) (k18 : PySem.W.keepIn K (.ref f18) = true)
    (a19 : PySem.W.nsIn K mainGlobals "swap_counts" = some (some (.ref f19))) (l19 : K.lookup f19 = some ⟨oc19, od19, .func (PySem.W.fnOf "swap_counts" "swap_counts" (defArgs s_swap_counts) (defBody s_swap_counts) (defScope s_swap_counts) .none kV19 dc19 pm19 an19 cd19 ct19), sl19⟩) (c19 : PySem.W.codeIn K cd19 "swap_counts" = true) (k19 : PySem.W.keepIn K (.ref f19) = true)
    (a20 : PySem.W.nsIn K mainGlobals "swap_counts_with_one_more" = some (some (.ref f20))) (l20 : K.lookup f20 = some ⟨oc20, od20, .func (PySem.W.fnOf "swap_counts_with_one_more" "swap_counts_with_one_more" (defArgs s_swap_counts_with_one_more) (defBody s_swap_counts_with_one_more) (defScope s_swap_counts_with_one_more) .none kV20 dc20 pm20 an20 cd20 ct20), sl20⟩) (c20 : PySem.W.codeIn K cd20 "swap_counts_with_one_more" = true) (k20 : PySem.W.keepIn K (.ref f20) = true)
    (a21 : PySem.W.nsIn K mainGlobals "spot_counts" = some (some (.ref f21))) (l21 : K.lookup f21 = some ⟨oc21, od21, .func (PySem.W.fnOf "spot_counts" "spot_counts" (defArgs s_spot_counts) (defBody s_spot_counts) (defScope s_spot_counts) .none kV21 dc21 pm21 an21 cd21 ct21), sl21⟩) (c21 : PySem.W.codeIn K cd21 "spot_counts" = true) (k21 : PySem.W.keepIn K (.ref f21) = true)
    (a22 : PySem.W.nsIn K mainGlobals "count_all_moved" = some (some (.ref f22))) (l22 : K.lookup f22 = some ⟨oc22, od22, .func (PySem.W.fnOf "count_all_moved" "count_all_moved" (defArgs s_count_all_moved) (defBody s_count_all_moved) (defScope s_count_all_moved) .none kV22 dc22 pm22 an22 cd22 ct22), sl22⟩) (c22 : PySem.W.codeIn K cd22 "count_all_moved" = true) (k22 : PySem.W.keepIn K (.ref f22) = true)
    (a23 : PySem.W.nsIn K mainGlobals "shift_within" = some (some (.ref f23))) (l23 : K.lookup f23 = some ⟨oc23, od23, .func (PySem.W.fnOf "shift_within" "shift_within" (defArgs s_shift_within) (defBody s_shift_within) (defScope s_shift_within) .none kV23 dc23 pm23 an23 cd23 ct23), sl23⟩) (c23 : PySem.W.codeIn K cd23 "shift_within" = true) (k23 : PySem.W.keepIn K (.ref f23) = true)
    (a24 : PySem.W.nsIn K mainGlobals "things_near" = some (some (.ref f24))) (l24 : K.lookup f24 = some ⟨oc24, od24, .func (PySem.W.fnOf "things_near" "things_near" (defArgs s_things_near) (defBody s_things_near) (defScope s_things_near) .none kV24 dc24 pm24 an24 cd24 ct24), sl24⟩) (c24 : PySem.W.codeIn K cd24 "things_near" = true) (k24 : PySem.W.keepIn K (.ref f24) = true)
    (a25 : PySem.W.nsIn K mainGlobals "one_place_further" = some (some (.ref f25))) (l25 : K.lookup f25 = some ⟨oc25, od25, .func (PySem.W.fnOf "one_place_further" "one_place_further" (defArgs s_one_place_further) (defBody s_one_place_further) (defScope s_one_place_further) .none kV25 dc25 pm25 an25 cd25 ct25), sl25⟩) (c25 : PySem.W.codeIn K cd25 "one_place_further" = true) (k25 : PySem.W.keepIn K (.ref f25) = true)
    (a26 : PySem.W.nsIn K mainGlobals "all_within" = some (some (.ref f26))) (l26 : K.lookup f26 = some ⟨oc26, od26, .func (PySem.W.fnOf "all_within" "all_within" (defArgs s_all_within) (defBody s_all_within) (defScope s_all_within) .none kV26 dc26 pm26 an26 cd26 ct26), sl26⟩) (c26 : PySem.W.codeIn K cd26 "all_within" = true) (k26 : PySem.W.keepIn K (.ref f26) = true)
    (a27 : PySem.W.nsIn K mainGlobals "_law_draws" = some (some (.ref f27))) (l27 : K.lookup f27 = some ⟨oc27, od27, .func (PySem.W.fnOf "_law_draws" "_law_draws" (defArgs s_law_draws) (defBody s_law_draws) (defScope s_law_draws) .none kV27 dc27 pm27 an27 cd27 ct27), sl27⟩) (c27 : PySem.W.codeIn K cd27 "_law_draws" = true) (k27 : PySem.W.keepIn K (.ref f27) = true)
    (a28 : PySem.W.nsIn K mainGlobals "_law_take" = some (some (.ref f28))) (l28 : K.lookup f28 = some ⟨oc28, od28, .func (PySem.W.fnOf "_law_take" "_law_take" (defArgs s_law_take) (defBody s_law_take) (defScope s_law_take) .none kV28 dc28 pm28 an28 cd28 ct28), sl28⟩) (c28 : PySem.W.codeIn K cd28 "_law_take" = true) (k28 : PySem.W.keepIn K (.ref f28) = true)
    (a29 : PySem.W.nsIn K mainGlobals "_law_order" = some (some (.ref f29))) (l29 : K.lookup f29 = some ⟨oc29, od29, .func (PySem.W.fnOf "_law_order" "_law_order" (defArgs s_law_order) (defBody s_law_order) (defScope s_law_order) .none kV29 dc29 pm29 an29 cd29 ct29), sl29⟩) (c29 : PySem.W.codeIn K cd29 "_law_order" = true) (k29 : PySem.W.keepIn K (.ref f29) = true)
    (a30 : PySem.W.nsIn K mainGlobals "_law_kinds" = some (some (.ref f30))) (l30 : K.lookup f30 = some ⟨oc30, od30, .func (PySem.W.fnOf "_law_kinds" "_law_kinds" (defArgs s_law_kinds) (defBody s_law_kinds) (defScope s_law_kinds) .none kV30 dc30 pm30 an30 cd30 ct30), sl30⟩) (c30 : PySem.W.codeIn K cd30 "_law_kinds" = true) (k30 : PySem.W.keepIn K (.ref f30) = true)
    (a31 : PySem.W.nsIn K mainGlobals "_law_no_order" = some (some (.ref f31))) (l31 : K.lookup f31 = some ⟨oc31, od31, .func (PySem.W.fnOf "_law_no_order" "_law_no_order" (defArgs s_law_no_order) (defBody s_law_no_order) (defScope s_law_no_order) .none kV31 dc31 pm31 an31 cd31 ct31), sl31⟩) (c31 : PySem.W.codeIn K cd31 "_law_no_order" = true) (k31 : PySem.W.keepIn K (.ref f31) = true)
    (a32 : PySem.W.nsIn K mainGlobals "_law_no_way" = some (some (.ref f32))) (l32 : K.lookup f32 = some ⟨oc32, od32, .func (PySem.W.fnOf "_law_no_way" "_law_no_way" (defArgs s_law_no_way) (defBody s_law_no_way) (defScope s_law_no_way) .none kV32 dc32 pm32 an32 cd32 ct32), sl32⟩) (c32 : PySem.W.codeIn K cd32 "_law_no_way" = true) (k32 : PySem.W.keepIn K (.ref f32) = true)
    (a33 : PySem.W.nsIn K mainGlobals "_law_caught" = some (some (.ref f33))) (l33 : K.lookup f33 = some ⟨oc33, od33, .func (PySem.W.fnOf "_law_caught" "_law_caught" (defArgs s_law_caught) (defBody s_law_caught) (defScope s_law_caught) .none kV33 dc33 pm33 an33 cd33 ct33), sl33⟩) (c33 : PySem.W.codeIn K cd33 "_law_caught" = true) (k33 : PySem.W.keepIn K (.ref f33) = true)
    (a34 : PySem.W.nsIn K mainGlobals "_law_refused" = some (some (.ref f34))) (l34 : K.lookup f34 = some ⟨oc34, od34, .func (PySem.W.fnOf "_law_refused" "_law_refused" (defArgs s_law_refused) (defBody s_law_refused) (defScope s_law_refused) .none kV34 dc34 pm34 an34 cd34 ct34), sl34⟩) (c34 : PySem.W.codeIn K cd34 "_law_refused" = true) (k34 : PySem.W.keepIn K (.ref f34) = true)
    (a35 : PySem.W.nsIn K mainGlobals "_law_counts_refused" = some (some (.ref f35))) (l35 : K.lookup f35 = some ⟨oc35, od35, .func (PySem.W.fnOf "_law_counts_refused" "_law_counts_refused" (defArgs s_law_counts_refused) (defBody s_law_counts_refused) (defScope s_law_counts_refused) .none kV35 dc35 pm35 an35 cd35 ct35), sl35⟩) (c35 : PySem.W.codeIn K cd35 "_law_counts_refused" = true) (k35 : PySem.W.keepIn K (.ref f35) = true)
    (a36 : PySem.W.nsIn K mainGlobals "_law_lists_refused" = some (some (.ref f36))) (l36 : K.lookup f36 = some ⟨oc36, od36, .func (PySem.W.fnOf "_law_lists_refused" "_law_lists_refused" (defArgs s_law_lists_refused) (defBody s_law_lists_refused) (defScope s_law_lists_refused) .none kV36 dc36 pm36 an36 cd36 ct36), sl36⟩) (c36 : PySem.W.codeIn K cd36 "_law_lists_refused" = true) (k36 : PySem.W.keepIn K (.ref f36) = true)
    (a37 : PySem.W.nsIn K mainGlobals "law" = some (some (.ref f37))) (l37 : K.lookup f37 = some ⟨oc37, od37, .func (PySem.W.fnOf "law" "law" (defArgs s_law) (defBody s_law) (defScope s_law) .none kV37 dc37 pm37 an37 cd37 ct37), sl37⟩) (c37 : PySem.W.codeIn K cd37 "law" = true) (k37 : PySem.W.keepIn K (.ref f37) = true)
    (g_MOST_THINGS : PySem.W.nsIn K mainGlobals "MOST_THINGS" = some (some (.int 12 tk_MOST_THINGS)))
    (g_MOST_LISTED : PySem.W.nsIn K mainGlobals "MOST_LISTED" = some (some (.int 6 tk_MOST_LISTED)))
    (g_WAYS : PySem.W.nsIn K mainGlobals "WAYS" = some (some (.ref aW))) (l_WAYS : K.lookup aW = some ⟨.type "tuple", ddW, .seq #[.str "swap" tW1, .str "spot" tW2, .str "shift" tW3] nW, slW⟩)
    (gc_OrderError : PySem.W.nsIn K mainGlobals "OrderError" = some (some (.ref C_OrderError)))
    (gc_NoOrder : PySem.W.nsIn K mainGlobals "NoOrder" = some (some (.ref C_NoOrder)))
    (gc_NoWay : PySem.W.nsIn K mainGlobals "NoWay" = some (some (.ref C_NoWay)))
    (gc_NoFit : PySem.W.nsIn K mainGlobals "NoFit" = some (some (.ref C_NoFit)))
    (gc_NoPlace : PySem.W.nsIn K mainGlobals "NoPlace" = some (some (.ref C_NoPlace)))
    (gc_NoNumber : PySem.W.nsIn K mainGlobals "NoNumber" = some (some (.ref C_NoNumber)))
    (gc_TooMany : PySem.W.nsIn K mainGlobals "TooMany" = some (some (.ref C_TooMany)))
    (gc_NoText : PySem.W.nsIn K mainGlobals "NoText" = some (some (.ref C_NoText)))
    (gc_NoName : PySem.W.nsIn K mainGlobals "NoName" = some (some (.ref C_NoName)))
    (gc_NoRow : PySem.W.nsIn K mainGlobals "NoRow" = some (some (.ref C_NoRow)))
    (xq_NoOrder : PySem.W.excIn K C_NoOrder [.type "ValueError", .type "Exception", .type "BaseException", .type "object"] "ValueError.__new__" = true) (xk_NoOrder : PySem.W.keepIn K (.ref C_NoOrder) = true) (xt_NoOrder : PySem.W.typeIn K (.ref C_NoOrder) = some (.type "type")) (xm_NoOrder : PySem.W.exmOne K (.ref C_NoOrder) (.ref C_OrderError) = some true) (xv_NoOrder : PySem.W.kitOne K (.ref C_NoOrder) (.type "ValueError") = some true)
    (xehg_NoOrder : PySem.W.findIn K (.ref C_NoOrder) "__getattribute__" = some (some (.builtin "BaseException.__getattribute__")))
    (xehk_NoOrder : PySem.W.findIn K (.ref C_NoOrder) "__getattr__" = some none)
    (xehs_NoOrder : PySem.W.subIn K (.ref C_NoOrder) (.type "BaseException") = some true)
    (xehd_NoOrder : PySem.W.hasDictIn K C_NoOrder = true)
    (xeha_NoOrder : PySem.W.findIn K (.ref C_NoOrder) "__class__" = some (some (.builtin "object.__class__")))
    (xehn_NoOrder : PySem.W.specialIn K (.builtin "object.__class__") "__get__" = some (some (.builtin "getset_descriptor.__get__")))
    (xeht_NoOrder : PySem.W.takesIn K (.builtin "object.__class__") = some true)
    (xehm_NoOrder : PySem.W.mroIn K C_NoOrder (.type "object") = some true)
    (xy_NoOrder_NoOrder : PySem.W.kitOne K (.ref C_NoOrder) (.ref C_NoOrder) = some true)
    (xy_NoOrder_NoWay : PySem.W.kitOne K (.ref C_NoOrder) (.ref C_NoWay) = some false)
    (xy_NoOrder_NoFit : PySem.W.kitOne K (.ref C_NoOrder) (.ref C_NoFit) = some false)
    (xy_NoOrder_NoPlace : PySem.W.kitOne K (.ref C_NoOrder) (.ref C_NoPlace) = some false)
    (xy_NoOrder_NoNumber : PySem.W.kitOne K (.ref C_NoOrder) (.ref C_NoNumber) = some false)
    (xy_NoOrder_TooMany : PySem.W.kitOne K (.ref C_NoOrder) (.ref C_TooMany) = some false)
    (xy_NoOrder_NoText : PySem.W.kitOne K (.ref C_NoOrder) (.ref C_NoText) = some false)
    (xy_NoOrder_NoName : PySem.W.kitOne K (.ref C_NoOrder) (.ref C_NoName) = some false)
    (xy_NoOrder_NoRow : PySem.W.kitOne K (.ref C_NoOrder) (.ref C_NoRow) = some false)
    (xq_NoWay : PySem.W.excIn K C_NoWay [.type "ValueError", .type "Exception", .type "BaseException", .type "object"] "ValueError.__new__" = true) (xk_NoWay : PySem.W.keepIn K (.ref C_NoWay) = true) (xt_NoWay : PySem.W.typeIn K (.ref C_NoWay) = some (.type "type")) (xm_NoWay : PySem.W.exmOne K (.ref C_NoWay) (.ref C_OrderError) = some true) (xv_NoWay : PySem.W.kitOne K (.ref C_NoWay) (.type "ValueError") = some true)
    (xehg_NoWay : PySem.W.findIn K (.ref C_NoWay) "__getattribute__" = some (some (.builtin "BaseException.__getattribute__")))
    (xehk_NoWay : PySem.W.findIn K (.ref C_NoWay) "__getattr__" = some none)
    (xehs_NoWay : PySem.W.subIn K (.ref C_NoWay) (.type "BaseException") = some true)
    (xehd_NoWay : PySem.W.hasDictIn K C_NoWay = true)
    (xeha_NoWay : PySem.W.findIn K (.ref C_NoWay) "__class__" = some (some (.builtin "object.__class__")))
    (xehn_NoWay : PySem.W.specialIn K (.builtin "object.__class__") "__get__" = some (some (.builtin "getset_descriptor.__get__")))
    (xeht_NoWay : PySem.W.takesIn K (.builtin "object.__class__") = some true)
    (xehm_NoWay : PySem.W.mroIn K C_NoWay (.type "object") = some true)
    (xy_NoWay_NoOrder : PySem.W.kitOne K (.ref C_NoWay) (.ref C_NoOrder) = some false)
    (xy_NoWay_NoWay : PySem.W.kitOne K (.ref C_NoWay) (.ref C_NoWay) = some true)
    (xy_NoWay_NoFit : PySem.W.kitOne K (.ref C_NoWay) (.ref C_NoFit) = some false)
    (xy_NoWay_NoPlace : PySem.W.kitOne K (.ref C_NoWay) (.ref C_NoPlace) = some false)
    (xy_NoWay_NoNumber : PySem.W.kitOne K (.ref C_NoWay) (.ref C_NoNumber) = some false)
    (xy_NoWay_TooMany : PySem.W.kitOne K (.ref C_NoWay) (.ref C_TooMany) = some false)
    (xy_NoWay_NoText : PySem.W.kitOne K (.ref C_NoWay) (.ref C_NoText) = some false)
    (xy_NoWay_NoName : PySem.W.kitOne K (.ref C_NoWay) (.ref C_NoName) = some false)
    (xy_NoWay_NoRow : PySem.W.kitOne K (.ref C_NoWay) (.ref C_NoRow) = some false)
    (xq_NoFit : PySem.W.excIn K C_NoFit [.type "ValueError", .type "Exception", .type "BaseException", .type "object"] "ValueError.__new__" = true) (xk_NoFit : PySem.W.keepIn K (.ref C_NoFit) = true) (xt_NoFit : PySem.W.typeIn K (.ref C_NoFit) = some (.type "type")) (xm_NoFit : PySem.W.exmOne K (.ref C_NoFit) (.ref C_OrderError) = some true) (xv_NoFit : PySem.W.kitOne K (.ref C_NoFit) (.type "ValueError") = some true)
    (xehg_NoFit : PySem.W.findIn K (.ref C_NoFit) "__getattribute__" = some (some (.builtin "BaseException.__getattribute__")))
    (xehk_NoFit : PySem.W.findIn K (.ref C_NoFit) "__getattr__" = some none)
    (xehs_NoFit : PySem.W.subIn K (.ref C_NoFit) (.type "BaseException") = some true)
    (xehd_NoFit : PySem.W.hasDictIn K C_NoFit = true)
    (xeha_NoFit : PySem.W.findIn K (.ref C_NoFit) "__class__" = some (some (.builtin "object.__class__")))
    (xehn_NoFit : PySem.W.specialIn K (.builtin "object.__class__") "__get__" = some (some (.builtin "getset_descriptor.__get__")))
    (xeht_NoFit : PySem.W.takesIn K (.builtin "object.__class__") = some true)
    (xehm_NoFit : PySem.W.mroIn K C_NoFit (.type "object") = some true)
    (xy_NoFit_NoOrder : PySem.W.kitOne K (.ref C_NoFit) (.ref C_NoOrder) = some false)
    (xy_NoFit_NoWay : PySem.W.kitOne K (.ref C_NoFit) (.ref C_NoWay) = some false)
    (xy_NoFit_NoFit : PySem.W.kitOne K (.ref C_NoFit) (.ref C_NoFit) = some true)
    (xy_NoFit_NoPlace : PySem.W.kitOne K (.ref C_NoFit) (.ref C_NoPlace) = some false)
    (xy_NoFit_NoNumber : PySem.W.kitOne K (.ref C_NoFit) (.ref C_NoNumber) = some false)
    (xy_NoFit_TooMany : PySem.W.kitOne K (.ref C_NoFit) (.ref C_TooMany) = some false)
    (xy_NoFit_NoText : PySem.W.kitOne K (.ref C_NoFit) (.ref C_NoText) = some false)
    (xy_NoFit_NoName : PySem.W.kitOne K (.ref C_NoFit) (.ref C_NoName) = some false)
    (xy_NoFit_NoRow : PySem.W.kitOne K (.ref C_NoFit) (.ref C_NoRow) = some false)
    (xq_NoNumber : PySem.W.excIn K C_NoNumber [.type "ValueError", .type "Exception", .type "BaseException", .type "object"] "ValueError.__new__" = true) (xk_NoNumber : PySem.W.keepIn K (.ref C_NoNumber) = true) (xt_NoNumber : PySem.W.typeIn K (.ref C_NoNumber) = some (.type "type")) (xm_NoNumber : PySem.W.exmOne K (.ref C_NoNumber) (.ref C_OrderError) = some true) (xv_NoNumber : PySem.W.kitOne K (.ref C_NoNumber) (.type "ValueError") = some true)
    (xehg_NoNumber : PySem.W.findIn K (.ref C_NoNumber) "__getattribute__" = some (some (.builtin "BaseException.__getattribute__")))
    (xehk_NoNumber : PySem.W.findIn K (.ref C_NoNumber) "__getattr__" = some none)
    (xehs_NoNumber : PySem.W.subIn K (.ref C_NoNumber) (.type "BaseException") = some true)
    (xehd_NoNumber : PySem.W.hasDictIn K C_NoNumber = true)
    (xeha_NoNumber : PySem.W.findIn K (.ref C_NoNumber) "__class__" = some (some (.builtin "object.__class__")))
    (xehn_NoNumber : PySem.W.specialIn K (.builtin "object.__class__") "__get__" = some (some (.builtin "getset_descriptor.__get__")))
    (xeht_NoNumber : PySem.W.takesIn K (.builtin "object.__class__") = some true)
    (xehm_NoNumber : PySem.W.mroIn K C_NoNumber (.type "object") = some true)
    (xy_NoNumber_NoOrder : PySem.W.kitOne K (.ref C_NoNumber) (.ref C_NoOrder) = some false)
    (xy_NoNumber_NoWay : PySem.W.kitOne K (.ref C_NoNumber) (.ref C_NoWay) = some false)
    (xy_NoNumber_NoFit : PySem.W.kitOne K (.ref C_NoNumber) (.ref C_NoFit) = some false)
    (xy_NoNumber_NoPlace : PySem.W.kitOne K (.ref C_NoNumber) (.ref C_NoPlace) = some false)
    (xy_NoNumber_NoNumber : PySem.W.kitOne K (.ref C_NoNumber) (.ref C_NoNumber) = some true)
    (xy_NoNumber_TooMany : PySem.W.kitOne K (.ref C_NoNumber) (.ref C_TooMany) = some false)
    (xy_NoNumber_NoText : PySem.W.kitOne K (.ref C_NoNumber) (.ref C_NoText) = some false)
    (xy_NoNumber_NoName : PySem.W.kitOne K (.ref C_NoNumber) (.ref C_NoName) = some false)
    (xy_NoNumber_NoRow : PySem.W.kitOne K (.ref C_NoNumber) (.ref C_NoRow) = some false)
    (z_ValueError : PySem.W.nsIn K mainGlobals "ValueError" = some none)
    (z_abs : PySem.W.nsIn K mainGlobals "abs" = some none)
    (z_all : PySem.W.nsIn K mainGlobals "all" = some none)
    (z_bool : PySem.W.nsIn K mainGlobals "bool" = some none)
    (z_enumerate : PySem.W.nsIn K mainGlobals "enumerate" = some none)
    (z_int : PySem.W.nsIn K mainGlobals "int" = some none)
    (z_isinstance : PySem.W.nsIn K mainGlobals "isinstance" = some none)
    (z_len : PySem.W.nsIn K mainGlobals "len" = some none)
    (z_list : PySem.W.nsIn K mainGlobals "list" = some none)
    (z_max : PySem.W.nsIn K mainGlobals "max" = some none)
    (z_min : PySem.W.nsIn K mainGlobals "min" = some none)
    (z_range : PySem.W.nsIn K mainGlobals "range" = some none)
    (z_repr : PySem.W.nsIn K mainGlobals "repr" = some none)
    (z_sorted : PySem.W.nsIn K mainGlobals "sorted" = some none)
    (z_str : PySem.W.nsIn K mainGlobals "str" = some none)
    (z_sum : PySem.W.nsIn K mainGlobals "sum" = some none)
    (z_tuple : PySem.W.nsIn K mainGlobals "tuple" = some none)
    : ∃ fd : FuncData, (∀ (s : Shared) (v : Value), BindsTo s fd ⟨[v], []⟩ [("script", v)]) ∧ ∀ base : Heap, K.In base → base.Ns mainGlobals mg → SysAt base → FnG l.prog w K mg base 10 fa fd ["script"] (spLaw K) := by
  have e := hfa.symm.trans (PySem.W.mg_of X G a37)
  cases e
  have F0 := fun_mk (st := s_is_whole) l0 c0 k0
  have F1 := fun_mk (st := s_check_way) l1 c1 k1
  have F2 := fun_mk (st := s_check_from) l2 c2 k2
  have F3 := fun_mk (st := s_check_size) l3 c3 k3
  have F4 := fun_mk (st := s_is_order) l4 c4 k4
  have F5 := fun_mk (st := s_check_order) l5 c5 k5
  have F6 := fun_mk (st := s_check_listed) l6 c6 k6
  have F7 := fun_mk (st := s_places_in) l7 c7 k7
  have F8 := fun_mk (st := s_seats_in) l8 c8 k8
  have F9 := fun_mk (st := s_known_far) l9 c9 k9
  have F10 := fun_mk (st := s_far_by_swap) l10 c10 k10
  have F11 := fun_mk (st := s_far_by_spot) l11 c11 k11
  have F12 := fun_mk (st := s_far_by_shift) l12 c12 k12
  have F13 := fun_mk (st := s_all_orders) l13 c13 k13
  have F14 := fun_mk (st := s_orders_with) l14 c14 k14
  have F15 := fun_mk (st := s_count_within) l15 c15 k15
  have F16 := fun_mk (st := s_count_at) l16 c16 k16
  have F17 := fun_mk (st := s_check_count) l17 c17 k17
  have F18 := fun_mk (st := s_known_within) l18 c18 k18
  have F19 := fun_mk (st := s_swap_counts) l19 c19 k19
  have F20 := fun_mk (st := s_swap_counts_with_one_more) l20 c20 k20
  have F21 := fun_mk (st := s_spot_counts) l21 c21 k21
  have F22 := fun_mk (st := s_count_all_moved) l22 c22 k22
  have F23 := fun_mk (st := s_shift_within) l23 c23 k23
  have F24 := fun_mk (st := s_things_near) l24 c24 k24
  have F25 := fun_mk (st := s_one_place_further) l25 c25 k25
  have F26 := fun_mk (st := s_all_within) l26 c26 k26
  have F27 := fun_mk (st := s_law_draws) l27 c27 k27
  have F28 := fun_mk (st := s_law_take) l28 c28 k28
  have F29 := fun_mk (st := s_law_order) l29 c29 k29
  have F30 := fun_mk (st := s_law_kinds) l30 c30 k30
  have F31 := fun_mk (st := s_law_no_order) l31 c31 k31
  have F32 := fun_mk (st := s_law_no_way) l32 c32 k32
  have F33 := fun_mk (st := s_law_caught) l33 c33 k33
  have F34 := fun_mk (st := s_law_refused) l34 c34 k34
  have F35 := fun_mk (st := s_law_counts_refused) l35 c35 k35
  have F36 := fun_mk (st := s_law_lists_refused) l36 c36 k36
  have F37 := fun_mk (st := s_law) l37 c37 k37
  have T_is_whole : Df K mg "is_whole" s_is_whole ["thing"] f0 _ := ⟨F0, F0.binds (ps := ["thing"]) (fun _ _ _ _ _ _ us hl => match us, hl with | [_], _ => rfl), PySem.W.mg_of X G a0⟩
  have T_check_way : Df K mg "check_way" s_check_way ["thing"] f1 _ := ⟨F1, F1.binds (ps := ["thing"]) (fun _ _ _ _ _ _ us hl => match us, hl with | [_], _ => rfl), PySem.W.mg_of X G a1⟩
  have T_check_from : Df K mg "check_from" s_check_from ["thing", "least"] f2 _ := ⟨F2, F2.binds (ps := ["thing", "least"]) (fun _ _ _ _ _ _ us hl => match us, hl with | [_, _], _ => rfl), PySem.W.mg_of X G a2⟩
  have T_check_size : Df K mg "check_size" s_check_size ["thing", "most"] f3 _ := ⟨F3, F3.binds (ps := ["thing", "most"]) (fun _ _ _ _ _ _ us hl => match us, hl with | [_, _], _ => rfl), PySem.W.mg_of X G a3⟩
  have T_is_order : Df K mg "is_order" s_is_order ["thing"] f4 _ := ⟨F4, F4.binds (ps := ["thing"]) (fun _ _ _ _ _ _ us hl => match us, hl with | [_], _ => rfl), PySem.W.mg_of X G a4⟩
  have T_check_order : Df K mg "check_order" s_check_order ["thing"] f5 _ := ⟨F5, F5.binds (ps := ["thing"]) (fun _ _ _ _ _ _ us hl => match us, hl with | [_], _ => rfl), PySem.W.mg_of X G a5⟩
  have T_check_listed : Df K mg "check_listed" s_check_listed ["order"] f6 _ := ⟨F6, F6.binds (ps := ["order"]) (fun _ _ _ _ _ _ us hl => match us, hl with | [_], _ => rfl), PySem.W.mg_of X G a6⟩
  have T_places_in : Df K mg "places_in" s_places_in ["order"] f7 _ := ⟨F7, F7.binds (ps := ["order"]) (fun _ _ _ _ _ _ us hl => match us, hl with | [_], _ => rfl), PySem.W.mg_of X G a7⟩
  have T_seats_in : Df K mg "seats_in" s_seats_in ["one", "other"] f8 _ := ⟨F8, F8.binds (ps := ["one", "other"]) (fun _ _ _ _ _ _ us hl => match us, hl with | [_, _], _ => rfl), PySem.W.mg_of X G a8⟩
  have T_known_far : Df K mg "known_far" s_known_far ["way", "one", "other"] f9 _ := ⟨F9, F9.binds (ps := ["way", "one", "other"]) (fun _ _ _ _ _ _ us hl => match us, hl with | [_, _, _], _ => rfl), PySem.W.mg_of X G a9⟩
  have T_far_by_swap : Df K mg "far_by_swap" s_far_by_swap ["one", "other"] f10 _ := ⟨F10, F10.binds (ps := ["one", "other"]) (fun _ _ _ _ _ _ us hl => match us, hl with | [_, _], _ => rfl), PySem.W.mg_of X G a10⟩
  have T_far_by_spot : Df K mg "far_by_spot" s_far_by_spot ["one", "other"] f11 _ := ⟨F11, F11.binds (ps := ["one", "other"]) (fun _ _ _ _ _ _ us hl => match us, hl with | [_, _], _ => rfl), PySem.W.mg_of X G a11⟩
  have T_far_by_shift : Df K mg "far_by_shift" s_far_by_shift ["one", "other"] f12 _ := ⟨F12, F12.binds (ps := ["one", "other"]) (fun _ _ _ _ _ _ us hl => match us, hl with | [_, _], _ => rfl), PySem.W.mg_of X G a12⟩
  have T_all_orders : Df K mg "all_orders" s_all_orders ["n"] f13 _ := ⟨F13, F13.binds (ps := ["n"]) (fun _ _ _ _ _ _ us hl => match us, hl with | [_], _ => rfl), PySem.W.mg_of X G a13⟩
  have T_orders_with : Df K mg "orders_with" s_orders_with ["choices"] f14 _ := ⟨F14, F14.binds (ps := ["choices"]) (fun _ _ _ _ _ _ us hl => match us, hl with | [_], _ => rfl), PySem.W.mg_of X G a14⟩
  have T_count_within : Df K mg "count_within" s_count_within ["way", "n", "r"] f15 _ := ⟨F15, F15.binds (ps := ["way", "n", "r"]) (fun _ _ _ _ _ _ us hl => match us, hl with | [_, _, _], _ => rfl), PySem.W.mg_of X G a15⟩
  have T_count_at : Df K mg "count_at" s_count_at ["way", "n", "r"] f16 _ := ⟨F16, F16.binds (ps := ["way", "n", "r"]) (fun _ _ _ _ _ _ us hl => match us, hl with | [_, _, _], _ => rfl), PySem.W.mg_of X G a16⟩
  have T_check_count : Df K mg "check_count" s_check_count ["way", "n", "r"] f17 _ := ⟨F17, F17.binds (ps := ["way", "n", "r"]) (fun _ _ _ _ _ _ us hl => match us, hl with | [_, _, _], _ => rfl), PySem.W.mg_of X G a17⟩
  have T_known_within : Df K mg "known_within" s_known_within ["way", "n", "r"] f18 _ := ⟨F18, F18.binds (ps := ["way", "n", "r"]) (fun _ _ _ _ _ _ us hl => match us, hl with | [_, _, _], _ => rfl), PySem.W.mg_of X G a18⟩
  have T_swap_counts : Df K mg "swap_counts" s_swap_counts ["n"] f19 _ := ⟨F19, F19.binds (ps := ["n"]) (fun _ _ _ _ _ _ us hl => match us, hl with | [_], _ => rfl), PySem.W.mg_of X G a19⟩
  have T_swap_counts_with_one_more : Df K mg "swap_counts_with_one_more" s_swap_counts_with_one_more ["counts", "behind"] f20 _ := ⟨F20, F20.binds (ps := ["counts", "behind"]) (fun _ _ _ _ _ _ us hl => match us, hl with | [_, _], _ => rfl), PySem.W.mg_of X G a20⟩
  have T_spot_counts : Df K mg "spot_counts" s_spot_counts ["n"] f21 _ := ⟨F21, F21.binds (ps := ["n"]) (fun _ _ _ _ _ _ us hl => match us, hl with | [_], _ => rfl), PySem.W.mg_of X G a21⟩
  have T_count_all_moved : Df K mg "count_all_moved" s_count_all_moved ["n"] f22 _ := ⟨F22, F22.binds (ps := ["n"]) (fun _ _ _ _ _ _ us hl => match us, hl with | [_], _ => rfl), PySem.W.mg_of X G a22⟩
  have T_shift_within : Df K mg "shift_within" s_shift_within ["n", "r"] f23 _ := ⟨F23, F23.binds (ps := ["n", "r"]) (fun _ _ _ _ _ _ us hl => match us, hl with | [_, _], _ => rfl), PySem.W.mg_of X G a23⟩
  have T_things_near : Df K mg "things_near" s_things_near ["place", "n", "r"] f24 _ := ⟨F24, F24.binds (ps := ["place", "n", "r"]) (fun _ _ _ _ _ _ us hl => match us, hl with | [_, _, _], _ => rfl), PySem.W.mg_of X G a24⟩
  have T_one_place_further : Df K mg "one_place_further" s_one_place_further ["beginnings", "near"] f25 _ := ⟨F25, F25.binds (ps := ["beginnings", "near"]) (fun _ _ _ _ _ _ us hl => match us, hl with | [_, _], _ => rfl), PySem.W.mg_of X G a25⟩
  have T_all_within : Df K mg "all_within" s_all_within ["way", "order", "r"] f26 _ := ⟨F26, F26.binds (ps := ["way", "order", "r"]) (fun _ _ _ _ _ _ us hl => match us, hl with | [_, _, _], _ => rfl), PySem.W.mg_of X G a26⟩
  have T__law_draws : Df K mg "_law_draws" s_law_draws ["script", "many"] f27 _ := ⟨F27, F27.binds (ps := ["script", "many"]) (fun _ _ _ _ _ _ us hl => match us, hl with | [_, _], _ => rfl), PySem.W.mg_of X G a27⟩
  have T__law_take : Df K mg "_law_take" s_law_take ["store", "many"] f28 _ := ⟨F28, F28.binds (ps := ["store", "many"]) (fun _ _ _ _ _ _ us hl => match us, hl with | [_, _], _ => rfl), PySem.W.mg_of X G a28⟩
  have T__law_order : Df K mg "_law_order" s_law_order ["store", "n"] f29 _ := ⟨F29, F29.binds (ps := ["store", "n"]) (fun _ _ _ _ _ _ us hl => match us, hl with | [_, _], _ => rfl), PySem.W.mg_of X G a29⟩
  have T__law_kinds : Df K mg "_law_kinds" s_law_kinds ["caught", "due"] f30 _ := ⟨F30, F30.binds (ps := ["caught", "due"]) (fun _ _ _ _ _ _ us hl => match us, hl with | [_, _], _ => rfl), PySem.W.mg_of X G a30⟩
  have T__law_no_order : Df K mg "_law_no_order" s_law_no_order ["store", "order"] f31 _ := ⟨F31, F31.binds (ps := ["store", "order"]) (fun _ _ _ _ _ _ us hl => match us, hl with | [_, _], _ => rfl), PySem.W.mg_of X G a31⟩
  have T__law_no_way : Df K mg "_law_no_way" s_law_no_way ["store", "way"] f32 _ := ⟨F32, F32.binds (ps := ["store", "way"]) (fun _ _ _ _ _ _ us hl => match us, hl with | [_, _], _ => rfl), PySem.W.mg_of X G a32⟩
  have T__law_caught : Df K mg "_law_caught" s_law_caught ["door", "way", "one", "r"] f33 _ := ⟨F33, F33.binds (ps := ["door", "way", "one", "r"]) (fun _ _ _ _ _ _ us hl => match us, hl with | [_, _, _, _], _ => rfl), PySem.W.mg_of X G a33⟩
  have T__law_refused : Df K mg "_law_refused" s_law_refused ["door", "way", "one", "r", "due"] f34 _ := ⟨F34, F34.binds (ps := ["door", "way", "one", "r", "due"]) (fun _ _ _ _ _ _ us hl => match us, hl with | [_, _, _, _, _], _ => rfl), PySem.W.mg_of X G a34⟩
  have T__law_counts_refused : Df K mg "_law_counts_refused" s_law_counts_refused ["store", "way", "n"] f35 _ := ⟨F35, F35.binds (ps := ["store", "way", "n"]) (fun _ _ _ _ _ _ us hl => match us, hl with | [_, _, _], _ => rfl), PySem.W.mg_of X G a35⟩
  have T__law_lists_refused : Df K mg "_law_lists_refused" s_law_lists_refused ["store", "way", "order"] f36 _ := ⟨F36, F36.binds (ps := ["store", "way", "order"]) (fun _ _ _ _ _ _ us hl => match us, hl with | [_, _, _], _ => rfl), PySem.W.mg_of X G a36⟩
  have B : Bi mg := ⟨PySem.W.mg_none_of X G z_ValueError, PySem.W.mg_none_of X G z_abs, PySem.W.mg_none_of X G z_all, PySem.W.mg_none_of X G z_bool, PySem.W.mg_none_of X G z_enumerate, PySem.W.mg_none_of X G z_int, PySem.W.mg_none_of X G z_isinstance, PySem.W.mg_none_of X G z_len, PySem.W.mg_none_of X G z_list, PySem.W.mg_none_of X G z_max, PySem.W.mg_none_of X G z_min, PySem.W.mg_none_of X G z_range, PySem.W.mg_none_of X G z_repr, PySem.W.mg_none_of X G z_sorted, PySem.W.mg_none_of X G z_str, PySem.W.mg_none_of X G z_sum, PySem.W.mg_none_of X G z_tuple⟩
  have m_WAYS := wy_mk (PySem.W.mg_of X G g_WAYS) l_WAYS
  have m_MOST_THINGS := PySem.W.mg_of X G g_MOST_THINGS
  have m_MOST_LISTED := PySem.W.mg_of X G g_MOST_LISTED
  have g_OrderError := PySem.W.mg_of X G gc_OrderError
  have g_NoOrder := PySem.W.mg_of X G gc_NoOrder
  have g_NoWay := PySem.W.mg_of X G gc_NoWay
  have g_NoFit := PySem.W.mg_of X G gc_NoFit
  have g_NoPlace := PySem.W.mg_of X G gc_NoPlace
  have g_NoNumber := PySem.W.mg_of X G gc_NoNumber
  have g_TooMany := PySem.W.mg_of X G gc_TooMany
  have g_NoText := PySem.W.mg_of X G gc_NoText
  have g_NoName := PySem.W.mg_of X G gc_NoName
  have g_NoRow := PySem.W.mg_of X G gc_NoRow
  have ec_NoOrder : ExcC K C_NoOrder := ⟨xehg_NoOrder, xehk_NoOrder, xehs_NoOrder, xehd_NoOrder, xeha_NoOrder, xehn_NoOrder, xeht_NoOrder, xehm_NoOrder⟩
  have X_NoOrder : ExK K mg "NoOrder" C_NoOrder := ⟨g_NoOrder, xq_NoOrder, xk_NoOrder, xehs_NoOrder, xt_NoOrder, ec_NoOrder⟩
  have kd_NoOrder := kd_mk9 (i := 0) ec_NoOrder xy_NoOrder_NoOrder xy_NoOrder_NoWay xy_NoOrder_NoFit xy_NoOrder_NoPlace xy_NoOrder_NoNumber xy_NoOrder_TooMany xy_NoOrder_NoText xy_NoOrder_NoName xy_NoOrder_NoRow xv_NoOrder (by decide)
  have ec_NoWay : ExcC K C_NoWay := ⟨xehg_NoWay, xehk_NoWay, xehs_NoWay, xehd_NoWay, xeha_NoWay, xehn_NoWay, xeht_NoWay, xehm_NoWay⟩
  have X_NoWay : ExK K mg "NoWay" C_NoWay := ⟨g_NoWay, xq_NoWay, xk_NoWay, xehs_NoWay, xt_NoWay, ec_NoWay⟩
  have kd_NoWay := kd_mk9 (i := 1) ec_NoWay xy_NoWay_NoOrder xy_NoWay_NoWay xy_NoWay_NoFit xy_NoWay_NoPlace xy_NoWay_NoNumber xy_NoWay_TooMany xy_NoWay_NoText xy_NoWay_NoName xy_NoWay_NoRow xv_NoWay (by decide)
  have ec_NoFit : ExcC K C_NoFit := ⟨xehg_NoFit, xehk_NoFit, xehs_NoFit, xehd_NoFit, xeha_NoFit, xehn_NoFit, xeht_NoFit, xehm_NoFit⟩
  have X_NoFit : ExK K mg "NoFit" C_NoFit := ⟨g_NoFit, xq_NoFit, xk_NoFit, xehs_NoFit, xt_NoFit, ec_NoFit⟩
  have kd_NoFit := kd_mk9 (i := 2) ec_NoFit xy_NoFit_NoOrder xy_NoFit_NoWay xy_NoFit_NoFit xy_NoFit_NoPlace xy_NoFit_NoNumber xy_NoFit_TooMany xy_NoFit_NoText xy_NoFit_NoName xy_NoFit_NoRow xv_NoFit (by decide)
  have ec_NoNumber : ExcC K C_NoNumber := ⟨xehg_NoNumber, xehk_NoNumber, xehs_NoNumber, xehd_NoNumber, xeha_NoNumber, xehn_NoNumber, xeht_NoNumber, xehm_NoNumber⟩
  have X_NoNumber : ExK K mg "NoNumber" C_NoNumber := ⟨g_NoNumber, xq_NoNumber, xk_NoNumber, xehs_NoNumber, xt_NoNumber, ec_NoNumber⟩
  have kd_NoNumber := kd_mk9 (i := 4) ec_NoNumber xy_NoNumber_NoOrder xy_NoNumber_NoWay xy_NoNumber_NoFit xy_NoNumber_NoPlace xy_NoNumber_NoNumber xy_NoNumber_TooMany xy_NoNumber_NoText xy_NoNumber_NoName xy_NoNumber_NoRow xv_NoNumber (by decide)
  exact ⟨PySem.W.fnOf "law" "law" (defArgs s_law) (defBody s_law) (defScope s_law) .none kV37 dc37 pm37 an37 cd37 ct37, fun s v => .of_eq rfl, fun base _ _ sy => ok_law F37 T__law_draws T__law_take T__law_counts_refused T__law_lists_refused T__law_order (ok_draws (k := 8) T__law_draws B) (ok_take (k := 8) T__law_take B) (ok_cref18 (k := 8) T__law_counts_refused T__law_take T__law_no_way T__law_refused (ok_take (k := 7) T__law_take B) (ok_noWay18 (k := 7) T__law_no_way T__law_take (ok_take (k := 6) T__law_take B) B) (ok_ref18 (k := 7) (c := cls9 C_NoOrder C_NoWay C_NoFit C_NoPlace C_NoNumber C_TooMany C_NoText C_NoName C_NoRow) T__law_refused T__law_caught T__law_kinds (ok_caught18 (k := 6) (c := cls9 C_NoOrder C_NoWay C_NoFit C_NoPlace C_NoNumber C_TooMany C_NoText C_NoName C_NoRow) T__law_caught T_count_within T_count_at T_all_within (ok_cwX (k := 5) T_count_within T_check_count T_known_within (ok_cntX (k := 4) T_check_count T_check_way T_check_size T_check_from (ok_wayX (k := 3) T_check_way m_WAYS X_NoWay B) (ok_sizeX (k := 3) T_check_size T_is_whole (ok_wholeD (k := 2) T_is_whole B) X_NoNumber B) (ok_fromX (k := 3) T_check_from T_is_whole (ok_wholeD (k := 2) T_is_whole B) X_NoNumber B) m_MOST_THINGS)) (ok_caX (k := 5) T_count_at T_check_count T_known_within (ok_cntX (k := 4) T_check_count T_check_way T_check_size T_check_from (ok_wayX (k := 3) T_check_way m_WAYS X_NoWay B) (ok_sizeX (k := 3) T_check_size T_is_whole (ok_wholeD (k := 2) T_is_whole B) X_NoNumber B) (ok_fromX (k := 3) T_check_from T_is_whole (ok_wholeD (k := 2) T_is_whole B) X_NoNumber B) m_MOST_THINGS)) (ok_allX (k := 5) T_all_within T_check_order T_check_way T_check_listed T_check_from T_all_orders T_known_far (ok_chk (k := 4) T_check_order T_is_order (ok_isOrdD (k := 2) T_is_order T_is_whole B m_MOST_THINGS) X_NoOrder) (ok_wayX (k := 4) T_check_way m_WAYS X_NoWay B) (ok_listX (k := 4) T_check_listed m_MOST_LISTED X_NoFit B) (ok_fromX (k := 4) T_check_from T_is_whole (ok_wholeD (k := 3) T_is_whole B) X_NoNumber B) B) g_OrderError (fun j h => match j, h with | _, .inl rfl => xm_NoOrder | _, .inr (.inl rfl) => xm_NoWay | _, .inr (.inr (.inl rfl)) => xm_NoFit | _, .inr (.inr (.inr rfl)) => xm_NoNumber)) (ok_kindsY (k := 6) (c := cls9 C_NoOrder C_NoWay C_NoFit C_NoPlace C_NoNumber C_TooMany C_NoText C_NoName C_NoRow) T__law_kinds g_NoOrder g_NoWay g_NoFit g_NoPlace g_NoNumber g_TooMany g_NoText g_NoName g_NoRow B) (fun j h => match j, h with | _, .inl rfl => kd_NoOrder | _, .inr (.inl rfl) => kd_NoWay | _, .inr (.inr (.inl rfl)) => kd_NoFit | _, .inr (.inr (.inr rfl)) => kd_NoNumber) sy B) B) (ok_lref18 (k := 8) T__law_lists_refused T__law_take T__law_no_way T__law_refused T__law_no_order (ok_take (k := 7) T__law_take B) (ok_noWay18 (k := 7) T__law_no_way T__law_take (ok_take (k := 6) T__law_take B) B) (ok_ref18 (k := 7) (c := cls9 C_NoOrder C_NoWay C_NoFit C_NoPlace C_NoNumber C_TooMany C_NoText C_NoName C_NoRow) T__law_refused T__law_caught T__law_kinds (ok_caught18 (k := 6) (c := cls9 C_NoOrder C_NoWay C_NoFit C_NoPlace C_NoNumber C_TooMany C_NoText C_NoName C_NoRow) T__law_caught T_count_within T_count_at T_all_within (ok_cwX (k := 5) T_count_within T_check_count T_known_within (ok_cntX (k := 4) T_check_count T_check_way T_check_size T_check_from (ok_wayX (k := 3) T_check_way m_WAYS X_NoWay B) (ok_sizeX (k := 3) T_check_size T_is_whole (ok_wholeD (k := 2) T_is_whole B) X_NoNumber B) (ok_fromX (k := 3) T_check_from T_is_whole (ok_wholeD (k := 2) T_is_whole B) X_NoNumber B) m_MOST_THINGS)) (ok_caX (k := 5) T_count_at T_check_count T_known_within (ok_cntX (k := 4) T_check_count T_check_way T_check_size T_check_from (ok_wayX (k := 3) T_check_way m_WAYS X_NoWay B) (ok_sizeX (k := 3) T_check_size T_is_whole (ok_wholeD (k := 2) T_is_whole B) X_NoNumber B) (ok_fromX (k := 3) T_check_from T_is_whole (ok_wholeD (k := 2) T_is_whole B) X_NoNumber B) m_MOST_THINGS)) (ok_allX (k := 5) T_all_within T_check_order T_check_way T_check_listed T_check_from T_all_orders T_known_far (ok_chk (k := 4) T_check_order T_is_order (ok_isOrdD (k := 2) T_is_order T_is_whole B m_MOST_THINGS) X_NoOrder) (ok_wayX (k := 4) T_check_way m_WAYS X_NoWay B) (ok_listX (k := 4) T_check_listed m_MOST_LISTED X_NoFit B) (ok_fromX (k := 4) T_check_from T_is_whole (ok_wholeD (k := 3) T_is_whole B) X_NoNumber B) B) g_OrderError (fun j h => match j, h with | _, .inl rfl => xm_NoOrder | _, .inr (.inl rfl) => xm_NoWay | _, .inr (.inr (.inl rfl)) => xm_NoFit | _, .inr (.inr (.inr rfl)) => xm_NoNumber)) (ok_kindsY (k := 6) (c := cls9 C_NoOrder C_NoWay C_NoFit C_NoPlace C_NoNumber C_TooMany C_NoText C_NoName C_NoRow) T__law_kinds g_NoOrder g_NoWay g_NoFit g_NoPlace g_NoNumber g_TooMany g_NoText g_NoName g_NoRow B) (fun j h => match j, h with | _, .inl rfl => kd_NoOrder | _, .inr (.inl rfl) => kd_NoWay | _, .inr (.inr (.inl rfl)) => kd_NoFit | _, .inr (.inr (.inr rfl)) => kd_NoNumber) sy B) (ok_noOrd18 (k := 7) T__law_no_order T__law_take (ok_take (k := 6) T__law_take B) B) B) (ok_order (k := 7) T__law_order T__law_take B) B⟩
end Fo
open PySem PySem.W PyProof.Rows
set_option maxRecDepth 100000 in
set_option maxHeartbeats 0 in
theorem PySem.Challenge.cw_farorders_k18_no_ways_and_no_numbers_holds : PySem.Challenge.rw_farorders_k18_no_ways_and_no_numbers.Holds := by
  w_on; o_law; k_head; (case hw => w_witness2)
  k_fill
  refine Fo.walkG (l := PySem.Challenge.rw_farorders_k18_no_ways_and_no_numbers) (n := 63) (k := 10) (y := "script") (sp := fun w => Fo.spLaw _) rfl (by decide) rfl ⟨rfl, by decide, by decide⟩ (fun w h Y => PySem.W.kIn_of Y) (by decide +kernel) ?F (fun _ _ a ns hl _ hS => ⟨a, ns, rfl, hS, hl, fun _ => rfl⟩)
  case F =>
    intro w mg fa h KX G hmg
    refine' Fo.all_mk KX G hmg ?a0 ?l0 ?c0 ?k0 ?a1 ?l1 ?c1 ?k1 ?a2 ?l2 ?c2 ?k2 ?a3 ?l3 ?c3 ?k3 ?a4 ?l4 ?c4 ?k4 ?a5 ?l5 ?c5 ?k5 ?a6 ?l6 ?c6 ?k6 ?a7 ?l7 ?c7 ?k7 ?a8 ?l8 ?c8 ?k8 ?a9 ?l9 ?c9 ?k9 ?a10 ?l10 ?c10 ?k10 ?a11 ?l11 ?c11 ?k11 ?a12 ?l12 ?c12 ?k12 ?a13 ?l13 ?c13 ?k13 ?a14 ?l14 ?c14 ?k14 ?a15 ?l15 ?c15 ?k15 ?a16 ?l16 ?c16 ?k16 ?a17 ?l17 ?c17 ?k17 ?a18 ?l18 ?c18 ?k18 ?a19 ?l19 ?c19 ?k19 ?a20 ?l20 ?c20 ?k20 ?a21 ?l21 ?c21 ?k21 ?a22 ?l22 ?c22 ?k22 ?a23 ?l23 ?c23 ?k23 ?a24 ?l24 ?c24 ?k24 ?a25 ?l25 ?c25 ?k25 ?a26 ?l26 ?c26 ?k26 ?a27 ?l27 ?c27 ?k27 ?a28 ?l28 ?c28 ?k28 ?a29 ?l29 ?c29 ?k29 ?a30 ?l30 ?c30 ?k30 ?a31 ?l31 ?c31 ?k31 ?a32 ?l32 ?c32 ?k32 ?a33 ?l33 ?c33 ?k33 ?a34 ?l34 ?c34 ?k34 ?a35 ?l35 ?c35 ?k35 ?a36 ?l36 ?c36 ?k36 ?a37 ?l37 ?c37 ?k37 ?g_MOST_THINGS ?g_MOST_LISTED ?g_WAYS ?l_WAYS ?gc_OrderError ?gc_NoOrder ?gc_NoWay ?gc_NoFit ?gc_NoPlace ?gc_NoNumber ?gc_TooMany ?gc_NoText ?gc_NoName ?gc_NoRow ?xq_NoOrder ?xk_NoOrder ?xt_NoOrder ?xm_NoOrder ?xv_NoOrder ?xehg_NoOrder ?xehk_NoOrder ?xehs_NoOrder ?xehd_NoOrder ?xeha_NoOrder ?xehn_NoOrder ?xeht_NoOrder ?xehm_NoOrder ?xy_NoOrder_NoOrder ?xy_NoOrder_NoWay ?xy_NoOrder_NoFit ?xy_NoOrder_NoPlace ?xy_NoOrder_NoNumber ?xy_NoOrder_TooMany ?xy_NoOrder_NoText ?xy_NoOrder_NoName ?xy_NoOrder_NoRow ?xq_NoWay ?xk_NoWay ?xt_NoWay ?xm_NoWay ?xv_NoWay ?xehg_NoWay ?xehk_NoWay ?xehs_NoWay ?xehd_NoWay ?xeha_NoWay ?xehn_NoWay ?xeht_NoWay ?xehm_NoWay ?xy_NoWay_NoOrder ?xy_NoWay_NoWay ?xy_NoWay_NoFit ?xy_NoWay_NoPlace ?xy_NoWay_NoNumber ?xy_NoWay_TooMany ?xy_NoWay_NoText ?xy_NoWay_NoName ?xy_NoWay_NoRow ?xq_NoFit ?xk_NoFit ?xt_NoFit ?xm_NoFit ?xv_NoFit ?xehg_NoFit ?xehk_NoFit ?xehs_NoFit ?xehd_NoFit ?xeha_NoFit ?xehn_NoFit ?xeht_NoFit ?xehm_NoFit ?xy_NoFit_NoOrder ?xy_NoFit_NoWay ?xy_NoFit_NoFit ?xy_NoFit_NoPlace ?xy_NoFit_NoNumber ?xy_NoFit_TooMany ?xy_NoFit_NoText ?xy_NoFit_NoName ?xy_NoFit_NoRow ?xq_NoNumber ?xk_NoNumber ?xt_NoNumber ?xm_NoNumber ?xv_NoNumber ?xehg_NoNumber ?xehk_NoNumber ?xehs_NoNumber ?xehd_NoNumber ?xeha_NoNumber ?xehn_NoNumber ?xeht_NoNumber ?xehm_NoNumber ?xy_NoNumber_NoOrder ?xy_NoNumber_NoWay ?xy_NoNumber_NoFit ?xy_NoNumber_NoPlace ?xy_NoNumber_NoNumber ?xy_NoNumber_TooMany ?xy_NoNumber_NoText ?xy_NoNumber_NoName ?xy_NoNumber_NoRow ?z_ValueError ?z_abs ?z_all ?z_bool ?z_enumerate ?z_int ?z_isinstance ?z_len ?z_list ?z_max ?z_min ?z_range ?z_repr ?z_sorted ?z_str ?z_sum ?z_tuple
    (case a0 => k_is); (case l0 => k_is); (case c0 => k_is); (case k0 => k_is); (case a1 => k_is); (case l1 => k_is); (case c1 => k_is); (case k1 => k_is); (case a2 => k_is); (case l2 => k_is); (case c2 => k_is); (case k2 => k_is); (case a3 => k_is); (case l3 => k_is); (case c3 => k_is); (case k3 => k_is); (case a4 => k_is); (case l4 => k_is); (case c4 => k_is); (case k4 => k_is); (case a5 => k_is); (case l5 => k_is); (case c5 => k_is); (case k5 => k_is); (case a6 => k_is); (case l6 => k_is); (case c6 => k_is); (case k6 => k_is); (case a7 => k_is); (case l7 => k_is); (case c7 => k_is); (case k7 => k_is); (case a8 => k_is); (case l8 => k_is); (case c8 => k_is); (case k8 => k_is); (case a9 => k_is); (case l9 => k_is); (case c9 => k_is); (case k9 => k_is); (case a10 => k_is); (case l10 => k_is); (case c10 => k_is); (case k10 => k_is); (case a11 => k_is); (case l11 => k_is); (case c11 => k_is); (case k11 => k_is); (case a12 => k_is); (case l12 => k_is); (case c12 => k_is); (case k12 => k_is); (case a13 => k_is); (case l13 => k_is); (case c13 => k_is); (case k13 => k_is); (case a14 => k_is); (case l14 => k_is); (case c14 => k_is); (case k14 => k_is); (case a15 => k_is); (case l15 => k_is); (case c15 => k_is); (case k15 => k_is); (case a16 => k_is); (case l16 => k_is); (case c16 => k_is); (case k16 => k_is); (case a17 => k_is); (case l17 => k_is); (case c17 => k_is); (case k17 => k_is); (case a18 => k_is); (case l18 => k_is); (case c18 => k_is); (case k18 => k_is); (case a19 => k_is); (case l19 => k_is); (case c19 => k_is); (case k19 => k_is); (case a20 => k_is); (case l20 => k_is); (case c20 => k_is); (case k20 => k_is); (case a21 => k_is); (case l21 => k_is); (case c21 => k_is); (case k21 => k_is); (case a22 => k_is); (case l22 => k_is); (case c22 => k_is); (case k22 => k_is); (case a23 => k_is); (case l23 => k_is); (case c23 => k_is); (case k23 => k_is); (case a24 => k_is); (case l24 => k_is); (case c24 => k_is); (case k24 => k_is); (case a25 => k_is); (case l25 => k_is); (case c25 => k_is); (case k25 => k_is); (case a26 => k_is); (case l26 => k_is); (case c26 => k_is); (case k26 => k_is); (case a27 => k_is); (case l27 => k_is); (case c27 => k_is); (case k27 => k_is); (case a28 => k_is); (case l28 => k_is); (case c28 => k_is); (case k28 => k_is); (case a29 => k_is); (case l29 => k_is); (case c29 => k_is); (case k29 => k_is); (case a30 => k_is); (case l30 => k_is); (case c30 => k_is); (case k30 => k_is); (case a31 => k_is); (case l31 => k_is); (case c31 => k_is); (case k31 => k_is); (case a32 => k_is); (case l32 => k_is); (case c32 => k_is); (case k32 => k_is); (case a33 => k_is); (case l33 => k_is); (case c33 => k_is); (case k33 => k_is); (case a34 => k_is); (case l34 => k_is); (case c34 => k_is); (case k34 => k_is); (case a35 => k_is); (case l35 => k_is); (case c35 => k_is); (case k35 => k_is); (case a36 => k_is); (case l36 => k_is); (case c36 => k_is); (case k36 => k_is); (case a37 => k_is); (case l37 => k_is); (case c37 => k_is); (case k37 => k_is); (case g_MOST_THINGS => k_is); (case g_MOST_LISTED => k_is); (case g_WAYS => k_is); (case l_WAYS => k_is); (case z_ValueError => k_is); (case z_abs => k_is); (case z_all => k_is); (case z_bool => k_is); (case z_enumerate => k_is); (case z_int => k_is); (case z_isinstance => k_is); (case z_len => k_is); (case z_list => k_is); (case z_max => k_is); (case z_min => k_is); (case z_range => k_is); (case z_repr => k_is); (case z_sorted => k_is); (case z_str => k_is); (case z_sum => k_is); (case z_tuple => k_is)
    (case gc_OrderError => first | k_is | rfl | kernel_rfl); (case gc_NoOrder => first | k_is | rfl | kernel_rfl); (case gc_NoWay => first | k_is | rfl | kernel_rfl); (case gc_NoFit => first | k_is | rfl | kernel_rfl); (case gc_NoPlace => first | k_is | rfl | kernel_rfl); (case gc_NoNumber => first | k_is | rfl | kernel_rfl); (case gc_TooMany => first | k_is | rfl | kernel_rfl); (case gc_NoText => first | k_is | rfl | kernel_rfl); (case gc_NoName => first | k_is | rfl | kernel_rfl); (case gc_NoRow => first | k_is | rfl | kernel_rfl); (case xq_NoOrder => first | k_is | rfl | kernel_rfl); (case xk_NoOrder => first | k_is | rfl | kernel_rfl); (case xt_NoOrder => first | k_is | rfl | kernel_rfl); (case xm_NoOrder => first | k_is | rfl | kernel_rfl); (case xv_NoOrder => first | k_is | rfl | kernel_rfl); (case xehg_NoOrder => first | k_is | rfl | kernel_rfl); (case xehk_NoOrder => first | k_is | rfl | kernel_rfl); (case xehs_NoOrder => first | k_is | rfl | kernel_rfl); (case xehd_NoOrder => first | k_is | rfl | kernel_rfl); (case xeha_NoOrder => first | k_is | rfl | kernel_rfl); (case xehn_NoOrder => first | k_is | rfl | kernel_rfl); (case xeht_NoOrder => first | k_is | rfl | kernel_rfl); (case xehm_NoOrder => first | k_is | rfl | kernel_rfl); (case xy_NoOrder_NoOrder => first | k_is | rfl | kernel_rfl); (case xy_NoOrder_NoWay => first | k_is | rfl | kernel_rfl); (case xy_NoOrder_NoFit => first | k_is | rfl | kernel_rfl); (case xy_NoOrder_NoPlace => first | k_is | rfl | kernel_rfl); (case xy_NoOrder_NoNumber => first | k_is | rfl | kernel_rfl); (case xy_NoOrder_TooMany => first | k_is | rfl | kernel_rfl); (case xy_NoOrder_NoText => first | k_is | rfl | kernel_rfl); (case xy_NoOrder_NoName => first | k_is | rfl | kernel_rfl); (case xy_NoOrder_NoRow => first | k_is | rfl | kernel_rfl); (case xq_NoWay => first | k_is | rfl | kernel_rfl); (case xk_NoWay => first | k_is | rfl | kernel_rfl); (case xt_NoWay => first | k_is | rfl | kernel_rfl); (case xm_NoWay => first | k_is | rfl | kernel_rfl); (case xv_NoWay => first | k_is | rfl | kernel_rfl); (case xehg_NoWay => first | k_is | rfl | kernel_rfl); (case xehk_NoWay => first | k_is | rfl | kernel_rfl); (case xehs_NoWay => first | k_is | rfl | kernel_rfl); (case xehd_NoWay => first | k_is | rfl | kernel_rfl); (case xeha_NoWay => first | k_is | rfl | kernel_rfl); (case xehn_NoWay => first | k_is | rfl | kernel_rfl); (case xeht_NoWay => first | k_is | rfl | kernel_rfl); (case xehm_NoWay => first | k_is | rfl | kernel_rfl); (case xy_NoWay_NoOrder => first | k_is | rfl | kernel_rfl); (case xy_NoWay_NoWay => first | k_is | rfl | kernel_rfl); (case xy_NoWay_NoFit => first | k_is | rfl | kernel_rfl); (case xy_NoWay_NoPlace => first | k_is | rfl | kernel_rfl); (case xy_NoWay_NoNumber => first | k_is | rfl | kernel_rfl); (case xy_NoWay_TooMany => first | k_is | rfl | kernel_rfl); (case xy_NoWay_NoText => first | k_is | rfl | kernel_rfl); (case xy_NoWay_NoName => first | k_is | rfl | kernel_rfl); (case xy_NoWay_NoRow => first | k_is | rfl | kernel_rfl); (case xq_NoFit => first | k_is | rfl | kernel_rfl); (case xk_NoFit => first | k_is | rfl | kernel_rfl); (case xt_NoFit => first | k_is | rfl | kernel_rfl); (case xm_NoFit => first | k_is | rfl | kernel_rfl); (case xv_NoFit => first | k_is | rfl | kernel_rfl); (case xehg_NoFit => first | k_is | rfl | kernel_rfl); (case xehk_NoFit => first | k_is | rfl | kernel_rfl); (case xehs_NoFit => first | k_is | rfl | kernel_rfl); (case xehd_NoFit => first | k_is | rfl | kernel_rfl); (case xeha_NoFit => first | k_is | rfl | kernel_rfl); (case xehn_NoFit => first | k_is | rfl | kernel_rfl); (case xeht_NoFit => first | k_is | rfl | kernel_rfl); (case xehm_NoFit => first | k_is | rfl | kernel_rfl); (case xy_NoFit_NoOrder => first | k_is | rfl | kernel_rfl); (case xy_NoFit_NoWay => first | k_is | rfl | kernel_rfl); (case xy_NoFit_NoFit => first | k_is | rfl | kernel_rfl); (case xy_NoFit_NoPlace => first | k_is | rfl | kernel_rfl); (case xy_NoFit_NoNumber => first | k_is | rfl | kernel_rfl); (case xy_NoFit_TooMany => first | k_is | rfl | kernel_rfl); (case xy_NoFit_NoText => first | k_is | rfl | kernel_rfl); (case xy_NoFit_NoName => first | k_is | rfl | kernel_rfl); (case xy_NoFit_NoRow => first | k_is | rfl | kernel_rfl); (case xq_NoNumber => first | k_is | rfl | kernel_rfl); (case xk_NoNumber => first | k_is | rfl | kernel_rfl); (case xt_NoNumber => first | k_is | rfl | kernel_rfl); (case xm_NoNumber => first | k_is | rfl | kernel_rfl); (case xv_NoNumber => first | k_is | rfl | kernel_rfl); (case xehg_NoNumber => first | k_is | rfl | kernel_rfl); (case xehk_NoNumber => first | k_is | rfl | kernel_rfl); (case xehs_NoNumber => first | k_is | rfl | kernel_rfl); (case xehd_NoNumber => first | k_is | rfl | kernel_rfl); (case xeha_NoNumber => first | k_is | rfl | kernel_rfl); (case xehn_NoNumber => first | k_is | rfl | kernel_rfl); (case xeht_NoNumber => first | k_is | rfl | kernel_rfl); (case xehm_NoNumber => first | k_is | rfl | kernel_rfl); (case xy_NoNumber_NoOrder => first | k_is | rfl | kernel_rfl); (case xy_NoNumber_NoWay => first | k_is | rfl | kernel_rfl); (case xy_NoNumber_NoFit => first | k_is | rfl | kernel_rfl); (case xy_NoNumber_NoPlace => first | k_is | rfl | kernel_rfl); (case xy_NoNumber_NoNumber => first | k_is | rfl | kernel_rfl); (case xy_NoNumber_TooMany => first | k_is | rfl | kernel_rfl); (case xy_NoNumber_NoText => first | k_is | rfl | kernel_rfl); (case xy_NoNumber_NoName => first | k_is | rfl | kernel_rfl); (case xy_NoNumber_NoRow => first | k_is | rfl | kernel_rfl)

