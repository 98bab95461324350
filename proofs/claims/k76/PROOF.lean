import PyProof.Rows.All
import Wide.All
import OpenK.AllK
import Wide.FinOn
import HandS.ForMost
import HandS.IsInst
import HandS.Conv
import HandS.Style
import HandS.More
import HandS.Evl
import HandS.Zip
import HandS.SetFor
import HandS.Sort
import HandS.Wide
import HandS.Deep
import KE.SortData
import PyProof.ReprRoads
import HandS.Exc
import HandS.ExcOwn
import HandS.ExcIs
import HandS.ExcValue
import HandS.Small
import HandS.FStr
import HandS.WordsExc
import KE.KDictZip
import HandS.RaiseMore
import HandS.SortKw
import KE.DatumOrd
import HandS.SetBool
import HandS.TupSets
import PyProof.SetRoads
import HandS.NoneIn
import PySem.Challenge.RW_farorders_k76_whole_listers_otherwise
set_option Elab.async false
set_option linter.all false
set_option maxRecDepth 100000
namespace Fo
open PySem PySem.Spec PyProof.Rows L2
/-! ### lists and orders -/
def rg (n : Nat) : List Int := (List.range n).map fun k => ((k : Nat) : Int)
def IsOrd (n : Nat) (ns : List Int) : Prop := ns.Perm (rg n)
theorem rg_len (n : Nat) : (rg n).length = n := by
  unfold rg
  rw [List.length_map, List.length_range]
theorem rg_mem {n : Nat} {x : Int} : x ∈ rg n ↔ 0 ≤ x ∧ x < n := by
  unfold rg
  rw [List.mem_map]
  constructor
  · rintro ⟨k, hk, rfl⟩
    have := List.mem_range.mp hk
    omega
  · rintro ⟨h0, h1⟩
    exact ⟨x.toNat, List.mem_range.mpr (by omega), by omega⟩
theorem rg_nodup (n : Nat) : (rg n).Nodup := by
  unfold rg
  exact List.Pairwise.map _ (fun a b h e => h (by omega)) List.nodup_range
theorem rg_sorted (n : Nat) : (rg n).Pairwise (· ≤ ·) := by
  unfold rg
  exact List.Pairwise.map _ (fun a b h => by omega) List.pairwise_lt_range
theorem rg_V (n : Nat) : rgV 0 (n : Int) = (rg n).map V.int := by
  unfold rgV rg
  rw [List.map_map, show ((n : Int) - 0).toNat = n by omega]
  apply List.map_congr_left
  intro a _
  show V.int (0 + (a : Int)) = V.int (a : Int)
  rw [Int.zero_add]
theorem IsOrd.len {n : Nat} {ns : List Int} (h : IsOrd n ns) : ns.length = n := (List.Perm.length_eq h).trans (rg_len n)
theorem IsOrd.mem {n : Nat} {ns : List Int} (h : IsOrd n ns) {x : Int} (m : x ∈ ns) : 0 ≤ x ∧ x < n := rg_mem.mp ((List.Perm.mem_iff h).mp m)
theorem IsOrd.nodup {n : Nat} {ns : List Int} (h : IsOrd n ns) : ns.Nodup := (List.Perm.nodup_iff h).mpr (rg_nodup n)
/-- two sorted lists of the same things are one -/
theorem sorted_eq : ∀ {a b : List Int}, a.Perm b → a.Pairwise (· ≤ ·) → b.Pairwise (· ≤ ·) → a = b := by
  intro a b hp ha hb
  exact List.Perm.eq_of_pairwise (fun x y _ _ h1 h2 => by omega) ha hb hp
/-- the things at p and p + 1 change places -/
def sw (xs : List Int) (p : Nat) : List Int := (xs.set p (xs.getD (p + 1) 0)).set (p + 1) (xs.getD p 0)
theorem split2 : ∀ {xs : List Int} {p : Nat}, p + 1 < xs.length → ∃ A a b B, xs = A ++ a :: b :: B ∧ A.length = p
  | [], p, h => by simp at h
  | [_], p, h => by simp at h
  | a :: b :: r, 0, _ => ⟨[], a, b, r, rfl, rfl⟩
  | a :: b :: r, p + 1, h => by
    obtain ⟨A, x, y, B, e, l⟩ := split2 (xs := b :: r) (p := p) (by simpa using h)
    exact ⟨a :: A, x, y, B, by rw [e]; rfl, by rw [List.length_cons, l]⟩
theorem sw_at : ∀ (A : List Int) (a b : Int) (B : List Int), sw (A ++ a :: b :: B) A.length = A ++ b :: a :: B
  | [], a, b, B => rfl
  | x :: A, a, b, B => by
    have ih := sw_at A a b B
    unfold sw at ih ⊢
    show x :: _ = x :: _
    exact congrArg (x :: ·) ih
theorem sw_perm {xs : List Int} {p : Nat} (h : p + 1 < xs.length) : (sw xs p).Perm xs := by
  obtain ⟨A, a, b, B, rfl, rfl⟩ := split2 h
  rw [sw_at]
  exact List.Perm.append_left A (List.Perm.swap a b B)
theorem sw_len (xs : List Int) (p : Nat) : (sw xs p).length = xs.length := by
  unfold sw
  rw [List.length_set, List.length_set]
theorem sw_ord {n : Nat} {xs : List Int} {p : Nat} (o : IsOrd n xs) (h : p + 1 < n) : IsOrd n (sw xs p) :=
  (sw_perm (by rw [o.len]; exact h)).trans o
theorem sw_V {xs : List Int} {p : Nat} {a b : Int} (ha : xs[p]? = some a) (hb : xs[p + 1]? = some b) : ((xs.map V.int).set p (V.int b)).set (p + 1) (V.int a) = (sw xs p).map V.int := by
  unfold sw
  rw [List.getD_eq_getElem?_getD, List.getD_eq_getElem?_getD, ha, hb, List.map_set, List.map_set]
  rfl
theorem pop_ins {xs : List Int} {p : Nat} {a : Int} (h : p + 1 < xs.length) (ha : xs[p]? = some a) : (xs.eraseIdx p).take (p + 1) ++ [a] ++ (xs.eraseIdx p).drop (p + 1) = sw xs p := by
  obtain ⟨A, x, y, B, rfl, rfl⟩ := split2 h
  have ex : x = a := by
    rw [List.getElem?_append_right (Nat.le_refl _), Nat.sub_self] at ha
    exact Option.some.inj ha
  subst ex
  rw [sw_at, List.eraseIdx_append_of_length_le (Nat.le_refl _), Nat.sub_self]
  show (A ++ y :: B).take (A.length + 1) ++ [x] ++ (A ++ y :: B).drop (A.length + 1) = _
  rw [List.take_append, List.drop_append]
  have t : A.length + 1 - A.length = 1 := by omega
  rw [t, List.take_of_length_le (by omega), List.drop_of_length_le (by omega)]
  simp
/-- the order at a walk's end -/
def wEnd (xs : List Int) (ws : List Int) : List Int := ws.foldl (fun x p => sw x p.toNat) xs
theorem wEnd_more {xs ws : List Int} {i : Nat} {p : Int} (h : ws[i]? = some p) : wEnd xs (ws.take (i + 1)) = sw (wEnd xs (ws.take i)) p.toNat := by
  unfold wEnd
  rw [List.take_add_one, h, List.foldl_append]
  rfl
theorem wEnd_ord {n : Nat} {xs : List Int} (o : IsOrd n xs) : ∀ {ws : List Int}, (∀ p ∈ ws, 0 ≤ p ∧ p + 1 < n) → IsOrd n (wEnd xs ws) := by
  intro ws
  induction ws generalizing xs with
  | nil => intro _; exact o
  | cons p ws ih =>
    intro h
    have hp := h p List.mem_cons_self
    exact ih (sw_ord o (by omega)) fun q hq => h q (List.mem_cons_of_mem _ hq)
theorem nodup_len : ∀ {l m : List Int}, l.Nodup → (∀ x ∈ l, x ∈ m) → l.length ≤ m.length
  | [], m, _, _ => Nat.zero_le _
  | a :: l, m, hn, hs => by
    obtain ⟨h1, h2⟩ := List.nodup_cons.mp hn
    have ha := hs a List.mem_cons_self
    have ih := nodup_len (l := l) (m := m.erase a) h2 fun x hx => by
      have ne : x ≠ a := fun e => h1 (by rw [← e]; exact hx)
      exact (List.mem_erase_of_ne ne).mpr (hs x (List.mem_cons_of_mem _ hx))
    rw [List.length_erase_of_mem ha] at ih
    have : 0 < m.length := List.length_pos_of_mem ha
    rw [List.length_cons]
    omega
theorem int_at {ns : List Int} {i : Nat} {x : Int} (h : ns[i]? = some x) : (ns.map V.int)[i]? = some (V.int x) := by
  rw [List.getElem?_map, h]
  rfl
theorem int_at_inv {ns : List Int} {i : Nat} {v : V} (h : (ns.map V.int)[i]? = some v) : ∃ x, ns[i]? = some x ∧ v = V.int x := by
  rw [List.getElem?_map] at h
  cases e : ns[i]? with
  | none => rw [e] at h; cases h
  | some x => rw [e] at h; exact ⟨x, rfl, (Option.some.inj h).symm⟩
theorem line_small {n : Nat} (h : n ≤ 16777216) : n ≤ sizeLine := by rw [sizeLine_eq]; exact h
theorem line_lt {n : Nat} (h : n < 16777216) : n < sizeLine := by rw [sizeLine_eq]; exact h
/-! ### data of ints -/
theorem dp_ints {K : PySem.W.Frag} {H : Hp} : ∀ ns : List Int, DpAll K H (ns.map V.int) (ns.map PyData.int)
  | [] => .nil
  | n :: r => .cons (.int n) (dp_ints r)
theorem dp_list {K : PySem.W.Frag} {H : Hp} {a : Addr} {ns : List Int} (h : H a = some (.lst (ns.map V.int))) : Dp K H (.ref a) (.list (ns.map PyData.int)) := .lst (SqL.of h) (dp_ints ns)
theorem eqv_int (i j : Int) : PyData.eqv (.int i) (.int j) = (i == j) := rfl
end Fo
namespace Fo
open PySem PySem.Spec PyProof.Rows L2
abbrev dI (ns : List Int) : List PyData := ns.map PyData.int
abbrev dL (ns : List Int) : PyData := .list (dI ns)
abbrev dLL (l : List (List Int)) : PyData := .list (l.map dL)
theorem lay_ints : ∀ ns : List Int, PyData.canLayAll0 (dI ns) = true
  | [] => rfl
  | n :: r => by
    show (PyData.canLay0 (.int n) && PyData.canLayAll0 (dI r)) = true
    rw [lay_ints r]
    rfl
theorem depth_ints : ∀ ns : List Int, PyData.depthAll (dI ns) = 0
  | [] => by simp [PyData.depthAll]
  | n :: r => by
    show PyData.depthAll (.int n :: dI r) = 0
    rw [PyData.depthAll, depth_ints r]
    simp [PyData.depth]
theorem lay_list (ns : List Int) : PyData.canLay0 (dL ns) = true := by
  rw [PyData.canLay0]
  exact lay_ints ns
theorem depth_list (ns : List Int) : PyData.depth (dL ns) = 1 := by
  rw [PyData.depth, depth_ints]
theorem shaped_list (ns : List Int) : SeqAt.shaped (dL ns) = true := by
  unfold SeqAt.shaped
  rw [lay_list, depth_list]
  rfl
theorem lay_lists : ∀ l : List (List Int), PyData.canLayAll0 (l.map dL) = true
  | [] => rfl
  | n :: r => by
    show (PyData.canLay0 (dL n) && PyData.canLayAll0 (r.map dL)) = true
    rw [lay_lists r, lay_list]
    rfl
theorem depth_lists : ∀ l : List (List Int), PyData.depthAll (l.map dL) ≤ 1
  | [] => by simp [PyData.depthAll]
  | n :: r => by
    show PyData.depthAll (dL n :: r.map dL) ≤ 1
    rw [PyData.depthAll, depth_list]
    have := depth_lists r
    omega
theorem shaped_lists (l : List (List Int)) : SeqAt.shaped (dLL l) = true := by
  unfold SeqAt.shaped
  rw [Bool.and_eq_true_iff]
  constructor
  · rw [PyData.canLay0]
    exact lay_lists l
  · apply decide_eq_true
    rw [PyData.depth]
    have := depth_lists l
    omega
theorem eqv_list (ns : List Int) : PyData.eqv (dL ns) (dL ns) = true := SeqAt.eqv_refl _ (lay_list ns)
theorem eqv_lists (l : List (List Int)) : PyData.eqv (dLL l) (dLL l) = true := SeqAt.eqv_refl _ (SeqAt.canLay_of_shaped (shaped_lists l))
theorem eqvAll_ints : ∀ a b : List Int, PyData.eqvAll (dI a) (dI b) = decide (a = b)
  | [], [] => by simp [PyData.eqvAll]
  | [], _ :: _ => by simp [PyData.eqvAll]
  | _ :: _, [] => by simp [PyData.eqvAll]
  | x :: a, y :: b => by
    show PyData.eqvAll (.int x :: dI a) (.int y :: dI b) = _
    rw [PyData.eqvAll, eqvAll_ints a b]
    show ((x == y) && decide (a = b)) = decide (x :: a = y :: b)
    by_cases h : x = y
    · subst h
      simp
    · simp [h]
theorem eqv_ints (a b : List Int) : PyData.eqv (dL a) (dL b) = decide (a = b) := by
  rw [PyData.eqv]
  exact eqvAll_ints a b
end Fo
namespace Fo
open PySem PySem.Spec PyProof.Rows L2
/-! ### slices of ints -/
def cutI (ws : List Int) (lo hi : Option Int) : List Int := (ws.drop (HT.sIx ws.length 0 lo)).take (HT.sIx ws.length ws.length hi - HT.sIx ws.length 0 lo)
theorem cut_ints (ws : List Int) (lo hi : Option Int) : cutV (ws.map V.int) lo hi = (cutI ws lo hi).map V.int := by
  unfold cutV cutI
  rw [List.length_map, List.map_take, List.map_drop]
theorem cutI_mem {ws : List Int} {lo hi : Option Int} {x : Int} (h : x ∈ cutI ws lo hi) : x ∈ ws := List.mem_of_mem_drop (List.mem_of_mem_take h)
theorem cutI_len (ws : List Int) (lo hi : Option Int) : (cutI ws lo hi).length ≤ ws.length := by
  unfold cutI
  rw [List.length_take, List.length_drop]
  omega
theorem cutI_head (ws : List Int) (k : Nat) : cutI ws none (some (k : Int)) = ws.take k := by
  unfold cutI
  rw [HT.sIx_none, HT.sIx_nat, List.drop_zero, Nat.sub_zero]
  by_cases h : k ≤ ws.length
  · rw [Nat.min_eq_left h]
  · rw [Nat.min_eq_right (by omega), List.take_length, List.take_of_length_le (by omega)]
theorem cutI_tail (ws : List Int) (k : Nat) : cutI ws (some (k : Int)) none = ws.drop k := by
  unfold cutI
  rw [HT.sIx_none, HT.sIx_nat]
  by_cases h : k ≤ ws.length
  · rw [Nat.min_eq_left h, List.take_of_length_le (by rw [List.length_drop]; exact Nat.le_refl _)]
  · rw [Nat.min_eq_right (by omega), List.drop_of_length_le (Nat.le_refl _), List.drop_of_length_le (by omega), List.take_nil]
end Fo
namespace Fo
open PySem PySem.Spec PyProof.Rows L2
/-! ### the text -/
def topS (i : Nat) : Stmt := PySem.Challenge.pw_farorders_k76_whole_listers_otherwise.main.body.getD i (.Pass ⟨0, 0, 0, 0⟩)
abbrev s_wall : Stmt := topS 0
abbrev s_OrderError : Stmt := topS 2
abbrev s_NoOrder : Stmt := topS 3
abbrev s_NoWay : Stmt := topS 4
abbrev s_NoFit : Stmt := topS 5
abbrev s_NoNumber : Stmt := topS 6
abbrev s_TooMany : Stmt := topS 7
abbrev s_is_whole : Stmt := topS 10
abbrev s_check_way : Stmt := topS 11
abbrev s_check_from : Stmt := topS 12
abbrev s_check_size : Stmt := topS 13
abbrev s_check_apart : Stmt := topS 14
abbrev s_is_order : Stmt := topS 18
abbrev s_check_order : Stmt := topS 19
abbrev s_check_fit : Stmt := topS 20
abbrev s_is_order_list : Stmt := topS 21
abbrev s_is_unlike_list : Stmt := topS 22
abbrev s_places_in : Stmt := topS 23
abbrev s_seats_in : Stmt := topS 24
abbrev s_known_far : Stmt := topS 25
abbrev s_far_by_swap : Stmt := topS 26
abbrev s_far_by_spot : Stmt := topS 27
abbrev s_far_by_shift : Stmt := topS 28
abbrev s_check_many : Stmt := topS 30
abbrev s_Lister : Stmt := topS 33
abbrev s_Lister___init__ : Stmt := inClass (topS 33) 0
abbrev s_Lister_come : Stmt := inClass (topS 33) 1
abbrev s_Lister_drop : Stmt := inClass (topS 33) 2
abbrev s_Lister_change_to : Stmt := inClass (topS 33) 3
abbrev s_Lister_undo : Stmt := inClass (topS 33) 4
abbrev s_Lister_orders : Stmt := inClass (topS 33) 5
abbrev s_Lister_least_apart : Stmt := inClass (topS 33) 6
abbrev s_Lister_first_more : Stmt := inClass (topS 33) 7
abbrev s_Lister_how_many_more : Stmt := inClass (topS 33) 8
abbrev s_nearest_of : Stmt := topS 35
abbrev s_check_led : Stmt := topS 36
abbrev s_check_unlike_list : Stmt := topS 37
abbrev s_those_within : Stmt := topS 38
abbrev s_law_cell_at : Stmt := topS 40
abbrev s_law_stir : Stmt := topS 41
abbrev s_law_deck : Stmt := topS 42
abbrev s_law_next : Stmt := topS 43
abbrev s_law_order : Stmt := topS 44
abbrev s_law_near : Stmt := topS 45
abbrev s_law_free : Stmt := topS 46
abbrev s_law_turned : Stmt := topS 47
abbrev s_law_told_right : Stmt := topS 48
abbrev s_law_dropped_right : Stmt := topS 49
abbrev s_law : Stmt := topS 50
/-- a def of the text, where it stands -/
structure Df (K : PySem.W.Frag) (mg : Str → Option Value) (x : Str) (st : Stmt) (ps : List Str) (f : Addr) (fd : FuncData) : Prop where
  F : Fun K x x st f fd
  b : Binds K fd ps []
  g : mg x = some (.ref f)
/-- the built-in names as they were -/
structure Bi (mg : Str → Option Value) : Prop where
  ValueError : mg "ValueError" = none
  abs : mg "abs" = none
  all : mg "all" = none
  bool : mg "bool" = none
  enumerate : mg "enumerate" = none
  int : mg "int" = none
  isinstance : mg "isinstance" = none
  len : mg "len" = none
  list : mg "list" = none
  max : mg "max" = none
  min : mg "min" = none
  range : mg "range" = none
  sorted : mg "sorted" = none
  str : mg "str" = none
  tuple : mg "tuple" = none
end Fo
namespace Fo
open PySem PySem.Spec PyProof.Rows L2
theorem same_new {H : Hp} {p : Addr} {o : HO} (h : H p = none) : Same H (upd H p o) := fun b x e => by
  rw [upd_ne (ne_of_none e h)]
  exact e
theorem at2_0 {x y : V} : atI [x, y] 0 = some x := rfl
theorem at2_1 {x y : V} : atI [x, y] 1 = some y := rfl
end Fo
namespace Fo
open PySem PySem.Spec PyProof.Rows L2
theorem pop_perm : ∀ {xs : List Int} {k : Nat} {y : Int}, xs[k]? = some y → (y :: xs.eraseIdx k).Perm xs
  | [], k, y, h => by simp at h
  | a :: r, 0, y, h => by
    have e : a = y := Option.some.inj h
    subst e
    exact List.Perm.refl _
  | a :: r, k + 1, y, h => by
    have ih := pop_perm (xs := r) (k := k) (y := y) h
    show (y :: a :: r.eraseIdx k).Perm (a :: r)
    exact (List.Perm.swap a y _).trans (List.Perm.cons a ih)
theorem map_erase : ∀ (xs : List Int) (k : Nat), (xs.map V.int).eraseIdx k = (xs.eraseIdx k).map V.int
  | [], k => rfl
  | a :: r, 0 => rfl
  | a :: r, k + 1 => congrArg (V.int a :: ·) (map_erase r k)
/-- what len asks of a list or a tuple -/
abbrev rLenS (K : PySem.W.Frag) : List V → Hp → VK → Prop := fun xs H Q => ∃ p ys, xs = [.ref p] ∧ (SqL K H p ys ∨ SqT K H p ys) ∧ Q (.int ys.length) H
theorem seq_ix {i : Int} {k n : Nat} (e : i = (k : Int)) (h : k < n) : seqIndex? i n = some k := by
  subst e
  unfold seqIndex?
  have h1 : ¬ ((k : Int) < 0) := by omega
  simp only [h1, if_false]
  have h2 : (decide ((0 : Int) ≤ (k : Int)) && decide ((k : Int) < (n : Int))) = true := by
    simp
    omega
  rw [if_pos h2, Int.toNat_natCast]
theorem ix_n {i : Int} {k n : Nat} (e : i = (k : Int)) (h : k < n) : ixN n i = some k := by
  subst e
  unfold ixN
  rw [if_pos (by omega), if_pos (by omega), Int.toNat_natCast]
end Fo
namespace Fo
open PySem PySem.Spec PyProof.Rows L2
abbrev rMax2 : List V → Hp → VK → Prop := fun xs H Q => ∃ i j, xs = [.int i, .int j] ∧ Q (.int (if j > i then j else i)) H
abbrev rMin2 : List V → Hp → VK → Prop := fun xs H Q => ∃ i j, xs = [.int i, .int j] ∧ Q (.int (if j < i then j else i)) H
abbrev rInt1 : List V → Hp → VK → Prop := fun xs H Q => (∃ i, xs = [.int i] ∧ Q (.int i) H) ∨ ∃ k, xs = [.bl k] ∧ Q (.int (if k then 1 else 0)) H
theorem filter_more {l : List Int} {m : Nat} {x : Int} (p : Int → Bool) (h : l[m]? = some x) : (l.take (m + 1)).filter p = (l.take m).filter p ++ (if p x then [x] else []) := by
  rw [List.take_add_one, h, List.filter_append]
  show _ ++ List.filter p [x] = _
  rw [List.filter_cons]
  rfl
end Fo
namespace Fo
open PySem PySem.Spec PyProof.Rows L2
/-- what is tracked lies elsewhere than the table of modules -/
def SysAt (base : Heap) : Prop := ∃ o, base.get? sysModules = some o
/-! defs that ask repr: they want to know that no other repr is under way (A.guards) -/
structure FnG (P : Program) (w : World) (K : PySem.W.Frag) (mg : Str → Option Value) (base : Heap) (k : Nat) (f : Addr) (fd : FuncData) (ps : List Str) (sp : Sp) : Prop where
  len : ∀ vs H Q E, sp vs H Q E → vs.length = ps.length
  go : ∀ (A : Around) (outer : List Env) (s : Shared) (H : Hp) (args : Args) (us : List Value) (vs : List V) (Q : VK) (E : XK), A.guards = some [] → Room k A → Env0 P w K mg base A outer s H → BindsTo s fd args (ps.zip us) → Vals vs us → sp vs H Q E → codeAny (model P w) A (.call (.ref f) args) (CR CX0 outer P w H s Q E) s
section
variable {P : Program} {w : World} {K : PySem.W.Frag} {mg : Str → Option Value} {base : Heap}
/-- as Fun.ok -/
theorem okG {y qual : Str} {st : Stmt} {f : Addr} {fd : FuncData} {N ps : List Str} {k : Nat} {sp : Sp} (F : Fun K y qual st f fd) (S : FnScope N ps (defScope st)) (len : ∀ vs H Q E, sp vs H Q E → vs.length = ps.length)
    (body : ∀ (cdv : Value) (A : Around) (outer : List Env) (s : Shared) (H : Hp) (vs : List V) (Q : VK) (E : XK), A.guards = some [] → Room k (A.deeper (envOfC qual (defScope st) s.heap.objs.size f cdv)) → sp vs H Q E →
      ∃ t, PSs (cxOf CX0 P w K mg base N qual (defScope st) f cdv A outer s H E).nox (defBody st) t ∧ t { nx := fun _ H' => Q .non H', rt := Q } (start N vs) H) : FnG P w K mg base (k + 1) f fd ps sp := by
  obtain ⟨oc, od, kV, dc, pm, an, cdv, ct, osl, rfl, lk, hcd⟩ := F.ex
  refine ⟨len, fun A outer s H args us vs Q E gA rm ev bn rv h => ?_⟩
  have kin : K.In s.heap := ev.mod.kin.keeps fun b o e => (ev.bs b o e).1
  have nol : s.heap.NoLimit := ev.mod.nolimit.keeps fun b o e => (ev.bs b o e).1
  refine codeAny_call_function rm.depth (kin _ _ lk) rfl S.co S.gen rfl (PySem.W.codeRec_of kin hcd) (bn _ _ _ _ ?_)
  refine wpAny_newFunctionEnv_cells S.kind (fun yv hy => ?_) fun env he s1 inc => ?_
  · rcases S.par yv.1 (List.of_mem_zip hy).1 with z | z
    · exact .inl z
    · exact .inr ⟨z, PySem.W.cellsFrom_some _ _ _ (.inl z)⟩
  · subst he
    refine ⟨nol.keeps inc.toInCall.keep, codeAny_func ?_⟩
    obtain ⟨t, pt, qt⟩ := body cdv A outer s H vs Q E gA (rm.deeper _) h
    have J : Inv (cxOf CX0 P w K mg base N qual (defScope st) f cdv A outer s H E) [] (start N vs) H s1 := inv_start S rm.hd ev (len _ _ _ _ h) rv inc
    refine wpAny_mono (pt.nox.run [] s1 (start N vs) H _ J qt) (fun fl s' z => ?_) fun _ _ z => z
    cases fl with
    | brk => exact z.choose_spec.choose_spec.2.elim
    | cont => exact z.choose_spec.choose_spec.2.elim
    | next =>
      obtain ⟨σ', H', J', q⟩ := z
      exact ⟨V.non, H', J'.os, J'.bare, J'.base, J'.hok, rfl, q⟩
    | ret u =>
      obtain ⟨v, σ', H', J', r', q⟩ := z
      exact ⟨v, H', J'.os, J'.bare, J'.base, J'.hok, r', q⟩
end
section
variable {X : Cx}
/-- the call of such a def -/
theorem pe_callG {k : Nat} {f : Addr} {fd : FuncData} {ps : List Str} {sp : Sp} {y : Str} {p pos : Pos} {e : Expr} {es : List Expr} {t : TA} (F : FnG X.prog X.w X.K X.mg X.base k f fd ps sp) (gA : X.A.guards = some []) (hr : Room k X.A) (hg : Gl X y) (hm : X.mg y = some (.ref f)) (hk : PySem.W.keepIn X.K (.ref f) = true) (hb : Binds X.K fd ps [])
    (ha : PA X (e :: es) t) (hdb : (y == ("__debug__" : Str)) = false := by decide) (he : starEach (e :: es) X.env = (false, eval e X.env) :: starEach es X.env := by rfl) (hpl : (backTo pos (starEach es X.env)).any (·.1) = false := by rfl) :
    PE X (.Call (.Name y p) (e :: es) [] pos) (tCall sp [] E0 t) := by
  refine ⟨fun pins s σ H Q I h => wpAny_Call_Name_kw (ld_glob I hg hm (PySem.W.callWith_K (h₀ := X.base) I.ok.mod.kin hk (thn (ha.run pos pins s σ H _ I h) fun us s1 ⟨vs, H1, I1, r, q⟩ => ⟨I1.kIn, ?_⟩) he hpl) hdb)⟩
  have r2 : Vals (vs ++ []) (us ++ []) := r.append .nil
  have hl : (us ++ []).length = ps.length := by rw [← r2.length]; exact F.len _ _ _ _ q
  refine wpAny_call (codeAny_mono (F.go X.A X.stack s1 H1 ⟨us, []⟩ (us ++ []) (vs ++ []) Q E0 gA hr I1.env0 (hb s1 us I1.kIn hl) r2 q) fun rs s' hq => ?_)
  match rs, hq with
  | .error _, hq => exact hq.elim
  | .ok (.ret u), hq => exact I1.after hq
  | .ok .next, hq => exact False.elim hq
  | .ok .brk, hq => exact False.elim hq
  | .ok .cont, hq => exact False.elim hq
end
/-! the end of such a law -/
section
variable {P : Program} {w : World} {K : PySem.W.Frag} {mg mb : Str → Option Value} {k : Nat} {fa a : Addr} {fd : FuncData} {y : Str} {sp : Sp} {s : Shared} {us : List Value} {ns : List Int}
theorem lawG_at (kin : K.In s.heap) (ng : s.heap.Ns mainGlobals mg) (nb : s.heap.Ns builtinsNs mb) (eb : ∀ x : Str, x ≠ "__name__" → mb x = bootBuiltins x) (lim : s.heap.NoLimit) (eg : s.gens = #[]) (oa : s.heap.get? a = some { cls := .type "list", data := .seq us.toArray }) (rm : Room k callerA)
    (sy : ∃ m, s.heap.Ns sysModules m) (F : ∀ base : Heap, K.In base → base.Ns mainGlobals mg → SysAt base → FnG P w K mg base k fa fd [y] sp) (bn : ∀ (s : Shared) (u : Value), BindsTo s fd ⟨[u], []⟩ [(y, u)]) {H : Hp} (only : Only H) (hok : HOk P w H s.heap) (h1 : ∀ b, H b ≠ none → b = a) (h2 : H a ≠ none → K.lookup a = none) (h : sp [.ref a] H (fun v _ => v = .bl true) fun _ _ _ => False) :
    codeAny (model P w) callerA (.call (.ref fa) ⟨[.ref a], []⟩) (fun r s' => r = .ok (.ret (.bool true)) ∧ OldK s.heap s'.heap ∧ s'.os = s.os ∧ AllBare s'.gens) s := by
  have trk : ∀ {b : Addr} {u : HO}, H b = some u → b = a := fun {b u} e => h1 b (by rw [e]; exact fun z => nomatch z)
  have noD : ∀ {b : Addr} {o : Obj} {es : Array DictEntry} {ep : Nat}, s.heap.get? b = some o → o.data = .dict es ep → H b = none := fun {b o es ep} e dd => by
    cases q : H b with
    | none => rfl
    | some u =>
      have eq := trk q
      rw [eq, oa] at e
      cases e
      cases (show Data.seq us.toArray _ = Data.dict es ep from dd)
  have nsB : ∀ {b : Addr} {m : Str → Option Value}, s.heap.Ns b m → (hidT s.heap H).Ns b m := fun {b m} ⟨o, es, ep, e, dd, r⟩ => ⟨o, es, ep, hidT_get e (noD e dd), dd, r⟩
  have kinB : K.In (hidT s.heap H) := fun b o e => hidT_get (kin b o e) (by
    cases q : H b with
    | none => rfl
    | some u =>
      have eq := trk q
      rw [eq] at e q
      rw [h2 (by rw [q]; exact fun z => nomatch z)] at e
      cases e)
  have md : Mod K mg (hidT s.heap H) := ⟨kinB, nsB ng, ⟨mb, nsB nb, eb⟩, let ⟨mc, l1, l2⟩ := lim; ⟨mc, nsB l1, l2⟩⟩
  have noF : ∀ b : Addr, b ∉ ([] : List Addr) := fun b z => nomatch z
  have ev : Env0 P w K mg (hidT s.heap H) callerA [] s H := ⟨rfl, md, fun b o e => of_hidT e, Nat.le_of_eq (hidT_size _ _), trivial, fun b z => absurd (show b ∈ ([] : List Addr) from z) (noF b), hok, .of_eq eg⟩
  have sB : SysAt (hidT s.heap H) := by
    obtain ⟨m, z⟩ := sy
    obtain ⟨o, _, _, e, _⟩ := nsB z
    exact ⟨o, e⟩
  refine codeAny_mono ((F _ kinB (nsB ng) sB).go callerA [] s H ⟨[.ref a], []⟩ [.ref a] [.ref a] _ _ rfl rm ev (bn s (.ref a)) (.cons rfl .nil) h) fun rs s' z => ?_
  match rs, z with
  | .error _, z => exact z.elim
  | .ok .next, z => exact False.elim z
  | .ok .brk, z => exact False.elim z
  | .ok .cont, z => exact False.elim z
  | .ok (.ret u), z =>
    obtain ⟨v, H', os, ba, un, hok', rv, q⟩ := z
    obtain rfl : v = .bl true := q
    obtain rfl : u = Value.bool true := rv
    refine ⟨rfl, OldK.of_keep fun b o e => ?_, os, ba⟩
    rcases only b with z | ⟨ob, xs, z⟩
    · exact un.keep b o e z (fun y => absurd (show b ∈ ([] : List Addr) from y) (noF b)) (noF b)
    · obtain ⟨g1, _⟩ := hok b _ z
      obtain ⟨g2, _⟩ := hok' b _ (un.frzs b ob _ z)
      rw [e] at g1
      cases g1
      exact g2
theorem lawG (kin : K.In s.heap) (ng : s.heap.Ns mainGlobals mg) (nb : s.heap.Ns builtinsNs mb) (eb : ∀ x : Str, x ≠ "__name__" → mb x = bootBuiltins x) (lim : s.heap.NoLimit) (eg : s.gens = #[]) (oa : s.heap.get? a = some { cls := .type "list", data := .seq us.toArray }) (hi : IntsAre us ns) (hl : ns.length ≤ sizeLine) (rm : Room k callerA)
    (sy : ∃ m, s.heap.Ns sysModules m) (F : ∀ base : Heap, K.In base → base.Ns mainGlobals mg → SysAt base → FnG P w K mg base k fa fd [y] sp) (bn : ∀ (s : Shared) (u : Value), BindsTo s fd ⟨[u], []⟩ [(y, u)]) (hsp : ∀ H : Hp, Only H → SqL K H a (ns.map V.int) → sp [.ref a] H (fun v _ => v = .bl true) fun _ _ _ => False) :
    codeAny (model P w) callerA (.call (.ref fa) ⟨[.ref a], []⟩) (fun r s' => r = .ok (.ret (.bool true)) ∧ OldK s.heap s'.heap ∧ s'.os = s.os ∧ AllBare s'.gens) s := by
  have rv := vals_ints hi
  have el := hi.length
  cases hk : K.lookup a with
  | some o =>
    have e := kin a o hk
    rw [oa] at e
    cases e
    have o0 : Only (fun _ => none) := fun _ => .inl rfl
    exact lawG_at kin ng nb eb lim eg oa rm sy F bn o0 (fun b u z => absurd (show (none : Option HO) = some u from z) (fun y => nomatch y)) (fun b z => absurd rfl z) (fun z => absurd rfl z) (hsp _ o0 (.inr ⟨_, us.toArray, _, hk, rfl, rfl, rfl, by rw [List.size_toArray, el]; exact hl, by simpa using rv⟩))
  | none =>
    obtain ⟨ob, eo⟩ : ∃ ob : Obj, ob = { cls := .type "list", data := .seq us.toArray } := ⟨_, rfl⟩
    obtain ⟨H, eH⟩ : ∃ H : Hp, H = fun b => if b = a then some (.frz ob (.lst (ns.map V.int))) else none := ⟨_, rfl⟩
    have ha : H a = some (.frz ob (.lst (ns.map V.int))) := by rw [eH]; exact if_pos rfl
    have hb : ∀ b, b ≠ a → H b = none := fun b z => by rw [eH]; exact if_neg z
    have on : Only H := fun b => by
      by_cases z : b = a
      · rw [z]
        exact .inr ⟨_, _, ha⟩
      · exact .inl (hb b z)
    refine lawG_at kin ng nb eb lim eg oa rm sy F bn on (fun b u z => ?_) (fun b z => ?_) (fun _ => hk) (hsp H on (.inl (.inr ⟨ob, ha⟩)))
    · by_cases y : b = a
      · subst y
        rw [ha] at z
        cases z
        rw [eo]
        exact ⟨oa, by rw [List.length_map]; exact hl, us, _, rv, oa⟩
      · rw [hb b y] at z
        cases z
    · by_cases y : b = a
      · exact y
      · exact absurd (hb b y) z
end
theorem walkG {l : PySem.W.OpenLaw} {n k : Nat} {q : Program} {loose : List Str} {XP : (Str → Option Value) → Heap → Prop} {YP : World → Heap → Prop} {d : DefRec} {K : Params → PySem.W.Frag} {sp : World → Sp} {y : Str} (hn : l.most = some n) (hn2 : n ≤ sizeLine) (hdf : d.params.defaults = []) (rm : Room k callerA) (hY : ∀ (w : World) (h : Heap), YP w h → (K w.params).In h) (him : importsNone q = true)
    (F : ∀ (w : World) (mg : Str → Option Value) (fa : Addr) (h : Heap), (K w.params).In h → h.Ns mainGlobals mg → mg d.name = some (.ref fa) → ∃ fd : FuncData, (∀ (s : Shared) (u : Value), BindsTo s fd ⟨[u], []⟩ [(y, u)]) ∧ ∀ base : Heap, (K w.params).In base → base.Ns mainGlobals mg → SysAt base → FnG l.prog w (K w.params) mg base k fa fd [y] (sp w))
    (hsp : ∀ (w : World) (H : Hp) (a : Addr) (ns : List Int), ns.length ≤ n → Only H → SqL (K w.params) H a (ns.map V.int) → sp w [.ref a] H (fun v _ => v = .bl true) fun _ _ _ => False) : PySem.W.WalkO q loose XP YP l.row.toRowW d [] (fun f vs => PySem.call f vs) := by
  refine Att.attach_call hn hdf fun w sA sB mg mb fa o1 pm cd dc ad us ns G Y ho hd hcd hmg hob hin hle hge => ?_
  have KX := hY w _ Y
  obtain ⟨fd, hb, hF⟩ := F w mg fa _ KX G.T.g hmg
  obtain ⟨mm, sy, _⟩ := (G.T.seer him).mods
  exact lawG KX G.T.g G.T.b G.T.builtins G.T.nolimit hge hob hin (Nat.le_trans hle hn2) rm ⟨mm, sy⟩ hF hb fun H hH hS => hsp w H ad ns hle hH hS
end Fo
namespace Fo
open PySem PySem.Spec PyProof.Rows L2
/-! an error that was caught is known behind the try, too -/
def ExV (cls : Value) (d : Option Addr) (a : Addr) : HO := .ext fun h => ∃ oe : Obj, h.get? a = some oe ∧ Zc cls d oe ∧ ∃ vs, oe.data = .fields vs
theorem exV_ok {P : Program} {w : World} {H : Hp} {h : Heap} {a : Addr} {cls : Value} {d : Option Addr} {oe : Obj} (e : h.get? a = some oe) (z : Zc cls d oe) (f : ∃ vs, oe.data = .fields vs) : ObjOk P w H h a (ExV cls d a) :=
  ⟨⟨oe, e, z, f⟩, ⟨oe, e⟩, fun _ _ ⟨o, q, r⟩ k => ⟨o, k o q, r⟩⟩
theorem inv_track {X : Cx} {pins : List (Addr × Obj)} {σ : L2.St} {H : Hp} {s : Shared} {a : Addr} {o : HO} (I : Inv X pins σ H s) (na : H a = none) (n0 : X.s_0.heap.get? a = none) (nL : a ≠ X.env.locals) (nC : ∀ x c, X.env.cells.lookup x = some c → c ≠ a) (nP : ∀ p ∈ X.pn ++ pins, p.1 ≠ a) (new : ObjOk X.prog X.w (upd H a o) s.heap a o) :
    Inv X pins σ (upd H a o) s := by
  have n1 : ∀ b u, X.s_0.heap.get? b = some u → b ≠ a := fun b u e z => by rw [z, n0] at e; cases e
  refine ⟨I.ok, I.os, I.bare, ⟨I.base.keep, I.base.slot, fun b u e n hq => ?_, I.base.there, fun b xs e => ?_, fun b u xs e => ?_, fun b ps e => ?_⟩, I.loc, I.cell, ?_, fun x c e => ?_, fun p hp => ?_, I.hok.laidN (fun _ _ e => e) na new, I.len⟩
  · rw [upd_ne (n1 b u e)]
    exact I.base.free b u e n hq
  · have q := I.base.tups b xs e
    rw [upd_ne (ne_of_none q na)]
    exact q
  · have q := I.base.frzs b u xs e
    rw [upd_ne (ne_of_none q na)]
    exact q
  · obtain ⟨m, q⟩ := I.base.tbls b ps e
    exact ⟨m, by rw [upd_ne (ne_of_none q na)]; exact q⟩
  · rw [upd_ne (Ne.symm nL)]
    exact I.free
  · rw [upd_ne (nC x c e)]
    exact I.freeC x c e
  · obtain ⟨e, n, ne, nf, d⟩ := I.pin p hp
    exact ⟨e, by rw [upd_ne (nP p hp)]; exact n, ne, nf, d⟩
/-- what an «except x as n» wishes, the error known behind it -/
def wAsK (K : PySem.W.Frag) (c : Value) (i : Nat) (ts : Addr → Value → Option Addr → TS) (Wout : WX) (D : Ends) : WX := fun cls d σ H =>
  ∃ b, PySem.W.exmOne K cls c = some b ∧ (b = true → ∀ a, H a = none → ts a cls d ⟨fun σ' H' => D.nx (σ'.set i none) (upd H' a (ExV cls d a)), fun v H' => D.rt v (upd H' a (ExV cls d a)), fun σ' H' => D.bk (σ'.set i none) (upd H' a (ExV cls d a)), fun σ' H' => D.ct (σ'.set i none) (upd H' a (ExV cls d a))⟩ (σ.set i (some (.ref a))) H) ∧ (b = false → Wout cls d σ H)
section
variable {X : Cx} {x n : Str} {c : Value} {i : Nat} {body suite : List Stmt} {b₀ : Stmt} {np pos pos' : Pos} {tb : WX → TS} {ts : Addr → Value → Option Addr → TS} {Wout : WX}
theorem ps_try_k (hs : X.stack = X.env :: X.outer) (hf : X.env.frame = some X.env.locals) (hex : X.ex = []) (hN : X.N.Nodup) (hi : X.N[i]? = some n) (hln : X.env.kindOf n = some .local) (hc : Names X x c) (tk : Takes X Wout)
    (hb : ∀ (W : WX) (pn : List (Addr × Obj)) (xe : Value → Shared → Prop), Takes (X.tr pn xe) W → PassesOwn (model X.prog X.w) X.A X.env xe → PSs (X.tr pn xe) body (tb W)) (hsu : ∀ (a : Addr) (oe : Obj) (cls : Value) (d : Option Addr) (pn : List (Addr × Obj)), Zc cls d oe → (∃ vs, oe.data = .fields vs) → PSs (X.suite a ((a, oe) :: pn)) (b₀ :: suite) (ts a cls d)) : PS X (.Try body [.ExceptHandler (some (.Name x np)) (some n) (b₀ :: suite) pos'] [] [] pos) (fun D σ H => tb (wAsK X.K c i ts Wout D) D σ H) := by
  refine ⟨fun pins s σ H D I hw => ?_⟩
  have okX := I.ok
  have frX : X.A.frames = some (X.env :: X.outer) := by rw [okX.frames, hs]
  have lcN : Loc X.env.scope n := .inl hln
  refine wpAny_Try_except (wpAny_mono ((hb (wAsK X.K c i ts Wout D) (X.pn ++ pins) (fun e s₁ => wpAny (model X.prog X.w) X.A (noteFrame e X.env) (fun _ s₂ => wpAny (model X.prog X.w) X.A (setFlight e none) (fun _ s₃ => wpAny (model X.prog X.w) X.A (handleBy e X.env [.ExceptHandler (some (.Name x np)) (some n) (b₀ :: suite) pos']) (SP X pins D) X.xe s₃) X.xe s₂) X.xe s₁) (fun u s' xx => ?_) PassesOwn.looking).run [] s σ H D (I.toTry _) hw) (fun fl s1 hsp => ?_) (fun _ _ he => he))
  · obtain ⟨a, Bg, sI, pins', σ', H', cls, d, rfl, J', nb, up, sky, na, os, ag, b, hb1, hyes, hno⟩ := xx
    have Ja : Inv X pins σ' H' sI := J'.ofTry okX
    have skyE : Sky Bg (X.env :: X.outer) a (Zc cls d) X.env.locals s'.heap := by rw [← hs]; exact sky
    show wpAny (model X.prog X.w) X.A (noteFrame (.ref a) X.env) _ _ _
    refine Sky.land Zc.steady frX hf skyE fun h3 fl3 up3 => ?_
    have Jb : Inv X pins σ' H' { s' with heap := h3 } := Ja.landed nb fl3.1 (up.trans up3) os ag
    obtain ⟨oe3, vs3, he3, hz3, hd3⟩ := fl3.there
    have nfr : a ∉ frs (X.env :: X.outer) := fun hm => by
      obtain ⟨_, o', e', hnf⟩ := fl3.2.2.1.mem hm
      rw [he3] at e'
      cases e'
      exact hnf _ hd3
    have nL : a ≠ X.env.locals := fun z => nfr (List.mem_filterMap.mpr ⟨X.env, List.mem_cons_self, by rw [hf, z]⟩)
    have nF : a ∉ X.fs := fun hm => by
      obtain ⟨e, hem, q⟩ := List.mem_filterMap.mp hm
      exact nfr (List.mem_filterMap.mpr ⟨e, List.mem_cons_of_mem _ hem, q⟩)
    have nB : Bg.get? a = none := fl3.2.1
    have n0 : X.s_0.heap.get? a = none := by
      cases e : X.s_0.heap.get? a with
      | none => rfl
      | some o =>
        obtain ⟨o', q⟩ := Ja.base.there a o e (by rw [hex]; exact fun z => nomatch z)
        have z := nb a o' q (by rw [hs]; exact nfr)
        rw [nB] at z
        cases z
    have nP : ∀ p ∈ X.pn ++ pins, p.1 ≠ a := fun p hp z => by
      obtain ⟨e, _, ne, nf, _⟩ := Ja.pin p hp
      have q := nb p.1 p.2 e (fun hm => by
        rcases List.mem_cons.mp (Ja.stkSub p.1 hm) with y | y
        · exact ne y
        · exact nf y)
      rw [z, nB] at q
      cases q
    have Sb := Jb.suite he3 hd3 na nL nF
    refine wpAny_handleBy_cons (codeAny_handlers_test ?_) (by intro q; cases q)
    have tyA : PySem.W.Looks (model X.prog X.w) h3 (typeOf (.ref a)) cls := fun A Q E s k q => wpAny_typeOf_ref (k _ _ he3) (by rw [hz3.1]; exact q)
    have exA := PySem.W.exm_one (M := model X.prog X.w) (Jb.kIn) tyA hb1
    have nameA : ∀ {Q : Value → Shared → Prop} {E : Value → Shared → Prop}, Q c { s' with heap := h3 } → wpAny (model X.prog X.w) (X.A.mark (some (.ref a))) (eval (.Name x np) X.env) Q E { s' with heap := h3 } := fun {Q E} q => by
      rcases hc with ⟨hg, hdbg, hm | ⟨hm, hv, hnn⟩⟩
      · exact ld_glob (X := X.suite a ((a, oe3) :: (X.pn ++ pins))) Sb hg hm q hdbg
      · exact ld_blt (X := X.suite a ((a, oe3) :: (X.pn ++ pins))) Sb hg hm hv q hnn hdbg
    refine nameA (exA.here ?_)
    cases b with
    | false =>
      show wpAny _ X.A (handleBy (.ref a) X.env []) _ _ _
      refine wpAny_handleBy_nil ?_
      obtain ⟨k1, k2, k3, oe, vs, T, oT, ts', he, hz, hd, h1, hr⟩ := id fl3
      unfold PySem.passOn
      refine wpAny_bind (wpAny_field he hd h1 ?_)
      rw [if_neg (show ¬ ((Value.ref T == Value.none) = true) from by simp)]
      have out : wpAny (model X.prog X.w) X.A (setFlight (.ref a) X.env.frame) (fun _ s4 => wpAny (model X.prog X.w) X.A (throw (.ref a) : Sem Flow) (SP X pins D) X.xe s4) X.xe { s' with heap := h3 } := by
        rw [hf]
        exact HandSPX.setFlight_upZ fl3 fun h4 hh4 up4 => wpAny_throw (tk _ _ ⟨a, Bg, sI, pins, σ', H', cls, d, rfl, Ja, nb, (up.trans up3).trans up4, .inr (.inr (by rw [hs]; exact hh4)), na, os, ag, hno rfl⟩)
      first
        | exact wpAny_bind (wpAny_pure (wpAny_bind out))
        | exact wpAny_bind out
    | true =>
      refine codeAny_handlers_suite_as (HandSPX.lands_againZ fl3 fun h4 fl4 up4 => ?_)
      have Jc : Inv X pins σ' H' { s' with heap := h4 } := Ja.landed nb fl4.1 ((up.trans up3).trans up4) os ag
      obtain ⟨oe4, vs4, he4, hz4, hd4⟩ := fl4.there
      have Sc := Jc.suite he4 hd4 na nL nF
      refine store_ok (X := X.suite a ((a, oe4) :: (X.pn ++ pins))) (v := .ref a) Sc hN hi lcN rfl (fun s5 S5 => ?_) (.inr hln)
      refine wpAny_mono ((hsu a oe4 cls d (X.pn ++ pins) hz4 ⟨_, hd4⟩).run [] s5 _ H' _ S5 (hyes rfl a na)) (fun fl s6 hsp => ?_) (fun _ _ z => False.elim z)
      have fin : ∀ {σ6 : L2.St} {H6 : Hp} {Q : Shared → Prop}, Inv (X.suite a ((a, oe4) :: (X.pn ++ pins))) [] σ6 H6 s6 → (∀ s7, Inv X pins (σ6.set i none) (upd H6 a (ExV cls d a)) s7 → Q s7) → wpAny (model X.prog X.w) X.A (do bindName X.env n .none; unbindBehindTheSuite X.env n pos') (fun _ s7 => Q s7) X.xe s6 := fun {σ6 H6 Q} S6 hq =>
        gone_ok (X := X.suite a ((a, oe4) :: (X.pn ++ pins))) S6 hN hi hln fun s7 S7 => by
          obtain ⟨g7, n7, _, _, _⟩ := S7.pin (a, oe4) (List.mem_append.mpr (.inl List.mem_cons_self))
          have U7 : Inv X pins (σ6.set i none) H6 s7 := S7.unsuite okX
          refine hq s7 (inv_track U7 n7 n0 nL (fun y cc e z => ?_) nP (exV_ok g7 hz4 ⟨_, hd4⟩))
          obtain ⟨v, o, ho, hdo⟩ := U7.cell y cc e
          rw [z, show s7.heap.get? a = some oe4 from g7] at ho
          cases ho
          rw [hd4] at hdo
          cases hdo
      cases fl with
      | next => obtain ⟨σ6, H6, S6, q6⟩ := hsp; exact fin S6 fun s7 J7 => ⟨_, _, J7, q6⟩
      | brk => obtain ⟨σ6, H6, S6, q6⟩ := hsp; exact fin S6 fun s7 J7 => ⟨_, _, J7, q6⟩
      | cont => obtain ⟨σ6, H6, S6, q6⟩ := hsp; exact fin S6 fun s7 J7 => ⟨_, _, J7, q6⟩
      | ret u => obtain ⟨v6, σ6, H6, S6, r6, q6⟩ := hsp; exact fin S6 fun s7 J7 => ⟨_, _, _, J7, r6, q6⟩
  · cases fl with
    | next => obtain ⟨σ', H', J', q⟩ := hsp; exact wpAny_execs_nil ⟨σ', H', J'.ofTry okX, q⟩
    | brk => obtain ⟨σ', H', J', q⟩ := hsp; exact ⟨σ', H', J'.ofTry okX, q⟩
    | cont => obtain ⟨σ', H', J', q⟩ := hsp; exact ⟨σ', H', J'.ofTry okX, q⟩
    | ret u => obtain ⟨v, σ', H', J', r, q⟩ := hsp; exact ⟨v, σ', H', J'.ofTry okX, r, q⟩
end
/-! isinstance of such an error -/
theorem inst_of {X : Cx} {pins : List (Addr × Obj)} {σ : L2.St} {H : Hp} {s : Shared} {a C : Addr} (I : Inv X pins σ H s) (h : H a = some (ExV (.ref C) none a)) : ∃ oe, PySem.W.InstAt s.heap a oe C none := by
  obtain ⟨⟨oe, g, ⟨h1, h2⟩, vs, hv⟩, _, _⟩ := I.hok a _ h
  obtain ⟨oc, od, oda, osl⟩ := oe
  dsimp only at h1 h2 hv
  subst h1 h2 hv
  exact ⟨_, g, rfl, rfl, trivial⟩
/-- types, errors among them -/
inductive TyZ (K : PySem.W.Frag) (H : Hp) : V → Value → Prop where
  | x {v : V} {t : Value} (h : TyX K H v t) : TyZ K H v t
  | exc {a C : Addr} (h : H a = some (ExV (.ref C) none a)) (c : ExcC K C) : TyZ K H (.ref a) (.ref C)
theorem kitz_of {X : Cx} {pins : List (Addr × Obj)} {σ : L2.St} {H : Hp} {s : Shared} {v : V} {u t : Value} (I : Inv X pins σ H s) (rv : RelV v u) (ty : TyZ X.K H v t) : ∃ Pz : Heap → Prop, PySem.W.KitX X.K u t Pz ∧ Pz s.heap ∧ u ≠ .builtin "__main__.__loader__#opaque" := by
  cases ty with
  | x h => exact kit_of I rv h
  | @exc a C h c =>
    cases (show u = Value.ref a from rv)
    obtain ⟨oe, J⟩ := inst_of I h
    exact ⟨_, PySem.W.handS_kitx_exc c.hg c.hk c.hs c.hd c.ha c.hn c.ht c.hm, J, fun z => nomatch z⟩
def rIsZ (K : PySem.W.Frag) : List V → Hp → VK → Prop := fun xs H Q => ∃ (v c : V) (t u : Value) (b : Bool), xs = [v, c] ∧ ClsV c u ∧ TyZ K H v t ∧ PySem.W.kitOne K t u = some b ∧ Q (.bl b) H
def rIsZT (K : PySem.W.Frag) : List V → Hp → VK → Prop := fun xs H Q => ∃ (v : V) (tp : Addr) (cs : List V) (t : Value) (us : List Value) (b : Bool), xs = [v, .ref tp] ∧ H tp = some (.tup cs) ∧ Paired ClsV cs us ∧ TyZ K H v t ∧ PySem.W.kitAny K t us = some b ∧ Q (.bl b) H
theorem call_isZ {X : Cx} : CallR X (.builtin "isinstance") (rIsZ X.K) := by
  intro pins s σ H xs us Q I r h
  obtain ⟨v, c, t, u, b, rfl, k, ty, e, q⟩ := h
  obtain ⟨w1, w2, rfl, r1, r2⟩ := vals2 r
  obtain rfl := k.eq r2
  obtain ⟨Pz, Z, p, hx⟩ := kitz_of I r1 ty
  exact PySem.W.kia_one Z I.kIn p e hx fun tk => ⟨.bl b, H, I.tok tk, rfl, q⟩
theorem call_isZT {X : Cx} : CallR X (.builtin "isinstance") (rIsZT X.K) := by
  intro pins s σ H xs us Q I r h
  obtain ⟨v, tp, cs, t, ws, b, rfl, hT, k, ty, e, q⟩ := h
  obtain ⟨w1, w2, rfl, r1, r2⟩ := vals2 r
  cases (show w2 = Value.ref tp from r2)
  obtain ⟨Pz, Z, p, hx⟩ := kitz_of I r1 ty
  obtain ⟨_, its, rv, ob, h1, h2, n, h3⟩ := (show ObjOk X.prog X.w H s.heap tp (.tup cs) from I.hok tp _ hT)
  obtain rfl := ClsV.all k rv
  obtain ⟨oc, od, dt, sl⟩ := ob
  simp only at h2 h3
  subst h2 h3
  exact PySem.W.kia_tup Z I.kIn p h1 e hx fun tk => ⟨.bl b, H, I.tok tk, rfl, q⟩
end Fo
namespace Fo
open PySem PySem.Spec PyProof.Rows L2
/-! isinstance of the error that the suite holds, whatever class it has -/
def rIsP (K : PySem.W.Frag) (a : Addr) (cls : Value) (d : Option Addr) : List V → Hp → VK → Prop := fun xs H Q => ∃ (C : Addr) (c : V) (u : Value) (b : Bool), cls = .ref C ∧ d = none ∧ ExcC K C ∧ xs = [.ref a, c] ∧ ClsV c u ∧ PySem.W.kitOne K (.ref C) u = some b ∧ Q (.bl b) H
def rIsPT (K : PySem.W.Frag) (a : Addr) (cls : Value) (d : Option Addr) : List V → Hp → VK → Prop := fun xs H Q => ∃ (C : Addr) (tp : Addr) (cs : List V) (us : List Value) (b : Bool), cls = .ref C ∧ d = none ∧ ExcC K C ∧ xs = [.ref a, .ref tp] ∧ H tp = some (.tup cs) ∧ Paired ClsV cs us ∧ PySem.W.kitAny K (.ref C) us = some b ∧ Q (.bl b) H
theorem inst_pin {X : Cx} {pins pn : List (Addr × Obj)} {σ : L2.St} {H : Hp} {s : Shared} {a C : Addr} {oe : Obj} (I : Inv (X.suite a ((a, oe) :: pn)) pins σ H s) (hz : Zc (.ref C) none oe) (hf : ∃ vs, oe.data = .fields vs) : PySem.W.InstAt s.heap a oe C none := by
  obtain ⟨hget, _⟩ := I.pin (a, oe) (List.mem_append.mpr (.inl List.mem_cons_self))
  obtain ⟨vs, hv⟩ := hf
  obtain ⟨oc, od, oda, osl⟩ := oe
  obtain ⟨h1, h2⟩ := hz
  dsimp only at h1 h2 hv
  subst h1 h2 hv
  exact ⟨hget, rfl, rfl, trivial⟩
theorem call_isP {X : Cx} {a : Addr} {cls : Value} {d : Option Addr} {oe : Obj} {pn : List (Addr × Obj)} (hz : Zc cls d oe) (hf : ∃ vs, oe.data = .fields vs) : CallR (X.suite a ((a, oe) :: pn)) (.builtin "isinstance") (rIsP X.K a cls d) := by
  intro pins s σ H xs us Q I r h
  obtain ⟨C, c, u, b, rfl, rfl, ec, rfl, k, e, q⟩ := h
  obtain ⟨w1, w2, rfl, r1, r2⟩ := vals2 r
  obtain rfl := k.eq r2
  cases (show w1 = Value.ref a from r1)
  exact PySem.W.kia_one (PySem.W.handS_kitx_exc ec.hg ec.hk ec.hs ec.hd ec.ha ec.hn ec.ht ec.hm) I.kIn (inst_pin I hz hf) e (fun z => nomatch z) fun tk => ⟨.bl b, H, I.tok tk, rfl, q⟩
theorem call_isPT {X : Cx} {a : Addr} {cls : Value} {d : Option Addr} {oe : Obj} {pn : List (Addr × Obj)} (hz : Zc cls d oe) (hf : ∃ vs, oe.data = .fields vs) : CallR (X.suite a ((a, oe) :: pn)) (.builtin "isinstance") (rIsPT X.K a cls d) := by
  intro pins s σ H xs us Q I r h
  obtain ⟨C, tp, cs, ws, b, rfl, rfl, ec, rfl, hT, k, e, q⟩ := h
  obtain ⟨w1, w2, rfl, r1, r2⟩ := vals2 r
  cases (show w1 = Value.ref a from r1)
  cases (show w2 = Value.ref tp from r2)
  obtain ⟨_, its, rv, ob, h1, h2, n, h3⟩ := (show ObjOk _ _ H s.heap tp (.tup cs) from I.hok tp _ hT)
  obtain rfl := ClsV.all k rv
  obtain ⟨oc, od, dt, sl⟩ := ob
  simp only at h2 h3
  subst h2 h3
  exact PySem.W.kia_tup (PySem.W.handS_kitx_exc ec.hg ec.hk ec.hs ec.hd ec.ha ec.hn ec.ht ec.hm) I.kIn (inst_pin I hz hf) h1 e (fun z => nomatch z) fun tk => ⟨.bl b, H, I.tok tk, rfl, q⟩
theorem ix_listP {X : Cx} {a : Addr} {pn : List (Addr × Obj)} : IxR (X.suite a pn) (rIxL X.K) := ix_list
/-- none of several classes -/
theorem any_no {K : PySem.W.Frag} {t : Value} : ∀ {us : List Value}, (∀ u ∈ us, PySem.W.kitOne K t u = some false) → PySem.W.kitAny K t us = some false
  | [], _ => rfl
  | u :: r, h => by
    unfold PySem.W.kitAny
    rw [h u List.mem_cons_self]
    exact any_no fun x hx => h x (List.mem_cons_of_mem _ hx)
theorem any_yes {K : PySem.W.Frag} {t u : Value} : ∀ {us : List Value}, (∀ u ∈ us, ∃ b, PySem.W.kitOne K t u = some b) → u ∈ us → PySem.W.kitOne K t u = some true → PySem.W.kitAny K t us = some true
  | [], _, h, _ => absurd h List.not_mem_nil
  | w :: r, h, hu, e => by
    unfold PySem.W.kitAny
    obtain ⟨b, hb⟩ := h w List.mem_cons_self
    rw [hb]
    cases b with
    | true => rfl
    | false =>
      rcases List.mem_cons.mp hu with rfl | hu
      · rw [hb] at e
        cases e
      · exact any_yes (fun x hx => h x (List.mem_cons_of_mem _ hx)) hu e
end Fo
namespace Fo
open PySem PySem.Spec PyProof.Rows L2
/-! things of any kind, as data; repr of them -/
def keyD : Key → PyData
  | .inl i => .int i
  | .inr x => .str x
inductive Kvs : List (Key × V) → List (PyData × PyData) → Prop
  | nil : Kvs [] []
  | cons {k : Key} {i : Int} {r : List (Key × V)} {s : List (PyData × PyData)} : Kvs r s → Kvs ((k, .int i) :: r) ((keyD k, .int i) :: s)
mutual
inductive Dq (H : Hp) : V → PyData → Prop
  | non : Dq H .non .none
  | bl (b : Bool) : Dq H (.bl b) (.bool b)
  | int (i : Int) : Dq H (.int i) (.int i)
  | str (x : Str) : Dq H (.str x) (.str x)
  | lst {a : Addr} {xs : List V} {ds : List PyData} : H a = some (.lst xs) → DqAll H xs ds → Dq H (.ref a) (.list ds)
  | tup {a : Addr} {xs : List V} {ds : List PyData} : H a = some (.tup xs) → DqAll H xs ds → Dq H (.ref a) (.tuple ds)
  | dic {a : Addr} {kvs : List (Key × V)} {ks : List (PyData × PyData)} : H a = some (.dK kvs) → Kvs kvs ks → Dq H (.ref a) (.dict ks)
inductive DqAll (H : Hp) : List V → List PyData → Prop
  | nil : DqAll H [] []
  | cons {v : V} {vs : List V} {d : PyData} {ds : List PyData} : Dq H v d → DqAll H vs ds → DqAll H (v :: vs) (d :: ds)
end
mutual
theorem Dq.keep {H H' : Hp} (k : ∀ b o, H b = some o → H' b = some o) : ∀ (d : PyData) (v : V), Dq H v d → Dq H' v d
  | .none, _, h => by cases h; exact .non
  | .bool b, _, h => by cases h; exact .bl b
  | .int i, _, h => by cases h; exact .int i
  | .str x, _, h => by cases h; exact .str x
  | .list ds, _, h => by
    cases h with
    | lst e a => exact .lst (k _ _ e) (DqAll.keep k ds _ a)
  | .tuple ds, _, h => by
    cases h with
    | tup e a => exact .tup (k _ _ e) (DqAll.keep k ds _ a)
  | .dict ks, _, h => by
    cases h with
    | dic e a => exact .dic (k _ _ e) a
theorem DqAll.keep {H H' : Hp} (k : ∀ b o, H b = some o → H' b = some o) : ∀ (ds : List PyData) (vs : List V), DqAll H vs ds → DqAll H' vs ds
  | [], _, h => by cases h; exact .nil
  | d :: ds, _, h => by
    cases h with
    | cons h1 h2 => exact .cons (Dq.keep k d _ h1) (DqAll.keep k ds _ h2)
end
theorem Dq.same {H H' : Hp} {d : PyData} {v : V} (h : Dq H v d) (s : Same H H') : Dq H' v d := Dq.keep s d v h
theorem DqAll.same {H H' : Hp} {ds : List PyData} {vs : List V} (h : DqAll H vs ds) (s : Same H H') : DqAll H' vs ds := DqAll.keep s ds vs h
theorem DqAll.len {H : Hp} : ∀ {ds : List PyData} {vs : List V}, DqAll H vs ds → vs.length = ds.length
  | [], _, h => by cases h; rfl
  | d :: ds, _, h => by
    cases h with
    | cons h1 h2 => rw [List.length_cons, List.length_cons, DqAll.len h2]
theorem DqAll.get {H : Hp} : ∀ {ds : List PyData} {vs : List V} {i : Nat} {v : V}, DqAll H vs ds → vs[i]? = some v → ∃ d, ds[i]? = some d ∧ Dq H v d
  | [], _, i, v, h, e => by cases h; simp at e
  | d :: ds, _, 0, v, h, e => by
    cases h with
    | cons h1 h2 =>
      cases (Option.some.inj e)
      exact ⟨d, rfl, h1⟩
  | d :: ds, _, i + 1, v, h, e => by
    cases h with
    | cons h1 h2 => exact DqAll.get (i := i) h2 e
theorem DqAll.app {H : Hp} : ∀ {ds es : List PyData} {vs us : List V}, DqAll H vs ds → DqAll H us es → DqAll H (vs ++ us) (ds ++ es)
  | [], _, _, _, h, g => by cases h; exact g
  | d :: ds, _, _, _, h, g => by
    cases h with
    | cons h1 h2 => exact .cons h1 (DqAll.app h2 g)
theorem DqAll.take {H : Hp} : ∀ {ds : List PyData} {vs : List V} (n : Nat), DqAll H vs ds → DqAll H (vs.take n) (ds.take n)
  | [], _, n, h => by cases h; rw [List.take_nil, List.take_nil]; exact .nil
  | d :: ds, _, 0, h => .nil
  | d :: ds, _, n + 1, h => by
    cases h with
    | cons h1 h2 => exact .cons h1 (DqAll.take n h2)
theorem DqAll.drop {H : Hp} : ∀ {ds : List PyData} {vs : List V} (n : Nat), DqAll H vs ds → DqAll H (vs.drop n) (ds.drop n)
  | [], _, n, h => by cases h; rw [List.drop_nil, List.drop_nil]; exact .nil
  | d :: ds, _, 0, h => h
  | d :: ds, _, n + 1, h => by
    cases h with
    | cons h1 h2 => exact DqAll.drop n h2
theorem dq_ints {H : Hp} : ∀ ns : List Int, DqAll H (ns.map V.int) (ns.map PyData.int)
  | [] => .nil
  | n :: r => .cons (.int n) (dq_ints r)
theorem dq_list {H : Hp} {a : Addr} {ns : List Int} (h : H a = some (.lst (ns.map V.int))) : Dq H (.ref a) (.list (ns.map PyData.int)) := .lst h (dq_ints ns)
section
variable {X : Cx} {pins : List (Addr × Obj)} {σ : L2.St} {H : Hp} {s : Shared}
theorem not_sys (I : Inv X pins σ H s) (z : SysAt X.base) {a : Addr} {o : HO} (e : H a = some o) : sysModules ≠ a := fun q => by
  obtain ⟨ob, eb⟩ := z
  have := (I.env0.bs _ _ eb).2
  rw [q, e] at this
  cases this
theorem kvs_reads (h : Heap) : ∀ {kvs : List (Key × V)} {ks : List (PyData × PyData)} {vs : List (Key × Value)} {es : List DictEntry}, Kvs kvs ks → KV kvs vs → Pairs (mixKind X.prog X.w) es vs → ReadsAll h (es.map (·.key)) (ks.map (·.1)) [] ∧ ReadsAll h (es.map (·.val)) (ks.map (·.2)) []
  | [], _, _, _, q, r, p => by
    cases q
    cases r
    cases p
    exact ⟨.nil, .nil⟩
  | kv :: kvs, _, _, _, q, r, p => by
    cases q with
    | cons q' =>
      cases r with
      | cons r1 r2 =>
        cases p with
        | cons p1 p2 =>
          obtain ⟨hk, hv⟩ := r1
          obtain ⟨t1, t2⟩ := kvs_reads h q' r2 (by assumption)
          obtain ⟨tv, ev⟩ := hv
          rename_i kk ii ss bb l2 ee ees p3
          have e1 : ∃ u, Reads h ee.key (keyD kk) u ∧ u = [] := by
            have p1' : keyIs bb.1 ee.key = true := p1
            rw [← hk] at p1'
            rcases keyIs_shape p1' with ⟨i, t, a1, a2⟩ | ⟨x, t, a1, a2⟩
            · have a1 : kk = Sum.inl i := a1
              rw [a2, a1]
              exact ⟨_, .int i t, rfl⟩
            · have a1 : kk = Sum.inr x := a1
              rw [a2, a1]
              exact ⟨_, .str x t, rfl⟩
          obtain ⟨_, e1, rfl⟩ := e1
          refine ⟨ReadsAll.cons e1 t1, ReadsAll.cons (as := []) (d := .int ii) ?_ t2⟩
          show Reads h ee.val _ _
          rw [p2, ev]
          exact .int ii tv
mutual
theorem Dq.reads (I : Inv X pins σ H s) (z : SysAt X.base) : ∀ (d : PyData) (v : V) (u : Value), Dq H v d → RelV v u → ∃ as, Reads s.heap u d as ∧ sysModules ∉ as
  | .none, _, _, h, r => by
    cases h
    cases r
    exact ⟨_, .none, List.not_mem_nil⟩
  | .bool b, _, _, h, r => by
    cases h
    cases r
    exact ⟨_, .bool b, List.not_mem_nil⟩
  | .int i, _, _, h, r => by
    cases h
    obtain ⟨t, rfl⟩ := r
    exact ⟨_, .int i t, List.not_mem_nil⟩
  | .str x, _, _, h, r => by
    cases h
    obtain ⟨t, rfl⟩ := r
    exact ⟨_, .str x t, List.not_mem_nil⟩
  | .list ds, _, _, h, r => by
    cases h with
    | lst e ha =>
      cases r
      obtain ⟨its, rv, ⟨o, n, ho, hc, _, hd⟩, _⟩ := I.list (SqL.of e)
      obtain ⟨as, hr, hn⟩ := Dq.readsAll I z ds _ its ha rv
      exact ⟨_, .list ho hc hd hr, fun q => by
        rcases List.mem_cons.mp q with q | q
        · exact not_sys I z e q
        · exact hn q⟩
  | .tuple ds, _, _, h, r => by
    cases h with
    | tup e ha =>
      cases r
      obtain ⟨its, rv, ⟨o, ho, hc, n, hd⟩, _⟩ := I.tuple (SqT.of e)
      obtain ⟨as, hr, hn⟩ := Dq.readsAll I z ds _ its ha rv
      exact ⟨_, .tuple ho hc hd hr, hn⟩
  | .dict ks, _, _, h, r => by
    cases h with
    | dic e hk =>
      cases r
      obtain ⟨_, nsys, vs, rel, dof⟩ := dk_of I.hok e
      obtain ⟨ep, ob, es, ho, exd, hdat, hko, hpr, hnd⟩ := dof.dictAt
      obtain ⟨r1, r2⟩ := kvs_reads (X := X) s.heap hk rel hpr
      exact ⟨_, .dict ho exd.1 hdat r1 r2, fun q => by
        rcases List.mem_cons.mp q with q | q
        · exact not_sys I z e q
        · cases q⟩
theorem Dq.readsAll (I : Inv X pins σ H s) (z : SysAt X.base) : ∀ (ds : List PyData) (vs : List V) (us : List Value), DqAll H vs ds → Vals vs us → ∃ as, ReadsAll s.heap us ds as ∧ sysModules ∉ as
  | [], _, _, h, r => by
    cases h
    cases r
    exact ⟨_, .nil, List.not_mem_nil⟩
  | d :: ds, _, _, h, r => by
    cases h with
    | cons h1 h2 =>
      cases r with
      | cons r1 r2 =>
        obtain ⟨as, q1, n1⟩ := Dq.reads I z d _ _ h1 r1
        obtain ⟨bs, q2, n2⟩ := Dq.readsAll I z ds _ _ h2 r2
        exact ⟨_, .cons q1 q2, fun q => by
          rcases List.mem_append.mp q with q | q
          · exact n1 q
          · exact n2 q⟩
end
/-- fit to be shown -/
structure Rp (m : Nat) (d : PyData) : Prop where
  show' : d.showable = true
  len : d.shown.length ≤ m
  dep : d.depth ≤ 20
/-- repr of a thing -/
def rReprD : List V → Hp → VK → Prop := fun xs H Q => ∃ (v : V) (d : PyData) (m : Nat), xs = [v] ∧ Dq H v d ∧ Rp m d ∧ m ≤ 16777216 ∧ Q (.str d.shown) H
theorem call_reprD {k : Nat} (g : X.A.guards = some []) (rm : Room k X.A) (z : SysAt X.base) : CallR X (.builtin "repr") rReprD := by
  intro pins s σ H xs us Q I r h
  obtain ⟨v, d, m, rfl, hd, rp, hm, q⟩ := h
  obtain ⟨u, rfl, ru⟩ := vals1 r
  have hun := rm.un
  have hdp := rp.dep
  have hsz : d.shown.length ≤ sizeLine := by rw [sizeLine_eq]; exact Nat.le_trans rp.len hm
  obtain ⟨as, rd, ns⟩ := Dq.reads I z d v u hd ru
  have big : ∀ {a : Addr}, u = .ref a → wpAny (model X.prog X.w) X.A (PySem.call (.builtin "repr") [u]) (EP X pins σ Q) X.xe s := fun {a} e => by
    subst e
    exact repr_of_reads' rd rp.show' (fun _ => ns) g (by omega) (fun _ _ e => e) (fun h' tk' tk kp => ⟨.str d.shown, H, I.kept (t' := tk) kp, ⟨_, rfl⟩, q⟩) hsz
  cases hd with
  | non =>
    cases ru
    have e : PyData.shown .none = "None" := by rw [PyData.shown]
    rw [e] at q
    exact PySem.P.repr_of_none ⟨.str _, H, I.tok _, ⟨_, rfl⟩, q⟩
  | bl b =>
    cases ru
    have e : PyData.shown (.bool b) = (if b = true then Str.ofString "True" else Str.ofString "False") := by rw [PyData.shown]
    rw [e] at q
    exact PySem.P.repr_of_bool ⟨.str _, H, I.tok _, ⟨_, rfl⟩, q⟩
  | int i =>
    obtain ⟨t, rfl⟩ := ru
    have e : PyData.shown (.int i) = Str.ofString (toString i) := by rw [PyData.shown]
    rw [e] at q
    exact PySem.P.repr_of_int (by have := rp.show'; rw [PyData.showable] at this; exact of_decide_eq_true this) ⟨.str _, H, I.tok _, ⟨_, rfl⟩, q⟩
  | str x =>
    obtain ⟨t, rfl⟩ := ru
    have e : PyData.shown (.str x) = reprText x := by rw [PyData.shown]
    rw [e] at q hsz
    exact PySem.P.repr_of_str ⟨.str _, H, I.tok _, ⟨_, rfl⟩, q⟩ hsz
  | lst e _ => exact big ru
  | tup e _ => exact big ru
  | dic e _ => exact big ru
end
/-! how long the texts are -/
theorem textFrom_le : ∀ (ts : List Str) (k : Nat) (acc : Str), (textFrom k acc ts).length ≤ acc.length + piled ts
  | [], k, acc => by rw [textFrom]; exact Nat.le_add_right _ _
  | t :: ts, k, acc => by
    rw [textFrom, piled_cons]
    have := textFrom_le ts (k + 1) (acc ++ Str.ofString (if k > 0 then ", " else "") ++ t)
    have e : (Str.ofString (if k > 0 then ", " else "")).length ≤ 2 := by split <;> decide
    rw [strLen_append, strLen_append] at this
    omega
theorem listText_le (ts : List Str) : (listText ts).length ≤ piled ts + 2 := by
  unfold listText
  have := textFrom_le ts 0 (Str.ofString "[")
  rw [strLen_append]
  have e1 : (Str.ofString "[").length = 1 := rfl
  have e2 : (Str.ofString "]").length = 1 := rfl
  omega
theorem piled_le : ∀ {ts : List Str} {m : Nat}, (∀ t ∈ ts, t.length ≤ m) → piled ts ≤ ts.length * (m + 2)
  | [], m, _ => by rw [piled_nil]; exact Nat.zero_le _
  | t :: ts, m, h => by
    rw [piled_cons, List.length_cons, Nat.succ_mul]
    have h1 := piled_le (ts := ts) fun x hx => h x (List.mem_cons_of_mem _ hx)
    have h2 := h t List.mem_cons_self
    omega
theorem join_le (ts : List Str) : (Str.join ", " ts).length ≤ piled ts := by
  by_cases h : ts = []
  · subst h
    decide
  · have := join_length_add ts h
    omega
theorem shownAll_eq : ∀ xs : List PyData, PyData.shownAll xs = xs.map PyData.shown
  | [] => by rw [PyData.shownAll]; rfl
  | x :: xs => by rw [PyData.shownAll, shownAll_eq xs]; rfl
theorem showableAll_of : ∀ {xs : List PyData}, (∀ x ∈ xs, PyData.showable x = true) → PyData.showableAll xs = true
  | [], _ => by rw [PyData.showableAll]
  | x :: xs, h => by rw [PyData.showableAll, h x List.mem_cons_self, showableAll_of fun y hy => h y (List.mem_cons_of_mem _ hy)]; rfl
theorem depthAll_of : ∀ {xs : List PyData} {k : Nat}, (∀ x ∈ xs, PyData.depth x ≤ k) → PyData.depthAll xs ≤ k
  | [], _, _ => by rw [PyData.depthAll]; exact Nat.zero_le _
  | x :: xs, k, h => by
    rw [PyData.depthAll]
    have h1 := h x List.mem_cons_self
    have h2 := depthAll_of fun y hy => h y (List.mem_cons_of_mem _ hy)
    exact Nat.max_le.mpr ⟨h1, h2⟩
/-- shown in m signs, k deep -/
structure Rq (m k : Nat) (d : PyData) : Prop where
  s : d.showable = true
  l : d.shown.length ≤ m
  d : d.depth ≤ k
theorem Rq.rp {m k : Nat} {d : PyData} (h : Rq m k d) (hk : k ≤ 20) : Rp m d := ⟨h.s, h.l, Nat.le_trans h.d hk⟩
theorem Rq.mono {m k m' k' : Nat} {d : PyData} (h : Rq m k d) (hm : m ≤ m') (hk : k ≤ k') : Rq m' k' d := ⟨h.s, Nat.le_trans h.l hm, Nat.le_trans h.d hk⟩
theorem rq_none : Rq 110 0 .none := ⟨by rw [PyData.showable], by rw [PyData.shown]; decide, by rw [PyData.depth]; exact Nat.le_refl _⟩
theorem rq_bool (b : Bool) : Rq 110 0 (.bool b) := ⟨by rw [PyData.showable], by rw [PyData.shown]; cases b <;> decide, by rw [PyData.depth]; exact Nat.le_refl _⟩
theorem rq_int {i : Int} (h : i.natAbs.log2 < 100) : Rq 110 0 (.int i) := by
  refine ⟨by rw [PyData.showable]; exact decide_eq_true (by omega), ?_, by rw [PyData.depth]; exact Nat.le_refl _⟩
  rw [PyData.shown]
  have := int_text_length_le (k := 100) (by decide) h
  show (Str.ofString (toString i)).length ≤ 110
  rw [PySem.ofString_length]
  omega
theorem rq_str {x : Str} (h : (reprText x).length ≤ 110) : Rq 110 0 (.str x) := ⟨by rw [PyData.showable], by rw [PyData.shown]; exact h, by rw [PyData.depth]; exact Nat.le_refl _⟩
theorem rq_list {xs : List PyData} {m k n : Nat} (h : ∀ x ∈ xs, Rq m k x) (hn : xs.length ≤ n) : Rq (n * (m + 2) + 2) (k + 1) (.list xs) := by
  refine ⟨by rw [PyData.showable]; exact showableAll_of fun x hx => (h x hx).s, ?_, by rw [PyData.depth]; exact Nat.succ_le_succ (depthAll_of fun x hx => (h x hx).d)⟩
  rw [PyData.shown, shownAll_eq]
  have h1 := listText_le (xs.map PyData.shown)
  have h2 := piled_le (ts := xs.map PyData.shown) (m := m) fun t ht => by
    obtain ⟨x, hx, rfl⟩ := List.mem_map.mp ht
    exact (h x hx).l
  rw [List.length_map] at h2
  have h3 := Nat.mul_le_mul_right (m + 2) hn
  omega
theorem rq_tup {xs : List PyData} {m k n : Nat} (h : ∀ x ∈ xs, Rq m k x) (hn : xs.length ≤ n) : Rq (n * (m + 2) + 3) (k + 1) (.tuple xs) := by
  refine ⟨by rw [PyData.showable]; exact showableAll_of fun x hx => (h x hx).s, ?_, by rw [PyData.depth]; exact Nat.succ_le_succ (depthAll_of fun x hx => (h x hx).d)⟩
  rw [PyData.shown, shownAll_eq]
  unfold tupleText
  rw [strLen_append, strLen_append]
  have h1 := join_le (xs.map PyData.shown)
  have h2 := piled_le (ts := xs.map PyData.shown) (m := m) fun t ht => by
    obtain ⟨x, hx, rfl⟩ := List.mem_map.mp ht
    exact (h x hx).l
  rw [List.length_map] at h2
  have h3 := Nat.mul_le_mul_right (m + 2) hn
  have e1 : (Str.ofString "(").length = 1 := rfl
  have e2 : (Str.ofString (if ((xs.map PyData.shown).length == 1) = true then ",)" else ")")).length ≤ 2 := by split <;> decide
  omega
theorem showableKv_of : ∀ {ks : List (PyData × PyData)}, (∀ p ∈ ks, PyData.showable p.1 = true ∧ PyData.showable p.2 = true) → PyData.showableKv ks = true
  | [], _ => by rw [PyData.showableKv]
  | (a, b) :: ks, h => by
    obtain ⟨h1, h2⟩ := h (a, b) List.mem_cons_self
    rw [PyData.showableKv, h1, h2, showableKv_of fun y hy => h y (List.mem_cons_of_mem _ hy)]
    rfl
theorem depthKv_of : ∀ {ks : List (PyData × PyData)} {k : Nat}, (∀ p ∈ ks, PyData.depth p.1 ≤ k ∧ PyData.depth p.2 ≤ k) → PyData.depthKv ks ≤ k
  | [], _, _ => by rw [PyData.depthKv]; exact Nat.zero_le _
  | (a, b) :: ks, k, h => by
    rw [PyData.depthKv]
    obtain ⟨h1, h3⟩ := h (a, b) List.mem_cons_self
    exact Nat.max_le.mpr ⟨Nat.max_le.mpr ⟨h1, h3⟩, depthKv_of fun y hy => h y (List.mem_cons_of_mem _ hy)⟩
theorem shownKv_map : ∀ ks : List (PyData × PyData), PyData.shownKv ks = ks.map fun p => p.1.shown ++ Str.ofString ": " ++ p.2.shown
  | [] => by rw [PyData.shownKv]; rfl
  | (a, b) :: ks => by rw [PyData.shownKv, shownKv_map ks]; rfl
theorem rq_dict {ks : List (PyData × PyData)} {m k n : Nat} (h : ∀ p ∈ ks, Rq m k p.1 ∧ Rq m k p.2) (hn : ks.length ≤ n) : Rq (n * (2 * m + 4) + 2) (k + 1) (.dict ks) := by
  refine ⟨by rw [PyData.showable]; exact showableKv_of fun p hp => ⟨(h p hp).1.s, (h p hp).2.s⟩, ?_, by rw [PyData.depth]; exact Nat.succ_le_succ (depthKv_of fun p hp => ⟨(h p hp).1.d, (h p hp).2.d⟩)⟩
  rw [PyData.shown, shownKv_map]
  unfold dictText
  rw [strLen_append, strLen_append]
  have h1 := join_le (ks.map fun p => p.1.shown ++ Str.ofString ": " ++ p.2.shown)
  have h2 := piled_le (ts := ks.map fun p => p.1.shown ++ Str.ofString ": " ++ p.2.shown) (m := 2 * m + 2) fun t ht => by
    obtain ⟨p, hp, rfl⟩ := List.mem_map.mp ht
    have a1 := (h p hp).1.l
    have a2 := (h p hp).2.l
    have e3 : (Str.ofString ": ").length = 2 := rfl
    rw [strLen_append, strLen_append]
    omega
  rw [List.length_map, show 2 * m + 2 + 2 = 2 * m + 4 by omega] at h2
  have h3 := Nat.mul_le_mul_right (2 * m + 4) hn
  have e1 : (Str.ofString "{").length = 1 := rfl
  have e2 : (Str.ofString "}").length = 1 := rfl
  omega
end Fo
namespace Fo
open PySem PySem.Spec PyProof.Rows L2
/-! dict(enumerate(xs)) of a list of ints -/
def enumKV : Nat → List Int → List (Key × V)
  | _, [] => []
  | i, x :: r => (.inl (i : Int), .int x) :: enumKV (i + 1) r
theorem enumKV_len : ∀ (i : Nat) (ns : List Int), (enumKV i ns).length = ns.length
  | _, [] => rfl
  | i, x :: r => by rw [enumKV, List.length_cons, List.length_cons, enumKV_len (i + 1) r]
def enumD : Nat → List Int → List (PyData × PyData)
  | _, [] => []
  | i, x :: r => (.int (i : Int), .int x) :: enumD (i + 1) r
theorem enumD_len : ∀ (i : Nat) (ns : List Int), (enumD i ns).length = ns.length
  | _, [] => rfl
  | i, x :: r => by rw [enumD, List.length_cons, List.length_cons, enumD_len (i + 1) r]
theorem enum_kvs : ∀ (i : Nat) (ns : List Int), Kvs (enumKV i ns) (enumD i ns)
  | _, [] => .nil
  | i, x :: r => .cons (k := .inl (i : Int)) (enum_kvs (i + 1) r)
theorem enumD_mem : ∀ {i : Nat} {ns : List Int} {p : PyData × PyData}, p ∈ enumD i ns → ∃ (j : Nat) (x : Int), p = (.int (j : Int), .int x) ∧ j < i + ns.length ∧ x ∈ ns
  | _, [], _, h => absurd h List.not_mem_nil
  | i, x :: r, p, h => by
    rcases List.mem_cons.mp h with h | h
    · exact ⟨i, x, h, by rw [List.length_cons]; omega, List.mem_cons_self⟩
    · obtain ⟨j, y, e, hj, hy⟩ := enumD_mem h
      exact ⟨j, y, e, by rw [List.length_cons]; omega, List.mem_cons_of_mem _ hy⟩
theorem merge_enum : ∀ (ns : List Int) (acc : List (Key × V)) (i : Nat), (∀ p ∈ acc, ∃ j : Nat, p.1 = .inl (j : Int) ∧ j < i) → mergeK acc (enumKV i ns) = acc ++ enumKV i ns
  | [], acc, i, _ => by
    rw [enumKV, List.append_nil]
    rfl
  | x :: r, acc, i, h => by
    have e : valV acc (.inl (i : Int)) = none := by
      unfold valV
      rw [Option.map_eq_none_iff, List.find?_eq_none]
      intro p hp hd
      obtain ⟨j, ej, hj⟩ := h p hp
      have := of_decide_eq_true hd
      rw [ej] at this
      injection this with this
      omega
    show mergeK (putK acc (.inl (i : Int)) (.int x)) (enumKV (i + 1) r) = _
    rw [putK_new _ e, merge_enum r _ (i + 1) (fun p hp => ?_), List.append_assoc]
    · rfl
    · rcases List.mem_append.mp hp with hp | hp
      · obtain ⟨j, ej, hj⟩ := h p hp
        exact ⟨j, ej, by omega⟩
      · rw [List.mem_singleton.mp hp]
        exact ⟨i, rfl, by omega⟩
/-- what the dict holds, by the list's own values -/
def enumV : Nat → List Value → List (Key × Value)
  | _, [] => []
  | i, x :: r => (.inl (i : Int), x) :: enumV (i + 1) r
theorem enumV_len : ∀ (i : Nat) (us : List Value), (enumV i us).length = us.length
  | _, [] => rfl
  | i, x :: r => by rw [enumV, List.length_cons, List.length_cons, enumV_len (i + 1) r]
theorem enumV_at : ∀ {j i : Nat} {us : List Value} {v : Value}, us[j]? = some v → (enumV i us)[j]? = some (.inl ((i + j : Nat) : Int), v)
  | _, _, [], _, h => by simp at h
  | 0, i, x :: r, v, h => by
    cases (Option.some.inj h)
    rfl
  | j + 1, i, x :: r, v, h => by
    have := enumV_at (j := j) (i := i + 1) (us := r) h
    rw [show i + (j + 1) = i + 1 + j by omega]
    exact this
theorem enumV_rel : ∀ {i : Nat} {ns : List Int} {us : List Value}, Vals (ns.map V.int) us → KV (enumKV i ns) (enumV i us)
  | _, [], _, h => by cases h; exact .nil
  | i, x :: r, _, h => by
    cases h with
    | cons h1 h2 => exact .cons ⟨rfl, h1⟩ (enumV_rel h2)
section
variable {X : Cx}
def tDictEnum (K : PySem.W.Frag) (te : TE) : TE := fun σ H Q => te σ H fun x H1 => ∃ (a : Addr) (ns : List Int), x = .ref a ∧ SqL K H1 a (ns.map V.int) ∧ ∀ p, H1 p = none → Q (.ref p) (upd H1 p (.dK (enumKV 0 ns)))
theorem pe_dictEnum {e : Expr} {te : TE} {p q pos qos : Pos} (calm : X.calm = true) (gd : Gl X "dict") (md : X.mg "dict" = none) (ge : Gl X "enumerate") (me : X.mg "enumerate" = none) (he : PE X e te)
    (st : starEach [Expr.Call (.Name "enumerate" q) [e] [] qos] X.env = [(false, eval (Expr.Call (.Name "enumerate" q) [e] [] qos) X.env)] := by rfl) (su : starEach [e] X.env = [(false, eval e X.env)] := by rfl) :
    PE X (.Call (.Name "dict" p) [.Call (.Name "enumerate" q) [e] [] qos] [] pos) (tDictEnum X.K te) := by
  refine ⟨fun pins s σ H Q I h => ?_⟩
  refine wpAny_Call_Name_kw (ld_blt I gd md (u := .type "dict") (by decide +kernel) ?_ (by decide +kernel) (by decide +kernel))
  rw [st]
  refine PySem.callWith_type1 ?_
  refine wpAny_Call_Name_kw (ld_blt I ge me (u := .type "enumerate") (by decide +kernel) ?_ (by decide +kernel) (by decide +kernel))
  rw [su]
  refine PySem.callWith_type1 (thn (he.run pins s σ H _ I h) fun u s1 ⟨x, H1, I1, r1, a, ns, ex, sq, qk⟩ => ?_)
  subst ex
  obtain rfl : u = Value.ref a := r1
  obtain ⟨its, rv, pl, hz⟩ := I1.list sq
  have hlt := Heap.lt_size pl.isList.choose_spec.1
  refine call_enumerate_list pl.isList fun h' en it sz kp => ?_
  have I2 : Inv X pins σ H1 { s1 with heap := h' } := I1.kept (t' := s1.toks) kp
  have lis : h'.IsList a its.toArray := pl.isList.at fun o e => kp _ _ e
  have ln : its.length = ns.length := by rw [← rv.length, List.length_map]
  have hzn : ns.length ≤ sizeLine := by rw [List.length_map] at hz; exact hz
  refine PySem.call_dict_pairs (knd := mixKind X.prog X.w) (kvs := enumV 0 its) (PairArg.enumerate (s1.heap.objs.size + 1) s1.heap.objs.size a (Nat.succ_ne_self _) (Nat.ne_of_lt (Nat.lt_succ_of_lt hlt)) (Nat.ne_of_lt hlt) its.toArray) (I.ok.hd calm) ⟨⟨_, en⟩, it, lis⟩ ⟨by rw [enumV_len]; simp, fun i key v hr => ?_⟩ (by simp only [List.size_toArray]; omega) fun h2 tk hd2 kp2 => ?_
  · obtain ⟨⟨t, rfl⟩, hv⟩ := hr
    refine ⟨.inl (i : Int), ?_, ?_⟩
    · have := enumV_at (j := i) (i := 0) (us := its) (v := v) (by simpa using hv)
      rw [Nat.zero_add] at this
      exact this
    · show Value.isInt (i : Int) (.int (i : Int) t) = true
      simp [Value.isInt]
  · have em : KV (enumKV 0 ns) (merged [] (enumV 0 its)) := by
      have := KV.merge (enumV_rel (i := 0) rv) (.nil : KV (κ := Key) [] [])
      rw [merge_enum ns [] 0 (fun p hp => absurd hp List.not_mem_nil)] at this
      exact this
    have nn : H1 h'.objs.size = none := I2.hok.fresh (Nat.le_refl _)
    refine ⟨.ref h'.objs.size, upd H1 h'.objs.size (.dK (enumKV 0 ns)), I1.laid (t' := tk) (fun b o e => kp2 b o (fun z => ?_) (kp b o e)) (by rw [sz]; omega) (show ObjOk X.prog X.w _ _ _ (.dK (enumKV 0 ns)) from ⟨by rw [enumKV_len]; exact hzn, beq_eq_false_iff_ne.mpr (Nat.ne_of_gt I2.big), merged [] (enumV 0 its), em, hd2⟩), rfl, qk _ nn⟩
    have := Heap.lt_size e
    simp only [List.mem_cons, List.not_mem_nil, or_false] at z
    rcases z with z | z
    · rw [z] at this
      exact absurd this (Nat.not_lt.mpr (Nat.le_succ _))
    · rw [z] at this
      exact absurd this (Nat.lt_irrefl _)
end
end Fo
namespace Fo
open PySem PySem.Spec PyProof.Rows L2
/-! ### lists of lists -/
def LL (H : Hp) : List Addr → List (List Int) → Prop
  | [], [] => True
  | a :: as, r :: rs => H a = some (.lst (r.map V.int)) ∧ LL H as rs
  | _, _ => False
theorem LL.len {H : Hp} : ∀ {as : List Addr} {rs : List (List Int)}, LL H as rs → as.length = rs.length
  | [], [], _ => rfl
  | [], _ :: _, h => h.elim
  | _ :: _, [], h => h.elim
  | a :: as, r :: rs, h => by rw [List.length_cons, List.length_cons, LL.len h.2]
theorem LL.keep {H H' : Hp} : ∀ {as : List Addr} {rs : List (List Int)}, LL H as rs → (∀ a ∈ as, ∀ o, H a = some o → H' a = some o) → LL H' as rs
  | [], [], _, _ => trivial
  | [], _ :: _, h, _ => h.elim
  | _ :: _, [], h, _ => h.elim
  | a :: as, r :: rs, h, k => ⟨k a List.mem_cons_self _ h.1, LL.keep h.2 fun b hb => k b (List.mem_cons_of_mem _ hb)⟩
theorem LL.same {H H' : Hp} {as : List Addr} {rs : List (List Int)} (h : LL H as rs) (s : Same H H') : LL H' as rs := h.keep fun a _ o e => s a o e
theorem LL.get {H : Hp} : ∀ {as : List Addr} {rs : List (List Int)} {i : Nat} {a : Addr}, LL H as rs → as[i]? = some a → ∃ r, rs[i]? = some r ∧ H a = some (.lst (r.map V.int))
  | [], [], _, _, _, e => by simp at e
  | [], _ :: _, _, _, h, _ => h.elim
  | _ :: _, [], _, _, h, _ => h.elim
  | a :: as, r :: rs, 0, b, h, e => by
    have e2 : a = b := Option.some.inj e
    subst e2
    exact ⟨r, rfl, h.1⟩
  | a :: as, r :: rs, i + 1, b, h, e => LL.get (i := i) h.2 e
theorem LL.tracked {H : Hp} {as : List Addr} {rs : List (List Int)} (h : LL H as rs) {a : Addr} (ha : a ∈ as) : ∃ o, H a = some o := by
  obtain ⟨i, hi⟩ := List.mem_iff_getElem?.mp ha
  obtain ⟨r, _, e⟩ := h.get hi
  exact ⟨_, e⟩
theorem LL.snoc {H : Hp} : ∀ {as : List Addr} {rs : List (List Int)} {a : Addr} {r : List Int}, LL H as rs → H a = some (.lst (r.map V.int)) → LL H (as ++ [a]) (rs ++ [r])
  | [], [], _, _, _, e => ⟨e, trivial⟩
  | [], _ :: _, _, _, h, _ => h.elim
  | _ :: _, [], _, _, h, _ => h.elim
  | b :: as, s :: rs, _, _, h, e => ⟨h.1, LL.snoc h.2 e⟩
theorem LL.drop {H : Hp} : ∀ {as : List Addr} {rs : List (List Int)} (k : Nat), LL H as rs → LL H (as.drop k) (rs.drop k)
  | as, rs, 0, h => h
  | [], [], k + 1, _ => trivial
  | [], _ :: _, _ + 1, h => h.elim
  | _ :: _, [], _ + 1, h => h.elim
  | _ :: as, _ :: rs, k + 1, h => LL.drop k h.2
theorem dp_LL {K : PySem.W.Frag} {H : Hp} : ∀ {as : List Addr} {rs : List (List Int)}, LL H as rs → DpAll K H (as.map V.ref) (rs.map dL)
  | [], [], _ => .nil
  | [], _ :: _, h => h.elim
  | _ :: _, [], h => h.elim
  | _ :: _, _ :: _, h => .cons (dp_list h.1) (dp_LL h.2)
theorem dp_lists {K : PySem.W.Frag} {H : Hp} {l : Addr} {as : List Addr} {rs : List (List Int)} (hl : H l = some (.lst (as.map V.ref))) (h : LL H as rs) : Dp K H (.ref l) (dLL rs) := .lst (SqL.of hl) (dp_LL h)
theorem ref_at {as : List Addr} {i : Nat} {a : Addr} (h : as[i]? = some a) : (as.map V.ref)[i]? = some (V.ref a) := by
  rw [List.getElem?_map, h]
  rfl
theorem ref_at_inv {as : List Addr} {i : Nat} {v : V} (h : (as.map V.ref)[i]? = some v) : ∃ a, as[i]? = some a ∧ v = V.ref a := by
  rw [List.getElem?_map] at h
  cases e : as[i]? with
  | none => rw [e] at h; cases h
  | some x => rw [e] at h; exact ⟨x, rfl, (Option.some.inj h).symm⟩
theorem cutV_tail (xs : List V) (k : Nat) : cutV xs (some (k : Int)) none = xs.drop k := by
  unfold cutV
  rw [HT.sIx_none, HT.sIx_nat]
  by_cases h : k ≤ xs.length
  · rw [Nat.min_eq_left h, List.take_of_length_le (by rw [List.length_drop]; exact Nat.le_refl _)]
  · rw [Nat.min_eq_right (by omega), List.drop_of_length_le (Nat.le_refl _), List.drop_of_length_le (by omega), List.take_nil]
end Fo
namespace Fo
open PySem PySem.Spec PyProof.Rows L2
/-- a loop over enumerate of a list that stands still -/
theorem for_enumL {K : PySem.W.Frag} {a : Addr} {xs : List V} {g : TG} {tb : TS} {D : Ends} {σ : L2.St} {H : Hp} (Pv : Nat → L2.St → Hp → Prop) (h0 : Pv 0 σ H) (hq : ∀ i σ H, Pv i σ H → SqL K H a xs)
    (hs : ∀ (i : Nat) (x : V) (T : Addr) (σ : L2.St) (H : Hp), xs[i]? = some x → Pv i σ H → H T = none → g (.ref T) σ (upd H T (.tup [.int (i : Nat), x])) fun σ2 H2 => tb { D with nx := Pv (i + 1), ct := Pv (i + 1), bk := D.nx } σ2 H2) (hd : ∀ σ H, Pv xs.length σ H → D.nx σ H) :
    ∃ W : Nat → Nat → L2.St → Hp → Prop, (∃ m, W 0 m σ H) ∧ ∀ i m σ H, W i m σ H →
      ((Ite K a).stop i H ∧ D.nx σ H) ∨ ((Ite K a).go i H ∧ ∃ N : L2.St → Hp → Prop, (∀ σ' H', N σ' H' → ∃ m', m' < m ∧ W (i + 1) m' σ' H') ∧ ∀ v H', (Ite K a).yld i H v H' → g v σ H' fun σ2 H2 => tb { D with nx := N, ct := N, bk := D.nx } σ2 H2) := by
  refine ⟨fun i m σ H => m = xs.length - i ∧ i ≤ xs.length ∧ Pv i σ H, ⟨xs.length, rfl, Nat.zero_le _, h0⟩, ?_⟩
  rintro i m σ H ⟨rfl, hi, p⟩
  have qx := hq i σ H p
  by_cases hlt : i < xs.length
  · have hx : xs[i]? = some xs[i] := List.getElem?_eq_getElem hlt
    refine .inr ⟨⟨xs, _, qx, hx⟩, Pv (i + 1), fun σ' H' p' => ⟨xs.length - (i + 1), by omega, rfl, hlt, p'⟩, fun v H' y => ?_⟩
    obtain ⟨T, x', rfl, hT, rfl, f1⟩ := y
    exact hs i x' T σ H (f1 xs qx) p hT
  · have e : i = xs.length := by omega
    subst e
    exact .inl ⟨⟨xs, qx, Nat.le_refl _⟩, hd σ H p⟩
/-- a comprehension over enumerate of a list that stands still -/
theorem lc_enumL {K : PySem.W.Frag} {a : Addr} {xs : List V} {g : TG} {tt : TT} {te : TE} {vs : List Nat} {σ : L2.St} {H1 : Hp} {D : Addr} {Qd : Hp → Prop} (Pv : Nat → Hp → Prop) (h0 : Pv 0 (upd H1 D (.lst []))) (hl : ∀ i H, i ≤ xs.length → Pv i H → SqL K H a xs)
    (hs : ∀ (i : Nat) (x : V) (T : Addr) (H : Hp), xs[i]? = some x → Pv i H → H T = none → g (.ref T) (wipe σ vs) (upd H T (.tup [.int (i : Nat), x])) fun σ2 H2 => wipe σ2 vs = wipe σ vs ∧ tt σ2 H2 fun b H3 =>
      if b = true then te σ2 H3 fun y H4 => ∃ acc, H4 D = some (.lst acc) ∧ acc.length < sizeLine ∧ Pv (i + 1) (upd H4 D (.lst (acc ++ [y]))) else Pv (i + 1) H3) (hd : ∀ H, Pv xs.length H → Qd H) :
    ∃ W : Nat → Nat → Hp → Prop, (∃ m, W 0 m (upd H1 D (.lst []))) ∧ ∀ i m H, W i m H →
      ((Ite K a).stop i H ∧ Qd H) ∨ ((Ite K a).go i H ∧ ∃ Nx : Hp → Prop, (∀ H', Nx H' → ∃ m', m' < m ∧ W (i + 1) m' H') ∧ ∀ x H', (Ite K a).yld i H x H' → g x (wipe σ vs) H' fun σ2 H2 => wipe σ2 vs = wipe σ vs ∧ tt σ2 H2 fun b H3 =>
        if b = true then te σ2 H3 fun y H4 => ∃ acc, H4 D = some (.lst acc) ∧ acc.length < sizeLine ∧ Nx (upd H4 D (.lst (acc ++ [y]))) else Nx H3) := by
  refine ⟨fun i m H => m = xs.length - i ∧ i ≤ xs.length ∧ Pv i H, ⟨xs.length, by simp, Nat.zero_le _, h0⟩, ?_⟩
  rintro i m H ⟨rfl, hi, p⟩
  have q := hl i H hi p
  by_cases hlt : i < xs.length
  · refine .inr ⟨⟨xs, xs[i], q, by simp [hlt]⟩, Pv (i + 1), fun H' p' => ⟨xs.length - (i + 1), by omega, rfl, hlt, p'⟩, fun x H' y => ?_⟩
    obtain ⟨T, x', rfl, hT, rfl, f1⟩ := y
    exact hs i x' T H (f1 xs q) p hT
  · have e : i = xs.length := by omega
    subst e
    exact .inl ⟨⟨xs, q, Nat.le_refl _⟩, hd H p⟩
/-! ### the back of an order -/
def IsBack (ns ps : List Int) : Prop := ps.length = ns.length ∧ ∀ (j : Nat) (x : Int), ns[j]? = some x → ps[x.toNat]? = some (j : Int)
theorem ord_at {n : Nat} {ns : List Int} (o : IsOrd n ns) {t : Nat} (h : t < n) : ∃ j : Nat, j < n ∧ ns[j]? = some (t : Int) := by
  have m : (t : Int) ∈ ns := (List.Perm.mem_iff o).mpr (rg_mem.mpr ⟨by omega, by omega⟩)
  obtain ⟨j, hj⟩ := List.mem_iff_getElem?.mp m
  exact ⟨j, by have := (List.getElem?_eq_some_iff.mp hj).1; rw [o.len] at this; exact this, hj⟩
theorem ord_ix {n : Nat} {ns : List Int} (o : IsOrd n ns) {j : Nat} (h : j < n) : ∃ x : Int, ns[j]? = some x ∧ 0 ≤ x ∧ x < n := by
  have hj : j < ns.length := by rw [o.len]; exact h
  exact ⟨ns[j], List.getElem?_eq_getElem hj, o.mem (List.getElem_mem hj)⟩
theorem back_eq {n : Nat} {ns a b : List Int} (o : IsOrd n ns) (ha : IsBack ns a) (hb : IsBack ns b) : a = b := by
  apply List.ext_getElem?
  intro t
  by_cases h : t < n
  · obtain ⟨j, _, hj⟩ := ord_at o h
    have h1 := ha.2 j _ hj
    have h2 := hb.2 j _ hj
    rw [Int.toNat_natCast] at h1 h2
    rw [h1, h2]
  · rw [List.getElem?_eq_none (by rw [ha.1, o.len]; omega), List.getElem?_eq_none (by rw [hb.1, o.len]; omega)]
def behindL (ns ms : List Int) : List Int := ms.map fun p => ns.getD p.toNat 0
theorem behind_at {ns ms : List Int} {i : Nat} {p x : Int} (hp : ms[i]? = some p) (hx : ns[p.toNat]? = some x) : (behindL ns ms)[i]? = some x := by
  unfold behindL
  rw [List.getElem?_map, hp]
  show some (ns.getD p.toNat 0) = some x
  rw [List.getD_eq_getElem?_getD, hx]
  rfl
theorem behind_len (ns ms : List Int) : (behindL ns ms).length = ms.length := by
  unfold behindL
  rw [List.length_map]
theorem take_more {l : List Int} {i : Nat} {x : Int} (h : l[i]? = some x) : l.take (i + 1) = l.take i ++ [x] := by
  rw [List.take_add_one, h]
  rfl
theorem flat_ints : ∀ ns : List Int, (ns.map V.int).all flatV = true
  | [] => rfl
  | n :: r => by
    show (flatV (V.int n) && (r.map V.int).all flatV) = true
    rw [flat_ints r]
    rfl
theorem eqV_int (i j : Int) : eqV (.int i) (.int j) = (i == j) := rfl
end Fo
namespace Fo
open PySem PySem.Spec PyProof.Rows L2
/-! ### sorted(rows), rows a list of lists of whole numbers -/
def rowsR (ps : List (Addr × List Int)) : List (Addr × List Int) := ps.mergeSort fun p q => decide (p.2 ≤ q.2)
def rSortedR (K : PySem.W.Frag) : List V → Hp → VK → Prop := fun vs H Q => ∃ (a : Addr) (ps : List (Addr × List Int)), vs = [V.ref a] ∧ SqL K H a (ps.map fun p => V.ref p.1) ∧ (∀ p ∈ ps, Dp K H (.ref p.1) (dL p.2)) ∧
  ∀ q, H q = none → Q (.ref q) (upd H q (.lst ((rowsR ps).map fun p => V.ref p.1)))
theorem each_refs : ∀ {ps : List (Addr × List Int)} {us : List Value}, Vals (ps.map fun p => V.ref p.1) us → PySem.W.EachIs (fun v (p : Addr × List Int) => v = Value.ref p.1) us ps
  | [], _, .nil => .nil
  | p :: ps, _, .cons r t => .cons r (each_refs t)
theorem refs_each : ∀ {ps : List (Addr × List Int)} {us : List Value}, PySem.W.EachIs (fun v (p : Addr × List Int) => v = Value.ref p.1) us ps → Vals (ps.map fun p => V.ref p.1) us
  | _, _, .nil => .nil
  | _, _, .cons r t => .cons r (refs_each t)
theorem each_all {R S : Value → (Addr × List Int) → Prop} : ∀ {us : List Value} {ps : List (Addr × List Int)}, PySem.W.EachIs R us ps → (∀ v p, p ∈ ps → R v p → S v p) → PySem.W.EachIs S us ps
  | _, _, .nil, _ => .nil
  | _, _, .cons r t, h => .cons (h _ _ List.mem_cons_self r) (each_all t fun v p hp => h v p (List.mem_cons_of_mem _ hp))
theorem cr_sortedR {X : Cx} (hu : X.A.units + 64 < cLine) : CallR X (.builtin "sorted") (rSortedR X.K) := by
  intro pins s σ H vs us Q J rel hz
  obtain ⟨a, ps, ev, sq, hd, q⟩ := hz
  subst ev
  obtain ⟨its, rv, hl, hlen⟩ := J.list sq
  rw [Vals.ref1 rel]
  have e := each_refs rv
  have el := rv.length
  rw [List.length_map] at el hlen
  refine PySem.W.sorted_data (enc := fun p : Addr × List Int => .list (p.2.map .int)) hl.isList e (each_all e fun v p hp hv => ?_) (PySem.W.AllAlike.of fun b b' => ?_) (PySem.W.Sortable.others fun b => ⟨(fun z => by cases z), (fun xs z => by cases z)⟩) hlen (fun b _ => ?_) fun out ol eo => ?_
  · subst hv
    exact Dp.reads J _ _ _ (hd p hp) rfl
  · show PySem.W.alike (.list (b.2.map .int)) (.list (b'.2.map .int)) = true
    simp only [PySem.W.alike]
    exact PySem.W.alike_ints _ _
  · show X.A.units + 2 + (dL b.2).depth < cLine
    rw [depth_list]
    omega
  · rw [PySem.W.dataLe_rows (fun p : Addr × List Int => p.2)] at eo
    obtain ⟨ep, he⟩ := PyProof.Rows.sortedAll_at s.heap its out.toArray
    have hl2 : ((rowsR ps).map fun p => V.ref p.1).length ≤ sizeLine := by
      unfold rowsR
      rw [List.length_map, List.length_mergeSort]
      exact hlen
    exact ⟨.ref _, upd H (s.heap.objs.size + 1) (.lst ((rowsR ps).map fun p => V.ref p.1)), J.laid (t' := s.toks) (fun _ _ => PyProof.Rows.sortedAll_old) (Nat.le_succ _) ⟨hl2, out, ep, refs_each eo, he⟩, rfl, q _ (J.hok.fresh (Nat.le_succ _))⟩
theorem rows_le_total (a b : Addr × List Int) : (decide (a.2 ≤ b.2) || decide (b.2 ≤ a.2)) = true := by
  rcases List.le_total a.2 b.2 with h | h
  · rw [decide_eq_true h]; rfl
  · rw [decide_eq_true h, Bool.or_true]
theorem rowsR_perm (ps : List (Addr × List Int)) : (rowsR ps).Perm ps := List.mergeSort_perm _ _
theorem rowsR_sorted (ps : List (Addr × List Int)) : ((rowsR ps).map (·.2)).Pairwise (· ≤ ·) := by
  have h := List.pairwise_mergeSort (le := fun p q : Addr × List Int => decide (p.2 ≤ q.2)) (fun a b c h1 h2 => decide_eq_true (List.le_trans (of_decide_eq_true h1) (of_decide_eq_true h2))) rows_le_total ps
  exact List.pairwise_map.mpr (h.imp fun h => of_decide_eq_true h)
end Fo
namespace Fo
open PySem PySem.Spec PyProof.Rows L2
theorem units65 {k : Nat} {A : Around} (r : Room k A) : A.units + 65 < cLine := by have := r.un; omega
theorem any_row (rs : List (List Int)) (o : List Int) : ((rs.map dL).any fun z => PyData.eqv z (dL o)) = decide (o ∈ rs) := by
  induction rs with
  | nil => rfl
  | cons a rs ih =>
    rw [List.map_cons, List.any_cons, ih, eqv_ints]
    by_cases c : a = o
    · subst c; simp
    · have c2 : ¬ o = a := fun e => c e.symm
      simp [c, c2]
end Fo
namespace Fo
open PySem PySem.Spec PyProof.Rows L2
/-! defs that refuse -/
section
variable {P : Program} {w : World} {K : PySem.W.Frag} {mg : Str → Option Value} {base : Heap} {k : Nat} {f : Addr} {fd : FuncData} {ps : List Str}
theorem fn_up {sp : Sp} (F : FnOk P w K mg base CX0 k f fd ps sp) : FnOk P w K mg base (L2.CX P w) k f fd ps sp :=
  ⟨F.len, fun A outer s H args us vs Q E hr e0 hb hv hs => codeAny_mono (F.run A outer s H args us vs Q E hr e0 hb hv hs) fun r s' h => match r, h with
    | .error _, h => h.elim
    | .ok (.ret _), h => h
    | .ok .next, h => h
    | .ok .brk, h => h
    | .ok .cont, h => h⟩
theorem fn_or {CX : CXT} {sp sp' : Sp} (F : FnOk P w K mg base CX k f fd ps sp) (G : FnOk P w K mg base CX k f fd ps sp') : FnOk P w K mg base CX k f fd ps (fun vs H Q E => sp vs H Q E ∨ sp' vs H Q E) :=
  ⟨fun vs H Q E h => h.elim (F.len vs H Q E) (G.len vs H Q E), fun A outer s H args us vs Q E hr e0 hb hv hs => hs.elim (F.run A outer s H args us vs Q E hr e0 hb hv) (G.run A outer s H args us vs Q E hr e0 hb hv)⟩
def spNever : Sp := fun _ _ _ _ => False
theorem fn_never {CX : CXT} : FnOk P w K mg base CX k f fd ps spNever := ⟨fun _ _ _ _ h => h.elim, fun _ _ _ _ _ _ _ _ _ _ _ _ _ h => h.elim⟩
end
/-- an error class of the program, over ValueError -/
structure ExK (K : PySem.W.Frag) (mg : Str → Option Value) (x : Str) (C : Addr) : Prop where
  g : mg x = some (.ref C)
  q : PySem.W.excIn K C [.type "ValueError", .type "Exception", .type "BaseException", .type "object"] "ValueError.__new__" = true
  kp : PySem.W.keepIn K (.ref C) = true
  sb : PySem.W.subIn K (.ref C) (.type "BaseException") = some true
  ty : PySem.W.typeIn K (.ref C) = some (.type "type")
  ec : ExcC K C
section
variable {X : Cx}
theorem ps_raiseK {W : WX} {x m : Str} {C : Addr} {j : Nat} {p p2 pos pos' : Pos} (hc : X.calm = true) (tk : Takes X W) (c : ExK X.K X.mg x C) (hg : Gl X x) (hdb : (x == ("__debug__" : Str)) = false := by decide) :
    PS X (.Raise (some (.Call (.Name x p) [.Constant (.str m) j p2] [] pos)) none pos') (fun _ σ H => W (.ref C) none σ H) :=
  ps_raise hc tk (pmk_own PySem.F.excBase_ValueError c.q c.g c.kp (raises_own c.sb c.ty) hg hdb)
theorem ps_raiseA {W : WX} {x : Str} {C : Addr} {e : Expr} {ta : TE} {p pos pos' : Pos} (hc : X.calm = true) (tk : Takes X W) (c : ExK X.K X.mg x C) (hg : Gl X x) (he : PE X e ta) (hdb : (x == ("__debug__" : Str)) = false := by decide)
    (hs : starEach [e] X.env = (false, eval e X.env) :: starEach [] X.env := by rfl) :
    PS X (.Raise (some (.Call (.Name x p) [e] [] pos)) none pos') (fun _ σ H => ta σ H fun _ H1 => W (.ref C) none σ H1) :=
  ps_raise hc tk (SkE.pmk_own1 PySem.F.excBase_ValueError c.q c.g c.kp (raises_own c.sb c.ty) hg he hs hdb)
end
end Fo
namespace Fo
open PySem PySem.Spec PyProof.Rows L2
abbrev rListOf (K : PySem.W.Frag) : List V → Hp → VK → Prop := fun xs H Q => ∃ p ys, xs = [.ref p] ∧ (SqL K H p ys ∨ SqT K H p ys) ∧ ∀ l, H l = none → Q (.ref l) (upd H l (.lst ys))
/-! min(xs, default=None); methods that may raise -/
def rMinDef (K : PySem.W.Frag) : List V → List V → Hp → VK → Prop := fun xs zs H Q => ∃ (a : Addr) (ns : List Int), xs = [V.ref a] ∧ zs = [V.non] ∧ SqL K H a (ns.map V.int) ∧ (ns = [] → Q .non H) ∧ ∀ m, m ∈ ns → (∀ y, y ∈ ns → m ≤ y) → Q (.int m) H
theorem hold_ints {h : Heap} : ∀ {ns : List Int} {us : List Value}, Vals (ns.map V.int) us → PySem.W.HoldAll h us ns
  | [], _, r => by cases r; exact PySem.W.HoldAll.nil
  | n :: ns, _, r => by
    cases r with
    | cons r1 r2 =>
      obtain ⟨t, rfl⟩ := r1
      exact PySem.W.HoldAll.cons (PySem.W.holds_int n t) (hold_ints r2)
theorem minOf_spec (x : Int) : ∀ ys : List Int, PySem.W.minOf x ys ∈ x :: ys ∧ ∀ y ∈ x :: ys, PySem.W.minOf x ys ≤ y := by
  intro ys
  induction ys generalizing x with
  | nil => exact ⟨List.mem_cons_self, fun y hy => by rw [List.mem_singleton.mp hy]; exact Int.le_refl _⟩
  | cons z r ih =>
    have e : PySem.W.minOf x (z :: r) = PySem.W.minOf (if PySem.W.DatumOrd.lt z x = true then z else x) r := rfl
    rw [e]
    have hl : PySem.W.DatumOrd.lt z x = decide (z < x) := rfl
    rw [hl]
    by_cases c : z < x
    · rw [if_pos (decide_eq_true c)]
      obtain ⟨i1, i2⟩ := ih z
      refine ⟨List.mem_cons_of_mem _ i1, fun y hy => ?_⟩
      rcases List.mem_cons.mp hy with rfl | hy
      · have := i2 z List.mem_cons_self
        omega
      · exact i2 y hy
    · rw [if_neg (fun q => c (of_decide_eq_true q))]
      obtain ⟨i1, i2⟩ := ih x
      refine ⟨?_, fun y hy => ?_⟩
      · rcases List.mem_cons.mp i1 with i1 | i1
        · rw [i1]
          exact List.mem_cons_self
        · exact List.mem_cons_of_mem _ (List.mem_cons_of_mem _ i1)
      · rcases List.mem_cons.mp hy with rfl | hy
        · exact i2 y List.mem_cons_self
        · rcases List.mem_cons.mp hy with rfl | hy
          · have := i2 x List.mem_cons_self
            omega
          · exact i2 y (List.mem_cons_of_mem _ hy)
theorem cr_minDef {X : Cx} (hu : X.A.units + 64 < cLine) (calm : X.calm = true) : CallRK X (.builtin "min") [Str.ofString "default"] (rMinDef X.K) := by
  intro pins s σ H vs zs us ws Q I r rz h
  obtain ⟨a, ns, rfl, rfl, hs, q0, q⟩ := h
  obtain rfl := Vals.ref1 r
  obtain ⟨w1, rfl, e1⟩ := vals1 rz
  obtain rfl : w1 = Value.none := e1
  obtain ⟨its, rv, pl, _⟩ := I.list hs
  refine PySem.W.min_list_datum_default (I.ok.hd calm) pl.isList (hold_ints rv) (by show _ + 1 + 0 < _; omega) (fun e h' tk kp => ?_) fun y ys i v h' tk e hi hv kp => ?_
  · exact ⟨.non, H, I.kept (t' := tk) kp, rfl, q0 e⟩
  · obtain ⟨m1, m2⟩ := minOf_spec y ys
    obtain ⟨t, rfl⟩ := PySem.W.int_of_holds hv
    exact ⟨.int _, H, I.kept (t' := tk) kp, ⟨t, rfl⟩, q _ (by rw [e]; exact m1) fun z hz => m2 z (by rw [← e]; exact hz)⟩
theorem pe_minDef {X : Cx} {e d : Expr} {te td : TE} {p kp pos : Pos} (hu : X.A.units + 64 < cLine) (calm : X.calm = true) (hg : Gl X "min") (hm : X.mg "min" = none) (he : PE X e te) (hd : PE X d td)
    (b1 : backTo pos (starEach (e :: []) X.env) = (false, eval e X.env) :: backTo pos (starEach [] X.env) := by rfl) (b2 : (backTo pos (starEach (e :: []) X.env)).any (·.1) = false := by rfl) (b3 : (backToKw pos (keywordEach [⟨some "default", d, kp⟩] X.env)).all (·.1.isSome) = true := by rfl)
    (b4 : (backToKw pos (keywordEach [⟨some "default", d, kp⟩] X.env)).any (·.1.isNone) = false := by rfl) (b6 : starEach [e] X.env = (false, eval e X.env) :: starEach [] X.env := by rfl) (b5 : (backToKw pos (keywordEach [⟨some "default", d, kp⟩] X.env)).filterMap (·.1) = [Str.ofString "default"] := by rfl) :
    PE X (.Call (.Name "min" p) [e] [⟨some "default", d, kp⟩] pos) (tCKw (rMinDef X.K) (tCons te tNil) (tCons td tNil)) :=
  pe_callBK (cr_minDef hu calm) hg hm (by decide +kernel) (pa_cons he pa_nil (hs := b6)) (pk_cons hd pk_nil) (he := b1) (hpl := b2) (hall := b3) (hnone := b4) (hks := b5)
/-- a method that may raise, without arguments and with them -/
def tMethS (C : Addr) (m : Str) (sp : Sp) (E : L2.St → XK) (ta : TE) (t : TA) : TE := fun σ H Q => ta σ H fun x H1 => ∃ a dx fs, x = .ref a ∧ H1 a = some (.ins C dx fs) ∧ fs.lookup m = none ∧ t σ H1 fun vs H2 => sp (x :: vs) H2 Q (E σ)
section
variable {X : Cx} {CX : CXT} {k : Nat} {f C : Addr} {fd : FuncData} {ps : List Str} {sp : Sp} {E : L2.St → XK} {m : Str} {pos apos : Pos} {e o : Expr} {es : List Expr} {ta : TE} {t : TA} {pl : Sem Bool}
theorem pe_meth0S (ho : PE X o ta) (cl : Cls X.K C) (me : Meth X.K C m f) (F : FnOk X.prog X.w X.K X.mg X.base CX k f fd ps sp) (rm : Room k X.A) (bi : Binds X.K fd ps []) (pa : ∀ σ, PassesAt CX X σ (E σ))
    (ht : eval (.Call (.Attribute o m apos) [] [] pos) X.env = (do let ov ← eval o X.env; standAt apos.atName; let (f, first) ← holding [ov] (getMethod ov m pl); callWith pos f first (backTo pos (starEach [] X.env)) (backToKw pos (keywordEach [] X.env))) := by rfl) :
    PE X (.Call (.Attribute o m apos) [] [] pos) (tMethS C m sp E ta tNil) :=
  ⟨fun pins s σ H Q I w => PySem.W.methodCall_KW (pl := pl) (thn (ho.run pins s σ H _ I w) fun u s1 ⟨x, H1, I1, rx, a, dx, fs, ex, ea, l, q⟩ => by
    cases ex
    cases (show u = Value.ref a from rx)
    exact getmeth_ok I1 ea cl me l (PySem.W.callWith_K0 (first := [.ref a]) I1.kIn me.kp (run_fnS (us := [.ref a]) (vs := [.ref a]) F rm bi (pa σ) I1 (.cons rfl .nil) q))) ht⟩
theorem pe_methS (ho : PE X o ta) (cl : Cls X.K C) (me : Meth X.K C m f) (F : FnOk X.prog X.w X.K X.mg X.base CX k f fd ps sp) (rm : Room k X.A) (bi : Binds X.K fd ps []) (pa : ∀ σ, PassesAt CX X σ (E σ)) (as : PA X (e :: es) t)
    (st : starEach (e :: es) X.env = (false, eval e X.env) :: starEach es X.env := by rfl) (na : (backTo pos (starEach es X.env)).any (·.1) = false := by rfl)
    (ht : eval (.Call (.Attribute o m apos) (e :: es) [] pos) X.env = (do let ov ← eval o X.env; standAt apos.atName; let (f, first) ← holding [ov] (getMethod ov m pl); callWith pos f first (backTo pos (starEach (e :: es) X.env)) (backToKw pos (keywordEach [] X.env))) := by rfl) :
    PE X (.Call (.Attribute o m apos) (e :: es) [] pos) (tMethS C m sp E ta t) :=
  ⟨fun pins s σ H Q I w => PySem.W.methodCall_KW (pl := pl) (thn (ho.run pins s σ H _ I w) fun u s1 ⟨x, H1, I1, rx, a, dx, fs, ex, ea, l, q⟩ => by
    cases ex
    cases (show u = Value.ref a from rx)
    exact getmeth_ok I1 ea cl me l (PySem.W.callWith_K (first := [.ref a]) (h₀ := X.base) I.ok.mod.kin me.kp (thn (as.run pos pins s1 σ H1 _ I1 q) fun us s2 ⟨vs, H2, I2, r, q2⟩ => ⟨I2.kIn, run_fnS (us := .ref a :: us) (vs := .ref a :: vs) F rm bi (pa σ) I2 (.cons rfl r) q2⟩) st na)) ht⟩
end
/-- a method of the text, where it stands -/
structure Dm (K : PySem.W.Frag) (C : Addr) (x q : Str) (st : Stmt) (ps : List Str) (f : Addr) (fd : FuncData) : Prop where
  F : Fun K x q st f fd
  b : Binds K fd ps []
  m : PySem.W.findIn K (.ref C) x = some (some (.ref f)) ∧ PySem.W.isFn K (.ref f) = true
theorem Dm.me {K : PySem.W.Frag} {C : Addr} {x q : Str} {st : Stmt} {ps : List Str} {f : Addr} {fd : FuncData} (d : Dm K C x q st ps f fd) : Meth K C x f := ⟨d.m.1, d.m.2, d.F.kp⟩
end Fo
namespace Fo
open PySem PySem.Spec PyProof.Rows L2
/-! ### sums -/
def ind (b : Bool) : Nat := if b then 1 else 0
def sumN (l : List Int) (f : Int → Nat) : Nat := (l.map f).sum
theorem sumN_nil (f : Int → Nat) : sumN [] f = 0 := rfl
theorem sumN_cons (a : Int) (l : List Int) (f : Int → Nat) : sumN (a :: l) f = f a + sumN l f := by
  unfold sumN
  rw [List.map_cons, List.sum_cons]
theorem sumN_append (l m : List Int) (f : Int → Nat) : sumN (l ++ m) f = sumN l f + sumN m f := by
  unfold sumN
  rw [List.map_append, List.sum_append]
theorem sumN_perm {l m : List Int} (h : l.Perm m) (f : Int → Nat) : sumN l f = sumN m f := by
  induction h with
  | nil => rfl
  | cons x _ ih => rw [sumN_cons, sumN_cons, ih]
  | swap x y l => rw [sumN_cons, sumN_cons, sumN_cons, sumN_cons]; omega
  | trans _ _ h1 h2 => exact h1.trans h2
theorem sumN_congr {l : List Int} {f g : Int → Nat} (h : ∀ x ∈ l, f x = g x) : sumN l f = sumN l g := by
  unfold sumN
  rw [List.map_congr_left h]
theorem sumN_map (l : List Int) (g : Int → Int) (f : Int → Nat) : sumN (l.map g) f = sumN l (fun x => f (g x)) := by
  unfold sumN
  rw [List.map_map]
  rfl
theorem sumN_zero {l : List Int} {f : Int → Nat} (h : ∀ x ∈ l, f x = 0) : sumN l f = 0 := by
  rw [sumN_congr h]
  induction l with
  | nil => rfl
  | cons a l ih => rw [sumN_cons, ih fun x hx => h x (List.mem_cons_of_mem _ hx)]
theorem sumN_add (l : List Int) (f g : Int → Nat) : sumN l (fun x => f x + g x) = sumN l f + sumN l g := by
  induction l with
  | nil => rfl
  | cons a l ih => rw [sumN_cons, sumN_cons, sumN_cons, ih]; omega
theorem sumN_swap (l m : List Int) (f : Int → Int → Nat) : sumN l (fun i => sumN m (fun j => f i j)) = sumN m (fun j => sumN l (fun i => f i j)) := by
  induction l with
  | nil => exact (sumN_zero fun x _ => rfl).symm
  | cons a l ih =>
    rw [sumN_cons, ih, ← sumN_add]
    exact sumN_congr fun x _ => by rw [sumN_cons]
theorem filter_len (l : List Int) (p : Int → Bool) : (l.filter p).length = sumN l (fun x => ind (p x)) := by
  induction l with
  | nil => rfl
  | cons a l ih =>
    rw [sumN_cons, List.filter_cons]
    unfold ind at ih ⊢
    cases p a
    · simp only [Bool.false_eq_true, if_false]; omega
    · simp only [if_true, List.length_cons]; omega
/-! ### a list by its places -/
def g0 (s : List Int) (i : Int) : Int := s.getD i.toNat 0
theorem g0_at {s : List Int} {i : Nat} {x : Int} (h : s[i]? = some x) : g0 s (i : Int) = x := by
  unfold g0
  rw [Int.toNat_natCast, List.getD_eq_getElem?_getD, h]
  rfl
theorem by_places (s : List Int) : s = (rg s.length).map (g0 s) := by
  apply List.ext_getElem?
  intro i
  unfold rg
  rw [List.getElem?_map, List.getElem?_map]
  by_cases h : i < s.length
  · rw [List.getElem?_range h, List.getElem?_eq_getElem h]
    show some s[i] = some (g0 s (i : Int))
    rw [g0_at (List.getElem?_eq_getElem h)]
  · rw [List.getElem?_eq_none (by omega), List.getElem?_eq_none (by rw [List.length_range]; omega)]
    rfl
theorem rg_succ (n : Nat) : rg (n + 1) = rg n ++ [(n : Int)] := by
  unfold rg
  rw [List.range_succ, List.map_append]
  rfl
/-- how many of the later ones are less -/
def cntL (s : List Int) (i : Nat) : Nat := ((s.drop (i + 1)).filter (fun x => decide (x < g0 s i))).length
def invF (n : Nat) (a : Int → Int) : Nat := sumN (rg n) fun i => sumN (rg n) fun j => ind (decide (i < j) && decide (a j < a i))
def invN (s : List Int) : Nat := sumN (rg s.length) fun i => cntL s i.toNat
theorem drop_sum (n i : Nat) (f : Int → Nat) : sumN ((rg n).drop (i + 1)) f = sumN (rg n) fun j => if (i : Int) < j then f j else 0 := by
  induction n with
  | zero => rfl
  | succ n ih =>
    rw [rg_succ, sumN_append, ← ih, List.drop_append, sumN_append, rg_len]
    congr 1
    by_cases h : i + 1 ≤ n
    · rw [show i + 1 - n = 0 by omega, List.drop_zero, sumN_cons, sumN_cons, sumN_nil, sumN_nil, if_pos (by omega)]
    · rw [show i + 1 - n = (i - n) + 1 by omega, List.drop_succ_cons, List.drop_nil, sumN_cons, sumN_nil, sumN_nil, if_neg (by omega)]
theorem cnt_sum (s : List Int) (i : Nat) : cntL s i = sumN (rg s.length) fun j => ind (decide ((i : Int) < j) && decide (g0 s j < g0 s i)) := by
  unfold cntL
  rw [filter_len]
  have e : s.drop (i + 1) = ((rg s.length).drop (i + 1)).map (g0 s) := by
    rw [List.map_drop, ← by_places]
  rw [e, sumN_map, drop_sum]
  apply sumN_congr
  intro j _
  unfold ind
  by_cases h : (i : Int) < j
  · simp [h]
  · simp [h]
theorem inv_eq (s : List Int) : invN s = invF s.length (g0 s) := by
  unfold invN invF
  apply sumN_congr
  intro i hi
  have := rg_mem.mp hi
  rw [cnt_sum, Int.toNat_of_nonneg this.1]
/-! ### places of things -/
def pos (ys : List Int) (x : Int) : Int := ((ys.idxOf x : Nat) : Int)
def seatsL (xs ys : List Int) : List Int := xs.map (pos ys)
theorem pos_of {n : Nat} {ys : List Int} (o : IsOrd n ys) {j : Nat} {x : Int} (h : ys[j]? = some x) : pos ys x = (j : Int) := by
  obtain ⟨hj, e⟩ := List.getElem?_eq_some_iff.mp h
  have m : x ∈ ys := List.mem_of_getElem? h
  have hi : ys.idxOf x < ys.length := List.idxOf_lt_length_iff.mpr m
  have h2 : ys[ys.idxOf x]? = some x := by
    rw [List.getElem?_eq_getElem hi]
    exact congrArg some (List.getElem_idxOf hi)
  unfold pos
  rw [nd_ix o.nodup h2 h]
theorem pos_at {n : Nat} {ys : List Int} (o : IsOrd n ys) {x : Int} (h0 : 0 ≤ x) (h1 : x < n) : ∃ j : Nat, j < n ∧ ys[j]? = some x ∧ pos ys x = (j : Int) := by
  obtain ⟨j, hj, e⟩ := ord_at o (t := x.toNat) (by omega)
  rw [Int.toNat_of_nonneg h0] at e
  exact ⟨j, hj, e, pos_of o e⟩
theorem back_pos {n : Nat} {ys ps : List Int} (o : IsOrd n ys) (h : IsBack ys ps) {x : Int} (h0 : 0 ≤ x) (h1 : x < n) : ps[x.toNat]? = some (pos ys x) := by
  obtain ⟨j, hj, e, ep⟩ := pos_at o h0 h1
  rw [ep]
  exact h.2 j x e
theorem seats_len (xs ys : List Int) : (seatsL xs ys).length = xs.length := by
  unfold seatsL
  rw [List.length_map]
theorem seats_at {xs ys : List Int} {i : Nat} {x : Int} (h : xs[i]? = some x) : (seatsL xs ys)[i]? = some (pos ys x) := by
  unfold seatsL
  rw [List.getElem?_map, h]
  rfl
theorem seats_self {n : Nat} {ys : List Int} (o : IsOrd n ys) : seatsL ys ys = rg n := by
  apply List.ext_getElem?
  intro i
  by_cases h : i < n
  · obtain ⟨x, hx, _⟩ := ord_ix o h
    rw [seats_at hx, pos_of o hx]
    unfold rg
    rw [List.getElem?_map, List.getElem?_range h]
    rfl
  · rw [List.getElem?_eq_none (by rw [seats_len, o.len]; omega), List.getElem?_eq_none (by rw [rg_len]; omega)]
theorem seats_ord {n : Nat} {xs ys : List Int} (ox : IsOrd n xs) (oy : IsOrd n ys) : IsOrd n (seatsL xs ys) := by
  have h : (seatsL xs ys).Perm (seatsL ys ys) := List.Perm.map _ (ox.trans oy.symm)
  rw [seats_self oy] at h
  exact h
theorem g0_ord {n : Nat} {s : List Int} (o : IsOrd n s) : s = (rg n).map (g0 s) := by
  have e := by_places s
  rw [o.len] at e
  exact e
/-- inversions from the other side -/
theorem inv_turn {n : Nat} {s t : List Int} (os : IsOrd n s) (ot : IsOrd n t) (h : ∀ u ∈ rg n, g0 s (g0 t u) = u) : invN s = invN t := by
  rw [inv_eq, inv_eq, os.len, ot.len]
  unfold invF
  have p1 : ∀ f : Int → Nat, sumN (rg n) f = sumN (rg n) fun u => f (g0 t u) := fun f => by
    have e : sumN ((rg n).map (g0 t)) f = sumN (rg n) fun u => f (g0 t u) := sumN_map _ _ _
    rw [← e, ← g0_ord ot]
    exact (sumN_perm ot f).symm
  rw [p1]
  rw [sumN_congr (g := fun u => sumN (rg n) fun v => ind (decide (g0 t u < g0 t v) && decide (v < u))) (fun u hu => by
    rw [p1]
    exact sumN_congr fun v hv => by rw [h u hu, h v hv])]
  rw [sumN_swap]
  apply sumN_congr
  intro v _
  apply sumN_congr
  intro u _
  rw [Bool.and_comm]
theorem seats_turn {n : Nat} {xs ys : List Int} (ox : IsOrd n xs) (oy : IsOrd n ys) : ∀ u ∈ rg n, g0 (seatsL xs ys) (g0 (seatsL ys xs) u) = u := by
  intro u hu
  have hb := rg_mem.mp hu
  obtain ⟨y, hy, y0, y1⟩ := ord_ix oy (j := u.toNat) (by omega)
  have e1 : g0 (seatsL ys xs) u = pos xs y := by
    have := g0_at (seats_at (ys := xs) hy)
    rw [Int.toNat_of_nonneg hb.1] at this
    exact this
  obtain ⟨j, hj, ej, pj⟩ := pos_at ox y0 y1
  rw [e1, pj, g0_at (seats_at (ys := ys) ej), pos_of oy hy]
  omega
/-! ### how far two orders are -/
def farSwap (xs ys : List Int) : Int := ((invN (seatsL xs ys) : Nat) : Int)
def spotL (xs ys : List Int) : List Int := (rg xs.length).filter fun p => !decide (g0 xs p = g0 ys p)
def farSpot (xs ys : List Int) : Int := (((spotL xs ys).length : Nat) : Int)
def absI (i : Int) : Int := if i < 0 then -i else i
def gapsL (xs ys : List Int) : List Int := (rg xs.length).map fun p => absI (p - g0 (seatsL xs ys) p)
def maxL (l : List Int) : Int := l.foldr max 0
def farShift (xs ys : List Int) : Int := maxL (gapsL xs ys)
theorem maxL_of : ∀ {l : List Int} {m : Int}, (∀ x ∈ l, 0 ≤ x) → m ∈ l → (∀ x ∈ l, x ≤ m) → maxL l = m := by
  intro l m h0 hm hle
  have key : ∀ l : List Int, (∀ x ∈ l, x ≤ m) → maxL l ≤ m := by
    intro l hl
    induction l with
    | nil => exact h0 m hm
    | cons a l ih =>
      show max a (maxL l) ≤ m
      have h1 := hl a List.mem_cons_self
      have h2 := ih fun x hx => hl x (List.mem_cons_of_mem _ hx)
      omega
  have key2 : ∀ l : List Int, ∀ x ∈ l, x ≤ maxL l := by
    intro l
    induction l with
    | nil => intro x hx; exact absurd hx List.not_mem_nil
    | cons a l ih =>
      intro x hx
      show x ≤ max a (maxL l)
      rcases List.mem_cons.mp hx with rfl | hx
      · omega
      · have := ih x hx
        omega
  have := key l hle
  have := key2 l m hm
  omega
theorem gaps_nonneg (xs ys : List Int) : ∀ x ∈ gapsL xs ys, 0 ≤ x := by
  intro x hx
  obtain ⟨p, _, rfl⟩ := List.mem_map.mp hx
  unfold absI
  split <;> omega
theorem maxL_mem {l : List Int} (h0 : ∀ x ∈ l, 0 ≤ x) (hl : 0 < l.length) : maxL l ∈ l ∧ ∀ x ∈ l, x ≤ maxL l := by
  induction l with
  | nil => exact absurd hl (Nat.lt_irrefl _)
  | cons a l ih =>
    show max a (maxL l) ∈ a :: l ∧ ∀ x ∈ a :: l, x ≤ max a (maxL l)
    by_cases c : 0 < l.length
    · obtain ⟨h1, h2⟩ := ih (fun x hx => h0 x (List.mem_cons_of_mem _ hx)) c
      constructor
      · by_cases d : maxL l ≤ a
        · rw [Int.max_eq_left d]
          exact List.mem_cons_self
        · rw [Int.max_eq_right (by omega)]
          exact List.mem_cons_of_mem _ h1
      · intro x hx
        rcases List.mem_cons.mp hx with rfl | hx
        · omega
        · have := h2 x hx
          omega
    · have e : l = [] := List.eq_nil_of_length_eq_zero (by omega)
      subst e
      have := h0 a List.mem_cons_self
      have e2 : max a (maxL []) = a := by show max a 0 = a; omega
      rw [e2]
      exact ⟨List.mem_cons_self, fun x hx => by rw [List.mem_singleton.mp hx]; exact Int.le_refl _⟩
theorem farSwap_turn {n : Nat} {xs ys : List Int} (ox : IsOrd n xs) (oy : IsOrd n ys) : farSwap ys xs = farSwap xs ys := by
  unfold farSwap
  rw [inv_turn (seats_ord ox oy) (seats_ord oy ox) (seats_turn ox oy)]
theorem inv_rg (n : Nat) : invN (rg n) = 0 := by
  rw [inv_eq]
  unfold invF
  apply sumN_zero
  intro i hi
  apply sumN_zero
  intro j hj
  rw [rg_len] at hi hj
  have hi2 := rg_mem.mp hi
  have hj2 := rg_mem.mp hj
  have e : ∀ k : Int, k ∈ rg n → g0 (rg n) k = k := fun k hk => by
    have := rg_mem.mp hk
    have z : (rg n)[k.toNat]? = some k := by
      unfold rg
      rw [List.getElem?_map, List.getElem?_range (by omega)]
      show some ((k.toNat : Nat) : Int) = some k
      rw [Int.toNat_of_nonneg this.1]
    have z2 := g0_at z
    rw [Int.toNat_of_nonneg this.1] at z2
    exact z2
  rw [e i hi, e j hj]
  unfold ind
  by_cases c : i < j
  · have d : ¬ j < i := by omega
    simp [c, d]
  · simp [c]
theorem farSwap_self {n : Nat} {xs : List Int} (ox : IsOrd n xs) : farSwap xs xs = 0 := by
  unfold farSwap
  rw [seats_self ox, inv_rg]
  rfl
theorem farSpot_turn {xs ys : List Int} (h : xs.length = ys.length) : farSpot ys xs = farSpot xs ys := by
  unfold farSpot spotL
  rw [h]
  congr 3
  funext p
  congr 1
  by_cases c : g0 ys p = g0 xs p
  · rw [decide_eq_true c, decide_eq_true c.symm]
  · rw [decide_eq_false c, decide_eq_false fun e => c e.symm]
theorem farSpot_self (xs : List Int) : farSpot xs xs = 0 := by
  unfold farSpot spotL
  have e : ((rg xs.length).filter fun p => !decide (g0 xs p = g0 xs p)) = [] := by
    rw [List.filter_eq_nil_iff]
    intro a _
    simp
  rw [e]
  rfl
theorem gaps_len (xs ys : List Int) : (gapsL xs ys).length = xs.length := by
  unfold gapsL
  rw [List.length_map, rg_len]
theorem gaps_sub {n : Nat} {xs ys : List Int} (ox : IsOrd n xs) (oy : IsOrd n ys) : ∀ g ∈ gapsL ys xs, g ∈ gapsL xs ys := by
  intro g hg
  obtain ⟨u, hu, rfl⟩ := List.mem_map.mp hg
  rw [oy.len] at hu
  have hb := (seats_ord oy ox).mem (x := g0 (seatsL ys xs) u) (by
    have e := g0_ord (seats_ord oy ox)
    rw [e]
    exact List.mem_map.mpr ⟨u, hu, by rw [← e]⟩)
  refine List.mem_map.mpr ⟨g0 (seatsL ys xs) u, by rw [ox.len]; exact rg_mem.mpr hb, ?_⟩
  rw [seats_turn ox oy u hu]
  unfold absI
  split <;> split <;> omega
theorem farShift_turn {n : Nat} {xs ys : List Int} (ox : IsOrd n xs) (oy : IsOrd n ys) (hn : 1 ≤ n) : farShift ys xs = farShift xs ys := by
  unfold farShift
  obtain ⟨h1, h2⟩ := maxL_mem (gaps_nonneg xs ys) (by rw [gaps_len, ox.len]; exact hn)
  exact maxL_of (gaps_nonneg ys xs) (gaps_sub oy ox _ h1) fun x hx => h2 x (gaps_sub ox oy x hx)
theorem farShift_self {n : Nat} {xs : List Int} (ox : IsOrd n xs) (hn : 1 ≤ n) : farShift xs xs = 0 := by
  unfold farShift
  have z : ∀ g ∈ gapsL xs xs, g = 0 := by
    intro g hg
    obtain ⟨u, hu, rfl⟩ := List.mem_map.mp hg
    rw [ox.len] at hu
    have hb := rg_mem.mp hu
    rw [seats_self ox]
    have e : (rg n)[u.toNat]? = some u := by
      unfold rg
      rw [List.getElem?_map, List.getElem?_range (by omega)]
      show some ((u.toNat : Nat) : Int) = some u
      rw [Int.toNat_of_nonneg hb.1]
    have z2 := g0_at e
    rw [Int.toNat_of_nonneg hb.1] at z2
    rw [z2]
    unfold absI
    split <;> omega
  obtain ⟨h1, _⟩ := maxL_mem (gaps_nonneg xs xs) (by rw [gaps_len, ox.len]; exact hn)
  exact z _ h1
end Fo
namespace Fo
open PySem PySem.Spec PyProof.Rows L2
/-! ### turned pairs, one after the other -/
def invR : List Int → Nat
  | [] => 0
  | x :: r => (r.filter (fun z => decide (z < x))).length + invR r
theorem rg_cons (n : Nat) : rg (n + 1) = 0 :: (rg n).map (· + 1) := by
  unfold rg
  rw [List.range_succ_eq_map, List.map_cons, List.map_map, List.map_map]
  rfl
theorem inv_NR : ∀ s : List Int, invN s = invR s
  | [] => rfl
  | x :: r => by
    have ih := inv_NR r
    unfold invN at ih ⊢
    rw [List.length_cons, rg_cons, sumN_cons, sumN_map]
    show cntL (x :: r) (0 : Int).toNat + _ = (r.filter (fun z => decide (z < x))).length + invR r
    rw [← ih]
    have e1 : cntL (x :: r) (0 : Int).toNat = (r.filter (fun z => decide (z < x))).length := rfl
    rw [e1]
    congr 1
    apply sumN_congr
    intro i hi
    have hb := rg_mem.mp hi
    obtain ⟨j, rfl⟩ : ∃ j : Nat, i = (j : Int) := ⟨i.toNat, by omega⟩
    rw [show ((j : Int) + 1).toNat = j + 1 by omega, Int.toNat_natCast]
    unfold cntL
    have e2 : g0 (x :: r) ((j + 1 : Nat) : Int) = g0 r (j : Int) := by
      unfold g0
      rw [Int.toNat_natCast, Int.toNat_natCast]
      rfl
    rw [e2]
    rfl
theorem filt_perm {a b : List Int} (h : a.Perm b) (p : Int → Bool) : (a.filter p).length = (b.filter p).length := (h.filter p).length_eq
theorem invR_at : ∀ (A : List Int) (a b : Int) (B : List Int), b < a → invR (A ++ a :: b :: B) = invR (A ++ b :: a :: B) + 1
  | [], a, b, B, h => by
    show ((b :: B).filter (fun z => decide (z < a))).length + ((B.filter (fun z => decide (z < b))).length + invR B) = ((a :: B).filter (fun z => decide (z < b))).length + ((B.filter (fun z => decide (z < a))).length + invR B) + 1
    rw [List.filter_cons, List.filter_cons, decide_eq_true h, decide_eq_false (show ¬ a < b by omega), if_pos rfl, if_neg (by decide), List.length_cons]
    omega
  | x :: A, a, b, B, h => by
    have ih := invR_at A a b B h
    show ((A ++ a :: b :: B).filter (fun z => decide (z < x))).length + invR (A ++ a :: b :: B) = ((A ++ b :: a :: B).filter (fun z => decide (z < x))).length + invR (A ++ b :: a :: B) + 1
    rw [ih, filt_perm (List.Perm.append_left A (List.Perm.swap b a B))]
    omega
theorem invR_sw {s : List Int} {p : Nat} {a b : Int} (ha : s[p]? = some a) (hb : s[p + 1]? = some b) (h : b < a) : invR s = invR (sw s p) + 1 := by
  have hl := (List.getElem?_eq_some_iff.mp hb).1
  obtain ⟨A, x, y, B, rfl, rfl⟩ := split2 hl
  have ex : x = a := by
    rw [List.getElem?_append_right (Nat.le_refl _), Nat.sub_self] at ha
    exact Option.some.inj ha
  have ey : y = b := by
    rw [List.getElem?_append_right (by omega), show A.length + 1 - A.length = 1 by omega] at hb
    exact Option.some.inj hb
  subst ex ey
  rw [sw_at, invR_at A x y B h]
def firstDesc : List Int → Option Nat
  | [] => none
  | [_] => none
  | x :: y :: r => if y < x then some 0 else (firstDesc (y :: r)).map (· + 1)
theorem fd_cons (x y : Int) (r : List Int) : firstDesc (x :: y :: r) = if y < x then some 0 else (firstDesc (y :: r)).map (· + 1) := by rw [firstDesc]
theorem fd_some : ∀ {s : List Int} {p : Nat} {a b : Int}, (∀ (j : Nat) (u v : Int), j < p → s[j]? = some u → s[j + 1]? = some v → u ≤ v) → s[p]? = some a → s[p + 1]? = some b → b < a → firstDesc s = some p
  | [], p, a, b, _, ha, _, _ => by simp at ha
  | [_], p, a, b, _, _, hb, _ => by simp at hb
  | x :: y :: r, 0, a, b, _, ha, hb, h => by
    have e1 : x = a := Option.some.inj ha
    have e2 : y = b := Option.some.inj hb
    rw [fd_cons, if_pos (by omega)]
  | x :: y :: r, p + 1, a, b, hl, ha, hb, h => by
    have h0 : x ≤ y := hl 0 x y (by omega) rfl rfl
    have ih := fd_some (s := y :: r) (p := p) (a := a) (b := b) (fun j u v hj hu hv => hl (j + 1) u v (by omega) hu hv) ha hb h
    rw [fd_cons, if_neg (by omega), ih]
    rfl
theorem fd_none : ∀ {s : List Int}, (∀ (j : Nat) (u v : Int), s[j]? = some u → s[j + 1]? = some v → u ≤ v) → firstDesc s = none
  | [], _ => rfl
  | [_], _ => rfl
  | x :: y :: r, hl => by
    have h0 : x ≤ y := hl 0 x y rfl rfl
    have ih := fd_none (s := y :: r) (fun j u v hu hv => hl (j + 1) u v hu hv)
    rw [fd_cons, if_neg (by omega), ih]
    rfl
theorem fd_at : ∀ {s : List Int} {p : Nat}, firstDesc s = some p → ∃ a b, s[p]? = some a ∧ s[p + 1]? = some b ∧ b < a ∧ ∀ (j : Nat) (u v : Int), j < p → s[j]? = some u → s[j + 1]? = some v → u ≤ v
  | [], p, h => by cases h
  | [_], p, h => by cases h
  | x :: y :: r, p, h => by
    rw [fd_cons] at h
    by_cases c : y < x
    · rw [if_pos c] at h
      cases h
      exact ⟨x, y, rfl, rfl, c, fun j u v hj => absurd hj (Nat.not_lt_zero _)⟩
    · rw [if_neg c] at h
      cases e : firstDesc (y :: r) with
      | none => rw [e] at h; cases h
      | some q =>
        rw [e] at h
        have ep : q + 1 = p := Option.some.inj h
        subst ep
        obtain ⟨a, b, ha, hb, hlt, hl⟩ := fd_at e
        refine ⟨a, b, ha, hb, hlt, fun j u v hj hu hv => ?_⟩
        cases j with
        | zero =>
          have e1 : x = u := Option.some.inj hu
          have e2 : y = v := Option.some.inj hv
          omega
        | succ j => exact hl j u v (by omega) hu hv
theorem fd_sorted : ∀ {s : List Int}, firstDesc s = none → s.Pairwise (· ≤ ·)
  | [], _ => List.Pairwise.nil
  | [_], _ => List.pairwise_singleton _ _
  | x :: y :: r, h => by
    rw [fd_cons] at h
    by_cases c : y < x
    · rw [if_pos c] at h; cases h
    · rw [if_neg c] at h
      have e : firstDesc (y :: r) = none := by
        cases e : firstDesc (y :: r) with
        | none => rfl
        | some q => rw [e] at h; cases h
      have ih := fd_sorted e
      refine List.Pairwise.cons (fun z hz => ?_) ih
      rcases List.mem_cons.mp hz with rfl | hz
      · omega
      · have := (List.pairwise_cons.mp ih).1 z hz
        omega
theorem invR_sorted : ∀ {s : List Int}, s.Pairwise (· ≤ ·) → invR s = 0
  | [], _ => rfl
  | x :: r, h => by
    obtain ⟨h1, h2⟩ := List.pairwise_cons.mp h
    show (r.filter (fun z => decide (z < x))).length + invR r = 0
    rw [invR_sorted h2, List.filter_eq_nil_iff.mpr (fun z hz => by
      have := h1 z hz
      simp
      omega)]
    rfl
theorem fd_pos {s : List Int} (h : 0 < invR s) : ∃ p, firstDesc s = some p := by
  cases e : firstDesc s with
  | none => rw [invR_sorted (fd_sorted e)] at h; omega
  | some p => exact ⟨p, rfl⟩
/-- the first of the shortest walks, of at most m places -/
def gw : Nat → List Int → List Int
  | 0, _ => []
  | m + 1, s => match firstDesc s with
    | none => []
    | some p => (p : Int) :: gw m (sw s p)
abbrev walkL (s : List Int) : List Int := gw (invR s) s
theorem walk_none {s : List Int} (h : firstDesc s = none) : walkL s = [] := by
  unfold walkL
  rw [invR_sorted (fd_sorted h)]
  rfl
theorem walk_some {s : List Int} {p : Nat} (h : firstDesc s = some p) : walkL s = (p : Int) :: walkL (sw s p) := by
  obtain ⟨a, b, ha, hb, hlt, _⟩ := fd_at h
  unfold walkL
  rw [invR_sw ha hb hlt, gw, h]
theorem walk_len : ∀ (m : Nat) (s : List Int), invR s = m → (walkL s).length = m
  | 0, s, h => by
    unfold walkL
    rw [h]
    rfl
  | m + 1, s, h => by
    obtain ⟨p, hp⟩ := fd_pos (s := s) (by omega)
    obtain ⟨a, b, ha, hb, hlt, _⟩ := fd_at hp
    rw [walk_some hp, List.length_cons, walk_len m (sw s p) (by have := invR_sw ha hb hlt; omega)]
theorem invR_len (s : List Int) : invR s ≤ s.length * s.length := by
  induction s with
  | nil => exact Nat.le_refl _
  | cons x r ih =>
    show (r.filter _).length + invR r ≤ (r.length + 1) * (r.length + 1)
    have h1 : (r.filter (fun z => decide (z < x))).length ≤ r.length := List.length_filter_le _ _
    have h2 : (r.length + 1) * (r.length + 1) = r.length * r.length + r.length + r.length + 1 := by
      rw [Nat.add_mul, Nat.mul_add]
      omega
    omega
theorem seats_sw {xs ys : List Int} {p : Nat} (h : p + 1 < xs.length) : seatsL (sw xs p) ys = sw (seatsL xs ys) p := by
  obtain ⟨A, a, b, B, rfl, rfl⟩ := split2 h
  rw [sw_at]
  unfold seatsL
  rw [List.map_append, List.map_cons, List.map_cons, List.map_append, List.map_cons, List.map_cons]
  have e := sw_at (A.map (pos ys)) (pos ys a) (pos ys b) (B.map (pos ys))
  rw [List.length_map] at e
  exact e.symm
theorem cut_sw {xs : List Int} {p : Nat} {a b : Int} (ha : xs[p]? = some a) (hb : xs[p + 1]? = some b) : xs.take p ++ [b, a] ++ xs.drop (p + 2) = sw xs p := by
  have hl := (List.getElem?_eq_some_iff.mp hb).1
  obtain ⟨A, x, y, B, rfl, rfl⟩ := split2 hl
  have ex : x = a := by
    rw [List.getElem?_append_right (Nat.le_refl _), Nat.sub_self] at ha
    exact Option.some.inj ha
  have ey : y = b := by
    rw [List.getElem?_append_right (by omega), show A.length + 1 - A.length = 1 by omega] at hb
    exact Option.some.inj hb
  subst ex ey
  rw [sw_at, List.take_left, List.drop_append, List.drop_of_length_le (by omega), show A.length + 2 - A.length = 2 by omega]
  simp
theorem filt_map (l : List Int) (f : Int → Int) (p : Int → Bool) : ((l.map f).filter p).length = (l.filter (fun x => p (f x))).length := by
  rw [List.filter_map, List.length_map]
  rfl
end Fo
namespace Fo
open PySem PySem.Spec PyProof.Rows L2
theorem pos_ord {n : Nat} {xs : List Int} (o : IsOrd n xs) : IsOrd n ((rg n).map (pos xs)) := by
  have h : ((rg n).map (pos xs)).Perm (seatsL xs xs) := List.Perm.map _ o.symm
  rw [seats_self o] at h
  exact h
theorem pos_in {n : Nat} {xs : List Int} (o : IsOrd n xs) {t : Int} (h : t ∈ rg n) : pos xs t ∈ rg n := by
  have := (pos_ord o).mem (List.mem_map.mpr ⟨t, h, rfl⟩)
  exact rg_mem.mpr this
theorem pos_inj {n : Nat} {xs : List Int} (o : IsOrd n xs) {t u : Int} (ht : t ∈ rg n) (hu : u ∈ rg n) (e : pos xs t = pos xs u) : t = u := by
  have h1 := rg_mem.mp ht
  have h2 := rg_mem.mp hu
  obtain ⟨i, _, ei, pi⟩ := pos_at o h1.1 h1.2
  obtain ⟨j, _, ej, pj⟩ := pos_at o h2.1 h2.2
  have : i = j := by omega
  subst this
  exact Option.some.inj (ei.symm.trans ej)
/-- a sum over the places is a sum over the things -/
theorem sum_pos {n : Nat} {xs : List Int} (o : IsOrd n xs) (f : Int → Nat) : sumN (rg n) f = sumN (rg n) fun t => f (pos xs t) := by
  have e : sumN ((rg n).map (pos xs)) f = sumN (rg n) fun t => f (pos xs t) := sumN_map _ _ _
  rw [← e]
  exact (sumN_perm (pos_ord o) f).symm
theorem sum_g0 {n : Nat} {xs : List Int} (o : IsOrd n xs) (f : Int → Nat) : sumN (rg n) f = sumN (rg n) fun p => f (g0 xs p) := by
  have e : sumN ((rg n).map (g0 xs)) f = sumN (rg n) fun t => f (g0 xs t) := sumN_map _ _ _
  rw [← e, ← g0_ord o]
  exact (sumN_perm o f).symm
theorem g0_pos {n : Nat} {xs : List Int} (o : IsOrd n xs) {t : Int} (h : t ∈ rg n) : g0 xs (pos xs t) = t := by
  have h1 := rg_mem.mp h
  obtain ⟨j, _, ej, pj⟩ := pos_at o h1.1 h1.2
  rw [pj]
  exact g0_at ej
theorem pos_g0 {n : Nat} {xs : List Int} (o : IsOrd n xs) {p : Int} (h : p ∈ rg n) : pos xs (g0 xs p) = p := by
  have h1 := rg_mem.mp h
  obtain ⟨x, hx, _⟩ := ord_ix o (j := p.toNat) (by omega)
  have e := g0_at hx
  rw [Int.toNat_of_nonneg h1.1] at e
  rw [e, pos_of o hx]
  omega
theorem g0_in {n : Nat} {xs : List Int} (o : IsOrd n xs) {p : Int} (h : p ∈ rg n) : g0 xs p ∈ rg n := by
  have h1 := rg_mem.mp h
  obtain ⟨x, hx, x0, x1⟩ := ord_ix o (j := p.toNat) (by omega)
  have e := g0_at hx
  rw [Int.toNat_of_nonneg h1.1] at e
  rw [e]
  exact rg_mem.mpr ⟨x0, x1⟩
end Fo
namespace Fo
open PySem PySem.Spec PyProof.Rows L2
/-! ### all orders of few things -/
def extO (n : Nat) (o : List Int) : List (List Int) := ((rg n).filter fun t => !decide (t ∈ o)).map fun t => o ++ [t]
def allK (n : Nat) : Nat → List (List Int)
  | 0 => [[]]
  | k + 1 => (allK n k).flatMap (extO n)
theorem allK_row {n : Nat} : ∀ (k : Nat) (r : List Int), r ∈ allK n k → r.length = k ∧ r.Nodup ∧ ∀ x ∈ r, x ∈ rg n
  | 0, r, h => by
    rw [List.mem_singleton.mp h]
    exact ⟨rfl, List.nodup_nil, fun x hx => absurd hx List.not_mem_nil⟩
  | k + 1, r, h => by
    obtain ⟨o, ho, hr⟩ := List.mem_flatMap.mp h
    obtain ⟨h1, h2, h3⟩ := allK_row k o ho
    obtain ⟨t, ht, rfl⟩ := List.mem_map.mp hr
    obtain ⟨ht1, ht2⟩ := List.mem_filter.mp ht
    have hto : t ∉ o := by simpa using ht2
    refine ⟨by rw [List.length_append, h1]; rfl, ?_, fun x hx => ?_⟩
    · rw [List.nodup_append]
      refine ⟨h2, List.nodup_cons.mpr ⟨List.not_mem_nil, List.nodup_nil⟩, fun x hx y hy e => ?_⟩
      rw [List.mem_singleton.mp hy] at e
      exact hto (by rw [← e]; exact hx)
    · rcases List.mem_append.mp hx with hx | hx
      · exact h3 x hx
      · rw [List.mem_singleton.mp hx]
        exact ht1
theorem extO_len (n : Nat) (o : List Int) : (extO n o).length ≤ n := by
  unfold extO
  rw [List.length_map]
  have := List.length_filter_le (fun t => !decide (t ∈ o)) (rg n)
  rw [rg_len] at this
  exact this
theorem flat_len (n : Nat) : ∀ l : List (List Int), (l.flatMap (extO n)).length ≤ l.length * n
  | [] => Nat.zero_le _
  | o :: l => by
    rw [List.flatMap_cons, List.length_append, List.length_cons, Nat.add_mul, Nat.one_mul]
    have := flat_len n l
    have := extO_len n o
    omega
theorem allK_len {n : Nat} (hn : n ≤ 6) : ∀ k, k ≤ n → (allK n k).length ≤ 6 ^ k
  | 0, _ => Nat.le_refl _
  | k + 1, hk => by
    have ih := allK_len hn k (by omega)
    have h1 : (allK n (k + 1)).length ≤ (allK n k).length * n := flat_len n (allK n k)
    have h2 : (allK n k).length * n ≤ 6 ^ k * 6 := Nat.mul_le_mul ih hn
    rw [Nat.pow_succ]
    omega
theorem pow6 {k : Nat} (h : k ≤ 6) : 6 ^ k ≤ 46656 := by
  have : 6 ^ k ≤ 6 ^ 6 := Nat.pow_le_pow_right (by decide) h
  exact this
theorem nodup_count : ∀ {l : List Int}, l.Nodup → ∀ a, l.count a = if a ∈ l then 1 else 0
  | [], _, a => by simp
  | b :: l, h, a => by
    obtain ⟨h1, h2⟩ := List.nodup_cons.mp h
    have ih := nodup_count h2 a
    rw [List.count_cons, ih]
    by_cases c : b = a
    · subst c
      simp [h1]
    · have c2 : ¬ a = b := fun e => c e.symm
      simp [c, c2]
theorem nodup_ord {n : Nat} {s : List Int} (hl : s.length = n) (hn : s.Nodup) (hb : ∀ x ∈ s, x ∈ rg n) : IsOrd n s := by
  unfold IsOrd
  rw [List.perm_iff_count]
  intro a
  rw [nodup_count hn, nodup_count (rg_nodup n)]
  by_cases c : a ∈ s
  · rw [if_pos c, if_pos (hb a c)]
  · rw [if_neg c]
    by_cases d : a ∈ rg n
    · exfalso
      have := nodup_len (l := a :: s) (m := rg n) (List.nodup_cons.mpr ⟨c, hn⟩) fun x hx => by
        rcases List.mem_cons.mp hx with rfl | hx
        · exact d
        · exact hb x hx
      rw [List.length_cons, rg_len] at this
      omega
    · rw [if_neg d]
theorem all_ord {n : Nat} {r : List Int} (h : r ∈ allK n n) : IsOrd n r := by
  obtain ⟨h1, h2, h3⟩ := allK_row n r h
  exact nodup_ord h1 h2 h3
theorem inV_int (t : Int) : ∀ row : List Int, inV (.int t) (row.map V.int) = decide (t ∈ row)
  | [] => rfl
  | a :: r => by
    have ih := inV_int t r
    unfold inV at ih ⊢
    rw [List.map_cons, List.any_cons, ih, eqV_int]
    by_cases c : a = t
    · subst c
      simp
    · have c2 : ¬ t = a := fun e => c e.symm
      simp [c, c2]
theorem ext_more {n : Nat} {o : List Int} (j : Nat) : ((rg (j + 1)).filter fun t => !decide (t ∈ o)).map (fun t => o ++ [t]) = (((rg j).filter fun t => !decide (t ∈ o)).map fun t => o ++ [t]) ++ (if (j : Int) ∈ o then [] else [o ++ [(j : Int)]]) := by
  rw [rg_succ, List.filter_append, List.map_append, List.filter_cons]
  congr 1
  by_cases c : (j : Int) ∈ o
  · rw [decide_eq_true c, if_pos c]
    rfl
  · rw [decide_eq_false c, if_neg c]
    rfl
/-! ### comprehensions with two fors: a list, then a range -/
theorem lc2_list {K : PySem.W.Frag} {a : Addr} {xs : List V} {g : TG} {tt : TT} {wi1 : TI} {g1 : TG} {tt1 : TT} {te : TE} {vs vs1 : List Nat} {σ : L2.St} {H1 : Hp} {D : Addr} {Qd : Hp → Prop} (Pv : Nat → Hp → Prop) (h0 : Pv 0 (upd H1 D (.lst []))) (hl : ∀ i H, i ≤ xs.length → Pv i H → SqL K H a xs)
    (hs : ∀ i x H, xs[i]? = some x → Pv i H → g x (wipe σ vs) H fun σ2 H2 => wipe σ2 vs = wipe σ vs ∧ tt σ2 H2 fun b H3 =>
      if b = true then wi1 σ2 H3 fun J1 H4 => ∃ W1 : Nat → Nat → Hp → Prop, (∃ m, W1 0 m H4) ∧ ∀ j k H, W1 j k H →
        (J1.stop j H ∧ Pv (i + 1) H) ∨ (J1.go j H ∧ ∃ Nx1 : Hp → Prop, (∀ H', Nx1 H' → ∃ k', k' < k ∧ W1 (j + 1) k' H') ∧ ∀ x H', J1.yld j H x H' → g1 x (wipe σ2 vs1) H' fun σ3 H5 => wipe σ3 vs1 = wipe σ2 vs1 ∧ tt1 σ3 H5 fun b H6 =>
          if b = true then te σ3 H6 fun y H7 => ∃ acc, H7 D = some (.lst acc) ∧ acc.length < sizeLine ∧ Nx1 (upd H7 D (.lst (acc ++ [y]))) else Nx1 H6)
      else Pv (i + 1) H3) (hd : ∀ H, Pv xs.length H → Qd H) :
    ∃ W : Nat → Nat → Hp → Prop, (∃ m, W 0 m (upd H1 D (.lst []))) ∧ ∀ i m H, W i m H →
      ((Itl K a).stop i H ∧ Qd H) ∨ ((Itl K a).go i H ∧ ∃ Nx : Hp → Prop, (∀ H', Nx H' → ∃ m', m' < m ∧ W (i + 1) m' H') ∧ ∀ x H', (Itl K a).yld i H x H' → g x (wipe σ vs) H' fun σ2 H2 => wipe σ2 vs = wipe σ vs ∧ tt σ2 H2 fun b H3 =>
        if b = true then wi1 σ2 H3 fun J1 H4 => ∃ W1 : Nat → Nat → Hp → Prop, (∃ m, W1 0 m H4) ∧ ∀ j k H, W1 j k H →
          (J1.stop j H ∧ Nx H) ∨ (J1.go j H ∧ ∃ Nx1 : Hp → Prop, (∀ H', Nx1 H' → ∃ k', k' < k ∧ W1 (j + 1) k' H') ∧ ∀ x H', J1.yld j H x H' → g1 x (wipe σ2 vs1) H' fun σ3 H5 => wipe σ3 vs1 = wipe σ2 vs1 ∧ tt1 σ3 H5 fun b H6 =>
            if b = true then te σ3 H6 fun y H7 => ∃ acc, H7 D = some (.lst acc) ∧ acc.length < sizeLine ∧ Nx1 (upd H7 D (.lst (acc ++ [y]))) else Nx1 H6)
        else Nx H3) := by
  refine ⟨fun i m H => m = xs.length - i ∧ i ≤ xs.length ∧ Pv i H, ⟨xs.length, by simp, Nat.zero_le _, h0⟩, ?_⟩
  rintro i m H ⟨rfl, hi, p⟩
  have q := hl i H hi p
  by_cases hlt : i < xs.length
  · refine .inr ⟨⟨xs, xs[i], q, by simp [hlt]⟩, Pv (i + 1), fun H' p' => ⟨xs.length - (i + 1), by omega, rfl, hlt, p'⟩, fun x H' y => ?_⟩
    obtain ⟨e, y⟩ := y
    subst e
    exact hs i x _ (y _ q) p
  · have e : i = xs.length := by omega
    subst e
    exact .inl ⟨⟨xs, q, Nat.le_refl _⟩, hd H p⟩
theorem in_range {lo : Int} {n : Nat} {g1 : TG} {tt1 : TT} {te : TE} {vs1 : List Nat} {σ2 : L2.St} {H4 : Hp} {D : Addr} {Nx : Hp → Prop} (Pw : Nat → Hp → Prop) (h0 : Pw 0 H4)
    (hs : ∀ j H, j < n → Pw j H → g1 (.int (lo + j)) (wipe σ2 vs1) H fun σ3 H5 => wipe σ3 vs1 = wipe σ2 vs1 ∧ tt1 σ3 H5 fun b H6 =>
      if b = true then te σ3 H6 fun y H7 => ∃ acc, H7 D = some (.lst acc) ∧ acc.length < sizeLine ∧ Pw (j + 1) (upd H7 D (.lst (acc ++ [y]))) else Pw (j + 1) H6) (hd : ∀ H, Pw n H → Nx H) :
    ∃ W1 : Nat → Nat → Hp → Prop, (∃ m, W1 0 m H4) ∧ ∀ j k H, W1 j k H →
      ((Itr lo n).stop j H ∧ Nx H) ∨ ((Itr lo n).go j H ∧ ∃ Nx1 : Hp → Prop, (∀ H', Nx1 H' → ∃ k', k' < k ∧ W1 (j + 1) k' H') ∧ ∀ x H', (Itr lo n).yld j H x H' → g1 x (wipe σ2 vs1) H' fun σ3 H5 => wipe σ3 vs1 = wipe σ2 vs1 ∧ tt1 σ3 H5 fun b H6 =>
        if b = true then te σ3 H6 fun y H7 => ∃ acc, H7 D = some (.lst acc) ∧ acc.length < sizeLine ∧ Nx1 (upd H7 D (.lst (acc ++ [y]))) else Nx1 H6) := by
  refine ⟨fun j m H => m = n - j ∧ j ≤ n ∧ Pw j H, ⟨n, by simp, Nat.zero_le _, h0⟩, ?_⟩
  rintro j m H ⟨rfl, hi, p⟩
  by_cases hlt : j < n
  · refine .inr ⟨hlt, Pw (j + 1), fun H' p' => ⟨n - (j + 1), by omega, rfl, hlt, p'⟩, fun x H' y => ?_⟩
    obtain ⟨e, y⟩ := y
    subst e y
    exact hs j _ hlt p
  · have e : j = n := by omega
    subst e
    exact .inl ⟨Nat.le_refl _, hd H p⟩
end Fo
namespace Fo
open PySem PySem.Spec PyProof.Rows L2
def spWhole : Sp := fun vs H Q _ => ∃ i : Int, vs = [.int i] ∧ Q (.bl true) H
section
variable {P : Program} {w : World} {K : PySem.W.Frag} {mg : Str → Option Value} {base : Heap}
theorem scWhole : FnScope ["thing"] ["thing"] (defScope s_is_whole) := ⟨rfl, rfl, rfl, by decide +kernel, rfl, by decide +kernel, by decide +kernel⟩
theorem ok_whole {f : Addr} {fd : FuncData} {k : Nat} (T : Df K mg "is_whole" s_is_whole ["thing"] f fd) (B : Bi mg) : FnOk P w K mg base CX0 (k + 1) f fd ["thing"] spWhole := by
  refine T.F.ok scWhole (fun vs H Q E h => ?_) (fun cdv A outer s H vs Q E hr h => ?_)
  · obtain ⟨i, rfl, _⟩ := h
    rfl
  · obtain ⟨i, rfl, q⟩ := h
    refine ⟨_, pss_one (ps_ret (pe_and (pe_callB call_isi (by rfl) B.isinstance (by decide +kernel) (pa_cons (pv 0) (pa_cons (pe_bltn (v := .ty "int") (by rfl) B.int (by decide +kernel) rfl) pa_nil)))
      (pe_one (pe_not (pe_callB call_isi (by rfl) B.isinstance (by decide +kernel) (pa_cons (pv 0) (pa_cons (pe_bltn (v := .ty "bool") (by rfl) B.bool (by decide +kernel) rfl) pa_nil))))))), ?_⟩
    refine ⟨_, rfl, _, _, _, _, true, rfl, .ty _, .base (.int _), kit_ty (by decide +kernel), true, rfl, iteT ?_⟩
    exact ⟨_, rfl, _, _, _, _, false, rfl, .ty _, .base (.int _), kit_ty (by decide +kernel), false, rfl, q⟩
end
end Fo
namespace Fo
open PySem PySem.Spec PyProof.Rows L2
/-! ### whole numbers, orders -/
def spIsOrd : Sp := fun vs H Q _ => ∃ (a : Addr) (n : Nat) (ns : List Int), vs = [.ref a] ∧ H a = some (.lst (ns.map V.int)) ∧ IsOrd n ns ∧ 1 ≤ n ∧ n ≤ 12 ∧ ∀ H', Same H H' → Q (.bl true) H'
def spCheck : Sp := fun vs H Q _ => ∃ (a : Addr) (n : Nat) (ns : List Int), vs = [.ref a] ∧ H a = some (.lst (ns.map V.int)) ∧ IsOrd n ns ∧ 1 ≤ n ∧ n ≤ 12 ∧ ∀ H', Same H H' → Q .non H'
section
variable {P : Program} {w : World} {K : PySem.W.Frag} {mg : Str → Option Value} {base : Heap}
theorem scIsOrd : FnScope ["thing", "number"] ["thing"] (defScope s_is_order) := ⟨rfl, rfl, rfl, by decide +kernel, rfl, by decide +kernel, by decide +kernel⟩
theorem all_true (n : Nat) : (List.replicate n true).all id = true := by simp
set_option maxHeartbeats 2000000 in
theorem ok_is_order {f fW : Addr} {fd fdW : FuncData} {k : Nat} {t : Tok} (T : Df K mg "is_order" s_is_order ["thing"] f fd) (TW : Df K mg "is_whole" s_is_whole ["thing"] fW fdW) (B : Bi mg) (mM : mg "MOST_THINGS" = some (.int 12 t)) : FnOk P w K mg base CX0 (k + 2) f fd ["thing"] spIsOrd := by
  have GW : FnOk P w K mg base CX0 (k + 1) fW fdW ["thing"] spWhole := ok_whole TW B
  refine T.F.ok scIsOrd (fun vs H Q E h => ?_) (fun cdv A outer s H vs Q E hr h => ?_)
  · obtain ⟨a, n, ns, rfl, _⟩ := h
    rfl
  · obtain ⟨a, n, ns, rfl, hl, ho, hn1, hn2, q⟩ := h
    have hlm : (ns.map V.int).length = n := by rw [List.length_map, ho.len]
    refine ⟨_, pss_cons (ps_if (PW.pt (pw_or (pt_not (pt_val (pe_callB call_isi (by rfl) B.isinstance (by decide +kernel) (pa_cons (pv 0) (pa_cons (pe_bltn (v := .ty "list") (by rfl) B.list (by decide +kernel) rfl) pa_nil)))))
        (pw_or (pt_cmpR op_lt (pe_callB call_len_seq (by rfl) B.len PySem.boot_len (pa_cons (pv 0) pa_nil)) pe_int (nomark _)) (pw_or1 (pt_cmpR op_gt (pe_callB call_len_seq (by rfl) B.len PySem.boot_len (pa_cons (pv 0) pa_nil)) (pe_glob (v := .int 12) (by rfl) mM ⟨_, rfl⟩) (nomark _))))))
        (pss_one (ps_ret pe_bl)) pss_nil)
      (pss_cons (ps_if (pt_not (pt_val (pe_callB (cr_all rfl) (by rfl) B.all (by decide +kernel) (pa_cons (pe_lc (own := [("number", 1)]) (g := gName 1) (tt := tYes) (te := tCall spWhole [] E0 (tCons (tVar 1) tNil)) rfl scIsOrd.nd (pi_list (pv 0)) (blkOk_by (N := ["thing", "number"]) (sc := defScope s_is_order) (by decide +kernel)) (fun _ _ _ _ _ => pg_name (i := 1) scIsOrd.nd rfl (.inl rfl)) (fun _ _ _ _ _ => pts_nil)
          (fun _ _ _ _ _ => pe_call GW hr (by rfl) TW.g TW.F.kp TW.b .nil pass0 (pa_cons (pv 1) pa_nil))) pa_nil)))) (pss_one (ps_ret pe_bl)) pss_nil)
      (pss_one (ps_ret (pe_cmpR (op_eqD hr.units) (pe_callB cr_sorted (by rfl) B.sorted (by decide +kernel) (pa_cons (pv 0) pa_nil)) (pe_listRg rfl (by rfl) B.list (prg_1 (by rfl) B.range (pe_callB call_len_seq (by rfl) B.len PySem.boot_len (pa_cons (pv 0) pa_nil)))) (nomark _))))), ?_⟩
    refine ⟨_, rfl, _, _, _, _, true, rfl, .ty _, .base (.lst hl), kit_ty (by decide +kernel), true, rfl, iteF ?_⟩
    refine ⟨_, rfl, a, _, rfl, .inl (SqL.of hl), _, 1, rfl, rfl, _, rfl, ite2 (fun c => absurd (of_decide_eq_true c) (by rw [hlm]; omega)) (fun _ => ?_)⟩
    refine ⟨_, rfl, a, _, rfl, .inl (SqL.of hl), _, 12, rfl, rfl, _, rfl, ite2 (fun c => absurd (of_decide_eq_true c) (by rw [hlm]; omega)) (fun _ => ?_)⟩
    refine ⟨_, rfl, a, rfl, ⟨_, SqL.of hl⟩, fun p np => ?_⟩
    refine lc_list (K := K) (a := a) (xs := ns.map V.int) (fun i H3 => H3 p = some (.lst ((List.replicate i true).map V.bl)) ∧ Same H H3) ⟨upd_same, same_new np⟩ (fun i H3 _ hP => SqL.of (hP.2 _ _ hl)) (fun i x H3 hx hP => ?_) (fun H3 hP => ?_)
    · obtain ⟨y, ey, rfl⟩ := int_at_inv hx
      obtain ⟨hp3, sm⟩ := hP
      refine ⟨rfl, _, rfl, y, rfl, _, hp3, line_lt (by
        rw [List.length_map, List.length_replicate]
        have := (List.getElem?_eq_some_iff.mp hx).1
        omega), ?_, fun b o e => ?_⟩
      · rw [upd_same, List.replicate_succ', List.map_append]
        rfl
      · rw [upd_ne (ne_of_none e np)]
        exact sm _ _ e
    · obtain ⟨hp3, sm⟩ := hP
      have hl3 := sm _ _ hl
      refine ⟨p, _, rfl, SqL.of hp3, _, rfl, ?_⟩
      rw [all_true]
      refine iteF ?_
      refine ⟨_, rfl, a, ns, rfl, SqL.of hl3, by rw [ho.len]; omega, fun ns' s1 hperm hsrt ns1 => ?_⟩
      have hl4 := same_new (o := .lst (ns'.map V.int)) ns1 _ _ hl3
      refine ⟨_, rfl, a, _, rfl, .inl (SqL.of hl4), _, rfl, RgOk.of_le (by omega) (by rw [hlm]; omega) (by omega) (by omega), fun s2 ns2 => ?_⟩
      have e1 : ns' = rg n := sorted_eq (hperm.trans ho) hsrt (rg_sorted n)
      subst e1
      rw [hlm]
      have h1 : (upd (upd H3 s1 (.lst ((rg n).map V.int))) s2 (.lst (rgV 0 (n : Int)))) s1 = some (.lst ((rg n).map V.int)) := same_new ns2 _ _ upd_same
      have h2 : (upd (upd H3 s1 (.lst ((rg n).map V.int))) s2 (.lst (rgV 0 (n : Int)))) s2 = some (.lst ((rg n).map V.int)) := by rw [upd_same, rg_V]
      refine ⟨_, _, dp_list h1, dp_list h2, shaped_list _, shaped_list _, ?_⟩
      rw [eqv_list]
      exact q _ ((sm.trans (same_new ns1)).trans (same_new ns2))
theorem scCheck : FnScope ["thing"] ["thing"] (defScope s_check_order) := ⟨rfl, rfl, rfl, by decide +kernel, rfl, by decide +kernel, by decide +kernel⟩
theorem ok_check {f fO fW : Addr} {fd fdO fdW : FuncData} {k : Nat} {t : Tok} (T : Df K mg "check_order" s_check_order ["thing"] f fd) (TO : Df K mg "is_order" s_is_order ["thing"] fO fdO) (TW : Df K mg "is_whole" s_is_whole ["thing"] fW fdW) (B : Bi mg) (mM : mg "MOST_THINGS" = some (.int 12 t)) : FnOk P w K mg base CX0 (k + 3) f fd ["thing"] spCheck := by
  have GO : FnOk P w K mg base CX0 (k + 2) fO fdO ["thing"] spIsOrd := ok_is_order TO TW B mM
  refine T.F.ok scCheck (fun vs H Q E h => ?_) (fun cdv A outer s H vs Q E hr h => ?_)
  · obtain ⟨a, n, ns, rfl, _⟩ := h
    rfl
  · obtain ⟨a, n, ns, rfl, hl, ho, hn1, hn2, q⟩ := h
    refine ⟨_, pss_one (ps_if (pt_not (pt_val (pe_call GO hr (by rfl) TO.g TO.F.kp TO.b .nil pass0 (pa_cons (pv 0) pa_nil)))) (pss_one ps_never) pss_nil), ?_⟩
    exact ⟨_, rfl, a, n, ns, rfl, hl, ho, hn1, hn2, fun H' sm => ⟨_, rfl, iteF (q H' sm)⟩⟩
end
end Fo
namespace Fo
open PySem PySem.Spec PyProof.Rows L2
def IsWay (w : Str) : Prop := w = "swap" ∨ w = "spot" ∨ w = "shift"
theorem n1 : ¬ (("spot" : Str) = "swap") := by decide +kernel
theorem n2 : ¬ (("shift" : Str) = "swap") := by decide +kernel
theorem n3 : ¬ (("shift" : Str) = "spot") := by decide +kernel
/-- the ways as the top has written them -/
structure Wy (K : PySem.W.Frag) (mg : Str → Option Value) (aW : Addr) : Prop where
  g : mg "WAYS" = some (.ref aW)
  t : ∀ H : Hp, SqT K H aW [.str "swap", .str "spot", .str "shift"]
theorem wy_mk {K : PySem.W.Frag} {mg : Str → Option Value} {aW : Addr} {dd : Option Addr} {n : Nat} {t1 t2 t3 : Tok} {sl : Array (Option Value)} (g : mg "WAYS" = some (.ref aW)) (l : K.lookup aW = some ⟨.type "tuple", dd, .seq #[.str "swap" t1, .str "spot" t2, .str "shift" t3] n, sl⟩) : Wy K mg aW :=
  ⟨g, fun H => .inr ⟨_, _, _, l, rfl, rfl, line_small (by show 3 ≤ 16777216; decide), .cons ⟨_, rfl⟩ (.cons ⟨_, rfl⟩ (.cons ⟨_, rfl⟩ .nil))⟩⟩
def spWay : Sp := fun vs H Q _ => ∃ (w : Str), vs = [.str w] ∧ IsWay w ∧ Q .non H
section
variable {P : Program} {w : World} {K : PySem.W.Frag} {mg : Str → Option Value} {base : Heap}
theorem scWay : FnScope ["thing"] ["thing"] (defScope s_check_way) := ⟨rfl, rfl, rfl, by decide +kernel, rfl, by decide +kernel, by decide +kernel⟩
theorem ok_way {f aW : Addr} {fd : FuncData} {k : Nat} (T : Df K mg "check_way" s_check_way ["thing"] f fd) (W : Wy K mg aW) (B : Bi mg) : FnOk P w K mg base CX0 (k + 1) f fd ["thing"] spWay := by
  refine T.F.ok scWay (fun vs H Q E h => ?_) (fun cdv A outer s H vs Q E hr h => ?_)
  · obtain ⟨z, rfl, _⟩ := h
    rfl
  · obtain ⟨z, rfl, hz, q⟩ := h
    refine ⟨_, 
      (pss_one (ps_if (PW.pt (pw_or (pt_not (pt_val (pe_callB call_isi (by rfl) B.isinstance (by decide +kernel) (pa_cons (pv 0) (pa_cons (pe_bltn (v := .ty "str") (by rfl) B.str (by decide +kernel) rfl) pa_nil))))) (pw_or1 (pt_cmpR op_notIn_seq (pv 0) (pe_glob (v := .ref aW) (by rfl) W.g rfl) (by rfl)))))
        (pss_one ps_never)
        pss_nil)), ?_⟩
    refine ⟨_, rfl, _, _, _, _, true, rfl, .ty _, .base (.str _), kit_ty (by decide +kernel), true, rfl, iteF ?_⟩
    rcases hz with rfl | rfl | rfl
    · exact ⟨_, rfl, aW, _, rfl, .inr (W.t H), rfl, rfl, _, rfl, ite2 (fun c => absurd c (by decide +kernel)) (fun _ => q)⟩
    · exact ⟨_, rfl, aW, _, rfl, .inr (W.t H), rfl, rfl, _, rfl, ite2 (fun c => absurd c (by decide +kernel)) (fun _ => q)⟩
    · exact ⟨_, rfl, aW, _, rfl, .inr (W.t H), rfl, rfl, _, rfl, ite2 (fun c => absurd c (by decide +kernel)) (fun _ => q)⟩
end
end Fo
namespace Fo
open PySem PySem.Spec PyProof.Rows L2
def spFrom : Sp := fun vs H Q _ => ∃ (r least : Int), vs = [.int r, .int least] ∧ least ≤ r ∧ Q .non H
section
variable {P : Program} {w : World} {K : PySem.W.Frag} {mg : Str → Option Value} {base : Heap}
theorem scFrom : FnScope ["thing", "least"] ["thing", "least"] (defScope s_check_from) := ⟨rfl, rfl, rfl, by decide +kernel, rfl, by decide +kernel, by decide +kernel⟩
theorem ok_from {f fW : Addr} {fd fdW : FuncData} {k : Nat} (T : Df K mg "check_from" s_check_from ["thing", "least"] f fd) (T_is_whole : Df K mg "is_whole" s_is_whole ["thing"] fW fdW) (B : Bi mg) : FnOk P w K mg base CX0 (k + 2) f fd ["thing", "least"] spFrom := by
  have G_is_whole : FnOk P w K mg base CX0 (k + 1) fW fdW ["thing"] spWhole := ok_whole T_is_whole B
  refine T.F.ok scFrom (fun vs H Q E h => ?_) (fun cdv A outer s H vs Q E hr h => ?_)
  · obtain ⟨r, least, rfl, _⟩ := h
    rfl
  · obtain ⟨r, least, rfl, hle, q⟩ := h
    refine ⟨_, 
      (pss_one (ps_if (PW.pt (pw_or (pt_not (pt_val (pe_call G_is_whole hr (by rfl) T_is_whole.g T_is_whole.F.kp T_is_whole.b .nil pass0 (pa_cons (pv 0) pa_nil)))) (pw_or1 (pt_cmpR op_lt (pv 0) (pv 1) (nomark _)))))
        (pss_one ps_never)
        pss_nil)), ?_⟩
    refine ⟨_, rfl, r, rfl, _, rfl, iteF ?_⟩
    exact ⟨_, rfl, _, rfl, r, least, rfl, rfl, _, rfl, ite2 (fun z => absurd (of_decide_eq_true z) (by omega)) (fun _ => q)⟩
end
end Fo
namespace Fo
open PySem PySem.Spec PyProof.Rows L2
def spSize : Sp := fun vs H Q _ => ∃ (n most : Int), vs = [.int n, .int most] ∧ 1 ≤ n ∧ n ≤ most ∧ Q .non H
section
variable {P : Program} {w : World} {K : PySem.W.Frag} {mg : Str → Option Value} {base : Heap}
theorem scSize : FnScope ["thing", "most"] ["thing", "most"] (defScope s_check_size) := ⟨rfl, rfl, rfl, by decide +kernel, rfl, by decide +kernel, by decide +kernel⟩
theorem ok_size {f fW : Addr} {fd fdW : FuncData} {k : Nat} (T : Df K mg "check_size" s_check_size ["thing", "most"] f fd) (T_is_whole : Df K mg "is_whole" s_is_whole ["thing"] fW fdW) (B : Bi mg) : FnOk P w K mg base CX0 (k + 2) f fd ["thing", "most"] spSize := by
  have G_is_whole : FnOk P w K mg base CX0 (k + 1) fW fdW ["thing"] spWhole := ok_whole T_is_whole B
  refine T.F.ok scSize (fun vs H Q E h => ?_) (fun cdv A outer s H vs Q E hr h => ?_)
  · obtain ⟨n, most, rfl, _⟩ := h
    rfl
  · obtain ⟨n, most, rfl, h1, h2, q⟩ := h
    refine ⟨_, 
      (pss_one (ps_if (PW.pt (pw_or (pt_not (pt_val (pe_call G_is_whole hr (by rfl) T_is_whole.g T_is_whole.F.kp T_is_whole.b .nil pass0 (pa_cons (pv 0) pa_nil)))) (pw_or (pt_cmpR op_lt (pv 0) pe_int (nomark _)) (pw_or1 (pt_cmpR op_gt (pv 0) (pv 1) (nomark _))))))
        (pss_one ps_never)
        pss_nil)), ?_⟩
    refine ⟨_, rfl, n, rfl, _, rfl, iteF ?_⟩
    refine ⟨_, rfl, n, 1, rfl, rfl, _, rfl, ite2 (fun z => absurd (of_decide_eq_true z) (by omega)) (fun _ => ?_)⟩
    exact ⟨_, rfl, _, rfl, n, most, rfl, rfl, _, rfl, ite2 (fun z => absurd (of_decide_eq_true z) (by omega)) (fun _ => q)⟩
end
end Fo
namespace Fo
open PySem PySem.Spec PyProof.Rows L2
def spApart : Sp := fun vs H Q _ => ∃ (w : Str) (n most d : Int), vs = [.str w, .int n, .int most, .int d] ∧ IsWay w ∧ 1 ≤ n ∧ n ≤ most ∧ 1 ≤ d ∧ Q .non H
section
variable {P : Program} {w : World} {K : PySem.W.Frag} {mg : Str → Option Value} {base : Heap}
theorem scApart : FnScope ["way", "n", "most", "d"] ["way", "n", "most", "d"] (defScope s_check_apart) := ⟨rfl, rfl, rfl, by decide +kernel, rfl, by decide +kernel, by decide +kernel⟩
theorem ok_apart {f f1 f2 f3 fW aW : Addr} {fd d1 d2 d3 dW : FuncData} {k : Nat} (T : Df K mg "check_apart" s_check_apart ["way", "n", "most", "d"] f fd) (T_check_way : Df K mg "check_way" s_check_way ["thing"] f1 d1) (T_check_size : Df K mg "check_size" s_check_size ["thing", "most"] f2 d2) (T_check_from : Df K mg "check_from" s_check_from ["thing", "least"] f3 d3) (T_is_whole : Df K mg "is_whole" s_is_whole ["thing"] fW dW) (W : Wy K mg aW) (B : Bi mg) : FnOk P w K mg base CX0 (k + 3) f fd ["way", "n", "most", "d"] spApart := by
  have G_check_way : FnOk P w K mg base CX0 (k + 2) f1 d1 ["thing"] spWay := ok_way (k := k + 1) T_check_way W B
  have G_check_size : FnOk P w K mg base CX0 (k + 2) f2 d2 ["thing", "most"] spSize := ok_size T_check_size T_is_whole B
  have G_check_from : FnOk P w K mg base CX0 (k + 2) f3 d3 ["thing", "least"] spFrom := ok_from T_check_from T_is_whole B
  refine T.F.ok scApart (fun vs H Q E h => ?_) (fun cdv A outer s H vs Q E hr h => ?_)
  · obtain ⟨w, n, most, d, rfl, _⟩ := h
    rfl
  · obtain ⟨w, n, most, d, rfl, hw, h1, h2, h3, q⟩ := h
    refine ⟨_, 
      (pss_cons (ps_expr (pe_call G_check_way hr (by rfl) T_check_way.g T_check_way.F.kp T_check_way.b .nil pass0 (pa_cons (pv 0) pa_nil)))
      (pss_cons (ps_expr (pe_call G_check_size hr (by rfl) T_check_size.g T_check_size.F.kp T_check_size.b .nil pass0 (pa_cons (pv 1) (pa_cons (pv 2) pa_nil))))
      (pss_one (ps_expr (pe_call G_check_from hr (by rfl) T_check_from.g T_check_from.F.kp T_check_from.b .nil pass0 (pa_cons (pv 3) (pa_cons pe_int pa_nil))))))), ?_⟩
    exact ⟨_, rfl, w, rfl, hw, _, rfl, _, rfl, n, most, rfl, h1, h2, _, rfl, d, 1, rfl, h3, q⟩
end
end Fo
namespace Fo
open PySem PySem.Spec PyProof.Rows L2
def farW (w : Str) (xs ys : List Int) : Int := if w = "swap" then farSwap xs ys else if w = "spot" then farSpot xs ys else farShift xs ys
theorem farW_swap (xs ys : List Int) : farW "swap" xs ys = farSwap xs ys := if_pos rfl
theorem farW_spot (xs ys : List Int) : farW "spot" xs ys = farSpot xs ys := by
  unfold farW
  rw [if_neg n1, if_pos rfl]
theorem farW_shift (xs ys : List Int) : farW "shift" xs ys = farShift xs ys := by
  unfold farW
  rw [if_neg n2, if_neg n3]
theorem farW_turn {w : Str} {n : Nat} {xs ys : List Int} (ox : IsOrd n xs) (oy : IsOrd n ys) (hn : 1 ≤ n) : farW w ys xs = farW w xs ys := by
  unfold farW
  rw [farSwap_turn ox oy, farSpot_turn (by rw [ox.len, oy.len]), farShift_turn ox oy hn]
theorem farW_self {w : Str} {n : Nat} {xs : List Int} (ox : IsOrd n xs) (hn : 1 ≤ n) : farW w xs xs = 0 := by
  unfold farW
  rw [farSwap_self ox, farSpot_self, farShift_self ox hn]
  split
  · rfl
  · split <;> rfl
abbrev rAbs : List V → Hp → VK → Prop := fun xs H Q => ∃ i, xs = [.int i] ∧ Q (.int (if i < 0 then -i else i)) H
def spFar : Sp := fun vs H Q _ => ∃ (w : Str) (a b : Addr) (n : Nat) (xs ys : List Int), vs = [.str w, .ref a, .ref b] ∧ IsWay w ∧ H a = some (.lst (xs.map V.int)) ∧ H b = some (.lst (ys.map V.int)) ∧ IsOrd n xs ∧ IsOrd n ys ∧ 1 ≤ n ∧ n ≤ 12 ∧ ∀ (H' : Hp), Same H H' → Q (.int (farW w xs ys)) H'
end Fo
namespace Fo
open PySem PySem.Spec PyProof.Rows L2
def two (vs : List V) (H : Hp) (a b : Addr) (n : Nat) (xs ys : List Int) : Prop := vs = [.ref a, .ref b] ∧ H a = some (.lst (xs.map V.int)) ∧ H b = some (.lst (ys.map V.int)) ∧ IsOrd n xs ∧ IsOrd n ys ∧ 1 ≤ n ∧ n ≤ 12
end Fo
namespace Fo
open PySem PySem.Spec PyProof.Rows L2
def spPlaces : Sp := fun vs H Q _ => ∃ (a : Addr) (n : Nat) (ns : List Int), vs = [.ref a] ∧ H a = some (.lst (ns.map V.int)) ∧ IsOrd n ns ∧ 1 ≤ n ∧ n ≤ 12 ∧
  ∀ (ps : List Int) (l : Addr) (H' : Hp), IsBack ns ps → H l = none → H' l = some (.lst (ps.map V.int)) → Same H H' → Q (.ref l) H'
section
variable {P : Program} {w : World} {K : PySem.W.Frag} {mg : Str → Option Value} {base : Heap}
theorem scPlaces : FnScope ["order", "places", "place", "thing"] ["order"] (defScope s_places_in) := ⟨rfl, rfl, rfl, by decide +kernel, rfl, by decide +kernel, by decide +kernel⟩
set_option maxHeartbeats 2000000 in
theorem ok_places {f : Addr} {fd : FuncData} {k : Nat} (T : Df K mg "places_in" s_places_in ["order"] f fd) (B : Bi mg) : FnOk P w K mg base CX0 (k + 1) f fd ["order"] spPlaces := by
  refine T.F.ok scPlaces (fun vs H Q E h => ?_) (fun cdv A outer s H vs Q E hr h => ?_)
  · obtain ⟨a, n, ns, rfl, _⟩ := h
    rfl
  · obtain ⟨a, n, ns, rfl, ha, ho, hn1, hn2, q⟩ := h
    have hlm : (ns.map V.int).length = n := by rw [List.length_map, ho.len]
    have hz : ∀ m : Nat, (List.replicate m [V.int 0]).flatten = (List.replicate m (0 : Int)).map V.int := by
      intro m
      induction m with
      | zero => rfl
      | succ m ih => rw [List.replicate_succ, List.replicate_succ, List.flatten_cons, ih]; rfl
    refine ⟨_, 
      (pss_cons (ps_set (i := 1) scPlaces.nd rfl (.inl rfl) (pe_op op_rep (pe_lst (pa_cons pe_int pa_nil)) (pe_callB call_len_seq (by rfl) B.len PySem.boot_len (pa_cons (pv 0) pa_nil))))
      (pss_cons (ps_for PassesOwn.never rfl (pi_enum (by rfl) B.enumerate (pa_cons (pv 0) pa_nil)) (pg_tup (by rfl) (pgs_cons (pg_name (i := 2) scPlaces.nd rfl (.inl rfl)) (pgs_cons (pg_name (i := 3) scPlaces.nd rfl (.inl rfl)) pgs_nil)))
        (pss_one (ps_asg (pv 2) (pg_sub (pv 1) (pv 3) set_list))))
      (pss_one (ps_ret (pv 1))))), ?_⟩
    refine ⟨line_small (by show 1 ≤ 16777216; decide), fun z nz => ?_⟩
    have s1 := same_new (o := .lst [.int 0]) nz
    refine ⟨_, rfl, a, _, rfl, .inl (SqL.of (s1 _ _ ha)), z, _, _, rfl, rfl, upd_same, by omega, by rw [hlm]; omega, line_small (by rw [hlm, Int.toNat_natCast]; show 1 * n ≤ _; omega), fun l nl => ?_⟩
    have s2 := s1.trans (same_new (o := .lst (List.replicate (((ns.map V.int).length : Nat) : Int).toNat [V.int 0]).flatten) nl)
    have nHl : H l = none := s1.free nl
    refine ⟨_, rfl, a, _, rfl, SqL.of (s2 _ _ ha), ?_⟩
    refine for_enumL (xs := ns.map V.int) (fun i σ H3 => ∃ (y2 y3 : Option V) (ps : List Int), σ = [some (.ref a), some (.ref l), y2, y3] ∧ H3 l = some (.lst (ps.map V.int)) ∧ ps.length = n ∧ (∀ (j : Nat) (x : Int), j < i → ns[j]? = some x → ps[x.toNat]? = some (j : Int)) ∧ Same H H3)
      ⟨none, none, List.replicate n 0, rfl, by rw [upd_same, hz, hlm, Int.toNat_natCast], by rw [List.length_replicate], fun j x hj => absurd hj (Nat.not_lt_zero _), s2⟩ (fun i σ H3 hP => by obtain ⟨_, _, _, _, _, _, _, sm⟩ := hP; exact SqL.of (sm _ _ ha)) (fun i x t σ H3 hx hP nt => ?_) (fun σ H3 hP => ?_)
    · obtain ⟨y2, y3, ps, rfl, hl3, el, hat, sm⟩ := hP
      obtain ⟨y, ey, rfl⟩ := int_at_inv hx
      have hy := ho.mem (List.mem_of_getElem? ey)
      have s3 := same_new (o := .tup [.int (i : Nat), .int y]) nt
      have hl4 := s3 _ _ hl3
      refine ⟨t, _, rfl, .inl (.inl upd_same), rfl, _, _, rfl, _, _, rfl, rfl, ?_⟩
      refine ⟨_, rfl, _, rfl, _, rfl, l, _, _, y.toNat, rfl, rfl, hl4, ix_n (by omega) (by rw [List.length_map]; omega), ?_⟩
      refine ⟨_, _, ps.set y.toNat (i : Int), rfl, by rw [upd_same, List.map_set], by rw [List.length_set]; exact el, fun j x hj hx2 => ?_, fun c o e => ?_⟩
      · by_cases c : j = i
        · subst c
          have e1 : x = y := Option.some.inj (hx2.symm.trans ey)
          subst e1
          rw [List.getElem?_set_self (by omega)]
        · have hx3 := ho.mem (List.mem_of_getElem? hx2)
          have ne : y.toNat ≠ x.toNat := fun e => c (nd_ix ho.nodup hx2 (by rw [ey]; congr 1; omega))
          rw [List.getElem?_set_ne ne]
          exact hat j x (by omega) hx2
      · rw [upd_ne (ne_of_none e nHl)]
        exact s3 _ _ (sm _ _ e)
    · obtain ⟨y2, y3, ps, rfl, hl3, el, hat, sm⟩ := hP
      rw [hlm] at hat
      refine ⟨_, rfl, q ps l H3 ⟨by rw [el, ho.len], fun j x hx => hat j x ?_ hx⟩ nHl hl3 sm⟩
      have := (List.getElem?_eq_some_iff.mp hx).1
      rw [ho.len] at this
      exact this
end
end Fo
namespace Fo
open PySem PySem.Spec PyProof.Rows L2
theorem g0_getD {s : List Int} {i : Nat} {x : Int} (h : s[i]? = some x) : g0 s i = x := g0_at h
def spSeats : Sp := fun vs H Q _ => ∃ (a b : Addr) (n : Nat) (xs ys : List Int), two vs H a b n xs ys ∧ ∀ (l : Addr) (H' : Hp), H l = none → H' l = some (.lst ((seatsL xs ys).map V.int)) → Same H H' → Q (.ref l) H'
section
variable {P : Program} {w : World} {K : PySem.W.Frag} {mg : Str → Option Value} {base : Heap}
theorem scSeats : FnScope ["one", "other", "places", "thing"] ["one", "other"] (defScope s_seats_in) := ⟨rfl, rfl, rfl, by decide +kernel, rfl, by decide +kernel, by decide +kernel⟩
set_option maxHeartbeats 2000000 in
theorem ok_seats {f fP : Addr} {fd fdP : FuncData} {k : Nat} (T : Df K mg "seats_in" s_seats_in ["one", "other"] f fd) (T_places_in : Df K mg "places_in" s_places_in ["order"] fP fdP) (B : Bi mg) : FnOk P w K mg base CX0 (k + 2) f fd ["one", "other"] spSeats := by
  have G_places_in : FnOk P w K mg base CX0 (k + 1) fP fdP ["order"] spPlaces := ok_places T_places_in B
  refine T.F.ok scSeats (fun vs H Q E h => ?_) (fun cdv A outer s H vs Q E hr h => ?_)
  · obtain ⟨a, b, n, xs, ys, ⟨rfl, _⟩, _⟩ := h
    rfl
  · obtain ⟨a, b, n, xs, ys, ⟨rfl, ha, hb, ox, oy, hn1, hn2⟩, q⟩ := h
    refine ⟨_, 
      (pss_cons (ps_set (i := 2) scSeats.nd rfl (.inr rfl) (pe_call G_places_in hr (by rfl) T_places_in.g T_places_in.F.kp T_places_in.b .nil pass0 (pa_cons (pv 1) pa_nil)))
      (pss_one (ps_ret (pe_lc (own := [("thing", 3)]) (g := (gName 3)) (tt := tYes) (te := (tOp (rIxL K) (tVar 2) (tVar 3))) rfl scSeats.nd (pi_list (pv 0)) (blkOk_by (N := ["one", "other", "places", "thing"]) (sc := defScope s_seats_in) (by decide +kernel)) (fun _ _ _ _ _ => (pg_name (i := 3) scSeats.nd rfl (.inl rfl))) (fun _ _ _ _ _ => pts_nil) (fun _ _ _ _ _ => (pe_ix ix_list (pv 2) (pv 3) (fun _ _ => rfl))))))), ?_⟩
    refine ⟨_, rfl, b, n, ys, rfl, hb, oy, hn1, hn2, fun ps l H1 hps nl hl s1 => ?_⟩
    refine ⟨_, rfl, a, rfl, ⟨_, SqL.of (s1 _ _ ha)⟩, fun D nD => ?_⟩
    have nHD : H D = none := s1.free nD
    refine lc_list (K := K) (a := a) (xs := xs.map V.int) (fun i H3 => H3 D = some (.lst (((seatsL xs ys).take i).map V.int)) ∧ H3 l = some (.lst (ps.map V.int)) ∧ Same H H3) ⟨upd_same, same_new nD _ _ hl, s1.trans (same_new nD)⟩ (fun i H3 _ hP => SqL.of (hP.2.2 _ _ ha)) (fun i x H3 hx hP => ?_) (fun H3 hP => ?_)
    · obtain ⟨y, ey, rfl⟩ := int_at_inv hx
      obtain ⟨hD3, hl3, sm⟩ := hP
      have hy := ox.mem (List.mem_of_getElem? ey)
      have hi := (List.getElem?_eq_some_iff.mp ey).1
      rw [ox.len] at hi
      refine ⟨rfl, _, rfl, _, rfl, l, _, _, _, rfl, rfl, SqL.of hl3, at_of (j := y.toNat) (by omega) (int_at (back_pos oy hps hy.1 hy.2)), _, hD3, line_lt (by rw [List.length_map, List.length_take]; omega), ?_, ?_, fun c o e => ?_⟩
      · rw [upd_same, take_more (seats_at ey), List.map_append]
        rfl
      · rw [upd_ne (ne_of_none hl nD)]
        exact hl3
      · rw [upd_ne (ne_of_none e nHD)]
        exact sm _ _ e
    · obtain ⟨hD3, hl3, sm⟩ := hP
      rw [List.take_of_length_le (by rw [seats_len, List.length_map]; exact Nat.le_refl _)] at hD3
      exact q D H3 nHD hD3 sm
end
end Fo
namespace Fo
open PySem PySem.Spec PyProof.Rows L2
def spSwap : Sp := fun vs H Q _ => ∃ (a b : Addr) (n : Nat) (xs ys : List Int), two vs H a b n xs ys ∧ ∀ (H' : Hp), Same H H' → Q (.int (farSwap xs ys)) H'
def spSpot : Sp := fun vs H Q _ => ∃ (a b : Addr) (n : Nat) (xs ys : List Int), two vs H a b n xs ys ∧ ∀ (H' : Hp), Same H H' → Q (.int (farSpot xs ys)) H'
def spShift : Sp := fun vs H Q _ => ∃ (a b : Addr) (n : Nat) (xs ys : List Int), two vs H a b n xs ys ∧ ∀ (H' : Hp), Same H H' → Q (.int (farShift xs ys)) H'
section
variable {P : Program} {w : World} {K : PySem.W.Frag} {mg : Str → Option Value} {base : Heap}
theorem scSwap : FnScope ["one", "other", "seats", "turned", "place", "seat", "later"] ["one", "other"] (defScope s_far_by_swap) := ⟨rfl, rfl, rfl, by decide +kernel, rfl, by decide +kernel, by decide +kernel⟩
set_option maxHeartbeats 2000000 in
theorem ok_swap {f fP : Addr} {fd fdP : FuncData} {k : Nat} (T : Df K mg "far_by_swap" s_far_by_swap ["one", "other"] f fd) (T_seats_in : Df K mg "seats_in" s_seats_in ["one", "other"] fP fdP) (G_seats_in : FnOk P w K mg base CX0 k fP fdP ["one", "other"] spSeats) (B : Bi mg) : FnOk P w K mg base CX0 (k + 1) f fd ["one", "other"] spSwap := by
  refine T.F.ok scSwap (fun vs H Q E h => ?_) (fun cdv A outer s H vs Q E hr h => ?_)
  · obtain ⟨a, b, n, xs, ys, ⟨rfl, _⟩, _⟩ := h
    rfl
  · obtain ⟨a, b, n, xs, ys, ⟨rfl, ha, hb, ox, oy, hn1, hn2⟩, q⟩ := h
    refine ⟨_, 
      (pss_cons (ps_set (i := 2) scSwap.nd rfl (.inl rfl) (pe_call G_seats_in hr (by rfl) T_seats_in.g T_seats_in.F.kp T_seats_in.b .nil pass0 (pa_cons (pv 0) (pa_cons (pv 1) pa_nil))))
      (pss_cons (ps_set (i := 3) scSwap.nd rfl (.inl rfl) pe_int)
      (pss_cons (ps_for PassesOwn.never rfl (pi_enum (by rfl) B.enumerate (pa_cons (pv 2) pa_nil)) (pg_tup (by rfl) (pgs_cons (pg_name (i := 4) scSwap.nd rfl (.inl rfl)) (pgs_cons (pg_name (i := 5) scSwap.nd rfl (.inr rfl)) pgs_nil)))
        (pss_one (ps_aug (i := 3) scSwap.nd rfl (.inl rfl) (pe_callB call_len_seq (by rfl) B.len PySem.boot_len (pa_cons (pe_lc (own := [("later", 6)]) (g := (gName 6)) (tt := (tTest (tOp (rI0 fun i j => .bl (decide (i < j))) (tVar 6) (tVar 5)))) (te := (tVar 6)) rfl scSwap.nd (pi_list (pe_slice sl_list (pv 2) (po_some (pe_op op_add (pv 4) pe_int)) po_none)) (blkOk_by (N := ["one", "other", "seats", "turned", "place", "seat", "later"]) (sc := defScope s_far_by_swap) (by decide +kernel)) (fun _ _ _ _ _ => (pg_name (i := 6) scSwap.nd rfl (.inl rfl))) (fun _ _ _ _ _ => (pts_one (pt_cmpR op_lt (pv 6) (pv 5) (nomark _)))) (fun _ _ _ _ _ => (pv 6))) pa_nil)) ip_add)))
      (pss_one (ps_ret (pv 3)))))), ?_⟩
    refine ⟨_, rfl, _, rfl, a, b, n, xs, ys, ⟨rfl, ha, hb, ox, oy, hn1, hn2⟩, fun l H1 nl hl s1 => ?_⟩
    have os := seats_ord ox oy
    refine ⟨_, rfl, l, _, rfl, SqL.of hl, ?_⟩
    refine for_enumL (xs := (seatsL xs ys).map V.int) (fun i σ H3 => ∃ (y4 y5 y6 : Option V), σ = [some (.ref a), some (.ref b), some (.ref l), some (.int ((sumN (rg i) (fun p => cntL (seatsL xs ys) p.toNat) : Nat) : Int)), y4, y5, y6] ∧ H3 l = some (.lst ((seatsL xs ys).map V.int)) ∧ Same H H3)
      ⟨none, none, none, rfl, hl, s1⟩ (fun i σ H3 hP => by obtain ⟨_, _, _, _, hl3, _⟩ := hP; exact SqL.of hl3) (fun i x t σ H3 hx hP nt => ?_) (fun σ H3 hP => ?_)
    · obtain ⟨y4, y5, y6, rfl, hl3, sm⟩ := hP
      obtain ⟨y, ey, rfl⟩ := int_at_inv hx
      have hi := (List.getElem?_eq_some_iff.mp ey).1
      rw [os.len] at hi
      have s3 := same_new (o := .tup [.int (i : Nat), .int y]) nt
      refine ⟨t, _, rfl, .inl (.inl upd_same), rfl, _, _, rfl, _, _, rfl, rfl, ?_⟩
      refine ⟨_, rfl, _, rfl, _, rfl, (i : Int), 1, rfl, rfl, _, rfl, l, _, rfl, SqL.of (s3 _ _ hl3), fun c nc => ?_⟩
      have s4 := s3.trans (same_new (o := .lst (cutV ((seatsL xs ys).map V.int) (some ((i : Int) + 1)) none)) nc)
      have ecut : cutV ((seatsL xs ys).map V.int) (some ((i : Int) + 1)) none = (((seatsL xs ys).drop (i + 1)).map V.int) := by
        rw [cut_ints, show (i : Int) + 1 = ((i + 1 : Nat) : Int) by omega, cutI_tail]
      have hc4 : (upd (upd H3 t (.tup [.int (i : Nat), .int y])) c (.lst (cutV ((seatsL xs ys).map V.int) (some ((i : Int) + 1)) none))) c = some (.lst (((seatsL xs ys).drop (i + 1)).map V.int)) := by rw [upd_same, ecut]
      refine ⟨c, rfl, ⟨_, SqL.of hc4⟩, fun D nD => ?_⟩
      have ncD : c ≠ D := ne_of_none hc4 nD
      refine lc_list (K := K) (a := c) (xs := ((seatsL xs ys).drop (i + 1)).map V.int) (fun m H5 => H5 D = some (.lst (((((seatsL xs ys).drop (i + 1)).take m).filter (fun z => decide (z < g0 (seatsL xs ys) i))).map V.int)) ∧ H5 c = some (.lst (((seatsL xs ys).drop (i + 1)).map V.int)) ∧ Same H3 H5)
        ⟨upd_same, by rw [upd_ne ncD]; exact hc4, s4.trans (same_new nD)⟩ (fun m H5 _ hP => SqL.of hP.2.1) (fun m x H5 hx hP => ?_) (fun H5 hP => ?_)
      · obtain ⟨hD5, hc5, s5⟩ := hP
        obtain ⟨z, ez, rfl⟩ := int_at_inv hx
        have eg : g0 (seatsL xs ys) i = y := g0_at ey
        refine ⟨rfl, _, rfl, _, rfl, z, y, rfl, rfl, _, rfl, ite2 (fun c => ?_) (fun c => ?_)⟩
        · have hz : z < y := of_decide_eq_true c
          refine ⟨_, rfl, _, hD5, line_lt ?_, ?_, by rw [upd_ne ncD]; exact hc5, fun u o e => ?_⟩
          · rw [List.length_map]
            refine Nat.lt_of_le_of_lt (List.length_filter_le _ _) ?_
            rw [List.length_take, List.length_drop, os.len]
            omega
          · rw [upd_same, filter_more _ ez, eg, decide_eq_true hz, if_pos rfl, List.map_append]
            rfl
          · rw [upd_ne (ne_of_none (s4 _ _ e) nD)]
            exact s5 _ _ e
        · refine ⟨?_, hc5, s5⟩
          rw [filter_more _ ez, eg, decide_eq_false (fun hz => c (decide_eq_true hz)), if_neg (by decide), List.append_nil]
          rw [eg] at hD5
          exact hD5
      · obtain ⟨hD5, hc5, s5⟩ := hP
        rw [List.length_map, List.take_length] at hD5
        refine ⟨D, _, rfl, .inl (SqL.of hD5), _, _, rfl, rfl, ?_⟩
        refine ⟨some (.int (i : Int)), some (.int y), y6, ?_, s5 _ _ hl3, sm.trans s5⟩
        rw [rg_succ, sumN_append, sumN_cons, sumN_nil, List.length_map]
        show [some (.ref a), some (.ref b), some (.ref l), some (V.int (((sumN (rg i) (fun p => cntL (seatsL xs ys) p.toNat) : Nat) : Int) + ((cntL (seatsL xs ys) i : Nat) : Int))), some (.int (i : Int)), some (.int y), y6] = _
        rw [Int.toNat_natCast, Int.natCast_add, Nat.add_zero]
    · obtain ⟨y4, y5, y6, rfl, hl3, sm⟩ := hP
      refine ⟨_, rfl, ?_⟩
      have z := q H3 sm
      unfold farSwap invN at z
      rw [List.length_map]
      exact z
theorem scSpot : FnScope ["one", "other", "place"] ["one", "other"] (defScope s_far_by_spot) := ⟨rfl, rfl, rfl, by decide +kernel, rfl, by decide +kernel, by decide +kernel⟩
set_option maxHeartbeats 2000000 in
theorem ok_spot {f : Addr} {fd : FuncData} {k : Nat} (T : Df K mg "far_by_spot" s_far_by_spot ["one", "other"] f fd) (B : Bi mg) : FnOk P w K mg base CX0 (k + 1) f fd ["one", "other"] spSpot := by
  refine T.F.ok scSpot (fun vs H Q E h => ?_) (fun cdv A outer s H vs Q E hr h => ?_)
  · obtain ⟨a, b, n, xs, ys, ⟨rfl, _⟩, _⟩ := h
    rfl
  · obtain ⟨a, b, n, xs, ys, ⟨rfl, ha, hb, ox, oy, hn1, hn2⟩, q⟩ := h
    have hxl : (xs.map V.int).length = n := by rw [List.length_map, ox.len]
    refine ⟨_, 
      (pss_one (ps_ret (pe_callB call_len_seq (by rfl) B.len PySem.boot_len (pa_cons (pe_lc (own := [("place", 2)]) (g := (gName 2)) (tt := (tTest (tOp rNe (tOp (rIxL K) (tVar 0) (tVar 2)) (tOp (rIxL K) (tVar 1) (tVar 2))))) (te := (tVar 2)) rfl scSpot.nd (pi_range1 (by rfl) B.range (pa_cons (pe_callB call_len_seq (by rfl) B.len PySem.boot_len (pa_cons (pv 0) pa_nil)) pa_nil)) (blkOk_by (N := ["one", "other", "place"]) (sc := defScope s_far_by_spot) (by decide +kernel)) (fun _ _ _ _ _ => (pg_name (i := 2) scSpot.nd rfl (.inl rfl))) (fun _ _ _ _ _ => (pts_one (pt_cmpR op_ne (pe_ix ix_list (pv 0) (pv 2) (fun _ _ => rfl)) (pe_ix ix_list (pv 1) (pv 2) (fun _ _ => rfl)) (nomark _)))) (fun _ _ _ _ _ => (pv 2))) pa_nil)))), ?_⟩
    refine ⟨_, rfl, a, _, rfl, .inl (SqL.of ha), _, rfl, by omega, by rw [hxl]; omega, fun D nD => ?_⟩
    rw [hxl, Int.toNat_natCast]
    refine lc_range (lo := 0) (n := n) (fun m H3 => H3 D = some (.lst (((rg m).filter (fun p => !decide (g0 xs p = g0 ys p))).map V.int)) ∧ Same H H3) ⟨upd_same, same_new nD⟩ (fun m H3 hm hP => ?_) (fun H3 hP => ?_)
    · obtain ⟨hD3, sm⟩ := hP
      obtain ⟨x, ex, _⟩ := ord_ix ox hm
      obtain ⟨y, ey, _⟩ := ord_ix oy hm
      have gx : g0 xs (m : Int) = x := g0_at ex
      have gy : g0 ys (m : Int) = y := g0_at ey
      have fm : ((rg (m + 1)).filter fun p => !decide (g0 xs p = g0 ys p)) = ((rg m).filter fun p => !decide (g0 xs p = g0 ys p)) ++ (if x = y then [] else [(m : Int)]) := by
        rw [rg_succ, List.filter_append, List.filter_cons, gx, gy]
        congr 1
        by_cases c : x = y
        · simp [c]
        · simp [c]
      refine ⟨rfl, _, rfl, _, rfl, a, _, _, _, rfl, rfl, SqL.of (sm _ _ ha), at_of (j := m) (by omega) (int_at ex), _, rfl, _, rfl, b, _, _, _, rfl, rfl, SqL.of (sm _ _ hb), at_of (j := m) (by omega) (int_at ey), rfl, _, rfl, ?_⟩
      by_cases c : x = y
      · subst c
        refine iteNS rfl ⟨?_, sm⟩
        rw [fm, if_pos rfl, List.append_nil]
        exact hD3
      · rw [decide_eq_false (fun e => c (V.int.inj e))]
        refine iteT ⟨_, rfl, _, hD3, line_lt ?_, ?_, fun u o e => ?_⟩
        · rw [List.length_map]
          refine Nat.lt_of_le_of_lt (List.length_filter_le _ _) ?_
          rw [rg_len]
          omega
        · rw [upd_same, fm, if_neg c, List.map_append, Int.zero_add]
          rfl
        · rw [upd_ne (ne_of_none e nD)]
          exact sm _ _ e
    · obtain ⟨hD3, sm⟩ := hP
      refine ⟨D, _, rfl, .inl (SqL.of hD3), ?_⟩
      have z := q H3 sm
      unfold farSpot spotL at z
      rw [ox.len] at z
      rw [List.length_map]
      exact z
theorem scShift : FnScope ["one", "other", "place", "seat"] ["one", "other"] (defScope s_far_by_shift) := ⟨rfl, rfl, rfl, by decide +kernel, rfl, by decide +kernel, by decide +kernel⟩
set_option maxHeartbeats 2000000 in
theorem ok_shift {f fP : Addr} {fd fdP : FuncData} {k : Nat} (T : Df K mg "far_by_shift" s_far_by_shift ["one", "other"] f fd) (T_seats_in : Df K mg "seats_in" s_seats_in ["one", "other"] fP fdP) (G_seats_in : FnOk P w K mg base CX0 k fP fdP ["one", "other"] spSeats) (B : Bi mg) : FnOk P w K mg base CX0 (k + 1) f fd ["one", "other"] spShift := by
  refine T.F.ok scShift (fun vs H Q E h => ?_) (fun cdv A outer s H vs Q E hr h => ?_)
  · obtain ⟨a, b, n, xs, ys, ⟨rfl, _⟩, _⟩ := h
    rfl
  · obtain ⟨a, b, n, xs, ys, ⟨rfl, ha, hb, ox, oy, hn1, hn2⟩, q⟩ := h
    refine ⟨_, 
      (pss_one (ps_ret (pe_callB (cr_max rfl) (by rfl) B.max (by decide +kernel) (pa_cons (pe_lc (own := [("place", 2), ("seat", 3)]) (g := (gTup K 2 (gCons (gName 2) (gCons (gName 3) gNil)))) (tt := tYes) (te := (tCB rAbs (tCons (tOp (rI0 fun i j => .int (i - j)) (tVar 2) (tVar 3)) tNil))) rfl scShift.nd (pi_enum (by rfl) B.enumerate (pa_cons (pe_call G_seats_in hr (by rfl) T_seats_in.g T_seats_in.F.kp T_seats_in.b .nil pass0 (pa_cons (pv 0) (pa_cons (pv 1) pa_nil))) pa_nil)) (blkOk_by (N := ["one", "other", "place", "seat"]) (sc := defScope s_far_by_shift) (by decide +kernel)) (fun _ _ _ _ _ => (pg_tup (by rfl) (pgs_cons (pg_name (i := 2) scShift.nd rfl (.inl rfl)) (pgs_cons (pg_name (i := 3) scShift.nd rfl (.inl rfl)) pgs_nil)))) (fun _ _ _ _ _ => pts_nil) (fun _ _ _ _ _ => (pe_callB call_abs (by rfl) B.abs (by decide +kernel) (pa_cons (pe_op op_sub (pv 2) (pv 3)) pa_nil)))) pa_nil)))), ?_⟩
    have os := seats_ord ox oy
    refine ⟨_, rfl, _, rfl, a, b, n, xs, ys, ⟨rfl, ha, hb, ox, oy, hn1, hn2⟩, fun l H1 nl hl s1 => ?_⟩
    refine ⟨l, _, rfl, SqL.of hl, fun D nD => ?_⟩
    have nlD : l ≠ D := ne_of_none hl nD
    have nHD : H D = none := s1.free nD
    refine lc_enumL (K := K) (a := l) (xs := (seatsL xs ys).map V.int) (fun m H3 => H3 D = some (.lst (((gapsL xs ys).take m).map V.int)) ∧ H3 l = some (.lst ((seatsL xs ys).map V.int)) ∧ Same H H3) ⟨upd_same, by rw [upd_ne nlD]; exact hl, s1.trans (same_new nD)⟩ (fun m H3 _ hP => SqL.of hP.2.1) (fun m x t H3 hx hP nt => ?_) (fun H3 hP => ?_)
    · obtain ⟨hD3, hl3, sm⟩ := hP
      obtain ⟨y, ey, rfl⟩ := int_at_inv hx
      have hi := (List.getElem?_eq_some_iff.mp ey).1
      rw [os.len] at hi
      have s3 := same_new (o := .tup [.int (m : Nat), .int y]) nt
      have eg : (gapsL xs ys)[m]? = some (absI ((m : Int) - y)) := by
        unfold gapsL rg
        rw [List.map_map, List.getElem?_map, List.getElem?_range (by rw [ox.len]; exact hi)]
        show some (absI ((m : Int) - g0 (seatsL xs ys) (m : Int))) = _
        rw [g0_at ey]
      refine ⟨t, _, rfl, .inl (.inl upd_same), rfl, _, _, rfl, _, _, rfl, rfl, rfl, ?_⟩
      refine ⟨_, rfl, _, rfl, (m : Int), y, rfl, rfl, _, rfl, _, s3 _ _ hD3, line_lt (by rw [List.length_map, List.length_take, gaps_len, ox.len]; omega), ?_, ?_, fun u o e => ?_⟩
      · rw [upd_same, take_more eg, List.map_append]
        rfl
      · rw [upd_ne nlD]
        exact s3 _ _ hl3
      · rw [upd_ne (ne_of_none e nHD)]
        exact s3 _ _ (sm _ _ e)
    · obtain ⟨hD3, hl3, sm⟩ := hP
      rw [List.take_of_length_le (by rw [gaps_len, List.length_map, seats_len]; exact Nat.le_refl _)] at hD3
      refine ⟨D, gapsL xs ys, rfl, SqL.of hD3, by rw [gaps_len, ox.len]; exact hn1, fun m hm hle => ?_⟩
      have e : farShift xs ys = m := maxL_of (gaps_nonneg xs ys) hm hle
      rw [← e]
      exact q H3 sm
theorem scKnown : FnScope ["way", "one", "other"] ["way", "one", "other"] (defScope s_known_far) := ⟨rfl, rfl, rfl, by decide +kernel, rfl, by decide +kernel, by decide +kernel⟩
theorem ok_known {f f4 f5 f6 : Addr} {fd d4 d5 d6 : FuncData} {k : Nat} (T : Df K mg "known_far" s_known_far ["way", "one", "other"] f fd) (T_far_by_swap : Df K mg "far_by_swap" s_far_by_swap ["one", "other"] f4 d4) (T_far_by_spot : Df K mg "far_by_spot" s_far_by_spot ["one", "other"] f5 d5) (T_far_by_shift : Df K mg "far_by_shift" s_far_by_shift ["one", "other"] f6 d6)
    (G_far_by_swap : FnOk P w K mg base CX0 k f4 d4 ["one", "other"] spSwap) (G_far_by_spot : FnOk P w K mg base CX0 k f5 d5 ["one", "other"] spSpot) (G_far_by_shift : FnOk P w K mg base CX0 k f6 d6 ["one", "other"] spShift) :
    FnOk P w K mg base CX0 (k + 1) f fd ["way", "one", "other"] spFar := by
  refine T.F.ok scKnown (fun vs H Q E h => ?_) (fun cdv A outer s H vs Q E hr h => ?_)
  · obtain ⟨z, a, b, n, xs, ys, rfl, _⟩ := h
    rfl
  · obtain ⟨z, a, b, n, xs, ys, rfl, hz, ha, hb, ox, oy, hn1, hn2, q⟩ := h
    refine ⟨_, 
      (pss_cons (ps_if (pt_cmpR op_eq (pv 0) pe_str (nomark _))
        (pss_one (ps_ret (pe_call G_far_by_swap hr (by rfl) T_far_by_swap.g T_far_by_swap.F.kp T_far_by_swap.b .nil pass0 (pa_cons (pv 1) (pa_cons (pv 2) pa_nil)))))
        pss_nil)
      (pss_cons (ps_if (pt_cmpR op_eq (pv 0) pe_str (nomark _))
        (pss_one (ps_ret (pe_call G_far_by_spot hr (by rfl) T_far_by_spot.g T_far_by_spot.F.kp T_far_by_spot.b .nil pass0 (pa_cons (pv 1) (pa_cons (pv 2) pa_nil)))))
        pss_nil)
      (pss_one (ps_ret (pe_call G_far_by_shift hr (by rfl) T_far_by_shift.g T_far_by_shift.F.kp T_far_by_shift.b .nil pass0 (pa_cons (pv 1) (pa_cons (pv 2) pa_nil))))))), ?_⟩
    rcases hz with rfl | rfl | rfl
    · refine ⟨_, rfl, rfl, _, rfl, ite2 (fun _ => ?_) (fun c => absurd (by decide +kernel) c)⟩
      exact ⟨_, rfl, _, rfl, a, b, n, xs, ys, ⟨rfl, ha, hb, ox, oy, hn1, hn2⟩, fun H2 s2 => by rw [← farW_swap]; exact q H2 s2⟩
    · refine ⟨_, rfl, rfl, _, rfl, ite2 (fun c => absurd c (by decide +kernel)) (fun _ => ?_)⟩
      refine ⟨_, rfl, rfl, _, rfl, ite2 (fun _ => ?_) (fun c => absurd (by decide +kernel) c)⟩
      exact ⟨_, rfl, _, rfl, a, b, n, xs, ys, ⟨rfl, ha, hb, ox, oy, hn1, hn2⟩, fun H2 s2 => by rw [← farW_spot]; exact q H2 s2⟩
    · refine ⟨_, rfl, rfl, _, rfl, ite2 (fun c => absurd c (by decide +kernel)) (fun _ => ?_)⟩
      refine ⟨_, rfl, rfl, _, rfl, ite2 (fun c => absurd c (by decide +kernel)) (fun _ => ?_)⟩
      exact ⟨_, rfl, _, rfl, a, b, n, xs, ys, ⟨rfl, ha, hb, ox, oy, hn1, hn2⟩, fun H2 s2 => by rw [← farW_shift]; exact q H2 s2⟩
end
end Fo
namespace Fo
open PySem PySem.Spec PyProof.Rows L2
def spFit : Sp := fun vs H Q _ => ∃ (a b : Addr) (ns ms : List Int), vs = [.ref a, .ref b] ∧ H a = some (.lst (ns.map V.int)) ∧ H b = some (.lst (ms.map V.int)) ∧ ns.length = ms.length ∧ Q .non H
section
variable {P : Program} {w : World} {K : PySem.W.Frag} {mg : Str → Option Value} {base : Heap}
theorem scFit : FnScope ["one", "other"] ["one", "other"] (defScope s_check_fit) := ⟨rfl, rfl, rfl, by decide +kernel, rfl, by decide +kernel, by decide +kernel⟩
theorem ok_fit {f : Addr} {fd : FuncData} {k : Nat} (T : Df K mg "check_fit" s_check_fit ["one", "other"] f fd) (B : Bi mg) : FnOk P w K mg base CX0 (k + 1) f fd ["one", "other"] spFit := by
  refine T.F.ok scFit (fun vs H Q E h => ?_) (fun cdv A outer s H vs Q E hr h => ?_)
  · obtain ⟨a, b, ns, ms, rfl, _⟩ := h
    rfl
  · obtain ⟨a, b, ns, ms, rfl, ha, hb, e, q⟩ := h
    refine ⟨_, 
      (pss_one (ps_if (pt_cmpR op_ne (pe_callB call_len_seq (by rfl) B.len PySem.boot_len (pa_cons (pv 0) pa_nil)) (pe_callB call_len_seq (by rfl) B.len PySem.boot_len (pa_cons (pv 1) pa_nil)) (nomark _))
        (pss_one ps_never)
        pss_nil)), ?_⟩
    refine ⟨_, rfl, a, _, rfl, .inl (SqL.of ha), _, rfl, b, _, rfl, .inl (SqL.of hb), rfl, _, rfl, ?_⟩
    rw [List.length_map, List.length_map, e]
    exact iteNS rfl q
end
end Fo
namespace Fo
open PySem PySem.Spec PyProof.Rows L2 PpSet
/-- the object of a new set -/
abbrev set0 (w : World) : Obj := { cls := .type "set", dict := none, data := .set #[] 0 (.fresh 0 0 (!w.params.followText "set-order")) }
def FreshS (P : Program) (w : World) (O : Addr → HO) : Prop := ∀ (H : Hp) (h : Heap), ObjOk P w H (h.push (set0 w)) h.objs.size (O h.objs.size)
def AddS (P : Program) (w : World) (K : PySem.W.Frag) (A : Around) (put : Addr → V → Hp → (Hp → Prop) → Prop) : Prop := ∀ (Y : Cx), Y.prog = P → Y.w = w → Y.K = K → Y.A = A → ∀ (ps : List (Addr × Obj)) (s : Shared) (σ : L2.St) (G : Hp) (D : Addr) (y : V) (v : Value) (Nx : Hp → Prop), L2.Inv Y ps σ G s → L2.RelV y v → put D y G Nx → wpAny (model P w) A (call (.builtin "set.add") [.ref D, v]) (fun _ s' => ∃ G', L2.Inv Y ps σ G' s' ∧ Nx G') (fun _ _ => False) s
/-- a set comprehension, what is kept of the set left open: O the new one, put what adding asks -/
def tScG (O : Addr → HO) (put : Addr → V → Hp → (Hp → Prop) → Prop) (wi : TI) (g : TG) (tt : TT) (te : TE) (vs : List Nat) : TE := fun σ H Q => wi σ H fun J H1 => ∀ D, H1 D = none →
  ∃ W : Nat → Nat → Hp → Prop, (∃ m, W 0 m (upd H1 D (O D))) ∧ ∀ i m G, W i m G → (J.stop i G ∧ Q (.ref D) G) ∨ (J.go i G ∧ ∃ Nx : Hp → Prop, (∀ G', Nx G' → ∃ m', m' < m ∧ W (i + 1) m' G') ∧
    ∀ x G', J.yld i G x G' → g x (wipe σ vs) G' fun σ2 H2 => wipe σ2 vs = wipe σ vs ∧ tt σ2 H2 fun b H3 => if b = true then te σ2 H3 fun y H4 => put D y H4 Nx else Nx H3)
set_option maxHeartbeats 4000000 in
/-- the turns of the block -/
theorem scg_loop {X : Cx} {elt tg iter : Expr} {ifs : List Expr} {scope : Scope} {pos : Pos} {g : TG} {tt : TT} {te : TE} {put : Addr → V → Hp → (Hp → Prop) → Prop} {Q : VK} {ps : List (Addr × Obj)} {σ : L2.St} {vs : List Nat}
    {t3 s4 : Shared} {H3 : Hp} {ce : Env} {D it : Addr} {fp : List Addr} {tn : Nat → Heap → Prop} {J : It} {W : Nat → Nat → Hp → Prop} {m0 : Nat} {R : Result → Shared → Prop}
    (ad : AddS X.prog X.w X.K X.A put) (calm : X.calm = true) (I3 : L2.Inv X ps σ H3 t3) (ff : ∀ b ∈ fp, FpOk X ps H3 b ∧ b < t3.heap.objs.size) (cL : ce.locals = t3.heap.objs.size) (I4 : L2.Inv (X.blk t3 H3 scope ce fp) [] (wipe σ vs) H3 s4)
    (T : Turn X.prog X.w X.K tg J fp it tn) (st : tn 0 s4.heap) (pg : PG (X.blk t3 H3 scope ce fp) tg g) (pt : PTs (X.blk t3 H3 scope ce fp) ifs tt) (pv' : PE (X.blk t3 H3 scope ce fp) elt te) (w0 : W 0 m0 H3)
    (turn : ∀ i m G, W i m G → (J.stop i G ∧ Q (.ref D) G) ∨ (J.go i G ∧ ∃ Nx : Hp → Prop, (∀ G', Nx G' → ∃ m', m' < m ∧ W (i + 1) m' G') ∧
      ∀ x G', J.yld i G x G' → g x (wipe σ vs) G' fun σ2 H2 => wipe σ2 vs = wipe σ vs ∧ tt σ2 H2 fun b H3 => if b = true then te σ2 H3 fun y H4 => put D y H4 Nx else Nx H3))
    (fin : ∀ (s' : Shared) (G : Hp), L2.Inv X ps σ G s' → Q (.ref D) G → (∃ m, s'.heap.Ns t3.heap.objs.size m) → FpOk X ps G t3.heap.objs.size → R (.ok .next) s') :
    codeAny (model X.prog X.w) X.A (.compLoop (.SetComp elt [⟨tg, iter, ifs, 0⟩] scope pos) 0 (.ref it) (.ref D) ce) R s4 := by
  have still : ∀ {τ : L2.St} {G : Hp} {s' : Shared}, L2.Inv (X.blk t3 H3 scope ce fp) [] τ G s' → (∀ b ∈ fp, G b = none) → ∀ b ∈ fp, FpOk (X.blk t3 H3 scope ce fp) [] G b := by
    intro τ G s' I' no b hb
    have e1 := I'.ok.exf b hb
    have e2 := I'.ok.exfs b hb
    exact ⟨no b hb, e1.1, e2, .inl hb, fun x c e => e1.2 x c e, fun p hp => by cases hp⟩
  refine compLoopS_any (fun n s' => ∃ i G, L2.Inv (X.blk t3 H3 scope ce fp) [] (wipe σ vs) G s' ∧ tn i s'.heap ∧ (∀ b ∈ fp, G b = none) ∧ W i n G) (fun n s5 hI => ?_) m0 ⟨0, H3, I4, st, fun b hb => (ff b hb).1.1, w0⟩
  obtain ⟨i, G5, I5, st5, no5, w5⟩ := hI
  rcases turn i n G5 w5 with ⟨hstop, qq⟩ | ⟨hgo, Nx, hNx, step⟩
  · refine thnF (T.done (X.blk t3 H3 scope ce fp) rfl rfl rfl calm i [] s5 _ G5 (fun _ _ => False) I5 (still I5 no5) st5 hstop) fun r s6 hr => ?_
    obtain ⟨rfl, I6⟩ := hr
    have home : L2.Inv X ps σ G5 s6 := by
      refine I3.call' (ch := fp) I6.os I6.base I6.hok I6.bare fun b hb => ?_
      obtain ⟨⟨_, a1, _, a2, a3, a4⟩, _⟩ := ff b hb
      exact ⟨a2, a1, a3, a4⟩
    have gone : G5 ce.locals = none := I6.free
    obtain ⟨m, hm, _⟩ := I6.loc
    change s6.heap.Ns ce.locals m at hm
    rw [cL] at gone hm
    exact fin s6 G5 home qq ⟨m, hm⟩ (I3.fpOk (Nat.le_refl _) gone)
  · refine thnF (T.item (X.blk t3 H3 scope ce fp) rfl rfl rfl calm i [] s5 _ G5 (fun _ _ => False) I5 (still I5 no5) st5 hgo) fun r s6 hr => ?_
    obtain ⟨u, rfl, h6⟩ := hr
    refine thnF h6 fun _ s7 h7 => ?_
    obtain ⟨x, G7, I7, r7, y7, st7, no7⟩ := h7
    have I8 := I7.pinned (still I7 no7) (T.obj _ _ st7)
    refine thnF (pg.run _ s7 _ G7 x u _ I8 r7 (step x G7 y7)) fun _ s8 h8 => ?_
    obtain ⟨τ, G8, I8, ew, q8⟩ := h8
    refine thnF (pt.run _ s8 τ G8 _ I8 q8) fun b s9 h9 => ?_
    obtain ⟨G9, I9, q9⟩ := h9
    have last : ∀ (s' : Shared) (G' : Hp), L2.Inv (X.blk t3 H3 scope ce fp) ([] ++ pinsAt fp s7.heap) τ G' s' → Nx G' → ∃ m, m < n ∧ ∃ i G, L2.Inv (X.blk t3 H3 scope ce fp) [] (wipe σ vs) G s' ∧ tn i s'.heap ∧ (∀ b ∈ fp, G b = none) ∧ W i m G := by
      intro s' G' J' nx
      obtain ⟨m', hm, w'⟩ := hNx G' nx
      have held : ∀ b ∈ fp, ∀ o, s7.heap.get? b = some o → s'.heap.get? b = some o ∧ G' b = none := by
        intro b hb o e
        have z := J'.pin (b, o) (List.mem_append_right _ (List.mem_append_right _ (mem_pinsAt hb e)))
        exact ⟨z.1, z.2.1⟩
      have J2 : L2.Inv (X.blk t3 H3 scope ce fp) [] (wipe σ vs) G' s' := by
        refine (J'.unpinned (pins := [])).weak ?_ fun j v e => ?_
        · rw [← ew, wipe_length]
        · rw [← ew] at e
          exact (wipe_some e).1
      refine ⟨m', hm, i + 1, G', J2, ?_, ?_, w'⟩
      · exact T.keep _ _ _ st7 fun b hb o e => (held b hb o e).1
      · intro b hb
        obtain ⟨o, e, _⟩ := T.obj _ _ st7 b hb
        exact (held b hb o e).2
    cases b with
    | false => exact last s9 G9 I9 q9
    | true =>
      refine thnF (pv'.run _ s9 τ G9 _ I9 q9) fun z s10 h10 => ?_
      obtain ⟨y, G10, I10, r10, hp⟩ := h10
      refine thnF (ad (X.blk t3 H3 scope ce fp) rfl rfl rfl rfl _ s10 τ G10 D y z Nx I10 r10 hp) fun _ s11 h11 => ?_
      obtain ⟨G11, I11, nx⟩ := h11
      exact last s11 G11 I11 nx
set_option maxHeartbeats 4000000 in
theorem pe_scG {X : Cx} {elt tg iter : Expr} {ifs : List Expr} {scope : Scope} {own : List (Str × Nat)} {pos : Pos} {wi : TI} {g : TG} {tt : TT} {te : TE} {O : Addr → HO} {put : Addr → V → Hp → (Hp → Prop) → Prop}
    (fr : FreshS X.prog X.w O) (ad : AddS X.prog X.w X.K X.A put) (calm : X.calm = true) (nd : X.N.Nodup) (pi : PI X tg iter wi) (blk : BlkOk X.N X.env.scope scope own)
    (pg : ∀ (s : Shared) (H : Hp) (C : Addr) (cl : List (Str × Addr)) (fp : List Addr),
      PG (X.blk s H scope (compEnvC scope cl C X.env) fp) tg g)
    (pt : ∀ (s : Shared) (H : Hp) (C : Addr) (cl : List (Str × Addr)) (fp : List Addr),
      PTs (X.blk s H scope (compEnvC scope cl C X.env) fp) ifs tt)
    (pv' : ∀ (s : Shared) (H : Hp) (C : Addr) (cl : List (Str × Addr)) (fp : List Addr),
      PE (X.blk s H scope (compEnvC scope cl C X.env) fp) elt te)
    (fold : ∀ x, foldedSetIterable iter X.env x = pure x := by intro _; rfl) :
    PE X (.SetComp elt [⟨tg, iter, ifs, 0⟩] scope pos) (tScG O put wi g tt te (own.map (·.2))) := by
  refine ⟨fun ps s0 σ H Q I0 h0 => ?_⟩
  rw [eval_SetComp]
  have cells : ∀ y ∈ scope.names, y.2 = .free → ∃ c, X.env.cells.lookup y.1 = some c := by
    intro y hy e
    exact I0.ok.has _ (blk.free y hy e)
  refine wpAny_comprehension_free rfl fold (closure_ok cells) blk.kind (fun y hy e => by rw [blk.uniq y hy, e]) ?_
  refine thn (pi.run ps s0 σ H _ I0 h0) fun _ t1 h1 => thn h1 fun _ t2 h2 => ?_
  obtain ⟨it, fp, tn, J, H2, rfl, I2, T, st, f2, q⟩ := h2
  refine newSet_ok (newEnv_comp ?_)
  have fresh : H2 t2.heap.objs.size = none := I2.hok.fresh (Nat.le_refl _)
  obtain ⟨W, ⟨m0, w0⟩, turn⟩ := q _ fresh
  have old : ∀ (b : Addr) (o : Obj), t2.heap.get? b = some o → (t2.heap.push (set0 X.w)).get? b = some o := fun b o e => Heap.get?_push_of_some _ e
  have I3 := I2.laid (a := t2.heap.objs.size) (o := O t2.heap.objs.size) (t' := t2.toks) old (Nat.le_refl _) (fr _ _)
  generalize eD : t2.heap.objs.size = D at *
  have ff : ∀ b ∈ fp, FpOk X ps (upd H2 D (O D)) b ∧ b < (t2.heap.push (set0 X.w)).objs.size := by
    intro b hb
    obtain ⟨_, e, _⟩ := T.obj _ _ st b hb
    have lt := Heap.lt_size e
    have ne : b ≠ D := fun z => by
      rw [z, ← eD] at lt
      exact Nat.lt_irrefl _ lt
    obtain ⟨z1, z2⟩ := f2 b hb
    refine ⟨⟨(upd_ne ne).trans z1, z2⟩, ?_⟩
    rw [Heap.size_push]
    exact Nat.lt_succ_of_lt lt
  have st3 := T.keep _ _ _ st fun b _ o e => old b o e
  have I4 := block_start I3 blk nd ff
  have st4 := T.keep _ _ (pushCells ((t2.heap.push (set0 X.w)).push { cls := .type "dict", data := .dict #[] }) scope.names) st3 fun b _ o e => pushCells_keeps _ _ _ _ (Heap.get?_push_of_some _ e)
  refine (fun loop => codeAny_compStart_set loop (T.self X.A 0 _ _ _ st4 loop)) ?_
  refine scg_loop ad calm I3 ff rfl I4 T st4 (pg _ _ _ _ _) (pt _ _ _ _ _) (pv' _ _ _ _ _) w0 turn fun s' G I' qq hm f => ?_
  obtain ⟨m, hm⟩ := hm
  refine ⟨m, hm, fun h' sb => ?_⟩
  obtain ⟨a0, a1, _, a3, a4, a5⟩ := f
  refine ⟨.ref D, G, ?_, rfl, qq⟩
  exact I'.turned (t' := s'.toks) (fun b o hb e => (sb.2 b hb).trans e) a0 a1 a3 a4 a5
end Fo
namespace Fo
open PySem PySem.Spec PyProof.Rows L2 PpSet
/-- what adding a tuple of ints to a set of such asks -/
def putT (P : Program) (w : World) (K : PySem.W.Frag) : Addr → V → Hp → (Hp → Prop) → Prop := fun D y G Nx => ∃ (b : Addr) (k : List Int) (L : List (Addr × List Int)), y = .ref b ∧ SqT K G b (k.map V.int) ∧ G D = some (SetTO P w D L) ∧ (∀ p ∈ L, SqT K G p.1 (p.2.map V.int)) ∧ L.length + 1 < 64 ∧
  ∀ L', (k ∈ L.map (·.2) → L' = L) → (k ∉ L.map (·.2) → L'.Perm ((b, k) :: L)) → Nx (upd G D (SetTO P w D L'))
theorem freshT (P : Program) (w : World) : FreshS P w (fun a => SetTO P w a []) := fun H h => setTO_new (SetTR.t0 (setTR_fresh (Heap.get?_push_size _ rfl)))
theorem addT {P : Program} {w : World} {K : PySem.W.Frag} {A : Around} (hu : A.units + 64 < cLine) : AddS P w K A (putT P w K) := by
  rintro Y rfl rfl rfl rfl ps s σ G D y v Nx I rv ⟨b, k, L, rfl, hb, hD, hL, few, nx⟩
  cases (show v = Value.ref b from rv)
  have R0 : SetT0 Y.prog Y.w s.heap D L := (I.hok D _ hD).1
  obtain ⟨es, ep, t, R⟩ := R0.full fun p hp => I.isT (hL p hp)
  have hx := I.isT hb
  obtain ⟨o, ho, hex, _⟩ := R.ob
  refine wpAny_call_entry PySem.F.slot_set_add ⟨_, ho, hex.1⟩ PySem.F.entry_set_add ?_ (PySem.F.args_set_add_2 _ _)
  simp only [Builtin.«set.add», Builtin.Frozenset.oneOther, Builtin.Frozenset.addrOf, setAdd, List.isEmpty_nil, bind_assoc]
  have hu1 : Y.A.in1.units < cLine := by
    have : Y.A.in1.units ≤ Y.A.units + 63 := by
      rw [Around.in1_units]
      omega
    omega
  refine wpAny_bind (wpAny_pure (wpAny_bind (wpAny_pure (wpAny_bind (wpAny_holding (wpAny_bind (wpAny_pyHash_tuple hu1 hx ?_)))))))
  refine add_at (s := { s with toks := s.toks + (k.length + 1) }) R hx hu1 few fun _ h' L' es' ep' t' sb R' c1 c2 => ?_
  have ex : ∃ u, h'.get? D = some u := by
    obtain ⟨u, hu', _⟩ := R'.ob
    exact ⟨u, hu'⟩
  refine wpAny_pure ⟨_, rfl, _, ?_, nx L' c1 c2⟩
  exact I.write (e := D) (t' := s.toks + (k.length + 1)) (by rw [hD]; trivial) (.inl rfl) (fun c u hc hu' => (sb.2 c hc).trans hu') ex (setTO_new R'.t0)
/-- len(s), s a set of tuples of ints -/
def rLenST (P : Program) (w : World) (K : PySem.W.Frag) : List V → Hp → VK → Prop := fun xs H Q => ∃ (p : Addr) (L : List (Addr × List Int)), xs = [.ref p] ∧ H p = some (SetTO P w p L) ∧ (∀ p ∈ L, SqT K H p.1 (p.2.map V.int)) ∧ Q (.int ((L.length : Nat) : Int)) H
theorem call_lenST {X : Cx} : CallR X (.builtin "len") (rLenST X.prog X.w X.K) := by
  intro ps s σ H xs us Q I r h
  obtain ⟨p, L, rfl, hp, hL, q⟩ := h
  rw [Vals.ref1 r]
  have R0 : SetT0 X.prog X.w s.heap p L := (I.hok p _ hp).1
  obtain ⟨es, ep, t, R⟩ := R0.full fun p hp => I.isT (hL p hp)
  obtain ⟨o, ho, hex, hd⟩ := R.ob
  have few := R.few
  have sz := R.size
  refine call_len_set ho hex hd R.fits (by rw [sz]; omega) ?_
  rw [sz]
  exact ⟨.int ((L.length : Nat) : Int), H, I.tok _, ⟨_, rfl⟩, q⟩
abbrev rTupOf (K : PySem.W.Frag) : List V → Hp → VK → Prop := fun xs H Q => ∃ p ys, xs = [.ref p] ∧ ((SqL K H p ys ∧ ∀ l, H l = none → Q (.ref l) (upd H l (.tup ys))) ∨ (SqT K H p ys ∧ Q (.ref p) H))
/-- a set comprehension of tuples over a list that stands still -/
theorem scT_list {P : Program} {w : World} {K : PySem.W.Frag} {a : Addr} {xs : List V} {g : TG} {tt : TT} {te : TE} {vs : List Nat} {σ : L2.St} {H1 : Hp} {D : Addr} {Qd : Hp → Prop} (Pv : Nat → Hp → Prop) (h0 : Pv 0 (upd H1 D (SetTO P w D [])))
    (hl : ∀ i G, i ≤ xs.length → Pv i G → SqL K G a xs)
    (hs : ∀ i x G, xs[i]? = some x → Pv i G → g x (wipe σ vs) G fun σ2 H2 => wipe σ2 vs = wipe σ vs ∧ tt σ2 H2 fun b H3 => if b = true then te σ2 H3 fun y H4 => putT P w K D y H4 (Pv (i + 1)) else Pv (i + 1) H3)
    (hd : ∀ G, Pv xs.length G → Qd G) :
    ∃ W : Nat → Nat → Hp → Prop, (∃ m, W 0 m (upd H1 D (SetTO P w D []))) ∧ ∀ i m G, W i m G → ((Itl K a).stop i G ∧ Qd G) ∨ ((Itl K a).go i G ∧ ∃ Nx : Hp → Prop, (∀ G', Nx G' → ∃ m', m' < m ∧ W (i + 1) m' G') ∧
      ∀ x G', (Itl K a).yld i G x G' → g x (wipe σ vs) G' fun σ2 H2 => wipe σ2 vs = wipe σ vs ∧ tt σ2 H2 fun b H3 => if b = true then te σ2 H3 fun y H4 => putT P w K D y H4 Nx else Nx H3) := by
  refine ⟨fun i m G => m = xs.length - i ∧ i ≤ xs.length ∧ Pv i G, ⟨xs.length, rfl, Nat.zero_le _, h0⟩, ?_⟩
  rintro i m G ⟨rfl, hi, p⟩
  have q := hl i G hi p
  by_cases c : i < xs.length
  · refine .inr ⟨⟨_, _, q, List.getElem?_eq_getElem c⟩, Pv (i + 1), fun G' p' => ⟨xs.length - (i + 1), by omega, rfl, c, p'⟩, fun x G' y => ?_⟩
    obtain ⟨rfl, z⟩ := y
    exact hs i x _ (z _ q) p
  · have e : i = xs.length := by omega
    subst e
    exact .inl ⟨⟨_, q, Nat.le_refl _⟩, hd G p⟩
end Fo
namespace Fo
open PySem PySem.Spec PyProof.Rows L2
/-! ### a deck: a list of drawn numbers that never gets empty -/
def DqAt (H : Hp) (d : Addr) : Prop := ∃ ms : List Int, H d = some (.lst (ms.map V.int)) ∧ 1 ≤ ms.length ∧ ms.length ≤ 1200 ∧ ∀ m ∈ ms, 0 ≤ m ∧ m < 2147483648
def KeepD (d : Addr) (H H' : Hp) : Prop := ∀ b o, H b = some o → b ≠ d → H' b = some o
theorem KeepD.refl (d : Addr) (H : Hp) : KeepD d H H := fun _ _ e _ => e
theorem KeepD.trans {d : Addr} {H H1 H2 : Hp} (a : KeepD d H H1) (b : KeepD d H1 H2) : KeepD d H H2 := fun c o e f => b c o (a c o e f) f
theorem KeepD.of_same {d : Addr} {H H' : Hp} (h : Same H H') : KeepD d H H' := fun b o e _ => h b o e
theorem KeepD.new {d : Addr} {H : Hp} {p : Addr} {o : HO} (e : H p = none) : KeepD d H (upd H p o) := KeepD.of_same (same_new e)
theorem KeepD.none {d : Addr} {H H1 : Hp} (k : KeepD d H H1) {p : Addr} (np : H1 p = none) (nf : p ≠ d) : H p = none := by
  cases e : H p with
  | none => rfl
  | some o =>
    have z := k p o e nf
    rw [np] at z
    cases z
theorem DqAt.same {H H' : Hp} {d : Addr} (h : DqAt H d) (s : Same H H') : DqAt H' d := by
  obtain ⟨ms, e, r⟩ := h
  exact ⟨ms, s _ _ e, r⟩
theorem DqAt.ne {H : Hp} {d : Addr} (h : DqAt H d) {p : Addr} (e : H p = none) : p ≠ d := by
  obtain ⟨ms, e1, _⟩ := h
  exact (ne_of_none e1 e).symm
theorem DqAt.upd {H : Hp} {d : Addr} (h : DqAt H d) {p : Addr} {o : HO} (n1 : p ≠ d) : DqAt (upd H p o) d := by
  obtain ⟨ms, e, r⟩ := h
  exact ⟨ms, by rw [upd_ne n1.symm]; exact e, r⟩
theorem DqAt.new {H : Hp} {d : Addr} (h : DqAt H d) {p : Addr} {o : HO} (e : H p = none) : DqAt (L2.upd H p o) d := h.upd (h.ne e)
def spCell (K : PySem.W.Frag) : Sp := fun vs H Q _ => ∃ (a : Addr) (ns : List Int) (k : Nat), vs = [.ref a, .int k] ∧ SqL K H a (ns.map V.int) ∧ ∀ (v : Int), Q (.int v) H
def spStir : Sp := fun vs H Q _ => ∃ (c k : Int), vs = [.int c, .int k] ∧ 0 ≤ k ∧ k ≤ 1200 ∧ ∀ (v : Int), 0 ≤ v → v < 2147483648 → Q (.int v) H
def spDeckN : Sp := fun vs H Q _ => ∃ (c : Int) (many : Nat), vs = [.int c, .int many] ∧ 1 ≤ many ∧ many ≤ 1200 ∧ ∀ (d : Addr) (H' : Hp), H d = none → DqAt H' d → Same H H' → Q (.ref d) H'
def spNext : Sp := fun vs H Q _ => ∃ (d : Addr), vs = [.ref d] ∧ DqAt H d ∧ ∀ (v : Int) (H' : Hp), 0 ≤ v → v < 2147483648 → DqAt H' d → KeepD d H H' → Q (.int v) H'
def spOrderN : Sp := fun vs H Q _ => ∃ (d : Addr) (n : Nat), vs = [.ref d, .int n] ∧ DqAt H d ∧ n ≤ 12 ∧
  ∀ (ns : List Int) (l : Addr) (H' : Hp), IsOrd n ns → H l = none → H' l = some (.lst (ns.map V.int)) → l ≠ d → DqAt H' d → KeepD d H H' → Q (.ref l) H'
def spNearN : Sp := fun vs H Q _ => ∃ (d o : Addr) (n : Nat) (ns : List Int), vs = [.ref d, .ref o] ∧ DqAt H d ∧ H o = some (.lst (ns.map V.int)) ∧ IsOrd n ns ∧ 1 ≤ n ∧ n ≤ 12 ∧
  ∀ (ms : List Int) (l : Addr) (H' : Hp), IsOrd n ms → H l = none → H' l = some (.lst (ms.map V.int)) → l ≠ d → DqAt H' d → KeepD d H H' → Q (.ref l) H'
theorem mod_b (x : Int) {m : Int} (h : 0 < m) : 0 ≤ x % m ∧ x % m < m := ⟨Int.emod_nonneg x (by omega), Int.emod_lt_of_pos x h⟩
theorem mul_b {x y a b : Int} (hx : 0 ≤ x) (hxa : x ≤ a) (hy : 0 ≤ y) (hyb : y ≤ b) : 0 ≤ x * y ∧ x * y ≤ a * b := ⟨Int.mul_nonneg hx hy, Int.mul_le_mul hxa hyb hy (by omega)⟩
section
variable {P : Program} {w : World} {K : PySem.W.Frag} {mg : Str → Option Value} {base : Heap}
theorem scCell : FnScope ["script", "k"] ["script", "k"] (defScope s_law_cell_at) := ⟨rfl, rfl, rfl, by decide +kernel, rfl, by decide +kernel, by decide +kernel⟩
theorem ok_cell {f : Addr} {fd : FuncData} {k : Nat} (T : Df K mg "_law_cell_at" s_law_cell_at ["script", "k"] f fd) (B : Bi mg) : FnOk P w K mg base CX0 (k + 1) f fd ["script", "k"] (spCell K) := by
  refine T.F.ok scCell (fun vs H Q E h => ?_) (fun cdv A outer s H vs Q E hr h => ?_)
  · obtain ⟨a, ns, k, rfl, _⟩ := h
    rfl
  · obtain ⟨a, ns, k, rfl, hS, q⟩ := h
    refine ⟨_, 
      (pss_cons (ps_if (pt_cmpR op_lt (pv 1) (pe_callB call_len_seq (by rfl) B.len PySem.boot_len (pa_cons (pv 0) pa_nil)) (nomark _))
        (pss_one (ps_ret (pe_ix ix_list (pv 0) (pv 1) (fun _ _ => rfl))))
        pss_nil)
      (pss_one (ps_ret pe_int))), ?_⟩
    refine ⟨_, rfl, _, rfl, a, _, rfl, .inl hS, (k : Int), _, rfl, rfl, _, rfl, ite2 (fun c => ?_) (fun _ => q 0)⟩
    have hl : (k : Int) < (((ns.map V.int).length : Nat) : Int) := of_decide_eq_true c
    rw [List.length_map] at hl
    exact ⟨_, rfl, _, rfl, a, _, _, _, rfl, rfl, hS, at_of (j := k) rfl (int_at (List.getElem?_eq_getElem (show k < ns.length by omega))), q _⟩
theorem scStir : FnScope ["cell", "k", "one"] ["cell", "k"] (defScope s_law_stir) := ⟨rfl, rfl, rfl, by decide +kernel, rfl, by decide +kernel, by decide +kernel⟩
theorem ok_stir {f : Addr} {fd : FuncData} {k : Nat} (T : Df K mg "_law_stir" s_law_stir ["cell", "k"] f fd) (B : Bi mg) : FnOk P w K mg base CX0 (k + 1) f fd ["cell", "k"] spStir := by
  refine T.F.ok scStir (fun vs H Q E h => ?_) (fun cdv A outer s H vs Q E hr h => ?_)
  · obtain ⟨c, k, rfl, _⟩ := h
    rfl
  · obtain ⟨c, k, rfl, k0, k1, q⟩ := h
    refine ⟨_, 
      (Evl.pss_cut (ps_set (i := 2) scStir.nd rfl (.inl rfl) (pe_op op_mod (pe_op op_mul (pe_op op_add (pe_op op_add (pe_op op_mod (pv 0) pe_int) (pe_op op_mul pe_int (pv 1))) pe_int) pe_int) pe_int))
      (Evl.pss_cut (ps_set (i := 2) scStir.nd rfl (.inl rfl) (pe_op op_mod (pe_op op_mul (pv 2) (pv 2)) pe_int))
      (pss_one (ps_ret (pe_op op_fdiv (pe_op op_mod (pe_op op_mul (pe_op op_add (pv 2) (pe_op op_mul pe_int (pv 1))) pe_int) pe_int) pe_int))))), ?_⟩
    refine ⟨fun τ G => ∃ x : Int, 0 ≤ x ∧ x < 2147483647 ∧ τ = [some (.int c), some (.int k), some (.int x)] ∧ G = H, ?_, fun τ G hM => ?_⟩
    · exact ⟨_, rfl, c, 2147483629, rfl, rfl, (show (0 : Int) < 2147483629 by decide), _, rfl, 9973, k, rfl, rfl, .inl ⟨by decide, by decide⟩, _, _, rfl, rfl, _, 5, rfl, rfl, _, 48271, rfl, rfl, .inr ⟨by decide, by decide⟩, _, 2147483647, rfl, rfl, (show (0 : Int) < 2147483647 by decide), _, (mod_b _ (by decide)).1, (mod_b _ (by decide)).2, rfl, rfl⟩
    obtain ⟨x, x0, x1, rfl, e1⟩ := hM
    subst e1
    refine ⟨fun τ G' => ∃ y : Int, 0 ≤ y ∧ y < 2147483587 ∧ τ = [some (.int c), some (.int k), some (.int y)] ∧ G' = G, ?_, fun τ G' hM => ?_⟩
    · exact ⟨_, rfl, _, rfl, x, x, rfl, rfl, .inl ⟨by omega, by omega⟩, _, 2147483587, rfl, rfl, (show (0 : Int) < 2147483587 by decide), _, (mod_b _ (by decide)).1, (mod_b _ (by decide)).2, rfl, rfl⟩
    obtain ⟨y, y0, y1, rfl, e1⟩ := hM
    subst e1
    have h1 := mod_b ((y + 7919 * k) * 16807) (m := 2147483563) (by decide)
    exact ⟨_, rfl, _, rfl, 7919, k, rfl, rfl, .inl ⟨by decide, by decide⟩, _, _, rfl, rfl, _, 16807, rfl, rfl, .inr ⟨by decide, by decide⟩, _, 2147483563, rfl, rfl, (show (0 : Int) < 2147483563 by decide), _, 8, rfl, rfl, ⟨by decide, by decide⟩, q _ (by omega) (by omega)⟩
theorem scDeckN : FnScope ["cell", "many", "found", "digits", "k", "number"] ["cell", "many"] (defScope s_law_deck) := ⟨rfl, rfl, rfl, by decide +kernel, rfl, by decide +kernel, by decide +kernel⟩
set_option maxHeartbeats 2000000 in
theorem ok_deckN {f fS : Addr} {fd fdS : FuncData} {k : Nat} (T : Df K mg "_law_deck" s_law_deck ["cell", "many"] f fd) (T__law_stir : Df K mg "_law_stir" s_law_stir ["cell", "k"] fS fdS) (B : Bi mg) : FnOk P w K mg base CX0 (k + 2) f fd ["cell", "many"] spDeckN := by
  have G__law_stir : FnOk P w K mg base CX0 (k + 1) fS fdS ["cell", "k"] spStir := ok_stir T__law_stir B
  refine T.F.ok scDeckN (fun vs H Q E h => ?_) (fun cdv A outer s H vs Q E hr h => ?_)
  · obtain ⟨c, m, rfl, _⟩ := h
    rfl
  · obtain ⟨c, m, rfl, m1, m2, q⟩ := h
    refine ⟨_, 
      (pss_cons (ps_set (i := 2) scDeckN.nd rfl (.inl rfl) (pe_lst pa_nil))
      (pss_cons (ps_set (i := 3) scDeckN.nd rfl (.inl rfl) (pv 0))
      (pss_cons (ps_for PassesOwn.never rfl (pi_range1 (by rfl) B.range (pa_cons (pv 1) pa_nil)) (pg_name (i := 4) scDeckN.nd rfl (.inl rfl))
        (pss_cons (ps_set (i := 5) scDeckN.nd rfl (.inl rfl) (pe_call G__law_stir hr (by rfl) T__law_stir.g T__law_stir.F.kp T__law_stir.b .nil pass0 (pa_cons (pv 0) (pa_cons (pv 4) pa_nil))))
        (Evl.pss_cut (ps_if (pt_cmpR op_ge (pv 0) (pe_op op_pow pe_int pe_int) (nomark _))
          (pss_one (ps_set (i := 5) scDeckN.nd rfl (.inl rfl) (pe_op op_mod (pv 3) pe_int)))
          pss_nil)
        (pss_cons (ps_set (i := 3) scDeckN.nd rfl (.inl rfl) (pe_op op_fdiv (pv 3) pe_int))
        (pss_one (ps_expr (pe_bm PySem.F.plainAttrs_list PySem.F.slot_list_append PySem.F.type_list_append mt_append (pv 2) (pa_cons (pv 5) pa_nil))))))))
      (pss_one (ps_ret (pe_revL (pv 2))))))), ?_⟩
    refine ⟨line_small (by show 0 ≤ 16777216; decide), fun l nl => ⟨_, rfl, ?_⟩⟩
    refine ⟨_, rfl, m, rfl, by omega, by omega, ?_⟩
    rw [Int.toNat_natCast]
    refine for_range (n := m) (fun i σ H3 => ∃ (x : Int) (y4 y5 : Option V) (ms : List Int), σ = [some (.int c), some (.int m), some (.ref l), some (.int x), y4, y5] ∧ H3 l = some (.lst (ms.map V.int)) ∧ ms.length = i ∧ (∀ z ∈ ms, 0 ≤ z ∧ z < 2147483648) ∧ Same H H3)
      ⟨c, none, none, [], rfl, upd_same, rfl, (fun _ h => absurd h List.not_mem_nil), same_new nl⟩ (fun i σ H3 hi hP => ?_) (fun σ H3 hP => ?_)
    · obtain ⟨x, y4, y5, ms, rfl, hl3, el, hb, s3⟩ := hP
      refine ⟨_, rfl, _, rfl, c, _, rfl, by omega, by omega, fun v v0 v1 => ?_⟩
      refine ⟨fun τ G => ∃ z : Int, 0 ≤ z ∧ z < 2147483648 ∧ τ = [some (.int c), some (.int m), some (.ref l), some (.int x), some (.int (0 + (i : Int))), some (.int z)] ∧ G = H3, ?_, fun τ G hM => ?_⟩
      · refine ⟨_, rfl, 10, 18, rfl, rfl, ⟨by decide, by decide, by decide⟩, c, _, rfl, rfl, _, rfl, ite2 (fun _ => ?_) (fun _ => ⟨v, v0, v1, rfl, rfl⟩)⟩
        have h1 := mod_b x (m := 720720) (by decide)
        exact ⟨_, rfl, x, 720720, rfl, rfl, (show (0 : Int) < 720720 by decide), _, h1.1, by omega, rfl, rfl⟩
      obtain ⟨z, z0, z1, rfl, e1⟩ := hM
      subst e1
      refine ⟨_, rfl, x, 720720, rfl, rfl, ⟨by decide, by decide⟩, ?_⟩
      refine ⟨_, rfl, .inl ⟨rfl, _, SqL.of hl3⟩, _, rfl, l, _, _, rfl, rfl, hl3, line_lt (by rw [List.length_map]; omega), ?_⟩
      refine ⟨_, _, _, ms ++ [z], rfl, by rw [upd_same, List.map_append]; rfl, by rw [List.length_append, el]; rfl, fun u hu => ?_, fun b o e => ?_⟩
      · rcases List.mem_append.mp hu with h | h
        · exact hb u h
        · rw [List.mem_singleton.mp h]
          exact ⟨z0, z1⟩
      · rw [upd_ne (ne_of_none e nl)]
        exact s3 _ _ e
    · obtain ⟨x, y4, y5, ms, rfl, hl3, el, hb, s3⟩ := hP
      refine ⟨_, rfl, l, _, rfl, SqL.of hl3, fun p np => ?_⟩
      have hHp : H p = none := by
        cases e : H p with
        | none => rfl
        | some o =>
          have z := s3 p o e
          rw [np] at z
          cases z
      refine q p _ hHp ⟨ms.reverse, by rw [upd_same, List.map_reverse], by rw [List.length_reverse]; omega, by rw [List.length_reverse]; omega, fun z hz => hb z (List.mem_reverse.mp hz)⟩ (s3.trans (same_new np))
theorem scNext : FnScope ["deck"] ["deck"] (defScope s_law_next) := ⟨rfl, rfl, rfl, by decide +kernel, rfl, by decide +kernel, by decide +kernel⟩
set_option maxHeartbeats 2000000 in
theorem ok_next {f fS : Addr} {fd fdS : FuncData} {k : Nat} (T : Df K mg "_law_next" s_law_next ["deck"] f fd) (T__law_stir : Df K mg "_law_stir" s_law_stir ["cell", "k"] fS fdS) (B : Bi mg) : FnOk P w K mg base CX0 (k + 2) f fd ["deck"] spNext := by
  have G__law_stir : FnOk P w K mg base CX0 (k + 1) fS fdS ["cell", "k"] spStir := ok_stir T__law_stir B
  refine T.F.ok scNext (fun vs H Q E h => ?_) (fun cdv A outer s H vs Q E hr h => ?_)
  · obtain ⟨d, rfl, _⟩ := h
    rfl
  · obtain ⟨d, rfl, ⟨ms, hd, l1, l2, hb⟩, q⟩ := h
    refine ⟨_, 
      (Evl.pss_cut (ps_if (pt_cmpR op_eq (pe_callB call_len_seq (by rfl) B.len PySem.boot_len (pa_cons (pv 0) pa_nil)) pe_int (nomark _))
        (pss_one (ps_expr (pe_bm PySem.F.plainAttrs_list PySem.F.slot_list_insert PySem.F.type_list_insert mt_insert (pv 0) (pa_cons pe_int (pa_cons (pe_op op_mul (pe_call G__law_stir hr (by rfl) T__law_stir.g T__law_stir.F.kp T__law_stir.b .nil pass0 (pa_cons (pe_ix ix_list (pv 0) pe_int (fun _ _ => rfl)) (pa_cons pe_int pa_nil))) (pe_callTy call_int1 (by rfl) B.int (by decide +kernel) (pa_cons (pe_cmpR op_gt (pe_ix ix_list (pv 0) pe_int (fun _ _ => rfl)) pe_int (nomark _)) pa_nil))) pa_nil)))))
        pss_nil)
      (pss_one (ps_ret (pe_bm0 PySem.F.plainAttrs_list PySem.F.slot_list_pop PySem.F.type_list_pop mt_pop (pv 0))))), ?_⟩
    refine ⟨fun τ G => ∃ ks : List Int, τ = [some (.ref d)] ∧ G d = some (.lst (ks.map V.int)) ∧ 2 ≤ ks.length ∧ ks.length ≤ 1200 ∧ (∀ z ∈ ks, 0 ≤ z ∧ z < 2147483648) ∧ KeepD d H G, ?_, fun τ G hM => ?_⟩
    · refine ⟨_, rfl, d, _, rfl, .inl (SqL.of hd), rfl, _, rfl, ite2 (fun c => ?_) (fun c => ?_)⟩
      · have hl : ms.length = 1 := by
          have z : V.int (((ms.map V.int).length : Nat) : Int) = V.int 1 := of_decide_eq_true c
          have z2 : (((ms.map V.int).length : Nat) : Int) = 1 := V.int.inj z
          rw [List.length_map] at z2
          omega
        obtain ⟨x, rfl⟩ := List.length_eq_one_iff.mp hl
        have hx := hb x List.mem_cons_self
        refine ⟨_, rfl, .inl ⟨rfl, _, SqL.of hd⟩, _, rfl, d, _, 0, _, rfl, rfl, SqL.of hd, rfl, x, 7, rfl, by decide, by decide, fun v v0 v1 => ⟨_, rfl, d, _, 0, _, rfl, rfl, SqL.of hd, rfl, x, 0, rfl, rfl, .inr ⟨_, rfl, v, _, rfl, rfl, .inl ⟨by omega, by omega⟩, ?_⟩⟩⟩
        refine ⟨d, _, 0, _, rfl, rfl, hd, line_lt (by show 1 < 16777216; decide), by decide, by decide, ?_⟩
        obtain ⟨u, eu, u0, u1⟩ : ∃ u : Int, v * (if decide ((0 : Int) < x) = true then 1 else 0) = u ∧ 0 ≤ u ∧ u < 2147483648 := by
          by_cases c : (0 : Int) < x
          · rw [decide_eq_true c, if_pos rfl, Int.mul_one]
            exact ⟨v, rfl, v0, v1⟩
          · rw [decide_eq_false c, if_neg (by decide), Int.mul_zero]
            exact ⟨0, rfl, by decide, by decide⟩
        refine ⟨[u, x], rfl, ?_, by show 2 ≤ 2; decide, by show 2 ≤ 1200; decide, fun z hz => ?_, fun b o e nb => by rw [upd_ne nb]; exact e⟩
        · rw [upd_same]
          dsimp only
          rw [eu]
          rfl
        · rcases List.mem_cons.mp hz with rfl | hz
          · exact ⟨u0, u1⟩
          · rw [List.mem_singleton.mp hz]
            exact hx
      · refine ⟨ms, rfl, hd, ?_, l2, hb, KeepD.refl _ _⟩
        by_cases e : ms.length = 1
        · exfalso
          apply c
          apply decide_eq_true
          rw [List.length_map, e]
          rfl
        · omega
    obtain ⟨ks, rfl, hk, l3, l4, hb3, kp⟩ := hM
    obtain ⟨y, ey⟩ : ∃ y, ks[ks.length - 1]? = some y := ⟨ks[ks.length - 1]'(by omega), List.getElem?_eq_getElem (by omega)⟩
    have hy := hb3 y (List.mem_of_getElem? ey)
    refine ⟨_, rfl, .inl ⟨rfl, _, SqL.of hk⟩, d, _, _, rfl, rfl, hk, by rw [List.length_map]; exact int_at ey, ?_⟩
    refine q y _ hy.1 hy.2 ⟨ks.dropLast, by rw [upd_same, List.map_dropLast], by rw [List.length_dropLast]; omega, by rw [List.length_dropLast]; omega, fun z hz => hb3 z ((List.dropLast_prefix ks).subset hz)⟩ (kp.trans fun b o e nb => by rw [upd_ne nb]; exact e)
end
end Fo
namespace Fo
open PySem PySem.Spec PyProof.Rows L2
theorem ins_perm (xs : List Int) (k : Nat) (y : Int) : (xs.take k ++ [y] ++ xs.drop k).Perm (y :: xs) := by
  rw [List.append_assoc]
  have h1 : (xs.take k ++ ([y] ++ xs.drop k)).Perm ([y] ++ (xs.take k ++ xs.drop k)) := by
    rw [← List.append_assoc, ← List.append_assoc]
    exact List.Perm.append_right _ List.perm_append_comm
  rw [List.take_append_drop] at h1
  exact h1
theorem set2_perm {xs : List Int} {p q : Nat} {a b : Int} (ha : xs[p]? = some a) (hb : xs[q]? = some b) : ((xs.set p b).set q a).Perm xs := by
  obtain ⟨h1, e1⟩ := List.getElem?_eq_some_iff.mp ha
  obtain ⟨h2, e2⟩ := List.getElem?_eq_some_iff.mp hb
  rw [← e1, ← e2]
  exact List.set_set_perm h1 h2
theorem set2_V (xs : List Int) (p q : Nat) (a b : Int) : ((xs.map V.int).set p (V.int b)).set q (V.int a) = ((xs.set p b).set q a).map V.int := by
  rw [List.map_set, List.map_set]
section
variable {P : Program} {w : World} {K : PySem.W.Frag} {mg : Str → Option Value} {base : Heap}
theorem scOrderN : FnScope ["deck", "n", "left", "thing"] ["deck", "n"] (defScope s_law_order) := ⟨rfl, rfl, rfl, by decide +kernel, rfl, by decide +kernel, by decide +kernel⟩
set_option maxHeartbeats 4000000 in
theorem ok_orderN {f fD : Addr} {fd fdD : FuncData} {k : Nat} (T : Df K mg "_law_order" s_law_order ["deck", "n"] f fd) (T__law_next : Df K mg "_law_next" s_law_next ["deck"] fD fdD) (G__law_next : FnOk P w K mg base CX0 k fD fdD ["deck"] spNext) (B : Bi mg) : FnOk P w K mg base CX0 (k + 1) f fd ["deck", "n"] spOrderN := by
  refine T.F.ok scOrderN (fun vs H Q E h => ?_) (fun cdv A outer s H vs Q E hr h => ?_)
  · obtain ⟨D, n, rfl, _⟩ := h
    rfl
  · obtain ⟨d, n, rfl, hD, hn2, q⟩ := h
    refine ⟨_, 
      (pss_cons (ps_set (i := 2) scOrderN.nd rfl (.inr rfl) (pe_listRg rfl (by rfl) B.list (prg_1 (by rfl) B.range (pv 1))))
      (pss_one (ps_ret (pe_lc (own := [("thing", 3)]) (g := (gName 3)) (tt := tYes) (te := (tBM K "list" rPopAt (tVar 2) (tCons (tOp (rI (fun _ j => 0 < j) fun i j => .int (i % j)) (tCall spNext [] E0 (tCons (tVar 0) tNil)) (tCB (rLenS K) (tCons (tVar 2) tNil))) tNil))) rfl scOrderN.nd (pi_range1 (by rfl) B.range (pa_cons (pv 1) pa_nil)) (blkOk_by (N := ["deck", "n", "left", "thing"]) (sc := defScope s_law_order) (by decide +kernel)) (fun _ _ _ _ _ => (pg_name (i := 3) scOrderN.nd rfl (.inl rfl))) (fun _ _ _ _ _ => pts_nil) (fun _ _ _ _ _ => (pe_bm PySem.F.plainAttrs_list PySem.F.slot_list_pop PySem.F.type_list_pop mt_popAt (pv 2) (pa_cons (pe_op op_mod (pe_call G__law_next hr (by rfl) T__law_next.g T__law_next.F.kp T__law_next.b .nil pass0 (pa_cons (pv 0) pa_nil)) (pe_callB call_len_seq (by rfl) B.len PySem.boot_len (pa_cons (pv 2) pa_nil))) pa_nil))))))), ?_⟩
    refine ⟨_, rfl, n, rfl, RgOk.of_le (by omega) (by omega) (by omega) (by omega), fun l nl => ?_⟩
    have hl0 : (upd H l (.lst (rgV 0 (n : Int)))) l = some (.lst ((rg n).map V.int)) := by rw [upd_same, rg_V]
    have D0 := hD.new (o := .lst (rgV 0 (n : Int))) nl
    have nf := hD.ne nl
    have k0 : KeepD d H (upd H l (.lst (rgV 0 (n : Int)))) := KeepD.new nl
    refine ⟨_, rfl, n, rfl, by omega, by omega, ?_⟩
    rw [Int.toNat_natCast]
    intro p np
    have npf := D0.ne np
    have lp : l ≠ p := ne_of_none hl0 np
    refine lc_range (lo := 0) (n := n) (fun i H3 => ∃ (rest acc : List Int), (acc ++ rest).Perm (rg n) ∧ acc.length = i ∧ H3 l = some (.lst (rest.map V.int)) ∧ H3 p = some (.lst (acc.map V.int)) ∧ DqAt H3 d ∧ ∀ b o, H b = some o → b ≠ d → H3 b = some o)
      ⟨rg n, [], List.Perm.refl _, rfl, by rw [upd_ne lp]; exact hl0, upd_same, D0.new np, fun b o e f => by rw [upd_ne (ne_of_none (k0 b o e f) np)]; exact k0 b o e f⟩ (fun i H3 hi hP => ?_) (fun H3 hP => ?_)
    · obtain ⟨rest, acc, hperm, el, hl3, hp3, D3, kp3⟩ := hP
      have hlen : rest.length = n - i := by
        have := List.Perm.length_eq hperm
        rw [List.length_append, rg_len] at this
        omega
      have hlm : (rest.map V.int).length = rest.length := List.length_map _
      refine ⟨rfl, ?_⟩
      refine ⟨_, rfl, .inl ⟨rfl, _, SqL.of hl3⟩, _, rfl, d, rfl, D3, fun v H4 v0 v1 D4 k4 => ?_⟩
      have hl4 := k4 l _ hl3 nf
      have hp4 := k4 p _ hp3 npf
      obtain ⟨j, ej, hj⟩ : ∃ j : Nat, v % (((rest.map V.int).length : Nat) : Int) = (j : Int) ∧ j < rest.length := by
        rw [hlm]
        have h1 := mod_b v (m := ((rest.length : Nat) : Int)) (by omega)
        exact ⟨(v % ((rest.length : Nat) : Int)).toNat, by omega, by omega⟩
      refine ⟨_, rfl, l, _, rfl, .inl (SqL.of hl4), v, _, rfl, rfl, by rw [hlm]; omega, ?_⟩
      obtain ⟨y, ey⟩ : ∃ y, rest[j]? = some y := ⟨rest[j]'(by omega), List.getElem?_eq_getElem (by omega)⟩
      refine ⟨l, _, _, j, _, rfl, rfl, hl4, by rw [ej]; omega, by rw [ej]; omega, seq_ix ej (by rw [hlm]; omega), int_at ey, ?_⟩
      refine ⟨acc.map V.int, by rw [upd_ne lp.symm]; exact hp4, line_lt (by rw [List.length_map]; omega), rest.eraseIdx j, acc ++ [y], ?_, by rw [List.length_append, el]; rfl, ?_, by rw [upd_same, List.map_append]; rfl, ?_, fun b o e f => ?_⟩
      · rw [List.append_assoc]
        exact (List.Perm.append_left acc (pop_perm ey)).trans hperm
      · rw [upd_ne lp, upd_same, map_erase]
      · exact (D4.upd nf).upd npf
      · have e4 := k4 b o (kp3 b o e f) f
        have nbl : b ≠ l := ne_of_none e nl
        have nbp : b ≠ p := ne_of_none (k0 b o e f) np
        rw [upd_ne nbp, upd_ne nbl]
        exact e4
    · obtain ⟨rest, acc, hperm, el, hl3, hp3, D3, kp3⟩ := hP
      have hr0 : rest = [] := by
        have := List.Perm.length_eq hperm
        rw [List.length_append, rg_len] at this
        exact List.eq_nil_of_length_eq_zero (by omega)
      subst hr0
      rw [List.append_nil] at hperm
      exact q acc p H3 hperm (k0.none np npf) hp3 npf D3 kp3
theorem scNearN : FnScope ["deck", "order", "found", "way", "turn", "p", "q"] ["deck", "order"] (defScope s_law_near) := ⟨rfl, rfl, rfl, by decide +kernel, rfl, by decide +kernel, by decide +kernel⟩
set_option maxHeartbeats 4000000 in
theorem ok_nearN {f fD : Addr} {fd fdD : FuncData} {k : Nat} (T : Df K mg "_law_near" s_law_near ["deck", "order"] f fd) (T__law_next : Df K mg "_law_next" s_law_next ["deck"] fD fdD) (G__law_next : FnOk P w K mg base CX0 k fD fdD ["deck"] spNext) (B : Bi mg) : FnOk P w K mg base CX0 (k + 1) f fd ["deck", "order"] spNearN := by
  refine T.F.ok scNearN (fun vs H Q E h => ?_) (fun cdv A outer s H vs Q E hr h => ?_)
  · obtain ⟨D, o, n, ns, rfl, _⟩ := h
    rfl
  · obtain ⟨d, o, n, ns, rfl, hD, h0, ho, hn1, hn2, q⟩ := h
    have hlm : (ns.map V.int).length = n := by rw [List.length_map, ho.len]
    refine ⟨_, 
      (pss_cons (ps_set (i := 2) scNearN.nd rfl (.inl rfl) (pe_callTy call_list_of (by rfl) B.list (by decide +kernel) (pa_cons (pv 1) pa_nil)))
      (pss_cons (ps_set (i := 3) scNearN.nd rfl (.inl rfl) (pe_op op_mod (pe_call G__law_next hr (by rfl) T__law_next.g T__law_next.F.kp T__law_next.b .nil pass0 (pa_cons (pv 0) pa_nil)) pe_int))
      (pss_cons (ps_for PassesOwn.never rfl (pi_range1 (by rfl) B.range (pa_cons (pe_op op_mul (pe_ix ix_list (pe_lst (pa_cons pe_int (pa_cons pe_int (pa_cons pe_int (pa_cons pe_int pa_nil))))) (pe_op op_mod (pe_call G__law_next hr (by rfl) T__law_next.g T__law_next.F.kp T__law_next.b .nil pass0 (pa_cons (pv 0) pa_nil)) pe_int) (fun _ _ => rfl)) (pe_callTy call_int1 (by rfl) B.int (by decide +kernel) (pa_cons (pe_cmpR op_gt (pe_callB call_len_seq (by rfl) B.len PySem.boot_len (pa_cons (pv 2) pa_nil)) pe_int (nomark _)) pa_nil))) pa_nil)) (pg_name (i := 4) scNearN.nd rfl (.inl rfl))
        (pss_cons (ps_set (i := 5) scNearN.nd rfl (.inl rfl) (pe_op op_mod (pe_call G__law_next hr (by rfl) T__law_next.g T__law_next.F.kp T__law_next.b .nil pass0 (pa_cons (pv 0) pa_nil)) (pe_op op_sub (pe_callB call_len_seq (by rfl) B.len PySem.boot_len (pa_cons (pv 2) pa_nil)) pe_int)))
        (pss_cons (ps_set (i := 6) scNearN.nd rfl (.inl rfl) (pe_ix ix_list (pe_lst (pa_cons (pe_op op_add (pv 5) pe_int) (pa_cons (pe_op op_mod (pe_call G__law_next hr (by rfl) T__law_next.g T__law_next.F.kp T__law_next.b .nil pass0 (pa_cons (pv 0) pa_nil)) (pe_callB call_len_seq (by rfl) B.len PySem.boot_len (pa_cons (pv 2) pa_nil))) (pa_cons (pe_op op_add (pv 5) pe_int) pa_nil)))) (pv 3) (fun _ _ => rfl)))
        (pss_one (ps_if (pt_cmpR op_lt (pv 3) pe_int (nomark _))
          (pss_one (ps_asg (pe_tup (pa_cons (pe_ix ix_list (pv 2) (pv 6) (fun _ _ => rfl)) (pa_cons (pe_ix ix_list (pv 2) (pv 5) (fun _ _ => rfl)) pa_nil))) (pg_tup (by rfl) (pgs_cons (pg_sub (pv 2) (pv 5) set_list) (pgs_cons (pg_sub (pv 2) (pv 6) set_list) pgs_nil)))))
          (pss_one (ps_expr (pe_bm PySem.F.plainAttrs_list PySem.F.slot_list_insert PySem.F.type_list_insert mt_insert (pv 2) (pa_cons (pe_op op_mod (pe_call G__law_next hr (by rfl) T__law_next.g T__law_next.F.kp T__law_next.b .nil pass0 (pa_cons (pv 0) pa_nil)) (pe_callB call_len_seq (by rfl) B.len PySem.boot_len (pa_cons (pv 2) pa_nil))) (pa_cons (pe_bm PySem.F.plainAttrs_list PySem.F.slot_list_pop PySem.F.type_list_pop mt_popAt (pv 2) (pa_cons (pv 5) pa_nil)) pa_nil))))))))))
      (pss_one (ps_ret (pv 2)))))), ?_⟩
    refine ⟨_, rfl, o, _, rfl, .inl (SqL.of h0), fun l nl => ?_⟩
    have s0 := same_new (o := .lst (ns.map V.int)) nl
    have D0 := hD.new (o := .lst (ns.map V.int)) nl
    have nf := hD.ne nl
    refine ⟨_, rfl, d, rfl, D0, fun w1 H1 _ _ D1 k1 => ⟨w1, 3, rfl, rfl, (show (0 : Int) < 3 by decide), ?_⟩⟩
    have hl1 := k1 l _ upd_same nf
    have kk1 : KeepD d H H1 := (KeepD.of_same s0).trans k1
    have hw := mod_b w1 (m := 3) (by decide)
    refine ⟨line_small (by show 4 ≤ 16777216; decide), fun t nt => ?_⟩
    have D1t := D1.new (o := .lst [.int 1, .int 1, .int 2, .int 4]) nt
    have ntd := D1.ne nt
    refine ⟨_, rfl, d, rfl, D1t, fun w2 H2 _ _ D2 k2 => ⟨w2, 4, rfl, rfl, (show (0 : Int) < 4 by decide), ?_⟩⟩
    have ht2 := k2 t _ upd_same ntd
    have kk2 : KeepD d H H2 := (kk1.trans (KeepD.new nt)).trans k2
    have hl2 := k2 l _ (same_new nt _ _ hl1) nf
    have hw2 := mod_b w2 (m := 4) (by decide)
    obtain ⟨u, eu, u0, u1⟩ : ∃ u : Int, atI [V.int 1, V.int 1, V.int 2, V.int 4] (w2 % 4) = some (.int u) ∧ 0 ≤ u ∧ u ≤ 4 := by
      have : w2 % 4 = 0 ∨ w2 % 4 = 1 ∨ w2 % 4 = 2 ∨ w2 % 4 = 3 := by omega
      rcases this with h | h | h | h <;> rw [h]
      · exact ⟨1, rfl, by decide, by decide⟩
      · exact ⟨1, rfl, by decide, by decide⟩
      · exact ⟨2, rfl, by decide, by decide⟩
      · exact ⟨4, rfl, by decide, by decide⟩
    refine ⟨t, _, _, _, rfl, rfl, SqL.of ht2, eu, _, rfl, l, _, rfl, .inl (SqL.of hl2), _, 1, rfl, rfl, .inr ⟨_, rfl, u, _, rfl, rfl, .inl ⟨by omega, by omega⟩, _, rfl, ?_⟩⟩
    obtain ⟨m, em, hm⟩ : ∃ m : Nat, u * (if decide ((1 : Int) < (((ns.map V.int).length : Nat) : Int)) = true then 1 else 0) = (m : Int) ∧ (m ≤ 4 ∧ (n = 1 → m = 0)) := by
      rw [hlm]
      by_cases c : (1 : Int) < (n : Int)
      · rw [decide_eq_true c, if_pos rfl, Int.mul_one]
        exact ⟨u.toNat, by omega, by omega, by omega⟩
      · rw [decide_eq_false c, if_neg (by decide), Int.mul_zero]
        exact ⟨0, by omega, by omega, fun _ => rfl⟩
    refine ⟨by rw [em]; omega, by rw [em]; omega, ?_⟩
    rw [em, Int.toNat_natCast]
    refine for_range (n := m) (fun i σ H3 => ∃ (y4 y5 y6 : Option V) (xs : List Int), σ = [some (.ref d), some (.ref o), some (.ref l), some (.int (w1 % 3)), y4, y5, y6] ∧ IsOrd n xs ∧ H3 l = some (.lst (xs.map V.int)) ∧ DqAt H3 d ∧ KeepD d H H3)
      ⟨none, none, none, ns, rfl, ho, hl2, D2, kk2⟩ (fun i σ H3 hi hP => ?_) (fun σ H3 hP => ?_)
    · obtain ⟨y4, y5, y6, xs, rfl, o3, hl3, D3, k3⟩ := hP
      have hxl := o3.len
      have hn : 2 ≤ n := by
        by_cases c : n = 1
        · have := hm.2 c
          omega
        · omega
      have hxm : (xs.map V.int).length = n := by rw [List.length_map]; exact hxl
      refine ⟨_, rfl, d, rfl, D3, fun v1 H4 _ _ D4 k4 => ?_⟩
      have hl4 := k4 l _ hl3 nf
      refine ⟨_, rfl, l, _, rfl, .inl (SqL.of hl4), _, 1, rfl, rfl, v1, _, rfl, rfl, by rw [hxm]; omega, ?_⟩
      obtain ⟨p, ep, hp⟩ : ∃ p : Nat, v1 % ((((xs.map V.int).length : Nat) : Int) - 1) = (p : Int) ∧ p + 1 < n := by
        rw [hxm]
        have h1 := mod_b v1 (m := (n : Int) - 1) (by omega)
        exact ⟨(v1 % ((n : Int) - 1)).toNat, by omega, by omega⟩
      show gName 5 (V.int (v1 % ((((xs.map V.int).length : Nat) : Int) - 1))) _ _ _
      rw [ep]
      refine ⟨_, rfl, (p : Int), 1, rfl, rfl, _, rfl, d, rfl, D4, fun v2 H5 _ _ D5 k5 => ?_⟩
      have hl5 := k5 l _ hl4 nf
      refine ⟨_, rfl, l, _, rfl, .inl (SqL.of hl5), v2, _, rfl, rfl, by rw [hxm]; omega, ?_⟩
      obtain ⟨u, eu, hu⟩ : ∃ u : Nat, v2 % (((xs.map V.int).length : Nat) : Int) = (u : Int) ∧ u < n := by
        rw [hxm]
        have h1 := mod_b v2 (m := (n : Int)) (by omega)
        exact ⟨(v2 % (n : Int)).toNat, by omega, by omega⟩
      refine ⟨_, rfl, (p : Int), 1, rfl, rfl, line_small (by show 3 ≤ 16777216; decide), fun t2 nt2 => ?_⟩
      have s6 := same_new (o := .lst [.int ((p : Int) + 1), .int (v2 % (((xs.map V.int).length : Nat) : Int)), .int ((p : Int) + 1)]) nt2
      have hl6 := s6 _ _ hl5
      obtain ⟨z, ez, hz⟩ : ∃ z : Nat, atI [V.int ((p : Int) + 1), V.int (v2 % (((xs.map V.int).length : Nat) : Int)), V.int ((p : Int) + 1)] (w1 % 3) = some (.int z) ∧ z < n := by
        have : w1 % 3 = 0 ∨ w1 % 3 = 1 ∨ w1 % 3 = 2 := by omega
        rcases this with h | h | h <;> rw [h, eu]
        · exact ⟨p + 1, rfl, hp⟩
        · exact ⟨u, rfl, hu⟩
        · exact ⟨p + 1, rfl, hp⟩
      refine ⟨_, rfl, t2, _, _, _, rfl, rfl, SqL.of upd_same, ez, ?_⟩
      obtain ⟨a, ea⟩ : ∃ a, xs[p]? = some a := ⟨xs[p]'(by omega), List.getElem?_eq_getElem (by omega)⟩
      obtain ⟨b, eb⟩ : ∃ b, xs[z]? = some b := ⟨xs[z]'(by omega), List.getElem?_eq_getElem (by omega)⟩
      have D6 := D5.new (o := .lst [.int ((p : Int) + 1), .int (v2 % (((xs.map V.int).length : Nat) : Int)), .int ((p : Int) + 1)]) nt2
      have k6 : KeepD d H (upd H5 t2 (.lst [.int ((p : Int) + 1), .int (v2 % (((xs.map V.int).length : Nat) : Int)), .int ((p : Int) + 1)])) := ((k3.trans k4).trans k5).trans (KeepD.of_same s6)
      generalize upd H5 t2 (.lst [.int ((p : Int) + 1), .int (v2 % (((xs.map V.int).length : Nat) : Int)), .int ((p : Int) + 1)]) = H6 at hl6 D6 k6 ⊢
      refine ⟨_, rfl, _, 2, rfl, rfl, _, rfl, ite2 (fun _ => ?_) (fun _ => ?_)⟩
      · refine ⟨_, rfl, _, rfl, l, _, _, _, rfl, rfl, SqL.of hl6, at_of (j := z) rfl (int_at eb), _, rfl, _, rfl, l, _, _, _, rfl, rfl, SqL.of hl6, at_of (j := p) rfl (int_at ea), line_small (by show 2 ≤ 16777216; decide), fun t3 nt3 => ?_⟩
        have hl7 := same_new (o := .tup [.int b, .int a]) nt3 _ _ hl6
        refine ⟨t3, _, rfl, .inl (.inl upd_same), rfl, _, _, rfl, _, rfl, _, rfl, l, _, _, p, rfl, rfl, hl7, ix_n rfl (by rw [List.length_map]; omega), ?_⟩
        refine ⟨_, _, rfl, _, rfl, _, rfl, l, _, _, z, rfl, rfl, upd_same, ix_n rfl (by rw [List.length_set, List.length_map]; omega), ?_⟩
        refine ⟨rfl, _, _, _, (xs.set p b).set z a, rfl, (set2_perm ea eb).trans o3, by rw [upd_same, set2_V], ((D6.new nt3).upd nf).upd nf, fun c x e f => ?_⟩
        have nc : c ≠ l := ne_of_none e nl
        rw [upd_ne nc, upd_ne nc]
        exact same_new nt3 _ _ (k6 c x e f)
      · refine ⟨_, rfl, .inl ⟨rfl, _, SqL.of hl6⟩, _, rfl, d, rfl, D6, fun v3 H7 _ _ D7 k7 => ?_⟩
        have hl7 := k7 l _ hl6 nf
        refine ⟨_, rfl, l, _, rfl, .inl (SqL.of hl7), v3, _, rfl, rfl, by rw [hxm]; omega, ?_⟩
        obtain ⟨y, ey, hy⟩ : ∃ y : Nat, v3 % (((xs.map V.int).length : Nat) : Int) = (y : Int) ∧ y < n := by
          rw [hxm]
          have h1 := mod_b v3 (m := (n : Int)) (by omega)
          exact ⟨(v3 % (n : Int)).toNat, by omega, by omega⟩
        refine ⟨_, rfl, .inl ⟨rfl, _, SqL.of hl7⟩, _, rfl, l, _, _, p, _, rfl, rfl, hl7, by omega, by omega, seq_ix rfl (by rw [hxm]; omega), int_at ea, ?_⟩
        refine ⟨l, _, _, _, rfl, rfl, upd_same, line_lt (by rw [map_erase, List.length_map, List.length_eraseIdx, hxl]; split <;> omega), by rw [ey]; omega, by rw [ey]; omega, ?_⟩
        refine ⟨_, _, _, (xs.eraseIdx p).take y ++ [a] ++ (xs.eraseIdx p).drop y, rfl, ((ins_perm _ _ _).trans (pop_perm ea)).trans o3, ?_, (D7.upd nf).upd nf, fun c x e f => ?_⟩
        · rw [upd_same, map_erase, List.map_append, List.map_append, List.map_take, List.map_drop, ey, Int.toNat_natCast]
          rfl
        · have nc : c ≠ l := ne_of_none e nl
          rw [upd_ne nc, upd_ne nc]
          exact k7 c x (k6 c x e f) f
    · obtain ⟨y4, y5, y6, xs, rfl, o3, hl3, D3, k3⟩ := hP
      exact ⟨_, rfl, q xs l H3 o3 nl hl3 nf D3 k3⟩
end
end Fo
namespace Fo
open PySem PySem.Spec PyProof.Rows L2
theorem lc_zipL {K : PySem.W.Frag} {a b : Addr} {xs ys : List V} {g : TG} {tt : TT} {te : TE} {vs : List Nat} {σ : L2.St} {H1 : Hp} {D : Addr} {Qd : Hp → Prop} (hlen : xs.length = ys.length) (Pv : Nat → Hp → Prop) (h0 : Pv 0 (upd H1 D (.lst []))) (hl : ∀ i H, i ≤ xs.length → Pv i H → SqL K H a xs ∧ SqL K H b ys)
    (hs : ∀ (i : Nat) (x y : V) (T : Addr) (H : Hp), xs[i]? = some x → ys[i]? = some y → Pv i H → H T = none → g (.ref T) (wipe σ vs) (upd H T (.tup [x, y])) fun σ2 H2 => wipe σ2 vs = wipe σ vs ∧ tt σ2 H2 fun b H3 =>
      if b = true then te σ2 H3 fun y H4 => ∃ acc, H4 D = some (.lst acc) ∧ acc.length < sizeLine ∧ Pv (i + 1) (upd H4 D (.lst (acc ++ [y]))) else Pv (i + 1) H3) (hd : ∀ H, Pv xs.length H → Qd H) :
    ∃ W : Nat → Nat → Hp → Prop, (∃ m, W 0 m (upd H1 D (.lst []))) ∧ ∀ i m H, W i m H →
      ((Itz K a b).stop i H ∧ Qd H) ∨ ((Itz K a b).go i H ∧ ∃ Nx : Hp → Prop, (∀ H', Nx H' → ∃ m', m' < m ∧ W (i + 1) m' H') ∧ ∀ x H', (Itz K a b).yld i H x H' → g x (wipe σ vs) H' fun σ2 H2 => wipe σ2 vs = wipe σ vs ∧ tt σ2 H2 fun b H3 =>
        if b = true then te σ2 H3 fun y H4 => ∃ acc, H4 D = some (.lst acc) ∧ acc.length < sizeLine ∧ Nx (upd H4 D (.lst (acc ++ [y]))) else Nx H3) := by
  refine ⟨fun i m H => m = xs.length - i ∧ i ≤ xs.length ∧ Pv i H, ⟨xs.length, by simp, Nat.zero_le _, h0⟩, ?_⟩
  rintro i m H ⟨rfl, hi, p⟩
  obtain ⟨q1, q2⟩ := hl i H hi p
  by_cases hlt : i < xs.length
  · refine .inr ⟨⟨xs, ys, xs[i], ys[i], q1, q2, by simp [hlt], List.getElem?_eq_getElem (by omega)⟩, Pv (i + 1), fun H' p' => ⟨xs.length - (i + 1), by omega, rfl, hlt, p'⟩, fun x H' y => ?_⟩
    obtain ⟨T, x', y', rfl, hT, rfl, f1, f2⟩ := y
    exact hs i x' y' T H (f1 xs q1) (f2 ys q2) p hT
  · have e : i = xs.length := by omega
    subst e
    exact .inl ⟨⟨xs, ys, q1, q2, .inl (Nat.le_refl _)⟩, hd H p⟩
end Fo
namespace Fo
open PySem PySem.Spec PyProof.Rows L2
/-- a list of orders of n things -/
structure OL (H : Hp) (l : Addr) (as : List Addr) (rs : List (List Int)) (n : Nat) : Prop where
  top : H l = some (.lst (as.map V.ref))
  ll : LL H as rs
  ord : ∀ r ∈ rs, IsOrd n r
  n1 : 1 ≤ n
  n2 : n ≤ 12
theorem OL.same {H H' : Hp} {l : Addr} {as : List Addr} {rs : List (List Int)} {n : Nat} (h : OL H l as rs n) (s : Same H H') : OL H' l as rs n := ⟨s _ _ h.top, h.ll.same s, h.ord, h.n1, h.n2⟩
theorem OL.keepD {H H' : Hp} {l d : Addr} {as : List Addr} {rs : List (List Int)} {n : Nat} (h : OL H l as rs n) (s : KeepD d H H') (nl : l ≠ d) (na : d ∉ as) : OL H' l as rs n :=
  ⟨s _ _ h.top nl, h.ll.keep fun a ha o e => s a o e (fun q => na (by rw [← q]; exact ha)), h.ord, h.n1, h.n2⟩
end Fo
namespace Fo
open PySem PySem.Spec PyProof.Rows L2
def spOLst : Sp := fun vs H Q _ => ∃ (l : Addr) (as : List Addr) (rs : List (List Int)) (n : Nat), vs = [.ref l] ∧ OL H l as rs n ∧ rs.length ≤ 1000 ∧ ∀ H', Same H H' → Q (.bl true) H'
theorem take_more' {α : Type} {l : List α} {i : Nat} {x : α} (h : l[i]? = some x) : l.take (i + 1) = l.take i ++ [x] := by
  rw [List.take_add_one, h]
  rfl
section
variable {P : Program} {w : World} {K : PySem.W.Frag} {mg : Str → Option Value} {base : Heap}
theorem scOLst : FnScope ["thing", "each", "order"] ["thing"] (defScope s_is_order_list) := ⟨rfl, rfl, rfl, by decide +kernel, rfl, by decide +kernel, by decide +kernel⟩
set_option maxHeartbeats 2000000 in
theorem ok_olst {f f1 : Addr} {fd d1 : FuncData} {k : Nat} (T : Df K mg "is_order_list" s_is_order_list ["thing"] f fd) (T_is_order : Df K mg "is_order" s_is_order ["thing"] f1 d1) (G_is_order : FnOk P w K mg base CX0 k f1 d1 ["thing"] spIsOrd) (B : Bi mg) : FnOk P w K mg base CX0 (k + 1) f fd ["thing"] spOLst := by
  refine T.F.ok scOLst (fun vs H Q E h => ?_) (fun cdv A outer s H vs Q E hr h => ?_)
  · obtain ⟨l, as, rs, n, rfl, _⟩ := h
    rfl
  · obtain ⟨l, as, rs, n, rfl, hO, hlen, q⟩ := h
    have hal := hO.ll.len
    refine ⟨_, 
      (pss_cons (ps_if (PW.pt (pw_or (pt_not (pt_val (pe_callB call_isi (by rfl) B.isinstance (by decide +kernel) (pa_cons (pv 0) (pa_cons (pe_bltn (v := .ty "list") (by rfl) B.list (by decide +kernel) rfl) pa_nil))))) (pw_or1 (pt_not (pt_val (pe_callB (cr_all rfl) (by rfl) B.all (by decide +kernel) (pa_cons (pe_lc (own := [("each", 1)]) (g := (gName 1)) (tt := tYes) (te := (tCall spIsOrd [] E0 (tCons (tVar 1) tNil))) rfl scOLst.nd (pi_list (pv 0)) (blkOk_by (N := ["thing", "each", "order"]) (sc := defScope s_is_order_list) (by decide +kernel)) (fun _ _ _ _ _ => (pg_name (i := 1) scOLst.nd rfl (.inl rfl))) (fun _ _ _ _ _ => pts_nil) (fun _ _ _ _ _ => (pe_call G_is_order hr (by rfl) T_is_order.g T_is_order.F.kp T_is_order.b .nil pass0 (pa_cons (pv 1) pa_nil)))) pa_nil)))))))
        (pss_one (ps_ret pe_bl))
        pss_nil)
      (pss_one (ps_ret (pe_callB (cr_all rfl) (by rfl) B.all (by decide +kernel) (pa_cons (pe_lc (own := [("order", 2)]) (g := (gName 2)) (tt := tYes) (te := (tOp rEq (tCB (rLenS K) (tCons (tVar 2) tNil)) (tCB (rLenS K) (tCons (tOp (rIxL K) (tVar 0) (tC (.int 0))) tNil)))) rfl scOLst.nd (pi_list (pv 0)) (blkOk_by (N := ["thing", "each", "order"]) (sc := defScope s_is_order_list) (by decide +kernel)) (fun _ _ _ _ _ => (pg_name (i := 2) scOLst.nd rfl (.inl rfl))) (fun _ _ _ _ _ => pts_nil) (fun _ _ _ _ _ => (pe_cmpR op_eq (pe_callB call_len_seq (by rfl) B.len PySem.boot_len (pa_cons (pv 2) pa_nil)) (pe_callB call_len_seq (by rfl) B.len PySem.boot_len (pa_cons (pe_ix ix_list (pv 0) pe_int (fun _ _ => rfl)) pa_nil)) (nomark _)))) pa_nil))))), ?_⟩
    refine ⟨_, rfl, _, _, _, _, true, rfl, .ty _, .base (.lst hO.top), kit_ty (by decide +kernel), true, rfl, iteF ?_⟩
    refine ⟨_, rfl, l, rfl, ⟨_, SqL.of hO.top⟩, fun p np => ?_⟩
    refine lc_list (K := K) (a := l) (xs := as.map V.ref) (fun i H3 => H3 p = some (.lst ((List.replicate i true).map V.bl)) ∧ Same H H3) ⟨upd_same, same_new np⟩ (fun i H3 _ hP => SqL.of (hP.2 _ _ hO.top)) (fun i x H3 hx hP => ?_) (fun H3 hP => ?_)
    · obtain ⟨a, ea, rfl⟩ := ref_at_inv hx
      obtain ⟨hp3, sm⟩ := hP
      obtain ⟨r, er, ha⟩ := (hO.ll.same sm).get ea
      refine ⟨rfl, _, rfl, a, n, r, rfl, ha, hO.ord r (List.mem_of_getElem? er), hO.n1, hO.n2, fun H4 s4 => ⟨_, s4 _ _ hp3, line_lt (by
        rw [List.length_map, List.length_replicate]
        have := (List.getElem?_eq_some_iff.mp ea).1
        omega), ?_, fun b o e => ?_⟩⟩
      · rw [upd_same, List.replicate_succ', List.map_append]
        rfl
      · rw [upd_ne (ne_of_none e np)]
        exact s4 _ _ (sm _ _ e)
    · obtain ⟨hp3, sm⟩ := hP
      have h3 := hO.same sm
      refine ⟨p, _, rfl, SqL.of hp3, _, rfl, ?_⟩
      rw [all_true]
      refine iteF ?_
      refine ⟨_, rfl, l, rfl, ⟨_, SqL.of h3.top⟩, fun p2 np2 => ?_⟩
      refine lc_list (K := K) (a := l) (xs := as.map V.ref) (fun i H5 => H5 p2 = some (.lst ((List.replicate i true).map V.bl)) ∧ Same H3 H5) ⟨upd_same, same_new np2⟩ (fun i H5 _ hP => SqL.of (hP.2 _ _ h3.top)) (fun i x H5 hx hP => ?_) (fun H5 hP => ?_)
      · obtain ⟨a, ea, rfl⟩ := ref_at_inv hx
        obtain ⟨hp5, sm5⟩ := hP
        have h5 := h3.same sm5
        obtain ⟨r, er, ha⟩ := h5.ll.get ea
        have hi := (List.getElem?_eq_some_iff.mp ea).1
        obtain ⟨a0, ea0⟩ : ∃ a0, as[0]? = some a0 := ⟨as[0]'(by omega), List.getElem?_eq_getElem (by omega)⟩
        obtain ⟨r0, er0, ha0⟩ := h5.ll.get ea0
        have l1 := (h5.ord r (List.mem_of_getElem? er)).len
        have l2 := (h5.ord r0 (List.mem_of_getElem? er0)).len
        refine ⟨rfl, _, rfl, a, _, rfl, .inl (SqL.of ha), _, rfl, l, _, 0, _, rfl, rfl, SqL.of h5.top, at_of (j := 0) rfl (ref_at ea0), a0, _, rfl, .inl (SqL.of ha0), rfl, ?_⟩
        refine ⟨_, hp5, line_lt (by rw [List.length_map, List.length_replicate]; omega), ?_, fun b o e => ?_⟩
        · rw [upd_same, List.replicate_succ', List.map_append, List.length_map, List.length_map, l1, l2, decide_eq_true rfl]
          rfl
        · rw [upd_ne (ne_of_none e np2)]
          exact sm5 _ _ e
      · obtain ⟨hp5, sm5⟩ := hP
        refine ⟨p2, _, rfl, SqL.of hp5, ?_⟩
        rw [all_true]
        exact q _ (sm.trans sm5)
end
end Fo
namespace Fo
open PySem PySem.Spec PyProof.Rows L2
/-! ### how far, by things -/
theorem sumN_le {l : List Int} {f g : Int → Nat} (h : ∀ x ∈ l, f x ≤ g x) : sumN l f ≤ sumN l g := by
  induction l with
  | nil => exact Nat.le_refl _
  | cons a l ih =>
    rw [sumN_cons, sumN_cons]
    have h1 := h a List.mem_cons_self
    have h2 := ih fun x hx => h x (List.mem_cons_of_mem _ hx)
    omega
theorem sumN_one {l : List Int} {f : Int → Nat} {x : Int} (h : x ∈ l) : f x ≤ sumN l f := by
  induction l with
  | nil => exact absurd h List.not_mem_nil
  | cons a l ih =>
    rw [sumN_cons]
    rcases List.mem_cons.mp h with rfl | h
    · omega
    · have := ih h
      omega
theorem ind_le {a : Bool} {n : Nat} (h : a = true → 1 ≤ n) : ind a ≤ n := by
  unfold ind
  cases a
  · exact Nat.zero_le _
  · exact h rfl
theorem ind_true {a : Bool} (h : a = true) : ind a = 1 := by rw [h]; rfl
theorem g0_seats {n : Nat} {xs ys : List Int} (o : IsOrd n xs) {p : Int} (h : p ∈ rg n) : g0 (seatsL xs ys) p = pos ys (g0 xs p) := by
  have h1 := rg_mem.mp h
  obtain ⟨x, hx, _⟩ := ord_ix o (j := p.toNat) (by omega)
  have e := g0_at hx
  have e2 := g0_at (seats_at (ys := ys) hx)
  rw [Int.toNat_of_nonneg h1.1] at e e2
  rw [e, e2]
def dT (xs ys : List Int) (t u : Int) : Nat := ind (decide (pos xs t < pos xs u) && decide (pos ys u < pos ys t))
def swT (n : Nat) (xs ys : List Int) : Nat := sumN (rg n) fun t => sumN (rg n) fun u => dT xs ys t u
def spT (n : Nat) (xs ys : List Int) : Nat := sumN (rg n) fun t => ind (!decide (pos xs t = pos ys t))
def shL (n : Nat) (xs ys : List Int) : List Int := (rg n).map fun t => absI (pos xs t - pos ys t)
theorem swap_T {n : Nat} {xs ys : List Int} (ox : IsOrd n xs) (oy : IsOrd n ys) : farSwap xs ys = ((swT n xs ys : Nat) : Int) := by
  unfold farSwap
  rw [inv_eq, seats_len, ox.len]
  unfold invF swT
  congr 1
  rw [sum_pos ox]
  apply sumN_congr
  intro t ht
  rw [sum_pos ox]
  apply sumN_congr
  intro u hu
  unfold dT
  rw [g0_seats ox (pos_in ox ht), g0_seats ox (pos_in ox hu), g0_pos ox ht, g0_pos ox hu]
theorem spot_T {n : Nat} {xs ys : List Int} (ox : IsOrd n xs) (oy : IsOrd n ys) : farSpot xs ys = ((spT n xs ys : Nat) : Int) := by
  unfold farSpot spotL spT
  rw [filter_len, ox.len]
  congr 1
  rw [sum_g0 ox (fun t => ind (!decide (pos xs t = pos ys t)))]
  apply sumN_congr
  intro p hp
  rw [pos_g0 ox hp]
  by_cases c : g0 xs p = g0 ys p
  · rw [decide_eq_true c, c, pos_g0 oy hp, decide_eq_true rfl]
  · have d : ¬ (p = pos ys (g0 xs p)) := fun e => c (by
      have := g0_pos oy (g0_in ox hp)
      rw [← e] at this
      exact this.symm)
    rw [decide_eq_false c, decide_eq_false d]
theorem shift_mem {n : Nat} {xs ys : List Int} (ox : IsOrd n xs) : ∀ g, g ∈ gapsL xs ys ↔ g ∈ shL n xs ys := by
  intro g
  unfold gapsL shL
  rw [ox.len, List.mem_map, List.mem_map]
  constructor
  · rintro ⟨p, hp, rfl⟩
    exact ⟨g0 xs p, g0_in ox hp, by rw [pos_g0 ox hp, g0_seats ox hp]⟩
  · rintro ⟨t, ht, rfl⟩
    exact ⟨pos xs t, pos_in ox ht, by rw [g0_seats ox (pos_in ox ht), g0_pos ox ht]⟩
theorem shift_T {n : Nat} {xs ys : List Int} (ox : IsOrd n xs) (hn : 1 ≤ n) : (∃ t ∈ rg n, farShift xs ys = absI (pos xs t - pos ys t)) ∧ ∀ t ∈ rg n, absI (pos xs t - pos ys t) ≤ farShift xs ys := by
  obtain ⟨h1, h2⟩ := maxL_mem (gaps_nonneg xs ys) (by rw [gaps_len, ox.len]; exact hn)
  constructor
  · obtain ⟨t, ht, e⟩ := List.mem_map.mp ((shift_mem ox _).mp h1)
    exact ⟨t, ht, e.symm⟩
  · intro t ht
    exact h2 _ ((shift_mem ox _).mpr (List.mem_map.mpr ⟨t, ht, rfl⟩))
theorem shift_of {n : Nat} {xs ys : List Int} {m : Int} (ox : IsOrd n xs) (h : ∃ t ∈ rg n, m = absI (pos xs t - pos ys t)) (hle : ∀ t ∈ rg n, absI (pos xs t - pos ys t) ≤ m) : farShift xs ys = m := by
  obtain ⟨t, ht, e⟩ := h
  refine maxL_of (gaps_nonneg xs ys) ((shift_mem ox _).mpr (List.mem_map.mpr ⟨t, ht, e.symm⟩)) fun x hx => ?_
  obtain ⟨u, hu, rfl⟩ := List.mem_map.mp ((shift_mem ox _).mp hx)
  exact hle u hu
/-! ### alike just where 0 -/
theorem invR_zero : ∀ {s : List Int}, invR s = 0 → s.Pairwise (· ≤ ·)
  | [], _ => List.Pairwise.nil
  | x :: r, h => by
    have h' : (r.filter (fun z => decide (z < x))).length + invR r = 0 := h
    refine List.Pairwise.cons (fun z hz => ?_) (invR_zero (by omega))
    have e : r.filter (fun z => decide (z < x)) = [] := List.eq_nil_of_length_eq_zero (by omega)
    have := List.filter_eq_nil_iff.mp e z hz
    simp at this
    exact this
theorem same_of_pos {n : Nat} {xs ys : List Int} (ox : IsOrd n xs) (oy : IsOrd n ys) (h : ∀ p ∈ rg n, pos ys (g0 xs p) = p) : xs = ys := by
  rw [g0_ord ox, g0_ord oy]
  apply List.map_congr_left
  intro p hp
  have e := g0_pos oy (g0_in ox hp)
  rw [h p hp] at e
  exact e.symm
theorem farW_zero {w : Str} {n : Nat} {xs ys : List Int} (hw : IsWay w) (ox : IsOrd n xs) (oy : IsOrd n ys) (hn : 1 ≤ n) (h : farW w xs ys = 0) : xs = ys := by
  rcases hw with rfl | rfl | rfl
  · rw [farW_swap] at h
    unfold farSwap at h
    rw [inv_NR] at h
    have hs := invR_zero (s := seatsL xs ys) (by omega)
    have e := sorted_eq (seats_ord ox oy) hs (rg_sorted n)
    refine same_of_pos ox oy fun p hp => ?_
    rw [← g0_seats ox hp, e]
    have h1 := rg_mem.mp hp
    have z : (rg n)[p.toNat]? = some p := by
      unfold rg
      rw [List.getElem?_map, List.getElem?_range (by omega)]
      show some ((p.toNat : Nat) : Int) = some p
      rw [Int.toNat_of_nonneg h1.1]
    have z2 := g0_at z
    rw [Int.toNat_of_nonneg h1.1] at z2
    exact z2
  · rw [farW_spot] at h
    unfold farSpot spotL at h
    have e : ((rg xs.length).filter fun p => !decide (g0 xs p = g0 ys p)) = [] := List.eq_nil_of_length_eq_zero (by omega)
    rw [g0_ord ox, g0_ord oy]
    apply List.map_congr_left
    intro p hp
    have := List.filter_eq_nil_iff.mp e p (by rw [ox.len]; exact hp)
    simpa using this
  · rw [farW_shift] at h
    have h2 := (shift_T (ys := ys) ox hn).2
    rw [h] at h2
    refine same_of_pos ox oy fun p hp => ?_
    have := h2 _ (g0_in ox hp)
    rw [pos_g0 ox hp] at this
    unfold absI at this
    split at this <;> omega
/-! ### by a third one never shorter -/
theorem farW_third {w : Str} {n : Nat} {xs ys zs : List Int} (hw : IsWay w) (ox : IsOrd n xs) (oy : IsOrd n ys) (oz : IsOrd n zs) (hn : 1 ≤ n) : farW w xs ys ≤ farW w xs zs + farW w zs ys := by
  rcases hw with rfl | rfl | rfl
  · rw [farW_swap, farW_swap, farW_swap, swap_T ox oy, swap_T ox oz, swap_T oz oy]
    have : swT n xs ys ≤ swT n xs zs + swT n zs ys := by
      unfold swT
      rw [← sumN_add]
      apply sumN_le
      intro t ht
      rw [← sumN_add]
      apply sumN_le
      intro u hu
      unfold dT
      apply ind_le
      intro h
      rw [Bool.and_eq_true] at h
      have h1 := of_decide_eq_true h.1
      have h2 := of_decide_eq_true h.2
      by_cases c : pos zs u < pos zs t
      · rw [ind_true (by rw [decide_eq_true h1, decide_eq_true c]; rfl)]
        omega
      · have ne : pos zs t ≠ pos zs u := fun e => by
          have := pos_inj oz ht hu e
          subst this
          omega
        rw [ind_true (a := decide (pos zs t < pos zs u) && decide (pos ys u < pos ys t)) (by rw [decide_eq_true (show pos zs t < pos zs u by omega), decide_eq_true h2]; rfl)]
        omega
    omega
  · rw [farW_spot, farW_spot, farW_spot, spot_T ox oy, spot_T ox oz, spot_T oz oy]
    have : spT n xs ys ≤ spT n xs zs + spT n zs ys := by
      unfold spT
      rw [← sumN_add]
      apply sumN_le
      intro t _
      apply ind_le
      intro h
      by_cases c : pos xs t = pos zs t
      · have d : ¬ (pos zs t = pos ys t) := fun e => by
          rw [c, e] at h
          simp at h
        rw [ind_true (a := !decide (pos zs t = pos ys t)) (by rw [decide_eq_false d]; rfl)]
        omega
      · rw [ind_true (a := !decide (pos xs t = pos zs t)) (by rw [decide_eq_false c]; rfl)]
        omega
    omega
  · rw [farW_shift, farW_shift, farW_shift]
    obtain ⟨t, ht, e⟩ := (shift_T (ys := ys) ox hn).1
    have h1 := (shift_T (ys := zs) ox hn).2 t ht
    have h2 := (shift_T (ys := ys) oz hn).2 t ht
    rw [e]
    unfold absI at h1 h2 ⊢
    split at h1 <;> split at h2 <;> split <;> omega
/-! ### called otherwise, and from behind -/
/-- two pairs of orders whose things stand alike -/
theorem farW_called {w : Str} {n : Nat} {xs ys xs' ys' : List Int} {r : Int → Int} (hw : IsWay w) (ox : IsOrd n xs) (oy : IsOrd n ys) (ox' : IsOrd n xs') (oy' : IsOrd n ys') (hn : 1 ≤ n) (hr : IsOrd n ((rg n).map r)) (h1 : ∀ t ∈ rg n, pos xs' (r t) = pos xs t) (h2 : ∀ t ∈ rg n, pos ys' (r t) = pos ys t) : farW w xs' ys' = farW w xs ys := by
  have sr : ∀ f : Int → Nat, sumN (rg n) f = sumN (rg n) fun t => f (r t) := fun f => by
    have e : sumN ((rg n).map r) f = sumN (rg n) fun t => f (r t) := sumN_map _ _ _
    rw [← e]
    exact (sumN_perm hr f).symm
  have rin : ∀ t ∈ rg n, r t ∈ rg n := fun t ht => rg_mem.mpr (hr.mem (List.mem_map.mpr ⟨t, ht, rfl⟩))
  have ron : ∀ t' ∈ rg n, ∃ t ∈ rg n, r t = t' := fun t' ht' => List.mem_map.mp ((List.Perm.mem_iff hr).mpr ht')
  rcases hw with rfl | rfl | rfl
  · rw [farW_swap, farW_swap, swap_T ox' oy', swap_T ox oy]
    congr 1
    unfold swT
    rw [sr]
    apply sumN_congr
    intro t ht
    rw [sr]
    apply sumN_congr
    intro u hu
    unfold dT
    rw [h1 t ht, h1 u hu, h2 t ht, h2 u hu]
  · rw [farW_spot, farW_spot, spot_T ox' oy', spot_T ox oy]
    congr 1
    unfold spT
    rw [sr]
    apply sumN_congr
    intro t ht
    rw [h1 t ht, h2 t ht]
  · rw [farW_shift, farW_shift]
    obtain ⟨⟨t, ht, e⟩, hle⟩ := shift_T (ys := ys) ox hn
    refine shift_of ox' ⟨r t, rin t ht, by rw [h1 t ht, h2 t ht]; exact e⟩ fun t' ht' => ?_
    obtain ⟨u, hu, rfl⟩ := ron t' ht'
    rw [h1 u hu, h2 u hu]
    exact hle u hu
theorem behind_ord {n : Nat} {ns ms : List Int} (o1 : IsOrd n ns) (o2 : IsOrd n ms) : IsOrd n (behindL ns ms) := by
  have h : (behindL ns ms).Perm ((rg n).map (g0 ns)) := List.Perm.map _ o2
  rw [← g0_ord o1] at h
  exact h.trans o1
theorem behind_pos {n : Nat} {zs xs : List Int} (oz : IsOrd n zs) (ox : IsOrd n xs) : ∀ t ∈ rg n, pos (behindL zs xs) (g0 zs t) = pos xs t := by
  intro t ht
  have h1 := rg_mem.mp ht
  obtain ⟨j, _, ej, pj⟩ := pos_at ox h1.1 h1.2
  obtain ⟨z, hz, _⟩ := ord_ix oz (j := t.toNat) (by omega)
  have e := g0_at hz
  rw [Int.toNat_of_nonneg h1.1] at e
  rw [e, pj]
  exact pos_of (behind_ord oz ox) (behind_at ej hz)
theorem rev_pos {n : Nat} {xs : List Int} (ox : IsOrd n xs) : ∀ t ∈ rg n, pos xs.reverse t = (n : Int) - 1 - pos xs t := by
  intro t ht
  have h1 := rg_mem.mp ht
  obtain ⟨j, hj, ej, pj⟩ := pos_at ox h1.1 h1.2
  have hl := ox.len
  have er : xs.reverse[n - 1 - j]? = some t := by
    rw [List.getElem?_reverse (by omega), hl, show n - 1 - (n - 1 - j) = j by omega]
    exact ej
  rw [pj, pos_of (n := n) ((List.reverse_perm xs).trans ox) er]
  omega
theorem farW_rev {w : Str} {n : Nat} {xs ys : List Int} (hw : IsWay w) (ox : IsOrd n xs) (oy : IsOrd n ys) (hn : 1 ≤ n) : farW w xs.reverse ys.reverse = farW w xs ys := by
  have ox' : IsOrd n xs.reverse := (List.reverse_perm xs).trans ox
  have oy' : IsOrd n ys.reverse := (List.reverse_perm ys).trans oy
  rcases hw with rfl | rfl | rfl
  · rw [farW_swap, farW_swap, swap_T ox' oy', swap_T ox oy]
    congr 1
    unfold swT
    rw [sumN_swap]
    apply sumN_congr
    intro t ht
    apply sumN_congr
    intro u hu
    unfold dT
    rw [rev_pos ox u hu, rev_pos ox t ht, rev_pos oy u hu, rev_pos oy t ht]
    congr 1
    congr 1
    · by_cases c : pos xs t < pos xs u
      · rw [decide_eq_true c, decide_eq_true (by omega)]
      · rw [decide_eq_false c, decide_eq_false (by omega)]
    · by_cases c : pos ys u < pos ys t
      · rw [decide_eq_true c, decide_eq_true (by omega)]
      · rw [decide_eq_false c, decide_eq_false (by omega)]
  · rw [farW_spot, farW_spot, spot_T ox' oy', spot_T ox oy]
    congr 1
    unfold spT
    apply sumN_congr
    intro t ht
    rw [rev_pos ox t ht, rev_pos oy t ht]
    by_cases c : pos xs t = pos ys t
    · rw [decide_eq_true c, decide_eq_true (by omega)]
    · rw [decide_eq_false c, decide_eq_false (by omega)]
  · rw [farW_shift, farW_shift]
    have ea : ∀ t ∈ rg n, absI (pos xs.reverse t - pos ys.reverse t) = absI (pos xs t - pos ys t) := fun t ht => by
      rw [rev_pos ox t ht, rev_pos oy t ht]
      unfold absI
      split <;> split <;> omega
    obtain ⟨⟨t, ht, e⟩, hle⟩ := shift_T (ys := ys) ox hn
    exact shift_of ox' ⟨t, ht, by rw [ea t ht]; exact e⟩ fun u hu => by rw [ea u hu]; exact hle u hu
/-! ### how far at most -/
theorem invR_two (s : List Int) : 2 * invR s + s.length ≤ s.length * s.length := by
  induction s with
  | nil => exact Nat.le_refl _
  | cons x r ih =>
    show 2 * ((r.filter _).length + invR r) + (r.length + 1) ≤ (r.length + 1) * (r.length + 1)
    have h1 : (r.filter (fun z => decide (z < x))).length ≤ r.length := List.length_filter_le _ _
    have h2 : (r.length + 1) * (r.length + 1) = r.length * r.length + r.length + r.length + 1 := by
      rw [Nat.add_mul, Nat.mul_add]
      omega
    omega
theorem swap_most {n : Nat} {xs ys : List Int} (ox : IsOrd n xs) : 2 * farSwap xs ys ≤ (n : Int) * ((n : Int) - 1) := by
  unfold farSwap
  rw [inv_NR]
  have h := invR_two (seatsL xs ys)
  rw [seats_len, ox.len] at h
  have e : (n : Int) * ((n : Int) - 1) = ((n * n : Nat) : Int) - (n : Int) := by
    rw [Int.mul_sub, Int.mul_one, Int.natCast_mul]
  rw [e]
  omega
theorem spot_most {n : Nat} {xs ys : List Int} (ox : IsOrd n xs) : farSpot xs ys ≤ n := by
  unfold farSpot spotL
  rw [ox.len]
  have h := List.length_filter_le (fun p => !decide (g0 xs p = g0 ys p)) (rg n)
  rw [rg_len] at h
  omega
theorem spot_one {n : Nat} {xs ys : List Int} (ox : IsOrd n xs) (oy : IsOrd n ys) : farSpot xs ys ≠ 1 := by
  intro h
  unfold farSpot at h
  obtain ⟨p, hp⟩ := List.length_eq_one_iff.mp (show (spotL xs ys).length = 1 by omega)
  have mem : ∀ q, q ∈ spotL xs ys ↔ q ∈ rg n ∧ g0 xs q ≠ g0 ys q := fun q => by
    unfold spotL
    rw [List.mem_filter, ox.len]
    simp
  have hpm := (mem p).mp (by rw [hp]; exact List.mem_cons_self)
  have hq := pos_in oy (g0_in ox hpm.1)
  have e := g0_pos oy (g0_in ox hpm.1)
  have nq : pos ys (g0 xs p) ≠ p := fun z => hpm.2 (by rw [z] at e; exact e.symm)
  have same : g0 xs (pos ys (g0 xs p)) = g0 ys (pos ys (g0 xs p)) := by
    by_cases c : g0 xs (pos ys (g0 xs p)) = g0 ys (pos ys (g0 xs p))
    · exact c
    · have := (mem _).mpr ⟨hq, c⟩
      rw [hp] at this
      exact absurd (List.mem_singleton.mp this) nq
  rw [e] at same
  have e2 := pos_g0 ox hq
  rw [same, pos_g0 ox hpm.1] at e2
  exact nq e2.symm
theorem shift_most {n : Nat} {xs ys : List Int} (ox : IsOrd n xs) (oy : IsOrd n ys) (hn : 1 ≤ n) : farShift xs ys ≤ (n : Int) - 1 := by
  obtain ⟨t, ht, e⟩ := (shift_T (ys := ys) ox hn).1
  have h1 := rg_mem.mp (pos_in ox ht)
  have h2 := rg_mem.mp (pos_in oy ht)
  rw [e]
  unfold absI
  split <;> omega
theorem below_sum (n : Nat) : ∀ b : Nat, b ≤ n → sumN (rg n) (fun j => ind (decide (j < (b : Int)))) = b := by
  induction n with
  | zero => intro b hb; have : b = 0 := by omega
            subst this; rfl
  | succ n ih =>
    intro b hb
    rw [rg_succ, sumN_append, sumN_cons, sumN_nil]
    by_cases c : b = n + 1
    · subst c
      rw [sumN_congr (g := fun j => ind (decide (j < (n : Int)))) (fun j hj => by
        have := rg_mem.mp hj
        rw [decide_eq_true this.2, decide_eq_true (show j < ((n + 1 : Nat) : Int) by omega)]), ih n (Nat.le_refl _), ind_true (decide_eq_true (by omega))]
    · rw [ih b (by omega), decide_eq_false (show ¬ ((n : Int) < (b : Int)) by omega)]
      rfl
/-- so many others stand the other way round as a thing is shifted -/
theorem turned_most {n : Nat} {xs ys : List Int} (ox : IsOrd n xs) (oy : IsOrd n ys) {t : Int} (ht : t ∈ rg n) : pos ys t - pos xs t ≤ ((sumN (rg n) (fun u => dT xs ys t u) : Nat) : Int) := by
  have h1 := rg_mem.mp (pos_in ox ht)
  have h2 := rg_mem.mp (pos_in oy ht)
  have ea := below_sum n (pos xs t).toNat (by omega)
  have eb := below_sum n (pos ys t).toNat (by omega)
  rw [sum_pos ox] at ea
  rw [sum_pos oy] at eb
  rw [Int.toNat_of_nonneg h1.1] at ea
  rw [Int.toNat_of_nonneg h2.1] at eb
  have : sumN (rg n) (fun u => ind (decide (pos ys u < pos ys t))) ≤ sumN (rg n) (fun u => ind (decide (pos xs u < pos xs t))) + sumN (rg n) (fun u => dT xs ys t u) := by
    rw [← sumN_add]
    apply sumN_le
    intro u hu
    apply ind_le
    intro h
    have hlt := of_decide_eq_true h
    by_cases c : pos xs u < pos xs t
    · rw [ind_true (decide_eq_true c)]
      omega
    · have ne : pos xs t ≠ pos xs u := fun e => by
        have := pos_inj ox ht hu e
        subst this
        omega
      unfold dT
      rw [ind_true (a := decide (pos xs t < pos xs u) && decide (pos ys u < pos ys t)) (by rw [decide_eq_true (show pos xs t < pos xs u by omega), decide_eq_true hlt]; rfl)]
      omega
  omega
theorem dT_turn (xs ys : List Int) (t u : Int) : dT ys xs t u = dT xs ys u t := by
  unfold dT
  rw [Bool.and_comm]
theorem turned_abs {n : Nat} {xs ys : List Int} (ox : IsOrd n xs) (oy : IsOrd n ys) {t : Int} (ht : t ∈ rg n) : absI (pos xs t - pos ys t) ≤ ((sumN (rg n) (fun u => dT xs ys t u) : Nat) : Int) + ((sumN (rg n) (fun u => dT xs ys u t) : Nat) : Int) := by
  have h1 := turned_most ox oy ht
  have h2 := turned_most oy ox ht
  rw [sumN_congr (g := fun u => dT xs ys u t) (fun u _ => dT_turn xs ys t u)] at h2
  unfold absI
  split <;> omega
theorem shift_swap {n : Nat} {xs ys : List Int} (ox : IsOrd n xs) (oy : IsOrd n ys) (hn : 1 ≤ n) : farShift xs ys ≤ farSwap xs ys := by
  obtain ⟨t, ht, e⟩ := (shift_T (ys := ys) ox hn).1
  have h1 := turned_most ox oy ht
  have h2 := turned_most oy ox ht
  have b1 : sumN (rg n) (fun u => dT xs ys t u) ≤ swT n xs ys := sumN_one (f := fun t => sumN (rg n) fun u => dT xs ys t u) ht
  have b2 : sumN (rg n) (fun u => dT ys xs t u) ≤ swT n ys xs := sumN_one (f := fun t => sumN (rg n) fun u => dT ys xs t u) ht
  have e1 := swap_T ox oy
  have e2 := swap_T oy ox
  have e3 := farSwap_turn ox oy
  rw [e]
  unfold absI
  split <;> omega
theorem spot_swap {n : Nat} {xs ys : List Int} (ox : IsOrd n xs) (oy : IsOrd n ys) : farSpot xs ys ≤ 2 * farSwap xs ys := by
  rw [spot_T ox oy, swap_T ox oy]
  have : spT n xs ys ≤ swT n xs ys + swT n xs ys := by
    have e : swT n xs ys = sumN (rg n) fun t => sumN (rg n) fun u => dT xs ys u t := by
      unfold swT
      rw [sumN_swap]
    have e2 : swT n xs ys + swT n xs ys = sumN (rg n) fun t => sumN (rg n) (fun u => dT xs ys t u) + sumN (rg n) (fun u => dT xs ys u t) := by
      rw [sumN_add, ← e]
      rfl
    rw [e2]
    unfold spT
    apply sumN_le
    intro t ht
    apply ind_le
    intro h
    have ha := turned_abs ox oy ht
    have ne : ¬ (pos xs t = pos ys t) := fun z => by
      rw [z] at h
      simp at h
    unfold absI at ha
    split at ha <;> omega
  omega
/-! ### backs -/
theorem back_list {n : Nat} {ns ps : List Int} (o : IsOrd n ns) (h : IsBack ns ps) : ps = (rg n).map (pos ns) := by
  apply List.ext_getElem?
  intro t
  by_cases c : t < n
  · have e := back_pos o h (x := (t : Int)) (by omega) (by omega)
    rw [Int.toNat_natCast] at e
    rw [e]
    unfold rg
    rw [List.map_map, List.getElem?_map, List.getElem?_range c]
    rfl
  · rw [List.getElem?_eq_none (by rw [h.1, o.len]; omega), List.getElem?_eq_none (by rw [List.length_map, rg_len]; omega)]
theorem back_ord {n : Nat} {ns ps : List Int} (o : IsOrd n ns) (h : IsBack ns ps) : IsOrd n ps := by
  rw [back_list o h]
  exact pos_ord o
theorem back_g0 {n : Nat} {ns ps : List Int} (o : IsOrd n ns) (h : IsBack ns ps) : ∀ t ∈ rg n, g0 ps t = pos ns t := by
  intro t ht
  have h1 := rg_mem.mp ht
  have e := g0_at (back_pos o h h1.1 h1.2)
  rw [Int.toNat_of_nonneg h1.1] at e
  exact e
theorem back_back {n : Nat} {ns ps : List Int} (o : IsOrd n ns) (h : IsBack ns ps) : IsBack ps ns := by
  refine ⟨h.1.symm, fun j x hx => ?_⟩
  have hj := (List.getElem?_eq_some_iff.mp hx).1
  rw [h.1, o.len] at hj
  obtain ⟨i, hi, ei, pi⟩ := pos_at o (x := (j : Int)) (by omega) (by omega)
  have e := back_pos o h (x := (j : Int)) (by omega) (by omega)
  rw [Int.toNat_natCast, hx] at e
  have ex : x = (i : Int) := (Option.some.inj e).trans pi
  rw [ex, Int.toNat_natCast]
  exact ei
theorem spot_back {n : Nat} {xs ys ps qs : List Int} (ox : IsOrd n xs) (oy : IsOrd n ys) (hp : IsBack xs ps) (hq : IsBack ys qs) : farSpot ps qs = farSpot xs ys := by
  rw [spot_T ox oy]
  unfold farSpot spotL spT
  rw [filter_len, hp.1, ox.len]
  congr 1
  apply sumN_congr
  intro t ht
  rw [back_g0 ox hp t ht, back_g0 oy hq t ht]
theorem behind_back {n : Nat} {xs ps : List Int} (ox : IsOrd n xs) (hp : IsBack xs ps) : behindL xs ps = rg n := by
  rw [back_list ox hp]
  unfold behindL
  rw [List.map_map]
  have e : (rg n).map ((fun p => xs.getD p.toNat 0) ∘ pos xs) = (rg n).map (fun t => t) := List.map_congr_left fun t ht => g0_pos ox ht
  rw [e, List.map_id']
theorem behind_assoc {n : Nat} {xs ys zs : List Int} (ox : IsOrd n xs) (oy : IsOrd n ys) (oz : IsOrd n zs) : behindL (behindL xs ys) zs = behindL xs (behindL ys zs) := by
  apply List.ext_getElem?
  intro i
  by_cases c : i < n
  · obtain ⟨z, hz, z0, z1⟩ := ord_ix oz c
    obtain ⟨y, hy, y0, y1⟩ := ord_ix oy (j := z.toNat) (by omega)
    obtain ⟨x, hx, _⟩ := ord_ix ox (j := y.toNat) (by omega)
    rw [behind_at hz (behind_at hy hx), behind_at (behind_at hz hy) hx]
  · rw [List.getElem?_eq_none (by rw [behind_len, oz.len]; omega), List.getElem?_eq_none (by rw [behind_len, behind_len, oz.len]; omega)]
end Fo
namespace Fo
open PySem PySem.Spec PyProof.Rows L2
/-! a Lister between two calls -/
/-- rows that stand: where each one is, and what it holds -/
def RP (H : Hp) (t : Addr) (ps : List (Addr × List Int)) : Prop := H t = some (.lst (ps.map fun p => V.ref p.1)) ∧ ∀ p ∈ ps, H p.1 = some (.lst (p.2.map V.int))
abbrev rws (ps : List (Addr × List Int)) : List (List Int) := ps.map (·.2)
theorem RP.same {H H' : Hp} {t : Addr} {ps : List (Addr × List Int)} (h : RP H t ps) (s : Same H H') : RP H' t ps := ⟨s _ _ h.1, fun p hp => s _ _ (h.2 p hp)⟩
def fldsL (w : Str) (n d : Int) (t e : Addr) : List (Str × V) := [("way", .str w), ("n", .int n), ("d", .int d), ("taken", .ref t), ("earlier", .ref e)]
theorem n_wn : (("n" : Str) == "way") = false := by decide +kernel
theorem n_wd : (("d" : Str) == "way") = false := by decide +kernel
theorem n_nd : (("d" : Str) == "n") = false := by decide +kernel
theorem n_wt : (("taken" : Str) == "way") = false := by decide +kernel
theorem n_nt : (("taken" : Str) == "n") = false := by decide +kernel
theorem n_dt : (("taken" : Str) == "d") = false := by decide +kernel
theorem n_we : (("earlier" : Str) == "way") = false := by decide +kernel
theorem n_ne : (("earlier" : Str) == "n") = false := by decide +kernel
theorem n_de : (("earlier" : Str) == "d") = false := by decide +kernel
theorem n_te : (("earlier" : Str) == "taken") = false := by decide +kernel
section
variable {w : Str} {n d : Int} {t e t' : Addr}
theorem fl_w : (fldsL w n d t e).lookup ("way" : Str) = some (V.str w) := by unfold fldsL; rw [List.lookup_cons_self]
theorem fl_n : (fldsL w n d t e).lookup ("n" : Str) = some (V.int n) := by unfold fldsL; rw [List.lookup_cons, n_wn, List.lookup_cons_self]
theorem fl_d : (fldsL w n d t e).lookup ("d" : Str) = some (V.int d) := by unfold fldsL; rw [List.lookup_cons, n_wd, List.lookup_cons, n_nd, List.lookup_cons_self]
theorem fl_t : (fldsL w n d t e).lookup ("taken" : Str) = some (V.ref t) := by unfold fldsL; rw [List.lookup_cons, n_wt, List.lookup_cons, n_nt, List.lookup_cons, n_dt, List.lookup_cons_self]
theorem fl_e : (fldsL w n d t e).lookup ("earlier" : Str) = some (V.ref e) := by unfold fldsL; rw [List.lookup_cons, n_we, List.lookup_cons, n_ne, List.lookup_cons, n_de, List.lookup_cons, n_te, List.lookup_cons_self]
theorem fl_no {m : Str} (h1 : (m == "way") = false) (h2 : (m == "n") = false) (h3 : (m == "d") = false) (h4 : (m == "taken") = false) (h5 : (m == "earlier") = false) : (fldsL w n d t e).lookup m = none := by
  unfold fldsL
  rw [List.lookup_cons, h1, List.lookup_cons, h2, List.lookup_cons, h3, List.lookup_cons, h4, List.lookup_cons, h5]
  rfl
end
/-- a Lister at a, its stack at e: rs its orders, ss those ahead of them, the last at the end -/
structure LsAt (C : Addr) (H : Hp) (a e : Addr) (X : List Addr) (w : Str) (n : Nat) (d : Int) (rs : List (List Int)) (ss : List (List (List Int))) : Prop where
  ex : ∃ (dx t : Addr) (ps : List (Addr × List Int)) (st : List (Addr × List (Addr × List Int))), H a = some (.ins C dx (fldsL w n d t e)) ∧ H e = some (.lst (st.map fun q => V.ref q.1)) ∧ RP H t ps ∧ rws ps = rs ∧ (∀ q ∈ st, RP H q.1 q.2) ∧ st.map (fun q => rws q.2) = ss ∧
    e ∈ X ∧ t ∉ X ∧ (∀ p ∈ ps, p.1 ∉ X) ∧ ∀ q ∈ st, q.1 ∉ X ∧ ∀ p ∈ q.2, p.1 ∉ X
  tr : ∀ x ∈ X, ∃ o, H x = some o
  wy : IsWay w
  n1 : 1 ≤ n
  n2 : n ≤ 8
  d1 : 1 ≤ d
  ord : ∀ r ∈ rs, IsOrd n r
  ords : ∀ s ∈ ss, ∀ r ∈ s, IsOrd n r
/-- what stays while a Lister is changed -/
def KpL (a e : Addr) (H H' : Hp) : Prop := ∀ b o, H b = some o → b ≠ a → b ≠ e → H' b = some o
theorem KpL.of_same {a e : Addr} {H H' : Hp} (s : Same H H') : KpL a e H H' := fun b o h _ _ => s b o h
theorem KpL.trans {a e : Addr} {H H1 H2 : Hp} (k : KpL a e H H1) (l : KpL a e H1 H2) : KpL a e H H2 := fun b o h n1 n2 => l b o (k b o h n1 n2) n1 n2
theorem LsAt.same {C : Addr} {H H' : Hp} {a e : Addr} {X : List Addr} {w : Str} {n : Nat} {d : Int} {rs : List (List Int)} {ss : List (List (List Int))} (h : LsAt C H a e X w n d rs ss) (s : Same H H') : LsAt C H' a e X w n d rs ss := by
  obtain ⟨⟨dx, t, ps, st, e1, e2, e3, e4, e5, e6, e7⟩, tr, r⟩ := h
  exact ⟨⟨dx, t, ps, st, s _ _ e1, s _ _ e2, e3.same s, e4, fun q hq => (e5 q hq).same s, e6, e7⟩, fun x hx => (tr x hx).imp fun o h => s _ _ h, by assumption, by assumption, by assumption, by assumption, by assumption, by assumption⟩
/-- the class, as the top has made it -/
structure TxL (K : PySem.W.Frag) (mg : Str → Option Value) (C fI : Addr) : Prop where
  cl : Cls K C
  mkx : Mk K C fI
  g : mg "Lister" = some (.ref C)
  nW : NoAttr K C "way"
  nN : NoAttr K C "n"
  nD : NoAttr K C "d"
  nT : NoAttr K C "taken"
  nE : NoAttr K C "earlier"
theorem ka : ¬ (("way" : Str) = "n") ∧ ¬ (("way" : Str) = "d") ∧ ¬ (("way" : Str) = "taken") ∧ ¬ (("way" : Str) = "earlier") ∧ ¬ (("n" : Str) = "d") ∧ ¬ (("n" : Str) = "taken") ∧ ¬ (("n" : Str) = "earlier") ∧ ¬ (("d" : Str) = "taken") ∧ ¬ (("d" : Str) = "earlier") ∧ ¬ (("taken" : Str) = "earlier") := by decide +kernel
theorem put_t (w : Str) (n d : Int) (t e t' : Addr) : putF "taken" (.ref t') (fldsL w n d t e) = fldsL w n d t' e := by
  obtain ⟨-, -, k1, -, -, k2, -, k3, -, -⟩ := ka
  unfold fldsL
  rw [putF, if_neg k1, putF, if_neg k2, putF, if_neg k3, putF, if_pos rfl]
theorem pl {f : Str} {v : V} : ∀ {fs : List (Str × V)} {n : Nat}, fs.length ≤ n → (putF f v fs).length ≤ n + 1
  | [], _, _ => Nat.succ_le_succ (Nat.zero_le _)
  | p :: fs, n, h => by
    unfold putF
    split
    · exact Nat.le_succ_of_le h
    · exact Nat.succ_le_succ (by cases n with | zero => exact absurd h (Nat.not_succ_le_zero _) | succ n => exact pl (Nat.le_of_succ_le_succ h))
theorem put_init (w : Str) (n d : Int) (t e : Addr) : putF "earlier" (.ref e) (putF "taken" (.ref t) (putF "d" (.int d) (putF "n" (.int n) (putF "way" (.str w) [])))) = fldsL w n d t e := by
  obtain ⟨k1, k2, k3, k4, k5, k6, k7, k8, k9, k10⟩ := ka
  unfold fldsL
  simp only [putF, if_neg k1, if_neg k2, if_neg k3, if_neg k4, if_neg k5, if_neg k6, if_neg k7, if_neg k8, if_neg k9, if_neg k10]
theorem RP.kpl {C dx : Addr} {fs : List (Str × V)} {a e t : Addr} {ps : List (Addr × List Int)} {H H' : Hp} (h : RP H t ps) (k : KpL a e H H') (ha : H a = some (.ins C dx fs)) (nt : t ≠ e) (np : ∀ p ∈ ps, p.1 ≠ e) : RP H' t ps :=
  ⟨k _ _ h.1 (ne_of h.1 ha (by intro z; cases z)) nt, fun p hp => k _ _ (h.2 p hp) (ne_of (h.2 p hp) ha (by intro z; cases z)) (np p hp)⟩
theorem RP.at {H : Hp} {t : Addr} {ps : List (Addr × List Int)} (h : RP H t ps) {i : Nat} {x : V} (hx : (ps.map fun p => V.ref p.1)[i]? = some x) : ∃ p, ps[i]? = some p ∧ x = .ref p.1 ∧ H p.1 = some (.lst (p.2.map V.int)) := by
  rw [List.getElem?_map] at hx
  cases e : ps[i]? with
  | none => rw [e] at hx; cases hx
  | some p => rw [e] at hx; exact ⟨p, rfl, (Option.some.inj hx).symm, h.2 p (List.mem_of_getElem? e)⟩
theorem rp_dps {K : PySem.W.Frag} {H : Hp} : ∀ {ps : List (Addr × List Int)}, (∀ p ∈ ps, H p.1 = some (.lst (p.2.map V.int))) → DpAll K H (ps.map fun p => V.ref p.1) ((rws ps).map dL)
  | [], _ => .nil
  | p :: ps, h => .cons (dp_list (h p List.mem_cons_self)) (rp_dps fun q hq => h q (List.mem_cons_of_mem _ hq))
theorem RP.dp {K : PySem.W.Frag} {H : Hp} {t : Addr} {ps : List (Addr × List Int)} (h : RP H t ps) : Dp K H (.ref t) (dLL (rws ps)) := .lst (SqL.of h.1) (rp_dps h.2)
theorem rws_at {ps : List (Addr × List Int)} {i : Nat} {p : Addr × List Int} (h : ps[i]? = some p) : (rws ps)[i]? = some p.2 := by rw [List.getElem?_map, h]; rfl
theorem take_p {α : Type} {ps : List α} {i : Nat} {p : α} (h : ps[i]? = some p) : ps.take (i + 1) = ps.take i ++ [p] := by rw [List.take_add_one, h]; rfl
theorem filter_p {α : Type} {ps : List α} {i : Nat} {p : α} (f : α → Bool) (h : ps[i]? = some p) : (ps.take (i + 1)).filter f = (ps.take i).filter f ++ (if f p = true then [p] else []) := by
  rw [take_p h, List.filter_append]
  show _ ++ List.filter f [p] = _
  rw [List.filter_cons]
  rfl
theorem trK {a e : Addr} {X : List Addr} {H H' : Hp} {o1 o2 : HO} (tr : ∀ x ∈ X, ∃ o, H x = some o) (k : KpL a e H H') (h1 : H' a = some o1) (h2 : H' e = some o2) : ∀ x ∈ X, ∃ o, H' x = some o := fun x hx => by
  obtain ⟨o, h⟩ := tr x hx
  by_cases c : x = a
  · exact ⟨o1, c ▸ h1⟩
  · by_cases c2 : x = e
    · exact ⟨o2, c2 ▸ h2⟩
    · exact ⟨o, k x o h c c2⟩
theorem LsAt.growL {C : Addr} {H H' : Hp} {a e : Addr} {X ys : List Addr} {w : Str} {n : Nat} {d : Int} {rs : List (List Int)} {ss : List (List (List Int))} (L : LsAt C H a e X w n d rs ss) (s : Same H H') (ny : ∀ y ∈ ys, H y = none ∧ ∃ o, H' y = some o) : LsAt C H' a e (ys ++ X) w n d rs ss := by
  obtain ⟨⟨dx, t, ps, st, e1, e2, e3, e4, e5, e6, eX, tX, pX, sX⟩, tr, r⟩ := L
  have ne : ∀ {b : Addr} {o : HO}, H b = some o → b ∉ X → b ∉ ys ++ X := fun {b o} h1 h2 z => by
    rcases List.mem_append.mp z with z | z
    · rw [(ny b z).1] at h1
      cases h1
    · exact h2 z
  refine ⟨⟨dx, t, ps, st, s _ _ e1, s _ _ e2, e3.same s, e4, fun q hq => (e5 q hq).same s, e6, List.mem_append_right _ eX, ne e3.1 tX, fun p hp => ne (e3.2 p hp) (pX p hp), fun q hq => ⟨ne (e5 q hq).1 (sX q hq).1, fun p hp => ne ((e5 q hq).2 p hp) ((sX q hq).2 p hp)⟩⟩, fun x hx => ?_, by assumption, by assumption, by assumption, by assumption, by assumption, by assumption⟩
  rcases List.mem_append.mp hx with hx | hx
  · exact (ny x hx).2
  · exact (tr x hx).imp fun o h => s _ _ h
def spInitL (C : Addr) : Sp := fun vs H Q _ => ∃ (a dx : Addr) (X : List Addr) (w : Str) (n : Nat) (d : Int), vs = [.ref a, .str w, .int n, .int d] ∧ H a = some (.ins C dx []) ∧ IsWay w ∧ 1 ≤ n ∧ n ≤ 8 ∧ 1 ≤ d ∧ (∀ x ∈ X, ∃ o, H x = some o) ∧ a ∉ X ∧
  ∀ (e : Addr) (H' : Hp), H e = none → LsAt C H' a e (e :: X) w n d [] [] → (∀ b o, H b = some o → b ≠ a → H' b = some o) → Q .non H'
def spManyOk : Sp := fun vs H Q _ => ∃ m : Int, vs = [.int m] ∧ m ≤ 120 ∧ Q .non H
def nearR (w : Str) (xs : List Int) (d : Int) (rs : List (List Int)) : List (List Int) := rs.filter fun r => decide (farW w xs r < d)
/-- new rows at l -/
def NewRows (H H' : Hp) (l : Addr) (qs : List (Addr × List Int)) : Prop := RP H' l qs ∧ H l = none ∧ ∀ q ∈ qs, H q.1 = none
def spComeL (C : Addr) : Sp := fun vs H Q _ => ∃ (a e o : Addr) (X : List Addr) (w : Str) (n : Nat) (d : Int) (rs : List (List Int)) (ss : List (List (List Int))) (xs : List Int), vs = [.ref a, .ref o] ∧ LsAt C H a e X w n d rs ss ∧ H o = some (.lst (xs.map V.int)) ∧ IsOrd n xs ∧ rs.length < 120 ∧ ss.length < 1000 ∧
  ∀ (l : Addr) (qs : List (Addr × List Int)) (rs' : List (List Int)) (ss' : List (List (List Int))) (H' : Hp), rws qs = nearR w xs d rs → (qs = [] → rs'.Perm (rs ++ [xs]) ∧ rs'.Pairwise (· ≤ ·) ∧ ss' = ss ++ [rs]) → (qs ≠ [] → rs' = rs ∧ ss' = ss) → NewRows H H' l qs → LsAt C H' a e (l :: (qs.map (·.1) ++ X)) w n d rs' ss' → KpL a e H H' → Q (.ref l) H'
def spChangeL (C : Addr) : Sp := fun vs H Q _ => ∃ (a e l : Addr) (X : List Addr) (w : Str) (n : Nat) (d : Int) (rs : List (List Int)) (ss : List (List (List Int))) (qs : List (Addr × List Int)), vs = [.ref a, .ref l] ∧ LsAt C H a e X w n d rs ss ∧ RP H l qs ∧ l ∉ X ∧ (∀ q ∈ qs, q.1 ∉ X) ∧ (∀ r ∈ rws qs, IsOrd n r) ∧ ss.length < 1000 ∧
  ∀ H', LsAt C H' a e X w n d (rws qs) (ss ++ [rs]) → KpL a e H H' → Q .non H'
def spDropL (C : Addr) : Sp := fun vs H Q _ => ∃ (a e o : Addr) (X : List Addr) (w : Str) (n : Nat) (d : Int) (rs : List (List Int)) (ss : List (List (List Int))) (xs : List Int), vs = [.ref a, .ref o] ∧ LsAt C H a e X w n d rs ss ∧ H o = some (.lst (xs.map V.int)) ∧ xs ∈ rs ∧ IsOrd n xs ∧ ss.length < 1000 ∧ rs.length ≤ 120 ∧
  ∀ H', LsAt C H' a e X w n d (rs.filter fun r => !decide (r = xs)) (ss ++ [rs]) → KpL a e H H' → Q .non H'
def spUndoL (C cN : Addr) : Sp := fun vs H Q E => ∃ (a e : Addr) (X : List Addr) (w : Str) (n : Nat) (d : Int) (rs : List (List Int)) (ss : List (List (List Int))), vs = [.ref a] ∧ LsAt C H a e X w n d rs ss ∧ (∀ r0 ss0, ss = ss0 ++ [r0] → ∀ H', LsAt C H' a e X w n d r0 ss0 → KpL a e H H' → Q .non H') ∧ (ss = [] → E (.ref cN) none H)
def spUndoN (C : Addr) : Sp := fun vs H Q _ => ∃ (a e : Addr) (X : List Addr) (w : Str) (n : Nat) (d : Int) (rs r0 : List (List Int)) (ss0 : List (List (List Int))), vs = [.ref a] ∧ LsAt C H a e X w n d rs (ss0 ++ [r0]) ∧ ∀ H', LsAt C H' a e X w n d r0 ss0 → KpL a e H H' → Q .non H'
def spLeast0 (C : Addr) : Sp := fun vs H Q _ => ∃ (a e : Addr) (X : List Addr) (w : Str) (n : Nat) (d : Int) (ss : List (List (List Int))), vs = [.ref a] ∧ LsAt C H a e X w n d [] ss ∧ ∀ H', Same H H' → Q .non H'
def spOrdersL (C : Addr) : Sp := fun vs H Q _ => ∃ (a e : Addr) (X : List Addr) (w : Str) (n : Nat) (d : Int) (rs : List (List Int)) (ss : List (List (List Int))), vs = [.ref a] ∧ LsAt C H a e X w n d rs ss ∧ rs.length ≤ 120 ∧ ∀ (l : Addr) (qs : List (Addr × List Int)) (H' : Hp), rws qs = rs → NewRows H H' l qs → Same H H' → Q (.ref l) H'
section
variable {P : Program} {w : World} {K : PySem.W.Frag} {mg : Str → Option Value} {base : Heap}
theorem scManyOk : FnScope ["many"] ["many"] (defScope s_check_many) := ⟨rfl, rfl, rfl, by decide +kernel, rfl, by decide +kernel, by decide +kernel⟩
theorem ok_manyOk {f : Addr} {fd : FuncData} {k : Nat} {tO : Tok} (T : Df K mg "check_many" s_check_many ["many"] f fd) (mO : mg "MOST_ORDERS" = some (.int 120 tO)) : FnOk P w K mg base CX0 (k + 1) f fd ["many"] spManyOk := by
  refine T.F.ok scManyOk (fun vs H Q E h => ?_) (fun cdv A outer s H vs Q E hr h => ?_)
  · obtain ⟨m, rfl, _⟩ := h
    rfl
  · obtain ⟨m, rfl, hm, q⟩ := h
    refine ⟨_, 
      (pss_one (ps_if (pt_cmpR op_gt (pv 0) (pe_glob (v := .int 120) (by rfl) mO ⟨_, rfl⟩) (nomark _))
        (pss_one ps_never)
        pss_nil)), ?_⟩
    refine ⟨_, rfl, m, 120, rfl, rfl, _, rfl, ?_⟩
    rw [decide_eq_false (show ¬ (120 : Int) < m by omega)]
    exact iteF q
end
end Fo
namespace Fo
open PySem PySem.Spec PyProof.Rows L2
section
variable {P : Program} {w : World} {K : PySem.W.Frag} {mg : Str → Option Value} {base : Heap}
theorem scChangeL : FnScope ["self", "orders"] ["self", "orders"] (defScope s_Lister_change_to) := ⟨rfl, rfl, rfl, by decide +kernel, rfl, by decide +kernel, by decide +kernel⟩
theorem ok_changeL {C_Lister fI f : Addr} {fd : FuncData} {k : Nat} (T : Dm K C_Lister "change_to" "Lister.change_to" s_Lister_change_to ["self", "orders"] f fd) (TC : TxL K mg C_Lister fI) : FnOk P w K mg base CX0 (k + 1) f fd ["self", "orders"] (spChangeL C_Lister) := by
  refine T.F.ok scChangeL (fun vs H Q E h => ?_) (fun cdv A outer s H vs Q E hr h => ?_)
  · obtain ⟨a, e, l, X, w, n, d, rs, ss, qs, rfl, _⟩ := h
    rfl
  · obtain ⟨a, e, l, X, w, n, d, rs, ss, qs, rfl, L, hl, nlX, nqX, oq, hz, q⟩ := h
    obtain ⟨dx, t, ps, st, ha, he, ht, ert, hst, ess, heX, ntX, npX, nsX⟩ := L.ex
    have nte : t ≠ e := fun z => ntX (z ▸ heX)
    have npe : ∀ p ∈ ps, p.1 ≠ e := fun p hp z => npX p hp (z ▸ heX)
    have nse : ∀ q ∈ st, q.1 ≠ e ∧ ∀ p ∈ q.2, p.1 ≠ e := fun q hq => ⟨fun z => (nsX q hq).1 (z ▸ heX), fun p hp z => (nsX q hq).2 p hp (z ▸ heX)⟩
    have nae : a ≠ e := ne_of ha he (by intro z; cases z)
    have nle : l ≠ e := fun z => nlX (z ▸ heX)
    have nqe : ∀ q ∈ qs, q.1 ≠ e := fun q hq z => nqX q hq (z ▸ heX)
    have nla : l ≠ a := ne_of hl.1 ha (by intro z; cases z)
    refine ⟨_, 
      (pss_cons (ps_expr (pe_bm PySem.F.plainAttrs_list PySem.F.slot_list_append PySem.F.type_list_append mt_append (pe_fld (pv 0) rfl) (pa_cons (pe_fld (pv 0) rfl) pa_nil)))
      (pss_one (ps_fld (pv 0) (pv 1) rfl))), ?_⟩
    refine ⟨_, rfl, a, _, dx, _, _, rfl, ha, TC.cl, TC.nE, fl_e, ?_⟩
    refine ⟨.inl ⟨rfl, _, SqL.of he⟩, ?_⟩
    refine ⟨_, rfl, a, _, dx, _, _, rfl, ha, TC.cl, TC.nT, fl_t, ?_⟩
    refine ⟨e, _, _, rfl, rfl, he, line_lt (by rw [List.length_map, ← List.length_map (f := fun q : Addr × List (Addr × List Int) => rws q.2), ess]; omega), ?_⟩
    refine ⟨_, rfl, _, rfl, a, _, dx, _, rfl, (by rw [upd_ne nae]; exact ha), TC.cl, TC.nT, (by show 5 < 1000; decide), ?_⟩
    rw [put_t]
    have kp : KpL a e H (upd (upd H e (.lst ((st.map fun q => V.ref q.1) ++ [V.ref t]))) a (.ins C_Lister dx (fldsL w n d l e))) := fun b o h n1 n2 => by rw [upd_ne n1, upd_ne n2]; exact h
    refine q _ ⟨⟨dx, l, qs, st ++ [(t, ps)], upd_same, (by rw [upd_ne nae.symm, upd_same, List.map_append]; rfl), hl.kpl kp ha nle nqe, rfl, fun q hq => ?_, ?_, heX, nlX, nqX, fun q hq => ?_⟩, trK L.tr kp upd_same (by rw [upd_ne nae.symm, upd_same]), L.wy, L.n1, L.n2, L.d1, oq, fun s hs r hr => ?_⟩ kp
    · rcases List.mem_append.mp hq with hq | hq
      · exact (hst q hq).kpl kp ha (nse q hq).1 (nse q hq).2
      · rw [List.mem_singleton.mp hq]
        exact ht.kpl kp ha nte npe
    · rw [List.map_append, ess, ← ert]
      rfl
    · rcases List.mem_append.mp hq with hq | hq
      · exact nsX q hq
      · rw [List.mem_singleton.mp hq]
        exact ⟨ntX, npX⟩
    · rcases List.mem_append.mp hs with hs | hs
      · exact L.ords s hs r hr
      · rw [List.mem_singleton.mp hs] at hr
        exact L.ord r hr
theorem scInitL : FnScope ["self", "way", "n", "d"] ["self", "way", "n", "d"] (defScope s_Lister___init__) := ⟨rfl, rfl, rfl, by decide +kernel, rfl, by decide +kernel, by decide +kernel⟩
theorem ok_initL {C_Lister fI f f1 : Addr} {fd d1 : FuncData} {k : Nat} {tK : Tok} (T : Dm K C_Lister "__init__" "Lister.__init__" s_Lister___init__ ["self", "way", "n", "d"] f fd) (TC : TxL K mg C_Lister fI) (T_check_apart : Df K mg "check_apart" s_check_apart ["way", "n", "most", "d"] f1 d1) (G_check_apart : FnOk P w K mg base CX0 k f1 d1 ["way", "n", "most", "d"] spApart) (mK : mg "MOST_KEPT" = some (.int 8 tK)) : FnOk P w K mg base CX0 (k + 1) f fd ["self", "way", "n", "d"] (spInitL C_Lister) := by
  refine T.F.ok scInitL (fun vs H Q E h => ?_) (fun cdv A outer s H vs Q E hr h => ?_)
  · obtain ⟨a, dx, X, w, n, d, rfl, _⟩ := h
    rfl
  · obtain ⟨a, dx, X, w, n, d, rfl, ha, hw, h1, h2, h3, htr, naX, q⟩ := h
    refine ⟨_, 
      (pss_cons (ps_expr (pe_call G_check_apart hr (by rfl) T_check_apart.g T_check_apart.F.kp T_check_apart.b .nil pass0 (pa_cons (pv 1) (pa_cons (pv 2) (pa_cons (pe_glob (v := .int 8) (by rfl) mK ⟨_, rfl⟩) (pa_cons (pv 3) pa_nil))))))
      (pss_cons (ps_fld (pv 0) (pv 1) rfl)
      (pss_cons (ps_fld (pv 0) (pv 2) rfl)
      (pss_cons (ps_fld (pv 0) (pv 3) rfl)
      (pss_cons (ps_fld (pv 0) (pe_lst pa_nil) rfl)
      (pss_one (ps_fld (pv 0) (pe_lst pa_nil) rfl))))))), ?_⟩
    refine ⟨_, rfl, _, rfl, _, rfl, w, n, 8, d, rfl, hw, by omega, by omega, h3, ?_⟩
    refine ⟨_, rfl, _, rfl, a, _, dx, _, rfl, ha, TC.cl, TC.nW, (by show 0 < 1000; decide), ?_⟩
    refine ⟨_, rfl, _, rfl, a, _, dx, _, rfl, upd_same, TC.cl, TC.nN, (by show 1 < 1000; decide), ?_⟩
    refine ⟨_, rfl, _, rfl, a, _, dx, _, rfl, upd_same, TC.cl, TC.nD, (Nat.lt_of_le_of_lt (pl (pl (Nat.le_refl 0))) (by decide)), ?_⟩
    refine ⟨by decide, fun t nt => ?_⟩
    have nta : a ≠ t := ne_of_none upd_same nt
    refine ⟨_, rfl, a, _, dx, _, rfl, (by rw [upd_ne nta]; exact upd_same), TC.cl, TC.nT, (Nat.lt_of_le_of_lt (pl (pl (pl (Nat.le_refl 0)))) (by decide)), ?_⟩
    refine ⟨by decide, fun e ne => ?_⟩
    have nae : a ≠ e := ne_of_none upd_same ne
    have nte : t ≠ e := ne_of_none (by rw [upd_ne nta.symm, upd_same]) ne
    refine ⟨_, rfl, a, _, dx, _, rfl, (by rw [upd_ne nae]; exact upd_same), TC.cl, TC.nE, (Nat.lt_of_le_of_lt (pl (pl (pl (pl (Nat.le_refl 0))))) (by decide)), ?_⟩
    rw [put_init]
    have hte : H t = none := by rw [← nt, upd_ne nta.symm, upd_ne nta.symm, upd_ne nta.symm]
    have hee : H e = none := by rw [← ne, upd_ne nae.symm, upd_ne nte.symm, upd_ne nae.symm, upd_ne nae.symm, upd_ne nae.symm]
    have kp : ∀ b o, H b = some o → b ≠ a → (upd (upd (upd (upd (upd (upd (upd H a (.ins C_Lister dx (putF "way" (.str w) []))) a (.ins C_Lister dx (putF "n" (.int n) (putF "way" (.str w) [])))) a (.ins C_Lister dx (putF "d" (.int d) (putF "n" (.int n) (putF "way" (.str w) []))))) t (.lst [])) a (.ins C_Lister dx (putF "taken" (.ref t) (putF "d" (.int d) (putF "n" (.int n) (putF "way" (.str w) [])))))) e (.lst [])) a (.ins C_Lister dx (fldsL w n d t e))) b = some o := fun b o h nb => by
      rw [upd_ne nb, upd_ne (ne_of_none h hee), upd_ne nb, upd_ne (ne_of_none h hte), upd_ne nb, upd_ne nb, upd_ne nb]
      exact h
    refine q e _ hee ⟨⟨dx, t, [], [], upd_same, (by rw [upd_ne nae.symm, upd_same]; rfl), ⟨(by rw [upd_ne nta.symm, upd_ne nte, upd_ne nta.symm, upd_same]; rfl), fun p hp => absurd hp List.not_mem_nil⟩, rfl, fun p hp => absurd hp List.not_mem_nil, rfl, List.mem_cons_self, fun hm => ?_, fun p hp => absurd hp List.not_mem_nil, fun p hp => absurd hp List.not_mem_nil⟩, fun x hx => ?_, hw, h1, h2, h3, fun r hr => absurd hr List.not_mem_nil, fun r hr => absurd hr List.not_mem_nil⟩ fun b o h nb => kp b o h nb
    · rcases List.mem_cons.mp hm with z | hm
      · exact nte z
      · obtain ⟨o, ho⟩ := htr t hm
        rw [hte] at ho
        cases ho
    · rcases List.mem_cons.mp hx with rfl | hx
      · exact ⟨_, by rw [upd_ne nae.symm, upd_same]⟩
      · obtain ⟨o, ho⟩ := htr x hx
        exact ⟨o, kp x o ho fun z => naX (z ▸ hx)⟩
theorem scUndoL : FnScope ["self"] ["self"] (defScope s_Lister_undo) := ⟨rfl, rfl, rfl, by decide +kernel, rfl, by decide +kernel, by decide +kernel⟩
theorem ok_undoL {cN C_Lister fI f : Addr} {fd : FuncData} {k : Nat} (T : Dm K C_Lister "undo" "Lister.undo" s_Lister_undo ["self"] f fd) (TC : TxL K mg C_Lister fI) (X_NoNumber : ExK K mg "NoNumber" cN) (B : Bi mg) : FnOk P w K mg base (L2.CX P w) (k + 1) f fd ["self"] (spUndoL C_Lister cN) := by
  refine T.F.okX scUndoL (fun vs H Q E h => ?_) (fun cdv A outer s H vs Q E hr h => ?_)
  · obtain ⟨a, e, X, w, n, d, rs, ss, rfl, _⟩ := h
    rfl
  · obtain ⟨a, e, X, w, n, d, rs, ss, rfl, L, q1, q2⟩ := h
    obtain ⟨dx, t, ps, st, ha, he, ht, ert, hst, ess, heX, ntX, npX, nsX⟩ := L.ex
    have nte : t ≠ e := fun z => ntX (z ▸ heX)
    have npe : ∀ p ∈ ps, p.1 ≠ e := fun p hp z => npX p hp (z ▸ heX)
    have nse : ∀ q ∈ st, q.1 ≠ e ∧ ∀ p ∈ q.2, p.1 ≠ e := fun q hq => ⟨fun z => (nsX q hq).1 (z ▸ heX), fun p hp z => (nsX q hq).2 p hp (z ▸ heX)⟩
    have nae : a ≠ e := ne_of ha he (by intro z; cases z)
    refine ⟨_, 
      (pss_cons (ps_if (pt_cmpR op_eq (pe_callB call_len_seq (by rfl) B.len PySem.boot_len (pa_cons (pe_fld (pv 0) rfl) pa_nil)) pe_int (nomark _))
        (pss_one (ps_raiseK rfl (takes_of rfl rfl rfl rfl) X_NoNumber (by rfl)))
        pss_nil)
      (pss_one (ps_fld (pv 0) (pe_bm0 PySem.F.plainAttrs_list PySem.F.slot_list_pop PySem.F.type_list_pop mt_pop (pe_fld (pv 0) rfl)) rfl))), ?_⟩
    refine ⟨_, rfl, a, _, dx, _, _, rfl, ha, TC.cl, TC.nE, fl_e, e, _, rfl, .inl (SqL.of he), rfl, _, rfl, ?_⟩
    rw [List.length_map]
    by_cases c : st = []
    · subst c
      exact iteT (q2 ess.symm)
    · have hl : st.length ≠ 0 := fun z => c (List.eq_nil_of_length_eq_zero z)
      rw [decide_eq_false (show ¬ (V.int (st.length : Int) = V.int 0) from fun z => by have := V.int.inj z; omega)]
      refine iteF ?_
      obtain ⟨st0, tp, rfl⟩ : ∃ st0 tp, st = st0 ++ [tp] := ⟨st.dropLast, st.getLast c, (List.dropLast_concat_getLast c).symm⟩
      obtain ⟨t0, ps0⟩ := tp
      have m0 : (t0, ps0) ∈ st0 ++ [(t0, ps0)] := List.mem_append_right _ List.mem_cons_self
      refine ⟨_, rfl, a, _, dx, _, _, rfl, ha, TC.cl, TC.nE, fl_e, ?_⟩
      refine ⟨.inl ⟨rfl, _, SqL.of he⟩, e, _, V.ref t0, rfl, rfl, he, ?_, ?_⟩
      · rw [List.map_append, List.length_append]
        show (List.map _ st0 ++ [V.ref t0])[(List.map _ st0).length + 1 - 1]? = _
        rw [Nat.add_sub_cancel, List.getElem?_append_right (Nat.le_refl _), Nat.sub_self]
        rfl
      refine ⟨_, rfl, a, _, dx, _, rfl, (by rw [upd_ne nae]; exact ha), TC.cl, TC.nT, (by show 5 < 1000; decide), ?_⟩
      rw [put_t]
      have ed : (List.map (fun q : Addr × List (Addr × List Int) => V.ref q.1) (st0 ++ [(t0, ps0)])).dropLast = st0.map fun q => V.ref q.1 := by
        rw [List.map_append]
        exact List.dropLast_concat
      rw [ed]
      have kp : KpL a e H (upd (upd H e (.lst (st0.map fun q => V.ref q.1))) a (.ins C_Lister dx (fldsL w n d t0 e))) := fun b o h n1 n2 => by rw [upd_ne n1, upd_ne n2]; exact h
      have es : ss = (st0.map fun q => rws q.2) ++ [rws ps0] := by rw [← ess, List.map_append]; rfl
      refine q1 (rws ps0) _ es _ ⟨⟨dx, t0, ps0, st0, upd_same, (by rw [upd_ne nae.symm, upd_same]), (hst _ m0).kpl kp ha (nse _ m0).1 (nse _ m0).2, rfl, fun q hq => (hst q (List.mem_append_left _ hq)).kpl kp ha (nse q (List.mem_append_left _ hq)).1 (nse q (List.mem_append_left _ hq)).2, rfl, heX, (nsX _ m0).1, (nsX _ m0).2, fun q hq => nsX q (List.mem_append_left _ hq)⟩, trK L.tr kp upd_same (by rw [upd_ne nae.symm, upd_same]), L.wy, L.n1, L.n2, L.d1, fun r hr => L.ords _ (by rw [es]; exact List.mem_append_right _ List.mem_cons_self) r hr, fun s hs r hr => L.ords s (by rw [es]; exact List.mem_append_left _ hs) r hr⟩ kp
theorem scUndoN : FnScope ["self"] ["self"] (defScope s_Lister_undo) := ⟨rfl, rfl, rfl, by decide +kernel, rfl, by decide +kernel, by decide +kernel⟩
theorem ok_undoN {C_Lister fI f : Addr} {fd : FuncData} {k : Nat} (T : Dm K C_Lister "undo" "Lister.undo" s_Lister_undo ["self"] f fd) (TC : TxL K mg C_Lister fI) (B : Bi mg) : FnOk P w K mg base CX0 (k + 1) f fd ["self"] (spUndoN C_Lister) := by
  refine T.F.ok scUndoN (fun vs H Q E h => ?_) (fun cdv A outer s H vs Q E hr h => ?_)
  · obtain ⟨a, e, X, w, n, d, rs, r00, ss00, rfl, _⟩ := h
    rfl
  · obtain ⟨a, e, X, w, n, d, rs, r00, ss00, rfl, L, q1⟩ := h
    obtain ⟨dx, t, ps, st, ha, he, ht, ert, hst, ess, heX, ntX, npX, nsX⟩ := L.ex
    have nte : t ≠ e := fun z => ntX (z ▸ heX)
    have npe : ∀ p ∈ ps, p.1 ≠ e := fun p hp z => npX p hp (z ▸ heX)
    have nse : ∀ q ∈ st, q.1 ≠ e ∧ ∀ p ∈ q.2, p.1 ≠ e := fun q hq => ⟨fun z => (nsX q hq).1 (z ▸ heX), fun p hp z => (nsX q hq).2 p hp (z ▸ heX)⟩
    have nae : a ≠ e := ne_of ha he (by intro z; cases z)
    refine ⟨_, 
      (pss_cons (ps_if (pt_cmpR op_eq (pe_callB call_len_seq (by rfl) B.len PySem.boot_len (pa_cons (pe_fld (pv 0) rfl) pa_nil)) pe_int (nomark _))
        (pss_one ps_never)
        pss_nil)
      (pss_one (ps_fld (pv 0) (pe_bm0 PySem.F.plainAttrs_list PySem.F.slot_list_pop PySem.F.type_list_pop mt_pop (pe_fld (pv 0) rfl)) rfl))), ?_⟩
    refine ⟨_, rfl, a, _, dx, _, _, rfl, ha, TC.cl, TC.nE, fl_e, e, _, rfl, .inl (SqL.of he), rfl, _, rfl, ?_⟩
    rw [List.length_map]
    by_cases c : st = []
    · subst c
      exact absurd ess.symm (by simp)
    · have hl : st.length ≠ 0 := fun z => c (List.eq_nil_of_length_eq_zero z)
      rw [decide_eq_false (show ¬ (V.int (st.length : Int) = V.int 0) from fun z => by have := V.int.inj z; omega)]
      refine iteF ?_
      obtain ⟨st0, tp, rfl⟩ : ∃ st0 tp, st = st0 ++ [tp] := ⟨st.dropLast, st.getLast c, (List.dropLast_concat_getLast c).symm⟩
      obtain ⟨t0, ps0⟩ := tp
      have m0 : (t0, ps0) ∈ st0 ++ [(t0, ps0)] := List.mem_append_right _ List.mem_cons_self
      refine ⟨_, rfl, a, _, dx, _, _, rfl, ha, TC.cl, TC.nE, fl_e, ?_⟩
      refine ⟨.inl ⟨rfl, _, SqL.of he⟩, e, _, V.ref t0, rfl, rfl, he, ?_, ?_⟩
      · rw [List.map_append, List.length_append]
        show (List.map _ st0 ++ [V.ref t0])[(List.map _ st0).length + 1 - 1]? = _
        rw [Nat.add_sub_cancel, List.getElem?_append_right (Nat.le_refl _), Nat.sub_self]
        rfl
      refine ⟨_, rfl, a, _, dx, _, rfl, (by rw [upd_ne nae]; exact ha), TC.cl, TC.nT, (by show 5 < 1000; decide), ?_⟩
      rw [put_t]
      have ed : (List.map (fun q : Addr × List (Addr × List Int) => V.ref q.1) (st0 ++ [(t0, ps0)])).dropLast = st0.map fun q => V.ref q.1 := by
        rw [List.map_append]
        exact List.dropLast_concat
      rw [ed]
      have kp : KpL a e H (upd (upd H e (.lst (st0.map fun q => V.ref q.1))) a (.ins C_Lister dx (fldsL w n d t0 e))) := fun b o h n1 n2 => by rw [upd_ne n1, upd_ne n2]; exact h
      have es : ss00 ++ [r00] = (st0.map fun q => rws q.2) ++ [rws ps0] := by rw [← ess, List.map_append]; rfl
      have es2 := List.append_inj' es rfl
      have e1 : r00 = rws ps0 := List.cons.inj es2.2 |>.1
      have e2 := es2.1
      subst e1
      subst e2
      refine q1 _ ⟨⟨dx, t0, ps0, st0, upd_same, (by rw [upd_ne nae.symm, upd_same]), (hst _ m0).kpl kp ha (nse _ m0).1 (nse _ m0).2, rfl, fun q hq => (hst q (List.mem_append_left _ hq)).kpl kp ha (nse q (List.mem_append_left _ hq)).1 (nse q (List.mem_append_left _ hq)).2, rfl, heX, (nsX _ m0).1, (nsX _ m0).2, fun q hq => nsX q (List.mem_append_left _ hq)⟩, trK L.tr kp upd_same (by rw [upd_ne nae.symm, upd_same]), L.wy, L.n1, L.n2, L.d1, fun r hr => L.ords _ (List.mem_append_right _ List.mem_cons_self) r hr, fun s hs r hr => L.ords s (List.mem_append_left _ hs) r hr⟩ kp
end
end Fo
namespace Fo
open PySem PySem.Spec PyProof.Rows L2
section
variable {P : Program} {w : World} {K : PySem.W.Frag} {mg : Str → Option Value} {base : Heap}
theorem scOrdersL : FnScope ["self", "order"] ["self"] (defScope s_Lister_orders) := ⟨rfl, rfl, rfl, by decide +kernel, rfl, by decide +kernel, by decide +kernel⟩
theorem ok_ordersL {C_Lister fI f : Addr} {fd : FuncData} {k : Nat} (T : Dm K C_Lister "orders" "Lister.orders" s_Lister_orders ["self"] f fd) (TC : TxL K mg C_Lister fI) (B : Bi mg) : FnOk P w K mg base CX0 (k + 1) f fd ["self"] (spOrdersL C_Lister) := by
  refine T.F.ok scOrdersL (fun vs H Q E h => ?_) (fun cdv A outer s H vs Q E hr h => ?_)
  · obtain ⟨a, e, X, w, n, d, rs, ss, rfl, _⟩ := h
    rfl
  · obtain ⟨a, e, X, w, n, d, rs, ss, rfl, L, hl, q⟩ := h
    obtain ⟨dx, t, ps, st, ha, he, ht, ert, hst, ess, heX, ntX, npX, nsX⟩ := L.ex
    have nte : t ≠ e := fun z => ntX (z ▸ heX)
    have npe : ∀ p ∈ ps, p.1 ≠ e := fun p hp z => npX p hp (z ▸ heX)
    have nse : ∀ q ∈ st, q.1 ≠ e ∧ ∀ p ∈ q.2, p.1 ≠ e := fun q hq => ⟨fun z => (nsX q hq).1 (z ▸ heX), fun p hp z => (nsX q hq).2 p hp (z ▸ heX)⟩
    have hpl : ps.length ≤ 120 := by rw [← ert, List.length_map] at hl; exact hl
    refine ⟨_, 
      (pss_one (ps_ret (pe_lc (own := [("order", 1)]) (g := (gName 1)) (tt := tYes) (te := (tCB (rListOf K) (tCons (tVar 1) tNil))) rfl scOrdersL.nd (pi_list (pe_fld (pv 0) rfl)) (blkOk_by (N := ["self", "order"]) (sc := defScope s_Lister_orders) (by decide +kernel)) (fun _ _ _ _ _ => (pg_name (i := 1) scOrdersL.nd rfl (.inl rfl))) (fun _ _ _ _ _ => pts_nil) (fun _ _ _ _ _ => (pe_callTy call_list_of (by rfl) B.list (by decide +kernel) (pa_cons (pv 1) pa_nil)))))), ?_⟩
    refine ⟨_, rfl, a, _, dx, _, _, rfl, ha, TC.cl, TC.nT, fl_t, t, rfl, ⟨_, SqL.of ht.1⟩, fun D nD => ?_⟩
    refine lc_list (K := K) (a := t) (xs := ps.map fun p => V.ref p.1) (fun i H3 => ∃ bs : List (Addr × List Int), RP H3 D bs ∧ rws bs = rs.take i ∧ (∀ b ∈ bs, H b.1 = none ∧ b.1 ≠ D) ∧ Same H H3)
      ⟨[], ⟨upd_same, fun p hp => absurd hp List.not_mem_nil⟩, rfl, fun p hp => absurd hp List.not_mem_nil, same_new nD⟩ (fun i H3 _ hP => by obtain ⟨_, _, _, _, sm⟩ := hP; exact SqL.of (sm _ _ ht.1)) (fun i x H3 hx hP => ?_) (fun H3 hP => ?_)
    · obtain ⟨bs, hb, eb, nb, sm⟩ := hP
      obtain ⟨p, ep, rfl, hp⟩ := ht.at hx
      have hbl : bs.length ≤ 120 := by
        have := congrArg List.length eb
        rw [List.length_map, List.length_take] at this
        omega
      refine ⟨rfl, _, rfl, p.1, _, rfl, .inl (SqL.of (sm _ _ hp)), fun c nc => ?_⟩
      have s4 := same_new (o := .lst (p.2.map V.int)) nc
      have npc : D ≠ c := ne_of_none hb.1 nc
      refine ⟨_, s4 _ _ hb.1, line_lt (by rw [List.length_map]; omega), bs ++ [(c, p.2)], ⟨by rw [upd_same, List.map_append]; rfl, fun u hu => ?_⟩, ?_, fun u hu => ?_, fun b o h => ?_⟩
      · rcases List.mem_append.mp hu with hu | hu
        · rw [upd_ne (nb u hu).2]
          exact s4 _ _ (hb.2 u hu)
        · rw [List.mem_singleton.mp hu, upd_ne npc.symm, upd_same]
      · rw [take_p (by rw [← ert]; exact rws_at ep), ← eb]
        show List.map _ (bs ++ [(c, p.2)]) = _
        rw [List.map_append]
        rfl
      · rcases List.mem_append.mp hu with hu | hu
        · exact nb u hu
        · rw [List.mem_singleton.mp hu]
          exact ⟨sm.free nc, npc.symm⟩
      · rw [upd_ne (ne_of_none h nD)]
        exact s4 _ _ (sm _ _ h)
    · obtain ⟨bs, hb, eb, nb, sm⟩ := hP
      rw [List.length_map, List.take_of_length_le (by rw [← ert, List.length_map]; exact Nat.le_refl _)] at eb
      exact q D bs H3 eb ⟨hb, nD, fun u hu => (nb u hu).1⟩ sm
theorem scDropL : FnScope ["self", "order", "other"] ["self", "order"] (defScope s_Lister_drop) := ⟨rfl, rfl, rfl, by decide +kernel, rfl, by decide +kernel, by decide +kernel⟩
theorem ok_dropL {C_Lister fI f f1 f2 : Addr} {fd d1 d2 : FuncData} {k : Nat} (T : Dm K C_Lister "drop" "Lister.drop" s_Lister_drop ["self", "order"] f fd) (T_Lister : TxL K mg C_Lister fI) (T_check_order : Df K mg "check_order" s_check_order ["thing"] f1 d1) (G_check_order : FnOk P w K mg base CX0 k f1 d1 ["thing"] spCheck)
    (T_Lister_change_to : Dm K C_Lister "change_to" "Lister.change_to" s_Lister_change_to ["self", "orders"] f2 d2) (G_Lister_change_to : FnOk P w K mg base CX0 k f2 d2 ["self", "orders"] (spChangeL C_Lister)) (B : Bi mg) : FnOk P w K mg base CX0 (k + 1) f fd ["self", "order"] (spDropL C_Lister) := by
  refine T.F.ok scDropL (fun vs H Q E h => ?_) (fun cdv A outer s H vs Q E hr h => ?_)
  · obtain ⟨a, e, o, X, w, n, d, rs, ss, xs, rfl, _⟩ := h
    rfl
  · obtain ⟨a, e, o, X, w, n, d, rs, ss, xs, rfl, L, ho, hx, hox, hz, hrl, q⟩ := h
    obtain ⟨dx, t, ps, st, ha, he, ht, ert, hst, ess, heX, ntX, npX, nsX⟩ := L.ex
    have nte : t ≠ e := fun z => ntX (z ▸ heX)
    have npe : ∀ p ∈ ps, p.1 ≠ e := fun p hp z => npX p hp (z ▸ heX)
    have nse : ∀ q ∈ st, q.1 ≠ e ∧ ∀ p ∈ q.2, p.1 ≠ e := fun q hq => ⟨fun z => (nsX q hq).1 (z ▸ heX), fun p hp z => (nsX q hq).2 p hp (z ▸ heX)⟩
    have hpl : ps.length ≤ 120 := by rw [← ert, List.length_map] at hrl; exact hrl
    refine ⟨_, 
      (pss_cons (ps_expr (pe_call G_check_order hr (by rfl) T_check_order.g T_check_order.F.kp T_check_order.b .nil pass0 (pa_cons (pv 1) pa_nil)))
      (pss_cons (ps_if (pt_cmpR (op_notInD (units65 hr)) (pv 1) (pe_fld (pv 0) rfl) (by rfl))
        (pss_one ps_never)
        pss_nil)
      (pss_one (ps_expr (pe_meth (pv 0) T_Lister.cl T_Lister_change_to.me G_Lister_change_to hr T_Lister_change_to.b .nil pass0 (pa_cons (pe_lc (own := [("other", 2)]) (g := (gName 2)) (tt := (tTest (tOp (rNeD K) (tVar 2) (tVar 1)))) (te := (tVar 2)) rfl scDropL.nd (pi_list (pe_fld (pv 0) rfl)) (blkOk_by (N := ["self", "order", "other"]) (sc := defScope s_Lister_drop) (by decide +kernel)) (fun _ _ _ _ _ => (pg_name (i := 2) scDropL.nd rfl (.inl rfl))) (fun _ _ _ _ _ => (pts_one (pt_cmpR (op_neD hr.units) (pv 2) (pv 1) (nomark _)))) (fun _ _ _ _ _ => (pv 2))) pa_nil)))))), ?_⟩
    refine ⟨_, rfl, o, n, xs, rfl, ho, hox, L.n1, by have := L.n2; omega, fun H1 s1 => ?_⟩
    have L1 := L.same s1
    have ha1 := s1 _ _ ha
    have ht1 := ht.same s1
    refine ⟨_, rfl, _, rfl, a, _, dx, _, _, rfl, ha1, T_Lister.cl, T_Lister.nT, fl_t, _, _, dp_list (s1 _ _ ho), ht1.dp, shaped_list _, shaped_lists _, _, rfl, ?_⟩
    rw [any_row, ert, decide_eq_true hx]
    refine iteF ?_
    refine ⟨_, rfl, a, dx, _, rfl, ha1, fl_no (by decide +kernel) (by decide +kernel) (by decide +kernel) (by decide +kernel) (by decide +kernel), ?_⟩
    refine ⟨_, rfl, a, _, dx, _, _, rfl, ha1, T_Lister.cl, T_Lister.nT, fl_t, t, rfl, ⟨_, SqL.of ht1.1⟩, fun D nD => ?_⟩
    have nDX : D ∉ X := fun hm => by
      obtain ⟨o, ho⟩ := L1.tr D hm
      rw [nD] at ho
      cases ho
    refine lc_list (K := K) (a := t) (xs := ps.map fun p => V.ref p.1) (fun i H3 => H3 = upd H1 D (.lst (((ps.take i).filter fun p => !decide (p.2 = xs)).map fun p => V.ref p.1)))
      rfl (fun i H3 _ hP => by rw [hP]; exact SqL.of (same_new nD _ _ ht1.1)) (fun i x H3 hx hP => ?_) (fun H3 hP => ?_)
    · obtain ⟨p, ep, rfl, hp⟩ := ht1.at hx
      subst hP
      refine ⟨rfl, _, rfl, _, rfl, _, _, dp_list (same_new nD _ _ hp), dp_list (same_new nD _ _ (s1 _ _ ho)), shaped_list _, shaped_list _, _, rfl, ite2 (fun z => ?_) (fun z => ?_)⟩
      · rw [eqv_ints] at z
        refine ⟨_, rfl, _, upd_same, line_lt ?_, ?_⟩
        · rw [List.length_map]
          have := List.length_filter_le (fun p : Addr × List Int => !decide (p.2 = xs)) (ps.take i)
          rw [List.length_take] at this
          omega
        · rw [filter_p _ ep, if_pos z, List.map_append, upd_upd]
          rfl
      · rw [eqv_ints] at z
        rw [filter_p _ ep, if_neg z, List.append_nil]
    · subst hP
      rw [List.length_map, List.take_length]
      have hs := same_new (o := .lst ((ps.filter fun p => !decide (p.2 = xs)).map fun p => V.ref p.1)) nD
      refine ⟨a, e, D, X, w, n, d, rs, ss, ps.filter (fun p => !decide (p.2 = xs)), rfl, L1.same hs, ⟨upd_same, fun p hp => hs _ _ (ht1.2 p (List.mem_filter.mp hp).1)⟩, nDX, fun p hp => npX p (List.mem_filter.mp hp).1, fun r hr => ?_, hz, fun H' L' k' => ?_⟩
      · obtain ⟨p, hp, rfl⟩ := List.mem_map.mp hr
        exact L.ord _ (by rw [← ert]; exact List.mem_map_of_mem (List.mem_filter.mp hp).1)
      · refine q H' ?_ (((KpL.of_same (s1.trans hs))).trans k')
        have e1 : rws (ps.filter fun p => !decide (p.2 = xs)) = rs.filter fun r => !decide (r = xs) := by
          rw [← ert]
          show List.map _ (List.filter _ _) = List.filter _ (List.map _ _)
          rw [List.filter_map]
          rfl
        rw [← e1]
        exact L'
end
end Fo
namespace Fo
open PySem PySem.Spec PyProof.Rows L2
section
variable {P : Program} {w : World} {K : PySem.W.Frag} {mg : Str → Option Value} {base : Heap}
theorem rws_perm {ps qs : List (Addr × List Int)} (h : ps.Perm qs) : (rws ps).Perm (rws qs) := h.map _
theorem scComeL : FnScope ["self", "order", "near", "other"] ["self", "order"] (defScope s_Lister_come) := ⟨rfl, rfl, rfl, by decide +kernel, rfl, by decide +kernel, by decide +kernel⟩
set_option maxHeartbeats 2000000 in
theorem ok_comeL {C_Lister fI f f1 f2 f3 f4 : Addr} {fd d1 d2 d3 d4 : FuncData} {k : Nat} (T : Dm K C_Lister "come" "Lister.come" s_Lister_come ["self", "order"] f fd) (T_Lister : TxL K mg C_Lister fI) (T_check_order : Df K mg "check_order" s_check_order ["thing"] f1 d1) (G_check_order : FnOk P w K mg base CX0 k f1 d1 ["thing"] spCheck)
    (T_check_many : Df K mg "check_many" s_check_many ["many"] f3 d3) (G_check_many : FnOk P w K mg base CX0 k f3 d3 ["many"] spManyOk) (T_known_far : Df K mg "known_far" s_known_far ["way", "one", "other"] f4 d4) (G_known_far : FnOk P w K mg base CX0 k f4 d4 ["way", "one", "other"] spFar)
    (T_Lister_change_to : Dm K C_Lister "change_to" "Lister.change_to" s_Lister_change_to ["self", "orders"] f2 d2) (G_Lister_change_to : FnOk P w K mg base CX0 k f2 d2 ["self", "orders"] (spChangeL C_Lister)) (B : Bi mg) : FnOk P w K mg base CX0 (k + 1) f fd ["self", "order"] (spComeL C_Lister) := by
  refine T.F.ok scComeL (fun vs H Q E h => ?_) (fun cdv A outer s H vs Q E hr h => ?_)
  · obtain ⟨a, e, o, X, w, n, d, rs, ss, xs, rfl, _⟩ := h
    rfl
  · obtain ⟨a, e, o, X, w, n, d, rs, ss, xs, rfl, L, ho, hx, hrl, hz, q⟩ := h
    obtain ⟨dx, t, ps, st, ha, he, ht, ert, hst, ess, heX, ntX, npX, nsX⟩ := L.ex
    have nte : t ≠ e := fun z => ntX (z ▸ heX)
    have npe : ∀ p ∈ ps, p.1 ≠ e := fun p hp z => npX p hp (z ▸ heX)
    have nse : ∀ q ∈ st, q.1 ≠ e ∧ ∀ p ∈ q.2, p.1 ≠ e := fun q hq => ⟨fun z => (nsX q hq).1 (z ▸ heX), fun p hp z => (nsX q hq).2 p hp (z ▸ heX)⟩
    have hpl : ps.length < 120 := by rw [← ert, List.length_map] at hrl; exact hrl
    have hn2 := L.n2
    refine ⟨_, 
      (pss_cons (ps_expr (pe_call G_check_order hr (by rfl) T_check_order.g T_check_order.F.kp T_check_order.b .nil pass0 (pa_cons (pv 1) pa_nil)))
      (pss_cons (ps_if (pt_cmpR op_ne (pe_callB call_len_seq (by rfl) B.len PySem.boot_len (pa_cons (pv 1) pa_nil)) (pe_fld (pv 0) rfl) (nomark _))
        (pss_one ps_never)
        pss_nil)
      (pss_cons (ps_expr (pe_call G_check_many hr (by rfl) T_check_many.g T_check_many.F.kp T_check_many.b .nil pass0 (pa_cons (pe_op op_add (pe_callB call_len_seq (by rfl) B.len PySem.boot_len (pa_cons (pe_fld (pv 0) rfl) pa_nil)) pe_int) pa_nil)))
      (pss_cons (ps_setLc (i := 2) (own := [("other", 3)]) (g := (gName 3)) (tt := (tTest (tOp (rI0 fun i j => .bl (decide (i < j))) (tCall spFar [] E0 (tCons (tFld K (tVar 0) "way") (tCons (tVar 1) (tCons (tVar 3) tNil)))) (tFld K (tVar 0) "d")))) (te := (tCB (rListOf K) (tCons (tVar 3) tNil))) (by rfl) scComeL.nd rfl rfl (sw_true rfl rfl rfl (by decide +kernel)) (pi_list (pe_fld (pv 0) rfl)) (blkOk_by (N := ["self", "order", "near", "other"]) (sc := defScope s_Lister_come) (by decide +kernel)) (fun _ _ _ _ _ => (pg_name (i := 3) scComeL.nd rfl (.inl rfl))) (fun _ _ _ _ _ => (pts_one (pt_cmpR op_lt (pe_call G_known_far hr (by rfl) T_known_far.g T_known_far.F.kp T_known_far.b .nil pass0 (pa_cons (pe_fld (pv 0) rfl) (pa_cons (pv 1) (pa_cons (pv 3) pa_nil)))) (pe_fld (pv 0) rfl) (nomark _)))) (fun _ _ _ _ _ => (pe_callTy call_list_of (by rfl) B.list (by decide +kernel) (pa_cons (pv 3) pa_nil))))
      (Evl.pss_cut (ps_if (pt_cmpR op_eq (pe_callB call_len_seq (by rfl) B.len PySem.boot_len (pa_cons (pv 2) pa_nil)) pe_int (nomark _))
        (pss_one (ps_expr (pe_meth (pv 0) T_Lister.cl T_Lister_change_to.me G_Lister_change_to hr T_Lister_change_to.b .nil pass0 (pa_cons (pe_callB (cr_sortedR hr.units) (by rfl) B.sorted (by decide +kernel) (pa_cons (pe_op op_cat (pe_fld (pv 0) rfl) (pe_lst (pa_cons (pe_callTy call_list_of (by rfl) B.list (by decide +kernel) (pa_cons (pv 1) pa_nil)) pa_nil))) pa_nil)) pa_nil))))
        pss_nil)
      (pss_one (ps_ret (pv 2)))))))), ?_⟩
    refine ⟨_, rfl, o, n, xs, rfl, ho, hx, L.n1, by omega, fun H1 s1 => ?_⟩
    have L1 := L.same s1
    have ha1 := s1 _ _ ha
    have ht1 := ht.same s1
    have ho1 := s1 _ _ ho
    refine ⟨_, rfl, o, _, rfl, .inl (SqL.of ho1), _, rfl, a, _, dx, _, _, rfl, ha1, T_Lister.cl, T_Lister.nN, fl_n, rfl, _, rfl, ?_⟩
    rw [List.length_map, hx.len, decide_eq_true rfl]
    refine iteF ?_
    refine ⟨_, rfl, a, _, dx, _, _, rfl, ha1, T_Lister.cl, T_Lister.nT, fl_t, t, _, rfl, .inl (SqL.of ht1.1), _, _, rfl, rfl, _, rfl, by rw [List.length_map]; omega, ?_⟩
    refine ⟨_, rfl, a, _, dx, _, _, rfl, ha1, T_Lister.cl, T_Lister.nT, fl_t, t, rfl, ⟨_, SqL.of ht1.1⟩, fun D nD => ?_⟩
    have nHD : H D = none := s1.free nD
    refine lc_list (K := K) (a := t) (xs := ps.map fun p => V.ref p.1) (fun i H3 => ∃ bs : List (Addr × List Int), RP H3 D bs ∧ rws bs = nearR w xs d (rs.take i) ∧ bs.length ≤ 120 ∧ (∀ b ∈ bs, H1 b.1 = none ∧ b.1 ≠ D) ∧ Same H1 H3)
      ⟨[], ⟨upd_same, fun p hp => absurd hp List.not_mem_nil⟩, rfl, Nat.zero_le _, fun p hp => absurd hp List.not_mem_nil, same_new nD⟩ (fun i H3 _ hP => by obtain ⟨_, _, _, _, _, sm⟩ := hP; exact SqL.of (sm _ _ ht1.1)) (fun i x H3 hxi hP => ?_) (fun H3 hP => ?_)
    · obtain ⟨bs, hb, eb, lb, nb, sm⟩ := hP
      obtain ⟨p, ep, rfl, hp⟩ := ht1.at hxi
      have er : rs[i]? = some p.2 := by rw [← ert]; exact rws_at ep
      refine ⟨rfl, _, rfl, a, _, dx, _, _, rfl, sm _ _ ha1, T_Lister.cl, T_Lister.nW, fl_w, _, rfl, _, rfl, w, o, p.1, n, xs, p.2, rfl, L.wy, sm _ _ ho1, sm _ _ hp, hx, L.ord _ (List.mem_of_getElem? er), L.n1, by omega, fun H4 s4 => ?_⟩
      have t4 := sm.trans s4
      refine ⟨_, rfl, a, _, dx, _, _, rfl, t4 _ _ ha1, T_Lister.cl, T_Lister.nD, fl_d, _, _, rfl, rfl, _, rfl, ite2 (fun z => ?_) (fun z => ?_)⟩
      · refine ⟨_, rfl, p.1, _, rfl, .inl (SqL.of (t4 _ _ hp)), fun c nc => ?_⟩
        have s5 := same_new (o := .lst (p.2.map V.int)) nc
        have hb4 := hb.same s4
        have npc : D ≠ c := ne_of_none hb4.1 nc
        have hi : i < 120 := by
          have := (List.getElem?_eq_some_iff.mp ep).1
          omega
        have hbl : bs.length ≤ i := by
          have := congrArg List.length eb
          have h2 := List.length_filter_le (fun r => decide (farW w xs r < d)) (rs.take i)
          rw [List.length_map] at this
          rw [List.length_take] at h2
          unfold nearR at this
          omega
        refine ⟨_, s5 _ _ hb4.1, line_lt (by rw [List.length_map]; omega), bs ++ [(c, p.2)], ⟨by rw [upd_same, List.map_append]; rfl, fun u hu => ?_⟩, ?_, by rw [List.length_append]; show _ + 1 ≤ _; omega, fun u hu => ?_, fun b ob h => ?_⟩
        · rcases List.mem_append.mp hu with hu | hu
          · rw [upd_ne (nb u hu).2]
            exact s5 _ _ (hb4.2 u hu)
          · rw [List.mem_singleton.mp hu, upd_ne npc.symm, upd_same]
        · unfold nearR at eb ⊢
          rw [filter_p _ er, if_pos z, ← eb]
          show List.map _ (bs ++ [(c, p.2)]) = _
          rw [List.map_append]
          rfl
        · rcases List.mem_append.mp hu with hu | hu
          · exact nb u hu
          · rw [List.mem_singleton.mp hu]
            exact ⟨t4.free nc, npc.symm⟩
        · rw [upd_ne (ne_of_none h nD)]
          exact s5 _ _ (t4 _ _ h)
      · refine ⟨bs, hb.same s4, ?_, lb, nb, t4⟩
        unfold nearR at eb ⊢
        rw [filter_p _ er, if_neg z, List.append_nil]
        exact eb
    · obtain ⟨bs, hb, eb, lb, nb, sm⟩ := hP
      rw [List.length_map, List.take_of_length_le (by rw [← ert, List.length_map]; exact Nat.le_refl _)] at eb
      have s13 := s1.trans sm
      have L3 : LsAt C_Lister H3 a e (D :: (bs.map (·.1) ++ X)) w n d rs ss := L1.growL (ys := D :: bs.map fun b : Addr × List Int => b.1) sm fun y hy => by
        rcases List.mem_cons.mp hy with rfl | hy
        · exact ⟨nD, _, hb.1⟩
        · obtain ⟨b, hb2, rfl⟩ := List.mem_map.mp hy
          exact ⟨(nb b hb2).1, _, hb.2 b hb2⟩
      have ntr : ∀ {x : Addr} {o : HO}, H1 x = some o → x ∉ X → x ∉ D :: (bs.map (·.1) ++ X) := fun {x o} hx h1 hm => by
        rcases List.mem_cons.mp hm with rfl | hm
        · rw [nD] at hx; cases hx
        · rcases List.mem_append.mp hm with hm | hm
          · obtain ⟨b, hb2, rfl⟩ := List.mem_map.mp hm
            rw [(nb b hb2).1] at hx
            cases hx
          · exact h1 hm
      have ha3 := s13 _ _ ha
      have ht3 := ht.same s13
      have nDa : D ≠ a := fun z => by rw [z, ha1] at nD; cases nD
      have nDe : D ≠ e := fun z => by rw [z, s1 _ _ he] at nD; cases nD
      have nbe : ∀ b ∈ bs, b.1 ≠ e := fun b hb z => by
        have h2 := (nb b hb).1
        rw [z, s1 _ _ he] at h2
        cases h2
      have nbH : ∀ b ∈ bs, H b.1 = none := fun b hb => s1.free (nb b hb).1
      refine ⟨fun σ' H' => σ' = [some (.ref a), some (.ref o), some (.ref D), none] ∧ ∃ rs' ss', (bs = [] → rs'.Perm (rs ++ [xs]) ∧ rs'.Pairwise (· ≤ ·) ∧ ss' = ss ++ [rs]) ∧ (bs ≠ [] → rs' = rs ∧ ss' = ss) ∧ LsAt C_Lister H' a e (D :: (bs.map (·.1) ++ X)) w n d rs' ss' ∧ RP H' D bs ∧ KpL a e H H', ?_, fun σ' H' hM => ?_⟩
      · refine ⟨_, rfl, D, _, rfl, .inl (SqL.of hb.1), rfl, _, rfl, ite2 (fun z => ?_) (fun z => ?_)⟩
        · have eb0 : bs = [] := by
            have z2 := V.int.inj (of_decide_eq_true z)
            rw [List.length_map] at z2
            exact List.eq_nil_of_length_eq_zero (by omega)
          refine ⟨_, rfl, a, dx, _, rfl, ha3, fl_no (by decide +kernel) (by decide +kernel) (by decide +kernel) (by decide +kernel) (by decide +kernel), ?_⟩
          refine ⟨_, rfl, a, _, dx, _, _, rfl, ha3, T_Lister.cl, T_Lister.nT, fl_t, _, rfl, o, _, rfl, .inl (SqL.of (s13 _ _ ho)), fun c nc => ?_⟩
          have s5 := same_new (o := .lst (xs.map V.int)) nc
          refine ⟨(by show 1 ≤ sizeLine; decide), fun u nu => ?_⟩
          have s6 := same_new (o := .lst [V.ref c]) nu
          refine ⟨t, u, _, _, rfl, rfl, s6 _ _ (s5 _ _ ht3.1), upd_same, ?_, fun v nv => ?_⟩
          · refine Nat.le_of_lt (line_lt ?_)
            rw [List.length_map]
            show _ + 1 < _
            omega
          have s7 := same_new (o := .lst (ps.map (fun p => V.ref p.1) ++ [V.ref c])) nv
          have ev : ps.map (fun p => V.ref p.1) ++ [V.ref c] = (ps ++ [(c, xs)]).map fun p => V.ref p.1 := by
            rw [List.map_append]
            rfl
          have hall : ∀ p ∈ ps ++ [(c, xs)], (upd (upd (upd H3 c (.lst (xs.map V.int))) u (.lst [V.ref c])) v (.lst (ps.map (fun p => V.ref p.1) ++ [V.ref c]))) p.1 = some (.lst (p.2.map V.int)) := fun p hp => by
            rcases List.mem_append.mp hp with hp | hp
            · exact s7 _ _ (s6 _ _ (s5 _ _ (ht3.2 p hp)))
            · rw [List.mem_singleton.mp hp]
              exact s7 _ _ (s6 _ _ upd_same)
          refine ⟨v, ps ++ [(c, xs)], rfl, by rw [← ev]; exact SqL.of upd_same, fun p hp => dp_list (hall p hp), fun y ny => ?_⟩
          have s8 := same_new (o := .lst ((rowsR (ps ++ [(c, xs)])).map fun p => V.ref p.1)) ny
          have s58 := s5.trans (s6.trans (s7.trans s8))
          have he3 := s13 _ _ he
          have nHX : ∀ {b : Addr} {G : Hp}, Same H3 G → G b = none → b ∉ D :: (bs.map (·.1) ++ X) := fun sG h hm => by
            obtain ⟨o, ho⟩ := L3.tr _ hm
            rw [sG _ _ ho] at h
            cases h
          refine ⟨a, e, y, _, w, n, d, rs, ss, rowsR (ps ++ [(c, xs)]), rfl, L3.same s58, ⟨upd_same, fun p hp => s8 _ _ (hall p ((rowsR_perm _).mem_iff.mp hp))⟩, nHX (s5.trans (s6.trans s7)) ny, fun p hp => ?_, fun r hr => ?_, hz, fun H' L' k' => ?_⟩
          · rcases List.mem_append.mp ((rowsR_perm _).mem_iff.mp hp) with hp | hp
            · exact ntr (ht1.2 p hp) (npX p hp)
            · rw [List.mem_singleton.mp hp]
              exact nHX (Same.refl _) nc
          · obtain ⟨p, hp, rfl⟩ := List.mem_map.mp hr
            rcases List.mem_append.mp ((rowsR_perm _).mem_iff.mp hp) with hp | hp
            · exact L.ord _ (by rw [← ert]; exact List.mem_map_of_mem hp)
            · rw [List.mem_singleton.mp hp]
              exact hx
          · have kk := (KpL.of_same (a := a) (e := e) s58).trans k'
            refine ⟨rfl, _, _, fun _ => ⟨?_, rowsR_sorted _, rfl⟩, fun z2 => absurd eb0 z2, L', hb.kpl kk ha3 nDe nbe, (KpL.of_same s13).trans kk⟩
            have := rws_perm (rowsR_perm (ps ++ [(c, xs)]))
            rw [show rws (ps ++ [(c, xs)]) = rs ++ [xs] by rw [← ert]; show List.map _ _ = _; rw [List.map_append]; rfl] at this
            exact this
        · have nb0 : bs ≠ [] := fun z2 => z (by rw [z2]; rfl)
          exact ⟨rfl, rs, ss, fun z2 => absurd z2 nb0, fun _ => ⟨rfl, rfl⟩, L3, hb, KpL.of_same s13⟩
      · obtain ⟨rfl, rs', ss', c1, c2, L', hb', kk⟩ := hM
        exact ⟨_, rfl, q D bs rs' ss' H' eb c1 c2 ⟨hb', nHD, nbH⟩ L' kk⟩
end
end Fo
namespace Fo
open PySem PySem.Spec PyProof.Rows L2
/-- a list of unlike orders -/
def spUnl : Sp := fun vs H Q _ => ∃ (l : Addr) (as : List Addr) (rs : List (List Int)) (n : Nat), vs = [.ref l] ∧ OL H l as rs n ∧ rs.Nodup ∧ rs.length ≤ 60 ∧ ∀ H', Same H H' → Q (.bl true) H'
def spCUnl : Sp := fun vs H Q _ => ∃ (l : Addr) (as : List Addr) (rs : List (List Int)) (n : Nat), vs = [.ref l] ∧ OL H l as rs n ∧ rs.Nodup ∧ 1 ≤ rs.length ∧ rs.length ≤ 60 ∧ ∀ H', Same H H' → Q .non H'
def spLed : Sp := fun vs H Q _ => ∃ (w : Str) (a l : Addr) (as : List Addr) (xs : List Int) (rs : List (List Int)) (n : Nat), vs = [.str w, .ref a, .ref l] ∧ IsWay w ∧ H a = some (.lst (xs.map V.int)) ∧ IsOrd n xs ∧ OL H l as rs n ∧ rs.Nodup ∧ 1 ≤ rs.length ∧ rs.length ≤ 60 ∧ ∀ H', Same H H' → Q .non H'
def spThose : Sp := fun vs H Q _ => ∃ (w : Str) (a l : Addr) (as : List Addr) (xs : List Int) (rs : List (List Int)) (n : Nat) (r : Int), vs = [.str w, .ref a, .ref l, .int r] ∧ IsWay w ∧ H a = some (.lst (xs.map V.int)) ∧ IsOrd n xs ∧ OL H l as rs n ∧ rs.length ≤ 1000 ∧
  ∀ (l' : Addr) (as' : List Addr) (H' : Hp), H l' = none → (∀ a ∈ as', H a = none) → l' ∉ as' → H' l' = some (.lst (as'.map V.ref)) → LL H' as' (rs.filter fun o => decide (farW w xs o ≤ r)) → Same H H' → Q (.ref l') H'
theorem filter_mo {α : Type} {p : α → Bool} {l : List α} {i : Nat} {x : α} (h : l[i]? = some x) : (l.take (i + 1)).filter p = (l.take i).filter p ++ (if p x = true then [x] else []) := by
  rw [take_more' h, List.filter_append, List.filter_cons]
  rfl
section
variable {P : Program} {w : World} {K : PySem.W.Frag} {mg : Str → Option Value} {base : Heap}
theorem scCUnl : FnScope ["thing"] ["thing"] (defScope s_check_unlike_list) := ⟨rfl, rfl, rfl, by decide +kernel, rfl, by decide +kernel, by decide +kernel⟩
theorem ok_cunl {f f1 : Addr} {fd d1 : FuncData} {k : Nat} {t : Tok} (T : Df K mg "check_unlike_list" s_check_unlike_list ["thing"] f fd) (T_is_unlike_list : Df K mg "is_unlike_list" s_is_unlike_list ["thing"] f1 d1) (G_is_unlike_list : FnOk P w K mg base CX0 k f1 d1 ["thing"] spUnl) (B : Bi mg) (mO : mg "MOST_ORDERS" = some (.int 120 t)) : FnOk P w K mg base CX0 (k + 1) f fd ["thing"] spCUnl := by
  refine T.F.ok scCUnl (fun vs H Q E h => ?_) (fun cdv A outer s H vs Q E hr h => ?_)
  · obtain ⟨l, as, rs, n, rfl, _⟩ := h
    rfl
  · obtain ⟨l, as, rs, n, rfl, hO, nd, h1, h2, q⟩ := h
    have hal := hO.ll.len
    have hml : (as.map V.ref).length = as.length := List.length_map _
    refine ⟨_, 
      (pss_one (ps_if (PW.pt (pw_or (pt_not (pt_val (pe_call G_is_unlike_list hr (by rfl) T_is_unlike_list.g T_is_unlike_list.F.kp T_is_unlike_list.b .nil pass0 (pa_cons (pv 0) pa_nil)))) (pw_or (pt_cmpR op_eq (pe_callB call_len_seq (by rfl) B.len PySem.boot_len (pa_cons (pv 0) pa_nil)) pe_int (nomark _)) (pw_or1 (pt_cmpR op_gt (pe_callB call_len_seq (by rfl) B.len PySem.boot_len (pa_cons (pv 0) pa_nil)) (pe_glob (v := .int 120) (by rfl) mO ⟨_, rfl⟩) (nomark _))))))
        (pss_one ps_never)
        pss_nil)), ?_⟩
    refine ⟨_, rfl, l, as, rs, n, rfl, hO, nd, h2, fun H1 s1 => ⟨_, rfl, iteF ?_⟩⟩
    have t1 := (hO.same s1).top
    refine ⟨_, rfl, l, _, rfl, .inl (SqL.of t1), rfl, _, rfl, ite2 (fun c => ?_) (fun _ => ?_)⟩
    · exfalso
      have z : V.int (((as.map V.ref).length : Nat) : Int) = V.int 0 := of_decide_eq_true c
      have z2 : (((as.map V.ref).length : Nat) : Int) = 0 := V.int.inj z
      omega
    refine ⟨_, rfl, l, _, rfl, .inl (SqL.of t1), _, 120, rfl, rfl, _, rfl, ite2 (fun c => absurd (of_decide_eq_true c) (by rw [hml]; omega)) (fun _ => q _ s1)⟩
theorem scLed : FnScope ["way", "order", "orders"] ["way", "order", "orders"] (defScope s_check_led) := ⟨rfl, rfl, rfl, by decide +kernel, rfl, by decide +kernel, by decide +kernel⟩
theorem ok_led {f f1 f2 f3 f4 : Addr} {fd d1 d2 d3 d4 : FuncData} {k : Nat} (T : Df K mg "check_led" s_check_led ["way", "order", "orders"] f fd) (T_check_order : Df K mg "check_order" s_check_order ["thing"] f1 d1) (T_check_unlike_list : Df K mg "check_unlike_list" s_check_unlike_list ["thing"] f2 d2) (T_check_way : Df K mg "check_way" s_check_way ["thing"] f3 d3) (T_check_fit : Df K mg "check_fit" s_check_fit ["one", "other"] f4 d4)
    (G_check_order : FnOk P w K mg base CX0 k f1 d1 ["thing"] spCheck) (G_check_unlike_list : FnOk P w K mg base CX0 k f2 d2 ["thing"] spCUnl) (G_check_way : FnOk P w K mg base CX0 k f3 d3 ["thing"] spWay) (G_check_fit : FnOk P w K mg base CX0 k f4 d4 ["one", "other"] spFit) (B : Bi mg) : FnOk P w K mg base CX0 (k + 1) f fd ["way", "order", "orders"] spLed := by
  refine T.F.ok scLed (fun vs H Q E h => ?_) (fun cdv A outer s H vs Q E hr h => ?_)
  · obtain ⟨wy, a, l, as, xs, rs, n, rfl, _⟩ := h
    rfl
  · obtain ⟨wy, a, l, as, xs, rs, n, rfl, hw, ha, ox, hO, nd, h1, h2, q⟩ := h
    have hal := hO.ll.len
    refine ⟨_, 
      (pss_cons (ps_expr (pe_call G_check_order hr (by rfl) T_check_order.g T_check_order.F.kp T_check_order.b .nil pass0 (pa_cons (pv 1) pa_nil)))
      (pss_cons (ps_expr (pe_call G_check_unlike_list hr (by rfl) T_check_unlike_list.g T_check_unlike_list.F.kp T_check_unlike_list.b .nil pass0 (pa_cons (pv 2) pa_nil)))
      (pss_cons (ps_expr (pe_call G_check_way hr (by rfl) T_check_way.g T_check_way.F.kp T_check_way.b .nil pass0 (pa_cons (pv 0) pa_nil)))
      (pss_one (ps_expr (pe_call G_check_fit hr (by rfl) T_check_fit.g T_check_fit.F.kp T_check_fit.b .nil pass0 (pa_cons (pv 1) (pa_cons (pe_ix ix_list (pv 2) pe_int (fun _ _ => rfl)) pa_nil)))))))), ?_⟩
    refine ⟨_, rfl, a, n, xs, rfl, ha, ox, hO.n1, hO.n2, fun H1 s1 => ?_⟩
    refine ⟨_, rfl, l, as, rs, n, rfl, hO.same s1, nd, h1, h2, fun H2 s2 => ?_⟩
    have s12 := s1.trans s2
    have hO2 := hO.same s12
    obtain ⟨a0, ea0⟩ : ∃ a0, as[0]? = some a0 := ⟨as[0]'(by omega), List.getElem?_eq_getElem (by omega)⟩
    obtain ⟨r0, er0, ha0⟩ := hO2.ll.get ea0
    have l2 := (hO.ord r0 (List.mem_of_getElem? er0)).len
    refine ⟨_, rfl, wy, rfl, hw, ?_⟩
    exact ⟨_, rfl, _, rfl, l, _, 0, _, rfl, rfl, SqL.of hO2.top, at_of (j := 0) rfl (ref_at ea0), a, a0, xs, r0, rfl, s12 _ _ ha, ha0, by rw [ox.len, l2], q _ s12⟩
theorem scThose : FnScope ["way", "order", "orders", "r", "other"] ["way", "order", "orders", "r"] (defScope s_those_within) := ⟨rfl, rfl, rfl, by decide +kernel, rfl, by decide +kernel, by decide +kernel⟩
set_option maxHeartbeats 4000000 in
theorem ok_those {f f1 : Addr} {fd d1 : FuncData} {k : Nat} (T : Df K mg "those_within" s_those_within ["way", "order", "orders", "r"] f fd) (T_known_far : Df K mg "known_far" s_known_far ["way", "one", "other"] f1 d1) (G_known_far : FnOk P w K mg base CX0 k f1 d1 ["way", "one", "other"] spFar) (B : Bi mg) : FnOk P w K mg base CX0 (k + 1) f fd ["way", "order", "orders", "r"] spThose := by
  refine T.F.ok scThose (fun vs H Q E h => ?_) (fun cdv A outer s H vs Q E hr h => ?_)
  · obtain ⟨wy, a, l, as, xs, rs, n, r, rfl, _⟩ := h
    rfl
  · obtain ⟨wy, a, l, as, xs, rs, n, r, rfl, hw, ha, ox, hO, hlen, q⟩ := h
    have hal := hO.ll.len
    refine ⟨_, 
      (pss_one (ps_ret (pe_lc (own := [("other", 4)]) (g := (gName 4)) (tt := (tTest (tOp (rI0 fun i j => .bl (decide (i ≤ j))) (tCall spFar [] E0 (tCons (tVar 0) (tCons (tVar 1) (tCons (tVar 4) tNil)))) (tVar 3)))) (te := (tCB (rListOf K) (tCons (tVar 4) tNil))) rfl scThose.nd (pi_list (pv 2)) (blkOk_by (N := ["way", "order", "orders", "r", "other"]) (sc := defScope s_those_within) (by decide +kernel)) (fun _ _ _ _ _ => (pg_name (i := 4) scThose.nd rfl (.inl rfl))) (fun _ _ _ _ _ => (pts_one (pt_cmpR op_le (pe_call G_known_far hr (by rfl) T_known_far.g T_known_far.F.kp T_known_far.b .nil pass0 (pa_cons (pv 0) (pa_cons (pv 1) (pa_cons (pv 4) pa_nil)))) (pv 3) (nomark _)))) (fun _ _ _ _ _ => (pe_callTy call_list_of (by rfl) B.list (by decide +kernel) (pa_cons (pv 4) pa_nil)))))), ?_⟩
    refine ⟨_, rfl, l, rfl, ⟨_, SqL.of hO.top⟩, fun p np => ?_⟩
    refine lc_list (K := K) (a := l) (xs := as.map V.ref) (fun i H3 => ∃ bs : List Addr, H3 p = some (.lst (bs.map V.ref)) ∧ LL H3 bs ((rs.take i).filter fun o => decide (farW wy xs o ≤ r)) ∧ (∀ a ∈ bs, H a = none) ∧ p ∉ bs ∧ Same H H3) ⟨[], upd_same, trivial, fun a ha => absurd ha List.not_mem_nil, List.not_mem_nil, same_new np⟩ (fun i H3 _ hP => by obtain ⟨_, _, _, _, _, sm⟩ := hP; exact SqL.of (sm _ _ hO.top)) (fun i x H3 hx hP => ?_) (fun H3 hP => ?_)
    · obtain ⟨c0, ec, rfl⟩ := ref_at_inv hx
      obtain ⟨bs, hp3, hL3, hn3, np3, sm⟩ := hP
      obtain ⟨row, er, hc⟩ := (hO.ll.same sm).get ec
      have hbl := hL3.len
      have hbl2 : bs.length ≤ 1000 := by
        rw [hbl]
        exact Nat.le_trans (List.length_filter_le _ _) (by rw [List.length_take]; omega)
      refine ⟨rfl, _, rfl, _, rfl, _, rfl, wy, a, c0, n, xs, row, rfl, hw, sm _ _ ha, hc, ox, hO.ord row (List.mem_of_getElem? er), hO.n1, hO.n2, fun H4 s4 => ?_⟩
      refine ⟨_, rfl, _, _, rfl, rfl, _, rfl, ite2 (fun z => ?_) (fun z => ?_)⟩
      · refine ⟨_, rfl, c0, _, rfl, .inl (SqL.of (s4 _ _ hc)), fun c nc => ?_⟩
        have s5 := s4.trans (same_new (o := .lst (row.map V.int)) nc)
        have npc : p ≠ c := ne_of_none (s4 _ _ hp3) nc
        refine ⟨_, s5 _ _ hp3, line_lt (by rw [List.length_map]; omega), bs ++ [c], by rw [upd_same, List.map_append]; rfl, ?_, fun u hu => ?_, fun hu => ?_, fun b o e => ?_⟩
        · rw [filter_mo er, if_pos z]
          refine LL.snoc ((hL3.same s5).keep fun u hu o e => ?_) ?_
          · rw [upd_ne (fun q => np3 (by rw [← q]; exact hu))]
            exact e
          · rw [upd_ne npc.symm, upd_same]
        · rcases List.mem_append.mp hu with h | h
          · exact hn3 u h
          · rw [List.mem_singleton.mp h]
            exact (sm.trans s4).free nc
        · rcases List.mem_append.mp hu with h | h
          · exact np3 h
          · exact npc (List.mem_singleton.mp h)
        · rw [upd_ne (ne_of_none e np)]
          exact s5 _ _ (sm _ _ e)
      · refine ⟨bs, s4 _ _ hp3, ?_, hn3, np3, sm.trans s4⟩
        rw [filter_mo er, if_neg z, List.append_nil]
        exact hL3.same s4
    · obtain ⟨bs, hp3, hL3, hn3, np3, sm⟩ := hP
      rw [List.take_of_length_le (by rw [List.length_map]; omega)] at hL3
      exact q p bs H3 np hn3 np3 hp3 hL3 sm
end
end Fo
namespace Fo
open PySem PySem.Spec PyProof.Rows L2
/-- those of rs that lie within r of xs -/
def thoseL (w : Str) (xs : List Int) (rs : List (List Int)) (r : Int) : List (List Int) := rs.filter fun o => decide (farW w xs o ≤ r)
/-- m is the least distance -/
def LeastF (w : Str) (xs : List Int) (rs : List (List Int)) (m : Int) : Prop := m ∈ rs.map (farW w xs) ∧ ∀ y ∈ rs.map (farW w xs), m ≤ y
def spNearest : Sp := fun vs H Q _ => ∃ (w : Str) (a l : Addr) (as : List Addr) (xs : List Int) (rs : List (List Int)) (n : Nat), vs = [.str w, .ref a, .ref l] ∧ IsWay w ∧ H a = some (.lst (xs.map V.int)) ∧ IsOrd n xs ∧ OL H l as rs n ∧ rs.Nodup ∧ 1 ≤ rs.length ∧ rs.length ≤ 60 ∧
  ∀ (t l' : Addr) (as' : List Addr) (m : Int) (H' : Hp), H t = none → H l' = none → (∀ a ∈ as', H a = none) → l' ∉ as' → LeastF w xs rs m → H' t = some (.tup [.int m, .ref l']) → OL H' l' as' (thoseL w xs rs m) n → Same H H' → Q (.ref t) H'
/-- what led_back tells -/
def LedAt (H' : Hp) (t : Addr) (fr : Addr → Prop) (ns : List (List Int)) : Prop :=
  (ns = [] ∧ H' t = some (.tup [.str "none"])) ∨ (∃ (o : List Int) (c : Addr), ns = [o] ∧ fr c ∧ H' t = some (.tup [.str "one", .ref c]) ∧ H' c = some (.lst (o.map V.int))) ∨
  ∃ (l' : Addr) (as' : List Addr), 2 ≤ ns.length ∧ fr l' ∧ (∀ a ∈ as', fr a) ∧ l' ∉ as' ∧ H' t = some (.tup [.str "several", .ref l']) ∧ H' l' = some (.lst (as'.map V.ref)) ∧ LL H' as' ns
def spLedBack : Sp := fun vs H Q _ => ∃ (w : Str) (a l : Addr) (as : List Addr) (xs : List Int) (rs : List (List Int)) (n : Nat) (e : Int), vs = [.str w, .ref a, .ref l, .int e] ∧ IsWay w ∧ H a = some (.lst (xs.map V.int)) ∧ IsOrd n xs ∧ OL H l as rs n ∧ rs.Nodup ∧ 1 ≤ rs.length ∧ rs.length ≤ 60 ∧ 0 ≤ e ∧
  ∀ (t : Addr) (H' : Hp), H t = none → LedAt H' t (fun b => H b = none) (thoseL w xs rs e) → Same H H' → Q (.ref t) H'
section
variable {P : Program} {w : World} {K : PySem.W.Frag} {mg : Str → Option Value} {base : Heap}
theorem scNearest : FnScope ["way", "order", "orders", "r", "other"] ["way", "order", "orders"] (defScope s_nearest_of) := ⟨rfl, rfl, rfl, by decide +kernel, rfl, by decide +kernel, by decide +kernel⟩
set_option maxHeartbeats 4000000 in
theorem ok_nearest {f f1 f2 f3 : Addr} {fd d1 d2 d3 : FuncData} {k : Nat} (T : Df K mg "nearest_of" s_nearest_of ["way", "order", "orders"] f fd) (T_check_led : Df K mg "check_led" s_check_led ["way", "order", "orders"] f1 d1) (T_known_far : Df K mg "known_far" s_known_far ["way", "one", "other"] f2 d2) (T_those_within : Df K mg "those_within" s_those_within ["way", "order", "orders", "r"] f3 d3)
    (G_check_led : FnOk P w K mg base CX0 k f1 d1 ["way", "order", "orders"] spLed) (G_known_far : FnOk P w K mg base CX0 k f2 d2 ["way", "one", "other"] spFar) (G_those_within : FnOk P w K mg base CX0 k f3 d3 ["way", "order", "orders", "r"] spThose) (B : Bi mg) : FnOk P w K mg base CX0 (k + 1) f fd ["way", "order", "orders"] spNearest := by
  refine T.F.ok scNearest (fun vs H Q E h => ?_) (fun cdv A outer s H vs Q E hr h => ?_)
  · obtain ⟨wy, a, l, as, xs, rs, n, rfl, _⟩ := h
    rfl
  · obtain ⟨wy, a, l, as, xs, rs, n, rfl, hw, ha, ox, hO, nd, h1, h2, q⟩ := h
    have hal := hO.ll.len
    refine ⟨_, 
      (pss_cons (ps_expr (pe_call G_check_led hr (by rfl) T_check_led.g T_check_led.F.kp T_check_led.b .nil pass0 (pa_cons (pv 0) (pa_cons (pv 1) (pa_cons (pv 2) pa_nil)))))
      (pss_cons (ps_set (i := 3) scNearest.nd rfl (.inl rfl) (pe_callB (cr_min rfl) (by rfl) B.min (by decide +kernel) (pa_cons (pe_lc (own := [("other", 4)]) (g := (gName 4)) (tt := tYes) (te := (tCall spFar [] E0 (tCons (tVar 0) (tCons (tVar 1) (tCons (tVar 4) tNil))))) rfl scNearest.nd (pi_list (pv 2)) (blkOk_by (N := ["way", "order", "orders", "r", "other"]) (sc := defScope s_nearest_of) (by decide +kernel)) (fun _ _ _ _ _ => (pg_name (i := 4) scNearest.nd rfl (.inl rfl))) (fun _ _ _ _ _ => pts_nil) (fun _ _ _ _ _ => (pe_call G_known_far hr (by rfl) T_known_far.g T_known_far.F.kp T_known_far.b .nil pass0 (pa_cons (pv 0) (pa_cons (pv 1) (pa_cons (pv 4) pa_nil)))))) pa_nil)))
      (pss_one (ps_ret (pe_tup (pa_cons (pv 3) (pa_cons (pe_call G_those_within hr (by rfl) T_those_within.g T_those_within.F.kp T_those_within.b .nil pass0 (pa_cons (pv 0) (pa_cons (pv 1) (pa_cons (pv 2) (pa_cons (pv 3) pa_nil))))) pa_nil))))))), ?_⟩
    refine ⟨_, rfl, _, rfl, _, rfl, wy, a, l, as, xs, rs, n, rfl, hw, ha, ox, hO, nd, h1, h2, fun H1 s1 => ?_⟩
    have hO1 := hO.same s1
    refine ⟨_, rfl, l, rfl, ⟨_, SqL.of hO1.top⟩, fun p np => ?_⟩
    refine lc_list (K := K) (a := l) (xs := as.map V.ref) (fun i H3 => H3 p = some (.lst (((rs.take i).map (farW wy xs)).map V.int)) ∧ Same H1 H3) ⟨upd_same, same_new np⟩ (fun i H3 _ hP => SqL.of (hP.2 _ _ hO1.top)) (fun i x H3 hx hP => ?_) (fun H3 hP => ?_)
    · obtain ⟨c0, ec, rfl⟩ := ref_at_inv hx
      obtain ⟨hp3, sm⟩ := hP
      obtain ⟨row, er, hc⟩ := (hO1.ll.same sm).get ec
      refine ⟨rfl, _, rfl, _, rfl, _, rfl, wy, a, c0, n, xs, row, rfl, hw, sm _ _ (s1 _ _ ha), hc, ox, hO.ord row (List.mem_of_getElem? er), hO.n1, hO.n2, fun H4 s4 => ?_⟩
      refine ⟨_, s4 _ _ hp3, line_lt (by rw [List.length_map, List.length_map, List.length_take]; omega), ?_, fun b o e => ?_⟩
      · rw [upd_same, take_more' er, List.map_append, List.map_append]
        rfl
      · rw [upd_ne (ne_of_none e np)]
        exact s4 _ _ (sm _ _ e)
    · obtain ⟨hp3, sm⟩ := hP
      rw [List.take_of_length_le (by rw [List.length_map]; omega)] at hp3
      refine ⟨p, _, rfl, SqL.of hp3, by rw [List.length_map]; omega, fun m hm hall => ?_⟩
      have s13 := s1.trans sm
      refine ⟨_, rfl, _, rfl, _, rfl, _, rfl, _, rfl, wy, a, l, as, xs, rs, n, m, rfl, hw, s13 _ _ ha, ox, hO.same s13, by omega, fun l' as' H4 nl' nas' nin' hl' hLL' s4 => ?_⟩
      have s14 := s13.trans s4
      refine ⟨line_small (by show 2 ≤ 16777216; decide), fun t nt => ?_⟩
      have s5 := same_new (o := .tup [.int m, .ref l']) nt
      exact q t l' as' m _ (s14.free nt) (s13.free nl') (fun a ha => s13.free (nas' a ha)) nin' ⟨hm, hall⟩ upd_same ⟨s5 _ _ hl', hLL'.same s5, fun r hr => hO.ord r (List.mem_filter.mp hr).1, hO.n1, hO.n2⟩ (s14.trans s5)
end
end Fo
namespace Fo
open PySem PySem.Spec PyProof.Rows L2 PpSet
section
variable {P : Program} {w : World} {K : PySem.W.Frag} {mg : Str → Option Value} {base : Heap}
theorem scUnl : FnScope ["thing", "order"] ["thing"] (defScope s_is_unlike_list) := ⟨rfl, rfl, rfl, by decide +kernel, rfl, by decide +kernel, by decide +kernel⟩
set_option maxHeartbeats 4000000 in
theorem ok_unl {f f1 : Addr} {fd d1 : FuncData} {k : Nat} (T : Df K mg "is_unlike_list" s_is_unlike_list ["thing"] f fd) (T_is_order_list : Df K mg "is_order_list" s_is_order_list ["thing"] f1 d1) (G_is_order_list : FnOk P w K mg base CX0 k f1 d1 ["thing"] spOLst) (B : Bi mg) : FnOk P w K mg base CX0 (k + 1) f fd ["thing"] spUnl := by
  refine T.F.ok scUnl (fun vs H Q E h => ?_) (fun cdv A outer s H vs Q E hr h => ?_)
  · obtain ⟨l, as, rs, n, rfl, _⟩ := h
    rfl
  · obtain ⟨l, as, rs, n, rfl, hO, nd, hlen, q⟩ := h
    have hal := hO.ll.len
    have hml : (as.map V.ref).length = as.length := List.length_map _
    refine ⟨_, 
      (pss_one (ps_ret (pe_and (pe_call G_is_order_list hr (by rfl) T_is_order_list.g T_is_order_list.F.kp T_is_order_list.b .nil pass0 (pa_cons (pv 0) pa_nil)) (pe_one (pe_cmpR op_eq (pe_callB call_lenST (by rfl) B.len PySem.boot_len (pa_cons (pe_scG (freshT _ _) (addT hr.units) (own := [("order", 1)]) (g := (gName 1)) (tt := tYes) (te := (tCB (rTupOf K) (tCons (tVar 1) tNil))) rfl scUnl.nd (pi_list (pv 0)) (blkOk_by (N := ["thing", "order"]) (sc := defScope s_is_unlike_list) (by decide +kernel)) (fun _ _ _ _ _ => (pg_name (i := 1) scUnl.nd rfl (.inl rfl))) (fun _ _ _ _ _ => pts_nil) (fun _ _ _ _ _ => (pe_callTy call_tuple_of (by rfl) B.tuple (by decide +kernel) (pa_cons (pv 1) pa_nil)))) pa_nil)) (pe_callB call_len_seq (by rfl) B.len PySem.boot_len (pa_cons (pv 0) pa_nil)) (nomark _)))))), ?_⟩
    refine ⟨_, rfl, l, as, rs, n, rfl, hO, by omega, fun H1 s1 => ⟨_, rfl, iteT ?_⟩⟩
    have hO1 := hO.same s1
    refine ⟨_, rfl, l, rfl, ⟨_, SqL.of hO1.top⟩, fun D nD => ?_⟩
    refine scT_list (K := K) (a := l) (xs := as.map V.ref) (fun i G => ∃ L : List (Addr × List Int), G D = some (SetTO P w D L) ∧ (∀ p ∈ L, G p.1 = some (.tup (p.2.map V.int)) ∧ p.1 ≠ D) ∧ L.length = i ∧ (∀ p ∈ L, p.2 ∈ rs.take i) ∧ Same H1 G)
      ⟨[], upd_same, fun p hp => absurd hp List.not_mem_nil, rfl, fun p hp => absurd hp List.not_mem_nil, same_new nD⟩ (fun i G _ hP => by obtain ⟨_, _, _, _, _, sm⟩ := hP; exact SqL.of (sm _ _ hO1.top)) (fun i x G hx hP => ?_) (fun G hP => ?_)
    · obtain ⟨a, ea, rfl⟩ := ref_at_inv hx
      obtain ⟨L, hD, hL, hLl, hin, sm⟩ := hP
      obtain ⟨r, er, ha⟩ := (hO1.ll.same sm).get ea
      have hi := (List.getElem?_eq_some_iff.mp er).1
      refine ⟨rfl, _, rfl, a, _, rfl, .inl ⟨SqL.of ha, fun c nc => ?_⟩⟩
      have s4 := same_new (o := .tup (r.map V.int)) nc
      have ncD : c ≠ D := (ne_of_none hD nc).symm
      refine ⟨c, r, L, rfl, SqT.of upd_same, s4 _ _ hD, fun p hp => SqT.of (s4 _ _ (hL p hp).1), by omega, fun L' h1 h2 => ?_⟩
      have hnot : r ∉ L.map (·.2) := fun hm => by
        obtain ⟨p, hp, e⟩ := List.mem_map.mp hm
        have h3 := hin p hp
        rw [e] at h3
        obtain ⟨j, hj⟩ := List.getElem?_of_mem h3
        have hj2 := (List.getElem?_eq_some_iff.mp hj).1
        rw [List.length_take] at hj2
        rw [List.getElem?_take_of_lt (by omega)] at hj
        have hj3 := (List.getElem?_eq_some_iff.mp hj).1
        have e1 := (List.getElem?_eq_some_iff.mp hj).2
        have e2 := (List.getElem?_eq_some_iff.mp er).2
        exact absurd (e1.trans e2.symm) (List.pairwise_iff_getElem.mp nd j i hj3 hi (by omega))
      have hp' := h2 hnot
      refine ⟨L', upd_same, fun p hp => ?_, by rw [hp'.length_eq, List.length_cons, hLl], fun p hp => ?_, fun b o e => ?_⟩
      · rcases List.mem_cons.mp (hp'.mem_iff.mp hp) with e | e
        · rw [e]
          exact ⟨by rw [upd_ne ncD]; exact upd_same, ncD⟩
        · obtain ⟨u1, u2⟩ := hL p e
          exact ⟨by rw [upd_ne u2]; exact s4 _ _ u1, u2⟩
      · rw [take_more' er]
        rcases List.mem_cons.mp (hp'.mem_iff.mp hp) with e | e
        · rw [e]
          exact List.mem_append_right _ List.mem_cons_self
        · exact List.mem_append_left _ (hin p e)
      · rw [upd_ne (ne_of_none e nD)]
        exact s4 _ _ (sm _ _ e)
    · obtain ⟨L, hD, hL, hLl, hin, sm⟩ := hP
      refine ⟨D, L, rfl, hD, fun p hp => SqT.of (hL p hp).1, _, rfl, l, _, rfl, .inl (SqL.of (sm _ _ hO1.top)), rfl, ?_⟩
      rw [hLl, decide_eq_true rfl]
      exact q _ (s1.trans sm)
end
end Fo
namespace Fo
open PySem PySem.Spec PyProof.Rows L2
abbrev dLLL (l : List (List (List Int))) : PyData := .list (l.map dLL)
theorem lay_lists3 : ∀ l : List (List (List Int)), PyData.canLayAll0 (l.map dLL) = true
  | [] => rfl
  | n :: r => by
    show (PyData.canLay0 (dLL n) && PyData.canLayAll0 (r.map dLL)) = true
    rw [lay_lists3 r, SeqAt.canLay_of_shaped (shaped_lists n)]
    rfl
theorem depth_lists3 : ∀ l : List (List (List Int)), PyData.depthAll (l.map dLL) ≤ 2
  | [] => by simp [PyData.depthAll]
  | n :: r => by
    show PyData.depthAll (dLL n :: r.map dLL) ≤ 2
    rw [PyData.depthAll, PyData.depth]
    have := depth_lists3 r
    have := depth_lists n
    omega
theorem shaped_lists3 (l : List (List (List Int))) : SeqAt.shaped (dLLL l) = true := by
  unfold SeqAt.shaped
  rw [Bool.and_eq_true_iff]
  constructor
  · rw [PyData.canLay0]
    exact lay_lists3 l
  · apply decide_eq_true
    rw [PyData.depth]
    have := depth_lists3 l
    omega
theorem eqv_isN (l : List PyData) : PyData.eqv (.list l) (.list []) = l.isEmpty := by
  cases l with
  | nil => exact eqv_lists []
  | cons d r => rfl
theorem rowsP_eq {a b : List (List Int)} (hp : a.Perm b) (ha : a.Pairwise (· ≤ ·)) (hb : b.Pairwise (· ≤ ·)) : a = b := List.Perm.eq_of_pairwise (fun x y _ _ h1 h2 => List.le_antisymm h1 h2) ha hb hp
def spTooNear : Sp := fun vs H Q _ => ∃ (h o : Addr) (w : Str) (n : Nat) (d : Int) (ps : List (Addr × List Int)) (xs : List Int), vs = [.str w, .int d, .ref h, .ref o] ∧ IsWay w ∧ RP H h ps ∧ (∀ r ∈ rws ps, IsOrd n r) ∧ ps.length ≤ 120 ∧ H o = some (.lst (xs.map V.int)) ∧ IsOrd n xs ∧ 1 ≤ n ∧ n ≤ 12 ∧
  ∀ (l : Addr) (qs : List (Addr × List Int)) (H' : Hp), (rws qs).Perm (nearR w xs d (rws ps)) → (rws qs).Pairwise (· ≤ ·) → NewRows H H' l qs → Same H H' → Q (.ref l) H'
def spFreeL : Sp := fun vs H Q _ => ∃ (D h : Addr) (w : Str) (n : Nat) (d : Int) (ps : List (Addr × List Int)), vs = [.ref D, .str w, .int n, .int d, .ref h] ∧ DqAt H D ∧ RP H h ps ∧ h ≠ D ∧ (∀ p ∈ ps, p.1 ≠ D) ∧ (∀ r ∈ rws ps, IsOrd n r) ∧ ps.length ≤ 120 ∧ 1 ≤ n ∧ n ≤ 12 ∧
  ∀ (ns : List Int) (l : Addr) (H' : Hp), IsOrd n ns → H l = none → H' l = some (.lst (ns.map V.int)) → l ≠ D → DqAt H' D → KeepD D H H' → Q (.ref l) H'
section
variable {P : Program} {w : World} {K : PySem.W.Frag} {mg : Str → Option Value} {base : Heap}
theorem scFreeL : FnScope ["deck", "way", "n", "d", "held", "kind", "order"] ["deck", "way", "n", "d", "held"] (defScope s_law_free) := ⟨rfl, rfl, rfl, by decide +kernel, rfl, by decide +kernel, by decide +kernel⟩
set_option maxHeartbeats 2000000 in
theorem ok_freeL {f f1 f2 f3 : Addr} {fd d1 d2 d3 : FuncData} {k : Nat} (T : Df K mg "_law_free" s_law_free ["deck", "way", "n", "d", "held"] f fd) (T__law_next : Df K mg "_law_next" s_law_next ["deck"] f1 d1) (G__law_next : FnOk P w K mg base CX0 k f1 d1 ["deck"] spNext) (T__law_order : Df K mg "_law_order" s_law_order ["deck", "n"] f2 d2) (G__law_order : FnOk P w K mg base CX0 k f2 d2 ["deck", "n"] spOrderN) (T__law_near : Df K mg "_law_near" s_law_near ["deck", "order"] f3 d3) (G__law_near : FnOk P w K mg base CX0 k f3 d3 ["deck", "order"] spNearN) (B : Bi mg) : FnOk P w K mg base CX0 (k + 1) f fd ["deck", "way", "n", "d", "held"] spFreeL := by
  refine T.F.ok scFreeL (fun vs H Q E h => ?_) (fun cdv A outer s H vs Q E hr h => ?_)
  · obtain ⟨D, h, w, n, d, ps, rfl, _⟩ := h
    rfl
  · obtain ⟨D, h, w, n, d, ps, rfl, hD, hh, nhD, npD, hord, hpl, hn1, hn2, q⟩ := h
    refine ⟨_, 
      (pss_cons (ps_set (i := 5) scFreeL.nd rfl (.inl rfl) (pe_op op_mod (pe_call G__law_next hr (by rfl) T__law_next.g T__law_next.F.kp T__law_next.b .nil pass0 (pa_cons (pv 0) pa_nil)) pe_int))
      (pss_cons (ps_set (i := 6) scFreeL.nd rfl (.inl rfl) (pe_call G__law_order hr (by rfl) T__law_order.g T__law_order.F.kp T__law_order.b .nil pass0 (pa_cons (pv 0) (pa_cons (pv 2) pa_nil))))
      (Evl.pss_cut (ps_if (PW.pt (pw_and (pt_cmpR (op_neD hr.units) (pv 4) (pe_lst pa_nil) (nomark _)) (pw_and1 (pt_cmpR op_gt (pv 5) pe_int (nomark _)))))
        (pss_cons (ps_set (i := 6) scFreeL.nd rfl (.inl rfl) (pe_callTy call_list_of (by rfl) B.list (by decide +kernel) (pa_cons (pe_ix ix_list (pv 4) (pe_op op_mod (pe_call G__law_next hr (by rfl) T__law_next.g T__law_next.F.kp T__law_next.b .nil pass0 (pa_cons (pv 0) pa_nil)) (pe_callB call_len_seq (by rfl) B.len PySem.boot_len (pa_cons (pv 4) pa_nil))) (fun _ _ => rfl)) pa_nil)))
        (pss_one (ps_if (pt_cmpR op_eq (pv 5) pe_int (nomark _))
          (pss_one (ps_set (i := 6) scFreeL.nd rfl (.inl rfl) (pe_call G__law_near hr (by rfl) T__law_near.g T__law_near.F.kp T__law_near.b .nil pass0 (pa_cons (pv 0) (pa_cons (pv 6) pa_nil)))))
          pss_nil)))
        pss_nil)
      (pss_one (ps_ret (pv 6)))))), ?_⟩
    refine ⟨_, rfl, D, rfl, hD, fun v1 H1 v10 v1b D1 k1 => ?_⟩
    refine ⟨v1, 4, rfl, rfl, (show (0 : Int) < 4 by decide), ?_⟩
    refine ⟨_, rfl, _, rfl, D, n, rfl, D1, hn2, fun ns l H2 on nl hl nlD D2 k2 => ?_⟩
    have k12 : KeepD D H H2 := fun b o e z => k2 b o (k1 b o e z) z
    have hh2 : RP H2 h ps := ⟨k12 _ _ hh.1 nhD, fun p hp => k12 _ _ (hh.2 p hp) (npD p hp)⟩
    have nHl : H l = none := by
      cases e : H l with
      | none => rfl
      | some o => rw [k1 l o e nlD] at nl; cases nl
    refine ⟨fun σ' H' => ∃ (ns' : List Int) (l' : Addr), σ' = [some (.ref D), some (.str w), some (.int n), some (.int d), some (.ref h), some (.int (v1 % 4)), some (.ref l')] ∧ IsOrd n ns' ∧ H l' = none ∧ H' l' = some (.lst (ns'.map V.int)) ∧ l' ≠ D ∧ DqAt H' D ∧ KeepD D H H', ?_, fun σ' H' hM => ?_⟩
    · refine ⟨_, rfl, by decide, fun u nu => ?_⟩
      have s3 := same_new (o := .lst []) nu
      refine ⟨_, _, (hh2.same s3).dp, dp_list (ns := []) upd_same, shaped_lists _, shaped_list _, ?_⟩
      have D3 := D2.new (o := .lst []) nu
      have nuD : D ≠ u := (D2.ne nu).symm
      have stop : ∃ (ns' : List Int) (l' : Addr), [some (V.ref D), some (.str w), some (.int (n : Int)), some (.int d), some (.ref h), some (.int (v1 % 4)), some (.ref l)] = [some (.ref D), some (.str w), some (.int n), some (.int d), some (.ref h), some (.int (v1 % 4)), some (.ref l')] ∧ IsOrd n ns' ∧ H l' = none ∧ (upd H2 u (.lst [])) l' = some (.lst (ns'.map V.int)) ∧ l' ≠ D ∧ DqAt (upd H2 u (.lst [])) D ∧ KeepD D H (upd H2 u (.lst [])) :=
        ⟨ns, l, rfl, on, nHl, s3 _ _ hl, nlD, D3, fun b o e z => s3 _ _ (k12 b o e z)⟩
      refine ⟨_, rfl, ?_⟩
      by_cases c : rws ps = []
      · rw [show PyData.eqv (dLL (rws ps)) (dL []) = true by rw [c]; exact eqv_list []]
        exact iteF (iteF stop)
      · have ce : PyData.eqv (dLL (rws ps)) (dL []) = false := by
          cases hps : rws ps with
          | nil => exact absurd hps c
          | cons => rfl
        rw [ce]
        refine iteT ⟨_, rfl, _, _, rfl, rfl, _, rfl, ite2 (fun z => ?_) (fun z => stop)⟩
        refine ⟨_, rfl, _, rfl, D, rfl, D3, fun v H4 v0 vb D4 k4 => ?_⟩
        have k04 : KeepD D H H4 := fun b o e z => k4 b o (s3 _ _ (k12 b o e z)) z
        have hh4 : RP H4 h ps := ⟨k04 _ _ hh.1 nhD, fun p hp => k04 _ _ (hh.2 p hp) (npD p hp)⟩
        have hlen : 0 < ps.length := by
          cases ps with
          | nil => exact absurd rfl c
          | cons => exact Nat.succ_pos _
        obtain ⟨j, ej, hj⟩ : ∃ j : Nat, v % ((ps.length : Nat) : Int) = (j : Int) ∧ j < ps.length := by
          have h1 := mod_b v (m := ((ps.length : Nat) : Int)) (by omega)
          exact ⟨(v % ((ps.length : Nat) : Int)).toNat, by omega, by omega⟩
        obtain ⟨p, ep⟩ : ∃ p, ps[j]? = some p := ⟨ps[j], List.getElem?_eq_getElem hj⟩
        have hp := hh4.2 p (List.mem_of_getElem? ep)
        have op : IsOrd n p.2 := hord _ (List.mem_map_of_mem (List.mem_of_getElem? ep))
        refine ⟨_, rfl, h, _, rfl, .inl (SqL.of hh4.1), _, _, rfl, rfl, (show (0 : Int) < _ by rw [List.length_map]; omega), ?_⟩
        refine ⟨h, _, _, _, rfl, rfl, SqL.of hh4.1, (show atI _ _ = some (V.ref p.1) from ?_), ?_⟩
        · rw [List.length_map, ej]
          exact atI_nat (by rw [List.getElem?_map, ep]; rfl)
        refine ⟨p.1, _, rfl, .inl (SqL.of hp), fun l5 n5 => ?_⟩
        have s5 := same_new (o := .lst (p.2.map V.int)) n5
        have D5 := D4.new (o := .lst (p.2.map V.int)) n5
        have n5D := D4.ne n5
        have k05 : KeepD D H (upd H4 l5 (.lst (p.2.map V.int))) := fun b o e z => s5 _ _ (k04 b o e z)
        have back : ∀ {b : Addr} {G : Hp}, KeepD D H G → G b = none → b ≠ D → H b = none := fun {b G} kk nb z => by
          cases e : H b with
          | none => rfl
          | some o => rw [kk b o e z] at nb; cases nb
        refine ⟨_, rfl, rfl, _, rfl, ite2 (fun z2 => ?_) (fun z2 => ?_)⟩
        · refine ⟨_, rfl, _, rfl, D, l5, n, p.2, rfl, D5, upd_same, op, hn1, hn2, fun ms l6 H6 om nl6 hl6 n6D D6 k6 => ?_⟩
          have k06 : KeepD D H H6 := fun b o e z => k6 b o (k05 b o e z) z
          exact ⟨ms, l6, rfl, om, back k05 nl6 n6D, hl6, n6D, D6, k06⟩
        · exact ⟨p.2, l5, rfl, op, back k04 n5 n5D, upd_same, n5D, D5, k05⟩
    · obtain ⟨ns', l', rfl, o', n', h', nl', D', k'⟩ := hM
      exact ⟨_, rfl, q ns' l' H' o' n' h' nl' D' k'⟩
end
end Fo
namespace Fo
open PySem PySem.Spec PyProof.Rows L2
/-! k73: the law's own lists, beside a Lister -/
def srt (rs : List (List Int)) : List (List Int) := (rowsR (rs.map fun r => ((0 : Addr), r))).map (·.2)
theorem srt_perm (rs : List (List Int)) : (srt rs).Perm rs := by
  have h := (rowsR_perm (rs.map fun r => ((0 : Addr), r))).map (·.2)
  rw [List.map_map] at h
  have e : rs.map ((·.2) ∘ fun r => ((0 : Addr), r)) = rs := List.map_id _
  rw [e] at h
  exact h
theorem srt_nil : srt [] = [] := List.eq_nil_of_length_eq_zero (by rw [(srt_perm []).length_eq]; rfl)
theorem srt_sorted (rs : List (List Int)) : (srt rs).Pairwise (· ≤ ·) := rowsR_sorted _
theorem srt_eq {a rs : List (List Int)} (hp : a.Perm rs) (ha : a.Pairwise (· ≤ ·)) : a = srt rs := rowsP_eq (hp.trans (srt_perm rs).symm) ha (srt_sorted rs)
theorem srt_filter (f : List Int → Bool) (rs : List (List Int)) : (srt rs).filter f = srt (rs.filter f) := srt_eq ((srt_perm rs).filter f) ((srt_sorted rs).filter f)
theorem erase_filter {x : List Int} : ∀ {l : List (List Int)} {j : Nat}, l.Nodup → l[j]? = some x → l.eraseIdx j = l.filter fun r => !decide (r = x)
  | [], _, _, h => by simp at h
  | y :: l, 0, hn, h => by
    obtain rfl : y = x := Option.some.inj h
    obtain ⟨h1, h2⟩ := List.nodup_cons.mp hn
    rw [List.filter_cons, if_neg (by simp), List.eraseIdx_cons_zero]
    exact (List.filter_eq_self.mpr fun r hr => by
      have : r ≠ y := fun z => h1 (z ▸ hr)
      simp [this]).symm
  | y :: l, j + 1, hn, h => by
    obtain ⟨h1, h2⟩ := List.nodup_cons.mp hn
    have hx : l[j]? = some x := by simpa using h
    have ne : y ≠ x := fun z => h1 (z ▸ List.mem_of_getElem? hx)
    rw [List.filter_cons, if_pos (by simp [ne]), List.eraseIdx_cons_succ, erase_filter h2 hx]
theorem tops_ne {a e D h A : Addr} {l : List Addr} (nd : (a :: e :: D :: h :: A :: l).Nodup) : (a ≠ e ∧ a ≠ D ∧ a ≠ h ∧ a ≠ A ∧ e ≠ D ∧ e ≠ h ∧ e ≠ A ∧ D ≠ h ∧ D ≠ A ∧ h ≠ A) ∧ a ∉ l ∧ e ∉ l ∧ D ∉ l ∧ h ∉ l ∧ A ∉ l ∧ l.Nodup := by
  simp only [List.nodup_cons, List.mem_cons, not_or] at nd
  grind
theorem LsAt.out {C : Addr} {H H' : Hp} {a e y : Addr} {X : List Addr} {w : Str} {n : Nat} {d : Int} {rs : List (List Int)} {ss : List (List (List Int))} (L : LsAt C H a e X w n d rs ss) (k : ∀ b o, H b = some o → b ≠ y → H' b = some o) (hy : y ∈ X) (ha : a ≠ y) (he : e ≠ y) (ty : ∃ o, H' y = some o) : LsAt C H' a e X w n d rs ss := by
  obtain ⟨⟨dx, t, ps, st, e1, e2, e3, e4, e5, e6, eX, tX, pX, sX⟩, tr, r⟩ := L
  have rk : ∀ {t : Addr} {ps : List (Addr × List Int)}, RP H t ps → t ∉ X → (∀ p ∈ ps, p.1 ∉ X) → RP H' t ps := fun h h1 h2 => ⟨k _ _ h.1 fun z => h1 (z ▸ hy), fun p hp => k _ _ (h.2 p hp) fun z => h2 p hp (z ▸ hy)⟩
  refine ⟨⟨dx, t, ps, st, k _ _ e1 ha, k _ _ e2 he, rk e3 tX pX, e4, fun q hq => rk (e5 q hq) (sX q hq).1 (sX q hq).2, e6, eX, tX, pX, sX⟩, fun x hx => ?_, by assumption, by assumption, by assumption, by assumption, by assumption, by assumption⟩
  by_cases c : x = y
  · exact c ▸ ty
  · obtain ⟨o, ho⟩ := tr x hx
    exact ⟨o, k x o ho c⟩
theorem LsAt.sub {C : Addr} {H : Hp} {a e : Addr} {X X' : List Addr} {w : Str} {n : Nat} {d : Int} {rs : List (List Int)} {ss : List (List (List Int))} (L : LsAt C H a e X w n d rs ss) (h : ∀ x ∈ X', x ∈ X) (he : e ∈ X') : LsAt C H a e X' w n d rs ss := by
  obtain ⟨⟨dx, t, ps, st, e1, e2, e3, e4, e5, e6, eX, tX, pX, sX⟩, tr, r⟩ := L
  exact ⟨⟨dx, t, ps, st, e1, e2, e3, e4, e5, e6, he, fun z => tX (h _ z), fun p hp z => pX p hp (h _ z), fun q hq => ⟨fun z => (sX q hq).1 (h _ z), fun p hp z => (sX q hq).2 p hp (h _ z)⟩⟩, fun x hx => tr x (h x hx), by assumption, by assumption, by assumption, by assumption, by assumption, by assumption⟩
theorem LsAt.grow {C : Addr} {H H' : Hp} {a e y : Addr} {X : List Addr} {w : Str} {n : Nat} {d : Int} {rs : List (List Int)} {ss : List (List (List Int))} (L : LsAt C H a e X w n d rs ss) (s : Same H H') (ny : H y = none) (ty : ∃ o, H' y = some o) : LsAt C H' a e (y :: X) w n d rs ss := by
  obtain ⟨⟨dx, t, ps, st, e1, e2, e3, e4, e5, e6, eX, tX, pX, sX⟩, tr, r⟩ := L
  have ne : ∀ {b : Addr} {o : HO}, H b = some o → b ∉ X → b ∉ y :: X := fun {b o} h1 h2 z => by
    rcases List.mem_cons.mp z with z | z
    · rw [z, ny] at h1
      cases h1
    · exact h2 z
  refine ⟨⟨dx, t, ps, st, s _ _ e1, s _ _ e2, e3.same s, e4, fun q hq => (e5 q hq).same s, e6, List.mem_cons_of_mem _ eX, ne e3.1 tX, fun p hp => ne (e3.2 p hp) (pX p hp), fun q hq => ⟨ne (e5 q hq).1 (sX q hq).1, fun p hp => ne ((e5 q hq).2 p hp) ((sX q hq).2 p hp)⟩⟩, fun x hx => ?_, by assumption, by assumption, by assumption, by assumption, by assumption, by assumption⟩
  rcases List.mem_cons.mp hx with rfl | hx
  · exact ty
  · exact (tr x hx).imp fun o h => s _ _ h
theorem DqAt.keep {H H' : Hp} {d : Addr} (h : DqAt H d) (k : ∀ o, H d = some o → H' d = some o) : DqAt H' d := by
  obtain ⟨ms, e, r⟩ := h
  exact ⟨ms, k _ e, r⟩
theorem sub4 {e D h A x : Addr} (hx : x ∈ [e, D, h, A]) : x ∈ [A, h, e, D] := by
  simp only [List.mem_cons, List.not_mem_nil, or_false] at hx ⊢
  grind
abbrev tops (D a e h A : Addr) (st : List (Addr × List (Addr × List Int))) : List Addr := a :: e :: D :: h :: A :: st.map (·.1)
structure LwAt (C : Addr) (H : Hp) (D a e h A : Addr) (w : Str) (n : Nat) (d : Int) (rs : List (List Int)) (ss : List (List (List Int))) (ps : List (Addr × List Int)) (st : List (Addr × List (Addr × List Int))) (mp ms : Nat) : Prop where
  dq : DqAt H D
  ls : LsAt C H a e (e :: D :: h :: A :: st.map (·.1)) w n d rs ss
  hh : RP H h ps
  hA : H A = some (.lst (st.map fun q => V.ref q.1))
  hst : ∀ q ∈ st, RP H q.1 q.2
  nd : (tops D a e h A st).Nodup
  nr : ∀ p ∈ ps, p.1 ∉ tops D a e h A st
  nrs : ∀ q ∈ st, ∀ p ∈ q.2, p.1 ∉ tops D a e h A st
  l1 : ps.length ≤ mp
  l2 : st.length ≤ ms
  l3 : ∀ q ∈ st, q.2.length ≤ mp
  u1 : (rws ps).Nodup
  u2 : ∀ q ∈ st, (rws q.2).Nodup
  od : ∀ r ∈ rws ps, IsOrd n r
  ods : ∀ q ∈ st, ∀ r ∈ rws q.2, IsOrd n r
section
variable {C : Addr} {H H' : Hp} {D a e h A : Addr} {w : Str} {n : Nat} {d : Int} {rs rs' : List (List Int)} {ss ss' : List (List (List Int))} {ps : List (Addr × List Int)} {st : List (Addr × List (Addr × List Int))} {mp ms mp' ms' : Nat}
theorem LwAt.same (W : LwAt C H D a e h A w n d rs ss ps st mp ms) (s : Same H H') : LwAt C H' D a e h A w n d rs ss ps st mp ms :=
  { W with dq := W.dq.keep (fun o h => s _ _ h), ls := W.ls.same s, hh := W.hh.same s, hA := s _ _ W.hA, hst := fun q hq => (W.hst q hq).same s }
theorem LwAt.mono (W : LwAt C H D a e h A w n d rs ss ps st mp ms) (h1 : mp ≤ mp') (h2 : ms ≤ ms') : LwAt C H D a e h A w n d rs ss ps st mp' ms' :=
  { W with l1 := Nat.le_trans W.l1 h1, l2 := Nat.le_trans W.l2 h2, l3 := fun q hq => Nat.le_trans (W.l3 q hq) h1 }
theorem LwAt.draw (W : LwAt C H D a e h A w n d rs ss ps st mp ms) (k : KeepD D H H') (q : DqAt H' D) : LwAt C H' D a e h A w n d rs ss ps st mp ms := by
  obtain ⟨⟨n1, n2, n3, n4, n5, n6, n7, n8, n9, n10⟩, m1, m2, m3, m4, m5, m6⟩ := tops_ne W.nd
  have tq : ∃ o, H' D = some o := by obtain ⟨ms, e, _⟩ := q; exact ⟨_, e⟩
  have rD : ∀ {p : Addr}, p ∉ tops D a e h A st → p ≠ D := fun hp z => hp (by rw [z]; simp [tops])
  exact { W with dq := q, ls := W.ls.out k (by simp) n2 n5 tq, hh := ⟨k _ _ W.hh.1 n8.symm, fun p hp => k _ _ (W.hh.2 p hp) (rD (W.nr p hp))⟩, hA := k _ _ W.hA n9.symm, hst := fun q hq => ⟨k _ _ (W.hst q hq).1 fun z => m3 (z ▸ List.mem_map_of_mem hq), fun p hp => k _ _ ((W.hst q hq).2 p hp) (rD (W.nrs q hq p hp))⟩ }
theorem LwAt.lst (W : LwAt C H D a e h A w n d rs ss ps st mp ms) (k : KpL a e H H') (L : LsAt C H' a e (e :: D :: h :: A :: st.map (·.1)) w n d rs' ss') : LwAt C H' D a e h A w n d rs' ss' ps st mp ms := by
  obtain ⟨⟨n1, n2, n3, n4, n5, n6, n7, n8, n9, n10⟩, m1, m2, m3, m4, m5, m6⟩ := tops_ne W.nd
  have rA : ∀ {p : Addr}, p ∉ tops D a e h A st → p ≠ a ∧ p ≠ e := fun hp => ⟨fun z => hp (by rw [z]; simp [tops]), fun z => hp (by rw [z]; simp [tops])⟩
  exact { W with dq := W.dq.keep (fun o h => k _ _ h n2.symm n5.symm), ls := L, hh := ⟨k _ _ W.hh.1 n3.symm n6.symm, fun p hp => k _ _ (W.hh.2 p hp) (rA (W.nr p hp)).1 (rA (W.nr p hp)).2⟩, hA := k _ _ W.hA n4.symm n7.symm, hst := fun q hq => ⟨k _ _ (W.hst q hq).1 (fun z => m1 (z ▸ List.mem_map_of_mem hq)) (fun z => m2 (z ▸ List.mem_map_of_mem hq)), fun p hp => k _ _ ((W.hst q hq).2 p hp) (rA (W.nrs q hq p hp)).1 (rA (W.nrs q hq p hp)).2⟩ }
/-- held changed in place -/
theorem LwAt.held {qs : List (Addr × List Int)} (W : LwAt C H D a e h A w n d rs ss ps st mp ms) (hq : ∀ p ∈ qs, H p.1 = some (.lst (p.2.map V.int))) (nq : ∀ p ∈ qs, p.1 ∉ tops D a e h A st) (lq : qs.length ≤ mp') (hm : mp ≤ mp') (uq : (rws qs).Nodup) (oq : ∀ r ∈ rws qs, IsOrd n r) : LwAt C (upd H h (.lst (qs.map fun p => V.ref p.1))) D a e h A w n d rs ss qs st mp' ms := by
  obtain ⟨⟨n1, n2, n3, n4, n5, n6, n7, n8, n9, n10⟩, m1, m2, m3, m4, m5, m6⟩ := tops_ne W.nd
  have k : ∀ b o, H b = some o → b ≠ h → (upd H h (.lst (qs.map fun p => V.ref p.1))) b = some o := fun b o e z => by rw [upd_ne z]; exact e
  have rh : ∀ {p : Addr}, p ∉ tops D a e h A st → p ≠ h := fun hp z => hp (by rw [z]; simp [tops])
  exact { dq := W.dq.keep (fun o h => k _ _ h n8), ls := W.ls.out k (by simp) n3 n6 ⟨_, upd_same⟩, hh := ⟨upd_same, fun p hp => k _ _ (hq p hp) (rh (nq p hp))⟩, hA := k _ _ W.hA n10.symm, hst := fun q hq => ⟨k _ _ (W.hst q hq).1 fun z => m4 (z ▸ List.mem_map_of_mem hq), fun p hp => k _ _ ((W.hst q hq).2 p hp) (rh (W.nrs q hq p hp))⟩,
          nd := W.nd, nr := nq, nrs := W.nrs, l1 := lq, l2 := W.l2, l3 := fun q hq => Nat.le_trans (W.l3 q hq) hm, u1 := uq, u2 := W.u2, od := oq, ods := W.ods }
theorem LwAt.tr (W : LwAt C H D a e h A w n d rs ss ps st mp ms) : ∀ x ∈ tops D a e h A st, ∃ o, H x = some o := fun x hx => by
  rcases List.mem_cons.mp hx with rfl | hx
  · obtain ⟨dx, t, ps, st, e1, _⟩ := W.ls.ex
    exact ⟨_, e1⟩
  · exact W.ls.tr x hx
theorem LwAt.new (W : LwAt C H D a e h A w n d rs ss ps st mp ms) {x : Addr} (nx : H x = none) : x ∉ tops D a e h A st := fun hx => by
  obtain ⟨o, ho⟩ := W.tr x hx
  rw [nx] at ho
  cases ho
/-- a copy of held put ahead -/
theorem LwAt.ahead {c : Addr} (W : LwAt C H D a e h A w n d rs ss ps st mp ms) (nc : H c = none) (hc : H' c = some (.lst (ps.map fun p => V.ref p.1))) (s : Same H H') : LwAt C (upd H' A (.lst ((st ++ [(c, ps)]).map fun q => V.ref q.1))) D a e h A w n d rs ss ps (st ++ [(c, ps)]) mp (ms + 1) := by
  have nct := W.new nc
  have W' := W.same s
  obtain ⟨⟨n1, n2, n3, n4, n5, n6, n7, n8, n9, n10⟩, m1, m2, m3, m4, m5, m6⟩ := tops_ne W.nd
  have k : ∀ b o, H' b = some o → b ≠ A → (upd H' A (.lst ((st ++ [(c, ps)]).map fun q => V.ref q.1))) b = some o := fun b o e z => by rw [upd_ne z]; exact e
  have rA : ∀ {p : Addr}, p ∉ tops D a e h A st → p ≠ A := fun hp z => hp (by rw [z]; simp [tops])
  have et : ∀ x, x ∈ tops D a e h A (st ++ [(c, ps)]) ↔ x ∈ tops D a e h A st ∨ x = c := fun x => by
    simp only [tops, List.map_append, List.map_cons, List.map_nil, List.mem_cons, List.mem_append, List.not_mem_nil, or_false]
    grind
  have row : ∀ {p : Addr × List Int}, H p.1 = some (.lst (p.2.map V.int)) → p.1 ∉ tops D a e h A st → p.1 ∉ tops D a e h A (st ++ [(c, ps)]) := fun {p} hp h1 z => by
    rcases (et _).mp z with z | z
    · exact h1 z
    · rw [z, nc] at hp
      cases hp
  have L1 : LsAt C H' a e (c :: e :: D :: h :: A :: st.map (·.1)) w n d rs ss := W.ls.grow s nc ⟨_, hc⟩
  have L2 : LsAt C H' a e (e :: D :: h :: A :: (st ++ [(c, ps)]).map (·.1)) w n d rs ss := L1.sub (fun x hx => by
    simp only [List.map_append, List.map_cons, List.map_nil, List.mem_cons, List.mem_append, List.not_mem_nil, or_false] at hx ⊢
    grind) List.mem_cons_self
  have mem : ∀ {q : Addr × List (Addr × List Int)}, q ∈ st ++ [(c, ps)] → q ∈ st ∨ q = (c, ps) := fun hq => (List.mem_append.mp hq).imp id List.mem_singleton.mp
  refine { dq := W'.dq.keep (fun o h => k _ _ h n9), ls := L2.out k (by simp) n4 n7 ⟨_, upd_same⟩, hh := ⟨k _ _ W'.hh.1 n10, fun p hp => k _ _ (W'.hh.2 p hp) (rA (W.nr p hp))⟩, hA := upd_same, hst := fun q hq => ?_, nd := ?_, nr := fun p hp => row (W.hh.2 p hp) (W.nr p hp), nrs := fun q hq p hp => ?_, l1 := W.l1, l2 := by rw [List.length_append]; exact Nat.succ_le_succ W.l2, l3 := fun q hq => ?_, u1 := W.u1, u2 := fun q hq => ?_, od := W.od, ods := fun q hq => ?_ }
  · rcases mem hq with hq | rfl
    · exact ⟨k _ _ (W'.hst q hq).1 fun z => m5 (z ▸ List.mem_map_of_mem hq), fun p hp => k _ _ ((W'.hst q hq).2 p hp) (rA (W.nrs q hq p hp))⟩
    · exact ⟨k _ _ hc fun z => nct (by rw [show c = A from z]; simp [tops]), fun p hp => k _ _ (W'.hh.2 p hp) (rA (W.nr p hp))⟩
  · have e1 : tops D a e h A (st ++ [(c, ps)]) = tops D a e h A st ++ [c] := by simp [tops]
    rw [e1]
    exact List.nodup_append.mpr ⟨W.nd, by simp, fun x hx y hy z => by rw [List.mem_singleton.mp hy] at z; exact nct (z ▸ hx)⟩
  · rcases mem hq with hq | rfl
    · exact row ((W.hst q hq).2 p hp) (W.nrs q hq p hp)
    · exact row (W.hh.2 p hp) (W.nr p hp)
  · rcases mem hq with hq | rfl
    · exact W.l3 q hq
    · exact W.l1
  · rcases mem hq with hq | rfl
    · exact W.u2 q hq
    · exact W.u1
  · rcases mem hq with hq | rfl
    · exact W.ods q hq
    · exact W.od
/-- the last put ahead taken up -/
theorem LwAt.back {c : Addr} {qs : List (Addr × List Int)} (W : LwAt C H D a e h A w n d rs ss ps (st ++ [(c, qs)]) mp ms) : LwAt C (upd H A (.lst (st.map fun q => V.ref q.1))) D a e c A w n d rs ss qs st mp ms := by
  obtain ⟨⟨n1, n2, n3, n4, n5, n6, n7, n8, n9, n10⟩, m1, m2, m3, m4, m5, m6⟩ := tops_ne W.nd
  have k : ∀ b o, H b = some o → b ≠ A → (upd H A (.lst (st.map fun q => V.ref q.1))) b = some o := fun b o e z => by rw [upd_ne z]; exact e
  have rA : ∀ {p : Addr}, p ∉ tops D a e h A (st ++ [(c, qs)]) → p ≠ A := fun hp z => hp (by rw [z]; simp [tops])
  have et : ∀ x, x ∈ tops D a e c A st → x ∈ tops D a e h A (st ++ [(c, qs)]) := fun x hx => by
    simp only [tops, List.map_append, List.map_cons, List.map_nil, List.mem_cons, List.mem_append, List.not_mem_nil, or_false] at hx ⊢
    grind
  have mc : (c, qs) ∈ st ++ [(c, qs)] := List.mem_append_right _ List.mem_cons_self
  have ml : ∀ {q}, q ∈ st → q ∈ st ++ [(c, qs)] := fun hq => List.mem_append_left _ hq
  have L2 : LsAt C H a e (e :: D :: c :: A :: st.map (·.1)) w n d rs ss := W.ls.sub (fun x hx => by
    simp only [List.map_append, List.map_cons, List.map_nil, List.mem_cons, List.mem_append, List.not_mem_nil, or_false] at hx ⊢
    grind) List.mem_cons_self
  have rp : ∀ q ∈ st ++ [(c, qs)], RP (upd H A (.lst (st.map fun q => V.ref q.1))) q.1 q.2 := fun q hq => ⟨k _ _ (W.hst q hq).1 fun z => m5 (z ▸ List.mem_map_of_mem hq), fun p hp => k _ _ ((W.hst q hq).2 p hp) (rA (W.nrs q hq p hp))⟩
  refine { dq := W.dq.keep (fun o h => k _ _ h n9), ls := L2.out k (by simp) n4 n7 ⟨_, upd_same⟩, hh := rp _ mc, hA := upd_same, hst := fun q hq => rp q (ml hq), nd := ?_, nr := fun p hp z => W.nrs _ mc p hp (et _ z), nrs := fun q hq p hp z => W.nrs q (ml hq) p hp (et _ z), l1 := W.l3 _ mc, l2 := ?_, l3 := fun q hq => W.l3 q (ml hq), u1 := W.u2 _ mc, u2 := fun q hq => W.u2 q (ml hq), od := W.ods _ mc, ods := fun q hq => W.ods q (ml hq) }
  · have hn := W.nd
    simp only [tops, List.map_append, List.map_cons, List.map_nil, List.nodup_cons, List.nodup_append, List.mem_cons, List.mem_append, List.not_mem_nil, or_false, not_or] at hn ⊢
    grind
  · have := W.l2
    rw [List.length_append] at this
    exact Nat.le_of_succ_le this
theorem LsAt.obj {X : List Addr} (L : LsAt C H a e X w n d rs ss) (m : Str) (h1 : (m == "way") = false) (h2 : (m == "n") = false) (h3 : (m == "d") = false) (h4 : (m == "taken") = false) (h5 : (m == "earlier") = false) : ∃ dx fs, H a = some (.ins C dx fs) ∧ fs.lookup m = none := by
  obtain ⟨dx, t, ps, st, ha, _⟩ := L.ex
  exact ⟨dx, _, ha, fl_no h1 h2 h3 h4 h5⟩
theorem tst2 {K : PySem.W.Frag} {σ : L2.St} {Q : Bool → Hp → Prop} {i s : Nat} {x c0 : Int} {h : Addr} {ds : List PyData} (hi : ∀ Q' : VK, Q' (.int x) H → tVar i σ H Q') (hs : ∀ Q' : VK, Q' (.ref h) H → tVar s σ H Q') (hd : ∀ H1, Same H H1 → Dp K H1 (.ref h) (.list ds)) (sh : SeqAt.shaped (.list ds) = true)
    (qt : ∀ H1, Same H H1 → x = c0 → ds ≠ [] → Q true H1) (qf : ∀ H1, Same H H1 → Q false H1) : tAnd (tTest (tOp rEq (tVar i) (tC (.int c0)))) (tTest (tOp (rNeD K) (tVar s) (tLst tNil))) σ H Q := by
  apply hi
  refine ⟨rfl, _, rfl, ite2 (fun c => ?_) (fun _ => qf H (Same.refl _))⟩
  have c1 : x = c0 := V.int.inj (of_decide_eq_true c)
  apply hs
  refine ⟨by decide, fun u nu => ?_⟩
  have s1 := same_new (o := .lst []) nu
  refine ⟨_, _, hd _ s1, dp_list (ns := []) upd_same, sh, shaped_list _, _, rfl, ?_⟩
  cases ds with
  | nil => 
    rw [show PyData.eqv (.list []) (dL []) = true from eqv_list []]
    exact qf _ s1
  | cons z r => exact qt _ s1 c1 (by simp)
theorem rp_dp3 {K : PySem.W.Frag} : ∀ {st : List (Addr × List (Addr × List Int))}, (∀ q ∈ st, RP H q.1 q.2) → DpAll K H (st.map fun q => V.ref q.1) ((st.map fun q => rws q.2).map dLL)
  | [], _ => .nil
  | q :: st, h => .cons ((h q List.mem_cons_self).dp) (rp_dp3 fun r hr => h r (List.mem_cons_of_mem _ hr))
/-- at the bottom of all stands nothing -/
def HD (st : List (Addr × List (Addr × List Int))) (ps : List (Addr × List Int)) : Prop := ((st.map fun q => rws q.2) ++ [rws ps]).head? = some []
theorem HD.push {c : Addr} {qs : List (Addr × List Int)} (h : HD st ps) : HD (st ++ [(c, ps)]) qs := by
  unfold HD at *
  rw [List.map_append]
  cases st with
  | nil => exact h
  | cons q r => exact h
theorem HD.pop {c : Addr} {qs : List (Addr × List Int)} (h : HD (st ++ [(c, qs)]) ps) : HD st qs := by
  unfold HD at *
  rw [List.map_append] at h
  cases st with
  | nil => exact h
  | cons q r => exact h
theorem HD.nil (h : HD [] ps) : rws ps = [] := Option.some.inj h
theorem erase_map {α β : Type} (f : α → β) : ∀ (l : List α) (j : Nat), (l.map f).eraseIdx j = (l.eraseIdx j).map f
  | [], j => by simp
  | a :: r, 0 => by simp
  | a :: r, j + 1 => by
    have ih := erase_map f r j
    simp [ih]
theorem mod_ix (v : Int) {m : Nat} (h : 0 < m) : ∃ j : Nat, v % ((m : Nat) : Int) = (j : Int) ∧ j < m := by
  have h1 := mod_b v (m := ((m : Nat) : Int)) (by omega)
  exact ⟨(v % ((m : Nat) : Int)).toNat, by omega, by omega⟩
theorem tops_snoc {c x : Addr} {qs : List (Addr × List Int)} (hx : x ∈ tops D a e h A (st ++ [(c, qs)])) : x ∈ tops D a e h A st ∨ x = c := by
  simp only [tops, List.map_append, List.map_cons, List.map_nil, List.mem_cons, List.mem_append, List.not_mem_nil, or_false] at hx ⊢
  grind
theorem tops_back {c x : Addr} {qs : List (Addr × List Int)} (hx : x ∈ tops D a e c A st) : x ∈ tops D a e h A (st ++ [(c, qs)]) := by
  simp only [tops, List.map_append, List.map_cons, List.map_nil, List.mem_cons, List.mem_append, List.not_mem_nil, or_false] at hx ⊢
  grind
theorem last_of {α : Type} (l : List α) (f : α → V) (x : α) : ((l ++ [x]).map f)[((l ++ [x]).map f).length - 1]? = some (f x) := by
  rw [List.map_append, List.length_append]
  show (l.map f ++ [f x])[(l.map f).length + 1 - 1]? = _
  rw [Nat.add_sub_cancel, List.getElem?_append_right (Nat.le_refl _), Nat.sub_self]
  rfl
theorem last_drop {α : Type} (l : List α) (f : α → V) (x : α) : ((l ++ [x]).map f).dropLast = l.map f := by
  rw [List.map_append]
  exact List.dropLast_concat
theorem row_srt (ps : List (Addr × List Int)) : rws (rowsR ps) = srt (rws ps) := srt_eq ((rowsR_perm ps).map _) (rowsR_sorted ps)
theorem eqv_ne {l : List (List Int)} (h : l ≠ []) : PyData.eqv (dLL l) (dL []) = false := by
  cases l with
  | nil => exact absurd rfl h
  | cons => rfl
theorem srt_len (l : List (List Int)) : (srt l).length = l.length := (srt_perm l).length_eq
theorem LwAt.len (W : LwAt C H D a e h A w n d rs ss ps st mp ms) : (rws ps).length ≤ mp := by rw [List.length_map]; exact W.l1
end
end Fo
namespace Fo
open PySem PySem.Spec PyProof.Rows L2
/-! how far apart the nearest two are, of any orders -/
def prs (w : Str) (rs : List (List Int)) : Nat → List Int
  | 0 => []
  | i + 1 => prs w rs i ++ (match rs[i]? with
    | some x => (rs.take i).map (farW w x)
    | none => [])
theorem prs_at {w : Str} {rs : List (List Int)} {i : Nat} {x : List Int} (h : rs[i]? = some x) : prs w rs (i + 1) = prs w rs i ++ (rs.take i).map (farW w x) := by
  show _ ++ (match rs[i]? with | some x => (rs.take i).map (farW w x) | none => []) = _
  rw [h]
theorem prs_len {w : Str} {rs : List (List Int)} : ∀ i, (prs w rs i).length ≤ i * i
  | 0 => Nat.le_refl _
  | i + 1 => by
    have ih := prs_len (w := w) (rs := rs) i
    cases h : rs[i]? with
    | none =>
      show (prs w rs i ++ (match rs[i]? with | some x => (rs.take i).map (farW w x) | none => [])).length ≤ _
      rw [h, List.append_nil]
      exact Nat.le_trans ih (Nat.mul_le_mul (Nat.le_succ _) (Nat.le_succ _))
    | some x =>
      rw [prs_at h, List.length_append, List.length_map, List.length_take]
      have : (i + 1) * (i + 1) = i * i + 2 * i + 1 := by rw [Nat.add_mul, Nat.mul_add]; omega
      omega
theorem cut_take (xs : List V) (i : Nat) : cutV xs none (some (i : Int)) = xs.take i := by
  unfold cutV
  rw [HT.sIx_none, HT.sIx_nat]
  by_cases h : i ≤ xs.length
  · rw [Nat.min_eq_left h]
    simp
  · rw [Nat.min_eq_right (by omega)]
    simp
    rw [List.take_of_length_le (by omega)]
def spLeastL (C : Addr) : Sp := fun vs H Q _ => ∃ (a e : Addr) (X : List Addr) (w : Str) (n : Nat) (d : Int) (rs : List (List Int)) (ss : List (List (List Int))), vs = [.ref a] ∧ LsAt C H a e X w n d rs ss ∧ rs.length ≤ 120 ∧
  (prs w rs rs.length = [] → ∀ H', Same H H' → Q .non H') ∧ ∀ m H', Same H H' → m ∈ prs w rs rs.length → (∀ y ∈ prs w rs rs.length, m ≤ y) → Q (.int m) H'
section
variable {P : Program} {w : World} {K : PySem.W.Frag} {mg : Str → Option Value} {base : Heap}
theorem scLeastL : FnScope ["self", "place", "order", "other"] ["self"] (defScope s_Lister_least_apart) := ⟨rfl, rfl, rfl, by decide +kernel, rfl, by decide +kernel, by decide +kernel⟩
set_option maxHeartbeats 2000000 in
theorem ok_leastL {C_Lister fI f f1 : Addr} {fd d1 : FuncData} {k : Nat} (T : Dm K C_Lister "least_apart" "Lister.least_apart" s_Lister_least_apart ["self"] f fd) (T_Lister : TxL K mg C_Lister fI) (T_known_far : Df K mg "known_far" s_known_far ["way", "one", "other"] f1 d1) (G_known_far : FnOk P w K mg base CX0 k f1 d1 ["way", "one", "other"] spFar) (B : Bi mg) : FnOk P w K mg base CX0 (k + 1) f fd ["self"] (spLeastL C_Lister) := by
  refine T.F.ok scLeastL (fun vs H Q E h => ?_) (fun cdv A outer s H vs Q E hr h => ?_)
  · obtain ⟨a, e, X, w, n, d, rs, ss, rfl, _⟩ := h
    rfl
  · obtain ⟨a, e, X, w, n, d, rs, ss, rfl, L, hrl, q1, q2⟩ := h
    obtain ⟨dx, t, ps, st, ha, he, ht, ert, _⟩ := L.ex
    have hn8 := L.n2
    have hpl : ps.length = rs.length := by rw [← ert, List.length_map]
    refine ⟨_, 
      (pss_one (ps_ret (pe_minDef hr.units rfl (by rfl) B.min (pe_lc2 (own := [("place", 1), ("order", 2), ("other", 3)]) (vs1 := [3]) (wi1 := iList K (tSl (rSlL K) (tFld K (tVar 0) "taken") tNoPart (tPart (tVar 1)))) (g := (gTup K 2 (gCons (gName 1) (gCons (gName 2) gNil)))) (tt := tYes) (g1 := (gName 3)) (tt1 := tYes) (te := (tCall spFar [] E0 (tCons (tFld K (tVar 0) "way") (tCons (tVar 2) (tCons (tVar 3) tNil))))) rfl scLeastL.nd (pi_enum (by rfl) B.enumerate (pa_cons (pe_fld (pv 0) rfl) pa_nil)) (blkOk_by (N := ["self", "place", "order", "other"]) (sc := defScope s_Lister_least_apart) (by decide +kernel)) (by decide) (fun _ _ _ _ _ => (pg_tup (by rfl) (pgs_cons (pg_name (i := 1) scLeastL.nd rfl (.inl rfl)) (pgs_cons (pg_name (i := 2) scLeastL.nd rfl (.inl rfl)) pgs_nil)))) (fun _ _ _ _ _ => pts_nil) (fun _ _ _ _ _ => (pi_list (pe_slice sl_list (pe_fld (pv 0) rfl) po_none (po_some (pv 1))))) (fun _ _ _ _ _ => (pg_name (i := 3) scLeastL.nd rfl (.inl rfl))) (fun _ _ _ _ _ => pts_nil) (fun _ _ _ _ _ => (pe_call G_known_far hr (by rfl) T_known_far.g T_known_far.F.kp T_known_far.b .nil pass0 (pa_cons (pe_fld (pv 0) rfl) (pa_cons (pv 2) (pa_cons (pv 3) pa_nil)))))) pe_non))), ?_⟩
    refine ⟨_, rfl, a, _, dx, _, _, rfl, ha, T_Lister.cl, T_Lister.nT, fl_t, t, _, rfl, SqL.of ht.1, fun D nD => ?_⟩
    refine ⟨fun i m G => m = rs.length - i ∧ i ≤ rs.length ∧ G D = some (.lst ((prs w rs i).map V.int)) ∧ Same H G, ⟨_, rfl, Nat.zero_le _, upd_same, same_new nD⟩, fun i m G hM => ?_⟩
    obtain ⟨rfl, hi, hD, sm⟩ := hM
    by_cases hlt : i < rs.length
    · have hps : i < ps.length := by omega
      refine .inr ⟨⟨_, (ps.map fun p => V.ref p.1)[i]'(by rw [List.length_map]; exact hps), SqL.of (sm _ _ ht.1), by simp [hps]⟩, fun G => G D = some (.lst ((prs w rs (i + 1)).map V.int)) ∧ Same H G, fun G p => ⟨rs.length - (i + 1), by omega, rfl, hlt, p.1, p.2⟩, fun x G' y => ?_⟩
      obtain ⟨T0, x', rfl, nT, rfl, f1⟩ := y
      obtain ⟨p, ep, rfl, hp⟩ := (ht.same sm).at (f1 _ (SqL.of (sm _ _ ht.1)))
      have er : rs[i]? = some p.2 := by rw [← ert]; exact rws_at ep
      have s1 := same_new (o := .tup [.int (i : Nat), .ref p.1]) nT
      have sm1 := sm.trans s1
      refine ⟨T0, _, rfl, .inl (.inl upd_same), rfl, _, _, rfl, _, _, rfl, rfl, rfl, ?_⟩
      refine ⟨_, rfl, a, _, dx, _, _, rfl, sm1 _ _ ha, T_Lister.cl, T_Lister.nT, fl_t, _, rfl, _, rfl, t, _, rfl, SqL.of (sm1 _ _ ht.1), fun c nc => ?_⟩
      rw [cut_take]
      have s2 := same_new (o := .lst ((ps.map fun p => V.ref p.1).take i)) nc
      have sm2 := sm1.trans s2
      have ncD : c ≠ D := fun z => by rw [z, s1 _ _ hD] at nc; cases nc
      refine ⟨c, rfl, ⟨_, SqL.of upd_same⟩, ?_⟩
      refine ⟨fun j k G => k = i - j ∧ j ≤ i ∧ G D = some (.lst ((prs w rs i ++ (rs.take j).map (farW w p.2)).map V.int)) ∧ G c = some (.lst ((ps.map fun p => V.ref p.1).take i)) ∧ Same H G, ⟨_, rfl, Nat.zero_le _, by rw [List.take_zero, List.map_nil, List.append_nil]; exact s2 _ _ (s1 _ _ hD), upd_same, sm2⟩, fun j k G hM => ?_⟩
      obtain ⟨rfl, hj, hD3, hc3, sm3⟩ := hM
      by_cases hlj : j < i
      · have hpj : j < ps.length := by omega
        refine .inr ⟨⟨_, ((ps.map fun p => V.ref p.1).take i)[j]'(by rw [List.length_take, List.length_map]; omega), SqL.of hc3, List.getElem?_eq_getElem _⟩, fun G => G D = some (.lst ((prs w rs i ++ (rs.take (j + 1)).map (farW w p.2)).map V.int)) ∧ G c = some (.lst ((ps.map fun p => V.ref p.1).take i)) ∧ Same H G, fun G p => ⟨i - (j + 1), by omega, rfl, hlj, p⟩, fun x G' y => ?_⟩
        obtain ⟨e0, y⟩ := y
        subst e0
        have hx := y _ (SqL.of hc3)
        rw [List.getElem?_take_of_lt hlj] at hx
        obtain ⟨r, eqr, rfl, hr3⟩ := (ht.same sm3).at hx
        have er2 : rs[j]? = some r.2 := by rw [← ert]; exact rws_at eqr
        refine ⟨rfl, _, rfl, a, _, dx, _, _, rfl, sm3 _ _ ha, T_Lister.cl, T_Lister.nW, fl_w, _, rfl, _, rfl, w, p.1, r.1, n, p.2, r.2, rfl, L.wy, sm3 _ _ (ht.2 p (List.mem_of_getElem? ep)), hr3, L.ord _ (List.mem_of_getElem? er), L.ord _ (List.mem_of_getElem? er2), L.n1, by omega, fun G4 s4 => ?_⟩
        have hl1 := prs_len (w := w) (rs := rs) i
        have hsq : i * i ≤ 120 * 120 := Nat.mul_le_mul (by omega) (by omega)
        refine ⟨_, s4 _ _ hD3, line_lt ?_, by rw [upd_same, take_p er2]; simp [List.map_append, List.append_assoc], by rw [upd_ne ncD]; exact s4 _ _ hc3, fun b o hb => ?_⟩
        · rw [List.length_map, List.length_append, List.length_map, List.length_take]
          omega
        · rw [upd_ne (ne_of_none hb nD)]
          exact s4 _ _ (sm3 _ _ hb)
      · obtain rfl : j = i := by omega
        refine .inl ⟨⟨_, SqL.of hc3, by rw [List.length_take]; exact Nat.min_le_left _ _⟩, ?_, sm3⟩
        rw [prs_at er]
        exact hD3
    · obtain rfl : i = rs.length := by omega
      refine .inl ⟨⟨_, SqL.of (sm _ _ ht.1), by rw [List.length_map]; omega⟩, D, _, rfl, rfl, SqL.of hD, fun z => q1 z _ sm, fun m hm hle => q2 m _ sm hm hle⟩
end
end Fo
namespace Fo
open PySem PySem.Spec PyProof.Rows L2
/-! the least apart does not hang on the order of the list -/
theorem prs_mem {w : Str} {n : Nat} {rs : List (List Int)} (ho : ∀ r ∈ rs, IsOrd n r) (hn : 1 ≤ n) (nd : rs.Nodup) : ∀ i, i ≤ rs.length → ∀ y, y ∈ prs w rs i ↔ ∃ x, x ∈ rs.take i ∧ ∃ z, z ∈ rs.take i ∧ x ≠ z ∧ y = farW w x z
  | 0, _, y => ⟨fun h => absurd h List.not_mem_nil, fun ⟨x, hx, _⟩ => absurd hx (by rw [List.take_zero]; exact List.not_mem_nil)⟩
  | i + 1, hi, y => by
    have ih := prs_mem (w := w) ho hn nd i (Nat.le_of_succ_le hi) y
    have er : rs[i]? = some (rs[i]'hi) := List.getElem?_eq_getElem hi
    generalize rs[i]'hi = r at er
    have hr : r ∈ rs := List.mem_of_getElem? er
    have et := take_p er
    have nr : r ∉ rs.take i := fun h => by
      have h2 : (rs.take (i + 1)).Nodup := nd.sublist (List.take_sublist _ _)
      rw [et] at h2
      exact (List.nodup_append.mp h2).2.2 r h r (List.mem_singleton.mpr rfl) rfl
    rw [prs_at er, List.mem_append, ih, et]
    constructor
    · rintro (⟨x, hx, z, hz, h⟩ | h)
      · exact ⟨x, List.mem_append_left _ hx, z, List.mem_append_left _ hz, h⟩
      · obtain ⟨o, h1, rfl⟩ := List.mem_map.mp h
        exact ⟨r, List.mem_append_right _ (List.mem_singleton.mpr rfl), o, List.mem_append_left _ h1, fun q => nr (q ▸ h1), rfl⟩
    · rintro ⟨x, hx, z, hz, nxz, rfl⟩
      rcases List.mem_append.mp hx with hx | hx
      · rcases List.mem_append.mp hz with hz | hz
        · exact .inl ⟨x, hx, z, hz, nxz, rfl⟩
        · rw [List.mem_singleton.mp hz]
          refine .inr (List.mem_map.mpr ⟨x, hx, ?_⟩)
          exact (farW_turn (ho x (List.mem_of_mem_take hx)) (ho r hr) hn)
      · rw [List.mem_singleton.mp hx] at nxz ⊢
        rcases List.mem_append.mp hz with hz | hz
        · exact .inr (List.mem_map.mpr ⟨z, hz, rfl⟩)
        · exact absurd (List.mem_singleton.mp hz).symm nxz
theorem prs_perm {w : Str} {n : Nat} {rs qs : List (List Int)} (hp : rs.Perm qs) (ho : ∀ r ∈ rs, IsOrd n r) (hn : 1 ≤ n) (nd : rs.Nodup) (y : Int) : y ∈ prs w rs rs.length ↔ y ∈ prs w qs qs.length := by
  rw [prs_mem ho hn nd _ (Nat.le_refl _), prs_mem (fun r hr => ho r (hp.mem_iff.mpr hr)) hn (hp.nodup_iff.mp nd) _ (Nat.le_refl _), List.take_length, List.take_length]
  constructor
  · rintro ⟨x, hx, z, hz, h⟩
    exact ⟨x, hp.mem_iff.mp hx, z, hp.mem_iff.mp hz, h⟩
  · rintro ⟨x, hx, z, hz, h⟩
    exact ⟨x, hp.mem_iff.mpr hx, z, hp.mem_iff.mpr hz, h⟩
/-- outside of some addresses all stays -/
theorem LsAt.outY {C : Addr} {H H' : Hp} {a e : Addr} {Y : Addr → Prop} {X : List Addr} {w : Str} {n : Nat} {d : Int} {rs : List (List Int)} {ss : List (List (List Int))} (L : LsAt C H a e X w n d rs ss) (k : ∀ b o, H b = some o → ¬ Y b → H' b = some o) (hy : ∀ y, Y y → y ∈ X) (ha : ¬ Y a) (he : ¬ Y e) (ty : ∀ y ∈ X, Y y → ∃ o, H' y = some o) : LsAt C H' a e X w n d rs ss := by
  obtain ⟨⟨dx, t, ps, st, e1, e2, e3, e4, e5, e6, eX, tX, pX, sX⟩, tr, r⟩ := L
  have rk : ∀ {t : Addr} {ps : List (Addr × List Int)}, RP H t ps → t ∉ X → (∀ p ∈ ps, p.1 ∉ X) → RP H' t ps := fun h h1 h2 => ⟨k _ _ h.1 fun z => h1 (hy _ z), fun p hp => k _ _ (h.2 p hp) fun z => h2 p hp (hy _ z)⟩
  refine ⟨⟨dx, t, ps, st, k _ _ e1 ha, k _ _ e2 he, rk e3 tX pX, e4, fun q hq => rk (e5 q hq) (sX q hq).1 (sX q hq).2, e6, eX, tX, pX, sX⟩, fun x hx => ?_, by assumption, by assumption, by assumption, by assumption, by assumption, by assumption⟩
  by_cases c : Y x
  · exact ty x hx c
  · obtain ⟨o, ho⟩ := tr x hx
    exact ⟨o, k x o ho c⟩
end Fo
namespace Fo
open PySem PySem.Spec PyProof.Rows L2
/-! k70: the deeds done so far, and what the Lister's stack holds of them -/
inductive StK : List (List Int) → List (Bool × List Int) → List (List (List Int)) → Prop
  | nil (rs : List (List Int)) : StK rs [] []
  | took {rs qs : List (List Int)} {gs : List (Bool × List Int)} {ss : List (List (List Int))} {o : List Int} (h : StK rs gs ss) (n : o ∉ rs) (p : qs.Perm (rs ++ [o])) : StK qs (gs ++ [(true, o)]) (ss ++ [srt rs])
  | gone {rs qs : List (List Int)} {gs : List (Bool × List Int)} {ss : List (List (List Int))} {o : List Int} (h : StK rs gs ss) (n : o ∉ qs) (p : rs.Perm (qs ++ [o])) : StK qs (gs ++ [(false, o)]) (ss ++ [srt rs])
theorem srt_of_perm {rs qs : List (List Int)} (p : rs.Perm qs) : srt rs = srt qs := srt_eq ((srt_perm rs).trans p) (srt_sorted rs)
theorem StK.perm {rs qs : List (List Int)} {gs : List (Bool × List Int)} {ss : List (List (List Int))} (h : StK rs gs ss) (p : rs.Perm qs) : StK qs gs ss := by
  cases h with
  | nil => exact .nil _
  | took h n p2 => exact .took h n (p.symm.trans p2)
  | gone h n p2 => exact .gone h (fun z => n (p.mem_iff.mpr z)) (p2.trans (p.append_right _))
theorem StK.none {qs : List (List Int)} {SS : List (List (List Int))} (h : StK qs [] SS) : SS = [] := by
  generalize eg : ([] : List (Bool × List Int)) = g at h
  cases h with
  | nil => rfl
  | took => exact absurd eg.symm (by simp)
  | gone => exact absurd eg.symm (by simp)
theorem StK.last {qs : List (List Int)} {gs : List (Bool × List Int)} {b : Bool} {o : List Int} {SS : List (List (List Int))} (h : StK qs (gs ++ [(b, o)]) SS) : ∃ rs ss, SS = ss ++ [srt rs] ∧ StK rs gs ss ∧ (b = true → o ∉ rs ∧ qs.Perm (rs ++ [o])) ∧ (b = false → o ∉ qs ∧ rs.Perm (qs ++ [o])) := by
  generalize eg : gs ++ [(b, o)] = g at h
  cases h with
  | nil => exact absurd eg (by simp)
  | @took rs _ gs' ss o' h n p =>
    have e := List.append_inj' eg rfl
    obtain ⟨rfl, e2⟩ := e
    have e3 := (List.cons.inj e2).1
    cases e3
    exact ⟨rs, ss, rfl, h, fun _ => ⟨n, p⟩, fun z => absurd z (by decide)⟩
  | @gone rs _ gs' ss o' h n p =>
    have e := List.append_inj' eg rfl
    obtain ⟨rfl, e2⟩ := e
    have e3 := (List.cons.inj e2).1
    cases e3
    exact ⟨rs, ss, rfl, h, fun z => absurd z (by decide), fun _ => ⟨n, p⟩⟩
/-- a deed where it stands: the tuple, whether it was a coming, the order -/
structure Deed where
  t : Addr
  b : Bool
  p : Addr × List Int
/-- a Lister, what the law holds of it, and the deeds -/
structure OneAt (C : Addr) (H : Hp) (a e h g : Addr) (X : List Addr) (w : Str) (n : Nat) (d : Int) (rs : List (List Int)) (ss : List (List (List Int))) (ps : List (Addr × List Int)) (gs : List Deed) : Prop where
  ls : LsAt C H a e X w n d rs ss
  hh : RP H h ps
  hg : H g = some (.lst (gs.map fun q => V.ref q.t))
  ht : ∀ q ∈ gs, H q.t = some (.tup [.bl q.b, .ref q.p.1]) ∧ H q.p.1 = some (.lst (q.p.2.map V.int))
  u : (rws ps).Nodup
  od : ∀ r ∈ rws ps, IsOrd n r
  og : ∀ q ∈ gs, IsOrd n q.p.2
theorem erase_perm {o : List Int} : ∀ {l : List (List Int)} {j : Nat}, l[j]? = some o → l.Perm (l.eraseIdx j ++ [o])
  | [], _, h => by simp at h
  | y :: l, 0, h => by
    obtain rfl : y = o := Option.some.inj h
    rw [List.eraseIdx_cons_zero]
    exact List.perm_append_comm (l₁ := [y]) (l₂ := l)
  | y :: l, j + 1, h => by
    have hx : l[j]? = some o := by simpa using h
    rw [List.eraseIdx_cons_succ]
    exact (erase_perm hx).cons y
theorem erase_not {o : List Int} {l : List (List Int)} {j : Nat} (nd : l.Nodup) (h : l[j]? = some o) : o ∉ l.eraseIdx j := fun z => by
  rw [erase_filter nd h] at z
  have := (List.mem_filter.mp z).2
  simp at this
theorem first_at {o : List Int} : ∀ {l : List (List Int)}, o ∈ l → ∃ j : Nat, l[j]? = some o ∧ ∀ m : Nat, m < j → l[m]? ≠ some o
  | y :: l, h => by
    by_cases c : y = o
    · exact ⟨0, by rw [c]; rfl, fun m hm => absurd hm (Nat.not_lt_zero _)⟩
    · have h2 : o ∈ l := (List.mem_cons.mp h).resolve_left fun z => c z.symm
      obtain ⟨j, h3, h4⟩ := first_at h2
      refine ⟨j + 1, by simpa using h3, fun m hm => ?_⟩
      cases m with
      | zero => intro z; exact c (Option.some.inj z)
      | succ m => intro z; exact h4 m (by omega) (by simpa using z)
/-- the data of deeds -/
abbrev dDeed (q : Bool × List Int) : PyData := .tuple [.bool q.1, dL q.2]
theorem lay_deeds : ∀ l : List (Bool × List Int), PyData.canLayAll0 (l.map dDeed) = true
  | [] => rfl
  | n :: r => by
    show (PyData.canLay0 (dDeed n) && PyData.canLayAll0 (r.map dDeed)) = true
    rw [lay_deeds r]
    have := lay_ints n.2
    simp [dDeed, PyData.canLay0, PyData.canLayAll0, this]
theorem depth_deeds : ∀ l : List (Bool × List Int), PyData.depthAll (l.map dDeed) ≤ 2
  | [] => by simp [PyData.depthAll]
  | n :: r => by
    show PyData.depthAll (dDeed n :: r.map dDeed) ≤ 2
    have h1 := depth_deeds r
    have h2 := depth_ints n.2
    simp only [dDeed, PyData.depthAll, PyData.depth, h2]
    have : PyData.depthAll (r.map dDeed) ≤ 2 := h1
    omega
theorem shaped_deeds (l : List (Bool × List Int)) : SeqAt.shaped (.list (l.map dDeed)) = true := by
  unfold SeqAt.shaped
  rw [Bool.and_eq_true_iff]
  constructor
  · rw [PyData.canLay0]
    exact lay_deeds l
  · apply decide_eq_true
    rw [PyData.depth]
    have := depth_deeds l
    omega
end Fo
namespace Fo
open PySem PySem.Spec PyProof.Rows L2
/-- rows told by addresses and by lists are rows told by pairs -/
theorem rp_of_LL {H : Hp} {l : Addr} : ∀ {as : List Addr} {rs : List (List Int)}, LL H as rs → ∃ ps : List (Addr × List Int), ps.map (·.1) = as ∧ rws ps = rs ∧ ∀ p ∈ ps, H p.1 = some (.lst (p.2.map V.int))
  | [], [], _ => ⟨[], rfl, rfl, fun p hp => absurd hp List.not_mem_nil⟩
  | [], _ :: _, h => h.elim
  | _ :: _, [], h => h.elim
  | a :: as, r :: rs, h => by
    obtain ⟨ps, e1, e2, h3⟩ := rp_of_LL (l := l) h.2
    refine ⟨(a, r) :: ps, by rw [List.map_cons, e1], by show r :: rws ps = _; rw [e2], fun p hp => ?_⟩
    rcases List.mem_cons.mp hp with rfl | hp
    · exact h.1
    · exact h3 p hp
theorem rp_of_LL2 {H : Hp} {l : Addr} {as : List Addr} {rs : List (List Int)} (hl : H l = some (.lst (as.map V.ref))) (h : LL H as rs) : ∃ ps, RP H l ps ∧ rws ps = rs ∧ ps.map (·.1) = as := by
  obtain ⟨ps, e1, e2, h3⟩ := rp_of_LL (l := l) h
  refine ⟨ps, ⟨?_, h3⟩, e2, e1⟩
  rw [hl, ← e1, List.map_map]
  rfl
/-- the least of distances that are the same, in whatever order they stand -/
theorem least_same {xs ys : List Int} {m k : Int} (h : ∀ y, y ∈ xs ↔ y ∈ ys) (hm : m ∈ xs) (lm : ∀ y ∈ xs, m ≤ y) (hk : k ∈ ys) (lk : ∀ y ∈ ys, k ≤ y) : m = k := by
  have h1 := lm k ((h k).mpr hk)
  have h2 := lk m ((h m).mp hm)
  omega
end Fo
namespace Fo
open PySem PySem.Spec PyProof.Rows L2
/-! k76: by other names, from behind, and the nearest -/
def spTurned : Sp := fun vs H Q _ => ∃ (l m : Addr) (n : Nat) (ps : List (Addr × List Int)) (ns : List Int), vs = [.ref l, .ref m] ∧ RP H l ps ∧ (∀ r ∈ rws ps, IsOrd n r) ∧ ps.length ≤ 1000 ∧ H m = some (.lst (ns.map V.int)) ∧ IsOrd n ns ∧ n ≤ 12 ∧ ∀ (u : Addr) (qs : List (Addr × List Int)) (H' : Hp), rws qs = srt ((rws ps).map (behindL ns)) → NewRows H H' u qs → Same H H' → Q (.ref u) H'
def spToldR : Sp := fun vs H Q _ => ∃ (w : Str) (d : Int) (l o t : Addr) (n : Nat) (ps qs : List (Addr × List Int)) (xs : List Int), vs = [.str w, .int d, .ref l, .ref o, .ref t] ∧ IsWay w ∧ RP H l ps ∧ (∀ r ∈ rws ps, IsOrd n r) ∧ (rws ps).Nodup ∧ ps.length ≤ 60 ∧ H o = some (.lst (xs.map V.int)) ∧ IsOrd n xs ∧ 1 ≤ n ∧ n ≤ 12 ∧ RP H t qs ∧ rws qs = nearR w xs d (rws ps) ∧ ∀ H', Same H H' → Q (.bl true) H'
theorem rows_LL {H : Hp} : ∀ {ps : List (Addr × List Int)}, (∀ p ∈ ps, H p.1 = some (.lst (p.2.map V.int))) → LL H (ps.map (·.1)) (rws ps)
  | [], _ => trivial
  | p :: ps, h => ⟨h p List.mem_cons_self, rows_LL fun q hq => h q (List.mem_cons_of_mem _ hq)⟩
theorem rp_two {H : Hp} {t : Addr} {ps : List (Addr × List Int)} (h : RP H t ps) : H t = some (.lst ((ps.map (·.1)).map V.ref)) ∧ LL H (ps.map (·.1)) (rws ps) := ⟨by rw [List.map_map]; exact h.1, rows_LL h.2⟩
theorem behind_get {n : Nat} {ns xs : List Int} (on : IsOrd n ns) (ox : IsOrd n xs) {i : Nat} {x : Int} (h : xs[i]? = some x) : ∃ j : Nat, x = (j : Int) ∧ j < n ∧ ∃ y, ns[j]? = some y ∧ (behindL ns xs)[i]? = some y := by
  have hx := rg_mem.mp ((List.Perm.mem_iff ox).mp (List.mem_of_getElem? h))
  refine ⟨x.toNat, by omega, by omega, ns[x.toNat]'(by rw [on.len]; omega), List.getElem?_eq_getElem _, ?_⟩
  have e : ns[x.toNat]? = some (ns[x.toNat]'(by rw [on.len]; omega)) := List.getElem?_eq_getElem _
  have e2 := g0_at e
  rw [show ((x.toNat : Nat) : Int) = x by omega] at e2
  have e3 : (behindL ns xs)[i]? = (xs[i]?).map (g0 ns) := List.getElem?_map ..
  rw [e3, h, ← e2]
  rfl
section
variable {P : Program} {w : World} {K : PySem.W.Frag} {mg : Str → Option Value} {base : Heap}
theorem scTurned : FnScope ["orders", "names", "order", "thing"] ["orders", "names"] (defScope s_law_turned) := ⟨rfl, rfl, rfl, by decide +kernel, rfl, by decide +kernel, by decide +kernel⟩
set_option maxHeartbeats 4000000 in
theorem ok_turned {f : Addr} {fd : FuncData} {k : Nat} (T : Df K mg "_law_turned" s_law_turned ["orders", "names"] f fd) (B : Bi mg) : FnOk P w K mg base CX0 (k + 1) f fd ["orders", "names"] spTurned := by
  refine T.F.ok scTurned (fun vs H Q E h => ?_) (fun cdv A outer s H vs Q E hr h => ?_)
  · obtain ⟨l, m, n, ps, ns, rfl, _⟩ := h
    rfl
  · obtain ⟨l, m, n, ps, ns, rfl, hl, ops, lps, hm, on, hn, q⟩ := h
    refine ⟨_, 
      (pss_one (ps_ret (pe_callB (cr_sortedR hr.units) (by rfl) B.sorted (by decide +kernel) (pa_cons (pe_lc (own := [("order", 2)]) (g := (gName 2)) (tt := tYes) (te := (tLc (iList K (tVar 2)) (gName 3) tYes (tOp (rIxL K) (tVar 1) (tVar 3)) [3])) rfl scTurned.nd (pi_list (pv 0)) (blkOk_by (N := ["orders", "names", "order", "thing"]) (sc := defScope s_law_turned) (by decide +kernel)) (fun _ _ _ _ _ => (pg_name (i := 2) scTurned.nd rfl (.inl rfl))) (fun _ _ _ _ _ => pts_nil) (fun _ _ _ _ _ => (pe_lc (own := [("thing", 3)]) (g := (gName 3)) (tt := tYes) (te := (tOp (rIxL K) (tVar 1) (tVar 3))) rfl scTurned.nd (pi_list (pv 2)) (blkOk_by (N := ["orders", "names", "order", "thing"]) (by rfl)) (fun _ _ _ _ _ => (pg_name (i := 3) scTurned.nd rfl (.inl rfl))) (fun _ _ _ _ _ => pts_nil) (fun _ _ _ _ _ => (pe_ix ix_list (pv 1) (pv 3) (fun _ _ => rfl)))))) pa_nil)))), ?_⟩
    refine ⟨_, rfl, l, rfl, ⟨_, SqL.of hl.1⟩, fun D nD => ?_⟩
    refine lc_list (K := K) (a := l) (xs := ps.map fun p => V.ref p.1) (fun i H3 => ∃ bs : List (Addr × List Int), RP H3 D bs ∧ rws bs = ((rws ps).take i).map (behindL ns) ∧ (∀ b ∈ bs, H b.1 = none ∧ b.1 ≠ D) ∧ Same H H3)
      ⟨[], ⟨upd_same, fun p hp => absurd hp List.not_mem_nil⟩, rfl, fun p hp => absurd hp List.not_mem_nil, same_new nD⟩ (fun i H3 _ hP => by obtain ⟨_, _, _, _, sm⟩ := hP; exact SqL.of (sm _ _ hl.1)) (fun i x H3 hx hP => ?_) (fun H3 hP => ?_)
    · obtain ⟨bs, hb, eb, nb, sm⟩ := hP
      obtain ⟨p, ep, rfl, hp⟩ := (hl.same sm).at hx
      have er := rws_at ep
      have op := ops _ (List.mem_of_getElem? er)
      have hbl : bs.length ≤ 1000 := by
        have := congrArg List.length eb
        rw [List.length_map, List.length_map, List.length_take, List.length_map] at this
        omega
      refine ⟨rfl, _, rfl, p.1, rfl, ⟨_, SqL.of hp⟩, fun M nM => ?_⟩
      have sM := same_new (o := .lst []) nM
      refine lc_list (K := K) (a := p.1) (xs := p.2.map V.int) (fun j H4 => H4 M = some (.lst (((behindL ns p.2).take j).map V.int)) ∧ Same H3 H4) ⟨upd_same, sM⟩ (fun j H4 _ hP => SqL.of (hP.2 _ _ hp)) (fun j x H4 hx hP => ?_) (fun H4 hP => ?_)
      · obtain ⟨hM, s4⟩ := hP
        obtain ⟨y, ey, rfl⟩ := int_at_inv hx
        obtain ⟨j', rfl, hj', z, ez, ebz⟩ := behind_get on op ey
        have hj : j < n := by rw [← op.len]; exact (List.getElem?_eq_some_iff.mp ey).1
        refine ⟨rfl, _, rfl, _, rfl, m, _, _, _, rfl, rfl, SqL.of (s4 _ _ (sm _ _ hm)), atI_nat (by rw [List.getElem?_map, ez]; rfl), ?_⟩
        refine ⟨_, hM, line_lt (by rw [List.length_map, List.length_take]; omega), by rw [upd_same, take_p ebz, List.map_append]; rfl, fun b o hb => ?_⟩
        rw [upd_ne (ne_of_none hb nM)]
        exact s4 _ _ hb
      · obtain ⟨hM, s4⟩ := hP
        have hlb : (behindL ns p.2).length = (p.2.map V.int).length := by
          show (List.map _ _).length = _
          rw [List.length_map, List.length_map]
        rw [← hlb, List.take_length] at hM
        have nMD : D ≠ M := ne_of_none hb.1 nM
        refine ⟨_, s4 _ _ hb.1, line_lt (by rw [List.length_map]; omega), bs ++ [(M, behindL ns p.2)], ⟨by rw [upd_same, List.map_append]; rfl, fun u hu => ?_⟩, ?_, fun u hu => ?_, fun b o h => ?_⟩
        · rcases List.mem_append.mp hu with hu | hu
          · rw [upd_ne (nb u hu).2]
            exact s4 _ _ (hb.2 u hu)
          · rw [List.mem_singleton.mp hu, upd_ne nMD.symm]
            exact hM
        · rw [take_p er, List.map_append, ← eb]
          show List.map _ (bs ++ [(M, behindL ns p.2)]) = _
          rw [List.map_append]
          rfl
        · rcases List.mem_append.mp hu with hu | hu
          · exact nb u hu
          · rw [List.mem_singleton.mp hu]
            exact ⟨sm.free nM, nMD.symm⟩
        · rw [upd_ne (ne_of_none h nD)]
          exact s4 _ _ (sm _ _ h)
    · obtain ⟨bs, hb, eb, nb, sm⟩ := hP
      rw [List.length_map, List.take_of_length_le (by rw [List.length_map]; exact Nat.le_refl _)] at eb
      refine ⟨D, bs, rfl, SqL.of hb.1, fun p hp => dp_list (hb.2 p hp), fun u nu => ?_⟩
      have s6 := same_new (o := .lst ((rowsR bs).map fun p => V.ref p.1)) nu
      exact q u (rowsR bs) _ (by rw [row_srt, eb]) ⟨⟨upd_same, fun p hp => s6 _ _ (hb.2 p ((rowsR_perm bs).mem_iff.mp hp))⟩, sm.free nu, fun p hp => (nb p ((rowsR_perm bs).mem_iff.mp hp)).1⟩ (sm.trans s6)
theorem scToldR : FnScope ["way", "d", "ahead", "order", "told", "far", "some", "one"] ["way", "d", "ahead", "order", "told"] (defScope s_law_told_right) := ⟨rfl, rfl, rfl, by decide +kernel, rfl, by decide +kernel, by decide +kernel⟩
set_option maxHeartbeats 4000000 in
theorem ok_toldR {f f1 : Addr} {fd d1 : FuncData} {k : Nat} (T : Df K mg "_law_told_right" s_law_told_right ["way", "d", "ahead", "order", "told"] f fd) (T_nearest_of : Df K mg "nearest_of" s_nearest_of ["way", "order", "orders"] f1 d1) (G_nearest_of : FnOk P w K mg base CX0 k f1 d1 ["way", "order", "orders"] spNearest) (B : Bi mg) : FnOk P w K mg base CX0 (k + 1) f fd ["way", "d", "ahead", "order", "told"] spToldR := by
  refine T.F.ok scToldR (fun vs H Q E h => ?_) (fun cdv A outer s H vs Q E hr h => ?_)
  · obtain ⟨w, d, l, o, t, n, ps, qs, xs, rfl, _⟩ := h
    rfl
  · obtain ⟨wy, d, l, o, t, n, ps, qs, xs, rfl, hw, hl, ops, ups, lps, ho, ox, hn1, hn2, ht, eq, q⟩ := h
    refine ⟨_, 
      (pss_cons (ps_if (pt_cmpR (op_eqD hr.units) (pv 2) (pe_lst pa_nil) (nomark _))
        (pss_one (ps_ret (pe_cmpR (op_eqD hr.units) (pv 4) (pe_lst pa_nil) (nomark _))))
        pss_nil)
      (pss_cons (ps_asg (pe_call G_nearest_of hr (by rfl) T_nearest_of.g T_nearest_of.F.kp T_nearest_of.b .nil pass0 (pa_cons (pv 0) (pa_cons (pv 3) (pa_cons (pv 2) pa_nil)))) (pg_tup (by rfl) (pgs_cons (pg_name (i := 5) scToldR.nd rfl (.inl rfl)) (pgs_cons (pg_name (i := 6) scToldR.nd rfl (.inl rfl)) pgs_nil))))
      (pss_cons (ps_if (pt_cmpR op_ne (pe_cmpR op_lt (pv 5) (pv 1) (nomark _)) (pe_cmpR (op_neD hr.units) (pv 4) (pe_lst pa_nil) (nomark _)) (nomark _))
        (pss_one (ps_ret pe_bl))
        pss_nil)
      (pss_one (ps_ret (pe_or (pe_cmpR (op_eqD hr.units) (pv 4) (pe_lst pa_nil) (nomark _)) (pe_one (pe_cmpR (op_eqD hr.units) (pe_lc (own := [("one", 7)]) (g := (gName 7)) (tt := (tTest (tOp (rNotInD K) (tVar 7) (tVar 4)))) (te := (tVar 7)) rfl scToldR.nd (pi_list (pv 6)) (blkOk_by (N := ["way", "d", "ahead", "order", "told", "far", "some", "one"]) (sc := defScope s_law_told_right) (by decide +kernel)) (fun _ _ _ _ _ => (pg_name (i := 7) scToldR.nd rfl (.inl rfl))) (fun _ _ _ _ _ => (pts_one (pt_cmpR (op_notInD (units65 hr)) (pv 7) (pv 4) (by rfl)))) (fun _ _ _ _ _ => (pv 7))) (pe_lst pa_nil) (nomark _))))))))), ?_⟩
    refine ⟨_, rfl, by decide, fun u nu => ?_⟩
    have s1 := same_new (o := .lst []) nu
    refine ⟨_, _, (hl.same s1).dp, dp_list (ns := []) upd_same, shaped_lists _, shaped_list _, _, rfl, ?_⟩
    generalize upd H u (.lst []) = H1 at s1 ⊢
    by_cases c : ps = []
    · rw [show PyData.eqv (dLL (rws ps)) (dL []) = true by rw [c]; exact eqv_list []]
      refine iteT ?_
      refine ⟨_, rfl, by decide, fun u2 nu2 => ?_⟩
      have s2 := same_new (o := .lst []) nu2
      refine ⟨_, _, ((ht.same s1).same s2).dp, dp_list (ns := []) upd_same, shaped_lists _, shaped_list _, ?_⟩
      rw [show PyData.eqv (dLL (rws qs)) (dL []) = true by rw [eq, c]; exact eqv_list []]
      exact q _ (s1.trans s2)
    have cr : rws ps ≠ [] := fun z => c (List.eq_nil_of_length_eq_zero (by have := congrArg List.length z; rw [List.length_map] at this; exact this))
    rw [eqv_ne cr]
    refine iteF ?_
    have hl1 := hl.same s1
    have lpos : 1 ≤ (rws ps).length := List.length_pos_iff.mpr cr
    refine ⟨_, rfl, _, rfl, _, rfl, wy, o, l, ps.map (·.1), xs, rws ps, n, rfl, hw, s1 _ _ ho, ox, ⟨(rp_two hl1).1, (rp_two hl1).2, ops, hn1, hn2⟩, ups, lpos, by rw [List.length_map]; exact lps, fun t2 l2 as2 m H2 nt2 nl2 nas2 nin2 hm ht2 hO2 s2 => ?_⟩
    refine ⟨t2, _, rfl, .inl (.inl ht2), rfl, _, _, rfl, _, _, rfl, rfl, ?_⟩
    have s12 := s1.trans s2
    have near : (m < d ↔ rws qs ≠ []) := by
      rw [eq]
      constructor
      · intro h z
        obtain ⟨r, hr, e⟩ := List.mem_map.mp hm.1
        have : r ∈ nearR wy xs d (rws ps) := List.mem_filter.mpr ⟨hr, decide_eq_true (by omega)⟩
        rw [z] at this
        exact absurd this List.not_mem_nil
      · intro z
        obtain ⟨r, hr⟩ := List.exists_mem_of_ne_nil _ z
        obtain ⟨h1, h2⟩ := List.mem_filter.mp hr
        have := hm.2 _ (List.mem_map.mpr ⟨r, h1, rfl⟩)
        have := of_decide_eq_true h2
        omega
    refine ⟨_, rfl, _, rfl, _, _, rfl, rfl, _, rfl, by decide, fun u3 nu3 => ?_⟩
    have s3 := same_new (o := .lst []) nu3
    have s13 := s12.trans s3
    refine ⟨_, _, (ht.same s13).dp, dp_list (ns := []) upd_same, shaped_lists _, shaped_list _, ?_⟩
    have ev : PyData.eqv (dLL (rws qs)) (dL []) = decide (rws qs = []) := by
      by_cases z : rws qs = []
      · rw [z, decide_eq_true rfl]; exact eqv_list []
      · rw [eqv_ne z, decide_eq_false z]
    rw [ev]
    have eb : decide (m < d) = !decide (rws qs = []) := by
      by_cases z : rws qs = []
      · rw [decide_eq_true z, decide_eq_false (fun h => near.mp h z)]; rfl
      · rw [decide_eq_false z, decide_eq_true (near.mpr z)]; rfl
    refine ⟨rfl, (!decide (V.bl (decide (m < d)) = V.bl (!decide (rws qs = [])))), rfl, ?_⟩
    rw [eb, decide_eq_true rfl]
    refine iteF ?_
    have hO3 := hO2.same s3
    generalize upd H2 u3 (.lst []) = H3 at s13 hO3 ⊢
    refine ⟨_, rfl, by decide, fun u4 nu4 => ?_⟩
    have s4 := same_new (o := .lst []) nu4
    have s14 := s13.trans s4
    refine ⟨_, _, (ht.same s14).dp, dp_list (ns := []) upd_same, shaped_lists _, shaped_list _, ?_⟩
    rw [ev]
    have hO4 := hO3.same s4
    generalize upd H3 u4 (.lst []) = H4 at s14 hO4 ⊢
    by_cases z : rws qs = []
    · rw [decide_eq_true z]
      exact ⟨_, rfl, iteT (q _ s14)⟩
    rw [decide_eq_false z]
    refine ⟨_, rfl, iteF ?_⟩
    have md := near.mpr z
    refine ⟨_, rfl, l2, rfl, ⟨_, SqL.of hO4.top⟩, fun D nD => ?_⟩
    refine lc_list (K := K) (a := l2) (xs := as2.map V.ref) (fun i H5 => H5 D = some (.lst []) ∧ Same H4 H5) ⟨upd_same, same_new nD⟩ (fun i H5 _ hP => SqL.of (hP.2 _ _ hO4.top)) (fun i x H5 hx hP => ?_) (fun H5 hP => ?_)
    · obtain ⟨hD, s5⟩ := hP
      obtain ⟨c0, ec, rfl⟩ := ref_at_inv hx
      obtain ⟨row, er, hc⟩ := (hO4.ll.same s5).get ec
      refine ⟨rfl, _, rfl, _, rfl, dL row, (rws qs).map dL, dp_list hc, ((ht.same s14).same s5).dp, shaped_list _, shaped_lists _, _, rfl, ?_⟩
      show if (!((rws qs).map dL).any fun z => PyData.eqv z (dL row)) = true then _ else _
      rw [any_row]
      have hin : row ∈ rws qs := by
        obtain ⟨h1, h2⟩ := List.mem_filter.mp (List.mem_of_getElem? er)
        rw [eq]
        exact List.mem_filter.mpr ⟨h1, decide_eq_true (by have := of_decide_eq_true h2; omega)⟩
      rw [decide_eq_true hin]
      exact iteF ⟨hD, s5⟩
    · obtain ⟨hD, s5⟩ := hP
      refine ⟨by decide, fun u6 nu6 => ?_⟩
      have s6 := same_new (o := .lst []) nu6
      refine ⟨_, _, dp_list (ns := []) (s6 _ _ hD), dp_list (ns := []) upd_same, shaped_list _, shaped_list _, ?_⟩
      rw [eqv_list]
      exact q _ (s14.trans (s5.trans s6))
end
end Fo
namespace Fo
open PySem PySem.Spec PyProof.Rows L2
def FarAp (w : Str) (d : Int) (rs : List (List Int)) : Prop := ∀ x ∈ rs, ∀ y ∈ rs, x ≠ y → d ≤ farW w x y
def spDropd (C : Addr) : Sp := fun vs H Q _ => ∃ (D a e : Addr) (X : List Addr) (w : Str) (n : Nat) (d : Int) (rs : List (List Int)) (ss : List (List (List Int))), vs = [.ref D, .ref a] ∧ DqAt H D ∧ LsAt C H a e X w n d rs ss ∧ D ∈ X ∧ a ≠ D ∧ e ≠ D ∧ rs.length ≤ 60 ∧ ss.length ≤ 500 ∧ rs.Nodup ∧ rs.Pairwise (· ≤ ·) ∧ FarAp w d rs ∧
  ∀ (ss' : List (List (List Int))) (H' : Hp), LsAt C H' a e X w n d rs ss' → DqAt H' D → ss'.length ≤ ss.length + 2 → (∀ b o, H b = some o → b ≠ D → b ≠ a → b ≠ e → H' b = some o) → Q (.bl true) H'
section
variable {P : Program} {w : World} {K : PySem.W.Frag} {mg : Str → Option Value} {base : Heap}
theorem scDropd : FnScope ["deck", "busy", "one"] ["deck", "busy"] (defScope s_law_dropped_right) := ⟨rfl, rfl, rfl, by decide +kernel, rfl, by decide +kernel, by decide +kernel⟩
set_option maxHeartbeats 4000000 in
theorem ok_dropd {C_Lister fI f f1 g1 g2 g3 g4 : Addr} {fd d1 b1 b2 b3 b4 : FuncData} {k : Nat} (T : Df K mg "_law_dropped_right" s_law_dropped_right ["deck", "busy"] f fd) (T_Lister : TxL K mg C_Lister fI) (T__law_next : Df K mg "_law_next" s_law_next ["deck"] f1 d1) (T_Lister_come : Dm K C_Lister "come" "Lister.come" s_Lister_come ["self", "order"] g1 b1) (T_Lister_orders : Dm K C_Lister "orders" "Lister.orders" s_Lister_orders ["self"] g2 b2) (T_Lister_drop : Dm K C_Lister "drop" "Lister.drop" s_Lister_drop ["self", "order"] g3 b3) (T_Lister_undo : Dm K C_Lister "undo" "Lister.undo" s_Lister_undo ["self"] g4 b4)
    (G__law_next : FnOk P w K mg base CX0 k f1 d1 ["deck"] spNext) (G_Lister_come : FnOk P w K mg base CX0 k g1 b1 ["self", "order"] (spComeL C_Lister)) (G_Lister_orders : FnOk P w K mg base CX0 k g2 b2 ["self"] (spOrdersL C_Lister)) (G_Lister_drop : FnOk P w K mg base CX0 k g3 b3 ["self", "order"] (spDropL C_Lister)) (G_Lister_undo : FnOk P w K mg base CX0 k g4 b4 ["self"] (spUndoN C_Lister)) (B : Bi mg) : FnOk P w K mg base CX0 (k + 1) f fd ["deck", "busy"] (spDropd C_Lister) := by
  refine T.F.ok scDropd (fun vs H Q E h => ?_) (fun cdv A outer s H vs Q E hr h => ?_)
  · obtain ⟨D, a, e, X, w, n, d, rs, ss, rfl, _⟩ := h
    rfl
  · obtain ⟨D, a, e, X, wy, n, d, rs, ss, rfl, hD, L, DX, naD, neD, lrs, lss, urs, so, ap, q⟩ := h
    refine ⟨_, 
      (pss_cons (ps_if (PW.pt (pw_or (pt_cmpR (op_eqD hr.units) (pe_meth0 (pv 1) T_Lister.cl T_Lister_orders.me G_Lister_orders hr T_Lister_orders.b .nil pass0) (pe_lst pa_nil) (nomark _)) (pw_or1 (pt_cmpR op_eq (pe_op op_mod (pe_call G__law_next hr (by rfl) T__law_next.g T__law_next.F.kp T__law_next.b .nil pass0 (pa_cons (pv 0) pa_nil)) pe_int) pe_int (nomark _)))))
        (pss_one (ps_ret pe_bl))
        pss_nil)
      (pss_cons (ps_set (i := 2) scDropd.nd rfl (.inl rfl) (pe_ix ix_list (pe_meth0 (pv 1) T_Lister.cl T_Lister_orders.me G_Lister_orders hr T_Lister_orders.b .nil pass0) (pe_op op_mod (pe_call G__law_next hr (by rfl) T__law_next.g T__law_next.F.kp T__law_next.b .nil pass0 (pa_cons (pv 0) pa_nil)) (pe_callB call_len_seq (by rfl) B.len PySem.boot_len (pa_cons (pe_meth0 (pv 1) T_Lister.cl T_Lister_orders.me G_Lister_orders hr T_Lister_orders.b .nil pass0) pa_nil))) (fun _ _ => rfl)))
      (pss_cons (ps_expr (pe_meth (pv 1) T_Lister.cl T_Lister_drop.me G_Lister_drop hr T_Lister_drop.b .nil pass0 (pa_cons (pv 2) pa_nil)))
      (pss_cons (ps_if (pt_cmpR op_eq (pe_op op_mod (pe_call G__law_next hr (by rfl) T__law_next.g T__law_next.F.kp T__law_next.b .nil pass0 (pa_cons (pv 0) pa_nil)) pe_int) pe_int (nomark _))
        (pss_one (ps_ret (pe_cmpR op_isN (pe_meth0 (pv 1) T_Lister.cl T_Lister_undo.me G_Lister_undo hr T_Lister_undo.b .nil pass0) pe_non (nomark _))))
        pss_nil)
      (pss_one (ps_ret (pe_cmpR (op_eqD hr.units) (pe_meth (pv 1) T_Lister.cl T_Lister_come.me G_Lister_come hr T_Lister_come.b .nil pass0 (pa_cons (pv 2) pa_nil)) (pe_lst pa_nil) (nomark _)))))))), ?_⟩
    obtain ⟨dx, fs, ha, hno⟩ := L.obj "orders" (by decide +kernel) (by decide +kernel) (by decide +kernel) (by decide +kernel) (by decide +kernel)
    refine ⟨_, rfl, a, dx, fs, rfl, ha, hno, a, e, X, wy, n, d, rs, ss, rfl, L, by omega, fun l1 qs1 H1 e1 nr1 s1 => ⟨by decide, fun u nu => ?_⟩⟩
    have s2 := same_new (o := .lst []) nu
    refine ⟨_, _, (nr1.1.same s2).dp, dp_list (ns := []) upd_same, shaped_lists _, shaped_list _, _, rfl, ?_⟩
    rw [e1]
    have s12 := s1.trans s2
    have L2 := L.same s12
    have D2 := hD.same s12
    generalize upd H1 u (.lst []) = H2 at s12 L2 D2 ⊢
    clear s2 s1 nr1 e1 nu
    by_cases c : rs = []
    · rw [show PyData.eqv (dLL rs) (dL []) = true by rw [c]; exact eqv_list []]
      exact iteT (iteT (q ss H2 L2 D2 (by omega) fun b o hb _ _ _ => s12 _ _ hb))
    rw [eqv_ne c]
    refine iteF ?_
    have rpos : 0 < rs.length := List.length_pos_iff.mpr c
    have drawL : ∀ {G G' : Hp} {rs' : List (List Int)} {ss' : List (List (List Int))}, LsAt C_Lister G a e X wy n d rs' ss' → KeepD D G G' → DqAt G' D → LsAt C_Lister G' a e X wy n d rs' ss' := fun L k q => L.out k DX naD neD (by obtain ⟨ms, e, _⟩ := q; exact ⟨_, e⟩)
    refine ⟨_, rfl, D, rfl, D2, fun v1 H3 _ _ D3 k3 => ⟨v1, 2, rfl, rfl, (show (0 : Int) < 2 by decide), rfl, _, rfl, ?_⟩⟩
    have L3 := drawL L2 k3 D3
    have kk3 : ∀ b o, H b = some o → b ≠ D → H3 b = some o := fun b o hb nb => k3 _ _ (s12 _ _ hb) nb
    refine ite2 (fun _ => q ss H3 L3 D3 (by omega) fun b o hb nb _ _ => kk3 b o hb nb) (fun _ => ?_)
    clear L2 D2 k3 s12
    -- one
    obtain ⟨dx, fs, ha, hno⟩ := L3.obj "orders" (by decide +kernel) (by decide +kernel) (by decide +kernel) (by decide +kernel) (by decide +kernel)
    refine ⟨_, rfl, a, dx, fs, rfl, ha, hno, a, e, X, wy, n, d, rs, ss, rfl, L3, by omega, fun l4 qs4 H4 e4 nr4 s4 => ?_⟩
    have L4 := L3.same s4
    have D4 := D3.same s4
    have nl4 := D3.ne nr4.2.1
    have nq4 : ∀ p ∈ qs4, p.1 ≠ D := fun p hp => D3.ne (nr4.2.2 p hp)
    refine ⟨_, rfl, D, rfl, D4, fun v2 H5 _ _ D5 k5 => ?_⟩
    have L5 := drawL L4 k5 D5
    have hl5 : RP H5 l4 qs4 := ⟨k5 _ _ nr4.1.1 nl4, fun p hp => k5 _ _ (nr4.1.2 p hp) (nq4 p hp)⟩
    obtain ⟨dx, fs, ha, hno⟩ := L5.obj "orders" (by decide +kernel) (by decide +kernel) (by decide +kernel) (by decide +kernel) (by decide +kernel)
    refine ⟨_, rfl, a, dx, fs, rfl, ha, hno, a, e, X, wy, n, d, rs, ss, rfl, L5, by omega, fun l6 qs6 H6 e6 nr6 s6 => ?_⟩
    have L6 := L5.same s6
    have D6 := D5.same s6
    have hl6 := hl5.same s6
    have lq6 : (qs6.map fun p => V.ref p.1).length = rs.length := by rw [List.length_map, ← e6, List.length_map]
    refine ⟨l6, _, rfl, .inl (SqL.of nr6.1.1), v2, _, rfl, rfl, by rw [lq6]; omega, ?_⟩
    obtain ⟨j, ej, hj⟩ := mod_ix v2 rpos
    have hj4 : j < qs4.length := by rw [← e4, List.length_map] at hj; exact hj
    obtain ⟨p, ep⟩ : ∃ p, qs4[j]? = some p := ⟨qs4[j], List.getElem?_eq_getElem hj4⟩
    have mp := List.mem_of_getElem? ep
    have er : rs[j]? = some p.2 := by rw [← e4]; exact rws_at ep
    have mr := List.mem_of_getElem? er
    have op := L.ord _ mr
    refine ⟨l4, _, _, .ref p.1, rfl, rfl, SqL.of hl6.1, by rw [lq6, ej]; exact atI_nat (by rw [List.getElem?_map, ep]; rfl), ?_⟩
    have kk6 : ∀ b o, H b = some o → b ≠ D → H6 b = some o := fun b o hb nb => s6 _ _ (k5 _ _ (s4 _ _ (kk3 b o hb nb)) nb)
    have npa : p.1 ≠ a ∧ p.1 ≠ e := by
      obtain ⟨dx', t', ps', st', x1, x2, _⟩ := L3.ex
      have h0 := nr4.2.2 p mp
      exact ⟨fun z => (by rw [z, x1] at h0; cases h0), fun z => (by rw [z, x2] at h0; cases h0)⟩
    have npD := nq4 p mp
    clear L5 L4 L3 D5 D4 D3 hl5 nr6 s6 k5 s4 nr4 e6 kk3
    -- dropped
    obtain ⟨dx, fs, ha, hno⟩ := L6.obj "drop" (by decide +kernel) (by decide +kernel) (by decide +kernel) (by decide +kernel) (by decide +kernel)
    refine ⟨_, rfl, a, dx, fs, rfl, ha, hno, _, rfl, a, e, p.1, X, wy, n, d, rs, ss, p.2, rfl, L6, hl6.2 p mp, mr, op, by omega, by omega, fun H7 L7 k7 => ?_⟩
    have D7 : DqAt H7 D := D6.keep fun o hb => k7 _ _ hb naD.symm neD.symm
    have hp7 := k7 _ _ (hl6.2 p mp) npa.1 npa.2
    refine ⟨_, rfl, D, rfl, D7, fun v3 H8 _ _ D8 k8 => ⟨v3, 2, rfl, rfl, (show (0 : Int) < 2 by decide), rfl, _, rfl, ?_⟩⟩
    have L8 := drawL L7 k8 D8
    have hp8 := k8 _ _ hp7 npD
    have kk8 : ∀ b o, H b = some o → b ≠ D → b ≠ a → b ≠ e → H8 b = some o := fun b o hb nb n1 n2 => k8 _ _ (k7 _ _ (kk6 b o hb nb) n1 n2) nb
    refine ite2 (fun _ => ?_) (fun _ => ?_)
    · obtain ⟨dx, fs, ha, hno⟩ := L8.obj "undo" (by decide +kernel) (by decide +kernel) (by decide +kernel) (by decide +kernel) (by decide +kernel)
      refine ⟨_, rfl, a, dx, fs, rfl, ha, hno, a, e, X, wy, n, d, _, rs, ss, rfl, L8, fun H9 L9 k9 => ⟨rfl, ?_⟩⟩
      exact q ss H9 L9 (D8.keep fun o hb => k9 _ _ hb naD.symm neD.symm) (by omega) fun b o hb nb n1 n2 => k9 _ _ (kk8 b o hb nb n1 n2) n1 n2
    · obtain ⟨dx, fs, ha, hno⟩ := L8.obj "come" (by decide +kernel) (by decide +kernel) (by decide +kernel) (by decide +kernel) (by decide +kernel)
      have lf : (rs.filter fun r => !decide (r = p.2)).length ≤ rs.length := List.length_filter_le _ _
      refine ⟨_, rfl, a, dx, fs, rfl, ha, hno, _, rfl, a, e, p.1, X, wy, n, d, _, _, p.2, rfl, L8, hp8, op, by omega, by rw [List.length_append]; show _ + 1 < _; omega, fun l9 qs9 rs9 ss9 H9 e9 r1 r2 nr9 L9 k9 => ?_⟩
      have near0 : nearR wy p.2 d (rs.filter fun r => !decide (r = p.2)) = [] := by
        refine List.filter_eq_nil_iff.mpr fun r hr z => ?_
        obtain ⟨h1, h2⟩ := List.mem_filter.mp hr
        have nr : r ≠ p.2 := by simpa using h2
        have := ap p.2 mr r h1 nr.symm
        have := of_decide_eq_true z
        omega
      have q9 : qs9 = [] := List.eq_nil_of_length_eq_zero (by
        have := congrArg List.length e9
        rw [List.length_map, near0] at this
        exact this)
      obtain ⟨p9, so9, es9⟩ := r1 q9
      have pr : rs.Perm ((rs.filter fun r => !decide (r = p.2)) ++ [p.2]) := by
        rw [← erase_filter urs er]
        exact erase_perm er
      have ers : rs9 = rs := rowsP_eq (p9.trans pr.symm) so9 so
      subst ers
      refine ⟨by decide, fun u nu => ?_⟩
      have s10 := same_new (o := .lst []) nu
      refine ⟨_, _, (nr9.1.same s10).dp, dp_list (ns := []) upd_same, shaped_lists _, shaped_list _, ?_⟩
      rw [show PyData.eqv (dLL (rws qs9)) (dL []) = true by rw [q9]; exact eqv_list []]
      have eX : e ∈ X := by
        obtain ⟨dx', t', ps', st', x1, x2, x3, x4, x5, x6, eX, _⟩ := L8.ex
        exact eX
      exact q ss9 _ ((L9.sub (fun x hx => List.mem_cons_of_mem _ (List.mem_append_right _ hx)) eX).same s10) ((D8.keep fun o hb => k9 _ _ hb naD.symm neD.symm).same s10) (by rw [es9, List.length_append, List.length_append]; show _ + 1 + 1 ≤ _; omega) fun b o hb nb n1 n2 => s10 _ _ (k9 _ _ (kk8 b o hb nb n1 n2) n1 n2)
end
end Fo
namespace Fo
open PySem PySem.Spec PyProof.Rows L2
/-! k76: four Listers -/
abbrev XQ (D : Addr) (p q r b : Addr × Addr) : List Addr := [D, p.1, p.2, q.1, q.2, r.1, r.2, b.1, b.2]
structure QAt (C : Addr) (H : Hp) (D : Addr) (p q r b : Addr × Addr) (w : Str) (n : Nat) (d : Int) (rs1 rs2 rs3 rs4 : List (List Int)) (s1 s2 s3 s4 : List (List (List Int))) : Prop where
  dq : DqAt H D
  l1 : LsAt C H p.1 p.2 (XQ D p q r b) w n d rs1 s1
  l2 : LsAt C H q.1 q.2 (XQ D p q r b) w n d rs2 s2
  l3 : LsAt C H r.1 r.2 (XQ D p q r b) w n d rs3 s3
  l4 : LsAt C H b.1 b.2 (XQ D p q r b) w n d rs4 s4
  nd : (XQ D p q r b).Nodup
theorem LsAt.kpo {C : Addr} {H H' : Hp} {a e a' e' : Addr} {X : List Addr} {w : Str} {n : Nat} {d : Int} {rs : List (List Int)} {ss : List (List (List Int))} (L : LsAt C H a e X w n d rs ss) (k : KpL a' e' H H') (ha' : a' ∈ X) (he' : e' ∈ X) (n1 : a ≠ a') (n2 : a ≠ e') (n3 : e ≠ a') (n4 : e ≠ e') (t1 : ∃ o, H' a' = some o) (t2 : ∃ o, H' e' = some o) : LsAt C H' a e X w n d rs ss :=
  L.outY (Y := fun b => b = a' ∨ b = e') (fun b o hb nb => k b o hb (fun z => nb (.inl z)) fun z => nb (.inr z)) (fun y hy => hy.elim (fun z => z ▸ ha') fun z => z ▸ he') (fun z => z.elim n1 n2) (fun z => z.elim n3 n4) (fun y _ hy => hy.elim (fun z => z ▸ t1) fun z => z ▸ t2)
section
variable {C : Addr} {H H' : Hp} {D : Addr} {p q r b : Addr × Addr} {w : Str} {n : Nat} {d : Int} {rs1 rs2 rs3 rs4 rs' : List (List Int)} {s1 s2 s3 s4 ss' : List (List (List Int))}
theorem xq_ne (nd : (XQ D p q r b).Nodup) : (D ≠ p.1 ∧ D ≠ p.2 ∧ D ≠ q.1 ∧ D ≠ q.2 ∧ D ≠ r.1 ∧ D ≠ r.2 ∧ D ≠ b.1 ∧ D ≠ b.2) ∧ (p.1 ≠ p.2 ∧ p.1 ≠ q.1 ∧ p.1 ≠ q.2 ∧ p.1 ≠ r.1 ∧ p.1 ≠ r.2 ∧ p.1 ≠ b.1 ∧ p.1 ≠ b.2) ∧ (p.2 ≠ q.1 ∧ p.2 ≠ q.2 ∧ p.2 ≠ r.1 ∧ p.2 ≠ r.2 ∧ p.2 ≠ b.1 ∧ p.2 ≠ b.2) ∧ (q.1 ≠ q.2 ∧ q.1 ≠ r.1 ∧ q.1 ≠ r.2 ∧ q.1 ≠ b.1 ∧ q.1 ≠ b.2) ∧ (q.2 ≠ r.1 ∧ q.2 ≠ r.2 ∧ q.2 ≠ b.1 ∧ q.2 ≠ b.2) ∧ (r.1 ≠ r.2 ∧ r.1 ≠ b.1 ∧ r.1 ≠ b.2) ∧ (r.2 ≠ b.1 ∧ r.2 ≠ b.2) ∧ b.1 ≠ b.2 := by
  simp only [XQ, List.nodup_cons, List.mem_cons, List.not_mem_nil, or_false, not_or, List.nodup_nil, and_true, not_false_eq_true] at nd
  grind
theorem QAt.same (W : QAt C H D p q r b w n d rs1 rs2 rs3 rs4 s1 s2 s3 s4) (s : Same H H') : QAt C H' D p q r b w n d rs1 rs2 rs3 rs4 s1 s2 s3 s4 := ⟨W.dq.same s, W.l1.same s, W.l2.same s, W.l3.same s, W.l4.same s, W.nd⟩
theorem QAt.draw (W : QAt C H D p q r b w n d rs1 rs2 rs3 rs4 s1 s2 s3 s4) (k : KeepD D H H') (dq : DqAt H' D) : QAt C H' D p q r b w n d rs1 rs2 rs3 rs4 s1 s2 s3 s4 := by
  obtain ⟨⟨d1, d2, d3, d4, d5, d6, d7, d8⟩, -⟩ := xq_ne W.nd
  have tq : ∃ o, H' D = some o := by obtain ⟨ms, e, _⟩ := dq; exact ⟨_, e⟩
  have m : D ∈ XQ D p q r b := List.mem_cons_self
  exact ⟨dq, W.l1.out k m d1.symm d2.symm tq, W.l2.out k m d3.symm d4.symm tq, W.l3.out k m d5.symm d6.symm tq, W.l4.out k m d7.symm d8.symm tq, W.nd⟩
theorem LsAt.tra {a e : Addr} {X : List Addr} (l : LsAt C H a e X w n d rs' ss') : (∃ o, H a = some o) ∧ ∃ o, H e = some o := by
  obtain ⟨dx, t, ps, st, x1, x2, _⟩ := l.ex
  exact ⟨⟨_, x1⟩, _, x2⟩
theorem QAt.set1 (W : QAt C H D p q r b w n d rs1 rs2 rs3 rs4 s1 s2 s3 s4) (k : KpL p.1 p.2 H H') (l : LsAt C H' p.1 p.2 (XQ D p q r b) w n d rs' ss') : QAt C H' D p q r b w n d rs' rs2 rs3 rs4 ss' s2 s3 s4 := by
  obtain ⟨⟨d1, d2, d3, d4, d5, d6, d7, d8⟩, ⟨a1, a2, a3, a4, a5, a6, a7⟩, ⟨b1, b2, b3, b4, b5, b6⟩, ⟨c1, c2, c3, c4, c5⟩, ⟨e1, e2, e3, e4⟩, ⟨f1, f2, f3⟩, ⟨g1, g2⟩, h1⟩ := xq_ne W.nd
  obtain ⟨t1, t2⟩ := l.tra
  exact ⟨W.dq.keep fun o hb => k _ _ hb d1 d2, l, W.l2.kpo k (by simp) (by simp) a2.symm b1.symm a3.symm b2.symm t1 t2, W.l3.kpo k (by simp) (by simp) a4.symm b3.symm a5.symm b4.symm t1 t2, W.l4.kpo k (by simp) (by simp) a6.symm b5.symm a7.symm b6.symm t1 t2, W.nd⟩
theorem QAt.set2 (W : QAt C H D p q r b w n d rs1 rs2 rs3 rs4 s1 s2 s3 s4) (k : KpL q.1 q.2 H H') (l : LsAt C H' q.1 q.2 (XQ D p q r b) w n d rs' ss') : QAt C H' D p q r b w n d rs1 rs' rs3 rs4 s1 ss' s3 s4 := by
  obtain ⟨⟨d1, d2, d3, d4, d5, d6, d7, d8⟩, ⟨a1, a2, a3, a4, a5, a6, a7⟩, ⟨b1, b2, b3, b4, b5, b6⟩, ⟨c1, c2, c3, c4, c5⟩, ⟨e1, e2, e3, e4⟩, ⟨f1, f2, f3⟩, ⟨g1, g2⟩, h1⟩ := xq_ne W.nd
  obtain ⟨t1, t2⟩ := l.tra
  exact ⟨W.dq.keep fun o hb => k _ _ hb d3 d4, W.l1.kpo k (by simp) (by simp) a2 a3 b1 b2 t1 t2, l, W.l3.kpo k (by simp) (by simp) c2.symm e1.symm c3.symm e2.symm t1 t2, W.l4.kpo k (by simp) (by simp) c4.symm e3.symm c5.symm e4.symm t1 t2, W.nd⟩
theorem QAt.set3 (W : QAt C H D p q r b w n d rs1 rs2 rs3 rs4 s1 s2 s3 s4) (k : KpL r.1 r.2 H H') (l : LsAt C H' r.1 r.2 (XQ D p q r b) w n d rs' ss') : QAt C H' D p q r b w n d rs1 rs2 rs' rs4 s1 s2 ss' s4 := by
  obtain ⟨⟨d1, d2, d3, d4, d5, d6, d7, d8⟩, ⟨a1, a2, a3, a4, a5, a6, a7⟩, ⟨b1, b2, b3, b4, b5, b6⟩, ⟨c1, c2, c3, c4, c5⟩, ⟨e1, e2, e3, e4⟩, ⟨f1, f2, f3⟩, ⟨g1, g2⟩, h1⟩ := xq_ne W.nd
  obtain ⟨t1, t2⟩ := l.tra
  exact ⟨W.dq.keep fun o hb => k _ _ hb d5 d6, W.l1.kpo k (by simp) (by simp) a4 a5 b3 b4 t1 t2, W.l2.kpo k (by simp) (by simp) c2 c3 e1 e2 t1 t2, l, W.l4.kpo k (by simp) (by simp) f2.symm g1.symm f3.symm g2.symm t1 t2, W.nd⟩
theorem QAt.set4 (W : QAt C H D p q r b w n d rs1 rs2 rs3 rs4 s1 s2 s3 s4) (k : KpL b.1 b.2 H H') (l : LsAt C H' b.1 b.2 (XQ D p q r b) w n d rs' ss') : QAt C H' D p q r b w n d rs1 rs2 rs3 rs' s1 s2 s3 ss' := by
  obtain ⟨⟨d1, d2, d3, d4, d5, d6, d7, d8⟩, ⟨a1, a2, a3, a4, a5, a6, a7⟩, ⟨b1, b2, b3, b4, b5, b6⟩, ⟨c1, c2, c3, c4, c5⟩, ⟨e1, e2, e3, e4⟩, ⟨f1, f2, f3⟩, ⟨g1, g2⟩, h1⟩ := xq_ne W.nd
  obtain ⟨t1, t2⟩ := l.tra
  exact ⟨W.dq.keep fun o hb => k _ _ hb d7 d8, W.l1.kpo k (by simp) (by simp) a6 a7 b5 b6 t1 t2, W.l2.kpo k (by simp) (by simp) c4 c5 e3 e4 t1 t2, W.l3.kpo k (by simp) (by simp) f2 f3 g1 g2 t1 t2, l, W.nd⟩
theorem LsAt.addA {a e : Addr} {X : List Addr} (l : LsAt C H a e X w n d rs' ss') : LsAt C H a e (a :: X) w n d rs' ss' := by
  obtain ⟨⟨dx, t, ps, st, e1, e2, e3, e4, e5, e6, eX, tX, pX, sX⟩, tr, r⟩ := l
  have ne : ∀ {z : Addr} {xs : List V}, H z = some (.lst xs) → z ∉ X → z ∉ a :: X := fun {z xs} h1 h2 hm => by
    rcases List.mem_cons.mp hm with rfl | hm
    · rw [h1] at e1; cases e1
    · exact h2 hm
  refine ⟨⟨dx, t, ps, st, e1, e2, e3, e4, e5, e6, List.mem_cons_of_mem _ eX, ne e3.1 tX, fun p hp => ne (e3.2 p hp) (pX p hp), fun q hq => ⟨ne (e5 q hq).1 (sX q hq).1, fun p hp => ne ((e5 q hq).2 p hp) ((sX q hq).2 p hp)⟩⟩, fun x hx => ?_, by assumption, by assumption, by assumption, by assumption, by assumption, by assumption⟩
  rcases List.mem_cons.mp hx with rfl | hx
  · exact ⟨_, e1⟩
  · exact tr x hx
end
/-! what is called otherwise, and from behind, lies alike -/
theorem near_map {w : Str} {d : Int} {f : List Int → List Int} {x : List Int} {rs : List (List Int)} (hf : ∀ r ∈ rs, farW w (f x) (f r) = farW w x r) : nearR w (f x) d (srt (rs.map f)) = srt ((nearR w x d rs).map f) := by
  unfold nearR
  rw [srt_filter]
  congr 1
  rw [List.filter_map]
  congr 1
  exact List.filter_congr fun r hr => by
    show decide (farW w (f x) (f r) < d) = _
    rw [hf r hr]
theorem called_far {w : Str} {n : Nat} {ns xs ys : List Int} (hw : IsWay w) (on : IsOrd n ns) (ox : IsOrd n xs) (oy : IsOrd n ys) (hn : 1 ≤ n) : farW w (behindL ns xs) (behindL ns ys) = farW w xs ys :=
  farW_called hw ox oy (behind_ord on ox) (behind_ord on oy) hn (show IsOrd n ((rg n).map (g0 ns)) by rw [← g0_ord on]; exact on) (behind_pos on ox) (behind_pos on oy)
theorem srt_map_perm {f : List Int → List Int} {rs qs : List (List Int)} (p : rs.Perm qs) : srt (rs.map f) = srt (qs.map f) := srt_of_perm (p.map f)
theorem prs_map {w : Str} {n : Nat} {f : List Int → List Int} {rs : List (List Int)} (hw : IsWay w) (hn : 1 ≤ n) (ors : ∀ r ∈ rs, IsOrd n r) (of : ∀ r ∈ rs, IsOrd n (f r)) (u : rs.Nodup) (hf : ∀ x ∈ rs, ∀ y ∈ rs, farW w (f x) (f y) = farW w x y) (y : Int) : y ∈ prs w (srt (rs.map f)) (srt (rs.map f)).length ↔ y ∈ prs w rs rs.length := by
  have inj : ∀ x ∈ rs, ∀ z ∈ rs, f x = f z → x = z := fun x hx z hz e => by
    have h := hf x hx z hz
    rw [e, farW_self (of z hz) hn] at h
    exact farW_zero hw (ors x hx) (ors z hz) hn h.symm
  have um : (rs.map f).Nodup := by
    refine List.pairwise_map.mpr ?_
    refine List.Pairwise.imp_of_mem ?_ u
    intro x z hx hz nxz e
    exact nxz (inj x hx z hz e)
  have om : ∀ r ∈ rs.map f, IsOrd n r := fun r hr => by
    obtain ⟨x, hx, rfl⟩ := List.mem_map.mp hr
    exact of x hx
  rw [prs_mem (fun r hr => om r ((srt_perm _).mem_iff.mp hr)) hn ((srt_perm _).nodup_iff.mpr um) _ (Nat.le_refl _), prs_mem ors hn u _ (Nat.le_refl _), List.take_length, List.take_length]
  constructor
  · rintro ⟨x, hx, z, hz, nxz, rfl⟩
    obtain ⟨x', hx', rfl⟩ := List.mem_map.mp ((srt_perm _).mem_iff.mp hx)
    obtain ⟨z', hz', rfl⟩ := List.mem_map.mp ((srt_perm _).mem_iff.mp hz)
    exact ⟨x', hx', z', hz', fun e => nxz (by rw [e]), hf x' hx' z' hz'⟩
  · rintro ⟨x, hx, z, hz, nxz, rfl⟩
    exact ⟨f x, (srt_perm _).mem_iff.mpr (List.mem_map_of_mem hx), f z, (srt_perm _).mem_iff.mpr (List.mem_map_of_mem hz), fun e => nxz (inj x hx z hz e), (hf x hx z hz).symm⟩
theorem FarAp.snoc {w : Str} {n : Nat} {d : Int} {rs rs' : List (List Int)} {x : List Int} (h : FarAp w d rs) (ors : ∀ r ∈ rs, IsOrd n r) (ox : IsOrd n x) (hn : 1 ≤ n) (near : nearR w x d rs = []) (p : rs'.Perm (rs ++ [x])) : FarAp w d rs' := fun y hy z hz nyz => by
  have far : ∀ r ∈ rs, d ≤ farW w x r := fun r hr => by
    have := List.filter_eq_nil_iff.mp near r hr
    have : ¬ farW w x r < d := fun z => this (decide_eq_true z)
    omega
  have m : ∀ y ∈ rs', y ∈ rs ∨ y = x := fun y hy => (List.mem_append.mp (p.mem_iff.mp hy)).imp id List.mem_singleton.mp
  rcases m y hy with hy | rfl
  · rcases m z hz with hz | rfl
    · exact h y hy z hz nyz
    · rw [farW_turn ox (ors y hy) hn]; exact far y hy
  · rcases m z hz with hz | rfl
    · exact far z hz
    · exact absurd rfl nyz
end Fo
namespace Fo
open PySem PySem.Spec PyProof.Rows L2
def spLaw (K : PySem.W.Frag) : Sp := fun vs H Q _ => ∃ (a : Addr) (ns : List Int), vs = [.ref a] ∧ SqL K H a (ns.map V.int) ∧ ns.length ≤ 63 ∧ ∀ H', Q (.bl true) H'
theorem turns3 (n : Nat) : ∃ m : Nat, (if (if 3 < (n : Int) then 3 else (n : Int)) > 1 then (if 3 < (n : Int) then 3 else (n : Int)) else 1) = (m : Int) ∧ m ≤ 3 := by
  by_cases c : 3 < (n : Int)
  · exact ⟨3, by rw [if_pos c]; rfl, by decide⟩
  · rw [if_neg c]
    by_cases c2 : (n : Int) > 1
    · exact ⟨n, by rw [if_pos c2], by omega⟩
    · exact ⟨1, by rw [if_neg c2]; rfl, by decide⟩
theorem taken_eq {f : List Int → List Int} {rs rs' : List (List Int)} {x : List Int} (p : rs'.Perm (srt (rs.map f) ++ [f x])) (so : rs'.Pairwise (· ≤ ·)) : rs' = srt ((srt (rs ++ [x])).map f) := by
  rw [srt_map_perm (srt_perm (rs ++ [x]))]
  refine srt_eq (p.trans ?_) so
  rw [List.map_append]
  exact (srt_perm _).append_right _
section
variable {C : Addr} {H H' : Hp} {D : Addr} {p q r b : Addr × Addr} {w : Str} {n : Nat} {d : Int} {rs1 rs2 rs3 rs4 rs' : List (List Int)} {s1 s2 s3 s4 ss' : List (List (List Int))}
theorem QAt.setB (W : QAt C H D p q r b w n d rs1 rs2 rs3 rs4 s1 s2 s3 s4) (k : ∀ z o, H z = some o → z ≠ D → z ≠ b.1 → z ≠ b.2 → H' z = some o) (l : LsAt C H' b.1 b.2 (XQ D p q r b) w n d rs' ss') (dq : DqAt H' D) : QAt C H' D p q r b w n d rs1 rs2 rs3 rs' s1 s2 s3 ss' := by
  obtain ⟨⟨d1, d2, d3, d4, d5, d6, d7, d8⟩, ⟨a1, a2, a3, a4, a5, a6, a7⟩, ⟨b1, b2, b3, b4, b5, b6⟩, ⟨c1, c2, c3, c4, c5⟩, ⟨e1, e2, e3, e4⟩, ⟨f1, f2, f3⟩, ⟨g1, g2⟩, h1⟩ := xq_ne W.nd
  obtain ⟨t1, t2⟩ := l.tra
  have tq : ∃ o, H' D = some o := by obtain ⟨ms, e, _⟩ := dq; exact ⟨_, e⟩
  have out : ∀ {a e : Addr} {rs : List (List Int)} {ss : List (List (List Int))}, LsAt C H a e (XQ D p q r b) w n d rs ss → a ≠ D → a ≠ b.1 → a ≠ b.2 → e ≠ D → e ≠ b.1 → e ≠ b.2 → LsAt C H' a e (XQ D p q r b) w n d rs ss := fun L n1 n2 n3 n4 n5 n6 =>
    L.outY (Y := fun z => z = D ∨ z = b.1 ∨ z = b.2) (fun z o hz nz => k z o hz (fun h => nz (.inl h)) (fun h => nz (.inr (.inl h))) fun h => nz (.inr (.inr h))) (fun y hy => by rcases hy with rfl | rfl | rfl <;> simp) (fun z => z.elim n1 fun z => z.elim n2 n3) (fun z => z.elim n4 fun z => z.elim n5 n6) (fun y _ hy => by rcases hy with rfl | rfl | rfl <;> assumption)
  exact ⟨dq, out W.l1 d1.symm a6 a7 d2.symm b5 b6, out W.l2 d3.symm c4 c5 d4.symm e3 e4, out W.l3 d5.symm f2 f3 d6.symm g1 g2, l, W.nd⟩
theorem QAt.new (W : QAt C H D p q r b w n d rs1 rs2 rs3 rs4 s1 s2 s3 s4) {x : Addr} (nx : H x = none) : x ∉ XQ D p q r b := fun hx => by
  obtain ⟨o, ho⟩ := W.l1.tr x hx
  rw [nx] at ho
  cases ho
end
/-- the Listers made so far -/
abbrev XL (M D : Addr) (as : List (Addr × Addr)) : List Addr := M :: D :: as.flatMap fun q => [q.1, q.2]
theorem xl_snoc {M D : Addr} {as : List (Addr × Addr)} {q : Addr × Addr} : XL M D (as ++ [q]) = XL M D as ++ [q.1, q.2] := by
  simp [XL, List.flatMap_append]
section
variable {P : Program} {w : World} {K : PySem.W.Frag} {mg : Str → Option Value} {base : Heap}
theorem scLaw : FnScope ["script", "k", "deck", "way", "n", "d", "names", "plain", "called", "behind", "busy", "turn", "ahead", "order", "told", "orders", "least", "thing", "one"] ["script"] (defScope s_law) := ⟨rfl, rfl, rfl, by decide +kernel, rfl, by decide +kernel, by decide +kernel⟩
set_option maxHeartbeats 64000000 in
theorem ok_law {C_Lister f f1 f2 f3 f4 f5 f6 f7 f8 fI g1 g2 g3 g4 : Addr} {fd d1 d2 d3 d4 d5 d6 d7 d8 dI b1 b2 b3 b4 : FuncData} (T : Fun K "law" "law" s_law f fd) (T_Lister : TxL K mg C_Lister fI) (T_Lister_init : Dm K C_Lister "__init__" "Lister.__init__" s_Lister___init__ ["self", "way", "n", "d"] fI dI) (T__law_deck : Df K mg "_law_deck" s_law_deck ["cell", "many"] f1 d1) (T__law_cell_at : Df K mg "_law_cell_at" s_law_cell_at ["script", "k"] f2 d2) (T__law_next : Df K mg "_law_next" s_law_next ["deck"] f3 d3) (T__law_order : Df K mg "_law_order" s_law_order ["deck", "n"] f4 d4) (T__law_free : Df K mg "_law_free" s_law_free ["deck", "way", "n", "d", "held"] f5 d5) (T__law_told_right : Df K mg "_law_told_right" s_law_told_right ["way", "d", "ahead", "order", "told"] f6 d6) (T__law_turned : Df K mg "_law_turned" s_law_turned ["orders", "names"] f7 d7) (T__law_dropped_right : Df K mg "_law_dropped_right" s_law_dropped_right ["deck", "busy"] f8 d8)
    (T_Lister_come : Dm K C_Lister "come" "Lister.come" s_Lister_come ["self", "order"] g1 b1) (T_Lister_orders : Dm K C_Lister "orders" "Lister.orders" s_Lister_orders ["self"] g2 b2) (T_Lister_undo : Dm K C_Lister "undo" "Lister.undo" s_Lister_undo ["self"] g3 b3) (T_Lister_least_apart : Dm K C_Lister "least_apart" "Lister.least_apart" s_Lister_least_apart ["self"] g4 b4)
    (G_Lister_init : FnOk P w K mg base CX0 11 fI dI ["self", "way", "n", "d"] (spInitL C_Lister)) (G__law_deck : FnOk P w K mg base CX0 12 f1 d1 ["cell", "many"] spDeckN) (G__law_cell_at : FnOk P w K mg base CX0 12 f2 d2 ["script", "k"] (spCell K)) (G__law_next : FnOk P w K mg base CX0 12 f3 d3 ["deck"] spNext) (G__law_order : FnOk P w K mg base CX0 12 f4 d4 ["deck", "n"] spOrderN) (G__law_free : FnOk P w K mg base CX0 12 f5 d5 ["deck", "way", "n", "d", "held"] spFreeL) (G__law_told_right : FnOk P w K mg base CX0 12 f6 d6 ["way", "d", "ahead", "order", "told"] spToldR) (G__law_turned : FnOk P w K mg base CX0 12 f7 d7 ["orders", "names"] spTurned) (G__law_dropped_right : FnOk P w K mg base CX0 12 f8 d8 ["deck", "busy"] (spDropd C_Lister))
    (G_Lister_come : FnOk P w K mg base CX0 12 g1 b1 ["self", "order"] (spComeL C_Lister)) (G_Lister_orders : FnOk P w K mg base CX0 12 g2 b2 ["self"] (spOrdersL C_Lister)) (G_Lister_undo : FnOk P w K mg base CX0 12 g3 b3 ["self"] (spUndoN C_Lister)) (G_Lister_least_apart : FnOk P w K mg base CX0 12 g4 b4 ["self"] (spLeastL C_Lister)) (B : Bi mg) : FnOk P w K mg base CX0 13 f fd ["script"] (spLaw K) := by
  refine T.ok scLaw (fun vs H Q E h => ?_) (fun cdv A outer s H vs Q E hr h => ?_)
  · obtain ⟨a, ns, rfl, _⟩ := h
    rfl
  · obtain ⟨b0, ns, rfl, hS, hlen, qq⟩ := h
    refine ⟨_, 
      (pss_cons (ps_for PassesOwn.never rfl (pi_range1 (by rfl) B.range (pa_cons (pe_callB (call_max2 rfl) (by rfl) B.max (by decide +kernel) (pa_cons pe_int (pa_cons (pe_callB (call_min2 rfl) (by rfl) B.min (by decide +kernel) (pa_cons (pe_callB call_len_seq (by rfl) B.len PySem.boot_len (pa_cons (pv 0) pa_nil)) (pa_cons pe_int pa_nil))) pa_nil))) pa_nil)) (pg_name (i := 1) scLaw.nd rfl (.inl rfl))
        (pss_cons (ps_set (i := 2) scLaw.nd rfl (.inl rfl) (pe_call G__law_deck hr (by rfl) T__law_deck.g T__law_deck.F.kp T__law_deck.b .nil pass0 (pa_cons (pe_call G__law_cell_at hr (by rfl) T__law_cell_at.g T__law_cell_at.F.kp T__law_cell_at.b .nil pass0 (pa_cons (pv 0) (pa_cons (pv 1) pa_nil))) (pa_cons pe_int pa_nil))))
        (pss_cons (ps_set (i := 3) scLaw.nd rfl (.inr rfl) (pe_ix ix_list (pe_lst (pa_cons pe_str (pa_cons pe_str (pa_cons pe_str pa_nil)))) (pe_op op_mod (pe_call G__law_next hr (by rfl) T__law_next.g T__law_next.F.kp T__law_next.b .nil pass0 (pa_cons (pv 2) pa_nil)) pe_int) (fun _ _ => rfl)))
        (pss_cons (ps_set (i := 4) scLaw.nd rfl (.inr rfl) (pe_op op_add pe_int (pe_op op_mod (pe_call G__law_next hr (by rfl) T__law_next.g T__law_next.F.kp T__law_next.b .nil pass0 (pa_cons (pv 2) pa_nil)) pe_int)))
        (pss_cons (ps_set (i := 5) scLaw.nd rfl (.inr rfl) (pe_op op_add pe_int (pe_op op_mod (pe_call G__law_next hr (by rfl) T__law_next.g T__law_next.F.kp T__law_next.b .nil pass0 (pa_cons (pv 2) pa_nil)) pe_int)))
        (pss_cons (ps_set (i := 6) scLaw.nd rfl (.inr rfl) (pe_call G__law_order hr (by rfl) T__law_order.g T__law_order.F.kp T__law_order.b .nil pass0 (pa_cons (pv 2) (pa_cons (pv 4) pa_nil))))
        (pss_cons (ps_asg (pe_lc (own := [("turn", 11)]) (g := (gName 11)) (tt := tYes) (te := (tMake C_Lister (spInitL C_Lister) [] E0 (tCons (tVar 3) (tCons (tVar 4) (tCons (tVar 5) tNil))))) rfl scLaw.nd (pi_range1 (by rfl) B.range (pa_cons pe_int pa_nil)) (blkOk_by (N := ["script", "k", "deck", "way", "n", "d", "names", "plain", "called", "behind", "busy", "turn", "ahead", "order", "told", "orders", "least", "thing", "one"]) (sc := defScope s_law) (by decide +kernel)) (fun _ _ _ _ _ => (pg_name (i := 11) scLaw.nd rfl (.inl rfl))) (fun _ _ _ _ _ => pts_nil) (fun _ _ _ _ _ => (pe_make T_Lister.mkx G_Lister_init hr (by rfl) T_Lister.g T_Lister_init.b .nil pass0 (pa_cons (pv 3) (pa_cons (pv 4) (pa_cons (pv 5) pa_nil)))))) (pg_unl (by rfl) (pgs_cons (pg_name (i := 7) scLaw.nd rfl (.inl rfl)) (pgs_cons (pg_name (i := 8) scLaw.nd rfl (.inl rfl)) (pgs_cons (pg_name (i := 9) scLaw.nd rfl (.inl rfl)) (pgs_cons (pg_name (i := 10) scLaw.nd rfl (.inl rfl)) pgs_nil))))))
        (pss_cons (ps_for PassesOwn.never rfl (pi_range1 (by rfl) B.range (pa_cons (pe_op op_add pe_int (pe_op op_mod (pe_call G__law_next hr (by rfl) T__law_next.g T__law_next.F.kp T__law_next.b .nil pass0 (pa_cons (pv 2) pa_nil)) pe_int)) pa_nil)) (pg_name (i := 11) scLaw.nd rfl (.inl rfl))
          (pss_cons (ps_set (i := 12) scLaw.nd rfl (.inl rfl) (pe_meth0 (pv 7) T_Lister.cl T_Lister_orders.me G_Lister_orders hr T_Lister_orders.b .nil pass0))
          (pss_cons (ps_set (i := 13) scLaw.nd rfl (.inl rfl) (pe_call G__law_free hr (by rfl) T__law_free.g T__law_free.F.kp T__law_free.b .nil pass0 (pa_cons (pv 2) (pa_cons (pv 3) (pa_cons (pv 4) (pa_cons (pv 5) (pa_cons (pv 12) pa_nil)))))))
          (pss_cons (ps_set (i := 14) scLaw.nd rfl (.inl rfl) (pe_meth (pv 7) T_Lister.cl T_Lister_come.me G_Lister_come hr T_Lister_come.b .nil pass0 (pa_cons (pv 13) pa_nil)))
          (pss_cons (ps_if (pt_not (pt_val (pe_call G__law_told_right hr (by rfl) T__law_told_right.g T__law_told_right.F.kp T__law_told_right.b .nil pass0 (pa_cons (pv 3) (pa_cons (pv 5) (pa_cons (pv 12) (pa_cons (pv 13) (pa_cons (pv 14) pa_nil))))))))
            (pss_one (ps_ret pe_bl))
            pss_nil)
          (pss_cons (ps_if (pt_cmpR (op_neD hr.units) (pe_meth (pv 8) T_Lister.cl T_Lister_come.me G_Lister_come hr T_Lister_come.b .nil pass0 (pa_cons (pe_lc (own := [("thing", 17)]) (g := (gName 17)) (tt := tYes) (te := (tOp (rIxL K) (tVar 6) (tVar 17))) rfl scLaw.nd (pi_list (pv 13)) (blkOk_by (N := ["script", "k", "deck", "way", "n", "d", "names", "plain", "called", "behind", "busy", "turn", "ahead", "order", "told", "orders", "least", "thing", "one"]) (sc := defScope s_law) (by decide +kernel)) (fun _ _ _ _ _ => (pg_name (i := 17) scLaw.nd rfl (.inl rfl))) (fun _ _ _ _ _ => pts_nil) (fun _ _ _ _ _ => (pe_ix ix_list (pv 6) (pv 17) (fun _ _ => rfl)))) pa_nil)) (pe_call G__law_turned hr (by rfl) T__law_turned.g T__law_turned.F.kp T__law_turned.b .nil pass0 (pa_cons (pv 14) (pa_cons (pv 6) pa_nil))) (nomark _))
            (pss_one (ps_ret pe_bl))
            pss_nil)
          (pss_cons (ps_if (pt_cmpR (op_neD hr.units) (pe_meth (pv 9) T_Lister.cl T_Lister_come.me G_Lister_come hr T_Lister_come.b .nil pass0 (pa_cons (pe_revL (pv 13)) pa_nil)) (pe_callB (cr_sortedR hr.units) (by rfl) B.sorted (by decide +kernel) (pa_cons (pe_lc (own := [("one", 18)]) (g := (gName 18)) (tt := tYes) (te := (tRevL K (tVar 18))) rfl scLaw.nd (pi_list (pv 14)) (blkOk_by (N := ["script", "k", "deck", "way", "n", "d", "names", "plain", "called", "behind", "busy", "turn", "ahead", "order", "told", "orders", "least", "thing", "one"]) (sc := defScope s_law) (by decide +kernel)) (fun _ _ _ _ _ => (pg_name (i := 18) scLaw.nd rfl (.inl rfl))) (fun _ _ _ _ _ => pts_nil) (fun _ _ _ _ _ => (pe_revL (pv 18)))) pa_nil)) (nomark _))
            (pss_one (ps_ret pe_bl))
            pss_nil)
          (pss_cons (ps_if (PW.pt (pw_or (pt_not (pt_val (pe_call G__law_dropped_right hr (by rfl) T__law_dropped_right.g T__law_dropped_right.F.kp T__law_dropped_right.b .nil pass0 (pa_cons (pv 2) (pa_cons (pv 10) pa_nil))))) (pw_or (pt_cmpR (op_neD hr.units) (pe_meth (pv 10) T_Lister.cl T_Lister_come.me G_Lister_come hr T_Lister_come.b .nil pass0 (pa_cons (pv 13) pa_nil)) (pv 14) (nomark _)) (pw_or1 (pt_cmpR (op_neD hr.units) (pe_meth0 (pv 10) T_Lister.cl T_Lister_orders.me G_Lister_orders hr T_Lister_orders.b .nil pass0) (pe_meth0 (pv 7) T_Lister.cl T_Lister_orders.me G_Lister_orders hr T_Lister_orders.b .nil pass0) (nomark _))))))
            (pss_one (ps_ret pe_bl))
            pss_nil)
          (pss_one (ps_if (PW.pt (pw_and (pt_cmpR (op_eqD hr.units) (pv 14) (pe_lst pa_nil) (nomark _)) (pw_and1 (pt_cmpR op_eq (pe_op op_mod (pe_call G__law_next hr (by rfl) T__law_next.g T__law_next.F.kp T__law_next.b .nil pass0 (pa_cons (pv 2) pa_nil)) pe_int) pe_int (nomark _)))))
            (pss_cons (ps_expr (pe_meth0 (pv 10) T_Lister.cl T_Lister_undo.me G_Lister_undo hr T_Lister_undo.b .nil pass0))
            (pss_one (ps_if (PW.pt (pw_or (pt_cmpR (op_neD hr.units) (pe_meth0 (pv 10) T_Lister.cl T_Lister_orders.me G_Lister_orders hr T_Lister_orders.b .nil pass0) (pv 12) (nomark _)) (pw_or1 (pt_cmpR (op_neD hr.units) (pe_meth (pv 10) T_Lister.cl T_Lister_come.me G_Lister_come hr T_Lister_come.b .nil pass0 (pa_cons (pv 13) pa_nil)) (pe_lst pa_nil) (nomark _)))))
              (pss_one (ps_ret pe_bl))
              pss_nil)))
            pss_nil))))))))))
        (pss_cons (ps_set (i := 15) scLaw.nd rfl (.inl rfl) (pe_meth0 (pv 7) T_Lister.cl T_Lister_orders.me G_Lister_orders hr T_Lister_orders.b .nil pass0))
        (pss_cons (ps_if (PW.pt (pw_or (pt_cmpR (op_neD hr.units) (pe_meth0 (pv 8) T_Lister.cl T_Lister_orders.me G_Lister_orders hr T_Lister_orders.b .nil pass0) (pe_call G__law_turned hr (by rfl) T__law_turned.g T__law_turned.F.kp T__law_turned.b .nil pass0 (pa_cons (pv 15) (pa_cons (pv 6) pa_nil))) (nomark _)) (pw_or1 (pt_cmpR (op_neD hr.units) (pe_meth0 (pv 9) T_Lister.cl T_Lister_orders.me G_Lister_orders hr T_Lister_orders.b .nil pass0) (pe_callB (cr_sortedR hr.units) (by rfl) B.sorted (by decide +kernel) (pa_cons (pe_lc (own := [("one", 18)]) (g := (gName 18)) (tt := tYes) (te := (tRevL K (tVar 18))) rfl scLaw.nd (pi_list (pv 15)) (blkOk_by (N := ["script", "k", "deck", "way", "n", "d", "names", "plain", "called", "behind", "busy", "turn", "ahead", "order", "told", "orders", "least", "thing", "one"]) (sc := defScope s_law) (by decide +kernel)) (fun _ _ _ _ _ => (pg_name (i := 18) scLaw.nd rfl (.inl rfl))) (fun _ _ _ _ _ => pts_nil) (fun _ _ _ _ _ => (pe_revL (pv 18)))) pa_nil)) (nomark _)))))
          (pss_one (ps_ret pe_bl))
          pss_nil)
        (pss_cons (ps_set (i := 16) scLaw.nd rfl (.inl rfl) (pe_meth0 (pv 7) T_Lister.cl T_Lister_least_apart.me G_Lister_least_apart hr T_Lister_least_apart.b .nil pass0))
        (pss_one (ps_if (PW.pt (pw_or (pt_cmpR (op_neD hr.units) (pe_lc (own := [("one", 18)]) (g := (gName 18)) (tt := tYes) (te := (tMeth C_Lister "least_apart" (spLeastL C_Lister) [] E0 (tVar 18) tNil)) rfl scLaw.nd (pi_tup (pe_tup (pa_cons (pv 8) (pa_cons (pv 9) (pa_cons (pv 10) pa_nil))))) (blkOk_by (N := ["script", "k", "deck", "way", "n", "d", "names", "plain", "called", "behind", "busy", "turn", "ahead", "order", "told", "orders", "least", "thing", "one"]) (sc := defScope s_law) (by decide +kernel)) (fun _ _ _ _ _ => (pg_name (i := 18) scLaw.nd rfl (.inl rfl))) (fun _ _ _ _ _ => pts_nil) (fun _ _ _ _ _ => (pe_meth0 (pv 18) T_Lister.cl T_Lister_least_apart.me G_Lister_least_apart hr T_Lister_least_apart.b .nil pass0))) (pe_op op_rep (pe_lst (pa_cons (pv 16) pa_nil)) pe_int) (nomark _)) (pw_or1 (PW.pt (pw_and (pt_cmpR op_notN (pv 16) pe_non (nomark _)) (pw_and1 (pt_cmpR op_lt (pv 16) (pv 5) (nomark _))))))))
          (pss_one (ps_ret pe_bl))
          pss_nil)))))))))))))
      (pss_one (ps_ret pe_bl))), ?_⟩
    refine ⟨_, rfl, b0, _, rfl, .inl hS, _, 3, rfl, 1, _, rfl, _, rfl, ?_⟩
    obtain ⟨m, em, hm⟩ := turns3 (ns.map V.int).length
    refine ⟨by rw [em]; omega, by rw [em]; omega, ?_⟩
    rw [em, Int.toNat_natCast]
    refine for_range (n := m) (fun i σ H3 => ∃ (y1 y2 y3 y4 y5 y6 y7 y8 y9 y10 y11 y12 y13 y14 y15 y16 y17 y18 : Option V), σ = [some (.ref b0), y1, y2, y3, y4, y5, y6, y7, y8, y9, y10, y11, y12, y13, y14, y15, y16, y17, y18] ∧ Same H H3)
      ⟨_, _, _, _, _, _, _, _, _, _, _, _, _, _, _, _, _, _, rfl, Same.refl _⟩ (fun k0 σ H3 hk hP => ?_) (fun σ H3 hP => qq _)
    obtain ⟨y1, y2, y3, y4, y5, y6, y7, y8, y9, y10, y11, y12, y13, y14, y15, y16, y17, y18, rfl, s3⟩ := hP
    refine ⟨_, rfl, _, rfl, b0, ns, k0, by rw [show (0 + (k0 : Int)) = (k0 : Int) by omega]; rfl, s3.seq hS, fun c => ⟨c, 500, rfl, by decide, by decide, fun D H4 nD D4 s4 => ?_⟩⟩
    have nHD : H D = none := s3.free nD
    -- way
    refine ⟨line_small (by show 3 ≤ 16777216; decide), fun t1 nt1 => ?_⟩
    have D5 := D4.new (o := .lst [.str "swap", .str "spot", .str "shift"]) nt1
    have nt1D := D4.ne nt1
    refine ⟨_, rfl, D, rfl, D5, fun v1 H6 _ _ D6 k6 => ⟨v1, 3, rfl, rfl, (show (0 : Int) < 3 by decide), ?_⟩⟩
    have m1 := mod_b v1 (m := 3) (by decide)
    obtain ⟨wy, ew, hw⟩ : ∃ wy : Str, atI [V.str "swap", V.str "spot", V.str "shift"] (v1 % 3) = some (.str wy) ∧ IsWay wy := by
      have : v1 % 3 = 0 ∨ v1 % 3 = 1 ∨ v1 % 3 = 2 := by omega
      rcases this with h | h | h <;> rw [h]
      · exact ⟨_, rfl, .inl rfl⟩
      · exact ⟨_, rfl, .inr (.inl rfl)⟩
      · exact ⟨_, rfl, .inr (.inr rfl)⟩
    refine ⟨t1, _, _, _, rfl, rfl, SqL.of (k6 t1 _ upd_same nt1D), ew, ?_⟩
    -- n
    refine ⟨_, rfl, D, rfl, D6, fun v2 H7 _ _ D7 k7 => ⟨v2, 7, rfl, rfl, (show (0 : Int) < 7 by decide), 2, _, rfl, rfl, ?_⟩⟩
    have m2 := mod_b v2 (m := 7) (by decide)
    obtain ⟨n, en, hn1, hn2⟩ : ∃ n : Nat, (2 : Int) + v2 % 7 = (n : Int) ∧ 2 ≤ n ∧ n ≤ 8 := ⟨(2 + v2 % 7).toNat, by omega, by omega, by omega⟩
    show gName 4 (V.int (2 + v2 % 7)) [some (V.ref b0), some (V.int (0 + (k0 : Int))), some (V.ref D), some (V.str wy), y4, y5, y6, y7, y8, y9, y10, y11, y12, y13, y14, y15, y16, y17, y18] _ _
    rw [en]
    -- d
    refine ⟨_, rfl, D, rfl, D7, fun v3 H8 _ _ D8 k8 => ⟨v3, 5, rfl, rfl, (show (0 : Int) < 5 by decide), 1, _, rfl, rfl, ?_⟩⟩
    have m3 := mod_b v3 (m := 5) (by decide)
    show gName 5 (V.int (1 + v3 % 5)) [some (V.ref b0), some (V.int (0 + (k0 : Int))), some (V.ref D), some (V.str wy), some (V.int n), y5, y6, y7, y8, y9, y10, y11, y12, y13, y14, y15, y16, y17, y18] _ _
    have hd : 1 ≤ 1 + v3 % 5 := by omega
    generalize 1 + v3 % 5 = d at hd ⊢
    -- names
    refine ⟨_, rfl, _, rfl, D, n, rfl, D8, by omega, fun nm nmA H9 onm nnm hnm nmD D9 k9 => ?_⟩
    have kk : KeepD D H4 H9 := (((KeepD.new nt1).trans k6).trans (k7.trans k8)).trans k9
    have kF : Same H H9 := fun b o e => kk b o (s4 b o (s3 b o e)) (ne_of_none e nHD)
    have nHnm : H nmA = none := by
      cases z : H nmA with
      | none => rfl
      | some o => exact absurd ((((KeepD.new nt1).trans k6).trans (k7.trans k8)) nmA o (s4 _ _ (s3 _ _ z)) nmD) (by rw [nnm]; exact fun h => by cases h)
    clear kk k6 k7 k8 k9 D4 D5 D6 D7 D8 s3 s4 nt1 nt1D nnm nD
    -- the Listers
    refine ⟨4, rfl, by decide, by decide, fun M nM => ?_⟩
    have sM := same_new (o := .lst []) nM
    have nMD : M ≠ D := D9.ne nM
    refine lc_range (lo := 0) (n := 4) (fun i G => ∃ as : List (Addr × Addr), as.length = i ∧ G M = some (.lst (as.map fun q => V.ref q.1)) ∧ (∀ q ∈ as, LsAt C_Lister G q.1 q.2 (XL M D as) wy n d [] []) ∧ (XL M D as).Nodup ∧ (∀ z ∈ XL M D as, ∃ o, G z = some o) ∧ (∀ q ∈ as, H9 q.1 = none ∧ H9 q.2 = none) ∧ Same H9 G)
      ⟨[], rfl, upd_same, fun q hq => absurd hq List.not_mem_nil, ?_, fun z hz => ?_, fun q hq => absurd hq List.not_mem_nil, sM⟩ (fun i G hi hP => ?_) (fun G hP => ?_)
    · simp only [XL, List.flatMap_nil, List.nodup_cons, List.mem_cons, List.not_mem_nil, or_false, List.nodup_nil, and_true, not_false_eq_true]
      exact nMD
    · simp only [XL, List.flatMap_nil, List.mem_cons, List.not_mem_nil, or_false] at hz
      rcases hz with rfl | rfl
      · exact ⟨_, upd_same⟩
      · obtain ⟨ms, e, _⟩ := D9
        exact ⟨_, sM _ _ e⟩
    · obtain ⟨as, la, hM, hL, nd, al, fr, sm⟩ := hP
      refine ⟨rfl, _, rfl, _, rfl, _, rfl, fun a dx na ndx nxa => ?_⟩
      have n2a : (upd G dx (.own a)) a = none := by rw [upd_ne nxa.symm]; exact na
      have sm1 := (same_new (o := .own a) ndx).trans (same_new (o := .ins C_Lister dx []) n2a)
      have nal : ∀ {z : Addr}, G z = none → z ∉ XL M D as := fun hz h => by
        obtain ⟨o, e⟩ := al _ h
        rw [hz] at e; cases e
      refine ⟨a, dx, XL M D as, wy, n, d, rfl, upd_same, hw, by omega, hn2, hd, fun x hx => (al x hx).imp fun o ho => sm1 _ _ ho, nal na, fun e G5 ne L5 k5 => ⟨rfl, ?_⟩⟩
      have s45 : Same G G5 := fun b o hb => k5 b o (sm1 b o hb) (ne_of_none hb na)
      have ne4 := sm1.free ne
      have nae : a ≠ e := fun z => by rw [← z, upd_same] at ne; cases ne
      obtain ⟨ta, te⟩ := L5.tra
      have hM5 := s45 _ _ hM
      have nMa : a ≠ M := fun z => by rw [z, hM] at na; cases na
      have nMe : e ≠ M := fun z => by rw [z, hM] at ne4; cases ne4
      have mM : M ∈ XL M D as := List.mem_cons_self
      have k6 : ∀ z o, G5 z = some o → z ≠ M → (upd G5 M (.lst ((as.map fun q => V.ref q.1) ++ [V.ref a]))) z = some o := fun z o e nz => by rw [upd_ne nz]; exact e
      have nda : ∀ q ∈ as, q.1 ≠ M ∧ q.2 ≠ M := fun q hq => by
        have nm : M ∉ D :: as.flatMap fun q => [q.1, q.2] := (List.nodup_cons.mp nd).1
        constructor
        · intro z
          exact nm (List.mem_cons_of_mem _ (List.mem_flatMap.mpr ⟨q, hq, by rw [z]; simp⟩))
        · intro z
          exact nm (List.mem_cons_of_mem _ (List.mem_flatMap.mpr ⟨q, hq, by rw [z]; simp⟩))
      refine ⟨_, hM5, line_lt (by rw [List.length_map]; omega), as ++ [(a, e)], by rw [List.length_append, la]; rfl, by rw [upd_same, List.map_append]; rfl, fun q hq => ?_, ?_, fun z hz => ?_, fun q hq => ?_, fun z o hz => ?_⟩
      · rw [xl_snoc]
        rcases List.mem_append.mp hq with hq | hq
        · have Lg := (hL q hq).growL (ys := [a, e]) s45 fun y hy => by
            simp only [List.mem_cons, List.not_mem_nil, or_false] at hy
            rcases hy with rfl | rfl
            · exact ⟨na, ta⟩
            · exact ⟨ne4, te⟩
          have Lo := Lg.out (y := M) k6 (by simp) (nda q hq).1 (nda q hq).2 ⟨_, upd_same⟩
          refine Lo.sub (fun x hx => ?_) ?_
          · rcases List.mem_append.mp hx with hx | hx
            · exact List.mem_append_right _ hx
            · exact List.mem_append_left _ hx
          · obtain ⟨dx', t', ps', st', x1, x2, x3, x4, x5, x6, eX, _⟩ := (hL q hq).ex
            exact List.mem_append_left _ eX
        · rw [List.mem_singleton.mp hq]
          have Lo := L5.addA.out (y := M) k6 (by simp) nMa nMe ⟨_, upd_same⟩
          refine Lo.sub (fun x hx => ?_) (by simp)
          rcases List.mem_append.mp hx with hx | hx
          · exact List.mem_cons_of_mem _ (List.mem_cons_of_mem _ hx)
          · simp only [List.mem_cons, List.not_mem_nil, or_false] at hx
            rcases hx with rfl | rfl
            · exact List.mem_cons_self
            · exact List.mem_cons_of_mem _ List.mem_cons_self
      · rw [xl_snoc]
        refine List.nodup_append.mpr ⟨nd, by simp [nae], fun x hx y hy z => ?_⟩
        simp only [List.mem_cons, List.not_mem_nil, or_false] at hy
        rcases hy with rfl | rfl
        · exact nal na (z ▸ hx)
        · exact nal ne4 (z ▸ hx)
      · rw [xl_snoc] at hz
        have key : ∃ o, G5 z = some o := by
          rcases List.mem_append.mp hz with hz | hz
          · exact (al z hz).imp fun o h => s45 _ _ h
          · simp only [List.mem_cons, List.not_mem_nil, or_false] at hz
            rcases hz with rfl | rfl
            · exact ta
            · exact te
        by_cases c : z = M
        · exact ⟨_, by rw [c]; exact upd_same⟩
        · obtain ⟨o, ho⟩ := key
          exact ⟨o, k6 _ _ ho c⟩
      · rcases List.mem_append.mp hq with hq | hq
        · exact fr q hq
        · rw [List.mem_singleton.mp hq]
          exact ⟨sm.free na, sm.free ne4⟩
      · exact k6 _ _ (s45 _ _ (sm _ _ hz)) (ne_of_none hz nM)
    obtain ⟨as, la, hM, hL, nd, al, fr, sm⟩ := hP
    obtain ⟨p, q, r, b, eas⟩ : ∃ p q r b, as = [p, q, r, b] := by
      match as, la with
      | [p, q, r, b], _ => exact ⟨p, q, r, b, rfl⟩
    rw [eas] at hM hL nd al fr
    refine ⟨M, _, rfl, SqL.of hM, rfl, _, _, rfl, _, _, rfl, _, _, rfl, _, _, rfl, rfl, ?_⟩
    have sub : ∀ x ∈ XQ D p q r b, x ∈ XL M D [p, q, r, b] := fun x hx => List.mem_cons_of_mem _ hx
    have W0 : QAt C_Lister G D p q r b wy n d (srt []) (srt ([].map (behindL nm))) (srt ([].map List.reverse)) (srt []) [] [] [] [] := by
      have e0 : srt [] = [] := srt_nil
      rw [show ([] : List (List Int)).map (behindL nm) = [] from rfl, show ([] : List (List Int)).map List.reverse = [] from rfl, e0]
      exact ⟨D9.same sm, (hL p (by simp)).sub sub (by simp), (hL q (by simp)).sub sub (by simp), (hL r (by simp)).sub sub (by simp), (hL b (by simp)).sub sub (by simp), (List.nodup_cons.mp nd).2⟩
    have hnmG := sm _ _ hnm
    have kG := kF.trans sm
    have frH : ∀ z ∈ XQ D p q r b, H z = none := fun z hz => by
      have fz : ∀ {z}, H9 z = none → H z = none := fun h => kF.free h
      simp only [XQ, List.mem_cons, List.not_mem_nil, or_false] at hz
      rcases hz with rfl | rfl | rfl | rfl | rfl | rfl | rfl | rfl | rfl
      · exact nHD
      · exact fz (fr p (by simp)).1
      · exact fz (fr p (by simp)).2
      · exact fz (fr q (by simp)).1
      · exact fz (fr q (by simp)).2
      · exact fz (fr r (by simp)).1
      · exact fz (fr r (by simp)).2
      · exact fz (fr b (by simp)).1
      · exact fz (fr b (by simp)).2
    have nmX : nmA ∉ XQ D p q r b := fun hz => by
      simp only [XQ, List.mem_cons, List.not_mem_nil, or_false] at hz
      rcases hz with h | h | h | h | h | h | h | h | h
      · exact nmD h
      · rw [h, (fr p (by simp)).1] at hnm; cases hnm
      · rw [h, (fr p (by simp)).2] at hnm; cases hnm
      · rw [h, (fr q (by simp)).1] at hnm; cases hnm
      · rw [h, (fr q (by simp)).2] at hnm; cases hnm
      · rw [h, (fr r (by simp)).1] at hnm; cases hnm
      · rw [h, (fr r (by simp)).2] at hnm; cases hnm
      · rw [h, (fr b (by simp)).1] at hnm; cases hnm
      · rw [h, (fr b (by simp)).2] at hnm; cases hnm
    clear eas la hM hL nd al fr sm sub nM sM nMD kF D9 hnm nHnm
    -- what stays
    let KB : Hp → Prop := fun G' => ∀ z o, G z = some o → z ∉ XQ D p q r b → G' z = some o
    have kb0 : KB G := fun z o h _ => h
    have kbS : ∀ {A A' : Hp}, KB A → Same A A' → KB A' := fun k s z o h n => s _ _ (k z o h n)
    have kbD : ∀ {A A' : Hp}, KB A → KeepD D A A' → KB A' := fun k s z o h n => s _ _ (k z o h n) fun e => n (by rw [e]; simp)
    have kbL : ∀ {A A' : Hp} {a e : Addr}, KB A → KpL a e A A' → a ∈ XQ D p q r b → e ∈ XQ D p q r b → KB A' := fun k s ha he z o h n => s _ _ (k z o h n) (fun e => n (e ▸ ha)) fun e' => n (e' ▸ he)
    have kbH : ∀ {A : Hp}, KB A → Same H A := fun k z o h => k z o (kG z o h) fun hz => by rw [frH z hz] at h; cases h
    have rpk : ∀ {A A' : Hp} {t : Addr} {us : List (Addr × List Int)}, RP A t us → t ∉ XQ D p q r b → (∀ u ∈ us, u.1 ∉ XQ D p q r b) → (∀ z o, A z = some o → z ∉ XQ D p q r b → A' z = some o) → RP A' t us := fun h n1 n2 k => ⟨k _ _ h.1 n1, fun u hu => k _ _ (h.2 u hu) (n2 u hu)⟩
    have ofD : ∀ {A A' : Hp}, KeepD D A A' → ∀ z o, A z = some o → z ∉ XQ D p q r b → A' z = some o := fun s z o h n => s _ _ h fun e => n (by rw [e]; simp)
    have ofL : ∀ {A A' : Hp} {a e : Addr}, KpL a e A A' → a ∈ XQ D p q r b → e ∈ XQ D p q r b → ∀ z o, A z = some o → z ∉ XQ D p q r b → A' z = some o := fun s ha he z o h n => s _ _ h (fun e => n (e ▸ ha)) fun e' => n (e' ▸ he)
    have m1' : p.1 ∈ XQ D p q r b := by simp
    have m2' : p.2 ∈ XQ D p q r b := by simp
    have m3' : q.1 ∈ XQ D p q r b := by simp
    have m4' : q.2 ∈ XQ D p q r b := by simp
    have m5' : r.1 ∈ XQ D p q r b := by simp
    have m6' : r.2 ∈ XQ D p q r b := by simp
    have m7' : b.1 ∈ XQ D p q r b := by simp
    have m8' : b.2 ∈ XQ D p q r b := by simp
    have m0' : D ∈ XQ D p q r b := by simp
    obtain ⟨⟨dd1, dd2, dd3, dd4, dd5, dd6, dd7, dd8⟩, -⟩ := xq_ne W0.nd
    have cf : ∀ {x y : List Int}, IsOrd n x → IsOrd n y → farW wy (behindL nm x) (behindL nm y) = farW wy x y := fun hx hy => called_far hw onm hx hy (by omega)
    have rf : ∀ {x y : List Int}, IsOrd n x → IsOrd n y → farW wy x.reverse y.reverse = farW wy x y := fun hx hy => farW_rev hw hx hy (by omega)
    have rvo : ∀ {x : List Int}, IsOrd n x → IsOrd n x.reverse := fun hx => (List.reverse_perm _).trans hx
    -- the turns
    refine ⟨_, rfl, D, rfl, W0.dq, fun v4 G1 _ _ D1 k1 => ⟨v4, 14, rfl, rfl, (show (0 : Int) < 14 by decide), 1, _, rfl, rfl, ?_⟩⟩
    have m4 := mod_b v4 (m := 14) (by decide)
    obtain ⟨mt, et, hmt⟩ : ∃ mt : Nat, (1 : Int) + v4 % 14 = (mt : Int) ∧ mt ≤ 14 := ⟨(1 + v4 % 14).toNat, by omega, by omega⟩
    have W1 := W0.draw k1 D1
    have kb1 := kbD kb0 k1
    refine ⟨_, rfl, by omega, by omega, ?_⟩
    rw [et, Int.toNat_natCast]
    refine for_range (n := mt) (fun i σ A => ∃ (rs : List (List Int)) (s1 s2 s3 s4 : List (List (List Int))) (y11 y12 y13 y14 y15 y16 y17 y18 : Option V), σ = [some (V.ref b0), some (.int (0 + (k0 : Int))), some (.ref D), some (.str wy), some (.int n), some (.int d), some (.ref nmA), some (.ref p.1), some (.ref q.1), some (.ref r.1), some (.ref b.1), y11, y12, y13, y14, y15, y16, y17, y18] ∧
        QAt C_Lister A D p q r b wy n d rs (srt (rs.map (behindL nm))) (srt (rs.map List.reverse)) rs s1 s2 s3 s4 ∧ rs.Nodup ∧ rs.Pairwise (· ≤ ·) ∧ FarAp wy d rs ∧ rs.length ≤ i ∧ s1.length ≤ i ∧ s2.length ≤ i ∧ s3.length ≤ i ∧ s4.length ≤ 3 * i ∧ KB A)
      ⟨srt [], [], [], [], [], _, _, _, _, _, _, _, _, rfl, by rw [srt_map_perm (srt_perm []), srt_map_perm (srt_perm [])]; exact W1, by rw [srt_nil]; exact List.nodup_nil, srt_sorted _, fun x hx => by rw [srt_nil] at hx; exact absurd hx List.not_mem_nil, by rw [srt_nil]; exact Nat.le_refl _, Nat.le_refl _, Nat.le_refl _, Nat.le_refl _, Nat.le_refl _, kb1⟩ (fun i σ A hi hP => ?_) (fun σ A hP => ?_)
    · clear W1 kb1 k1 D1 G1 W0
      obtain ⟨rs, s1, s2, s3, s4, y11, y12, y13, y14, y15, y16, y17, y18, rfl, W, urs, so, ap, lr, ls1, ls2, ls3, ls4, kb⟩ := hP
      have ors := W.l1.ord
      -- ahead
      obtain ⟨dx, fls, ha, hno⟩ := W.l1.obj "orders" (by decide +kernel) (by decide +kernel) (by decide +kernel) (by decide +kernel) (by decide +kernel)
      refine ⟨_, rfl, p.1, dx, fls, rfl, ha, hno, p.1, p.2, _, wy, n, d, rs, s1, rfl, W.l1, by omega, fun l1 qs1 H1 e1 nr1 sa => ?_⟩
      have W1 := W.same sa
      have kb1 := kbS kb sa
      have nl1 := W.new nr1.2.1
      have nq1 : ∀ u ∈ qs1, u.1 ∉ XQ D p q r b := fun u hu => W.new (nr1.2.2 u hu)
      have hah := nr1.1
      have lq1 : qs1.length = rs.length := by rw [← e1, List.length_map]
      clear W kb sa ha hno nr1
      -- order
      refine ⟨_, rfl, _, rfl, _, rfl, _, rfl, _, rfl, D, l1, wy, n, d, qs1, rfl, W1.dq, hah, fun z => nl1 (z ▸ m0'), fun u hu z => nq1 u hu (z ▸ m0'), by rw [e1]; exact ors, by omega, by omega, by omega, fun xs o H2 ox no ho noD D2 k2 => ?_⟩
      have no' := W1.new no
      have W2 := W1.draw k2 D2
      have kb2 := kbD kb1 k2
      have hah2 := rpk hah nl1 nq1 (ofD k2)
      clear W1 kb1 k2 D2 hah no
      -- told
      obtain ⟨dx, fls, ha, hno⟩ := W2.l1.obj "come" (by decide +kernel) (by decide +kernel) (by decide +kernel) (by decide +kernel) (by decide +kernel)
      refine ⟨_, rfl, p.1, dx, fls, rfl, ha, hno, _, rfl, p.1, p.2, o, _, wy, n, d, rs, s1, xs, rfl, W2.l1, ho, ox, by omega, by omega, fun t3 qs3 rs1' s1' H3 e3 c1 c2 nr3 L3 k3 => ?_⟩
      have W3 := W2.set1 k3 (L3.sub (fun x hx => List.mem_cons_of_mem _ (List.mem_append_right _ hx)) m2')
      have kb3 := kbL kb2 k3 m1' m2'
      have hah3 := rpk hah2 nl1 nq1 (ofL k3 m1' m2')
      have ho3 := ofL k3 m1' m2' _ _ ho no'
      have nt3 := W2.new nr3.2.1
      have nq3 : ∀ u ∈ qs3, u.1 ∉ XQ D p q r b := fun u hu => W2.new (nr3.2.2 u hu)
      have ht3 := nr3.1
      have oq3 : ∀ x ∈ rws qs3, IsOrd n x := fun x hx => by rw [e3] at hx; exact ors x (List.mem_filter.mp hx).1
      have lq3 : qs3.length ≤ 14 := by
        have h1 := congrArg List.length e3
        have h2 := List.length_filter_le (fun y => decide (farW wy xs y < d)) rs
        rw [List.length_map] at h1
        exact Nat.le_trans (Nat.le_of_eq h1) (Nat.le_trans h2 (by omega))
      clear W2 kb2 L3 k3 ha hno hah2 ho nr3
      refine ⟨_, rfl, _, rfl, _, rfl, _, rfl, _, rfl, wy, d, l1, o, t3, n, qs1, qs3, xs, rfl, hw, hah3, by rw [e1]; exact ors, by rw [e1]; exact urs, by omega, ho3, ox, by omega, by omega, ht3, by rw [e1]; exact e3, fun H4 s4' => ⟨true, rfl, iteF ?_⟩⟩
      have W4 := W3.same s4'
      have kb4 := kbS kb3 s4'
      have hah4 := hah3.same s4'
      have ho4 := s4' _ _ ho3
      have ht4 := ht3.same s4'
      clear W3 kb3 s4' hah3 ho3 ht3
      -- by other names
      obtain ⟨dx, fls, ha, hno⟩ := W4.l2.obj "come" (by decide +kernel) (by decide +kernel) (by decide +kernel) (by decide +kernel) (by decide +kernel)
      refine ⟨_, rfl, q.1, dx, fls, rfl, ha, hno, _, rfl, o, rfl, ⟨_, SqL.of ho4⟩, fun M nM => ?_⟩
      have sM := same_new (o := .lst []) nM
      refine lc_list (K := K) (a := o) (xs := xs.map V.int) (fun j H5 => H5 M = some (.lst (((behindL nm xs).take j).map V.int)) ∧ Same H4 H5) ⟨upd_same, sM⟩ (fun j H5 _ hP => SqL.of (hP.2 _ _ ho4)) (fun j x H5 hx hP => ?_) (fun H5 hP => ?_)
      · obtain ⟨hM, s5⟩ := hP
        obtain ⟨y, ey, rfl⟩ := int_at_inv hx
        obtain ⟨j', rfl, hj', z, ez, ebz⟩ := behind_get onm ox ey
        have hj : j < n := by rw [← ox.len]; exact (List.getElem?_eq_some_iff.mp ey).1
        refine ⟨rfl, _, rfl, _, rfl, nmA, _, _, _, rfl, rfl, SqL.of (s5 _ _ (kb4 _ _ hnmG nmX)), atI_nat (by rw [List.getElem?_map, ez]; rfl), ?_⟩
        refine ⟨_, hM, line_lt (by rw [List.length_map, List.length_take]; omega), by rw [upd_same, take_p ebz, List.map_append]; rfl, fun b o hb => ?_⟩
        rw [upd_ne (ne_of_none hb nM)]
        exact s5 _ _ hb
      obtain ⟨hM, s5⟩ := hP
      have hlb : (behindL nm xs).length = (xs.map V.int).length := by
        show (List.map _ _).length = _
        rw [List.length_map, List.length_map]
      rw [← hlb, List.take_length] at hM
      have W5 := W4.same s5
      have lm : ∀ f : List Int → List Int, (srt (rs.map f)).length = rs.length := fun f => by rw [srt_len, List.length_map]
      refine ⟨q.1, q.2, M, _, wy, n, d, _, s2, behindL nm xs, rfl, W5.l2, hM, behind_ord onm ox, by rw [lm]; omega, by omega, fun t5 qs5 rs2' s2' H6 e5 c3 c4 nr5 L5 k5 => ?_⟩
      have W6 := W5.set2 k5 (L5.sub (fun x hx => List.mem_cons_of_mem _ (List.mem_append_right _ hx)) m4')
      have kb6 := kbL (kbS kb4 s5) k5 m3' m4'
      have hah6 := rpk (hah4.same s5) nl1 nq1 (ofL k5 m3' m4')
      have ho6 := ofL k5 m3' m4' _ _ (s5 _ _ ho4) no'
      have ht6 := rpk (ht4.same s5) nt3 nq3 (ofL k5 m3' m4')
      have h56 := nr5.1
      clear W5 W4 kb4 hah4 ho4 ht4 s5 k5 L5 nr5 ha hno nM sM hM
      refine ⟨_, rfl, _, rfl, t3, nmA, n, qs3, nm, rfl, ht6, oq3, by omega, kb6 _ _ hnmG nmX, onm, by omega, fun u6 us6 H7 e6 nr6 s6 => ?_⟩
      refine ⟨_, _, (h56.same s6).dp, nr6.1.dp, shaped_lists _, shaped_lists _, _, rfl, ?_⟩
      have e56 : rws qs5 = rws us6 := by
        rw [e5, e6, e3]
        exact near_map fun y hy => cf ox (ors y hy)
      rw [e56, eqv_lists]
      refine iteF ?_
      have W7 := W6.same s6
      have kb7 := kbS kb6 s6
      have hah7 := hah6.same s6
      have ho7 := s6 _ _ ho6
      have ht7 := ht6.same s6
      clear W6 kb6 hah6 ho6 ht6 s6 nr6 h56
      have z53 : qs5 = [] ↔ qs3 = [] := by
        have h1 := congrArg List.length e56
        have h2 := congrArg List.length e6
        rw [srt_len, List.length_map, List.length_map, List.length_map] at h2
        rw [List.length_map, List.length_map] at h1
        constructor
        · intro z; exact List.eq_nil_of_length_eq_zero (by rw [z] at h1; rw [← h2, ← h1]; rfl)
        · intro z; exact List.eq_nil_of_length_eq_zero (by rw [z] at h2; rw [h1, h2]; rfl)
      -- from behind
      obtain ⟨dx, fls, ha, hno⟩ := W7.l3.obj "come" (by decide +kernel) (by decide +kernel) (by decide +kernel) (by decide +kernel) (by decide +kernel)
      refine ⟨_, rfl, r.1, dx, fls, rfl, ha, hno, _, rfl, o, _, rfl, SqL.of ho7, fun M2 nM2 => ?_⟩
      have s8 := same_new (o := .lst (xs.map V.int).reverse) nM2
      have W8 := W7.same s8
      refine ⟨r.1, r.2, M2, _, wy, n, d, _, s3, xs.reverse, rfl, W8.l3, by rw [upd_same, List.map_reverse], rvo ox, by rw [lm]; omega, by omega, fun t8 qs8 rs3' s3' H9 e8 c5 c6 nr8 L8 k8 => ?_⟩
      have W9 := W8.set3 k8 (L8.sub (fun x hx => List.mem_cons_of_mem _ (List.mem_append_right _ hx)) m6')
      have kb9 := kbL (kbS kb7 s8) k8 m5' m6'
      have hah9 := rpk (hah7.same s8) nl1 nq1 (ofL k8 m5' m6')
      have ho9 := ofL k8 m5' m6' _ _ (s8 _ _ ho7) no'
      have ht9 := rpk (ht7.same s8) nt3 nq3 (ofL k8 m5' m6')
      have h89 := nr8.1
      clear W8 W7 kb7 hah7 ho7 ht7 s8 k8 L8 nr8 ha hno nM2
      refine ⟨_, rfl, t3, rfl, ⟨_, SqL.of ht9.1⟩, fun M3 nM3 => ?_⟩
      refine lc_list (K := K) (a := t3) (xs := qs3.map fun u => V.ref u.1) (fun j A5 => ∃ bs : List (Addr × List Int), RP A5 M3 bs ∧ rws bs = ((rws qs3).take j).map List.reverse ∧ (∀ u ∈ bs, u.1 ≠ M3) ∧ Same H9 A5)
        ⟨[], ⟨upd_same, fun u hu => absurd hu List.not_mem_nil⟩, rfl, fun u hu => absurd hu List.not_mem_nil, same_new nM3⟩ (fun j A5 _ hP => by obtain ⟨_, _, _, _, sm⟩ := hP; exact SqL.of (sm _ _ ht9.1)) (fun j x A5 hx hP => ?_) (fun A5 hP => ?_)
      · obtain ⟨bs, hb, eb, nb, sm⟩ := hP
        obtain ⟨u, eu, rfl, hu⟩ := (ht9.same sm).at hx
        have er := rws_at eu
        have hbl : bs.length ≤ 14 := by
          have := congrArg List.length eb
          rw [List.length_map, List.length_map, List.length_take, List.length_map] at this
          omega
        refine ⟨rfl, _, rfl, u.1, _, rfl, SqL.of hu, fun c nc => ?_⟩
        have s5 := same_new (o := .lst (u.2.map V.int).reverse) nc
        have npc : M3 ≠ c := ne_of_none hb.1 nc
        refine ⟨_, s5 _ _ hb.1, line_lt (by rw [List.length_map]; omega), bs ++ [(c, u.2.reverse)], ⟨by rw [upd_same, List.map_append]; rfl, fun z hz => ?_⟩, ?_, fun z hz => ?_, fun z o hz => ?_⟩
        · rcases List.mem_append.mp hz with hz | hz
          · rw [upd_ne (nb z hz)]
            exact s5 _ _ (hb.2 z hz)
          · rw [List.mem_singleton.mp hz, upd_ne npc.symm, upd_same, List.map_reverse]
        · rw [take_p er, List.map_append, ← eb]
          show List.map _ (bs ++ [(c, u.2.reverse)]) = _
          rw [List.map_append]
          rfl
        · rcases List.mem_append.mp hz with hz | hz
          · exact nb z hz
          · rw [List.mem_singleton.mp hz]
            exact npc.symm
        · rw [upd_ne (ne_of_none hz nM3)]
          exact s5 _ _ (sm _ _ hz)
      obtain ⟨bs, hb, eb, nb, sm⟩ := hP
      rw [List.length_map, List.take_of_length_le (by rw [List.length_map]; exact Nat.le_refl _)] at eb
      refine ⟨M3, bs, rfl, SqL.of hb.1, fun u hu => dp_list (hb.2 u hu), fun u10 nu10 => ?_⟩
      have s10 := same_new (o := .lst ((rowsR bs).map fun u => V.ref u.1)) nu10
      refine ⟨_, _, ((h89.same sm).same s10).dp, RP.dp (ps := rowsR bs) ⟨upd_same, fun u hu => s10 _ _ (hb.2 u ((rowsR_perm bs).mem_iff.mp hu))⟩, shaped_lists _, shaped_lists _, _, rfl, ?_⟩
      have e8b : rws qs8 = rws (rowsR bs) := by
        rw [e8, row_srt, eb, e3]
        exact near_map fun y hy => rf ox (ors y hy)
      rw [e8b, eqv_lists]
      refine iteF ?_
      have z83 : qs8 = [] ↔ qs3 = [] := by
        have h1 := congrArg List.length e8b
        rw [row_srt, srt_len, eb, List.length_map, List.length_map, List.length_map] at h1
        constructor
        · intro z; exact List.eq_nil_of_length_eq_zero (by rw [z] at h1; rw [← h1]; rfl)
        · intro z; exact List.eq_nil_of_length_eq_zero (by rw [z] at h1; rw [h1]; rfl)
      have s11 := sm.trans s10
      have W11 := W9.same s11
      have kb11 := kbS kb9 s11
      have hah11 := hah9.same s11
      have ho11 := s11 _ _ ho9
      have ht11 := ht9.same s11
      generalize upd A5 u10 (.lst ((rowsR bs).map fun u => V.ref u.1)) = A11 at W11 kb11 hah11 ho11 ht11 ⊢
      clear W9 kb9 hah9 ho9 ht9 s11 s10 sm hb nb eb nu10 nM3 h89
      -- busy
      refine ⟨_, rfl, _, rfl, D, b.1, b.2, _, wy, n, d, rs, s4, rfl, W11.dq, W11.l4, m0', dd7.symm, dd8.symm, by omega, by omega, urs, so, ap, fun s4' A12 L12 D12 lb12 kk12 => ⟨true, rfl, iteF ?_⟩⟩
      have W12 := W11.setB kk12 L12 D12
      have of12 : ∀ z o, A11 z = some o → z ∉ XQ D p q r b → A12 z = some o := fun z o h n => kk12 z o h (fun e => n (e ▸ m0')) (fun e => n (e ▸ m7')) fun e => n (e ▸ m8')
      have kb12 : KB A12 := fun z o h n => of12 _ _ (kb11 z o h n) n
      have hah12 := rpk hah11 nl1 nq1 of12
      have ho12 := of12 _ _ ho11 no'
      have ht12 := rpk ht11 nt3 nq3 of12
      clear W11 kb11 hah11 ho11 ht11 of12 kk12 L12 D12
      obtain ⟨dx, fls, ha, hno⟩ := W12.l4.obj "come" (by decide +kernel) (by decide +kernel) (by decide +kernel) (by decide +kernel) (by decide +kernel)
      refine ⟨_, rfl, b.1, dx, fls, rfl, ha, hno, _, rfl, b.1, b.2, o, _, wy, n, d, rs, s4', xs, rfl, W12.l4, ho12, ox, by omega, by omega, fun t13 qs13 rs4' s4'' A13 e13 c7 c8 nr13 L13 k13 => ?_⟩
      have W13 := W12.set4 k13 (L13.sub (fun x hx => List.mem_cons_of_mem _ (List.mem_append_right _ hx)) m8')
      have kb13 := kbL kb12 k13 m7' m8'
      have hah13 := rpk hah12 nl1 nq1 (ofL k13 m7' m8')
      have ho13 := ofL k13 m7' m8' _ _ ho12 no'
      have ht13 := rpk ht12 nt3 nq3 (ofL k13 m7' m8')
      refine ⟨_, rfl, _, _, nr13.1.dp, ht13.dp, shaped_lists _, shaped_lists _, _, rfl, ?_⟩
      have e133 : rws qs13 = rws qs3 := by rw [e13, e3]
      rw [e133, eqv_lists]
      refine iteF ?_
      have z133 : qs13 = [] ↔ qs3 = [] := by
        have h1 := congrArg List.length e133
        rw [List.length_map, List.length_map] at h1
        constructor
        · intro z; exact List.eq_nil_of_length_eq_zero (by rw [z] at h1; rw [← h1]; rfl)
        · intro z; exact List.eq_nil_of_length_eq_zero (by rw [z] at h1; rw [h1]; rfl)
      clear W12 kb12 hah12 ho12 ht12 k13 L13 nr13 ha hno
      -- what all have now
      obtain ⟨R, eR1, eR2, eR3, eR4, uR, soR, apR, lR, ll1, ll2, ll3, ll4, hR⟩ : ∃ R : List (List Int), rs1' = R ∧ rs2' = srt (R.map (behindL nm)) ∧ rs3' = srt (R.map List.reverse) ∧ rs4' = R ∧ R.Nodup ∧ R.Pairwise (· ≤ ·) ∧ FarAp wy d R ∧ R.length ≤ i + 1 ∧ s1'.length ≤ i + 1 ∧ s2'.length ≤ i + 1 ∧ s3'.length ≤ i + 1 ∧ s4''.length ≤ 3 * i + 3 ∧ (qs3 = [] → s4'' = s4' ++ [rs] ∧ nearR wy xs d rs = [] ∧ R = srt (rs ++ [xs])) := by
        by_cases cq : qs3 = []
        · obtain ⟨p1, o1, es1⟩ := c1 cq
          obtain ⟨p2, o2, es2⟩ := c3 (z53.mpr cq)
          obtain ⟨p3, o3, es3⟩ := c5 (z83.mpr cq)
          obtain ⟨p4, o4, es4⟩ := c7 (z133.mpr cq)
          have near0 : nearR wy xs d rs = [] := by rw [← e3, cq]; rfl
          have nx : xs ∉ rs := fun hx => by
            have : xs ∈ nearR wy xs d rs := List.mem_filter.mpr ⟨hx, decide_eq_true (by rw [farW_self ox (by omega)]; omega)⟩
            rw [near0] at this
            exact absurd this List.not_mem_nil
          have lenR : (srt (rs ++ [xs])).length = rs.length + 1 := by rw [srt_len, List.length_append]; rfl
          refine ⟨srt (rs ++ [xs]), srt_eq p1 o1, taken_eq p2 o2, taken_eq p3 o3, srt_eq p4 o4, (srt_perm _).nodup_iff.mpr (List.nodup_append.mpr ⟨urs, by simp, fun x hx y hy z => by rw [List.mem_singleton.mp hy] at z; exact nx (z ▸ hx)⟩), srt_sorted _, ap.snoc ors ox (by omega) near0 (srt_perm _), by omega, ?_, ?_, ?_, ?_, fun _ => ⟨es4, near0, rfl⟩⟩
          · rw [es1, List.length_append]; show _ + 1 ≤ _; omega
          · rw [es2, List.length_append]; show _ + 1 ≤ _; omega
          · rw [es3, List.length_append]; show _ + 1 ≤ _; omega
          · rw [es4, List.length_append]; show _ + 1 ≤ _; omega
        · obtain ⟨r1, es1⟩ := c2 cq
          obtain ⟨r2, es2⟩ := c4 fun z => cq (z53.mp z)
          obtain ⟨r3, es3⟩ := c6 fun z => cq (z83.mp z)
          obtain ⟨r4, es4⟩ := c8 fun z => cq (z133.mp z)
          exact ⟨rs, r1, r2, r3, r4, urs, so, ap, by omega, by rw [es1]; omega, by rw [es2]; omega, by rw [es3]; omega, by rw [es4]; omega, fun z => absurd z cq⟩
      subst eR1 eR2 eR3 eR4
      clear c1 c2 c3 c4 c5 c6 c7 c8
      obtain ⟨dx, fls, ha, hno⟩ := W13.l4.obj "orders" (by decide +kernel) (by decide +kernel) (by decide +kernel) (by decide +kernel) (by decide +kernel)
      refine ⟨_, rfl, b.1, dx, fls, rfl, ha, hno, b.1, b.2, _, wy, n, d, _, s4'', rfl, W13.l4, by omega, fun l14 qs14 A14 e14 nr14 s14 => ?_⟩
      have W14 := W13.same s14
      obtain ⟨dx, fls, ha, hno⟩ := W14.l1.obj "orders" (by decide +kernel) (by decide +kernel) (by decide +kernel) (by decide +kernel) (by decide +kernel)
      refine ⟨_, rfl, p.1, dx, fls, rfl, ha, hno, p.1, p.2, _, wy, n, d, _, s1', rfl, W14.l1, by omega, fun l15 qs15 A15 e15 nr15 s15 => ?_⟩
      refine ⟨_, _, (nr14.1.same s15).dp, nr15.1.dp, shaped_lists _, shaped_lists _, _, rfl, ?_⟩
      rw [e14, e15, eqv_lists]
      refine iteF ?_
      have s1415 := s14.trans s15
      have W15 := W13.same s1415
      have kb15 := kbS kb13 s1415
      have hah15 := hah13.same s1415
      have ho15 := s1415 _ _ ho13
      have ht15 := ht13.same s1415
      clear W13 W14 kb13 hah13 ho13 ht13 s14 s15 s1415 nr14 nr15 ha hno
      -- undone and come again
      refine ⟨_, rfl, by decide, fun u16 nu16 => ?_⟩
      have s16 := same_new (o := .lst []) nu16
      refine ⟨_, _, (ht15.same s16).dp, dp_list (ns := []) upd_same, shaped_lists _, shaped_list _, _, rfl, ?_⟩
      have W16 := W15.same s16
      have kb16 := kbS kb15 s16
      have hah16 := hah15.same s16
      have ho16 := s16 _ _ ho15
      generalize upd A15 u16 (.lst []) = A16 at W16 kb16 hah16 ho16 ⊢
      clear W15 kb15 hah15 ho15 ht15 s16 nu16
      by_cases cq : qs3 = []
      · rw [show PyData.eqv (dLL (rws qs3)) (dL []) = true by rw [cq]; exact eqv_list []]
        obtain ⟨es4, near0, eR⟩ := hR cq
        refine iteT ⟨_, rfl, D, rfl, W16.dq, fun v5 A17 _ _ D17 k17 => ⟨v5, 3, rfl, rfl, (show (0 : Int) < 3 by decide), rfl, _, rfl, ?_⟩⟩
        have W17 := W16.draw k17 D17
        have kb17 := kbD kb16 k17
        have hah17 := rpk hah16 nl1 nq1 (ofD k17)
        have ho17 := ofD k17 _ _ ho16 no'
        refine ite2 (fun _ => ?_) (fun _ => ⟨_, s1', s2', s3', s4'', _, _, _, _, _, _, _, _, rfl, W17, uR, soR, apR, lR, ll1, ll2, ll3, by omega, kb17⟩)
        obtain ⟨dx, fls, ha, hno⟩ := W17.l4.obj "undo" (by decide +kernel) (by decide +kernel) (by decide +kernel) (by decide +kernel) (by decide +kernel)
        have L17 := W17.l4
        rw [es4] at L17
        refine ⟨_, rfl, b.1, dx, fls, rfl, ha, hno, b.1, b.2, _, wy, n, d, _, rs, s4', rfl, L17, fun A18 L18 k18 => ?_⟩
        have W18 := W17.set4 k18 L18
        have kb18 := kbL kb17 k18 m7' m8'
        have hah18 := rpk hah17 nl1 nq1 (ofL k18 m7' m8')
        have ho18 := ofL k18 m7' m8' _ _ ho17 no'
        obtain ⟨dx, fls, ha, hno⟩ := W18.l4.obj "orders" (by decide +kernel) (by decide +kernel) (by decide +kernel) (by decide +kernel) (by decide +kernel)
        refine ⟨_, rfl, b.1, dx, fls, rfl, ha, hno, b.1, b.2, _, wy, n, d, rs, s4', rfl, W18.l4, by omega, fun l19 qs19 A19 e19 nr19 s19 => ?_⟩
        refine ⟨_, rfl, _, _, nr19.1.dp, (hah18.same s19).dp, shaped_lists _, shaped_lists _, _, rfl, ?_⟩
        rw [e19, e1, eqv_lists]
        refine iteF ?_
        have W19 := W18.same s19
        have kb19 := kbS kb18 s19
        have ho19 := s19 _ _ ho18
        obtain ⟨dx, fls, ha, hno⟩ := W19.l4.obj "come" (by decide +kernel) (by decide +kernel) (by decide +kernel) (by decide +kernel) (by decide +kernel)
        refine ⟨_, rfl, b.1, dx, fls, rfl, ha, hno, _, rfl, b.1, b.2, o, _, wy, n, d, rs, s4', xs, rfl, W19.l4, ho19, ox, by omega, by omega, fun t20 qs20 rs20 s20 A20 e20 c9 c10 nr20 L20 k20 => ?_⟩
        have W20 := W19.set4 k20 (L20.sub (fun x hx => List.mem_cons_of_mem _ (List.mem_append_right _ hx)) m8')
        have q20 : qs20 = [] := List.eq_nil_of_length_eq_zero (by
          have := congrArg List.length e20
          rw [List.length_map, near0] at this
          exact this)
        obtain ⟨p20, o20, es20⟩ := c9 q20
        have er20 := srt_eq p20 o20
        rw [← eR] at er20
        subst er20
        refine ⟨by decide, fun u21 nu21 => ?_⟩
        have s21 := same_new (o := .lst []) nu21
        refine ⟨_, _, (nr20.1.same s21).dp, dp_list (ns := []) upd_same, shaped_lists _, shaped_list _, _, rfl, ?_⟩
        rw [show PyData.eqv (dLL (rws qs20)) (dL []) = true by rw [q20]; exact eqv_list []]
        exact iteF ⟨_, s1', s2', s3', s20, _, _, _, _, _, _, _, _, rfl, W20.same s21, uR, soR, apR, lR, ll1, ll2, ll3, by rw [es20, List.length_append]; show _ + 1 ≤ _; omega, kbS (kbL kb19 k20 m7' m8') s21⟩
      · have cr : rws qs3 ≠ [] := fun z => cq (List.eq_nil_of_length_eq_zero (by have := congrArg List.length z; rw [List.length_map] at this; exact this))
        rw [eqv_ne cr]
        exact iteF (iteF ⟨_, s1', s2', s3', s4'', _, _, _, _, _, _, _, _, rfl, W16, uR, soR, apR, lR, ll1, ll2, ll3, by omega, kb16⟩)
    · clear W1 kb1 k1 D1 G1 W0
      obtain ⟨rs, s1, s2, s3, s4, y11, y12, y13, y14, y15, y16, y17, y18, rfl, W, urs, so, ap, lr, ls1, ls2, ls3, ls4, kb⟩ := hP
      have ors := W.l1.ord
      have lm : ∀ f : List Int → List Int, (srt (rs.map f)).length = rs.length := fun f => by rw [srt_len, List.length_map]
      obtain ⟨dx, fls, ha, hno⟩ := W.l1.obj "orders" (by decide +kernel) (by decide +kernel) (by decide +kernel) (by decide +kernel) (by decide +kernel)
      refine ⟨_, rfl, p.1, dx, fls, rfl, ha, hno, p.1, p.2, _, wy, n, d, rs, s1, rfl, W.l1, by omega, fun l1 qs1 A1 e1 nr1 sa => ?_⟩
      have W1 := W.same sa
      have kb1 := kbS kb sa
      have lq1 : qs1.length = rs.length := by rw [← e1, List.length_map]
      obtain ⟨dx, fls, ha, hno⟩ := W1.l2.obj "orders" (by decide +kernel) (by decide +kernel) (by decide +kernel) (by decide +kernel) (by decide +kernel)
      refine ⟨_, rfl, q.1, dx, fls, rfl, ha, hno, q.1, q.2, _, wy, n, d, _, s2, rfl, W1.l2, by rw [lm]; omega, fun l2 qs2 A2 e2 nr2 sb => ?_⟩
      have W2 := W1.same sb
      have kb2 := kbS kb1 sb
      refine ⟨_, rfl, _, rfl, l1, nmA, n, qs1, nm, rfl, nr1.1.same sb, by rw [e1]; exact ors, by omega, kb2 _ _ hnmG nmX, onm, by omega, fun u3 us3 A3 e3 nr3 sc => ?_⟩
      refine ⟨_, _, (nr2.1.same sc).dp, nr3.1.dp, shaped_lists _, shaped_lists _, _, rfl, ?_⟩
      rw [e2, e3, e1, eqv_lists]
      refine iteF ?_
      have W3 := W2.same sc
      have kb3 := kbS kb2 sc
      have ht3 := (nr1.1.same sb).same sc
      obtain ⟨dx, fls, ha, hno⟩ := W3.l3.obj "orders" (by decide +kernel) (by decide +kernel) (by decide +kernel) (by decide +kernel) (by decide +kernel)
      refine ⟨_, rfl, r.1, dx, fls, rfl, ha, hno, r.1, r.2, _, wy, n, d, _, s3, rfl, W3.l3, by rw [lm]; omega, fun l4 qs4 A4 e4 nr4 sd => ?_⟩
      have W4 := W3.same sd
      have kb4 := kbS kb3 sd
      have ht4 := ht3.same sd
      refine ⟨_, rfl, l1, rfl, ⟨_, SqL.of ht4.1⟩, fun M3 nM3 => ?_⟩
      refine lc_list (K := K) (a := l1) (xs := qs1.map fun u => V.ref u.1) (fun j A5 => ∃ bs : List (Addr × List Int), RP A5 M3 bs ∧ rws bs = ((rws qs1).take j).map List.reverse ∧ (∀ u ∈ bs, u.1 ≠ M3) ∧ Same A4 A5)
        ⟨[], ⟨upd_same, fun u hu => absurd hu List.not_mem_nil⟩, rfl, fun u hu => absurd hu List.not_mem_nil, same_new nM3⟩ (fun j A5 _ hP => by obtain ⟨_, _, _, _, sm⟩ := hP; exact SqL.of (sm _ _ ht4.1)) (fun j x A5 hx hP => ?_) (fun A5 hP => ?_)
      · obtain ⟨bs, hb, eb, nb, sm⟩ := hP
        obtain ⟨u, eu, rfl, hu⟩ := (ht4.same sm).at hx
        have er := rws_at eu
        have hbl : bs.length ≤ 14 := by
          have := congrArg List.length eb
          rw [List.length_map, List.length_map, List.length_take, List.length_map] at this
          omega
        refine ⟨rfl, _, rfl, u.1, _, rfl, SqL.of hu, fun c nc => ?_⟩
        have s5 := same_new (o := .lst (u.2.map V.int).reverse) nc
        have npc : M3 ≠ c := ne_of_none hb.1 nc
        refine ⟨_, s5 _ _ hb.1, line_lt (by rw [List.length_map]; omega), bs ++ [(c, u.2.reverse)], ⟨by rw [upd_same, List.map_append]; rfl, fun z hz => ?_⟩, ?_, fun z hz => ?_, fun z o hz => ?_⟩
        · rcases List.mem_append.mp hz with hz | hz
          · rw [upd_ne (nb z hz)]
            exact s5 _ _ (hb.2 z hz)
          · rw [List.mem_singleton.mp hz, upd_ne npc.symm, upd_same, List.map_reverse]
        · rw [take_p er, List.map_append, ← eb]
          show List.map _ (bs ++ [(c, u.2.reverse)]) = _
          rw [List.map_append]
          rfl
        · rcases List.mem_append.mp hz with hz | hz
          · exact nb z hz
          · rw [List.mem_singleton.mp hz]
            exact npc.symm
        · rw [upd_ne (ne_of_none hz nM3)]
          exact s5 _ _ (sm _ _ hz)
      obtain ⟨bs, hb, eb, nb, sm⟩ := hP
      rw [List.length_map, List.take_of_length_le (by rw [List.length_map]; exact Nat.le_refl _)] at eb
      refine ⟨M3, bs, rfl, SqL.of hb.1, fun u hu => dp_list (hb.2 u hu), fun u10 nu10 => ?_⟩
      have s10 := same_new (o := .lst ((rowsR bs).map fun u => V.ref u.1)) nu10
      refine ⟨_, _, ((nr4.1.same sm).same s10).dp, RP.dp (ps := rowsR bs) ⟨upd_same, fun u hu => s10 _ _ (hb.2 u ((rowsR_perm bs).mem_iff.mp hu))⟩, shaped_lists _, shaped_lists _, _, rfl, ?_⟩
      rw [show rws qs4 = rws (rowsR bs) by rw [e4, row_srt, eb, e1], eqv_lists]
      refine iteF ?_
      have s11 := sm.trans s10
      have W11 := W4.same s11
      have kb11 := kbS kb4 s11
      generalize upd A5 u10 (.lst ((rowsR bs).map fun u => V.ref u.1)) = A11 at W11 kb11 ⊢
      clear W W1 W2 W3 W4 kb kb1 kb2 kb3 kb4 s11 s10 sm hb nb eb nu10 nM3 nr1 nr2 nr3 nr4 ht3 ht4 sa sb sc sd ha hno
      -- the least distance
      have lf2 : (srt (rs.map (behindL nm))).length ≤ 120 := by rw [lm]; omega
      have lf3 : (srt (rs.map List.reverse)).length ≤ 120 := by rw [lm]; omega
      have mp2 := prs_map (f := behindL nm) hw (by omega) ors (fun y hy => behind_ord onm (ors y hy)) urs (fun x hx y hy => cf (ors x hx) (ors y hy))
      have mp3 := prs_map (f := List.reverse) hw (by omega) ors (fun y hy => rvo (ors y hy)) urs (fun x hx y hy => rf (ors x hx) (ors y hy))
      obtain ⟨dx, fls, ha, hno⟩ := W11.l1.obj "least_apart" (by decide +kernel) (by decide +kernel) (by decide +kernel) (by decide +kernel) (by decide +kernel)
      refine ⟨_, rfl, p.1, dx, fls, rfl, ha, hno, p.1, p.2, _, wy, n, d, rs, s1, rfl, W11.l1, by omega, fun ez0 Gl sl => ?_, fun m Gl sl hm0 hl0 => ?_⟩
      · have Wl := W11.same sl
        have Sl := kbH (kbS kb11 sl)
        -- V.non
        refine ⟨_, rfl, _, rfl, _, rfl, by show 3 ≤ sizeLine; decide, fun t20 nt20 => ?_⟩
        have s20 := same_new (o := .tup [.ref q.1, .ref r.1, .ref b.1]) nt20
        have W20 := Wl.same s20
        have ht20 : upd Gl t20 (.tup [.ref q.1, .ref r.1, .ref b.1]) t20 = some (.tup [.ref q.1, .ref r.1, .ref b.1]) := upd_same
        have S20 := Sl.trans s20
        generalize upd Gl t20 (.tup [.ref q.1, .ref r.1, .ref b.1]) = G20 at W20 ht20 S20 ⊢
        refine ⟨t20, rfl, ⟨_, SqT.of ht20⟩, fun M20 nM20 => ?_⟩
        have sM20 := same_new (o := .lst []) nM20
        refine lc_tup (K := K) (a := t20) (xs := [.ref q.1, .ref r.1, .ref b.1]) (fun i G => G M20 = some (.lst (List.replicate i V.non)) ∧ Same G20 G) ⟨upd_same, sM20⟩ (fun i G _ hP => SqT.of (hP.2 _ _ ht20)) (fun i z G hx hP => ?_) (fun G hP => ?_)
        · obtain ⟨hM, sg⟩ := hP
          obtain ⟨zz, rsX, sX, ezx, LX, lX, mX⟩ : ∃ (zz : Addr × Addr) (rsX : List (List Int)) (sX : List (List (List Int))), z = .ref zz.1 ∧ LsAt C_Lister G zz.1 zz.2 (XQ D p q r b) wy n d rsX sX ∧ rsX.length ≤ 120 ∧ ∀ y, y ∈ prs wy rsX rsX.length ↔ y ∈ prs wy rs rs.length := by
            have Wg := W20.same sg
            match i, hx with
            | 0, hx => exact ⟨q, _, _, (Option.some.inj hx).symm, Wg.l2, lf2, mp2⟩
            | 1, hx => exact ⟨r, _, _, (Option.some.inj hx).symm, Wg.l3, lf3, mp3⟩
            | 2, hx => exact ⟨b, _, _, (Option.some.inj hx).symm, Wg.l4, by omega, fun y => Iff.rfl⟩
            | i + 3, hx => simp at hx
          subst ezx
          have hi3 : i < 3 := by
            have := (List.getElem?_eq_some_iff.mp hx).1
            exact this
          obtain ⟨dx, fls, ha, hno⟩ := LX.obj "least_apart" (by decide +kernel) (by decide +kernel) (by decide +kernel) (by decide +kernel) (by decide +kernel)
          refine ⟨rfl, _, rfl, zz.1, dx, fls, rfl, ha, hno, zz.1, zz.2, _, wy, n, d, rsX, sX, rfl, LX, lX, fun ez G' s' => ?_, fun m' G' s' hm' hl' => ?_⟩
          · refine ⟨_, s' _ _ hM, line_lt (by rw [List.length_replicate]; omega), by rw [upd_same, List.replicate_succ'], fun z' o' hz => ?_⟩
            rw [upd_ne (ne_of_none hz nM20)]
            exact s' _ _ (sg _ _ hz)
          · rw [show prs wy rsX rsX.length = [] from List.eq_nil_iff_forall_not_mem.mpr fun y hy => by have := (mX y).mp hy; rw [ez0] at this; exact absurd this List.not_mem_nil] at hm'
            exact absurd hm' List.not_mem_nil
        obtain ⟨hM, sg⟩ := hP
        refine ⟨_, rfl, by show 1 ≤ sizeLine; decide, fun t21 nt21 => ?_⟩
        have s21 := same_new (o := .lst [V.non]) nt21
        refine ⟨t21, 3, _, rfl, rfl, upd_same, by decide, by decide, by show 1 * 3 ≤ sizeLine; decide, fun t22 nt22 => ?_⟩
        have s22 := same_new (o := .lst (List.replicate (3 : Int).toNat [V.non]).flatten) nt22
        have hM22 := s22 _ _ (s21 _ _ hM)
        have e3 : upd (upd G t21 (.lst [V.non])) t22 (.lst (List.replicate (3 : Int).toNat [V.non]).flatten) t22 = some (.lst [V.non, V.non, V.non]) := upd_same
        have hM3 : upd (upd G t21 (.lst [V.non])) t22 (.lst (List.replicate (3 : Int).toNat [V.non]).flatten) M20 = some (.lst [V.non, V.non, V.non]) := hM22
        refine ⟨.list [PyData.none, PyData.none, PyData.none], .list [PyData.none, PyData.none, PyData.none], .lst (SqL.of hM3) (.cons .non (.cons .non (.cons .non .nil))), .lst (SqL.of e3) (.cons .non (.cons .non (.cons .non .nil))), (by decide +kernel), (by decide +kernel), _, rfl, ?_⟩
        rw [SeqAt.eqv_refl _ (SeqAt.canLay_of_shaped (by decide +kernel))]
        refine iteF ?_
        exact ⟨_, rfl, rfl, _, rfl, iteF (iteF ⟨_, _, _, _, _, _, _, _, _, _, _, _, _, _, _, _, _, _, rfl, S20.trans ((sg.trans s21).trans s22)⟩)⟩
      · have Wl := W11.same sl
        have Sl := kbH (kbS kb11 sl)
        have dm : d ≤ m := by
          obtain ⟨x, hx, z, hz, nxz, rfl⟩ := (prs_mem ors (by omega) urs _ (Nat.le_refl _) m).mp hm0
          rw [List.take_length] at hx hz
          exact ap x hx z hz nxz
        -- (V.int m)
        refine ⟨_, rfl, _, rfl, _, rfl, by show 3 ≤ sizeLine; decide, fun t20 nt20 => ?_⟩
        have s20 := same_new (o := .tup [.ref q.1, .ref r.1, .ref b.1]) nt20
        have W20 := Wl.same s20
        have ht20 : upd Gl t20 (.tup [.ref q.1, .ref r.1, .ref b.1]) t20 = some (.tup [.ref q.1, .ref r.1, .ref b.1]) := upd_same
        have S20 := Sl.trans s20
        generalize upd Gl t20 (.tup [.ref q.1, .ref r.1, .ref b.1]) = G20 at W20 ht20 S20 ⊢
        refine ⟨t20, rfl, ⟨_, SqT.of ht20⟩, fun M20 nM20 => ?_⟩
        have sM20 := same_new (o := .lst []) nM20
        refine lc_tup (K := K) (a := t20) (xs := [.ref q.1, .ref r.1, .ref b.1]) (fun i G => G M20 = some (.lst (List.replicate i (V.int m))) ∧ Same G20 G) ⟨upd_same, sM20⟩ (fun i G _ hP => SqT.of (hP.2 _ _ ht20)) (fun i z G hx hP => ?_) (fun G hP => ?_)
        · obtain ⟨hM, sg⟩ := hP
          obtain ⟨zz, rsX, sX, ezx, LX, lX, mX⟩ : ∃ (zz : Addr × Addr) (rsX : List (List Int)) (sX : List (List (List Int))), z = .ref zz.1 ∧ LsAt C_Lister G zz.1 zz.2 (XQ D p q r b) wy n d rsX sX ∧ rsX.length ≤ 120 ∧ ∀ y, y ∈ prs wy rsX rsX.length ↔ y ∈ prs wy rs rs.length := by
            have Wg := W20.same sg
            match i, hx with
            | 0, hx => exact ⟨q, _, _, (Option.some.inj hx).symm, Wg.l2, lf2, mp2⟩
            | 1, hx => exact ⟨r, _, _, (Option.some.inj hx).symm, Wg.l3, lf3, mp3⟩
            | 2, hx => exact ⟨b, _, _, (Option.some.inj hx).symm, Wg.l4, by omega, fun y => Iff.rfl⟩
            | i + 3, hx => simp at hx
          subst ezx
          have hi3 : i < 3 := by
            have := (List.getElem?_eq_some_iff.mp hx).1
            exact this
          obtain ⟨dx, fls, ha, hno⟩ := LX.obj "least_apart" (by decide +kernel) (by decide +kernel) (by decide +kernel) (by decide +kernel) (by decide +kernel)
          refine ⟨rfl, _, rfl, zz.1, dx, fls, rfl, ha, hno, zz.1, zz.2, _, wy, n, d, rsX, sX, rfl, LX, lX, fun ez G' s' => ?_, fun m' G' s' hm' hl' => ?_⟩
          · exact absurd ((mX m).mpr hm0) (by rw [ez]; exact List.not_mem_nil)
          · obtain rfl : m = m' := (least_same mX hm' hl' hm0 hl0).symm
            refine ⟨_, s' _ _ hM, line_lt (by rw [List.length_replicate]; omega), by rw [upd_same, List.replicate_succ'], fun z' o' hz => ?_⟩
            rw [upd_ne (ne_of_none hz nM20)]
            exact s' _ _ (sg _ _ hz)
        obtain ⟨hM, sg⟩ := hP
        refine ⟨_, rfl, by show 1 ≤ sizeLine; decide, fun t21 nt21 => ?_⟩
        have s21 := same_new (o := .lst [(V.int m)]) nt21
        refine ⟨t21, 3, _, rfl, rfl, upd_same, by decide, by decide, by show 1 * 3 ≤ sizeLine; decide, fun t22 nt22 => ?_⟩
        have s22 := same_new (o := .lst (List.replicate (3 : Int).toNat [(V.int m)]).flatten) nt22
        have hM22 := s22 _ _ (s21 _ _ hM)
        have e3 : upd (upd G t21 (.lst [(V.int m)])) t22 (.lst (List.replicate (3 : Int).toNat [(V.int m)]).flatten) t22 = some (.lst [(V.int m), (V.int m), (V.int m)]) := upd_same
        have hM3 : upd (upd G t21 (.lst [(V.int m)])) t22 (.lst (List.replicate (3 : Int).toNat [(V.int m)]).flatten) M20 = some (.lst [(V.int m), (V.int m), (V.int m)]) := hM22
        refine ⟨.list [PyData.int m, PyData.int m, PyData.int m], .list [PyData.int m, PyData.int m, PyData.int m], .lst (SqL.of hM3) (.cons (.int m) (.cons (.int m) (.cons (.int m) .nil))), .lst (SqL.of e3) (.cons (.int m) (.cons (.int m) (.cons (.int m) .nil))), (show SeqAt.shaped (.list [PyData.int m, .int m, .int m]) = true from shaped_list [m, m, m]), (show SeqAt.shaped (.list [PyData.int m, .int m, .int m]) = true from shaped_list [m, m, m]), _, rfl, ?_⟩
        rw [SeqAt.eqv_refl _ (SeqAt.canLay_of_shaped (show SeqAt.shaped (.list [PyData.int m, .int m, .int m]) = true from shaped_list [m, m, m]))]
        refine iteF ?_
        refine ⟨_, rfl, rfl, _, rfl, iteT ⟨_, rfl, _, rfl, m, d, rfl, rfl, _, rfl, ?_⟩⟩
        rw [decide_eq_false (show ¬ m < d by omega)]
        exact iteF ⟨_, _, _, _, _, _, _, _, _, _, _, _, _, _, _, _, _, _, rfl, S20.trans ((sg.trans s21).trans s22)⟩
end
end Fo
--LEVEL 13
--CLASSOBJ Lister way n d taken earlier
--LAWCALL ok_law F_law T_Lister T_Lister_init T__law_deck T__law_cell_at T__law_next T__law_order T__law_free T__law_told_right T__law_turned T__law_dropped_right T_Lister_come T_Lister_orders T_Lister_undo T_Lister_least_apart (ok_initL (k := 10) T_Lister_init T_Lister T_check_apart (ok_apart (k := 7) T_check_apart T_check_way T_check_size T_check_from T_is_whole m_WAYS B) m_MOST_KEPT) (ok_deckN (k := 10) T__law_deck T__law_stir B) (ok_cell (k := 11) T__law_cell_at B) (ok_next (k := 10) T__law_next T__law_stir B) (ok_orderN (k := 11) T__law_order T__law_next (ok_next (k := 9) T__law_next T__law_stir B) B) (ok_freeL (k := 11) T__law_free T__law_next (ok_next (k := 9) T__law_next T__law_stir B) T__law_order (ok_orderN (k := 10) T__law_order T__law_next (ok_next (k := 8) T__law_next T__law_stir B) B) T__law_near (ok_nearN (k := 10) T__law_near T__law_next (ok_next (k := 8) T__law_next T__law_stir B) B) B) (ok_toldR (k := 11) T__law_told_right T_nearest_of (ok_nearest (k := 10) T_nearest_of T_check_led T_known_far T_those_within (ok_led (k := 9) T_check_led T_check_order T_check_unlike_list T_check_way T_check_fit (ok_check (k := 6) T_check_order T_is_order T_is_whole B m_MOST_THINGS) (ok_cunl (k := 8) T_check_unlike_list T_is_unlike_list (ok_unl (k := 7) T_is_unlike_list T_is_order_list (ok_olst (k := 6) T_is_order_list T_is_order (ok_is_order (k := 4) T_is_order T_is_whole B m_MOST_THINGS) B) B) B m_MOST_ORDERS) (ok_way (k := 8) T_check_way m_WAYS B) (ok_fit (k := 8) T_check_fit B) B) (ok_known (k := 9) T_known_far T_far_by_swap T_far_by_spot T_far_by_shift (ok_swap (k := 8) T_far_by_swap T_seats_in (ok_seats (k := 6) T_seats_in T_places_in B) B) (ok_spot (k := 8) T_far_by_spot B) (ok_shift (k := 8) T_far_by_shift T_seats_in (ok_seats (k := 6) T_seats_in T_places_in B) B)) (ok_those (k := 9) T_those_within T_known_far (ok_known (k := 8) T_known_far T_far_by_swap T_far_by_spot T_far_by_shift (ok_swap (k := 7) T_far_by_swap T_seats_in (ok_seats (k := 5) T_seats_in T_places_in B) B) (ok_spot (k := 7) T_far_by_spot B) (ok_shift (k := 7) T_far_by_shift T_seats_in (ok_seats (k := 5) T_seats_in T_places_in B) B)) B) B) B) (ok_turned (k := 11) T__law_turned B) (ok_dropd (k := 11) T__law_dropped_right T_Lister T__law_next T_Lister_come T_Lister_orders T_Lister_drop T_Lister_undo (ok_next (k := 9) T__law_next T__law_stir B) (ok_comeL (k := 10) T_Lister_come T_Lister T_check_order (ok_check (k := 7) T_check_order T_is_order T_is_whole B m_MOST_THINGS) T_check_many (ok_manyOk (k := 9) T_check_many m_MOST_ORDERS) T_known_far (ok_known (k := 9) T_known_far T_far_by_swap T_far_by_spot T_far_by_shift (ok_swap (k := 8) T_far_by_swap T_seats_in (ok_seats (k := 6) T_seats_in T_places_in B) B) (ok_spot (k := 8) T_far_by_spot B) (ok_shift (k := 8) T_far_by_shift T_seats_in (ok_seats (k := 6) T_seats_in T_places_in B) B)) T_Lister_change_to (ok_changeL (k := 9) T_Lister_change_to T_Lister) B) (ok_ordersL (k := 10) T_Lister_orders T_Lister B) (ok_dropL (k := 10) T_Lister_drop T_Lister T_check_order (ok_check (k := 7) T_check_order T_is_order T_is_whole B m_MOST_THINGS) T_Lister_change_to (ok_changeL (k := 9) T_Lister_change_to T_Lister) B) (ok_undoN (k := 10) T_Lister_undo T_Lister B) B) (ok_comeL (k := 11) T_Lister_come T_Lister T_check_order (ok_check (k := 8) T_check_order T_is_order T_is_whole B m_MOST_THINGS) T_check_many (ok_manyOk (k := 10) T_check_many m_MOST_ORDERS) T_known_far (ok_known (k := 10) T_known_far T_far_by_swap T_far_by_spot T_far_by_shift (ok_swap (k := 9) T_far_by_swap T_seats_in (ok_seats (k := 7) T_seats_in T_places_in B) B) (ok_spot (k := 9) T_far_by_spot B) (ok_shift (k := 9) T_far_by_shift T_seats_in (ok_seats (k := 7) T_seats_in T_places_in B) B)) T_Lister_change_to (ok_changeL (k := 10) T_Lister_change_to T_Lister) B) (ok_ordersL (k := 11) T_Lister_orders T_Lister B) (ok_undoN (k := 11) T_Lister_undo T_Lister B) (ok_leastL (k := 11) T_Lister_least_apart T_Lister T_known_far (ok_known (k := 10) T_known_far T_far_by_swap T_far_by_spot T_far_by_shift (ok_swap (k := 9) T_far_by_swap T_seats_in (ok_seats (k := 7) T_seats_in T_places_in B) B) (ok_spot (k := 9) T_far_by_spot B) (ok_shift (k := 9) T_far_by_shift T_seats_in (ok_seats (k := 7) T_seats_in T_places_in B) B)) B) B
namespace Fo
open PySem PySem.Spec PyProof.Rows L2
set_option maxHeartbeats 8000000 in
theorem all_mk {l : PySem.W.OpenLaw} {w : World} {K : PySem.W.Frag} {h : Heap} {mg : Str → Option Value} {fa : Addr} (X : K.In h) (G : h.Ns mainGlobals mg) (hfa : mg "law" = some (.ref fa))
    {f0 f1 f2 f3 f4 f5 f6 f7 f8 f9 f10 f11 f12 f13 f14 f15 f16 f17 f18 f19 f20 f21 f22 f23 f24 f25 f26 f27 f28 f29 f30 f31 : Addr} {od0 an0 od1 an1 od2 an2 od3 an3 od4 an4 od5 an5 od6 an6 od7 an7 od8 an8 od9 an9 od10 an10 od11 an11 od12 an12 od13 an13 od14 an14 od15 an15 od16 an16 od17 an17 od18 an18 od19 an19 od20 an20 od21 an21 od22 an22 od23 an23 od24 an24 od25 an25 od26 an26 od27 an27 od28 an28 od29 an29 od30 an30 od31 an31 : Option Addr} {sl0 sl1 sl2 sl3 sl4 sl5 sl6 sl7 sl8 sl9 sl10 sl11 sl12 sl13 sl14 sl15 sl16 sl17 sl18 sl19 sl20 sl21 sl22 sl23 sl24 sl25 sl26 sl27 sl28 sl29 sl30 sl31 : Array (Option Value)} {oc0 kV0 dc0 pm0 cd0 ct0 oc1 kV1 dc1 pm1 cd1 ct1 oc2 kV2 dc2 pm2 cd2 ct2 oc3 kV3 dc3 pm3 cd3 ct3 oc4 kV4 dc4 pm4 cd4 ct4 oc5 kV5 dc5 pm5 cd5 ct5 oc6 kV6 dc6 pm6 cd6 ct6 oc7 kV7 dc7 pm7 cd7 ct7 oc8 kV8 dc8 pm8 cd8 ct8 oc9 kV9 dc9 pm9 cd9 ct9 oc10 kV10 dc10 pm10 cd10 ct10 oc11 kV11 dc11 pm11 cd11 ct11 oc12 kV12 dc12 pm12 cd12 ct12 oc13 kV13 dc13 pm13 cd13 ct13 oc14 kV14 dc14 pm14 cd14 ct14 oc15 kV15 dc15 pm15 cd15 ct15 oc16 kV16 dc16 pm16 cd16 ct16 oc17 kV17 dc17 pm17 cd17 ct17 oc18 kV18 dc18 pm18 cd18 ct18 oc19 kV19 dc19 pm19 cd19 ct19 oc20 kV20 dc20 pm20 cd20 ct20 oc21 kV21 dc21 pm21 cd21 ct21 oc22 kV22 dc22 pm22 cd22 ct22 oc23 kV23 dc23 pm23 cd23 ct23 oc24 kV24 dc24 pm24 cd24 ct24 oc25 kV25 dc25 pm25 cd25 ct25 oc26 kV26 dc26 pm26 cd26 ct26 oc27 kV27 dc27 pm27 cd27 ct27 oc28 kV28 dc28 pm28 cd28 ct28 oc29 kV29 dc29 pm29 cd29 ct29 oc30 kV30 dc30 pm30 cd30 ct30 oc31 kV31 dc31 pm31 cd31 ct31 : Value} {tk_MOST_THINGS tk_MOST_ORDERS tk_MOST_KEPT : Tok} {aW : Addr} {ddW : Option Addr} {nW : Nat} {tW1 tW2 tW3 : Tok} {slW : Array (Option Value)} {C_Lister fm0 fm1 fm2 fm3 fm4 fm5 fm6 : Addr} {odm0 anm0 odm1 anm1 odm2 anm2 odm3 anm3 odm4 anm4 odm5 anm5 odm6 anm6 : Option Addr} {slm0 slm1 slm2 slm3 slm4 slm5 slm6 : Array (Option Value)} {ocm0 kVm0 dcm0 pmm0 cdm0 ctm0 ocm1 kVm1 dcm1 pmm1 cdm1 ctm1 ocm2 kVm2 dcm2 pmm2 cdm2 ctm2 ocm3 kVm3 dcm3 pmm3 cdm3 ctm3 ocm4 kVm4 dcm4 pmm4 cdm4 ctm4 ocm5 kVm5 dcm5 pmm5 cdm5 ctm5 ocm6 kVm6 dcm6 pmm6 cdm6 ctm6 : Value}
    (a0 : PySem.W.nsIn K mainGlobals "is_whole" = some (some (.ref f0))) (l0 : K.lookup f0 = some ⟨oc0, od0, .func (PySem.W.fnOf "is_whole" "is_whole" (defArgs s_is_whole) (defBody s_is_whole) (defScope s_is_whole) .none kV0 dc0 pm0 an0 cd0 ct0), sl0⟩) (c0 : PySem.W.codeIn K cd0 "is_whole" = true) (k0 : PySem.W.keepIn K (.ref f0) = true)
    (a1 : PySem.W.nsIn K mainGlobals "check_way" = some (some (.ref f1))) (l1 : K.lookup f1 = some ⟨oc1, od1, .func (PySem.W.fnOf "check_way" "check_way" (defArgs s_check_way) (defBody s_check_way) (defScope s_check_way) .none kV1 dc1 pm1 an1 cd1 ct1), sl1⟩) (c1 : PySem.W.codeIn K cd1 "check_way" = true) (k1 : PySem.W.keepIn K (.ref f1) = true)
    (a2 : PySem.W.nsIn K mainGlobals "check_from" = some (some (.ref f2))) (l2 : K.lookup f2 = some ⟨oc2, od2, .func (PySem.W.fnOf "check_from" "check_from" (defArgs s_check_from) (defBody s_check_from) (defScope s_check_from) .none kV2 dc2 pm2 an2 cd2 ct2), sl2⟩) (c2 : PySem.W.codeIn K cd2 "check_from" = true) (k2 : PySem.W.keepIn K (.ref f2) = true)
    (a3 : PySem.W.nsIn K mainGlobals "check_size" = some (some (.ref f3))) (l3 : K.lookup f3 = some ⟨oc3, od3, .func (PySem.W.fnOf "check_size" "check_size" (defArgs s_check_size) (defBody s_check_size) (defScope s_check_size) .none kV3 dc3 pm3 an3 cd3 ct3), sl3⟩) (c3 : PySem.W.codeIn K cd3 "check_size" = true) (k3 : PySem.W.keepIn K (.ref f3) = true)
    (a4 : PySem.W.nsIn K mainGlobals "check_apart" = some (some (.ref f4))) (l4 : K.lookup f4 = some ⟨oc4, od4, .func (PySem.W.fnOf "check_apart" "check_apart" (defArgs s_check_apart) (defBody s_check_apart) (defScope s_check_apart) .none kV4 dc4 pm4 an4 cd4 ct4), sl4⟩) (c4 : PySem.W.codeIn K cd4 "check_apart" = true) (k4 : PySem.W.keepIn K (.ref f4) = true)
    (a5 : PySem.W.nsIn K mainGlobals "is_order" = some (some (.ref f5))) (l5 : K.lookup f5 = some ⟨oc5, od5, .func (PySem.W.fnOf "is_order" "is_order" (defArgs s_is_order) (defBody s_is_order) (defScope s_is_order) .none kV5 dc5 pm5 an5 cd5 ct5), sl5⟩) (c5 : PySem.W.codeIn K cd5 "is_order" = true) (k5 : PySem.W.keepIn K (.ref f5) = true)
    (a6 : PySem.W.nsIn K mainGlobals "check_order" = some (some (.ref f6))) (l6 : K.lookup f6 = some ⟨oc6, od6, .func (PySem.W.fnOf "check_order" "check_order" (defArgs s_check_order) (defBody s_check_order) (defScope s_check_order) .none kV6 dc6 pm6 an6 cd6 ct6), sl6⟩) (c6 : PySem.W.codeIn K cd6 "check_order" = true) (k6 : PySem.W.keepIn K (.ref f6) = true)
    (a7 : PySem.W.nsIn K mainGlobals "check_fit" = some (some (.ref f7))) (l7 : K.lookup f7 = some ⟨oc7, od7, .func (PySem.W.fnOf "check_fit" "check_fit" (defArgs s_check_fit) (defBody s_check_fit) (defScope s_check_fit) .none kV7 dc7 pm7 an7 cd7 ct7), sl7⟩) (c7 : PySem.W.codeIn K cd7 "check_fit" = true) (k7 : PySem.W.keepIn K (.ref f7) = true)
    (a8 : PySem.W.nsIn K mainGlobals "is_order_list" = some (some (.ref f8))) (l8 : K.lookup f8 = some ⟨oc8, od8, .func (PySem.W.fnOf "is_order_list" "is_order_list" (defArgs s_is_order_list) (defBody s_is_order_list) (defScope s_is_order_list) .none kV8 dc8 pm8 an8 cd8 ct8), sl8⟩) (c8 : PySem.W.codeIn K cd8 "is_order_list" = true) (k8 : PySem.W.keepIn K (.ref f8) = true)
    (a9 : PySem.W.nsIn K mainGlobals "is_unlike_list" = some (some (.ref f9))) (l9 : K.lookup f9 = some ⟨oc9, od9, .func (PySem.W.fnOf "is_unlike_list" "is_unlike_list" (defArgs s_is_unlike_list) (defBody s_is_unlike_list) (defScope s_is_unlike_list) .none kV9 dc9 pm9 an9 cd9 ct9), sl9⟩) (c9 : PySem.W.codeIn K cd9 "is_unlike_list" = true) (k9 : PySem.W.keepIn K (.ref f9) = true)
    (a10 : PySem.W.nsIn K mainGlobals "places_in" = some (some (.ref f10))) (l10 : K.lookup f10 = some ⟨oc10, od10, .func (PySem.W.fnOf "places_in" "places_in" (defArgs s_places_in) (defBody s_places_in) (defScope s_places_in) .none kV10 dc10 pm10 an10 cd10 ct10), sl10⟩) (c10 : PySem.W.codeIn K cd10 "places_in" = true) (k10 : PySem.W.keepIn K (.ref f10) = true)
    (a11 : PySem.W.nsIn K mainGlobals "seats_in" = some (some (.ref f11))) (l11 : K.lookup f11 = some ⟨oc11, od11, .func (PySem.W.fnOf "seats_in" "seats_in" (defArgs s_seats_in) (defBody s_seats_in) (defScope s_seats_in) .none kV11 dc11 pm11 an11 cd11 ct11), sl11⟩) (c11 : PySem.W.codeIn K cd11 "seats_in" = true) (k11 : PySem.W.keepIn K (.ref f11) = true)
    (a12 : PySem.W.nsIn K mainGlobals "known_far" = some (some (.ref f12))) (l12 : K.lookup f12 = some ⟨oc12, od12, .func (PySem.W.fnOf "known_far" "known_far" (defArgs s_known_far) (defBody s_known_far) (defScope s_known_far) .none kV12 dc12 pm12 an12 cd12 ct12), sl12⟩) (c12 : PySem.W.codeIn K cd12 "known_far" = true) (k12 : PySem.W.keepIn K (.ref f12) = true)
    (a13 : PySem.W.nsIn K mainGlobals "far_by_swap" = some (some (.ref f13))) (l13 : K.lookup f13 = some ⟨oc13, od13, .func (PySem.W.fnOf "far_by_swap" "far_by_swap" (defArgs s_far_by_swap) (defBody s_far_by_swap) (defScope s_far_by_swap) .none kV13 dc13 pm13 an13 cd13 ct13), sl13⟩) (c13 : PySem.W.codeIn K cd13 "far_by_swap" = true) (k13 : PySem.W.keepIn K (.ref f13) = true)
    (a14 : PySem.W.nsIn K mainGlobals "far_by_spot" = some (some (.ref f14))) (l14 : K.lookup f14 = some ⟨oc14, od14, .func (PySem.W.fnOf "far_by_spot" "far_by_spot" (defArgs s_far_by_spot) (defBody s_far_by_spot) (defScope s_far_by_spot) .none kV14 dc14 pm14 an14 cd14 ct14), sl14⟩) (c14 : PySem.W.codeIn K cd14 "far_by_spot" = true) (k14 : PySem.W.keepIn K (.ref f14) = true)
    (a15 : PySem.W.nsIn K mainGlobals "far_by_shift" = some (some (.ref f15))) (l15 : K.lookup f15 = some ⟨oc15, od15, .func (PySem.W.fnOf "far_by_shift" "far_by_shift" (defArgs s_far_by_shift) (defBody s_far_by_shift) (defScope s_far_by_shift) .none kV15 dc15 pm15 an15 cd15 ct15), sl15⟩) (c15 : PySem.W.codeIn K cd15 "far_by_shift" = true) (k15 : PySem.W.keepIn K (.ref f15) = true)
    (a16 : PySem.W.nsIn K mainGlobals "check_many" = some (some (.ref f16))) (l16 : K.lookup f16 = some ⟨oc16, od16, .func (PySem.W.fnOf "check_many" "check_many" (defArgs s_check_many) (defBody s_check_many) (defScope s_check_many) .none kV16 dc16 pm16 an16 cd16 ct16), sl16⟩) (c16 : PySem.W.codeIn K cd16 "check_many" = true) (k16 : PySem.W.keepIn K (.ref f16) = true)
    (a17 : PySem.W.nsIn K mainGlobals "nearest_of" = some (some (.ref f17))) (l17 : K.lookup f17 = some ⟨oc17, od17, .func (PySem.W.fnOf "nearest_of" "nearest_of" (defArgs s_nearest_of) (defBody s_nearest_of) (defScope s_nearest_of) .none kV17 dc17 pm17 an17 cd17 ct17), sl17⟩) (c17 : PySem.W.codeIn K cd17 "nearest_of" = true) (k17 : PySem.W.keepIn K (.ref f17) = true)
    (a18 : PySem.W.nsIn K mainGlobals "check_led" = some (some (.ref f18))) (l18 : K.lookup f18 = some ⟨oc18, od18, .func (PySem.W.fnOf "check_led" "check_led" (defArgs s_check_led) (defBody s_check_led) (defScope s_check_led) .none kV18 dc18 pm18 an18 cd18 ct18), sl18⟩) (c18 : PySem.W.codeIn K cd18 "check_led" = true) (k18 : PySem.W.keepIn K (.ref f18) = true)
    (a19 : PySem.W.nsIn K mainGlobals "check_unlike_list" = some (some (.ref f19))) (l19 : K.lookup f19 = some ⟨oc19, od19, .func (PySem.W.fnOf "check_unlike_list" "check_unlike_list" (defArgs s_check_unlike_list) (defBody s_check_unlike_list) (defScope s_check_unlike_list) .none kV19 dc19 pm19 an19 cd19 ct19), sl19⟩) (c19 : PySem.W.codeIn K cd19 "check_unlike_list" = true) (k19 : PySem.W.keepIn K (.ref f19) = true)
    (a20 : PySem.W.nsIn K mainGlobals "those_within" = some (some (.ref f20))) (l20 : K.lookup f20 = some ⟨oc20, od20, .func (PySem.W.fnOf "those_within" "those_within" (defArgs s_those_within) (defBody s_those_within) (defScope s_those_within) .none kV20 dc20 pm20 an20 cd20 ct20), sl20⟩) (c20 : PySem.W.codeIn K cd20 "those_within" = true) (k20 : PySem.W.keepIn K (.ref f20) = true)
    (a21 : PySem.W.nsIn K mainGlobals "_law_cell_at" = some (some (.ref f21))) (l21 : K.lookup f21 = some ⟨oc21, od21, .func (PySem.W.fnOf "_law_cell_at" "_law_cell_at" (defArgs s_law_cell_at) (defBody s_law_cell_at) (defScope s_law_cell_at) .none kV21 dc21 pm21 an21 cd21 ct21), sl21⟩) (c21 : PySem.W.codeIn K cd21 "_law_cell_at" = true) (k21 : PySem.W.keepIn K (.ref f21) = true)
    (a22 : PySem.W.nsIn K mainGlobals "_law_stir" = some (some (.ref f22))) (l22 : K.lookup f22 = some ⟨oc22, od22, .func (PySem.W.fnOf "_law_stir" "_law_stir" (defArgs s_law_stir) (defBody s_law_stir) (defScope s_law_stir) .none kV22 dc22 pm22 an22 cd22 ct22), sl22⟩) (c22 : PySem.W.codeIn K cd22 "_law_stir" = true) (k22 : PySem.W.keepIn K (.ref f22) = true)
    (a23 : PySem.W.nsIn K mainGlobals "_law_deck" = some (some (.ref f23))) (l23 : K.lookup f23 = some ⟨oc23, od23, .func (PySem.W.fnOf "_law_deck" "_law_deck" (defArgs s_law_deck) (defBody s_law_deck) (defScope s_law_deck) .none kV23 dc23 pm23 an23 cd23 ct23), sl23⟩) (c23 : PySem.W.codeIn K cd23 "_law_deck" = true) (k23 : PySem.W.keepIn K (.ref f23) = true)
    (a24 : PySem.W.nsIn K mainGlobals "_law_next" = some (some (.ref f24))) (l24 : K.lookup f24 = some ⟨oc24, od24, .func (PySem.W.fnOf "_law_next" "_law_next" (defArgs s_law_next) (defBody s_law_next) (defScope s_law_next) .none kV24 dc24 pm24 an24 cd24 ct24), sl24⟩) (c24 : PySem.W.codeIn K cd24 "_law_next" = true) (k24 : PySem.W.keepIn K (.ref f24) = true)
    (a25 : PySem.W.nsIn K mainGlobals "_law_order" = some (some (.ref f25))) (l25 : K.lookup f25 = some ⟨oc25, od25, .func (PySem.W.fnOf "_law_order" "_law_order" (defArgs s_law_order) (defBody s_law_order) (defScope s_law_order) .none kV25 dc25 pm25 an25 cd25 ct25), sl25⟩) (c25 : PySem.W.codeIn K cd25 "_law_order" = true) (k25 : PySem.W.keepIn K (.ref f25) = true)
    (a26 : PySem.W.nsIn K mainGlobals "_law_near" = some (some (.ref f26))) (l26 : K.lookup f26 = some ⟨oc26, od26, .func (PySem.W.fnOf "_law_near" "_law_near" (defArgs s_law_near) (defBody s_law_near) (defScope s_law_near) .none kV26 dc26 pm26 an26 cd26 ct26), sl26⟩) (c26 : PySem.W.codeIn K cd26 "_law_near" = true) (k26 : PySem.W.keepIn K (.ref f26) = true)
    (a27 : PySem.W.nsIn K mainGlobals "_law_free" = some (some (.ref f27))) (l27 : K.lookup f27 = some ⟨oc27, od27, .func (PySem.W.fnOf "_law_free" "_law_free" (defArgs s_law_free) (defBody s_law_free) (defScope s_law_free) .none kV27 dc27 pm27 an27 cd27 ct27), sl27⟩) (c27 : PySem.W.codeIn K cd27 "_law_free" = true) (k27 : PySem.W.keepIn K (.ref f27) = true)
    (a28 : PySem.W.nsIn K mainGlobals "_law_turned" = some (some (.ref f28))) (l28 : K.lookup f28 = some ⟨oc28, od28, .func (PySem.W.fnOf "_law_turned" "_law_turned" (defArgs s_law_turned) (defBody s_law_turned) (defScope s_law_turned) .none kV28 dc28 pm28 an28 cd28 ct28), sl28⟩) (c28 : PySem.W.codeIn K cd28 "_law_turned" = true) (k28 : PySem.W.keepIn K (.ref f28) = true)
    (a29 : PySem.W.nsIn K mainGlobals "_law_told_right" = some (some (.ref f29))) (l29 : K.lookup f29 = some ⟨oc29, od29, .func (PySem.W.fnOf "_law_told_right" "_law_told_right" (defArgs s_law_told_right) (defBody s_law_told_right) (defScope s_law_told_right) .none kV29 dc29 pm29 an29 cd29 ct29), sl29⟩) (c29 : PySem.W.codeIn K cd29 "_law_told_right" = true) (k29 : PySem.W.keepIn K (.ref f29) = true)
    (a30 : PySem.W.nsIn K mainGlobals "_law_dropped_right" = some (some (.ref f30))) (l30 : K.lookup f30 = some ⟨oc30, od30, .func (PySem.W.fnOf "_law_dropped_right" "_law_dropped_right" (defArgs s_law_dropped_right) (defBody s_law_dropped_right) (defScope s_law_dropped_right) .none kV30 dc30 pm30 an30 cd30 ct30), sl30⟩) (c30 : PySem.W.codeIn K cd30 "_law_dropped_right" = true) (k30 : PySem.W.keepIn K (.ref f30) = true)
    (a31 : PySem.W.nsIn K mainGlobals "law" = some (some (.ref f31))) (l31 : K.lookup f31 = some ⟨oc31, od31, .func (PySem.W.fnOf "law" "law" (defArgs s_law) (defBody s_law) (defScope s_law) .none kV31 dc31 pm31 an31 cd31 ct31), sl31⟩) (c31 : PySem.W.codeIn K cd31 "law" = true) (k31 : PySem.W.keepIn K (.ref f31) = true)
    (g_MOST_THINGS : PySem.W.nsIn K mainGlobals "MOST_THINGS" = some (some (.int 12 tk_MOST_THINGS)))
    (g_MOST_ORDERS : PySem.W.nsIn K mainGlobals "MOST_ORDERS" = some (some (.int 120 tk_MOST_ORDERS)))
    (g_MOST_KEPT : PySem.W.nsIn K mainGlobals "MOST_KEPT" = some (some (.int 8 tk_MOST_KEPT)))
    (g_WAYS : PySem.W.nsIn K mainGlobals "WAYS" = some (some (.ref aW))) (l_WAYS : K.lookup aW = some ⟨.type "tuple", ddW, .seq #[.str "swap" tW1, .str "spot" tW2, .str "shift" tW3] nW, slW⟩)
    (aC_Lister : PySem.W.nsIn K mainGlobals "Lister" = some (some (.ref C_Lister)))
    (am0 : PySem.W.findIn K (.ref C_Lister) "__init__" = some (some (.ref fm0))) (im0 : PySem.W.isFn K (.ref fm0) = true) (lm0 : K.lookup fm0 = some ⟨ocm0, odm0, .func (PySem.W.fnOf "__init__" "Lister.__init__" (defArgs s_Lister___init__) (defBody s_Lister___init__) (defScope s_Lister___init__) .none kVm0 dcm0 pmm0 anm0 cdm0 ctm0), slm0⟩) (cm0 : PySem.W.codeIn K cdm0 "Lister.__init__" = true) (km0 : PySem.W.keepIn K (.ref fm0) = true)
    (am1 : PySem.W.findIn K (.ref C_Lister) "come" = some (some (.ref fm1))) (im1 : PySem.W.isFn K (.ref fm1) = true) (lm1 : K.lookup fm1 = some ⟨ocm1, odm1, .func (PySem.W.fnOf "come" "Lister.come" (defArgs s_Lister_come) (defBody s_Lister_come) (defScope s_Lister_come) .none kVm1 dcm1 pmm1 anm1 cdm1 ctm1), slm1⟩) (cm1 : PySem.W.codeIn K cdm1 "Lister.come" = true) (km1 : PySem.W.keepIn K (.ref fm1) = true)
    (am2 : PySem.W.findIn K (.ref C_Lister) "drop" = some (some (.ref fm2))) (im2 : PySem.W.isFn K (.ref fm2) = true) (lm2 : K.lookup fm2 = some ⟨ocm2, odm2, .func (PySem.W.fnOf "drop" "Lister.drop" (defArgs s_Lister_drop) (defBody s_Lister_drop) (defScope s_Lister_drop) .none kVm2 dcm2 pmm2 anm2 cdm2 ctm2), slm2⟩) (cm2 : PySem.W.codeIn K cdm2 "Lister.drop" = true) (km2 : PySem.W.keepIn K (.ref fm2) = true)
    (am3 : PySem.W.findIn K (.ref C_Lister) "change_to" = some (some (.ref fm3))) (im3 : PySem.W.isFn K (.ref fm3) = true) (lm3 : K.lookup fm3 = some ⟨ocm3, odm3, .func (PySem.W.fnOf "change_to" "Lister.change_to" (defArgs s_Lister_change_to) (defBody s_Lister_change_to) (defScope s_Lister_change_to) .none kVm3 dcm3 pmm3 anm3 cdm3 ctm3), slm3⟩) (cm3 : PySem.W.codeIn K cdm3 "Lister.change_to" = true) (km3 : PySem.W.keepIn K (.ref fm3) = true)
    (am4 : PySem.W.findIn K (.ref C_Lister) "undo" = some (some (.ref fm4))) (im4 : PySem.W.isFn K (.ref fm4) = true) (lm4 : K.lookup fm4 = some ⟨ocm4, odm4, .func (PySem.W.fnOf "undo" "Lister.undo" (defArgs s_Lister_undo) (defBody s_Lister_undo) (defScope s_Lister_undo) .none kVm4 dcm4 pmm4 anm4 cdm4 ctm4), slm4⟩) (cm4 : PySem.W.codeIn K cdm4 "Lister.undo" = true) (km4 : PySem.W.keepIn K (.ref fm4) = true)
    (am5 : PySem.W.findIn K (.ref C_Lister) "orders" = some (some (.ref fm5))) (im5 : PySem.W.isFn K (.ref fm5) = true) (lm5 : K.lookup fm5 = some ⟨ocm5, odm5, .func (PySem.W.fnOf "orders" "Lister.orders" (defArgs s_Lister_orders) (defBody s_Lister_orders) (defScope s_Lister_orders) .none kVm5 dcm5 pmm5 anm5 cdm5 ctm5), slm5⟩) (cm5 : PySem.W.codeIn K cdm5 "Lister.orders" = true) (km5 : PySem.W.keepIn K (.ref fm5) = true)
    (am6 : PySem.W.findIn K (.ref C_Lister) "least_apart" = some (some (.ref fm6))) (im6 : PySem.W.isFn K (.ref fm6) = true) (lm6 : K.lookup fm6 = some ⟨ocm6, odm6, .func (PySem.W.fnOf "least_apart" "Lister.least_apart" (defArgs s_Lister_least_apart) (defBody s_Lister_least_apart) (defScope s_Lister_least_apart) .none kVm6 dcm6 pmm6 anm6 cdm6 ctm6), slm6⟩) (cm6 : PySem.W.codeIn K cdm6 "Lister.least_apart" = true) (km6 : PySem.W.keepIn K (.ref fm6) = true)
    (pgC : PySem.W.plainGet K C_Lister Str.empty = true) (hdC : PySem.W.hasDictIn K C_Lister = true) (poC : PySem.W.plainOver K C_Lister = true) (saC : PySem.W.findIn K (.ref C_Lister) "__setattr__" = some (some (.builtin "object.__setattr__"))) (mkC : PySem.W.makesIn K C_Lister = true) (kcC : PySem.W.keepIn K (.ref C_Lister) = true)
    (nf_way : PySem.W.findIn K (.ref C_Lister) "way" = some none)
    (nf_n : PySem.W.findIn K (.ref C_Lister) "n" = some none)
    (nf_d : PySem.W.findIn K (.ref C_Lister) "d" = some none)
    (nf_taken : PySem.W.findIn K (.ref C_Lister) "taken" = some none)
    (nf_earlier : PySem.W.findIn K (.ref C_Lister) "earlier" = some none)
    (z_ValueError : PySem.W.nsIn K mainGlobals "ValueError" = some none)
    (z_abs : PySem.W.nsIn K mainGlobals "abs" = some none)
    (z_all : PySem.W.nsIn K mainGlobals "all" = some none)
    (z_bool : PySem.W.nsIn K mainGlobals "bool" = some none)
    (z_enumerate : PySem.W.nsIn K mainGlobals "enumerate" = some none)
    (z_int : PySem.W.nsIn K mainGlobals "int" = some none)
    (z_isinstance : PySem.W.nsIn K mainGlobals "isinstance" = some none)
    (z_len : PySem.W.nsIn K mainGlobals "len" = some none)
    (z_list : PySem.W.nsIn K mainGlobals "list" = some none)
    (z_max : PySem.W.nsIn K mainGlobals "max" = some none)
    (z_min : PySem.W.nsIn K mainGlobals "min" = some none)
    (z_range : PySem.W.nsIn K mainGlobals "range" = some none)
    (z_sorted : PySem.W.nsIn K mainGlobals "sorted" = some none)
    (z_str : PySem.W.nsIn K mainGlobals "str" = some none)
    (z_tuple : PySem.W.nsIn K mainGlobals "tuple" = some none)
    : ∃ fd : FuncData, (∀ (s : Shared) (v : Value), BindsTo s fd ⟨[v], []⟩ [("script", v)]) ∧ ∀ base : Heap, K.In base → base.Ns mainGlobals mg → FnOk l.prog w K mg base CX0 13 fa fd ["script"] (spLaw K) := by
  have e := hfa.symm.trans (PySem.W.mg_of X G a31)
  cases e
  have F0 := fun_mk (st := s_is_whole) l0 c0 k0
  have F1 := fun_mk (st := s_check_way) l1 c1 k1
  have F2 := fun_mk (st := s_check_from) l2 c2 k2
  have F3 := fun_mk (st := s_check_size) l3 c3 k3
  have F4 := fun_mk (st := s_check_apart) l4 c4 k4
  have F5 := fun_mk (st := s_is_order) l5 c5 k5
  have F6 := fun_mk (st := s_check_order) l6 c6 k6
  have F7 := fun_mk (st := s_check_fit) l7 c7 k7
  have F8 := fun_mk (st := s_is_order_list) l8 c8 k8
  have F9 := fun_mk (st := s_is_unlike_list) l9 c9 k9
  have F10 := fun_mk (st := s_places_in) l10 c10 k10
  have F11 := fun_mk (st := s_seats_in) l11 c11 k11
  have F12 := fun_mk (st := s_known_far) l12 c12 k12
  have F13 := fun_mk (st := s_far_by_swap) l13 c13 k13
  have F14 := fun_mk (st := s_far_by_spot) l14 c14 k14
  have F15 := fun_mk (st := s_far_by_shift) l15 c15 k15
  have F16 := fun_mk (st := s_check_many) l16 c16 k16
  have F17 := fun_mk (st := s_nearest_of) l17 c17 k17
  have F18 := fun_mk (st := s_check_led) l18 c18 k18
  have F19 := fun_mk (st := s_check_unlike_list) l19 c19 k19
  have F20 := fun_mk (st := s_those_within) l20 c20 k20
  have F21 := fun_mk (st := s_law_cell_at) l21 c21 k21
  have F22 := fun_mk (st := s_law_stir) l22 c22 k22
  have F23 := fun_mk (st := s_law_deck) l23 c23 k23
  have F24 := fun_mk (st := s_law_next) l24 c24 k24
  have F25 := fun_mk (st := s_law_order) l25 c25 k25
  have F26 := fun_mk (st := s_law_near) l26 c26 k26
  have F27 := fun_mk (st := s_law_free) l27 c27 k27
  have F28 := fun_mk (st := s_law_turned) l28 c28 k28
  have F29 := fun_mk (st := s_law_told_right) l29 c29 k29
  have F30 := fun_mk (st := s_law_dropped_right) l30 c30 k30
  have F31 := fun_mk (st := s_law) l31 c31 k31
  have T_is_whole : Df K mg "is_whole" s_is_whole ["thing"] f0 _ := ⟨F0, F0.binds (ps := ["thing"]) (fun _ _ _ _ _ _ us hl => match us, hl with | [_], _ => rfl), PySem.W.mg_of X G a0⟩
  have T_check_way : Df K mg "check_way" s_check_way ["thing"] f1 _ := ⟨F1, F1.binds (ps := ["thing"]) (fun _ _ _ _ _ _ us hl => match us, hl with | [_], _ => rfl), PySem.W.mg_of X G a1⟩
  have T_check_from : Df K mg "check_from" s_check_from ["thing", "least"] f2 _ := ⟨F2, F2.binds (ps := ["thing", "least"]) (fun _ _ _ _ _ _ us hl => match us, hl with | [_, _], _ => rfl), PySem.W.mg_of X G a2⟩
  have T_check_size : Df K mg "check_size" s_check_size ["thing", "most"] f3 _ := ⟨F3, F3.binds (ps := ["thing", "most"]) (fun _ _ _ _ _ _ us hl => match us, hl with | [_, _], _ => rfl), PySem.W.mg_of X G a3⟩
  have T_check_apart : Df K mg "check_apart" s_check_apart ["way", "n", "most", "d"] f4 _ := ⟨F4, F4.binds (ps := ["way", "n", "most", "d"]) (fun _ _ _ _ _ _ us hl => match us, hl with | [_, _, _, _], _ => rfl), PySem.W.mg_of X G a4⟩
  have T_is_order : Df K mg "is_order" s_is_order ["thing"] f5 _ := ⟨F5, F5.binds (ps := ["thing"]) (fun _ _ _ _ _ _ us hl => match us, hl with | [_], _ => rfl), PySem.W.mg_of X G a5⟩
  have T_check_order : Df K mg "check_order" s_check_order ["thing"] f6 _ := ⟨F6, F6.binds (ps := ["thing"]) (fun _ _ _ _ _ _ us hl => match us, hl with | [_], _ => rfl), PySem.W.mg_of X G a6⟩
  have T_check_fit : Df K mg "check_fit" s_check_fit ["one", "other"] f7 _ := ⟨F7, F7.binds (ps := ["one", "other"]) (fun _ _ _ _ _ _ us hl => match us, hl with | [_, _], _ => rfl), PySem.W.mg_of X G a7⟩
  have T_is_order_list : Df K mg "is_order_list" s_is_order_list ["thing"] f8 _ := ⟨F8, F8.binds (ps := ["thing"]) (fun _ _ _ _ _ _ us hl => match us, hl with | [_], _ => rfl), PySem.W.mg_of X G a8⟩
  have T_is_unlike_list : Df K mg "is_unlike_list" s_is_unlike_list ["thing"] f9 _ := ⟨F9, F9.binds (ps := ["thing"]) (fun _ _ _ _ _ _ us hl => match us, hl with | [_], _ => rfl), PySem.W.mg_of X G a9⟩
  have T_places_in : Df K mg "places_in" s_places_in ["order"] f10 _ := ⟨F10, F10.binds (ps := ["order"]) (fun _ _ _ _ _ _ us hl => match us, hl with | [_], _ => rfl), PySem.W.mg_of X G a10⟩
  have T_seats_in : Df K mg "seats_in" s_seats_in ["one", "other"] f11 _ := ⟨F11, F11.binds (ps := ["one", "other"]) (fun _ _ _ _ _ _ us hl => match us, hl with | [_, _], _ => rfl), PySem.W.mg_of X G a11⟩
  have T_known_far : Df K mg "known_far" s_known_far ["way", "one", "other"] f12 _ := ⟨F12, F12.binds (ps := ["way", "one", "other"]) (fun _ _ _ _ _ _ us hl => match us, hl with | [_, _, _], _ => rfl), PySem.W.mg_of X G a12⟩
  have T_far_by_swap : Df K mg "far_by_swap" s_far_by_swap ["one", "other"] f13 _ := ⟨F13, F13.binds (ps := ["one", "other"]) (fun _ _ _ _ _ _ us hl => match us, hl with | [_, _], _ => rfl), PySem.W.mg_of X G a13⟩
  have T_far_by_spot : Df K mg "far_by_spot" s_far_by_spot ["one", "other"] f14 _ := ⟨F14, F14.binds (ps := ["one", "other"]) (fun _ _ _ _ _ _ us hl => match us, hl with | [_, _], _ => rfl), PySem.W.mg_of X G a14⟩
  have T_far_by_shift : Df K mg "far_by_shift" s_far_by_shift ["one", "other"] f15 _ := ⟨F15, F15.binds (ps := ["one", "other"]) (fun _ _ _ _ _ _ us hl => match us, hl with | [_, _], _ => rfl), PySem.W.mg_of X G a15⟩
  have T_check_many : Df K mg "check_many" s_check_many ["many"] f16 _ := ⟨F16, F16.binds (ps := ["many"]) (fun _ _ _ _ _ _ us hl => match us, hl with | [_], _ => rfl), PySem.W.mg_of X G a16⟩
  have T_nearest_of : Df K mg "nearest_of" s_nearest_of ["way", "order", "orders"] f17 _ := ⟨F17, F17.binds (ps := ["way", "order", "orders"]) (fun _ _ _ _ _ _ us hl => match us, hl with | [_, _, _], _ => rfl), PySem.W.mg_of X G a17⟩
  have T_check_led : Df K mg "check_led" s_check_led ["way", "order", "orders"] f18 _ := ⟨F18, F18.binds (ps := ["way", "order", "orders"]) (fun _ _ _ _ _ _ us hl => match us, hl with | [_, _, _], _ => rfl), PySem.W.mg_of X G a18⟩
  have T_check_unlike_list : Df K mg "check_unlike_list" s_check_unlike_list ["thing"] f19 _ := ⟨F19, F19.binds (ps := ["thing"]) (fun _ _ _ _ _ _ us hl => match us, hl with | [_], _ => rfl), PySem.W.mg_of X G a19⟩
  have T_those_within : Df K mg "those_within" s_those_within ["way", "order", "orders", "r"] f20 _ := ⟨F20, F20.binds (ps := ["way", "order", "orders", "r"]) (fun _ _ _ _ _ _ us hl => match us, hl with | [_, _, _, _], _ => rfl), PySem.W.mg_of X G a20⟩
  have T__law_cell_at : Df K mg "_law_cell_at" s_law_cell_at ["script", "k"] f21 _ := ⟨F21, F21.binds (ps := ["script", "k"]) (fun _ _ _ _ _ _ us hl => match us, hl with | [_, _], _ => rfl), PySem.W.mg_of X G a21⟩
  have T__law_stir : Df K mg "_law_stir" s_law_stir ["cell", "k"] f22 _ := ⟨F22, F22.binds (ps := ["cell", "k"]) (fun _ _ _ _ _ _ us hl => match us, hl with | [_, _], _ => rfl), PySem.W.mg_of X G a22⟩
  have T__law_deck : Df K mg "_law_deck" s_law_deck ["cell", "many"] f23 _ := ⟨F23, F23.binds (ps := ["cell", "many"]) (fun _ _ _ _ _ _ us hl => match us, hl with | [_, _], _ => rfl), PySem.W.mg_of X G a23⟩
  have T__law_next : Df K mg "_law_next" s_law_next ["deck"] f24 _ := ⟨F24, F24.binds (ps := ["deck"]) (fun _ _ _ _ _ _ us hl => match us, hl with | [_], _ => rfl), PySem.W.mg_of X G a24⟩
  have T__law_order : Df K mg "_law_order" s_law_order ["deck", "n"] f25 _ := ⟨F25, F25.binds (ps := ["deck", "n"]) (fun _ _ _ _ _ _ us hl => match us, hl with | [_, _], _ => rfl), PySem.W.mg_of X G a25⟩
  have T__law_near : Df K mg "_law_near" s_law_near ["deck", "order"] f26 _ := ⟨F26, F26.binds (ps := ["deck", "order"]) (fun _ _ _ _ _ _ us hl => match us, hl with | [_, _], _ => rfl), PySem.W.mg_of X G a26⟩
  have T__law_free : Df K mg "_law_free" s_law_free ["deck", "way", "n", "d", "held"] f27 _ := ⟨F27, F27.binds (ps := ["deck", "way", "n", "d", "held"]) (fun _ _ _ _ _ _ us hl => match us, hl with | [_, _, _, _, _], _ => rfl), PySem.W.mg_of X G a27⟩
  have T__law_turned : Df K mg "_law_turned" s_law_turned ["orders", "names"] f28 _ := ⟨F28, F28.binds (ps := ["orders", "names"]) (fun _ _ _ _ _ _ us hl => match us, hl with | [_, _], _ => rfl), PySem.W.mg_of X G a28⟩
  have T__law_told_right : Df K mg "_law_told_right" s_law_told_right ["way", "d", "ahead", "order", "told"] f29 _ := ⟨F29, F29.binds (ps := ["way", "d", "ahead", "order", "told"]) (fun _ _ _ _ _ _ us hl => match us, hl with | [_, _, _, _, _], _ => rfl), PySem.W.mg_of X G a29⟩
  have T__law_dropped_right : Df K mg "_law_dropped_right" s_law_dropped_right ["deck", "busy"] f30 _ := ⟨F30, F30.binds (ps := ["deck", "busy"]) (fun _ _ _ _ _ _ us hl => match us, hl with | [_, _], _ => rfl), PySem.W.mg_of X G a30⟩
  have FM0 := fun_mk (st := s_Lister___init__) lm0 cm0 km0
  have T_Lister_init : Dm K C_Lister "__init__" "Lister.__init__" s_Lister___init__ ["self", "way", "n", "d"] fm0 _ := ⟨FM0, FM0.binds (ps := ["self", "way", "n", "d"]) (fun _ _ _ _ _ _ us hl => match us, hl with | [_, _, _, _], _ => rfl), am0, im0⟩
  have FM1 := fun_mk (st := s_Lister_come) lm1 cm1 km1
  have T_Lister_come : Dm K C_Lister "come" "Lister.come" s_Lister_come ["self", "order"] fm1 _ := ⟨FM1, FM1.binds (ps := ["self", "order"]) (fun _ _ _ _ _ _ us hl => match us, hl with | [_, _], _ => rfl), am1, im1⟩
  have FM2 := fun_mk (st := s_Lister_drop) lm2 cm2 km2
  have T_Lister_drop : Dm K C_Lister "drop" "Lister.drop" s_Lister_drop ["self", "order"] fm2 _ := ⟨FM2, FM2.binds (ps := ["self", "order"]) (fun _ _ _ _ _ _ us hl => match us, hl with | [_, _], _ => rfl), am2, im2⟩
  have FM3 := fun_mk (st := s_Lister_change_to) lm3 cm3 km3
  have T_Lister_change_to : Dm K C_Lister "change_to" "Lister.change_to" s_Lister_change_to ["self", "orders"] fm3 _ := ⟨FM3, FM3.binds (ps := ["self", "orders"]) (fun _ _ _ _ _ _ us hl => match us, hl with | [_, _], _ => rfl), am3, im3⟩
  have FM4 := fun_mk (st := s_Lister_undo) lm4 cm4 km4
  have T_Lister_undo : Dm K C_Lister "undo" "Lister.undo" s_Lister_undo ["self"] fm4 _ := ⟨FM4, FM4.binds (ps := ["self"]) (fun _ _ _ _ _ _ us hl => match us, hl with | [_], _ => rfl), am4, im4⟩
  have FM5 := fun_mk (st := s_Lister_orders) lm5 cm5 km5
  have T_Lister_orders : Dm K C_Lister "orders" "Lister.orders" s_Lister_orders ["self"] fm5 _ := ⟨FM5, FM5.binds (ps := ["self"]) (fun _ _ _ _ _ _ us hl => match us, hl with | [_], _ => rfl), am5, im5⟩
  have FM6 := fun_mk (st := s_Lister_least_apart) lm6 cm6 km6
  have T_Lister_least_apart : Dm K C_Lister "least_apart" "Lister.least_apart" s_Lister_least_apart ["self"] fm6 _ := ⟨FM6, FM6.binds (ps := ["self"]) (fun _ _ _ _ _ _ us hl => match us, hl with | [_], _ => rfl), am6, im6⟩
  have T_Lister : TxL K mg C_Lister fm0 := ⟨⟨pgC, hdC, poC, saC⟩, ⟨mkC, am0, im0, kcC⟩, PySem.W.mg_of X G aC_Lister, nf_way, nf_n, nf_d, nf_taken, nf_earlier⟩
  have B : Bi mg := ⟨PySem.W.mg_none_of X G z_ValueError, PySem.W.mg_none_of X G z_abs, PySem.W.mg_none_of X G z_all, PySem.W.mg_none_of X G z_bool, PySem.W.mg_none_of X G z_enumerate, PySem.W.mg_none_of X G z_int, PySem.W.mg_none_of X G z_isinstance, PySem.W.mg_none_of X G z_len, PySem.W.mg_none_of X G z_list, PySem.W.mg_none_of X G z_max, PySem.W.mg_none_of X G z_min, PySem.W.mg_none_of X G z_range, PySem.W.mg_none_of X G z_sorted, PySem.W.mg_none_of X G z_str, PySem.W.mg_none_of X G z_tuple⟩
  have m_WAYS := wy_mk (PySem.W.mg_of X G g_WAYS) l_WAYS
  have m_MOST_THINGS := PySem.W.mg_of X G g_MOST_THINGS
  have m_MOST_ORDERS := PySem.W.mg_of X G g_MOST_ORDERS
  have m_MOST_KEPT := PySem.W.mg_of X G g_MOST_KEPT
  exact ⟨PySem.W.fnOf "law" "law" (defArgs s_law) (defBody s_law) (defScope s_law) .none kV31 dc31 pm31 an31 cd31 ct31, fun s v => .of_eq rfl, fun base _ _ => ok_law F31 T_Lister T_Lister_init T__law_deck T__law_cell_at T__law_next T__law_order T__law_free T__law_told_right T__law_turned T__law_dropped_right T_Lister_come T_Lister_orders T_Lister_undo T_Lister_least_apart (ok_initL (k := 10) T_Lister_init T_Lister T_check_apart (ok_apart (k := 7) T_check_apart T_check_way T_check_size T_check_from T_is_whole m_WAYS B) m_MOST_KEPT) (ok_deckN (k := 10) T__law_deck T__law_stir B) (ok_cell (k := 11) T__law_cell_at B) (ok_next (k := 10) T__law_next T__law_stir B) (ok_orderN (k := 11) T__law_order T__law_next (ok_next (k := 9) T__law_next T__law_stir B) B) (ok_freeL (k := 11) T__law_free T__law_next (ok_next (k := 9) T__law_next T__law_stir B) T__law_order (ok_orderN (k := 10) T__law_order T__law_next (ok_next (k := 8) T__law_next T__law_stir B) B) T__law_near (ok_nearN (k := 10) T__law_near T__law_next (ok_next (k := 8) T__law_next T__law_stir B) B) B) (ok_toldR (k := 11) T__law_told_right T_nearest_of (ok_nearest (k := 10) T_nearest_of T_check_led T_known_far T_those_within (ok_led (k := 9) T_check_led T_check_order T_check_unlike_list T_check_way T_check_fit (ok_check (k := 6) T_check_order T_is_order T_is_whole B m_MOST_THINGS) (ok_cunl (k := 8) T_check_unlike_list T_is_unlike_list (ok_unl (k := 7) T_is_unlike_list T_is_order_list (ok_olst (k := 6) T_is_order_list T_is_order (ok_is_order (k := 4) T_is_order T_is_whole B m_MOST_THINGS) B) B) B m_MOST_ORDERS) (ok_way (k := 8) T_check_way m_WAYS B) (ok_fit (k := 8) T_check_fit B) B) (ok_known (k := 9) T_known_far T_far_by_swap T_far_by_spot T_far_by_shift (ok_swap (k := 8) T_far_by_swap T_seats_in (ok_seats (k := 6) T_seats_in T_places_in B) B) (ok_spot (k := 8) T_far_by_spot B) (ok_shift (k := 8) T_far_by_shift T_seats_in (ok_seats (k := 6) T_seats_in T_places_in B) B)) (ok_those (k := 9) T_those_within T_known_far (ok_known (k := 8) T_known_far T_far_by_swap T_far_by_spot T_far_by_shift (ok_swap (k := 7) T_far_by_swap T_seats_in (ok_seats (k := 5) T_seats_in T_places_in B) B) (ok_spot (k := 7) T_far_by_spot B) (ok_shift (k := 7) T_far_by_shift T_seats_in (ok_seats (k := 5) T_seats_in T_places_in B) B)) B) B) B) (ok_turned (k := 11) T__law_turned B) (ok_dropd (k := 11) T__law_dropped_right T_Lister T__law_next T_Lister_come T_Lister_orders T_Lister_drop T_Lister_undo (ok_next (k := 9) T__law_next T__law_stir B) (ok_comeL (k := 10) T_Lister_come T_Lister T_check_order (ok_check (k := 7) T_check_order T_is_order T_is_whole B m_MOST_THINGS) T_check_many (ok_manyOk (k := 9) T_check_many m_MOST_ORDERS) T_known_far (ok_known (k := 9) T_known_far T_far_by_swap T_far_by_spot T_far_by_shift (ok_swap (k := 8) T_far_by_swap T_seats_in (ok_seats (k := 6) T_seats_in T_places_in B) B) (ok_spot (k := 8) T_far_by_spot B) (ok_shift (k := 8) T_far_by_shift T_seats_in (ok_seats (k := 6) T_seats_in T_places_in B) B)) T_Lister_change_to (ok_changeL (k := 9) T_Lister_change_to T_Lister) B) (ok_ordersL (k := 10) T_Lister_orders T_Lister B) (ok_dropL (k := 10) T_Lister_drop T_Lister T_check_order (ok_check (k := 7) T_check_order T_is_order T_is_whole B m_MOST_THINGS) T_Lister_change_to (ok_changeL (k := 9) T_Lister_change_to T_Lister) B) (ok_undoN (k := 10) T_Lister_undo T_Lister B) B) (ok_comeL (k := 11) T_Lister_come T_Lister T_check_order (ok_check (k := 8) T_check_order T_is_order T_is_whole B m_MOST_THINGS) T_check_many (ok_manyOk (k := 10) T_check_many m_MOST_ORDERS) T_known_far (ok_known (k := 10) T_known_far T_far_by_swap T_far_by_spot T_far_by_shift (ok_swap (k := 9) T_far_by_swap T_seats_in (ok_seats (k := 7) T_seats_in T_places_in B) B) (ok_spot (k := 9) T_far_by_spot B) (ok_shift (k := 9) T_far_by_shift T_seats_in (ok_seats (k := 7) T_seats_in T_places_in B) B)) T_Lister_change_to (ok_changeL (k := 10) T_Lister_change_to T_Lister) B) (ok_ordersL (k := 11) T_Lister_orders T_Lister B) (ok_undoN (k := 11) T_Lister_undo T_Lister B) (ok_leastL (k := 11) T_Lister_least_apart T_Lister T_known_far (ok_known (k := 10) T_known_far T_far_by_swap T_far_by_spot T_far_by_shift (ok_swap (k := 9) T_far_by_swap T_seats_in (ok_seats (k := 7) T_seats_in T_places_in B) B) (ok_spot (k := 9) T_far_by_spot B) (ok_shift (k := 9) T_far_by_shift T_seats_in (ok_seats (k := 7) T_seats_in T_places_in B) B)) B) B⟩
end Fo
open PySem PySem.W PyProof.Rows
set_option maxRecDepth 100000 in
set_option maxHeartbeats 0 in
theorem PySem.Challenge.cw_farorders_k76_whole_listers_otherwise_holds : PySem.Challenge.rw_farorders_k76_whole_listers_otherwise.Holds := by
  w_on; o_law; k_head; (case hw => w_witness2)
  k_fill
  refine L2.walk_of (l := PySem.Challenge.rw_farorders_k76_whole_listers_otherwise) (n := 63) (k := 13) (x := "script") (CX := fun _ => L2.CX0) (sp := fun w => Fo.spLaw _) rfl (by decide) rfl ⟨rfl, by decide, by decide⟩ (fun w h Y => PySem.W.kIn_of Y) ?F (fun _ _ a ns hl _ hS => ⟨a, ns, rfl, hS, hl, fun _ => rfl⟩) (fun _ _ _ _ _ h => h)
  case F =>
    intro w mg fa h KX G hmg
    refine' Fo.all_mk KX G hmg ?a0 ?l0 ?c0 ?k0 ?a1 ?l1 ?c1 ?k1 ?a2 ?l2 ?c2 ?k2 ?a3 ?l3 ?c3 ?k3 ?a4 ?l4 ?c4 ?k4 ?a5 ?l5 ?c5 ?k5 ?a6 ?l6 ?c6 ?k6 ?a7 ?l7 ?c7 ?k7 ?a8 ?l8 ?c8 ?k8 ?a9 ?l9 ?c9 ?k9 ?a10 ?l10 ?c10 ?k10 ?a11 ?l11 ?c11 ?k11 ?a12 ?l12 ?c12 ?k12 ?a13 ?l13 ?c13 ?k13 ?a14 ?l14 ?c14 ?k14 ?a15 ?l15 ?c15 ?k15 ?a16 ?l16 ?c16 ?k16 ?a17 ?l17 ?c17 ?k17 ?a18 ?l18 ?c18 ?k18 ?a19 ?l19 ?c19 ?k19 ?a20 ?l20 ?c20 ?k20 ?a21 ?l21 ?c21 ?k21 ?a22 ?l22 ?c22 ?k22 ?a23 ?l23 ?c23 ?k23 ?a24 ?l24 ?c24 ?k24 ?a25 ?l25 ?c25 ?k25 ?a26 ?l26 ?c26 ?k26 ?a27 ?l27 ?c27 ?k27 ?a28 ?l28 ?c28 ?k28 ?a29 ?l29 ?c29 ?k29 ?a30 ?l30 ?c30 ?k30 ?a31 ?l31 ?c31 ?k31 ?g_MOST_THINGS ?g_MOST_ORDERS ?g_MOST_KEPT ?g_WAYS ?l_WAYS ?aC_Lister ?am0 ?im0 ?lm0 ?cm0 ?km0 ?am1 ?im1 ?lm1 ?cm1 ?km1 ?am2 ?im2 ?lm2 ?cm2 ?km2 ?am3 ?im3 ?lm3 ?cm3 ?km3 ?am4 ?im4 ?lm4 ?cm4 ?km4 ?am5 ?im5 ?lm5 ?cm5 ?km5 ?am6 ?im6 ?lm6 ?cm6 ?km6 ?pgC ?hdC ?poC ?saC ?mkC ?kcC ?nf_way ?nf_n ?nf_d ?nf_taken ?nf_earlier ?z_ValueError ?z_abs ?z_all ?z_bool ?z_enumerate ?z_int ?z_isinstance ?z_len ?z_list ?z_max ?z_min ?z_range ?z_sorted ?z_str ?z_tuple
    (case a0 => k_is); (case l0 => k_is); (case c0 => k_is); (case k0 => k_is); (case a1 => k_is); (case l1 => k_is); (case c1 => k_is); (case k1 => k_is); (case a2 => k_is); (case l2 => k_is); (case c2 => k_is); (case k2 => k_is); (case a3 => k_is); (case l3 => k_is); (case c3 => k_is); (case k3 => k_is); (case a4 => k_is); (case l4 => k_is); (case c4 => k_is); (case k4 => k_is); (case a5 => k_is); (case l5 => k_is); (case c5 => k_is); (case k5 => k_is); (case a6 => k_is); (case l6 => k_is); (case c6 => k_is); (case k6 => k_is); (case a7 => k_is); (case l7 => k_is); (case c7 => k_is); (case k7 => k_is); (case a8 => k_is); (case l8 => k_is); (case c8 => k_is); (case k8 => k_is); (case a9 => k_is); (case l9 => k_is); (case c9 => k_is); (case k9 => k_is); (case a10 => k_is); (case l10 => k_is); (case c10 => k_is); (case k10 => k_is); (case a11 => k_is); (case l11 => k_is); (case c11 => k_is); (case k11 => k_is); (case a12 => k_is); (case l12 => k_is); (case c12 => k_is); (case k12 => k_is); (case a13 => k_is); (case l13 => k_is); (case c13 => k_is); (case k13 => k_is); (case a14 => k_is); (case l14 => k_is); (case c14 => k_is); (case k14 => k_is); (case a15 => k_is); (case l15 => k_is); (case c15 => k_is); (case k15 => k_is); (case a16 => k_is); (case l16 => k_is); (case c16 => k_is); (case k16 => k_is); (case a17 => k_is); (case l17 => k_is); (case c17 => k_is); (case k17 => k_is); (case a18 => k_is); (case l18 => k_is); (case c18 => k_is); (case k18 => k_is); (case a19 => k_is); (case l19 => k_is); (case c19 => k_is); (case k19 => k_is); (case a20 => k_is); (case l20 => k_is); (case c20 => k_is); (case k20 => k_is); (case a21 => k_is); (case l21 => k_is); (case c21 => k_is); (case k21 => k_is); (case a22 => k_is); (case l22 => k_is); (case c22 => k_is); (case k22 => k_is); (case a23 => k_is); (case l23 => k_is); (case c23 => k_is); (case k23 => k_is); (case a24 => k_is); (case l24 => k_is); (case c24 => k_is); (case k24 => k_is); (case a25 => k_is); (case l25 => k_is); (case c25 => k_is); (case k25 => k_is); (case a26 => k_is); (case l26 => k_is); (case c26 => k_is); (case k26 => k_is); (case a27 => k_is); (case l27 => k_is); (case c27 => k_is); (case k27 => k_is); (case a28 => k_is); (case l28 => k_is); (case c28 => k_is); (case k28 => k_is); (case a29 => k_is); (case l29 => k_is); (case c29 => k_is); (case k29 => k_is); (case a30 => k_is); (case l30 => k_is); (case c30 => k_is); (case k30 => k_is); (case a31 => k_is); (case l31 => k_is); (case c31 => k_is); (case k31 => k_is); (case g_MOST_THINGS => k_is); (case g_MOST_ORDERS => k_is); (case g_MOST_KEPT => k_is); (case g_WAYS => k_is); (case l_WAYS => k_is); (case aC_Lister => k_is); (case am0 => k_is); (case im0 => k_is); (case lm0 => k_is); (case cm0 => k_is); (case km0 => k_is); (case am1 => k_is); (case im1 => k_is); (case lm1 => k_is); (case cm1 => k_is); (case km1 => k_is); (case am2 => k_is); (case im2 => k_is); (case lm2 => k_is); (case cm2 => k_is); (case km2 => k_is); (case am3 => k_is); (case im3 => k_is); (case lm3 => k_is); (case cm3 => k_is); (case km3 => k_is); (case am4 => k_is); (case im4 => k_is); (case lm4 => k_is); (case cm4 => k_is); (case km4 => k_is); (case am5 => k_is); (case im5 => k_is); (case lm5 => k_is); (case cm5 => k_is); (case km5 => k_is); (case am6 => k_is); (case im6 => k_is); (case lm6 => k_is); (case cm6 => k_is); (case km6 => k_is); (case pgC => k_is); (case hdC => k_is); (case poC => k_is); (case saC => k_is); (case mkC => k_is); (case kcC => k_is); (case nf_way => k_is); (case nf_n => k_is); (case nf_d => k_is); (case nf_taken => k_is); (case nf_earlier => k_is); (case z_ValueError => k_is); (case z_abs => k_is); (case z_all => k_is); (case z_bool => k_is); (case z_enumerate => k_is); (case z_int => k_is); (case z_isinstance => k_is); (case z_len => k_is); (case z_list => k_is); (case z_max => k_is); (case z_min => k_is); (case z_range => k_is); (case z_sorted => k_is); (case z_str => k_is); (case z_tuple => k_is)

