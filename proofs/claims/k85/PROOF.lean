import PyProof.Rows.All
import Wide.All
import OpenK.AllK
import Wide.FinOn
import HandS.ForMost
import HandS.IsInst
import HandS.Conv
import HandS.Style
import HandS.More
import HandS.Evl
import HandS.Zip
import HandS.SetFor
import HandS.Sort
import HandS.Wide
import HandS.Deep
import KE.SortData
import PyProof.ReprRoads
import HandS.Exc
import HandS.ExcIs
import HandS.ExcValue
import HandS.Small
import HandS.WordsExc
import KE.KDictZip
import HandS.Text
import HandS.FStr
import HandS.SortKw
import KE.DatumOrd
import HandS.SetBool
import HandS.RaiseMore
import HandS.Comp
import KE.GoesRaise
import HandS.TupSets
import PyProof.SetRoads
import HandS.GenList
import HandS.AnyAll
import HandS.EndTab
import HandS.CallLocal
import KE.KUnpackStar
import HandS.ExcOwn
import HandS.ReplaceLit
import KE.DataFind
import HandS.TryOnly
import HandS.Walk
import HandS.Steps
import HandS.More
import PySem.Challenge.RW_farorders_k85_refused_in_order
set_option Elab.async false
set_option linter.all false
set_option maxRecDepth 100000
namespace Fo
open PySem PySem.Spec PyProof.Rows L2
/-! ### lists and orders -/
def rg (n : Nat) : List Int := (List.range n).map fun k => ((k : Nat) : Int)
def IsOrd (n : Nat) (ns : List Int) : Prop := ns.Perm (rg n)
theorem rg_len (n : Nat) : (rg n).length = n := by
  unfold rg
  rw [List.length_map, List.length_range]
theorem rg_mem {n : Nat} {x : Int} : x ∈ rg n ↔ 0 ≤ x ∧ x < n := by
  unfold rg
  rw [List.mem_map]
  constructor
  · rintro ⟨k, hk, rfl⟩
    have := List.mem_range.mp hk
    omega
  · rintro ⟨h0, h1⟩
    exact ⟨x.toNat, List.mem_range.mpr (by omega), by omega⟩
theorem rg_nodup (n : Nat) : (rg n).Nodup := by
  unfold rg
  exact List.Pairwise.map _ (fun a b h e => h (by omega)) List.nodup_range
theorem rg_sorted (n : Nat) : (rg n).Pairwise (· ≤ ·) := by
  unfold rg
  exact List.Pairwise.map _ (fun a b h => by omega) List.pairwise_lt_range
theorem rg_V (n : Nat) : rgV 0 (n : Int) = (rg n).map V.int := by
  unfold rgV rg
  rw [List.map_map, show ((n : Int) - 0).toNat = n by omega]
  apply List.map_congr_left
  intro a _
  show V.int (0 + (a : Int)) = V.int (a : Int)
  rw [Int.zero_add]
theorem IsOrd.len {n : Nat} {ns : List Int} (h : IsOrd n ns) : ns.length = n := (List.Perm.length_eq h).trans (rg_len n)
theorem IsOrd.mem {n : Nat} {ns : List Int} (h : IsOrd n ns) {x : Int} (m : x ∈ ns) : 0 ≤ x ∧ x < n := rg_mem.mp ((List.Perm.mem_iff h).mp m)
theorem IsOrd.nodup {n : Nat} {ns : List Int} (h : IsOrd n ns) : ns.Nodup := (List.Perm.nodup_iff h).mpr (rg_nodup n)
/-- two sorted lists of the same things are one -/
theorem sorted_eq : ∀ {a b : List Int}, a.Perm b → a.Pairwise (· ≤ ·) → b.Pairwise (· ≤ ·) → a = b := by
  intro a b hp ha hb
  exact List.Perm.eq_of_pairwise (fun x y _ _ h1 h2 => by omega) ha hb hp
/-- the things at p and p + 1 change places -/
def sw (xs : List Int) (p : Nat) : List Int := (xs.set p (xs.getD (p + 1) 0)).set (p + 1) (xs.getD p 0)
theorem int_at {ns : List Int} {i : Nat} {x : Int} (h : ns[i]? = some x) : (ns.map V.int)[i]? = some (V.int x) := by
  rw [List.getElem?_map, h]
  rfl
theorem int_at_inv {ns : List Int} {i : Nat} {v : V} (h : (ns.map V.int)[i]? = some v) : ∃ x, ns[i]? = some x ∧ v = V.int x := by
  rw [List.getElem?_map] at h
  cases e : ns[i]? with
  | none => rw [e] at h; cases h
  | some x => rw [e] at h; exact ⟨x, rfl, (Option.some.inj h).symm⟩
theorem line_small {n : Nat} (h : n ≤ 16777216) : n ≤ sizeLine := by rw [sizeLine_eq]; exact h
theorem line_lt {n : Nat} (h : n < 16777216) : n < sizeLine := by rw [sizeLine_eq]; exact h
/-! ### data of ints -/
theorem dp_ints {K : PySem.W.Frag} {H : Hp} : ∀ ns : List Int, DpAll K H (ns.map V.int) (ns.map PyData.int)
  | [] => .nil
  | n :: r => .cons (.int n) (dp_ints r)
theorem dp_list {K : PySem.W.Frag} {H : Hp} {a : Addr} {ns : List Int} (h : H a = some (.lst (ns.map V.int))) : Dp K H (.ref a) (.list (ns.map PyData.int)) := .lst (SqL.of h) (dp_ints ns)
end Fo
namespace Fo
open PySem PySem.Spec PyProof.Rows L2
abbrev dI (ns : List Int) : List PyData := ns.map PyData.int
abbrev dL (ns : List Int) : PyData := .list (dI ns)
abbrev dLL (l : List (List Int)) : PyData := .list (l.map dL)
theorem lay_ints : ∀ ns : List Int, PyData.canLayAll0 (dI ns) = true
  | [] => rfl
  | n :: r => by
    show (PyData.canLay0 (.int n) && PyData.canLayAll0 (dI r)) = true
    rw [lay_ints r]
    rfl
theorem depth_ints : ∀ ns : List Int, PyData.depthAll (dI ns) = 0
  | [] => by simp [PyData.depthAll]
  | n :: r => by
    show PyData.depthAll (.int n :: dI r) = 0
    rw [PyData.depthAll, depth_ints r]
    simp [PyData.depth]
theorem lay_list (ns : List Int) : PyData.canLay0 (dL ns) = true := by
  rw [PyData.canLay0]
  exact lay_ints ns
theorem depth_list (ns : List Int) : PyData.depth (dL ns) = 1 := by
  rw [PyData.depth, depth_ints]
theorem shaped_list (ns : List Int) : SeqAt.shaped (dL ns) = true := by
  unfold SeqAt.shaped
  rw [lay_list, depth_list]
  rfl
theorem lay_lists : ∀ l : List (List Int), PyData.canLayAll0 (l.map dL) = true
  | [] => rfl
  | n :: r => by
    show (PyData.canLay0 (dL n) && PyData.canLayAll0 (r.map dL)) = true
    rw [lay_lists r, lay_list]
    rfl
theorem depth_lists : ∀ l : List (List Int), PyData.depthAll (l.map dL) ≤ 1
  | [] => by simp [PyData.depthAll]
  | n :: r => by
    show PyData.depthAll (dL n :: r.map dL) ≤ 1
    rw [PyData.depthAll, depth_list]
    have := depth_lists r
    omega
theorem shaped_lists (l : List (List Int)) : SeqAt.shaped (dLL l) = true := by
  unfold SeqAt.shaped
  rw [Bool.and_eq_true_iff]
  constructor
  · rw [PyData.canLay0]
    exact lay_lists l
  · apply decide_eq_true
    rw [PyData.depth]
    have := depth_lists l
    omega
theorem eqv_list (ns : List Int) : PyData.eqv (dL ns) (dL ns) = true := SeqAt.eqv_refl _ (lay_list ns)
theorem eqvAll_ints : ∀ a b : List Int, PyData.eqvAll (dI a) (dI b) = decide (a = b)
  | [], [] => by simp [PyData.eqvAll]
  | [], _ :: _ => by simp [PyData.eqvAll]
  | _ :: _, [] => by simp [PyData.eqvAll]
  | x :: a, y :: b => by
    show PyData.eqvAll (.int x :: dI a) (.int y :: dI b) = _
    rw [PyData.eqvAll, eqvAll_ints a b]
    show ((x == y) && decide (a = b)) = decide (x :: a = y :: b)
    by_cases h : x = y
    · subst h
      simp
    · simp [h]
theorem eqv_ints (a b : List Int) : PyData.eqv (dL a) (dL b) = decide (a = b) := by
  rw [PyData.eqv]
  exact eqvAll_ints a b
end Fo
namespace Fo
open PySem PySem.Spec PyProof.Rows L2
/-! ### slices of ints -/
def cutI (ws : List Int) (lo hi : Option Int) : List Int := (ws.drop (HT.sIx ws.length 0 lo)).take (HT.sIx ws.length ws.length hi - HT.sIx ws.length 0 lo)
theorem cut_ints (ws : List Int) (lo hi : Option Int) : cutV (ws.map V.int) lo hi = (cutI ws lo hi).map V.int := by
  unfold cutV cutI
  rw [List.length_map, List.map_take, List.map_drop]
theorem cutI_tail (ws : List Int) (k : Nat) : cutI ws (some (k : Int)) none = ws.drop k := by
  unfold cutI
  rw [HT.sIx_none, HT.sIx_nat]
  by_cases h : k ≤ ws.length
  · rw [Nat.min_eq_left h, List.take_of_length_le (by rw [List.length_drop]; exact Nat.le_refl _)]
  · rw [Nat.min_eq_right (by omega), List.drop_of_length_le (Nat.le_refl _), List.drop_of_length_le (by omega), List.take_nil]
end Fo
namespace Fo
open PySem PySem.Spec PyProof.Rows L2
/-! ### the text -/
def topS (i : Nat) : Stmt := PySem.Challenge.pw_farorders_k85_refused_in_order.main.body.getD i (.Pass ⟨0, 0, 0, 0⟩)
abbrev s_is_whole : Stmt := topS 13
abbrev s_check_way : Stmt := topS 14
abbrev s_check_from : Stmt := topS 15
abbrev s_check_size : Stmt := topS 16
abbrev s_check_few : Stmt := topS 17
abbrev s_check_apart : Stmt := topS 18
abbrev s_is_order : Stmt := topS 23
abbrev s_check_order : Stmt := topS 24
abbrev s_check_fit : Stmt := topS 25
abbrev s_check_listed : Stmt := topS 26
abbrev s_is_order_list : Stmt := topS 27
abbrev s_is_unlike_list : Stmt := topS 28
abbrev s_places_in : Stmt := topS 29
abbrev s_seats_in : Stmt := topS 30
abbrev s_known_far : Stmt := topS 31
abbrev s_far_by_swap : Stmt := topS 32
abbrev s_far_by_spot : Stmt := topS 33
abbrev s_far_by_shift : Stmt := topS 34
abbrev s_all_orders : Stmt := topS 35
abbrev s_orders_with : Stmt := topS 36
abbrev s_count_orders : Stmt := topS 37
abbrev s_is_far : Stmt := topS 39
abbrev s_known_within : Stmt := topS 41
abbrev s_swap_counts : Stmt := topS 42
abbrev s_swap_counts_with_one_more : Stmt := topS 43
abbrev s_spot_counts : Stmt := topS 44
abbrev s_count_all_moved : Stmt := topS 45
abbrev s_shift_within : Stmt := topS 46
abbrev s_things_near : Stmt := topS 47
abbrev s_one_place_further : Stmt := topS 48
abbrev s_bounds_by_rounds : Stmt := topS 50
abbrev s_check_many : Stmt := topS 52
abbrev s_Lister___init__ : Stmt := inClass (topS 55) 0
abbrev s_Lister_come : Stmt := inClass (topS 55) 1
abbrev s_Lister_drop : Stmt := inClass (topS 55) 2
abbrev s_Lister_change_to : Stmt := inClass (topS 55) 3
abbrev s_Lister_undo : Stmt := inClass (topS 55) 4
abbrev s_Lister_orders : Stmt := inClass (topS 55) 5
abbrev s_Lister_least_apart : Stmt := inClass (topS 55) 6
abbrev s_Lister_first_more : Stmt := inClass (topS 55) 7
abbrev s_Lister_how_many_more : Stmt := inClass (topS 55) 8
abbrev s_check_poll : Stmt := topS 59
abbrev s_known_sum : Stmt := topS 60
abbrev s_middle_of : Stmt := topS 61
abbrev s_middle_by_all : Stmt := topS 62
abbrev s_middle_by_pairs : Stmt := topS 63
abbrev s_best_first : Stmt := topS 64
abbrev s_least_sums : Stmt := topS 65
abbrev s_sum_with_first : Stmt := topS 66
abbrev s_things_in : Stmt := topS 67
abbrev s_counts_ahead : Stmt := topS 68
abbrev s_nearest_of : Stmt := topS 70
abbrev s_check_led : Stmt := topS 71
abbrev s_check_unlike_list : Stmt := topS 72
abbrev s_those_within : Stmt := topS 73
abbrev s_not_sure : Stmt := topS 74
abbrev s_check_sure : Stmt := topS 75
abbrev s_show_order : Stmt := topS 78
abbrev s_written : Stmt := topS 79
abbrev s_show_orders : Stmt := topS 80
abbrev s_read_order : Stmt := topS 81
abbrev s_check_text : Stmt := topS 82
abbrev s_number_in : Stmt := topS 83
abbrev s_undo_last : Stmt := topS 88
abbrev s_tell_list : Stmt := topS 89
abbrev s_tell_apart : Stmt := topS 90
abbrev s_tell_room : Stmt := topS 91
abbrev s_tell_first : Stmt := topS 92
abbrev s_tell_bounds : Stmt := topS 93
abbrev s_tell_middle : Stmt := topS 94
abbrev s_let_come : Stmt := topS 95
abbrev s_let_drop : Stmt := topS 96
abbrev s_tell_near : Stmt := topS 97
abbrev s_tell_sure : Stmt := topS 98
abbrev s_read_number : Stmt := topS 101
abbrev s_Desk___init__ : Stmt := inClass (topS 102) 0
abbrev s_Desk_say : Stmt := inClass (topS 102) 1
abbrev s_Desk_say_with_numbers : Stmt := inClass (topS 102) 2
abbrev s_law_pool : Stmt := topS 104
abbrev s_law_draw : Stmt := topS 105
abbrev s_law_order : Stmt := topS 106
abbrev s_law_far : Stmt := topS 108
abbrev s_law_written : Stmt := topS 109
abbrev s_law_list_written : Stmt := topS 110
abbrev s_law_said : Stmt := topS 111
abbrev s_law_no_row : Stmt := topS 112
abbrev s_law_no_way : Stmt := topS 113
abbrev s_law_no_number : Stmt := topS 114
abbrev s_law_no_text : Stmt := topS 115
abbrev s_law_else : Stmt := topS 116
abbrev s_law_all_of_four : Stmt := topS 117
abbrev s_law_made : Stmt := topS 118
abbrev s_law_stands : Stmt := topS 119
abbrev s_law_goes_on : Stmt := topS 120
abbrev s_law : Stmt := topS 121
/-- a def of the text, where it stands -/
structure Df (K : PySem.W.Frag) (mg : Str → Option Value) (x : Str) (st : Stmt) (ps : List Str) (f : Addr) (fd : FuncData) : Prop where
  F : Fun K x x st f fd
  b : Binds K fd ps []
  g : mg x = some (.ref f)
/-- the built-in names as they were -/
structure Bi (mg : Str → Option Value) : Prop where
  ValueError : mg "ValueError" = none
  abs : mg "abs" = none
  all : mg "all" = none
  bool : mg "bool" = none
  enumerate : mg "enumerate" = none
  int : mg "int" = none
  isinstance : mg "isinstance" = none
  len : mg "len" = none
  list : mg "list" = none
  max : mg "max" = none
  min : mg "min" = none
  range : mg "range" = none
  sorted : mg "sorted" = none
  str : mg "str" = none
  sum : mg "sum" = none
  tuple : mg "tuple" = none
  zip : mg "zip" = none
end Fo
namespace Fo
open PySem PySem.Spec PyProof.Rows L2
theorem same_new {H : Hp} {p : Addr} {o : HO} (h : H p = none) : Same H (upd H p o) := fun b x e => by
  rw [upd_ne (ne_of_none e h)]
  exact e
end Fo
namespace Fo
open PySem PySem.Spec PyProof.Rows L2
theorem pop_perm : ∀ {xs : List Int} {k : Nat} {y : Int}, xs[k]? = some y → (y :: xs.eraseIdx k).Perm xs
  | [], k, y, h => by simp at h
  | a :: r, 0, y, h => by
    have e : a = y := Option.some.inj h
    subst e
    exact List.Perm.refl _
  | a :: r, k + 1, y, h => by
    have ih := pop_perm (xs := r) (k := k) (y := y) h
    show (y :: a :: r.eraseIdx k).Perm (a :: r)
    exact (List.Perm.swap a y _).trans (List.Perm.cons a ih)
theorem map_erase : ∀ (xs : List Int) (k : Nat), (xs.map V.int).eraseIdx k = (xs.eraseIdx k).map V.int
  | [], k => rfl
  | a :: r, 0 => rfl
  | a :: r, k + 1 => congrArg (V.int a :: ·) (map_erase r k)
/-- what len asks of a list or a tuple -/
abbrev rLenS (K : PySem.W.Frag) : List V → Hp → VK → Prop := fun xs H Q => ∃ p ys, xs = [.ref p] ∧ (SqL K H p ys ∨ SqT K H p ys) ∧ Q (.int ys.length) H
theorem seq_ix {i : Int} {k n : Nat} (e : i = (k : Int)) (h : k < n) : seqIndex? i n = some k := by
  subst e
  unfold seqIndex?
  have h1 : ¬ ((k : Int) < 0) := by omega
  simp only [h1, if_false]
  have h2 : (decide ((0 : Int) ≤ (k : Int)) && decide ((k : Int) < (n : Int))) = true := by
    simp
    omega
  rw [if_pos h2, Int.toNat_natCast]
theorem ix_n {i : Int} {k n : Nat} (e : i = (k : Int)) (h : k < n) : ixN n i = some k := by
  subst e
  unfold ixN
  rw [if_pos (by omega), if_pos (by omega), Int.toNat_natCast]
end Fo
namespace Fo
open PySem PySem.Spec PyProof.Rows L2
theorem filter_more {l : List Int} {m : Nat} {x : Int} (p : Int → Bool) (h : l[m]? = some x) : (l.take (m + 1)).filter p = (l.take m).filter p ++ (if p x then [x] else []) := by
  rw [List.take_add_one, h, List.filter_append]
  show _ ++ List.filter p [x] = _
  rw [List.filter_cons]
  rfl
end Fo
namespace Fo
open PySem PySem.Spec PyProof.Rows L2
/-- what is tracked lies elsewhere than the table of modules -/
def SysAt (base : Heap) : Prop := ∃ o, base.get? sysModules = some o
/-! defs that ask repr: they want to know that no other repr is under way (A.guards) -/
/-! the end of such a law -/
end Fo
namespace Fo
open PySem PySem.Spec PyProof.Rows L2
/-! an error that was caught is known behind the try, too -/
def ExV (cls : Value) (d : Option Addr) (a : Addr) : HO := .ext fun h => ∃ oe : Obj, h.get? a = some oe ∧ Zc cls d oe ∧ ∃ vs, oe.data = .fields vs
theorem exV_ok {P : Program} {w : World} {H : Hp} {h : Heap} {a : Addr} {cls : Value} {d : Option Addr} {oe : Obj} (e : h.get? a = some oe) (z : Zc cls d oe) (f : ∃ vs, oe.data = .fields vs) : ObjOk P w H h a (ExV cls d a) :=
  ⟨⟨oe, e, z, f⟩, ⟨oe, e⟩, fun _ _ ⟨o, q, r⟩ k => ⟨o, k o q, r⟩⟩
theorem inv_track {X : Cx} {pins : List (Addr × Obj)} {σ : L2.St} {H : Hp} {s : Shared} {a : Addr} {o : HO} (I : Inv X pins σ H s) (na : H a = none) (n0 : X.s_0.heap.get? a = none) (nL : a ≠ X.env.locals) (nC : ∀ x c, X.env.cells.lookup x = some c → c ≠ a) (nP : ∀ p ∈ X.pn ++ pins, p.1 ≠ a) (new : ObjOk X.prog X.w (upd H a o) s.heap a o) :
    Inv X pins σ (upd H a o) s := by
  have n1 : ∀ b u, X.s_0.heap.get? b = some u → b ≠ a := fun b u e z => by rw [z, n0] at e; cases e
  refine ⟨I.ok, I.os, I.bare, ⟨I.base.keep, I.base.slot, fun b u e n hq => ?_, I.base.there, fun b xs e => ?_, fun b u xs e => ?_, fun b ps e => ?_⟩, I.loc, I.cell, ?_, fun x c e => ?_, fun p hp => ?_, I.hok.laidN (fun _ _ e => e) na new, I.len⟩
  · rw [upd_ne (n1 b u e)]
    exact I.base.free b u e n hq
  · have q := I.base.tups b xs e
    rw [upd_ne (ne_of_none q na)]
    exact q
  · have q := I.base.frzs b u xs e
    rw [upd_ne (ne_of_none q na)]
    exact q
  · obtain ⟨m, q⟩ := I.base.tbls b ps e
    exact ⟨m, by rw [upd_ne (ne_of_none q na)]; exact q⟩
  · rw [upd_ne (Ne.symm nL)]
    exact I.free
  · rw [upd_ne (nC x c e)]
    exact I.freeC x c e
  · obtain ⟨e, n, ne, nf, d⟩ := I.pin p hp
    exact ⟨e, by rw [upd_ne (nP p hp)]; exact n, ne, nf, d⟩
/-- what an «except x as n» wishes, the error known behind it -/
def wAsK (K : PySem.W.Frag) (c : Value) (i : Nat) (ts : Addr → Value → Option Addr → TS) (Wout : WX) (D : Ends) : WX := fun cls d σ H =>
  ∃ b, PySem.W.exmOne K cls c = some b ∧ (b = true → ∀ a, H a = none → ts a cls d ⟨fun σ' H' => D.nx (σ'.set i none) (upd H' a (ExV cls d a)), fun v H' => D.rt v (upd H' a (ExV cls d a)), fun σ' H' => D.bk (σ'.set i none) (upd H' a (ExV cls d a)), fun σ' H' => D.ct (σ'.set i none) (upd H' a (ExV cls d a))⟩ (σ.set i (some (.ref a))) H) ∧ (b = false → Wout cls d σ H)
section
variable {X : Cx} {x n : Str} {c : Value} {i : Nat} {body suite : List Stmt} {b₀ : Stmt} {np pos pos' : Pos} {tb : WX → TS} {ts : Addr → Value → Option Addr → TS} {Wout : WX}
theorem ps_try_k (hs : X.stack = X.env :: X.outer) (hf : X.env.frame = some X.env.locals) (hex : X.ex = []) (hN : X.N.Nodup) (hi : X.N[i]? = some n) (hln : X.env.kindOf n = some .local) (hc : Names X x c) (tk : Takes X Wout)
    (hb : ∀ (W : WX) (pn : List (Addr × Obj)) (xe : Value → Shared → Prop), Takes (X.tr pn xe) W → PassesOwn (model X.prog X.w) X.A X.env xe → PSs (X.tr pn xe) body (tb W)) (hsu : ∀ (a : Addr) (oe : Obj) (cls : Value) (d : Option Addr) (pn : List (Addr × Obj)), Zc cls d oe → (∃ vs, oe.data = .fields vs) → PSs (X.suite a ((a, oe) :: pn)) (b₀ :: suite) (ts a cls d)) : PS X (.Try body [.ExceptHandler (some (.Name x np)) (some n) (b₀ :: suite) pos'] [] [] pos) (fun D σ H => tb (wAsK X.K c i ts Wout D) D σ H) := by
  refine ⟨fun pins s σ H D I hw => ?_⟩
  have okX := I.ok
  have frX : X.A.frames = some (X.env :: X.outer) := by rw [okX.frames, hs]
  have lcN : Loc X.env.scope n := .inl hln
  refine wpAny_Try_except (wpAny_mono ((hb (wAsK X.K c i ts Wout D) (X.pn ++ pins) (fun e s₁ => wpAny (model X.prog X.w) X.A (noteFrame e X.env) (fun _ s₂ => wpAny (model X.prog X.w) X.A (setFlight e none) (fun _ s₃ => wpAny (model X.prog X.w) X.A (handleBy e X.env [.ExceptHandler (some (.Name x np)) (some n) (b₀ :: suite) pos']) (SP X pins D) X.xe s₃) X.xe s₂) X.xe s₁) (fun u s' xx => ?_) PassesOwn.looking).run [] s σ H D (I.toTry _) hw) (fun fl s1 hsp => ?_) (fun _ _ he => he))
  · obtain ⟨a, Bg, sI, pins', σ', H', cls, d, rfl, J', nb, up, sky, na, os, ag, b, hb1, hyes, hno⟩ := xx
    have Ja : Inv X pins σ' H' sI := J'.ofTry okX
    have skyE : Sky Bg (X.env :: X.outer) a (Zc cls d) X.env.locals s'.heap := by rw [← hs]; exact sky
    show wpAny (model X.prog X.w) X.A (noteFrame (.ref a) X.env) _ _ _
    refine Sky.land Zc.steady frX hf skyE fun h3 fl3 up3 => ?_
    have Jb : Inv X pins σ' H' { s' with heap := h3 } := Ja.landed nb fl3.1 (up.trans up3) os ag
    obtain ⟨oe3, vs3, he3, hz3, hd3⟩ := fl3.there
    have nfr : a ∉ frs (X.env :: X.outer) := fun hm => by
      obtain ⟨_, o', e', hnf⟩ := fl3.2.2.1.mem hm
      rw [he3] at e'
      cases e'
      exact hnf _ hd3
    have nL : a ≠ X.env.locals := fun z => nfr (List.mem_filterMap.mpr ⟨X.env, List.mem_cons_self, by rw [hf, z]⟩)
    have nF : a ∉ X.fs := fun hm => by
      obtain ⟨e, hem, q⟩ := List.mem_filterMap.mp hm
      exact nfr (List.mem_filterMap.mpr ⟨e, List.mem_cons_of_mem _ hem, q⟩)
    have nB : Bg.get? a = none := fl3.2.1
    have n0 : X.s_0.heap.get? a = none := by
      cases e : X.s_0.heap.get? a with
      | none => rfl
      | some o =>
        obtain ⟨o', q⟩ := Ja.base.there a o e (by rw [hex]; exact fun z => nomatch z)
        have z := nb a o' q (by rw [hs]; exact nfr)
        rw [nB] at z
        cases z
    have nP : ∀ p ∈ X.pn ++ pins, p.1 ≠ a := fun p hp z => by
      obtain ⟨e, _, ne, nf, _⟩ := Ja.pin p hp
      have q := nb p.1 p.2 e (fun hm => by
        rcases List.mem_cons.mp (Ja.stkSub p.1 hm) with y | y
        · exact ne y
        · exact nf y)
      rw [z, nB] at q
      cases q
    have Sb := Jb.suite he3 hd3 na nL nF
    refine wpAny_handleBy_cons (codeAny_handlers_test ?_) (by intro q; cases q)
    have tyA : PySem.W.Looks (model X.prog X.w) h3 (typeOf (.ref a)) cls := fun A Q E s k q => wpAny_typeOf_ref (k _ _ he3) (by rw [hz3.1]; exact q)
    have exA := PySem.W.exm_one (M := model X.prog X.w) (Jb.kIn) tyA hb1
    have nameA : ∀ {Q : Value → Shared → Prop} {E : Value → Shared → Prop}, Q c { s' with heap := h3 } → wpAny (model X.prog X.w) (X.A.mark (some (.ref a))) (eval (.Name x np) X.env) Q E { s' with heap := h3 } := fun {Q E} q => by
      rcases hc with ⟨hg, hdbg, hm | ⟨hm, hv, hnn⟩⟩
      · exact ld_glob (X := X.suite a ((a, oe3) :: (X.pn ++ pins))) Sb hg hm q hdbg
      · exact ld_blt (X := X.suite a ((a, oe3) :: (X.pn ++ pins))) Sb hg hm hv q hnn hdbg
    refine nameA (exA.here ?_)
    cases b with
    | false =>
      show wpAny _ X.A (handleBy (.ref a) X.env []) _ _ _
      refine wpAny_handleBy_nil ?_
      obtain ⟨k1, k2, k3, oe, vs, T, oT, ts', he, hz, hd, h1, hr⟩ := id fl3
      unfold PySem.passOn
      refine wpAny_bind (wpAny_field he hd h1 ?_)
      rw [if_neg (show ¬ ((Value.ref T == Value.none) = true) from by simp)]
      have out : wpAny (model X.prog X.w) X.A (setFlight (.ref a) X.env.frame) (fun _ s4 => wpAny (model X.prog X.w) X.A (throw (.ref a) : Sem Flow) (SP X pins D) X.xe s4) X.xe { s' with heap := h3 } := by
        rw [hf]
        exact HandSPX.setFlight_upZ fl3 fun h4 hh4 up4 => wpAny_throw (tk _ _ ⟨a, Bg, sI, pins, σ', H', cls, d, rfl, Ja, nb, (up.trans up3).trans up4, .inr (.inr (by rw [hs]; exact hh4)), na, os, ag, hno rfl⟩)
      first
        | exact wpAny_bind (wpAny_pure (wpAny_bind out))
        | exact wpAny_bind out
    | true =>
      refine codeAny_handlers_suite_as (HandSPX.lands_againZ fl3 fun h4 fl4 up4 => ?_)
      have Jc : Inv X pins σ' H' { s' with heap := h4 } := Ja.landed nb fl4.1 ((up.trans up3).trans up4) os ag
      obtain ⟨oe4, vs4, he4, hz4, hd4⟩ := fl4.there
      have Sc := Jc.suite he4 hd4 na nL nF
      refine store_ok (X := X.suite a ((a, oe4) :: (X.pn ++ pins))) (v := .ref a) Sc hN hi lcN rfl (fun s5 S5 => ?_) (.inr hln)
      refine wpAny_mono ((hsu a oe4 cls d (X.pn ++ pins) hz4 ⟨_, hd4⟩).run [] s5 _ H' _ S5 (hyes rfl a na)) (fun fl s6 hsp => ?_) (fun _ _ z => False.elim z)
      have fin : ∀ {σ6 : L2.St} {H6 : Hp} {Q : Shared → Prop}, Inv (X.suite a ((a, oe4) :: (X.pn ++ pins))) [] σ6 H6 s6 → (∀ s7, Inv X pins (σ6.set i none) (upd H6 a (ExV cls d a)) s7 → Q s7) → wpAny (model X.prog X.w) X.A (do bindName X.env n .none; unbindBehindTheSuite X.env n pos') (fun _ s7 => Q s7) X.xe s6 := fun {σ6 H6 Q} S6 hq =>
        gone_ok (X := X.suite a ((a, oe4) :: (X.pn ++ pins))) S6 hN hi hln fun s7 S7 => by
          obtain ⟨g7, n7, _, _, _⟩ := S7.pin (a, oe4) (List.mem_append.mpr (.inl List.mem_cons_self))
          have U7 : Inv X pins (σ6.set i none) H6 s7 := S7.unsuite okX
          refine hq s7 (inv_track U7 n7 n0 nL (fun y cc e z => ?_) nP (exV_ok g7 hz4 ⟨_, hd4⟩))
          obtain ⟨v, o, ho, hdo⟩ := U7.cell y cc e
          rw [z, show s7.heap.get? a = some oe4 from g7] at ho
          cases ho
          rw [hd4] at hdo
          cases hdo
      cases fl with
      | next => obtain ⟨σ6, H6, S6, q6⟩ := hsp; exact fin S6 fun s7 J7 => ⟨_, _, J7, q6⟩
      | brk => obtain ⟨σ6, H6, S6, q6⟩ := hsp; exact fin S6 fun s7 J7 => ⟨_, _, J7, q6⟩
      | cont => obtain ⟨σ6, H6, S6, q6⟩ := hsp; exact fin S6 fun s7 J7 => ⟨_, _, J7, q6⟩
      | ret u => obtain ⟨v6, σ6, H6, S6, r6, q6⟩ := hsp; exact fin S6 fun s7 J7 => ⟨_, _, _, J7, r6, q6⟩
  · cases fl with
    | next => obtain ⟨σ', H', J', q⟩ := hsp; exact wpAny_execs_nil ⟨σ', H', J'.ofTry okX, q⟩
    | brk => obtain ⟨σ', H', J', q⟩ := hsp; exact ⟨σ', H', J'.ofTry okX, q⟩
    | cont => obtain ⟨σ', H', J', q⟩ := hsp; exact ⟨σ', H', J'.ofTry okX, q⟩
    | ret u => obtain ⟨v, σ', H', J', r, q⟩ := hsp; exact ⟨v, σ', H', J'.ofTry okX, r, q⟩
end
/-! isinstance of such an error -/
theorem inst_of {X : Cx} {pins : List (Addr × Obj)} {σ : L2.St} {H : Hp} {s : Shared} {a C : Addr} (I : Inv X pins σ H s) (h : H a = some (ExV (.ref C) none a)) : ∃ oe, PySem.W.InstAt s.heap a oe C none := by
  obtain ⟨⟨oe, g, ⟨h1, h2⟩, vs, hv⟩, _, _⟩ := I.hok a _ h
  obtain ⟨oc, od, oda, osl⟩ := oe
  dsimp only at h1 h2 hv
  subst h1 h2 hv
  exact ⟨_, g, rfl, rfl, trivial⟩
/-- types, errors among them -/
inductive TyZ (K : PySem.W.Frag) (H : Hp) : V → Value → Prop where
  | x {v : V} {t : Value} (h : TyX K H v t) : TyZ K H v t
  | exc {a C : Addr} (h : H a = some (ExV (.ref C) none a)) (c : ExcC K C) : TyZ K H (.ref a) (.ref C)
theorem kitz_of {X : Cx} {pins : List (Addr × Obj)} {σ : L2.St} {H : Hp} {s : Shared} {v : V} {u t : Value} (I : Inv X pins σ H s) (rv : RelV v u) (ty : TyZ X.K H v t) : ∃ Pz : Heap → Prop, PySem.W.KitX X.K u t Pz ∧ Pz s.heap ∧ u ≠ .builtin "__main__.__loader__#opaque" := by
  cases ty with
  | x h => exact kit_of I rv h
  | @exc a C h c =>
    cases (show u = Value.ref a from rv)
    obtain ⟨oe, J⟩ := inst_of I h
    exact ⟨_, PySem.W.handS_kitx_exc c.hg c.hk c.hs c.hd c.ha c.hn c.ht c.hm, J, fun z => nomatch z⟩
def rIsZ (K : PySem.W.Frag) : List V → Hp → VK → Prop := fun xs H Q => ∃ (v c : V) (t u : Value) (b : Bool), xs = [v, c] ∧ ClsV c u ∧ TyZ K H v t ∧ PySem.W.kitOne K t u = some b ∧ Q (.bl b) H
def rIsZT (K : PySem.W.Frag) : List V → Hp → VK → Prop := fun xs H Q => ∃ (v : V) (tp : Addr) (cs : List V) (t : Value) (us : List Value) (b : Bool), xs = [v, .ref tp] ∧ H tp = some (.tup cs) ∧ Paired ClsV cs us ∧ TyZ K H v t ∧ PySem.W.kitAny K t us = some b ∧ Q (.bl b) H
theorem call_isZ {X : Cx} : CallR X (.builtin "isinstance") (rIsZ X.K) := by
  intro pins s σ H xs us Q I r h
  obtain ⟨v, c, t, u, b, rfl, k, ty, e, q⟩ := h
  obtain ⟨w1, w2, rfl, r1, r2⟩ := vals2 r
  obtain rfl := k.eq r2
  obtain ⟨Pz, Z, p, hx⟩ := kitz_of I r1 ty
  exact PySem.W.kia_one Z I.kIn p e hx fun tk => ⟨.bl b, H, I.tok tk, rfl, q⟩
theorem call_isZT {X : Cx} : CallR X (.builtin "isinstance") (rIsZT X.K) := by
  intro pins s σ H xs us Q I r h
  obtain ⟨v, tp, cs, t, ws, b, rfl, hT, k, ty, e, q⟩ := h
  obtain ⟨w1, w2, rfl, r1, r2⟩ := vals2 r
  cases (show w2 = Value.ref tp from r2)
  obtain ⟨Pz, Z, p, hx⟩ := kitz_of I r1 ty
  obtain ⟨_, its, rv, ob, h1, h2, n, h3⟩ := (show ObjOk X.prog X.w H s.heap tp (.tup cs) from I.hok tp _ hT)
  obtain rfl := ClsV.all k rv
  obtain ⟨oc, od, dt, sl⟩ := ob
  simp only at h2 h3
  subst h2 h3
  exact PySem.W.kia_tup Z I.kIn p h1 e hx fun tk => ⟨.bl b, H, I.tok tk, rfl, q⟩
end Fo
namespace Fo
open PySem PySem.Spec PyProof.Rows L2
/-! isinstance of the error that the suite holds, whatever class it has -/
/-- none of several classes -/
theorem any_no {K : PySem.W.Frag} {t : Value} : ∀ {us : List Value}, (∀ u ∈ us, PySem.W.kitOne K t u = some false) → PySem.W.kitAny K t us = some false
  | [], _ => rfl
  | u :: r, h => by
    unfold PySem.W.kitAny
    rw [h u List.mem_cons_self]
    exact any_no fun x hx => h x (List.mem_cons_of_mem _ hx)
end Fo
namespace Fo
open PySem PySem.Spec PyProof.Rows L2
/-! things of any kind, as data; repr of them -/
def keyD : Key → PyData
  | .inl i => .int i
  | .inr x => .str x
inductive Kvs : List (Key × V) → List (PyData × PyData) → Prop
  | nil : Kvs [] []
  | cons {k : Key} {i : Int} {r : List (Key × V)} {s : List (PyData × PyData)} : Kvs r s → Kvs ((k, .int i) :: r) ((keyD k, .int i) :: s)
mutual
inductive Dq (H : Hp) : V → PyData → Prop
  | non : Dq H .non .none
  | bl (b : Bool) : Dq H (.bl b) (.bool b)
  | int (i : Int) : Dq H (.int i) (.int i)
  | str (x : Str) : Dq H (.str x) (.str x)
  | lst {a : Addr} {xs : List V} {ds : List PyData} : H a = some (.lst xs) → DqAll H xs ds → Dq H (.ref a) (.list ds)
  | tup {a : Addr} {xs : List V} {ds : List PyData} : H a = some (.tup xs) → DqAll H xs ds → Dq H (.ref a) (.tuple ds)
  | dic {a : Addr} {kvs : List (Key × V)} {ks : List (PyData × PyData)} : H a = some (.dK kvs) → Kvs kvs ks → Dq H (.ref a) (.dict ks)
inductive DqAll (H : Hp) : List V → List PyData → Prop
  | nil : DqAll H [] []
  | cons {v : V} {vs : List V} {d : PyData} {ds : List PyData} : Dq H v d → DqAll H vs ds → DqAll H (v :: vs) (d :: ds)
end
mutual
theorem Dq.keep {H H' : Hp} (k : ∀ b o, H b = some o → H' b = some o) : ∀ (d : PyData) (v : V), Dq H v d → Dq H' v d
  | .none, _, h => by cases h; exact .non
  | .bool b, _, h => by cases h; exact .bl b
  | .int i, _, h => by cases h; exact .int i
  | .str x, _, h => by cases h; exact .str x
  | .list ds, _, h => by
    cases h with
    | lst e a => exact .lst (k _ _ e) (DqAll.keep k ds _ a)
  | .tuple ds, _, h => by
    cases h with
    | tup e a => exact .tup (k _ _ e) (DqAll.keep k ds _ a)
  | .dict ks, _, h => by
    cases h with
    | dic e a => exact .dic (k _ _ e) a
theorem DqAll.keep {H H' : Hp} (k : ∀ b o, H b = some o → H' b = some o) : ∀ (ds : List PyData) (vs : List V), DqAll H vs ds → DqAll H' vs ds
  | [], _, h => by cases h; exact .nil
  | d :: ds, _, h => by
    cases h with
    | cons h1 h2 => exact .cons (Dq.keep k d _ h1) (DqAll.keep k ds _ h2)
end
theorem Dq.same {H H' : Hp} {d : PyData} {v : V} (h : Dq H v d) (s : Same H H') : Dq H' v d := Dq.keep s d v h
theorem DqAll.same {H H' : Hp} {ds : List PyData} {vs : List V} (h : DqAll H vs ds) (s : Same H H') : DqAll H' vs ds := DqAll.keep s ds vs h
theorem DqAll.len {H : Hp} : ∀ {ds : List PyData} {vs : List V}, DqAll H vs ds → vs.length = ds.length
  | [], _, h => by cases h; rfl
  | d :: ds, _, h => by
    cases h with
    | cons h1 h2 => rw [List.length_cons, List.length_cons, DqAll.len h2]
theorem DqAll.get {H : Hp} : ∀ {ds : List PyData} {vs : List V} {i : Nat} {v : V}, DqAll H vs ds → vs[i]? = some v → ∃ d, ds[i]? = some d ∧ Dq H v d
  | [], _, i, v, h, e => by cases h; simp at e
  | d :: ds, _, 0, v, h, e => by
    cases h with
    | cons h1 h2 =>
      cases (Option.some.inj e)
      exact ⟨d, rfl, h1⟩
  | d :: ds, _, i + 1, v, h, e => by
    cases h with
    | cons h1 h2 => exact DqAll.get (i := i) h2 e
theorem DqAll.take {H : Hp} : ∀ {ds : List PyData} {vs : List V} (n : Nat), DqAll H vs ds → DqAll H (vs.take n) (ds.take n)
  | [], _, n, h => by cases h; rw [List.take_nil, List.take_nil]; exact .nil
  | d :: ds, _, 0, h => .nil
  | d :: ds, _, n + 1, h => by
    cases h with
    | cons h1 h2 => exact .cons h1 (DqAll.take n h2)
theorem DqAll.drop {H : Hp} : ∀ {ds : List PyData} {vs : List V} (n : Nat), DqAll H vs ds → DqAll H (vs.drop n) (ds.drop n)
  | [], _, n, h => by cases h; rw [List.drop_nil, List.drop_nil]; exact .nil
  | d :: ds, _, 0, h => h
  | d :: ds, _, n + 1, h => by
    cases h with
    | cons h1 h2 => exact DqAll.drop n h2
theorem dq_ints {H : Hp} : ∀ ns : List Int, DqAll H (ns.map V.int) (ns.map PyData.int)
  | [] => .nil
  | n :: r => .cons (.int n) (dq_ints r)
theorem dq_list {H : Hp} {a : Addr} {ns : List Int} (h : H a = some (.lst (ns.map V.int))) : Dq H (.ref a) (.list (ns.map PyData.int)) := .lst h (dq_ints ns)
section
variable {X : Cx} {pins : List (Addr × Obj)} {σ : L2.St} {H : Hp} {s : Shared}
theorem not_sys (I : Inv X pins σ H s) (z : SysAt X.base) {a : Addr} {o : HO} (e : H a = some o) : sysModules ≠ a := fun q => by
  obtain ⟨ob, eb⟩ := z
  have := (I.env0.bs _ _ eb).2
  rw [q, e] at this
  cases this
theorem kvs_reads (h : Heap) : ∀ {kvs : List (Key × V)} {ks : List (PyData × PyData)} {vs : List (Key × Value)} {es : List DictEntry}, Kvs kvs ks → KV kvs vs → Pairs (mixKind X.prog X.w) es vs → ReadsAll h (es.map (·.key)) (ks.map (·.1)) [] ∧ ReadsAll h (es.map (·.val)) (ks.map (·.2)) []
  | [], _, _, _, q, r, p => by
    cases q
    cases r
    cases p
    exact ⟨.nil, .nil⟩
  | kv :: kvs, _, _, _, q, r, p => by
    cases q with
    | cons q' =>
      cases r with
      | cons r1 r2 =>
        cases p with
        | cons p1 p2 =>
          obtain ⟨hk, hv⟩ := r1
          obtain ⟨t1, t2⟩ := kvs_reads h q' r2 (by assumption)
          obtain ⟨tv, ev⟩ := hv
          rename_i kk ii ss bb l2 ee ees p3
          have e1 : ∃ u, Reads h ee.key (keyD kk) u ∧ u = [] := by
            have p1' : keyIs bb.1 ee.key = true := p1
            rw [← hk] at p1'
            rcases keyIs_shape p1' with ⟨i, t, a1, a2⟩ | ⟨x, t, a1, a2⟩
            · have a1 : kk = Sum.inl i := a1
              rw [a2, a1]
              exact ⟨_, .int i t, rfl⟩
            · have a1 : kk = Sum.inr x := a1
              rw [a2, a1]
              exact ⟨_, .str x t, rfl⟩
          obtain ⟨_, e1, rfl⟩ := e1
          refine ⟨ReadsAll.cons e1 t1, ReadsAll.cons (as := []) (d := .int ii) ?_ t2⟩
          show Reads h ee.val _ _
          rw [p2, ev]
          exact .int ii tv
mutual
theorem Dq.reads (I : Inv X pins σ H s) (z : SysAt X.base) : ∀ (d : PyData) (v : V) (u : Value), Dq H v d → RelV v u → ∃ as, Reads s.heap u d as ∧ sysModules ∉ as
  | .none, _, _, h, r => by
    cases h
    cases r
    exact ⟨_, .none, List.not_mem_nil⟩
  | .bool b, _, _, h, r => by
    cases h
    cases r
    exact ⟨_, .bool b, List.not_mem_nil⟩
  | .int i, _, _, h, r => by
    cases h
    obtain ⟨t, rfl⟩ := r
    exact ⟨_, .int i t, List.not_mem_nil⟩
  | .str x, _, _, h, r => by
    cases h
    obtain ⟨t, rfl⟩ := r
    exact ⟨_, .str x t, List.not_mem_nil⟩
  | .list ds, _, _, h, r => by
    cases h with
    | lst e ha =>
      cases r
      obtain ⟨its, rv, ⟨o, n, ho, hc, _, hd⟩, _⟩ := I.list (SqL.of e)
      obtain ⟨as, hr, hn⟩ := Dq.readsAll I z ds _ its ha rv
      exact ⟨_, .list ho hc hd hr, fun q => by
        rcases List.mem_cons.mp q with q | q
        · exact not_sys I z e q
        · exact hn q⟩
  | .tuple ds, _, _, h, r => by
    cases h with
    | tup e ha =>
      cases r
      obtain ⟨its, rv, ⟨o, ho, hc, n, hd⟩, _⟩ := I.tuple (SqT.of e)
      obtain ⟨as, hr, hn⟩ := Dq.readsAll I z ds _ its ha rv
      exact ⟨_, .tuple ho hc hd hr, hn⟩
  | .dict ks, _, _, h, r => by
    cases h with
    | dic e hk =>
      cases r
      obtain ⟨_, nsys, vs, rel, dof⟩ := dk_of I.hok e
      obtain ⟨ep, ob, es, ho, exd, hdat, hko, hpr, hnd⟩ := dof.dictAt
      obtain ⟨r1, r2⟩ := kvs_reads (X := X) s.heap hk rel hpr
      exact ⟨_, .dict ho exd.1 hdat r1 r2, fun q => by
        rcases List.mem_cons.mp q with q | q
        · exact not_sys I z e q
        · cases q⟩
theorem Dq.readsAll (I : Inv X pins σ H s) (z : SysAt X.base) : ∀ (ds : List PyData) (vs : List V) (us : List Value), DqAll H vs ds → Vals vs us → ∃ as, ReadsAll s.heap us ds as ∧ sysModules ∉ as
  | [], _, _, h, r => by
    cases h
    cases r
    exact ⟨_, .nil, List.not_mem_nil⟩
  | d :: ds, _, _, h, r => by
    cases h with
    | cons h1 h2 =>
      cases r with
      | cons r1 r2 =>
        obtain ⟨as, q1, n1⟩ := Dq.reads I z d _ _ h1 r1
        obtain ⟨bs, q2, n2⟩ := Dq.readsAll I z ds _ _ h2 r2
        exact ⟨_, .cons q1 q2, fun q => by
          rcases List.mem_append.mp q with q | q
          · exact n1 q
          · exact n2 q⟩
end
/-- fit to be shown -/
structure Rp (m : Nat) (d : PyData) : Prop where
  show' : d.showable = true
  len : d.shown.length ≤ m
  dep : d.depth ≤ 20
end
/-! how long the texts are -/
theorem textFrom_le : ∀ (ts : List Str) (k : Nat) (acc : Str), (textFrom k acc ts).length ≤ acc.length + piled ts
  | [], k, acc => by rw [textFrom]; exact Nat.le_add_right _ _
  | t :: ts, k, acc => by
    rw [textFrom, piled_cons]
    have := textFrom_le ts (k + 1) (acc ++ Str.ofString (if k > 0 then ", " else "") ++ t)
    have e : (Str.ofString (if k > 0 then ", " else "")).length ≤ 2 := by split <;> decide
    rw [strLen_append, strLen_append] at this
    omega
theorem listText_le (ts : List Str) : (listText ts).length ≤ piled ts + 2 := by
  unfold listText
  have := textFrom_le ts 0 (Str.ofString "[")
  rw [strLen_append]
  have e1 : (Str.ofString "[").length = 1 := rfl
  have e2 : (Str.ofString "]").length = 1 := rfl
  omega
theorem join_le (ts : List Str) : (Str.join ", " ts).length ≤ piled ts := by
  by_cases h : ts = []
  · subst h
    decide
  · have := join_length_add ts h
    omega
/-- shown in m signs, k deep -/
structure Rq (m k : Nat) (d : PyData) : Prop where
  s : d.showable = true
  l : d.shown.length ≤ m
  d : d.depth ≤ k
theorem Rq.rp {m k : Nat} {d : PyData} (h : Rq m k d) (hk : k ≤ 20) : Rp m d := ⟨h.s, h.l, Nat.le_trans h.d hk⟩
theorem Rq.mono {m k m' k' : Nat} {d : PyData} (h : Rq m k d) (hm : m ≤ m') (hk : k ≤ k') : Rq m' k' d := ⟨h.s, Nat.le_trans h.l hm, Nat.le_trans h.d hk⟩
end Fo
namespace Fo
open PySem PySem.Spec PyProof.Rows L2
/-! kinds of things -/
def tyD : PyData → String
  | .none => "NoneType"
  | .bool _ => "bool"
  | .int _ => "int"
  | .str _ => "str"
  | .list _ => "list"
  | .tuple _ => "tuple"
  | .dict _ => "dict"
theorem dq_ty {K : PySem.W.Frag} {H : Hp} {v : V} {d : PyData} (h : Dq H v d) : TyX K H v (.type (tyD d)) := by
  cases h with
  | non => exact .base .non
  | bl b => exact .base (.bl b)
  | int i => exact .base (.int i)
  | str x => exact .base (.str x)
  | lst e _ => exact .base (.lst e)
  | tup e _ => exact .base (.tup e)
  | dic e _ => exact .base (.dK e)
def isIntD : PyData → Bool
  | .int _ => true
  | .bool _ => true
  | _ => false
def isBoolD : PyData → Bool
  | .bool _ => true
  | _ => false
def isListD : PyData → Bool
  | .list _ => true
  | _ => false
def isStrD : PyData → Bool
  | .str _ => true
  | _ => false
theorem kit_intD {K : PySem.W.Frag} : ∀ d : PyData, PySem.W.kitOne K (.type (tyD d)) (.type "int") = some (isIntD d)
  | .none => show PySem.W.kitOne K (.type "NoneType") (.type "int") = some false from kit_ty (by decide +kernel)
  | .bool _ => show PySem.W.kitOne K (.type "bool") (.type "int") = some true from kit_ty (by decide +kernel)
  | .int _ => show PySem.W.kitOne K (.type "int") (.type "int") = some true from kit_ty (by decide +kernel)
  | .str _ => show PySem.W.kitOne K (.type "str") (.type "int") = some false from kit_ty (by decide +kernel)
  | .list _ => show PySem.W.kitOne K (.type "list") (.type "int") = some false from kit_ty (by decide +kernel)
  | .tuple _ => show PySem.W.kitOne K (.type "tuple") (.type "int") = some false from kit_ty (by decide +kernel)
  | .dict _ => show PySem.W.kitOne K (.type "dict") (.type "int") = some false from kit_ty (by decide +kernel)
theorem kit_boolD {K : PySem.W.Frag} : ∀ d : PyData, PySem.W.kitOne K (.type (tyD d)) (.type "bool") = some (isBoolD d)
  | .none => show PySem.W.kitOne K (.type "NoneType") (.type "bool") = some false from kit_ty (by decide +kernel)
  | .bool _ => show PySem.W.kitOne K (.type "bool") (.type "bool") = some true from kit_ty (by decide +kernel)
  | .int _ => show PySem.W.kitOne K (.type "int") (.type "bool") = some false from kit_ty (by decide +kernel)
  | .str _ => show PySem.W.kitOne K (.type "str") (.type "bool") = some false from kit_ty (by decide +kernel)
  | .list _ => show PySem.W.kitOne K (.type "list") (.type "bool") = some false from kit_ty (by decide +kernel)
  | .tuple _ => show PySem.W.kitOne K (.type "tuple") (.type "bool") = some false from kit_ty (by decide +kernel)
  | .dict _ => show PySem.W.kitOne K (.type "dict") (.type "bool") = some false from kit_ty (by decide +kernel)
theorem kit_listD {K : PySem.W.Frag} : ∀ d : PyData, PySem.W.kitOne K (.type (tyD d)) (.type "list") = some (isListD d)
  | .none => show PySem.W.kitOne K (.type "NoneType") (.type "list") = some false from kit_ty (by decide +kernel)
  | .bool _ => show PySem.W.kitOne K (.type "bool") (.type "list") = some false from kit_ty (by decide +kernel)
  | .int _ => show PySem.W.kitOne K (.type "int") (.type "list") = some false from kit_ty (by decide +kernel)
  | .str _ => show PySem.W.kitOne K (.type "str") (.type "list") = some false from kit_ty (by decide +kernel)
  | .list _ => show PySem.W.kitOne K (.type "list") (.type "list") = some true from kit_ty (by decide +kernel)
  | .tuple _ => show PySem.W.kitOne K (.type "tuple") (.type "list") = some false from kit_ty (by decide +kernel)
  | .dict _ => show PySem.W.kitOne K (.type "dict") (.type "list") = some false from kit_ty (by decide +kernel)
theorem kit_strD {K : PySem.W.Frag} : ∀ d : PyData, PySem.W.kitOne K (.type (tyD d)) (.type "str") = some (isStrD d)
  | .none => show PySem.W.kitOne K (.type "NoneType") (.type "str") = some false from kit_ty (by decide +kernel)
  | .bool _ => show PySem.W.kitOne K (.type "bool") (.type "str") = some false from kit_ty (by decide +kernel)
  | .int _ => show PySem.W.kitOne K (.type "int") (.type "str") = some false from kit_ty (by decide +kernel)
  | .str _ => show PySem.W.kitOne K (.type "str") (.type "str") = some true from kit_ty (by decide +kernel)
  | .list _ => show PySem.W.kitOne K (.type "list") (.type "str") = some false from kit_ty (by decide +kernel)
  | .tuple _ => show PySem.W.kitOne K (.type "tuple") (.type "str") = some false from kit_ty (by decide +kernel)
  | .dict _ => show PySem.W.kitOne K (.type "dict") (.type "str") = some false from kit_ty (by decide +kernel)
def wholeD : PyData → Bool
  | .int _ => true
  | _ => false
def GoodD (d : PyData) : Prop := ∃ ns : List Int, d = .list (ns.map PyData.int) ∧ IsOrd ns.length ns ∧ 1 ≤ ns.length ∧ ns.length ≤ 12
theorem all_ints : ∀ {ds : List PyData}, ds.all wholeD = true → ∃ ns : List Int, ds = ns.map PyData.int
  | [], _ => ⟨[], rfl⟩
  | d :: ds, h => by
    rw [List.all_cons, Bool.and_eq_true] at h
    obtain ⟨ns, e⟩ := all_ints h.2
    cases d with
    | int i => exact ⟨i :: ns, by rw [e]; rfl⟩
    | _ => cases h.1
theorem dq_intsV {H : Hp} : ∀ {ns : List Int} {vs : List V}, DqAll H vs (ns.map PyData.int) → vs = ns.map V.int
  | [], _, h => by cases h; rfl
  | n :: r, _, h => by
    rw [List.map_cons] at h
    cases h with
    | cons h1 h2 =>
      cases h1
      rw [dq_intsV h2]
      rfl
theorem intD_inj : ∀ {a b : List Int}, a.map PyData.int = b.map PyData.int → a = b
  | [], [], _ => rfl
  | [], _ :: _, h => by cases h
  | _ :: _, [], h => by cases h
  | x :: a, y :: b, h => by
    rw [List.map_cons, List.map_cons] at h
    injection h with h1 h2
    injection h1 with h1
    rw [h1, intD_inj h2]
theorem good_all {ds : List PyData} (h : GoodD (.list ds)) : ds.all wholeD = true := by
  obtain ⟨ns, e, _⟩ := h
  injection e with e
  rw [e, List.all_eq_true]
  intro x hx
  obtain ⟨i, _, rfl⟩ := List.mem_map.mp hx
  rfl
def spWholeD : Sp := fun vs H Q _ => ∃ (v : V) (d : PyData), vs = [v] ∧ Dq H v d ∧ Q (.bl (wholeD d)) H
def spIsOrdD : Sp := fun vs H Q _ => ∃ (v : V) (d : PyData), vs = [v] ∧ Dq H v d ∧ ∀ (b : Bool) (H' : Hp), (b = true ↔ GoodD d) → Same H H' → Q (.bl b) H'
theorem not_good {d : PyData} (h : isListD d = false) : (false = true ↔ GoodD d) := by
  refine ⟨fun z => absurd z Bool.false_ne_true, fun z => ?_⟩
  obtain ⟨ns, e, _⟩ := z
  rw [e] at h
  cases h
theorem not_good_len {ds : List PyData} (h : ds.length < 1 ∨ 12 < ds.length) : (false = true ↔ GoodD (.list ds)) := by
  refine ⟨fun z => absurd z Bool.false_ne_true, fun z => ?_⟩
  obtain ⟨ns, e, _, h1, h2⟩ := z
  injection e with e
  rw [e, List.length_map] at h
  omega
theorem not_good_all {ds : List PyData} (h : ds.all wholeD = false) : (false = true ↔ GoodD (.list ds)) := ⟨fun z => absurd z Bool.false_ne_true, fun z => by rw [good_all z] at h; cases h⟩
theorem all_map_id (ds : List PyData) : (ds.map wholeD).all id = ds.all wholeD := by
  rw [List.all_map]
  rfl
theorem inV_ints (t : Int) : ∀ row : List Int, inV (.int t) (row.map V.int) = decide (t ∈ row)
  | [] => rfl
  | x :: r => by
    have ih := inV_ints t r
    unfold inV at ih ⊢
    have eqI : eqV (.int x) (.int t) = decide (x = t) := by
      unfold eqV
      by_cases e : x = t
      · subst e
        simp
      · simp [e]
    rw [List.map_cons, List.any_cons, ih, eqI]
    by_cases e : x = t
    · subst e
      simp
    · have e1 : ¬ t = x := fun z => e z.symm
      simp [e, e1]
theorem flatI (row : List Int) : (row.map V.int).all flatV = true := by
  rw [List.all_eq_true]
  intro x hx
  obtain ⟨i, _, rfl⟩ := List.mem_map.mp hx
  rfl
section
variable {P : Program} {w : World} {K : PySem.W.Frag} {mg : Str → Option Value} {base : Heap}
theorem scWholeD : FnScope ["thing"] ["thing"] (defScope s_is_whole) := ⟨rfl, rfl, rfl, by decide +kernel, rfl, by decide +kernel, by decide +kernel⟩
theorem ok_wholeD {f : Addr} {fd : FuncData} {k : Nat} (T : Df K mg "is_whole" s_is_whole ["thing"] f fd) (B : Bi mg) : FnOk P w K mg base CX0 (k + 1) f fd ["thing"] spWholeD := by
  refine T.F.ok scWholeD (fun vs H Q E h => ?_) (fun cdv A outer s H vs Q E hr h => ?_)
  · obtain ⟨v, d, rfl, _⟩ := h
    rfl
  · obtain ⟨v, d, rfl, hd, q⟩ := h
    refine ⟨_, 
      (pss_one (ps_ret (pe_and (pe_callB call_isi (by rfl) B.isinstance (by decide +kernel) (pa_cons (pv 0) (pa_cons (pe_bltn (v := .ty "int") (by rfl) B.int (by decide +kernel) rfl) pa_nil))) (pe_one (pe_not (pe_callB call_isi (by rfl) B.isinstance (by decide +kernel) (pa_cons (pv 0) (pa_cons (pe_bltn (v := .ty "bool") (by rfl) B.bool (by decide +kernel) rfl) pa_nil)))))))), ?_⟩
    refine ⟨_, rfl, _, _, _, _, isIntD d, rfl, .ty _, dq_ty hd, kit_intD d, _, rfl, ?_⟩
    cases d with
    | int i => exact iteT ⟨_, rfl, _, _, _, _, false, rfl, .ty _, dq_ty hd, kit_boolD _, false, rfl, q⟩
    | bool b => exact iteT ⟨_, rfl, _, _, _, _, true, rfl, .ty _, dq_ty hd, kit_boolD _, true, rfl, q⟩
    | _ => exact iteF q
theorem scIsOrdD : FnScope ["thing", "number"] ["thing"] (defScope s_is_order) := ⟨rfl, rfl, rfl, by decide +kernel, rfl, by decide +kernel, by decide +kernel⟩
set_option maxHeartbeats 2000000 in
theorem ok_isOrdD {f fW : Addr} {fd fdW : FuncData} {k : Nat} {t : Tok} (T : Df K mg "is_order" s_is_order ["thing"] f fd) (T_is_whole : Df K mg "is_whole" s_is_whole ["thing"] fW fdW) (B : Bi mg) (mM : mg "MOST_THINGS" = some (.int 12 t)) : FnOk P w K mg base CX0 (k + 2) f fd ["thing"] spIsOrdD := by
  have G_is_whole : FnOk P w K mg base CX0 (k + 1) fW fdW ["thing"] spWholeD := ok_wholeD T_is_whole B
  refine T.F.ok scIsOrdD (fun vs H Q E h => ?_) (fun cdv A outer s H vs Q E hr h => ?_)
  · obtain ⟨v, d, rfl, _⟩ := h
    rfl
  · obtain ⟨v, d, rfl, hd, q⟩ := h
    refine ⟨_, 
      (pss_cons (ps_if (PW.pt (pw_or (pt_not (pt_val (pe_callB call_isi (by rfl) B.isinstance (by decide +kernel) (pa_cons (pv 0) (pa_cons (pe_bltn (v := .ty "list") (by rfl) B.list (by decide +kernel) rfl) pa_nil))))) (pw_or (pt_cmpR op_lt (pe_callB call_len_seq (by rfl) B.len PySem.boot_len (pa_cons (pv 0) pa_nil)) pe_int (nomark _)) (pw_or1 (pt_cmpR op_gt (pe_callB call_len_seq (by rfl) B.len PySem.boot_len (pa_cons (pv 0) pa_nil)) (pe_glob (v := .int 12) (by rfl) mM ⟨_, rfl⟩) (nomark _))))))
        (pss_one (ps_ret pe_bl))
        pss_nil)
      (pss_cons (ps_if (pt_not (pt_val (pe_callB (cr_all rfl) (by rfl) B.all (by decide +kernel) (pa_cons (pe_lc (own := [("number", 1)]) (g := (gName 1)) (tt := tYes) (te := (tCall spWholeD [] E0 (tCons (tVar 1) tNil))) rfl scIsOrdD.nd (pi_list (pv 0)) (blkOk_by (N := ["thing", "number"]) (sc := defScope s_is_order) (by decide +kernel)) (fun _ _ _ _ _ => (pg_name (i := 1) scIsOrdD.nd rfl (.inl rfl))) (fun _ _ _ _ _ => pts_nil) (fun _ _ _ _ _ => (pe_call G_is_whole hr (by rfl) T_is_whole.g T_is_whole.F.kp T_is_whole.b .nil pass0 (pa_cons (pv 1) pa_nil)))) pa_nil))))
        (pss_one (ps_ret pe_bl))
        pss_nil)
      (pss_one (ps_ret (pe_cmpR (op_eqD hr.units) (pe_callB cr_sorted (by rfl) B.sorted (by decide +kernel) (pa_cons (pv 0) pa_nil)) (pe_listRg rfl (by rfl) B.list (prg_1 (by rfl) B.range (pe_callB call_len_seq (by rfl) B.len PySem.boot_len (pa_cons (pv 0) pa_nil)))) (nomark _)))))), ?_⟩
    refine ⟨_, rfl, _, _, _, _, isListD d, rfl, .ty _, dq_ty hd, kit_listD d, _, rfl, ?_⟩
    cases hl : isListD d with
    | false => exact iteT (iteT (q _ _ (not_good hl) (Same.refl _)))
    | true =>
      cases hd with
      | @lst a xs ds e al =>
        have hlen := al.len
        refine iteF ?_
        refine ⟨_, rfl, a, _, rfl, .inl (SqL.of e), _, 1, rfl, rfl, _, rfl, ite2 (fun c => ?_) (fun c => ?_)⟩
        · exact iteT (q _ _ (not_good_len (.inl (by have := of_decide_eq_true c; omega))) (Same.refl _))
        have c1 : 1 ≤ ds.length := by
          by_cases z : ds.length < 1
          · exact absurd (decide_eq_true (show ((xs.length : Nat) : Int) < 1 by omega)) c
          · omega
        refine ⟨_, rfl, a, _, rfl, .inl (SqL.of e), _, 12, rfl, rfl, _, rfl, ite2 (fun c => ?_) (fun c => ?_)⟩
        · exact q _ _ (not_good_len (.inr (by have := of_decide_eq_true c; omega))) (Same.refl _)
        have c2 : ds.length ≤ 12 := by
          by_cases z : 12 < ds.length
          · exact absurd (decide_eq_true (show (12 : Int) < ((xs.length : Nat) : Int) by omega)) c
          · omega
        refine ⟨_, rfl, a, rfl, ⟨_, SqL.of e⟩, fun p np => ?_⟩
        refine lc_list (K := K) (a := a) (xs := xs) (fun i H3 => H3 p = some (.lst (((ds.take i).map wholeD).map V.bl)) ∧ Same H H3) ⟨upd_same, same_new np⟩ (fun i H3 _ hP => SqL.of (hP.2 _ _ e)) (fun i x H3 hx hP => ?_) (fun H3 hP => ?_)
        · obtain ⟨hp3, sm⟩ := hP
          obtain ⟨d, ed, hd⟩ := al.get hx
          have hi := (List.getElem?_eq_some_iff.mp ed).1
          refine ⟨rfl, _, rfl, x, d, rfl, hd.same sm, _, hp3, line_lt (by rw [List.length_map, List.length_map, List.length_take]; omega), ?_, fun b o eb => ?_⟩
          · rw [upd_same, List.take_add_one, ed, List.map_append, List.map_append]
            rfl
          · rw [upd_ne (ne_of_none eb np)]
            exact sm _ _ eb
        · obtain ⟨hp3, sm⟩ := hP
          rw [hlen, List.take_length] at hp3
          have e3 := sm _ _ e
          refine ⟨p, _, rfl, SqL.of hp3, _, rfl, ?_⟩
          rw [all_map_id]
          cases ha : ds.all wholeD with
          | false => exact iteT (q _ _ (not_good_all ha) sm)
          | true =>
            obtain ⟨ns, ens⟩ := all_ints ha
            subst ens
            have exs := dq_intsV al
            subst exs
            rw [List.length_map] at c1 c2 hlen
            refine iteF ?_
            refine ⟨_, rfl, a, ns, rfl, SqL.of e3, by omega, fun ns' s1 hperm hsrt ns1 => ?_⟩
            have e4 := same_new (o := .lst (ns'.map V.int)) ns1 _ _ e3
            refine ⟨_, rfl, a, _, rfl, .inl (SqL.of e4), _, rfl, RgOk.of_le (by omega) (by rw [List.length_map]; omega) (by omega) (by omega), fun s2 ns2 => ?_⟩
            rw [List.length_map]
            have h1 : (upd (upd H3 s1 (.lst (ns'.map V.int))) s2 (.lst (rgV 0 (ns.length : Int)))) s1 = some (.lst (ns'.map V.int)) := same_new ns2 _ _ upd_same
            have h2 : (upd (upd H3 s1 (.lst (ns'.map V.int))) s2 (.lst (rgV 0 (ns.length : Int)))) s2 = some (.lst ((rg ns.length).map V.int)) := by rw [upd_same, rg_V]
            refine ⟨_, _, dp_list h1, dp_list h2, shaped_list _, shaped_list _, ?_⟩
            rw [show PyData.eqv (.list (ns'.map PyData.int)) (.list ((rg ns.length).map PyData.int)) = decide (ns' = rg ns.length) from eqv_ints _ _]
            refine q _ _ ⟨fun z => ?_, fun z => ?_⟩ ((sm.trans (same_new ns1)).trans (same_new ns2))
            · have z := of_decide_eq_true z
              rw [z] at hperm
              exact ⟨ns, rfl, hperm.symm, c1, c2⟩
            · obtain ⟨ms, em, ho, _⟩ := z
              injection em with em
              have em := intD_inj em
              subst em
              exact decide_eq_true (sorted_eq (hperm.trans ho) hsrt (rg_sorted _))
      | _ => cases hl
end
end Fo
namespace Fo
open PySem PySem.Spec PyProof.Rows L2
def KeepD (d : Addr) (H H' : Hp) : Prop := ∀ b o, H b = some o → b ≠ d → H' b = some o
theorem KeepD.refl (d : Addr) (H : Hp) : KeepD d H H := fun _ _ e _ => e
theorem KeepD.trans {d : Addr} {H H1 H2 : Hp} (a : KeepD d H H1) (b : KeepD d H1 H2) : KeepD d H H2 := fun c o e f => b c o (a c o e f) f
theorem KeepD.of_same {d : Addr} {H H' : Hp} (h : Same H H') : KeepD d H H' := fun b o e _ => h b o e
theorem KeepD.new {d : Addr} {H : Hp} {p : Addr} {o : HO} (e : H p = none) : KeepD d H (upd H p o) := KeepD.of_same (same_new e)
theorem KeepD.none {d : Addr} {H H1 : Hp} (k : KeepD d H H1) {p : Addr} (np : H1 p = none) (nf : p ≠ d) : H p = none := by
  cases e : H p with
  | none => rfl
  | some o =>
    have z := k p o e nf
    rw [np] at z
    cases z
theorem mod_b (x : Int) {m : Int} (h : 0 < m) : 0 ≤ x % m ∧ x % m < m := ⟨Int.emod_nonneg x (by omega), Int.emod_lt_of_pos x h⟩
end Fo
namespace Fo
open PySem PySem.Spec PyProof.Rows L2
/-! ### lists of lists -/
def LL (H : Hp) : List Addr → List (List Int) → Prop
  | [], [] => True
  | a :: as, r :: rs => H a = some (.lst (r.map V.int)) ∧ LL H as rs
  | _, _ => False
theorem LL.len {H : Hp} : ∀ {as : List Addr} {rs : List (List Int)}, LL H as rs → as.length = rs.length
  | [], [], _ => rfl
  | [], _ :: _, h => h.elim
  | _ :: _, [], h => h.elim
  | a :: as, r :: rs, h => by rw [List.length_cons, List.length_cons, LL.len h.2]
theorem LL.keep {H H' : Hp} : ∀ {as : List Addr} {rs : List (List Int)}, LL H as rs → (∀ a ∈ as, ∀ o, H a = some o → H' a = some o) → LL H' as rs
  | [], [], _, _ => trivial
  | [], _ :: _, h, _ => h.elim
  | _ :: _, [], h, _ => h.elim
  | a :: as, r :: rs, h, k => ⟨k a List.mem_cons_self _ h.1, LL.keep h.2 fun b hb => k b (List.mem_cons_of_mem _ hb)⟩
theorem LL.same {H H' : Hp} {as : List Addr} {rs : List (List Int)} (h : LL H as rs) (s : Same H H') : LL H' as rs := h.keep fun a _ o e => s a o e
theorem LL.get {H : Hp} : ∀ {as : List Addr} {rs : List (List Int)} {i : Nat} {a : Addr}, LL H as rs → as[i]? = some a → ∃ r, rs[i]? = some r ∧ H a = some (.lst (r.map V.int))
  | [], [], _, _, _, e => by simp at e
  | [], _ :: _, _, _, h, _ => h.elim
  | _ :: _, [], _, _, h, _ => h.elim
  | a :: as, r :: rs, 0, b, h, e => by
    have e2 : a = b := Option.some.inj e
    subst e2
    exact ⟨r, rfl, h.1⟩
  | a :: as, r :: rs, i + 1, b, h, e => LL.get (i := i) h.2 e
theorem LL.drop {H : Hp} : ∀ {as : List Addr} {rs : List (List Int)} (k : Nat), LL H as rs → LL H (as.drop k) (rs.drop k)
  | as, rs, 0, h => h
  | [], [], k + 1, _ => trivial
  | [], _ :: _, _ + 1, h => h.elim
  | _ :: _, [], _ + 1, h => h.elim
  | _ :: as, _ :: rs, k + 1, h => LL.drop k h.2
theorem dp_LL {K : PySem.W.Frag} {H : Hp} : ∀ {as : List Addr} {rs : List (List Int)}, LL H as rs → DpAll K H (as.map V.ref) (rs.map dL)
  | [], [], _ => .nil
  | [], _ :: _, h => h.elim
  | _ :: _, [], h => h.elim
  | _ :: _, _ :: _, h => .cons (dp_list h.1) (dp_LL h.2)
theorem dp_lists {K : PySem.W.Frag} {H : Hp} {l : Addr} {as : List Addr} {rs : List (List Int)} (hl : H l = some (.lst (as.map V.ref))) (h : LL H as rs) : Dp K H (.ref l) (dLL rs) := .lst (SqL.of hl) (dp_LL h)
theorem ref_at {as : List Addr} {i : Nat} {a : Addr} (h : as[i]? = some a) : (as.map V.ref)[i]? = some (V.ref a) := by
  rw [List.getElem?_map, h]
  rfl
theorem ref_at_inv {as : List Addr} {i : Nat} {v : V} (h : (as.map V.ref)[i]? = some v) : ∃ a, as[i]? = some a ∧ v = V.ref a := by
  rw [List.getElem?_map] at h
  cases e : as[i]? with
  | none => rw [e] at h; cases h
  | some x => rw [e] at h; exact ⟨x, rfl, (Option.some.inj h).symm⟩
end Fo
namespace Fo
open PySem PySem.Spec PyProof.Rows L2
/-- a loop over enumerate of a list that stands still -/
theorem for_enumL {K : PySem.W.Frag} {a : Addr} {xs : List V} {g : TG} {tb : TS} {D : Ends} {σ : L2.St} {H : Hp} (Pv : Nat → L2.St → Hp → Prop) (h0 : Pv 0 σ H) (hq : ∀ i σ H, Pv i σ H → SqL K H a xs)
    (hs : ∀ (i : Nat) (x : V) (T : Addr) (σ : L2.St) (H : Hp), xs[i]? = some x → Pv i σ H → H T = none → g (.ref T) σ (upd H T (.tup [.int (i : Nat), x])) fun σ2 H2 => tb { D with nx := Pv (i + 1), ct := Pv (i + 1), bk := D.nx } σ2 H2) (hd : ∀ σ H, Pv xs.length σ H → D.nx σ H) :
    ∃ W : Nat → Nat → L2.St → Hp → Prop, (∃ m, W 0 m σ H) ∧ ∀ i m σ H, W i m σ H →
      ((Ite K a).stop i H ∧ D.nx σ H) ∨ ((Ite K a).go i H ∧ ∃ N : L2.St → Hp → Prop, (∀ σ' H', N σ' H' → ∃ m', m' < m ∧ W (i + 1) m' σ' H') ∧ ∀ v H', (Ite K a).yld i H v H' → g v σ H' fun σ2 H2 => tb { D with nx := N, ct := N, bk := D.nx } σ2 H2) := by
  refine ⟨fun i m σ H => m = xs.length - i ∧ i ≤ xs.length ∧ Pv i σ H, ⟨xs.length, rfl, Nat.zero_le _, h0⟩, ?_⟩
  rintro i m σ H ⟨rfl, hi, p⟩
  have qx := hq i σ H p
  by_cases hlt : i < xs.length
  · have hx : xs[i]? = some xs[i] := List.getElem?_eq_getElem hlt
    refine .inr ⟨⟨xs, _, qx, hx⟩, Pv (i + 1), fun σ' H' p' => ⟨xs.length - (i + 1), by omega, rfl, hlt, p'⟩, fun v H' y => ?_⟩
    obtain ⟨T, x', rfl, hT, rfl, f1⟩ := y
    exact hs i x' T σ H (f1 xs qx) p hT
  · have e : i = xs.length := by omega
    subst e
    exact .inl ⟨⟨xs, qx, Nat.le_refl _⟩, hd σ H p⟩
/-- a comprehension over enumerate of a list that stands still -/
theorem lc_enumL {K : PySem.W.Frag} {a : Addr} {xs : List V} {g : TG} {tt : TT} {te : TE} {vs : List Nat} {σ : L2.St} {H1 : Hp} {D : Addr} {Qd : Hp → Prop} (Pv : Nat → Hp → Prop) (h0 : Pv 0 (upd H1 D (.lst []))) (hl : ∀ i H, i ≤ xs.length → Pv i H → SqL K H a xs)
    (hs : ∀ (i : Nat) (x : V) (T : Addr) (H : Hp), xs[i]? = some x → Pv i H → H T = none → g (.ref T) (wipe σ vs) (upd H T (.tup [.int (i : Nat), x])) fun σ2 H2 => wipe σ2 vs = wipe σ vs ∧ tt σ2 H2 fun b H3 =>
      if b = true then te σ2 H3 fun y H4 => ∃ acc, H4 D = some (.lst acc) ∧ acc.length < sizeLine ∧ Pv (i + 1) (upd H4 D (.lst (acc ++ [y]))) else Pv (i + 1) H3) (hd : ∀ H, Pv xs.length H → Qd H) :
    ∃ W : Nat → Nat → Hp → Prop, (∃ m, W 0 m (upd H1 D (.lst []))) ∧ ∀ i m H, W i m H →
      ((Ite K a).stop i H ∧ Qd H) ∨ ((Ite K a).go i H ∧ ∃ Nx : Hp → Prop, (∀ H', Nx H' → ∃ m', m' < m ∧ W (i + 1) m' H') ∧ ∀ x H', (Ite K a).yld i H x H' → g x (wipe σ vs) H' fun σ2 H2 => wipe σ2 vs = wipe σ vs ∧ tt σ2 H2 fun b H3 =>
        if b = true then te σ2 H3 fun y H4 => ∃ acc, H4 D = some (.lst acc) ∧ acc.length < sizeLine ∧ Nx (upd H4 D (.lst (acc ++ [y]))) else Nx H3) := by
  refine ⟨fun i m H => m = xs.length - i ∧ i ≤ xs.length ∧ Pv i H, ⟨xs.length, by simp, Nat.zero_le _, h0⟩, ?_⟩
  rintro i m H ⟨rfl, hi, p⟩
  have q := hl i H hi p
  by_cases hlt : i < xs.length
  · refine .inr ⟨⟨xs, xs[i], q, by simp [hlt]⟩, Pv (i + 1), fun H' p' => ⟨xs.length - (i + 1), by omega, rfl, hlt, p'⟩, fun x H' y => ?_⟩
    obtain ⟨T, x', rfl, hT, rfl, f1⟩ := y
    exact hs i x' T H (f1 xs q) p hT
  · have e : i = xs.length := by omega
    subst e
    exact .inl ⟨⟨xs, q, Nat.le_refl _⟩, hd H p⟩
/-! ### the back of an order -/
def IsBack (ns ps : List Int) : Prop := ps.length = ns.length ∧ ∀ (j : Nat) (x : Int), ns[j]? = some x → ps[x.toNat]? = some (j : Int)
theorem ord_at {n : Nat} {ns : List Int} (o : IsOrd n ns) {t : Nat} (h : t < n) : ∃ j : Nat, j < n ∧ ns[j]? = some (t : Int) := by
  have m : (t : Int) ∈ ns := (List.Perm.mem_iff o).mpr (rg_mem.mpr ⟨by omega, by omega⟩)
  obtain ⟨j, hj⟩ := List.mem_iff_getElem?.mp m
  exact ⟨j, by have := (List.getElem?_eq_some_iff.mp hj).1; rw [o.len] at this; exact this, hj⟩
theorem ord_ix {n : Nat} {ns : List Int} (o : IsOrd n ns) {j : Nat} (h : j < n) : ∃ x : Int, ns[j]? = some x ∧ 0 ≤ x ∧ x < n := by
  have hj : j < ns.length := by rw [o.len]; exact h
  exact ⟨ns[j], List.getElem?_eq_getElem hj, o.mem (List.getElem_mem hj)⟩
theorem take_more {l : List Int} {i : Nat} {x : Int} (h : l[i]? = some x) : l.take (i + 1) = l.take i ++ [x] := by
  rw [List.take_add_one, h]
  rfl
theorem flat_ints : ∀ ns : List Int, (ns.map V.int).all flatV = true
  | [] => rfl
  | n :: r => by
    show (flatV (V.int n) && (r.map V.int).all flatV) = true
    rw [flat_ints r]
    rfl
end Fo
namespace Fo
open PySem PySem.Spec PyProof.Rows L2
/-! ### sorted(rows), rows a list of lists of whole numbers -/
def rowsR (ps : List (Addr × List Int)) : List (Addr × List Int) := ps.mergeSort fun p q => decide (p.2 ≤ q.2)
def rSortedR (K : PySem.W.Frag) : List V → Hp → VK → Prop := fun vs H Q => ∃ (a : Addr) (ps : List (Addr × List Int)), vs = [V.ref a] ∧ SqL K H a (ps.map fun p => V.ref p.1) ∧ (∀ p ∈ ps, Dp K H (.ref p.1) (dL p.2)) ∧
  ∀ q, H q = none → Q (.ref q) (upd H q (.lst ((rowsR ps).map fun p => V.ref p.1)))
theorem each_refs : ∀ {ps : List (Addr × List Int)} {us : List Value}, Vals (ps.map fun p => V.ref p.1) us → PySem.W.EachIs (fun v (p : Addr × List Int) => v = Value.ref p.1) us ps
  | [], _, .nil => .nil
  | p :: ps, _, .cons r t => .cons r (each_refs t)
theorem refs_each : ∀ {ps : List (Addr × List Int)} {us : List Value}, PySem.W.EachIs (fun v (p : Addr × List Int) => v = Value.ref p.1) us ps → Vals (ps.map fun p => V.ref p.1) us
  | _, _, .nil => .nil
  | _, _, .cons r t => .cons r (refs_each t)
theorem each_all {R S : Value → (Addr × List Int) → Prop} : ∀ {us : List Value} {ps : List (Addr × List Int)}, PySem.W.EachIs R us ps → (∀ v p, p ∈ ps → R v p → S v p) → PySem.W.EachIs S us ps
  | _, _, .nil, _ => .nil
  | _, _, .cons r t, h => .cons (h _ _ List.mem_cons_self r) (each_all t fun v p hp => h v p (List.mem_cons_of_mem _ hp))
theorem cr_sortedR {X : Cx} (hu : X.A.units + 64 < cLine) : CallR X (.builtin "sorted") (rSortedR X.K) := by
  intro pins s σ H vs us Q J rel hz
  obtain ⟨a, ps, ev, sq, hd, q⟩ := hz
  subst ev
  obtain ⟨its, rv, hl, hlen⟩ := J.list sq
  rw [Vals.ref1 rel]
  have e := each_refs rv
  have el := rv.length
  rw [List.length_map] at el hlen
  refine PySem.W.sorted_data (enc := fun p : Addr × List Int => .list (p.2.map .int)) hl.isList e (each_all e fun v p hp hv => ?_) (PySem.W.AllAlike.of fun b b' => ?_) (PySem.W.Sortable.others fun b => ⟨(fun z => by cases z), (fun xs z => by cases z)⟩) hlen (fun b _ => ?_) fun out ol eo => ?_
  · subst hv
    exact Dp.reads J _ _ _ (hd p hp) rfl
  · show PySem.W.alike (.list (b.2.map .int)) (.list (b'.2.map .int)) = true
    simp only [PySem.W.alike]
    exact PySem.W.alike_ints _ _
  · show X.A.units + 2 + (dL b.2).depth < cLine
    rw [depth_list]
    omega
  · rw [PySem.W.dataLe_rows (fun p : Addr × List Int => p.2)] at eo
    obtain ⟨ep, he⟩ := PyProof.Rows.sortedAll_at s.heap its out.toArray
    have hl2 : ((rowsR ps).map fun p => V.ref p.1).length ≤ sizeLine := by
      unfold rowsR
      rw [List.length_map, List.length_mergeSort]
      exact hlen
    exact ⟨.ref _, upd H (s.heap.objs.size + 1) (.lst ((rowsR ps).map fun p => V.ref p.1)), J.laid (t' := s.toks) (fun _ _ => PyProof.Rows.sortedAll_old) (Nat.le_succ _) ⟨hl2, out, ep, refs_each eo, he⟩, rfl, q _ (J.hok.fresh (Nat.le_succ _))⟩
theorem rows_le_total (a b : Addr × List Int) : (decide (a.2 ≤ b.2) || decide (b.2 ≤ a.2)) = true := by
  rcases List.le_total a.2 b.2 with h | h
  · rw [decide_eq_true h]; rfl
  · rw [decide_eq_true h, Bool.or_true]
theorem rowsR_perm (ps : List (Addr × List Int)) : (rowsR ps).Perm ps := List.mergeSort_perm _ _
theorem rowsR_sorted (ps : List (Addr × List Int)) : ((rowsR ps).map (·.2)).Pairwise (· ≤ ·) := by
  have h := List.pairwise_mergeSort (le := fun p q : Addr × List Int => decide (p.2 ≤ q.2)) (fun a b c h1 h2 => decide_eq_true (List.le_trans (of_decide_eq_true h1) (of_decide_eq_true h2))) rows_le_total ps
  exact List.pairwise_map.mpr (h.imp fun h => of_decide_eq_true h)
end Fo
namespace Fo
open PySem PySem.Spec PyProof.Rows L2
theorem units65 {k : Nat} {A : Around} (r : Room k A) : A.units + 65 < cLine := by have := r.un; omega
theorem any_row (rs : List (List Int)) (o : List Int) : ((rs.map dL).any fun z => PyData.eqv z (dL o)) = decide (o ∈ rs) := by
  induction rs with
  | nil => rfl
  | cons a rs ih =>
    rw [List.map_cons, List.any_cons, ih, eqv_ints]
    by_cases c : a = o
    · subst c; simp
    · have c2 : ¬ o = a := fun e => c e.symm
      simp [c, c2]
end Fo
namespace Fo
open PySem PySem.Spec PyProof.Rows L2
/-! defs that refuse -/
section
variable {P : Program} {w : World} {K : PySem.W.Frag} {mg : Str → Option Value} {base : Heap} {k : Nat} {f : Addr} {fd : FuncData} {ps : List Str}
theorem fn_up {sp : Sp} (F : FnOk P w K mg base CX0 k f fd ps sp) : FnOk P w K mg base (L2.CX P w) k f fd ps sp :=
  ⟨F.len, fun A outer s H args us vs Q E hr e0 hb hv hs => codeAny_mono (F.run A outer s H args us vs Q E hr e0 hb hv hs) fun r s' h => match r, h with
    | .error _, h => h.elim
    | .ok (.ret _), h => h
    | .ok .next, h => h
    | .ok .brk, h => h
    | .ok .cont, h => h⟩
theorem fn_or {CX : CXT} {sp sp' : Sp} (F : FnOk P w K mg base CX k f fd ps sp) (G : FnOk P w K mg base CX k f fd ps sp') : FnOk P w K mg base CX k f fd ps (fun vs H Q E => sp vs H Q E ∨ sp' vs H Q E) :=
  ⟨fun vs H Q E h => h.elim (F.len vs H Q E) (G.len vs H Q E), fun A outer s H args us vs Q E hr e0 hb hv hs => hs.elim (F.run A outer s H args us vs Q E hr e0 hb hv) (G.run A outer s H args us vs Q E hr e0 hb hv)⟩
def spNever : Sp := fun _ _ _ _ => False
theorem fn_never {CX : CXT} : FnOk P w K mg base CX k f fd ps spNever := ⟨fun _ _ _ _ h => h.elim, fun _ _ _ _ _ _ _ _ _ _ _ _ _ h => h.elim⟩
end
/-- an error class of the program, over ValueError -/
structure ExK (K : PySem.W.Frag) (mg : Str → Option Value) (x : Str) (C : Addr) : Prop where
  g : mg x = some (.ref C)
  q : PySem.W.excIn K C [.type "ValueError", .type "Exception", .type "BaseException", .type "object"] "ValueError.__new__" = true
  kp : PySem.W.keepIn K (.ref C) = true
  sb : PySem.W.subIn K (.ref C) (.type "BaseException") = some true
  ty : PySem.W.typeIn K (.ref C) = some (.type "type")
  ec : ExcC K C
section
variable {X : Cx}
theorem ps_raiseK {W : WX} {x m : Str} {C : Addr} {j : Nat} {p p2 pos pos' : Pos} (hc : X.calm = true) (tk : Takes X W) (c : ExK X.K X.mg x C) (hg : Gl X x) (hdb : (x == ("__debug__" : Str)) = false := by decide) :
    PS X (.Raise (some (.Call (.Name x p) [.Constant (.str m) j p2] [] pos)) none pos') (fun _ σ H => W (.ref C) none σ H) :=
  ps_raise hc tk (pmk_own PySem.F.excBase_ValueError c.q c.g c.kp (raises_own c.sb c.ty) hg hdb)
theorem ps_raiseA {W : WX} {x : Str} {C : Addr} {e : Expr} {ta : TE} {p pos pos' : Pos} (hc : X.calm = true) (tk : Takes X W) (c : ExK X.K X.mg x C) (hg : Gl X x) (he : PE X e ta) (hdb : (x == ("__debug__" : Str)) = false := by decide)
    (hs : starEach [e] X.env = (false, eval e X.env) :: starEach [] X.env := by rfl) :
    PS X (.Raise (some (.Call (.Name x p) [e] [] pos)) none pos') (fun _ σ H => ta σ H fun _ H1 => W (.ref C) none σ H1) :=
  ps_raise hc tk (SkE.pmk_own1 PySem.F.excBase_ValueError c.q c.g c.kp (raises_own c.sb c.ty) hg he hs hdb)
end
end Fo
namespace Fo
open PySem PySem.Spec PyProof.Rows L2
/-! how long a thing is, shown: added up -/
mutual
def wt : PyData → Nat
  | .none => 4
  | .bool _ => 5
  | .int i => (Str.ofString (toString i)).length
  | .str x => (reprText x).length
  | .list xs => wtL xs + 2
  | .tuple xs => wtL xs + 3
  | .dict kvs => wtK kvs + 2
def wtL : List PyData → Nat
  | [] => 0
  | x :: xs => wt x + 2 + wtL xs
def wtK : List (PyData × PyData) → Nat
  | [] => 0
  | (k, v) :: r => wt k + wt v + 4 + wtK r
end
theorem kvLen {k v : Str} : (k ++ Str.ofString ": " ++ v).length = k.length + v.length + 2 := by
  rw [strLen_append, strLen_append, show (Str.ofString ": ").length = 2 from rfl]
  omega
mutual
theorem shown_le : ∀ d : PyData, d.shown.length ≤ wt d
  | .none => by rw [PyData.shown, wt]; decide
  | .bool b => by rw [PyData.shown, wt]; cases b <;> decide
  | .int i => by rw [PyData.shown, wt]; exact Nat.le_refl _
  | .str x => by rw [PyData.shown, wt]; exact Nat.le_refl _
  | .list xs => by
    rw [PyData.shown, wt]
    have h1 := listText_le (PyData.shownAll xs)
    have h2 := piled_shown xs
    omega
  | .tuple xs => by
    rw [PyData.shown, wt]
    unfold tupleText
    rw [strLen_append, strLen_append]
    have h1 := join_le (PyData.shownAll xs)
    have h2 := piled_shown xs
    have e1 : (Str.ofString "(").length = 1 := rfl
    have e2 : (Str.ofString (if ((PyData.shownAll xs).length == 1) = true then ",)" else ")")).length ≤ 2 := by split <;> decide
    omega
  | .dict kvs => by
    rw [PyData.shown, wt]
    unfold dictText
    rw [strLen_append, strLen_append]
    have h1 := join_le (PyData.shownKv kvs)
    have h2 := piled_kv kvs
    have e1 : (Str.ofString "{").length = 1 := rfl
    have e2 : (Str.ofString "}").length = 1 := rfl
    omega
theorem piled_shown : ∀ xs : List PyData, piled (PyData.shownAll xs) ≤ wtL xs
  | [] => by rw [PyData.shownAll, piled_nil]; exact Nat.zero_le _
  | x :: xs => by
    rw [PyData.shownAll, piled_cons, wtL]
    have h1 := shown_le x
    have h2 := piled_shown xs
    omega
theorem piled_kv : ∀ ks : List (PyData × PyData), piled (PyData.shownKv ks) ≤ wtK ks
  | [] => by rw [PyData.shownKv, piled_nil]; exact Nat.zero_le _
  | (a, b) :: ks => by
    rw [PyData.shownKv, piled_cons, wtK]
    have h1 := shown_le a
    have h2 := shown_le b
    have h3 := piled_kv ks
    have e : (PyData.shown a ++ ": " ++ PyData.shown b).length = (PyData.shown a).length + (PyData.shown b).length + 2 := kvLen
    omega
end
/-- fit to be shown, in m signs, k deep -/
structure Rw (m k : Nat) (d : PyData) : Prop where
  s : d.showable = true
  l : wt d ≤ m
  d : d.depth ≤ k
structure Rws (m k : Nat) (ds : List PyData) : Prop where
  s : PyData.showableAll ds = true
  l : wtL ds ≤ m
  d : PyData.depthAll ds ≤ k
theorem Rw.rp {m k : Nat} {d : PyData} (h : Rw m k d) (hk : k ≤ 20) : Rp m d := ⟨h.s, Nat.le_trans (shown_le d) h.l, Nat.le_trans h.d hk⟩
theorem Rw.mono {m k m' k' : Nat} {d : PyData} (h : Rw m k d) (hm : m ≤ m') (hk : k ≤ k') : Rw m' k' d := ⟨h.s, Nat.le_trans h.l hm, Nat.le_trans h.d hk⟩
theorem Rws.mono {m k m' k' : Nat} {d : List PyData} (h : Rws m k d) (hm : m ≤ m') (hk : k ≤ k') : Rws m' k' d := ⟨h.s, Nat.le_trans h.l hm, Nat.le_trans h.d hk⟩
theorem rw_str {x : Str} {n : Nat} (h : (reprText x).length ≤ n) : Rw n 0 (.str x) := ⟨by rw [PyData.showable], by rw [wt]; exact h, by rw [PyData.depth]; exact Nat.le_refl _⟩
theorem wtL_app : ∀ a b : List PyData, wtL (a ++ b) = wtL a + wtL b
  | [], b => by rw [List.nil_append, wtL, Nat.zero_add]
  | x :: a, b => by
    rw [List.cons_append, wtL, wtL, wtL_app a b]
    omega
theorem showAll_app : ∀ a b : List PyData, PyData.showableAll (a ++ b) = (PyData.showableAll a && PyData.showableAll b)
  | [], b => by rw [List.nil_append, PyData.showableAll, Bool.true_and]
  | x :: a, b => by rw [List.cons_append, PyData.showableAll, PyData.showableAll, showAll_app a b, Bool.and_assoc]
theorem depAll_app : ∀ a b : List PyData, PyData.depthAll (a ++ b) = max (PyData.depthAll a) (PyData.depthAll b)
  | [], b => by rw [List.nil_append, PyData.depthAll, Nat.zero_max]
  | x :: a, b => by
    rw [List.cons_append, PyData.depthAll, PyData.depthAll, depAll_app a b]
    omega
theorem Rws.left {m k : Nat} {a b : List PyData} (h : Rws m k (a ++ b)) : Rws m k a := by
  have h1 := h.s
  have h2 := h.l
  have h3 := h.d
  rw [showAll_app, Bool.and_eq_true] at h1
  rw [wtL_app] at h2
  rw [depAll_app] at h3
  exact ⟨h1.1, by omega, by omega⟩
theorem Rws.right {m k : Nat} {a b : List PyData} (h : Rws m k (a ++ b)) : Rws m k b := by
  have h1 := h.s
  have h2 := h.l
  have h3 := h.d
  rw [showAll_app, Bool.and_eq_true] at h1
  rw [wtL_app] at h2
  rw [depAll_app] at h3
  exact ⟨h1.2, by omega, by omega⟩
theorem Rws.take {m k : Nat} {a : List PyData} (h : Rws m k a) (n : Nat) : Rws m k (a.take n) := Rws.left (b := a.drop n) (by rw [List.take_append_drop]; exact h)
theorem Rws.drop {m k : Nat} {a : List PyData} (h : Rws m k a) (n : Nat) : Rws m k (a.drop n) := Rws.right (a := a.take n) (by rw [List.take_append_drop]; exact h)
theorem Rws.mem {m k : Nat} {x : PyData} : ∀ {a : List PyData}, Rws m k a → x ∈ a → Rw m k x
  | [], _, h => absurd h List.not_mem_nil
  | y :: a, h, hx => by
    have h1 := h.s
    have h2 := h.l
    have h3 := h.d
    rw [PyData.showableAll, Bool.and_eq_true] at h1
    rw [wtL] at h2
    rw [PyData.depthAll] at h3
    rcases List.mem_cons.mp hx with rfl | hx
    · exact ⟨h1.1, by omega, by omega⟩
    · exact Rws.mem (a := a) ⟨h1.2, by omega, by omega⟩ hx
theorem Rw.lst {m k : Nat} {ds : List PyData} (h : Rw m k (.list ds)) : ∃ j, j + 1 = k ∧ Rws m j ds := by
  have h1 := h.s
  have h2 := h.l
  have h3 := h.d
  rw [PyData.showable] at h1
  rw [wt] at h2
  rw [PyData.depth] at h3
  exact ⟨k - 1, by omega, h1, by omega, by omega⟩
end Fo
namespace Fo
open PySem PySem.Spec PyProof.Rows L2
/-! expressions that make things of any kind: what they are, and how long they are shown -/
/-- what draws numbers, and what stays while it draws -/
structure Src where
  At : Hp → Prop
  Kp : Hp → Hp → Prop
  cut : Hp → Hp
  refl : ∀ H, Kp H H
  trans : ∀ {a b c}, Kp a b → Kp b c → Kp a c
  kp : ∀ {H H'}, Kp H H' → Same (cut H) (cut H')
  le : ∀ H, Same (cut H) H
  same : ∀ {H H'}, At H → Same H H' → At H' ∧ Kp H H'
  put : ∀ {H H1 p} (o : HO), At H → Kp H H1 → At H1 → H p = none → At (upd H1 p o) ∧ Kp H (upd H1 p o) ∧ (cut (upd H1 p o)) p = some o ∧ ∀ b, b ≠ p → cut (upd H1 p o) b = cut H1 b
theorem Src.new (S : Src) {H : Hp} {p : Addr} (o : HO) (h : S.At H) (np : H p = none) : (S.cut (upd H p o)) p = some o := (S.put o h (S.refl H) h np).2.2.1
def Od (S : Src) (m k : Nat) (B : PyData → Prop) (H : Hp) (v : V) : Prop := ∃ d, Dq (S.cut H) v d ∧ Rw m k d ∧ B d
theorem Od.kp {S : Src} {m k : Nat} {B : PyData → Prop} {H H' : Hp} {v : V} (h : Od S m k B H v) (e : S.Kp H H') : Od S m k B H' v := by
  obtain ⟨d, h1, h2, h3⟩ := h
  exact ⟨d, h1.same (S.kp e), h2, h3⟩
theorem Od.mono {S : Src} {m k m' k' : Nat} {B C : PyData → Prop} {H : Hp} {v : V} (h : Od S m k B H v) (hm : m ≤ m') (hk : k ≤ k') (i : ∀ d, B d → C d) : Od S m' k' C H v := by
  obtain ⟨d, h1, h2, h3⟩ := h
  exact ⟨d, h1, h2.mono hm hk, i d h3⟩
abbrev oL (A : List PyData → Prop) : PyData → Prop := fun d => ∃ ds, d = .list ds ∧ A ds
abbrev oT (A : List PyData → Prop) : PyData → Prop := fun d => ∃ ds, d = .tuple ds ∧ A ds
def OE (S : Src) (t : TE) (σ : L2.St) (H : Hp) (m k : Nat) (B : PyData → Prop) : Prop := ∀ H1 Q, S.Kp H H1 → S.At H1 → (∀ v H2, S.Kp H1 H2 → S.At H2 → Od S m k B H2 v → Q v H2) → t σ H1 Q
section
variable {S : Src} {σ : L2.St} {H : Hp} {m k a b : Nat} {B C : PyData → Prop} {t u : TE}
theorem OE.kp (h : OE S t σ H m k B) {H' : Hp} (e : S.Kp H H') : OE S t σ H' m k B := fun H1 Q e1 at1 q => h H1 Q (S.trans e e1) at1 q
theorem OE.mono (h : OE S t σ H m k B) {m' k' : Nat} (hm : m ≤ m') (hk : k ≤ k') (i : ∀ d, B d → C d) : OE S t σ H m' k' C := fun H1 Q e1 at1 q => h H1 Q e1 at1 fun v H2 e2 at2 o => q v H2 e2 at2 (o.mono hm hk i)
theorem OE.imp (h : OE S t σ H m k B) (i : ∀ d, B d → C d) : OE S t σ H m k C := h.mono (Nat.le_refl _) (Nat.le_refl _) i
theorem dq_lst {G : Hp} {v : V} {ds : List PyData} (h : Dq G v (.list ds)) : ∃ p xs, v = .ref p ∧ G p = some (.lst xs) ∧ DqAll G xs ds := by
  cases h with
  | @lst p xs _ e al => exact ⟨p, xs, rfl, e, al⟩
/-- a slice of anything -/
def cutG {α : Type} (xs : List α) (lo hi : Option Int) : List α := (xs.drop (HT.sIx xs.length 0 lo)).take (HT.sIx xs.length xs.length hi - HT.sIx xs.length 0 lo)
theorem DqAll.cut {G : Hp} {vs : List V} {ds : List PyData} (h : DqAll G vs ds) (lo hi : Option Int) : DqAll G (cutV vs lo hi) (cutG ds lo hi) := by
  unfold cutV cutG
  rw [h.len]
  exact (h.drop _).take _
/-! statements -/
end
end Fo
namespace Fo
open PySem PySem.Spec PyProof.Rows L2
/-! comprehensions whose values are flat; ranges; the store as a source -/
/-- two lists, one by one -/
inductive Two2 {α β : Type} (R : α → β → Prop) : List α → List β → Prop
  | nil : Two2 R [] []
  | snoc {xs : List α} {ys : List β} {x : α} {y : β} : Two2 R xs ys → R x y → Two2 R (xs ++ [x]) (ys ++ [y])
theorem Two2.len {α β : Type} {R : α → β → Prop} {xs : List α} {ys : List β} (h : Two2 R xs ys) : xs.length = ys.length := by
  induction h with
  | nil => rfl
  | snoc _ _ ih => rw [List.length_append, List.length_append, ih]; rfl
section
variable {S : Src} {σ : L2.St} {H : Hp} {m k a b : Nat} {B C : PyData → Prop} {t u : TE}
theorem dqAll_intsG {G : Hp} : ∀ {ns : List Int}, DqAll G (ns.map V.int) (ns.map PyData.int)
  | [] => .nil
  | n :: r => .cons (.int n) dqAll_intsG
end
end Fo
namespace Fo
open PySem PySem.Spec PyProof.Rows L2
/-! short texts -/
structure TxOk (m : Nat) (x : Str) : Prop where
  l : x.length ≤ m
  c : ∀ c ∈ x.cps.toList, c < 16 ^ 8
theorem TxOk.cut {m : Nat} {x : Str} (a : TxOk m x) (lo hi : Option Int) : TxOk m (cutS x lo hi) := by
  refine ⟨?_, fun c hc => ?_⟩
  · have := a.l
    show (((x.cps.toList.drop _).take _).toArray).size ≤ m
    rw [List.size_toArray, List.length_take, List.length_drop, Array.length_toList]
    have e : x.length = x.cps.size := rfl
    omega
  · have hc : c ∈ (x.cps.toList.drop _).take _ := hc
    exact a.c c (List.mem_of_mem_drop (List.mem_of_mem_take hc))
theorem TxOk.mono {m n : Nat} {x : Str} (a : TxOk m x) (h : m ≤ n) : TxOk n x := ⟨Nat.le_trans a.l h, a.c⟩
theorem TxOk.rw {m : Nat} {x : Str} (a : TxOk m x) : Rw (10 * m + 2) 0 (.str x) := rw_str (by
  have h1 := StrLaws.reprText_len x a.c
  have h2 := a.l
  omega)
end Fo
namespace Fo
open PySem PySem.Spec PyProof.Rows L2
/-! what is no order is refused -/
def lenD : PyData → Nat
  | .list ds => ds.length
  | _ => 0
theorem good_at {H : Hp} {v : V} {d : PyData} (h : Dq H v d) (g : GoodD d) : ∃ (a : Addr) (ns : List Int), v = .ref a ∧ H a = some (.lst (ns.map V.int)) ∧ IsOrd ns.length ns ∧ 1 ≤ ns.length ∧ ns.length ≤ 12 ∧ lenD d = ns.length := by
  obtain ⟨ns, rfl, h1, h2, h3⟩ := g
  cases h with
  | @lst a xs _ e al =>
    have := dq_intsV al
    subst this
    exact ⟨a, ns, rfl, e, h1, h2, h3, List.length_map _⟩
def spChk (cO : Addr) : Sp := fun vs H Q E => ∃ (v : V) (d : PyData), vs = [v] ∧ Dq H v d ∧ (GoodD d → ∀ H', Same H H' → Q .non H') ∧ (¬ GoodD d → ∀ H', Same H H' → E (.ref cO) none H')
section
variable {P : Program} {w : World} {K : PySem.W.Frag} {mg : Str → Option Value} {base : Heap}
theorem scChk : FnScope ["thing"] ["thing"] (defScope s_check_order) := ⟨rfl, rfl, rfl, by decide +kernel, rfl, by decide +kernel, by decide +kernel⟩
theorem ok_chk {f f1 cO : Addr} {fd d1 : FuncData} {k : Nat} (T : Df K mg "check_order" s_check_order ["thing"] f fd) (T_is_order : Df K mg "is_order" s_is_order ["thing"] f1 d1) (G_is_order : FnOk P w K mg base CX0 k f1 d1 ["thing"] spIsOrdD) (X_NoOrder : ExK K mg "NoOrder" cO) : FnOk P w K mg base (L2.CX P w) (k + 1) f fd ["thing"] (spChk cO) := by
  refine T.F.okX scChk (fun vs H Q E h => ?_) (fun cdv A outer s H vs Q E hr h => ?_)
  · obtain ⟨v, d, rfl, _⟩ := h
    rfl
  · obtain ⟨v, d, rfl, hd, q1, q2⟩ := h
    refine ⟨_, 
      (pss_one (ps_if (pt_not (pt_val (pe_call G_is_order hr (by rfl) T_is_order.g T_is_order.F.kp T_is_order.b .nil pass0 (pa_cons (pv 0) pa_nil))))
        (pss_one (ps_raiseK rfl (takes_of rfl rfl rfl rfl) X_NoOrder (by rfl)))
        pss_nil)), ?_⟩
    refine ⟨_, rfl, v, d, rfl, hd, fun b H1 hb s1 => ?_⟩
    refine ⟨_, rfl, ?_⟩
    cases b with
    | true => exact iteF (q1 (hb.mp rfl) _ s1)
    | false => exact iteT (q2 (fun z => absurd (hb.mpr z) Bool.false_ne_true) _ s1)
end
end Fo
namespace Fo
open PySem PySem.Spec PyProof.Rows L2
def spFitX (cF : Addr) : Sp := fun vs H Q E => ∃ (a b : Addr) (xs ys : List V), vs = [.ref a, .ref b] ∧ H a = some (.lst xs) ∧ H b = some (.lst ys) ∧ (xs.length = ys.length → Q .non H) ∧ (xs.length ≠ ys.length → E (.ref cF) none H)
section
variable {P : Program} {w : World} {K : PySem.W.Frag} {mg : Str → Option Value} {base : Heap}
theorem scFitX : FnScope ["one", "other"] ["one", "other"] (defScope s_check_fit) := ⟨rfl, rfl, rfl, by decide +kernel, rfl, by decide +kernel, by decide +kernel⟩
theorem ok_fitX {f cF : Addr} {fd : FuncData} {k : Nat} (T : Df K mg "check_fit" s_check_fit ["one", "other"] f fd) (X_NoFit : ExK K mg "NoFit" cF) (B : Bi mg) : FnOk P w K mg base (L2.CX P w) (k + 1) f fd ["one", "other"] (spFitX cF) := by
  refine T.F.okX scFitX (fun vs H Q E h => ?_) (fun cdv A outer s H vs Q E hr h => ?_)
  · obtain ⟨a, b, xs, ys, rfl, _⟩ := h
    rfl
  · obtain ⟨a, b, xs, ys, rfl, ha, hb, q1, q2⟩ := h
    refine ⟨_, 
      (pss_one (ps_if (pt_cmpR op_ne (pe_callB call_len_seq (by rfl) B.len PySem.boot_len (pa_cons (pv 0) pa_nil)) (pe_callB call_len_seq (by rfl) B.len PySem.boot_len (pa_cons (pv 1) pa_nil)) (nomark _))
        (pss_one (ps_raiseK rfl (takes_of rfl rfl rfl rfl) X_NoFit (by rfl)))
        pss_nil)), ?_⟩
    refine ⟨_, rfl, a, _, rfl, .inl (SqL.of ha), _, rfl, b, _, rfl, .inl (SqL.of hb), rfl, _, rfl, ?_⟩
    by_cases c : xs.length = ys.length
    · rw [c, decide_eq_true rfl]
      exact iteF (q1 c)
    · rw [decide_eq_false (show ¬ (V.int ((xs.length : Nat) : Int) = V.int ((ys.length : Nat) : Int)) from fun z => by injection z with z; omega)]
      exact iteT (q2 c)
end
end Fo
namespace Fo
open PySem PySem.Spec PyProof.Rows L2
/-- C is the i-th of the nine error classes, and none of the others -/
structure KdY (K : PySem.W.Frag) (c : Nat → Addr) (C : Addr) (i : Nat) : Prop where
  ec : ExcC K C
  ks : ∀ j, j < 9 → PySem.W.kitOne K (.ref C) (.ref (c j)) = some (decide (j = i))
  ve : PySem.W.kitOne K (.ref C) (.type "ValueError") = some true
  lt : i < 9
def cls9 (a0 a1 a2 a3 a4 a5 a6 a7 a8 : Addr) : Nat → Addr
  | 0 => a0
  | 1 => a1
  | 2 => a2
  | 3 => a3
  | 4 => a4
  | 5 => a5
  | 6 => a6
  | 7 => a7
  | _ => a8
theorem kd_mk9 {K : PySem.W.Frag} {C a0 a1 a2 a3 a4 a5 a6 a7 a8 : Addr} {i : Nat} (ec : ExcC K C) (h0 : PySem.W.kitOne K (.ref C) (.ref a0) = some (decide (0 = i))) (h1 : PySem.W.kitOne K (.ref C) (.ref a1) = some (decide (1 = i))) (h2 : PySem.W.kitOne K (.ref C) (.ref a2) = some (decide (2 = i))) (h3 : PySem.W.kitOne K (.ref C) (.ref a3) = some (decide (3 = i))) (h4 : PySem.W.kitOne K (.ref C) (.ref a4) = some (decide (4 = i))) (h5 : PySem.W.kitOne K (.ref C) (.ref a5) = some (decide (5 = i))) (h6 : PySem.W.kitOne K (.ref C) (.ref a6) = some (decide (6 = i))) (h7 : PySem.W.kitOne K (.ref C) (.ref a7) = some (decide (7 = i))) (h8 : PySem.W.kitOne K (.ref C) (.ref a8) = some (decide (8 = i))) (ve : PySem.W.kitOne K (.ref C) (.type "ValueError") = some true) (lt : i < 9) : KdY K (cls9 a0 a1 a2 a3 a4 a5 a6 a7 a8) C i := by
  refine ⟨ec, fun j hj => ?_, ve, lt⟩
  rcases (show j = 0 ∨ j = 1 ∨ j = 2 ∨ j = 3 ∨ j = 4 ∨ j = 5 ∨ j = 6 ∨ j = 7 ∨ j = 8 by omega) with rfl | rfl | rfl | rfl | rfl | rfl | rfl | rfl | rfl
  · exact h0
  · exact h1
  · exact h2
  · exact h3
  · exact h4
  · exact h5
  · exact h6
  · exact h7
  · exact h8
/-- bools and a new list of them -/
theorem nb (bs : List Bool) {H : Hp} {p : Addr} (np : H p = none) : Same H (upd H p (.lst (bs.map V.bl))) ∧ (upd H p (.lst (bs.map V.bl))) p = some (.lst (bs.map V.bl)) := ⟨same_new np, upd_same⟩
end Fo
namespace Fo
open PySem PySem.Spec PyProof.Rows L2
def IsWay (w : Str) : Prop := w = "swap" ∨ w = "spot" ∨ w = "shift"
theorem n1 : ¬ (("spot" : Str) = "swap") := by decide +kernel
theorem n2 : ¬ (("shift" : Str) = "swap") := by decide +kernel
theorem n3 : ¬ (("shift" : Str) = "spot") := by decide +kernel
/-- the ways as the top has written them -/
structure Wy (K : PySem.W.Frag) (mg : Str → Option Value) (aW : Addr) : Prop where
  g : mg "WAYS" = some (.ref aW)
  t : ∀ H : Hp, SqT K H aW [.str "swap", .str "spot", .str "shift"]
theorem wy_mk {K : PySem.W.Frag} {mg : Str → Option Value} {aW : Addr} {dd : Option Addr} {n : Nat} {t1 t2 t3 : Tok} {sl : Array (Option Value)} (g : mg "WAYS" = some (.ref aW)) (l : K.lookup aW = some ⟨.type "tuple", dd, .seq #[.str "swap" t1, .str "spot" t2, .str "shift" t3] n, sl⟩) : Wy K mg aW :=
  ⟨g, fun H => .inr ⟨_, _, _, l, rfl, rfl, line_small (by show 3 ≤ 16777216; decide), .cons ⟨_, rfl⟩ (.cons ⟨_, rfl⟩ (.cons ⟨_, rfl⟩ .nil))⟩⟩
def spWay : Sp := fun vs H Q _ => ∃ (w : Str), vs = [.str w] ∧ IsWay w ∧ Q .non H
section
variable {P : Program} {w : World} {K : PySem.W.Frag} {mg : Str → Option Value} {base : Heap}
theorem scWay : FnScope ["thing"] ["thing"] (defScope s_check_way) := ⟨rfl, rfl, rfl, by decide +kernel, rfl, by decide +kernel, by decide +kernel⟩
theorem ok_way {f aW : Addr} {fd : FuncData} {k : Nat} (T : Df K mg "check_way" s_check_way ["thing"] f fd) (W : Wy K mg aW) (B : Bi mg) : FnOk P w K mg base CX0 (k + 1) f fd ["thing"] spWay := by
  refine T.F.ok scWay (fun vs H Q E h => ?_) (fun cdv A outer s H vs Q E hr h => ?_)
  · obtain ⟨z, rfl, _⟩ := h
    rfl
  · obtain ⟨z, rfl, hz, q⟩ := h
    refine ⟨_, 
      (pss_one (ps_if (PW.pt (pw_or (pt_not (pt_val (pe_callB call_isi (by rfl) B.isinstance (by decide +kernel) (pa_cons (pv 0) (pa_cons (pe_bltn (v := .ty "str") (by rfl) B.str (by decide +kernel) rfl) pa_nil))))) (pw_or1 (pt_cmpR op_notIn_seq (pv 0) (pe_glob (v := .ref aW) (by rfl) W.g rfl) (by rfl)))))
        (pss_one ps_never)
        pss_nil)), ?_⟩
    refine ⟨_, rfl, _, _, _, _, true, rfl, .ty _, .base (.str _), kit_ty (by decide +kernel), true, rfl, iteF ?_⟩
    rcases hz with rfl | rfl | rfl
    · exact ⟨_, rfl, aW, _, rfl, .inr (W.t H), rfl, rfl, _, rfl, ite2 (fun c => absurd c (by decide +kernel)) (fun _ => q)⟩
    · exact ⟨_, rfl, aW, _, rfl, .inr (W.t H), rfl, rfl, _, rfl, ite2 (fun c => absurd c (by decide +kernel)) (fun _ => q)⟩
    · exact ⟨_, rfl, aW, _, rfl, .inr (W.t H), rfl, rfl, _, rfl, ite2 (fun c => absurd c (by decide +kernel)) (fun _ => q)⟩
end
end Fo
namespace Fo
open PySem PySem.Spec PyProof.Rows L2
def WayD (d : PyData) : Prop := ∃ z : Str, d = .str z ∧ IsWay z
def spWayX (cW : Addr) : Sp := fun vs H Q E => ∃ (v : V) (d : PyData), vs = [v] ∧ Dq H v d ∧ (WayD d → Q .non H) ∧ (¬ WayD d → E (.ref cW) none H)
theorem inV_ways (z : Str) : inV (.str z) [.str "swap", .str "spot", .str "shift"] = decide (z = "swap" ∨ z = "spot" ∨ z = "shift") := by
  have e : ∀ x : Str, eqV (.str x) (.str z) = decide (z = x) := fun x => by
    unfold eqV
    by_cases h : x = z
    · subst h
      simp
    · have h2 : ¬ z = x := fun y => h y.symm
      simp [h, h2]
  unfold inV
  simp only [List.any_cons, List.any_nil, e, Bool.or_false]
  by_cases h1 : z = "swap"
  · simp [h1]
  · by_cases h2 : z = "spot"
    · simp [h2]
    · by_cases h3 : z = "shift"
      · simp [h3]
      · simp [h1, h2, h3]
section
variable {P : Program} {w : World} {K : PySem.W.Frag} {mg : Str → Option Value} {base : Heap}
theorem scWayX : FnScope ["thing"] ["thing"] (defScope s_check_way) := ⟨rfl, rfl, rfl, by decide +kernel, rfl, by decide +kernel, by decide +kernel⟩
theorem ok_wayX {f aW cW : Addr} {fd : FuncData} {k : Nat} (T : Df K mg "check_way" s_check_way ["thing"] f fd) (W : Wy K mg aW) (X_NoWay : ExK K mg "NoWay" cW) (B : Bi mg) : FnOk P w K mg base (L2.CX P w) (k + 1) f fd ["thing"] (spWayX cW) := by
  refine T.F.okX scWayX (fun vs H Q E h => ?_) (fun cdv A outer s H vs Q E hr h => ?_)
  · obtain ⟨v, d, rfl, _⟩ := h
    rfl
  · obtain ⟨v, d, rfl, hd, q1, q2⟩ := h
    refine ⟨_, 
      (pss_one (ps_if (PW.pt (pw_or (pt_not (pt_val (pe_callB call_isi (by rfl) B.isinstance (by decide +kernel) (pa_cons (pv 0) (pa_cons (pe_bltn (v := .ty "str") (by rfl) B.str (by decide +kernel) rfl) pa_nil))))) (pw_or1 (pt_cmpR op_notIn_seq (pv 0) (pe_glob (v := .ref aW) (by rfl) W.g rfl) (by rfl)))))
        (pss_one (ps_raiseK rfl (takes_of rfl rfl rfl rfl) X_NoWay (by rfl)))
        pss_nil)), ?_⟩
    refine ⟨_, rfl, _, _, _, _, isStrD d, rfl, .ty _, dq_ty hd, kit_strD d, _, rfl, ?_⟩
    cases hd with
    | str z =>
      refine iteF ⟨_, rfl, aW, _, rfl, .inr (W.t H), rfl, rfl, _, rfl, ?_⟩
      show if (!inV (.str z) [.str "swap", .str "spot", .str "shift"]) = true then _ else _
      rw [inV_ways]
      by_cases c : z = "swap" ∨ z = "spot" ∨ z = "shift"
      · rw [decide_eq_true c]
        exact iteF (q1 ⟨z, rfl, c⟩)
      · rw [decide_eq_false c]
        exact iteT (q2 fun y => by obtain ⟨z2, e, h⟩ := y; injection e with e; subst e; exact c h)
    | _ => exact iteT (iteT (q2 fun y => by obtain ⟨z2, e, h⟩ := y; cases e))
end
end Fo
namespace Fo
open PySem PySem.Spec PyProof.Rows L2
/-! what is no number is refused -/
def SizeD (most : Int) (d : PyData) : Prop := ∃ i : Int, d = .int i ∧ 1 ≤ i ∧ i ≤ most
def FromD (least : Int) (d : PyData) : Prop := ∃ i : Int, d = .int i ∧ least ≤ i
def spSizeX (cN : Addr) : Sp := fun vs H Q E => ∃ (v : V) (d : PyData) (most : Int), vs = [v, .int most] ∧ Dq H v d ∧ 0 ≤ most ∧ most ≤ 1000 ∧ (SizeD most d → Q .non H) ∧ (¬ SizeD most d → E (.ref cN) none H)
def spFromX (cN : Addr) : Sp := fun vs H Q E => ∃ (v : V) (d : PyData) (least : Int), vs = [v, .int least] ∧ Dq H v d ∧ 0 ≤ least ∧ least ≤ 1000 ∧ (FromD least d → Q .non H) ∧ (¬ FromD least d → E (.ref cN) none H)
theorem log2_1000 {i : Int} (h1 : 0 ≤ i) (h2 : i ≤ 1000) : i.natAbs.log2 < 1920 := by
  by_cases z : i.natAbs = 0
  · rw [z]
    decide
  · have : i.natAbs.log2 < 10 := by
      rw [Nat.log2_lt z]
      omega
    omega
theorem text_1000 {i : Int} (h1 : 0 ≤ i) (h2 : i ≤ 1000) : (Str.ofString (toString i)).length ≤ 20 := by
  have h : i.natAbs.log2 < 10 := by
    by_cases z : i.natAbs = 0
    · rw [z]
      decide
    · rw [Nat.log2_lt z]
      omega
  have := int_text_length_le (k := 10) (by decide) h
  rw [PySem.ofString_length]
  omega
section
variable {P : Program} {w : World} {K : PySem.W.Frag} {mg : Str → Option Value} {base : Heap}
theorem scSizeX : FnScope ["thing", "most"] ["thing", "most"] (defScope s_check_size) := ⟨rfl, rfl, rfl, by decide +kernel, rfl, by decide +kernel, by decide +kernel⟩
theorem ok_sizeX {f f1 cN : Addr} {fd d1 : FuncData} {k : Nat} (T : Df K mg "check_size" s_check_size ["thing", "most"] f fd) (T_is_whole : Df K mg "is_whole" s_is_whole ["thing"] f1 d1) (G_is_whole : FnOk P w K mg base CX0 k f1 d1 ["thing"] spWholeD) (X_NoNumber : ExK K mg "NoNumber" cN) (B : Bi mg) : FnOk P w K mg base (L2.CX P w) (k + 1) f fd ["thing", "most"] (spSizeX cN) := by
  refine T.F.okX scSizeX (fun vs H Q E h => ?_) (fun cdv A outer s H vs Q E hr h => ?_)
  · obtain ⟨v, d, most, rfl, _⟩ := h
    rfl
  · obtain ⟨v, d, most, rfl, hd, m0, m1, q1, q2⟩ := h
    refine ⟨_, 
      (pss_one (ps_if (PW.pt (pw_or (pt_not (pt_val (pe_call G_is_whole hr (by rfl) T_is_whole.g T_is_whole.F.kp T_is_whole.b .nil pass0 (pa_cons (pv 0) pa_nil)))) (pw_or (pt_cmpR op_lt (pv 0) pe_int (nomark _)) (pw_or1 (pt_cmpR op_gt (pv 0) (pv 1) (nomark _))))))
        (pss_one (ps_raiseA rfl (takes_of rfl rfl rfl rfl) X_NoNumber (by rfl) (pe_joined (PJ.cons pe_str (PJ.cons (pe_fmt (pv 1)) PJ.nil)))))
        pss_nil)), ?_⟩
    have bad : ¬ SizeD most d → tJs [tC (.str "not a whole number from 1 to "), tFmt (tVar 1)] Str.empty [some v, some (.int most)] H fun _ H1 => E (.ref cN) none H1 := fun n => by
      refine ⟨_, rfl, by decide +kernel, _, rfl, .inr ⟨most, rfl, log2_1000 m0 m1, _, rfl, ?_, q2 n⟩⟩
      rw [strLen_append]
      have := text_1000 m0 m1
      exact line_small (by
        have e : (Str.empty ++ ("not a whole number from 1 to " : Str)).length ≤ 40 := by decide +kernel
        have e2 : (toString most : Str) = Str.ofString (toString most) := rfl
        omega)
    refine ⟨_, rfl, v, d, rfl, hd, _, rfl, ?_⟩
    cases hd with
    | int y =>
      refine iteF ⟨_, rfl, y, 1, rfl, rfl, _, rfl, ?_⟩
      by_cases c0 : y < 1
      · rw [decide_eq_true c0]
        exact iteT (iteT (bad fun z => by obtain ⟨i, e, h, _⟩ := z; injection e with e; omega))
      · rw [decide_eq_false c0]
        refine iteF ⟨_, rfl, _, rfl, y, most, rfl, rfl, _, rfl, ?_⟩
        by_cases c1 : most < y
        · rw [decide_eq_true c1]
          exact iteT (bad fun z => by obtain ⟨i, e, _, h⟩ := z; injection e with e; omega)
        · rw [decide_eq_false c1]
          exact iteF (q1 ⟨y, rfl, by omega, by omega⟩)
    | _ => exact iteT (iteT (bad fun z => by obtain ⟨i, e, _⟩ := z; cases e))
theorem scFromX : FnScope ["thing", "least"] ["thing", "least"] (defScope s_check_from) := ⟨rfl, rfl, rfl, by decide +kernel, rfl, by decide +kernel, by decide +kernel⟩
theorem ok_fromX {f f1 cN : Addr} {fd d1 : FuncData} {k : Nat} (T : Df K mg "check_from" s_check_from ["thing", "least"] f fd) (T_is_whole : Df K mg "is_whole" s_is_whole ["thing"] f1 d1) (G_is_whole : FnOk P w K mg base CX0 k f1 d1 ["thing"] spWholeD) (X_NoNumber : ExK K mg "NoNumber" cN) (B : Bi mg) : FnOk P w K mg base (L2.CX P w) (k + 1) f fd ["thing", "least"] (spFromX cN) := by
  refine T.F.okX scFromX (fun vs H Q E h => ?_) (fun cdv A outer s H vs Q E hr h => ?_)
  · obtain ⟨v, d, most, rfl, _⟩ := h
    rfl
  · obtain ⟨v, d, most, rfl, hd, m0, m1, q1, q2⟩ := h
    refine ⟨_, 
      (pss_one (ps_if (PW.pt (pw_or (pt_not (pt_val (pe_call G_is_whole hr (by rfl) T_is_whole.g T_is_whole.F.kp T_is_whole.b .nil pass0 (pa_cons (pv 0) pa_nil)))) (pw_or1 (pt_cmpR op_lt (pv 0) (pv 1) (nomark _)))))
        (pss_one (ps_raiseA rfl (takes_of rfl rfl rfl rfl) X_NoNumber (by rfl) (pe_joined (PJ.cons pe_str (PJ.cons (pe_fmt (pv 1)) (PJ.cons pe_str PJ.nil))))))
        pss_nil)), ?_⟩
    have bad : ¬ FromD most d → tJs [tC (.str "not a whole number from "), tFmt (tVar 1), tC (.str " on")] Str.empty [some v, some (.int most)] H fun _ H1 => E (.ref cN) none H1 := fun n => by
      have := text_1000 m0 m1
      have e : (Str.empty ++ ("not a whole number from " : Str)).length ≤ 40 := by decide +kernel
      have e2 : (toString most : Str) = Str.ofString (toString most) := rfl
      have e3 : (" on" : Str).length = 3 := by decide +kernel
      refine ⟨_, rfl, by decide +kernel, _, rfl, .inr ⟨most, rfl, log2_1000 m0 m1, _, rfl, ?_, _, rfl, ?_, q2 n⟩⟩
      · rw [strLen_append]
        exact line_small (by omega)
      · rw [strLen_append, strLen_append]
        exact line_small (by omega)
    refine ⟨_, rfl, v, d, rfl, hd, _, rfl, ?_⟩
    cases hd with
    | int y =>
      refine iteF ⟨_, rfl, _, rfl, y, most, rfl, rfl, _, rfl, ?_⟩
      by_cases c0 : y < most
      · rw [decide_eq_true c0]
        exact iteT (bad fun z => by obtain ⟨i, e, h⟩ := z; injection e with e; omega)
      · rw [decide_eq_false c0]
        exact iteF (q1 ⟨y, rfl, by omega⟩)
    | _ => exact iteT (iteT (bad fun z => by obtain ⟨i, e, _⟩ := z; cases e))
end
end Fo
namespace Fo
open PySem PySem.Spec PyProof.Rows L2 TL
/-! ### writings -/
abbrev decT (i : Int) : Str := Str.ofString (toString i)
def wrT (xs : List Int) : Str := Txt.join " " (xs.map decT)
def wrL (rs : List (List Int)) : Str := if rs = [] then "-" else Txt.join ", " (rs.map wrT)
theorem dec_sign : ∀ k < 12, ∀ c ∈ tl (decT ((k : Nat) : Int)), 48 ≤ c ∧ c ≤ 57 := by decide +kernel
theorem dec_len : ∀ k < 12, (decT ((k : Nat) : Int)).length ≤ 2 := by decide +kernel
theorem mem_joinL {S : List Nat} {c : Nat} : ∀ {ps : List (List Nat)}, c ∈ joinL S ps → c ∈ S ∨ ∃ p ∈ ps, c ∈ p
  | [], h => absurd h List.not_mem_nil
  | [p], h => .inr ⟨p, List.mem_singleton.mpr rfl, h⟩
  | p :: q :: r, h => by
    rcases List.mem_append.mp h with h | h
    · exact .inr ⟨p, List.mem_cons_self, h⟩
    rcases List.mem_append.mp h with h | h
    · exact .inl h
    rcases mem_joinL h with h | ⟨u, hu, h⟩
    · exact .inl h
    · exact .inr ⟨u, List.mem_cons_of_mem _ hu, h⟩
theorem len_joinL {S : List Nat} : ∀ (ps : List (List Nat)), (joinL S ps).length ≤ (ps.map List.length).sum + ps.length * S.length
  | [] => Nat.zero_le _
  | [p] => by
    show p.length ≤ (p.length + 0) + 1 * S.length
    omega
  | p :: q :: r => by
    have ih := len_joinL (S := S) (q :: r)
    show (p ++ (S ++ joinL S (q :: r))).length ≤ (p.length + ((q :: r).map List.length).sum) + ((q :: r).length + 1) * S.length
    rw [List.length_append, List.length_append, Nat.add_mul]
    omega
theorem tl_joinT (y : Str) (ps : List Str) : tl (Txt.join y ps) = joinL (tl y) (ps.map tl) := by rw [join_eq, tl_join]
theorem ord_nat {n : Nat} {xs : List Int} (o : IsOrd n xs) (hn : n ≤ 12) {x : Int} (h : x ∈ xs) : ∃ k : Nat, k < 12 ∧ x = (k : Int) := by
  have := o.mem h
  exact ⟨x.toNat, by omega, by omega⟩
theorem dec_at {n : Nat} {xs : List Int} (o : IsOrd n xs) (hn : n ≤ 12) {s : Str} (h : s ∈ xs.map decT) : ∃ k : Nat, k < 12 ∧ s = decT (k : Int) := by
  obtain ⟨x, hx, rfl⟩ := List.mem_map.mp h
  obtain ⟨k, hk, rfl⟩ := ord_nat o hn hx
  exact ⟨k, hk, rfl⟩
theorem wr_sign {n : Nat} {xs : List Int} (o : IsOrd n xs) (hn : n ≤ 12) {c : Nat} (h : c ∈ tl (wrT xs)) : c = 32 ∨ (48 ≤ c ∧ c ≤ 57) := by
  unfold wrT at h
  rw [tl_joinT] at h
  rcases mem_joinL h with h | ⟨p, hp, h⟩
  · exact .inl (List.mem_singleton.mp h)
  · obtain ⟨s, hs, rfl⟩ := List.mem_map.mp hp
    obtain ⟨k, hk, rfl⟩ := dec_at o hn hs
    exact .inr (dec_sign k hk c h)
theorem sum_le {l : List Nat} {b : Nat} (h : ∀ x ∈ l, x ≤ b) : l.sum ≤ l.length * b := by
  induction l with
  | nil => simp
  | cons a r ih =>
    have h1 := h a List.mem_cons_self
    have h2 := ih fun x hx => h x (List.mem_cons_of_mem _ hx)
    rw [List.sum_cons, List.length_cons, Nat.add_mul]
    omega
theorem dec_sum {n : Nat} {xs : List Int} (o : IsOrd n xs) (hn : n ≤ 12) : ((xs.map decT).map (·.length)).sum ≤ 24 := by
  have := sum_le (l := (xs.map decT).map (·.length)) (b := 2) fun x hx => by
    obtain ⟨s, hs, rfl⟩ := List.mem_map.mp hx
    obtain ⟨k, hk, rfl⟩ := dec_at o hn hs
    exact dec_len k hk
  rw [List.length_map, List.length_map, o.len] at this
  omega
theorem len_tl' (x : Str) : x.length = (tl x).length := by simp [Str.length]
theorem wr_len {n : Nat} {xs : List Int} (o : IsOrd n xs) (hn : n ≤ 12) : (wrT xs).length ≤ 36 := by
  rw [len_tl']
  unfold wrT
  rw [tl_joinT]
  refine Nat.le_trans (len_joinL _) ?_
  have h1 := dec_sum o hn
  have h2 : (((xs.map decT).map tl).map List.length) = (xs.map decT).map (·.length) := by
    rw [List.map_map]
    apply List.map_congr_left
    intro s _
    exact (len_tl' s).symm
  rw [h2, List.length_map, List.length_map, o.len]
  show _ + n * 1 ≤ 36
  omega
theorem wr_sum {n : Nat} {rs : List (List Int)} (o : ∀ r ∈ rs, IsOrd n r) (hn : n ≤ 12) : ((rs.map wrT).map (·.length)).sum ≤ rs.length * 36 := by
  have := sum_le (l := (rs.map wrT).map (·.length)) (b := 36) fun x hx => by
    obtain ⟨s, hs, rfl⟩ := List.mem_map.mp hx
    obtain ⟨r, hr, rfl⟩ := List.mem_map.mp hs
    exact wr_len (o r hr) hn
  rw [List.length_map, List.length_map] at this
  exact this
theorem wrL_len {n : Nat} {rs : List (List Int)} (o : ∀ r ∈ rs, IsOrd n r) (hn : n ≤ 12) : (wrL rs).length ≤ rs.length * 38 + 1 := by
  unfold wrL
  by_cases c : rs = []
  · rw [if_pos c]
    show 1 ≤ _
    omega
  · rw [if_neg c, len_tl', tl_joinT]
    refine Nat.le_trans (len_joinL _) ?_
    have h1 := wr_sum o hn
    have h2 : (((rs.map wrT).map tl).map List.length) = (rs.map wrT).map (·.length) := by
      rw [List.map_map]
      apply List.map_congr_left
      intro s _
      exact (len_tl' s).symm
    rw [h2, List.length_map, List.length_map]
    show _ + rs.length * 2 ≤ _
    omega
theorem split_wr {n : Nat} {xs : List Int} (o : IsOrd n xs) (hn1 : 1 ≤ n) (hn : n ≤ 12) : Txt.split (wrT xs) " " = xs.map decT := by
  refine split_join (y := " ") (s := 32) (S := []) rfl (by decide +kernel) (fun e => ?_) fun p hp hc => ?_
  · have := congrArg List.length e
    rw [List.length_map, o.len] at this
    simp at this
    omega
  · obtain ⟨k, hk, rfl⟩ := dec_at o hn hp
    have := dec_sign k hk 32 hc
    omega
end Fo
namespace Fo
open PySem PySem.Spec PyProof.Rows L2
abbrev rListOf (K : PySem.W.Frag) : List V → Hp → VK → Prop := fun xs H Q => ∃ p ys, xs = [.ref p] ∧ (SqL K H p ys ∨ SqT K H p ys) ∧ ∀ l, H l = none → Q (.ref l) (upd H l (.lst ys))
/-! min(xs, default=None); methods that may raise -/
def rMinDef (K : PySem.W.Frag) : List V → List V → Hp → VK → Prop := fun xs zs H Q => ∃ (a : Addr) (ns : List Int), xs = [V.ref a] ∧ zs = [V.non] ∧ SqL K H a (ns.map V.int) ∧ (ns = [] → Q .non H) ∧ ∀ m, m ∈ ns → (∀ y, y ∈ ns → m ≤ y) → Q (.int m) H
theorem hold_ints {h : Heap} : ∀ {ns : List Int} {us : List Value}, Vals (ns.map V.int) us → PySem.W.HoldAll h us ns
  | [], _, r => by cases r; exact PySem.W.HoldAll.nil
  | n :: ns, _, r => by
    cases r with
    | cons r1 r2 =>
      obtain ⟨t, rfl⟩ := r1
      exact PySem.W.HoldAll.cons (PySem.W.holds_int n t) (hold_ints r2)
theorem minOf_spec (x : Int) : ∀ ys : List Int, PySem.W.minOf x ys ∈ x :: ys ∧ ∀ y ∈ x :: ys, PySem.W.minOf x ys ≤ y := by
  intro ys
  induction ys generalizing x with
  | nil => exact ⟨List.mem_cons_self, fun y hy => by rw [List.mem_singleton.mp hy]; exact Int.le_refl _⟩
  | cons z r ih =>
    have e : PySem.W.minOf x (z :: r) = PySem.W.minOf (if PySem.W.DatumOrd.lt z x = true then z else x) r := rfl
    rw [e]
    have hl : PySem.W.DatumOrd.lt z x = decide (z < x) := rfl
    rw [hl]
    by_cases c : z < x
    · rw [if_pos (decide_eq_true c)]
      obtain ⟨i1, i2⟩ := ih z
      refine ⟨List.mem_cons_of_mem _ i1, fun y hy => ?_⟩
      rcases List.mem_cons.mp hy with rfl | hy
      · have := i2 z List.mem_cons_self
        omega
      · exact i2 y hy
    · rw [if_neg (fun q => c (of_decide_eq_true q))]
      obtain ⟨i1, i2⟩ := ih x
      refine ⟨?_, fun y hy => ?_⟩
      · rcases List.mem_cons.mp i1 with i1 | i1
        · rw [i1]
          exact List.mem_cons_self
        · exact List.mem_cons_of_mem _ (List.mem_cons_of_mem _ i1)
      · rcases List.mem_cons.mp hy with rfl | hy
        · exact i2 y List.mem_cons_self
        · rcases List.mem_cons.mp hy with rfl | hy
          · have := i2 x List.mem_cons_self
            omega
          · exact i2 y (List.mem_cons_of_mem _ hy)
theorem cr_minDef {X : Cx} (hu : X.A.units + 64 < cLine) (calm : X.calm = true) : CallRK X (.builtin "min") [Str.ofString "default"] (rMinDef X.K) := by
  intro pins s σ H vs zs us ws Q I r rz h
  obtain ⟨a, ns, rfl, rfl, hs, q0, q⟩ := h
  obtain rfl := Vals.ref1 r
  obtain ⟨w1, rfl, e1⟩ := vals1 rz
  obtain rfl : w1 = Value.none := e1
  obtain ⟨its, rv, pl, _⟩ := I.list hs
  refine PySem.W.min_list_datum_default (I.ok.hd calm) pl.isList (hold_ints rv) (by show _ + 1 + 0 < _; omega) (fun e h' tk kp => ?_) fun y ys i v h' tk e hi hv kp => ?_
  · exact ⟨.non, H, I.kept (t' := tk) kp, rfl, q0 e⟩
  · obtain ⟨m1, m2⟩ := minOf_spec y ys
    obtain ⟨t, rfl⟩ := PySem.W.int_of_holds hv
    exact ⟨.int _, H, I.kept (t' := tk) kp, ⟨t, rfl⟩, q _ (by rw [e]; exact m1) fun z hz => m2 z (by rw [← e]; exact hz)⟩
theorem pe_minDef {X : Cx} {e d : Expr} {te td : TE} {p kp pos : Pos} (hu : X.A.units + 64 < cLine) (calm : X.calm = true) (hg : Gl X "min") (hm : X.mg "min" = none) (he : PE X e te) (hd : PE X d td)
    (b1 : backTo pos (starEach (e :: []) X.env) = (false, eval e X.env) :: backTo pos (starEach [] X.env) := by rfl) (b2 : (backTo pos (starEach (e :: []) X.env)).any (·.1) = false := by rfl) (b3 : (backToKw pos (keywordEach [⟨some "default", d, kp⟩] X.env)).all (·.1.isSome) = true := by rfl)
    (b4 : (backToKw pos (keywordEach [⟨some "default", d, kp⟩] X.env)).any (·.1.isNone) = false := by rfl) (b6 : starEach [e] X.env = (false, eval e X.env) :: starEach [] X.env := by rfl) (b5 : (backToKw pos (keywordEach [⟨some "default", d, kp⟩] X.env)).filterMap (·.1) = [Str.ofString "default"] := by rfl) :
    PE X (.Call (.Name "min" p) [e] [⟨some "default", d, kp⟩] pos) (tCKw (rMinDef X.K) (tCons te tNil) (tCons td tNil)) :=
  pe_callBK (cr_minDef hu calm) hg hm (by decide +kernel) (pa_cons he pa_nil (hs := b6)) (pk_cons hd pk_nil) (he := b1) (hpl := b2) (hall := b3) (hnone := b4) (hks := b5)
/-- a method that may raise, without arguments and with them -/
def tMethS (C : Addr) (m : Str) (sp : Sp) (E : L2.St → XK) (ta : TE) (t : TA) : TE := fun σ H Q => ta σ H fun x H1 => ∃ a dx fs, x = .ref a ∧ H1 a = some (.ins C dx fs) ∧ fs.lookup m = none ∧ t σ H1 fun vs H2 => sp (x :: vs) H2 Q (E σ)
section
variable {X : Cx} {CX : CXT} {k : Nat} {f C : Addr} {fd : FuncData} {ps : List Str} {sp : Sp} {E : L2.St → XK} {m : Str} {pos apos : Pos} {e o : Expr} {es : List Expr} {ta : TE} {t : TA} {pl : Sem Bool}
theorem pe_meth0S (ho : PE X o ta) (cl : Cls X.K C) (me : Meth X.K C m f) (F : FnOk X.prog X.w X.K X.mg X.base CX k f fd ps sp) (rm : Room k X.A) (bi : Binds X.K fd ps []) (pa : ∀ σ, PassesAt CX X σ (E σ))
    (ht : eval (.Call (.Attribute o m apos) [] [] pos) X.env = (do let ov ← eval o X.env; standAt apos.atName; let (f, first) ← holding [ov] (getMethod ov m pl); callWith pos f first (backTo pos (starEach [] X.env)) (backToKw pos (keywordEach [] X.env))) := by rfl) :
    PE X (.Call (.Attribute o m apos) [] [] pos) (tMethS C m sp E ta tNil) :=
  ⟨fun pins s σ H Q I w => PySem.W.methodCall_KW (pl := pl) (thn (ho.run pins s σ H _ I w) fun u s1 ⟨x, H1, I1, rx, a, dx, fs, ex, ea, l, q⟩ => by
    cases ex
    cases (show u = Value.ref a from rx)
    exact getmeth_ok I1 ea cl me l (PySem.W.callWith_K0 (first := [.ref a]) I1.kIn me.kp (run_fnS (us := [.ref a]) (vs := [.ref a]) F rm bi (pa σ) I1 (.cons rfl .nil) q))) ht⟩
theorem pe_methS (ho : PE X o ta) (cl : Cls X.K C) (me : Meth X.K C m f) (F : FnOk X.prog X.w X.K X.mg X.base CX k f fd ps sp) (rm : Room k X.A) (bi : Binds X.K fd ps []) (pa : ∀ σ, PassesAt CX X σ (E σ)) (as : PA X (e :: es) t)
    (st : starEach (e :: es) X.env = (false, eval e X.env) :: starEach es X.env := by rfl) (na : (backTo pos (starEach es X.env)).any (·.1) = false := by rfl)
    (ht : eval (.Call (.Attribute o m apos) (e :: es) [] pos) X.env = (do let ov ← eval o X.env; standAt apos.atName; let (f, first) ← holding [ov] (getMethod ov m pl); callWith pos f first (backTo pos (starEach (e :: es) X.env)) (backToKw pos (keywordEach [] X.env))) := by rfl) :
    PE X (.Call (.Attribute o m apos) (e :: es) [] pos) (tMethS C m sp E ta t) :=
  ⟨fun pins s σ H Q I w => PySem.W.methodCall_KW (pl := pl) (thn (ho.run pins s σ H _ I w) fun u s1 ⟨x, H1, I1, rx, a, dx, fs, ex, ea, l, q⟩ => by
    cases ex
    cases (show u = Value.ref a from rx)
    exact getmeth_ok I1 ea cl me l (PySem.W.callWith_K (first := [.ref a]) (h₀ := X.base) I.ok.mod.kin me.kp (thn (as.run pos pins s1 σ H1 _ I1 q) fun us s2 ⟨vs, H2, I2, r, q2⟩ => ⟨I2.kIn, run_fnS (us := .ref a :: us) (vs := .ref a :: vs) F rm bi (pa σ) I2 (.cons rfl r) q2⟩) st na)) ht⟩
end
/-- a method of the text, where it stands -/
structure Dm (K : PySem.W.Frag) (C : Addr) (x q : Str) (st : Stmt) (ps : List Str) (f : Addr) (fd : FuncData) : Prop where
  F : Fun K x q st f fd
  b : Binds K fd ps []
  m : PySem.W.findIn K (.ref C) x = some (some (.ref f)) ∧ PySem.W.isFn K (.ref f) = true
theorem Dm.me {K : PySem.W.Frag} {C : Addr} {x q : Str} {st : Stmt} {ps : List Str} {f : Addr} {fd : FuncData} (d : Dm K C x q st ps f fd) : Meth K C x f := ⟨d.m.1, d.m.2, d.F.kp⟩
end Fo
namespace Fo
open PySem PySem.Spec PyProof.Rows L2 PpSet
/-- the object of a new set -/
abbrev set0 (w : World) : Obj := { cls := .type "set", dict := none, data := .set #[] 0 (.fresh 0 0 (!w.params.followText "set-order")) }
def FreshS (P : Program) (w : World) (O : Addr → HO) : Prop := ∀ (H : Hp) (h : Heap), ObjOk P w H (h.push (set0 w)) h.objs.size (O h.objs.size)
def AddS (P : Program) (w : World) (K : PySem.W.Frag) (A : Around) (put : Addr → V → Hp → (Hp → Prop) → Prop) : Prop := ∀ (Y : Cx), Y.prog = P → Y.w = w → Y.K = K → Y.A = A → ∀ (ps : List (Addr × Obj)) (s : Shared) (σ : L2.St) (G : Hp) (D : Addr) (y : V) (v : Value) (Nx : Hp → Prop), L2.Inv Y ps σ G s → L2.RelV y v → put D y G Nx → wpAny (model P w) A (call (.builtin "set.add") [.ref D, v]) (fun _ s' => ∃ G', L2.Inv Y ps σ G' s' ∧ Nx G') (fun _ _ => False) s
/-- a set comprehension, what is kept of the set left open: O the new one, put what adding asks -/
def tScG (O : Addr → HO) (put : Addr → V → Hp → (Hp → Prop) → Prop) (wi : TI) (g : TG) (tt : TT) (te : TE) (vs : List Nat) : TE := fun σ H Q => wi σ H fun J H1 => ∀ D, H1 D = none →
  ∃ W : Nat → Nat → Hp → Prop, (∃ m, W 0 m (upd H1 D (O D))) ∧ ∀ i m G, W i m G → (J.stop i G ∧ Q (.ref D) G) ∨ (J.go i G ∧ ∃ Nx : Hp → Prop, (∀ G', Nx G' → ∃ m', m' < m ∧ W (i + 1) m' G') ∧
    ∀ x G', J.yld i G x G' → g x (wipe σ vs) G' fun σ2 H2 => wipe σ2 vs = wipe σ vs ∧ tt σ2 H2 fun b H3 => if b = true then te σ2 H3 fun y H4 => put D y H4 Nx else Nx H3)
set_option maxHeartbeats 4000000 in
/-- the turns of the block -/
theorem scg_loop {X : Cx} {elt tg iter : Expr} {ifs : List Expr} {scope : Scope} {pos : Pos} {g : TG} {tt : TT} {te : TE} {put : Addr → V → Hp → (Hp → Prop) → Prop} {Q : VK} {ps : List (Addr × Obj)} {σ : L2.St} {vs : List Nat}
    {t3 s4 : Shared} {H3 : Hp} {ce : Env} {D it : Addr} {fp : List Addr} {tn : Nat → Heap → Prop} {J : It} {W : Nat → Nat → Hp → Prop} {m0 : Nat} {R : Result → Shared → Prop}
    (ad : AddS X.prog X.w X.K X.A put) (calm : X.calm = true) (I3 : L2.Inv X ps σ H3 t3) (ff : ∀ b ∈ fp, FpOk X ps H3 b ∧ b < t3.heap.objs.size) (cL : ce.locals = t3.heap.objs.size) (I4 : L2.Inv (X.blk t3 H3 scope ce fp) [] (wipe σ vs) H3 s4)
    (T : Turn X.prog X.w X.K tg J fp it tn) (st : tn 0 s4.heap) (pg : PG (X.blk t3 H3 scope ce fp) tg g) (pt : PTs (X.blk t3 H3 scope ce fp) ifs tt) (pv' : PE (X.blk t3 H3 scope ce fp) elt te) (w0 : W 0 m0 H3)
    (turn : ∀ i m G, W i m G → (J.stop i G ∧ Q (.ref D) G) ∨ (J.go i G ∧ ∃ Nx : Hp → Prop, (∀ G', Nx G' → ∃ m', m' < m ∧ W (i + 1) m' G') ∧
      ∀ x G', J.yld i G x G' → g x (wipe σ vs) G' fun σ2 H2 => wipe σ2 vs = wipe σ vs ∧ tt σ2 H2 fun b H3 => if b = true then te σ2 H3 fun y H4 => put D y H4 Nx else Nx H3))
    (fin : ∀ (s' : Shared) (G : Hp), L2.Inv X ps σ G s' → Q (.ref D) G → (∃ m, s'.heap.Ns t3.heap.objs.size m) → FpOk X ps G t3.heap.objs.size → R (.ok .next) s') :
    codeAny (model X.prog X.w) X.A (.compLoop (.SetComp elt [⟨tg, iter, ifs, 0⟩] scope pos) 0 (.ref it) (.ref D) ce) R s4 := by
  have still : ∀ {τ : L2.St} {G : Hp} {s' : Shared}, L2.Inv (X.blk t3 H3 scope ce fp) [] τ G s' → (∀ b ∈ fp, G b = none) → ∀ b ∈ fp, FpOk (X.blk t3 H3 scope ce fp) [] G b := by
    intro τ G s' I' no b hb
    have e1 := I'.ok.exf b hb
    have e2 := I'.ok.exfs b hb
    exact ⟨no b hb, e1.1, e2, .inl hb, fun x c e => e1.2 x c e, fun p hp => by cases hp⟩
  refine compLoopS_any (fun n s' => ∃ i G, L2.Inv (X.blk t3 H3 scope ce fp) [] (wipe σ vs) G s' ∧ tn i s'.heap ∧ (∀ b ∈ fp, G b = none) ∧ W i n G) (fun n s5 hI => ?_) m0 ⟨0, H3, I4, st, fun b hb => (ff b hb).1.1, w0⟩
  obtain ⟨i, G5, I5, st5, no5, w5⟩ := hI
  rcases turn i n G5 w5 with ⟨hstop, qq⟩ | ⟨hgo, Nx, hNx, step⟩
  · refine thnF (T.done (X.blk t3 H3 scope ce fp) rfl rfl rfl calm i [] s5 _ G5 (fun _ _ => False) I5 (still I5 no5) st5 hstop) fun r s6 hr => ?_
    obtain ⟨rfl, I6⟩ := hr
    have home : L2.Inv X ps σ G5 s6 := by
      refine I3.call' (ch := fp) I6.os I6.base I6.hok I6.bare fun b hb => ?_
      obtain ⟨⟨_, a1, _, a2, a3, a4⟩, _⟩ := ff b hb
      exact ⟨a2, a1, a3, a4⟩
    have gone : G5 ce.locals = none := I6.free
    obtain ⟨m, hm, _⟩ := I6.loc
    change s6.heap.Ns ce.locals m at hm
    rw [cL] at gone hm
    exact fin s6 G5 home qq ⟨m, hm⟩ (I3.fpOk (Nat.le_refl _) gone)
  · refine thnF (T.item (X.blk t3 H3 scope ce fp) rfl rfl rfl calm i [] s5 _ G5 (fun _ _ => False) I5 (still I5 no5) st5 hgo) fun r s6 hr => ?_
    obtain ⟨u, rfl, h6⟩ := hr
    refine thnF h6 fun _ s7 h7 => ?_
    obtain ⟨x, G7, I7, r7, y7, st7, no7⟩ := h7
    have I8 := I7.pinned (still I7 no7) (T.obj _ _ st7)
    refine thnF (pg.run _ s7 _ G7 x u _ I8 r7 (step x G7 y7)) fun _ s8 h8 => ?_
    obtain ⟨τ, G8, I8, ew, q8⟩ := h8
    refine thnF (pt.run _ s8 τ G8 _ I8 q8) fun b s9 h9 => ?_
    obtain ⟨G9, I9, q9⟩ := h9
    have last : ∀ (s' : Shared) (G' : Hp), L2.Inv (X.blk t3 H3 scope ce fp) ([] ++ pinsAt fp s7.heap) τ G' s' → Nx G' → ∃ m, m < n ∧ ∃ i G, L2.Inv (X.blk t3 H3 scope ce fp) [] (wipe σ vs) G s' ∧ tn i s'.heap ∧ (∀ b ∈ fp, G b = none) ∧ W i m G := by
      intro s' G' J' nx
      obtain ⟨m', hm, w'⟩ := hNx G' nx
      have held : ∀ b ∈ fp, ∀ o, s7.heap.get? b = some o → s'.heap.get? b = some o ∧ G' b = none := by
        intro b hb o e
        have z := J'.pin (b, o) (List.mem_append_right _ (List.mem_append_right _ (mem_pinsAt hb e)))
        exact ⟨z.1, z.2.1⟩
      have J2 : L2.Inv (X.blk t3 H3 scope ce fp) [] (wipe σ vs) G' s' := by
        refine (J'.unpinned (pins := [])).weak ?_ fun j v e => ?_
        · rw [← ew, wipe_length]
        · rw [← ew] at e
          exact (wipe_some e).1
      refine ⟨m', hm, i + 1, G', J2, ?_, ?_, w'⟩
      · exact T.keep _ _ _ st7 fun b hb o e => (held b hb o e).1
      · intro b hb
        obtain ⟨o, e, _⟩ := T.obj _ _ st7 b hb
        exact (held b hb o e).2
    cases b with
    | false => exact last s9 G9 I9 q9
    | true =>
      refine thnF (pv'.run _ s9 τ G9 _ I9 q9) fun z s10 h10 => ?_
      obtain ⟨y, G10, I10, r10, hp⟩ := h10
      refine thnF (ad (X.blk t3 H3 scope ce fp) rfl rfl rfl rfl _ s10 τ G10 D y z Nx I10 r10 hp) fun _ s11 h11 => ?_
      obtain ⟨G11, I11, nx⟩ := h11
      exact last s11 G11 I11 nx
set_option maxHeartbeats 4000000 in
theorem pe_scG {X : Cx} {elt tg iter : Expr} {ifs : List Expr} {scope : Scope} {own : List (Str × Nat)} {pos : Pos} {wi : TI} {g : TG} {tt : TT} {te : TE} {O : Addr → HO} {put : Addr → V → Hp → (Hp → Prop) → Prop}
    (fr : FreshS X.prog X.w O) (ad : AddS X.prog X.w X.K X.A put) (calm : X.calm = true) (nd : X.N.Nodup) (pi : PI X tg iter wi) (blk : BlkOk X.N X.env.scope scope own)
    (pg : ∀ (s : Shared) (H : Hp) (C : Addr) (cl : List (Str × Addr)) (fp : List Addr),
      PG (X.blk s H scope (compEnvC scope cl C X.env) fp) tg g)
    (pt : ∀ (s : Shared) (H : Hp) (C : Addr) (cl : List (Str × Addr)) (fp : List Addr),
      PTs (X.blk s H scope (compEnvC scope cl C X.env) fp) ifs tt)
    (pv' : ∀ (s : Shared) (H : Hp) (C : Addr) (cl : List (Str × Addr)) (fp : List Addr),
      PE (X.blk s H scope (compEnvC scope cl C X.env) fp) elt te)
    (fold : ∀ x, foldedSetIterable iter X.env x = pure x := by intro _; rfl) :
    PE X (.SetComp elt [⟨tg, iter, ifs, 0⟩] scope pos) (tScG O put wi g tt te (own.map (·.2))) := by
  refine ⟨fun ps s0 σ H Q I0 h0 => ?_⟩
  rw [eval_SetComp]
  have cells : ∀ y ∈ scope.names, y.2 = .free → ∃ c, X.env.cells.lookup y.1 = some c := by
    intro y hy e
    exact I0.ok.has _ (blk.free y hy e)
  refine wpAny_comprehension_free rfl fold (closure_ok cells) blk.kind (fun y hy e => by rw [blk.uniq y hy, e]) ?_
  refine thn (pi.run ps s0 σ H _ I0 h0) fun _ t1 h1 => thn h1 fun _ t2 h2 => ?_
  obtain ⟨it, fp, tn, J, H2, rfl, I2, T, st, f2, q⟩ := h2
  refine newSet_ok (newEnv_comp ?_)
  have fresh : H2 t2.heap.objs.size = none := I2.hok.fresh (Nat.le_refl _)
  obtain ⟨W, ⟨m0, w0⟩, turn⟩ := q _ fresh
  have old : ∀ (b : Addr) (o : Obj), t2.heap.get? b = some o → (t2.heap.push (set0 X.w)).get? b = some o := fun b o e => Heap.get?_push_of_some _ e
  have I3 := I2.laid (a := t2.heap.objs.size) (o := O t2.heap.objs.size) (t' := t2.toks) old (Nat.le_refl _) (fr _ _)
  generalize eD : t2.heap.objs.size = D at *
  have ff : ∀ b ∈ fp, FpOk X ps (upd H2 D (O D)) b ∧ b < (t2.heap.push (set0 X.w)).objs.size := by
    intro b hb
    obtain ⟨_, e, _⟩ := T.obj _ _ st b hb
    have lt := Heap.lt_size e
    have ne : b ≠ D := fun z => by
      rw [z, ← eD] at lt
      exact Nat.lt_irrefl _ lt
    obtain ⟨z1, z2⟩ := f2 b hb
    refine ⟨⟨(upd_ne ne).trans z1, z2⟩, ?_⟩
    rw [Heap.size_push]
    exact Nat.lt_succ_of_lt lt
  have st3 := T.keep _ _ _ st fun b _ o e => old b o e
  have I4 := block_start I3 blk nd ff
  have st4 := T.keep _ _ (pushCells ((t2.heap.push (set0 X.w)).push { cls := .type "dict", data := .dict #[] }) scope.names) st3 fun b _ o e => pushCells_keeps _ _ _ _ (Heap.get?_push_of_some _ e)
  refine (fun loop => codeAny_compStart_set loop (T.self X.A 0 _ _ _ st4 loop)) ?_
  refine scg_loop ad calm I3 ff rfl I4 T st4 (pg _ _ _ _ _) (pt _ _ _ _ _) (pv' _ _ _ _ _) w0 turn fun s' G I' qq hm f => ?_
  obtain ⟨m, hm⟩ := hm
  refine ⟨m, hm, fun h' sb => ?_⟩
  obtain ⟨a0, a1, _, a3, a4, a5⟩ := f
  refine ⟨.ref D, G, ?_, rfl, qq⟩
  exact I'.turned (t' := s'.toks) (fun b o hb e => (sb.2 b hb).trans e) a0 a1 a3 a4 a5
end Fo
namespace Fo
open PySem PySem.Spec PyProof.Rows L2
/-! ### sums -/
def ind (b : Bool) : Nat := if b then 1 else 0
def sumN (l : List Int) (f : Int → Nat) : Nat := (l.map f).sum
theorem sumN_nil (f : Int → Nat) : sumN [] f = 0 := rfl
theorem sumN_cons (a : Int) (l : List Int) (f : Int → Nat) : sumN (a :: l) f = f a + sumN l f := by
  unfold sumN
  rw [List.map_cons, List.sum_cons]
theorem sumN_append (l m : List Int) (f : Int → Nat) : sumN (l ++ m) f = sumN l f + sumN m f := by
  unfold sumN
  rw [List.map_append, List.sum_append]
theorem sumN_perm {l m : List Int} (h : l.Perm m) (f : Int → Nat) : sumN l f = sumN m f := by
  induction h with
  | nil => rfl
  | cons x _ ih => rw [sumN_cons, sumN_cons, ih]
  | swap x y l => rw [sumN_cons, sumN_cons, sumN_cons, sumN_cons]; omega
  | trans _ _ h1 h2 => exact h1.trans h2
theorem sumN_congr {l : List Int} {f g : Int → Nat} (h : ∀ x ∈ l, f x = g x) : sumN l f = sumN l g := by
  unfold sumN
  rw [List.map_congr_left h]
theorem sumN_map (l : List Int) (g : Int → Int) (f : Int → Nat) : sumN (l.map g) f = sumN l (fun x => f (g x)) := by
  unfold sumN
  rw [List.map_map]
  rfl
theorem sumN_zero {l : List Int} {f : Int → Nat} (h : ∀ x ∈ l, f x = 0) : sumN l f = 0 := by
  rw [sumN_congr h]
  induction l with
  | nil => rfl
  | cons a l ih => rw [sumN_cons, ih fun x hx => h x (List.mem_cons_of_mem _ hx)]
theorem sumN_add (l : List Int) (f g : Int → Nat) : sumN l (fun x => f x + g x) = sumN l f + sumN l g := by
  induction l with
  | nil => rfl
  | cons a l ih => rw [sumN_cons, sumN_cons, sumN_cons, ih]; omega
theorem sumN_swap (l m : List Int) (f : Int → Int → Nat) : sumN l (fun i => sumN m (fun j => f i j)) = sumN m (fun j => sumN l (fun i => f i j)) := by
  induction l with
  | nil => exact (sumN_zero fun x _ => rfl).symm
  | cons a l ih =>
    rw [sumN_cons, ih, ← sumN_add]
    exact sumN_congr fun x _ => by rw [sumN_cons]
theorem filter_len (l : List Int) (p : Int → Bool) : (l.filter p).length = sumN l (fun x => ind (p x)) := by
  induction l with
  | nil => rfl
  | cons a l ih =>
    rw [sumN_cons, List.filter_cons]
    unfold ind at ih ⊢
    cases p a
    · simp only [Bool.false_eq_true, if_false]; omega
    · simp only [if_true, List.length_cons]; omega
/-! ### a list by its places -/
def g0 (s : List Int) (i : Int) : Int := s.getD i.toNat 0
theorem g0_at {s : List Int} {i : Nat} {x : Int} (h : s[i]? = some x) : g0 s (i : Int) = x := by
  unfold g0
  rw [Int.toNat_natCast, List.getD_eq_getElem?_getD, h]
  rfl
theorem by_places (s : List Int) : s = (rg s.length).map (g0 s) := by
  apply List.ext_getElem?
  intro i
  unfold rg
  rw [List.getElem?_map, List.getElem?_map]
  by_cases h : i < s.length
  · rw [List.getElem?_range h, List.getElem?_eq_getElem h]
    show some s[i] = some (g0 s (i : Int))
    rw [g0_at (List.getElem?_eq_getElem h)]
  · rw [List.getElem?_eq_none (by omega), List.getElem?_eq_none (by rw [List.length_range]; omega)]
    rfl
theorem rg_succ (n : Nat) : rg (n + 1) = rg n ++ [(n : Int)] := by
  unfold rg
  rw [List.range_succ, List.map_append]
  rfl
/-- how many of the later ones are less -/
def cntL (s : List Int) (i : Nat) : Nat := ((s.drop (i + 1)).filter (fun x => decide (x < g0 s i))).length
def invF (n : Nat) (a : Int → Int) : Nat := sumN (rg n) fun i => sumN (rg n) fun j => ind (decide (i < j) && decide (a j < a i))
def invN (s : List Int) : Nat := sumN (rg s.length) fun i => cntL s i.toNat
theorem drop_sum (n i : Nat) (f : Int → Nat) : sumN ((rg n).drop (i + 1)) f = sumN (rg n) fun j => if (i : Int) < j then f j else 0 := by
  induction n with
  | zero => rfl
  | succ n ih =>
    rw [rg_succ, sumN_append, ← ih, List.drop_append, sumN_append, rg_len]
    congr 1
    by_cases h : i + 1 ≤ n
    · rw [show i + 1 - n = 0 by omega, List.drop_zero, sumN_cons, sumN_cons, sumN_nil, sumN_nil, if_pos (by omega)]
    · rw [show i + 1 - n = (i - n) + 1 by omega, List.drop_succ_cons, List.drop_nil, sumN_cons, sumN_nil, sumN_nil, if_neg (by omega)]
theorem cnt_sum (s : List Int) (i : Nat) : cntL s i = sumN (rg s.length) fun j => ind (decide ((i : Int) < j) && decide (g0 s j < g0 s i)) := by
  unfold cntL
  rw [filter_len]
  have e : s.drop (i + 1) = ((rg s.length).drop (i + 1)).map (g0 s) := by
    rw [List.map_drop, ← by_places]
  rw [e, sumN_map, drop_sum]
  apply sumN_congr
  intro j _
  unfold ind
  by_cases h : (i : Int) < j
  · simp [h]
  · simp [h]
theorem inv_eq (s : List Int) : invN s = invF s.length (g0 s) := by
  unfold invN invF
  apply sumN_congr
  intro i hi
  have := rg_mem.mp hi
  rw [cnt_sum, Int.toNat_of_nonneg this.1]
/-! ### places of things -/
def pos (ys : List Int) (x : Int) : Int := ((ys.idxOf x : Nat) : Int)
def seatsL (xs ys : List Int) : List Int := xs.map (pos ys)
theorem pos_of {n : Nat} {ys : List Int} (o : IsOrd n ys) {j : Nat} {x : Int} (h : ys[j]? = some x) : pos ys x = (j : Int) := by
  obtain ⟨hj, e⟩ := List.getElem?_eq_some_iff.mp h
  have m : x ∈ ys := List.mem_of_getElem? h
  have hi : ys.idxOf x < ys.length := List.idxOf_lt_length_iff.mpr m
  have h2 : ys[ys.idxOf x]? = some x := by
    rw [List.getElem?_eq_getElem hi]
    exact congrArg some (List.getElem_idxOf hi)
  unfold pos
  rw [nd_ix o.nodup h2 h]
theorem pos_at {n : Nat} {ys : List Int} (o : IsOrd n ys) {x : Int} (h0 : 0 ≤ x) (h1 : x < n) : ∃ j : Nat, j < n ∧ ys[j]? = some x ∧ pos ys x = (j : Int) := by
  obtain ⟨j, hj, e⟩ := ord_at o (t := x.toNat) (by omega)
  rw [Int.toNat_of_nonneg h0] at e
  exact ⟨j, hj, e, pos_of o e⟩
theorem back_pos {n : Nat} {ys ps : List Int} (o : IsOrd n ys) (h : IsBack ys ps) {x : Int} (h0 : 0 ≤ x) (h1 : x < n) : ps[x.toNat]? = some (pos ys x) := by
  obtain ⟨j, hj, e, ep⟩ := pos_at o h0 h1
  rw [ep]
  exact h.2 j x e
theorem seats_len (xs ys : List Int) : (seatsL xs ys).length = xs.length := by
  unfold seatsL
  rw [List.length_map]
theorem seats_at {xs ys : List Int} {i : Nat} {x : Int} (h : xs[i]? = some x) : (seatsL xs ys)[i]? = some (pos ys x) := by
  unfold seatsL
  rw [List.getElem?_map, h]
  rfl
theorem seats_self {n : Nat} {ys : List Int} (o : IsOrd n ys) : seatsL ys ys = rg n := by
  apply List.ext_getElem?
  intro i
  by_cases h : i < n
  · obtain ⟨x, hx, _⟩ := ord_ix o h
    rw [seats_at hx, pos_of o hx]
    unfold rg
    rw [List.getElem?_map, List.getElem?_range h]
    rfl
  · rw [List.getElem?_eq_none (by rw [seats_len, o.len]; omega), List.getElem?_eq_none (by rw [rg_len]; omega)]
theorem seats_ord {n : Nat} {xs ys : List Int} (ox : IsOrd n xs) (oy : IsOrd n ys) : IsOrd n (seatsL xs ys) := by
  have h : (seatsL xs ys).Perm (seatsL ys ys) := List.Perm.map _ (ox.trans oy.symm)
  rw [seats_self oy] at h
  exact h
theorem g0_ord {n : Nat} {s : List Int} (o : IsOrd n s) : s = (rg n).map (g0 s) := by
  have e := by_places s
  rw [o.len] at e
  exact e
/-- inversions from the other side -/
theorem inv_turn {n : Nat} {s t : List Int} (os : IsOrd n s) (ot : IsOrd n t) (h : ∀ u ∈ rg n, g0 s (g0 t u) = u) : invN s = invN t := by
  rw [inv_eq, inv_eq, os.len, ot.len]
  unfold invF
  have p1 : ∀ f : Int → Nat, sumN (rg n) f = sumN (rg n) fun u => f (g0 t u) := fun f => by
    have e : sumN ((rg n).map (g0 t)) f = sumN (rg n) fun u => f (g0 t u) := sumN_map _ _ _
    rw [← e, ← g0_ord ot]
    exact (sumN_perm ot f).symm
  rw [p1]
  rw [sumN_congr (g := fun u => sumN (rg n) fun v => ind (decide (g0 t u < g0 t v) && decide (v < u))) (fun u hu => by
    rw [p1]
    exact sumN_congr fun v hv => by rw [h u hu, h v hv])]
  rw [sumN_swap]
  apply sumN_congr
  intro v _
  apply sumN_congr
  intro u _
  rw [Bool.and_comm]
theorem seats_turn {n : Nat} {xs ys : List Int} (ox : IsOrd n xs) (oy : IsOrd n ys) : ∀ u ∈ rg n, g0 (seatsL xs ys) (g0 (seatsL ys xs) u) = u := by
  intro u hu
  have hb := rg_mem.mp hu
  obtain ⟨y, hy, y0, y1⟩ := ord_ix oy (j := u.toNat) (by omega)
  have e1 : g0 (seatsL ys xs) u = pos xs y := by
    have := g0_at (seats_at (ys := xs) hy)
    rw [Int.toNat_of_nonneg hb.1] at this
    exact this
  obtain ⟨j, hj, ej, pj⟩ := pos_at ox y0 y1
  rw [e1, pj, g0_at (seats_at (ys := ys) ej), pos_of oy hy]
  omega
/-! ### how far two orders are -/
def farSwap (xs ys : List Int) : Int := ((invN (seatsL xs ys) : Nat) : Int)
def spotL (xs ys : List Int) : List Int := (rg xs.length).filter fun p => !decide (g0 xs p = g0 ys p)
def farSpot (xs ys : List Int) : Int := (((spotL xs ys).length : Nat) : Int)
def absI (i : Int) : Int := if i < 0 then -i else i
def gapsL (xs ys : List Int) : List Int := (rg xs.length).map fun p => absI (p - g0 (seatsL xs ys) p)
def maxL (l : List Int) : Int := l.foldr max 0
def farShift (xs ys : List Int) : Int := maxL (gapsL xs ys)
theorem maxL_of : ∀ {l : List Int} {m : Int}, (∀ x ∈ l, 0 ≤ x) → m ∈ l → (∀ x ∈ l, x ≤ m) → maxL l = m := by
  intro l m h0 hm hle
  have key : ∀ l : List Int, (∀ x ∈ l, x ≤ m) → maxL l ≤ m := by
    intro l hl
    induction l with
    | nil => exact h0 m hm
    | cons a l ih =>
      show max a (maxL l) ≤ m
      have h1 := hl a List.mem_cons_self
      have h2 := ih fun x hx => hl x (List.mem_cons_of_mem _ hx)
      omega
  have key2 : ∀ l : List Int, ∀ x ∈ l, x ≤ maxL l := by
    intro l
    induction l with
    | nil => intro x hx; exact absurd hx List.not_mem_nil
    | cons a l ih =>
      intro x hx
      show x ≤ max a (maxL l)
      rcases List.mem_cons.mp hx with rfl | hx
      · omega
      · have := ih x hx
        omega
  have := key l hle
  have := key2 l m hm
  omega
theorem gaps_nonneg (xs ys : List Int) : ∀ x ∈ gapsL xs ys, 0 ≤ x := by
  intro x hx
  obtain ⟨p, _, rfl⟩ := List.mem_map.mp hx
  unfold absI
  split <;> omega
theorem maxL_mem {l : List Int} (h0 : ∀ x ∈ l, 0 ≤ x) (hl : 0 < l.length) : maxL l ∈ l ∧ ∀ x ∈ l, x ≤ maxL l := by
  induction l with
  | nil => exact absurd hl (Nat.lt_irrefl _)
  | cons a l ih =>
    show max a (maxL l) ∈ a :: l ∧ ∀ x ∈ a :: l, x ≤ max a (maxL l)
    by_cases c : 0 < l.length
    · obtain ⟨h1, h2⟩ := ih (fun x hx => h0 x (List.mem_cons_of_mem _ hx)) c
      constructor
      · by_cases d : maxL l ≤ a
        · rw [Int.max_eq_left d]
          exact List.mem_cons_self
        · rw [Int.max_eq_right (by omega)]
          exact List.mem_cons_of_mem _ h1
      · intro x hx
        rcases List.mem_cons.mp hx with rfl | hx
        · omega
        · have := h2 x hx
          omega
    · have e : l = [] := List.eq_nil_of_length_eq_zero (by omega)
      subst e
      have := h0 a List.mem_cons_self
      have e2 : max a (maxL []) = a := by show max a 0 = a; omega
      rw [e2]
      exact ⟨List.mem_cons_self, fun x hx => by rw [List.mem_singleton.mp hx]; exact Int.le_refl _⟩
theorem farSwap_turn {n : Nat} {xs ys : List Int} (ox : IsOrd n xs) (oy : IsOrd n ys) : farSwap ys xs = farSwap xs ys := by
  unfold farSwap
  rw [inv_turn (seats_ord ox oy) (seats_ord oy ox) (seats_turn ox oy)]
theorem farSpot_turn {xs ys : List Int} (h : xs.length = ys.length) : farSpot ys xs = farSpot xs ys := by
  unfold farSpot spotL
  rw [h]
  congr 3
  funext p
  congr 1
  by_cases c : g0 ys p = g0 xs p
  · rw [decide_eq_true c, decide_eq_true c.symm]
  · rw [decide_eq_false c, decide_eq_false fun e => c e.symm]
theorem gaps_len (xs ys : List Int) : (gapsL xs ys).length = xs.length := by
  unfold gapsL
  rw [List.length_map, rg_len]
theorem gaps_sub {n : Nat} {xs ys : List Int} (ox : IsOrd n xs) (oy : IsOrd n ys) : ∀ g ∈ gapsL ys xs, g ∈ gapsL xs ys := by
  intro g hg
  obtain ⟨u, hu, rfl⟩ := List.mem_map.mp hg
  rw [oy.len] at hu
  have hb := (seats_ord oy ox).mem (x := g0 (seatsL ys xs) u) (by
    have e := g0_ord (seats_ord oy ox)
    rw [e]
    exact List.mem_map.mpr ⟨u, hu, by rw [← e]⟩)
  refine List.mem_map.mpr ⟨g0 (seatsL ys xs) u, by rw [ox.len]; exact rg_mem.mpr hb, ?_⟩
  rw [seats_turn ox oy u hu]
  unfold absI
  split <;> split <;> omega
theorem farShift_turn {n : Nat} {xs ys : List Int} (ox : IsOrd n xs) (oy : IsOrd n ys) (hn : 1 ≤ n) : farShift ys xs = farShift xs ys := by
  unfold farShift
  obtain ⟨h1, h2⟩ := maxL_mem (gaps_nonneg xs ys) (by rw [gaps_len, ox.len]; exact hn)
  exact maxL_of (gaps_nonneg ys xs) (gaps_sub oy ox _ h1) fun x hx => h2 x (gaps_sub ox oy x hx)
end Fo
namespace Fo
open PySem PySem.Spec PyProof.Rows L2
/-! ### turned pairs, one after the other -/
def invR : List Int → Nat
  | [] => 0
  | x :: r => (r.filter (fun z => decide (z < x))).length + invR r
theorem rg_cons (n : Nat) : rg (n + 1) = 0 :: (rg n).map (· + 1) := by
  unfold rg
  rw [List.range_succ_eq_map, List.map_cons, List.map_map, List.map_map]
  rfl
theorem inv_NR : ∀ s : List Int, invN s = invR s
  | [] => rfl
  | x :: r => by
    have ih := inv_NR r
    unfold invN at ih ⊢
    rw [List.length_cons, rg_cons, sumN_cons, sumN_map]
    show cntL (x :: r) (0 : Int).toNat + _ = (r.filter (fun z => decide (z < x))).length + invR r
    rw [← ih]
    have e1 : cntL (x :: r) (0 : Int).toNat = (r.filter (fun z => decide (z < x))).length := rfl
    rw [e1]
    congr 1
    apply sumN_congr
    intro i hi
    have hb := rg_mem.mp hi
    obtain ⟨j, rfl⟩ : ∃ j : Nat, i = (j : Int) := ⟨i.toNat, by omega⟩
    rw [show ((j : Int) + 1).toNat = j + 1 by omega, Int.toNat_natCast]
    unfold cntL
    have e2 : g0 (x :: r) ((j + 1 : Nat) : Int) = g0 r (j : Int) := by
      unfold g0
      rw [Int.toNat_natCast, Int.toNat_natCast]
      rfl
    rw [e2]
    rfl
def firstDesc : List Int → Option Nat
  | [] => none
  | [_] => none
  | x :: y :: r => if y < x then some 0 else (firstDesc (y :: r)).map (· + 1)
/-- the first of the shortest walks, of at most m places -/
def gw : Nat → List Int → List Int
  | 0, _ => []
  | m + 1, s => match firstDesc s with
    | none => []
    | some p => (p : Int) :: gw m (sw s p)
end Fo
namespace Fo
open PySem PySem.Spec PyProof.Rows L2
theorem pos_ord {n : Nat} {xs : List Int} (o : IsOrd n xs) : IsOrd n ((rg n).map (pos xs)) := by
  have h : ((rg n).map (pos xs)).Perm (seatsL xs xs) := List.Perm.map _ o.symm
  rw [seats_self o] at h
  exact h
theorem pos_in {n : Nat} {xs : List Int} (o : IsOrd n xs) {t : Int} (h : t ∈ rg n) : pos xs t ∈ rg n := by
  have := (pos_ord o).mem (List.mem_map.mpr ⟨t, h, rfl⟩)
  exact rg_mem.mpr this
theorem g0_pos {n : Nat} {xs : List Int} (o : IsOrd n xs) {t : Int} (h : t ∈ rg n) : g0 xs (pos xs t) = t := by
  have h1 := rg_mem.mp h
  obtain ⟨j, _, ej, pj⟩ := pos_at o h1.1 h1.2
  rw [pj]
  exact g0_at ej
theorem pos_g0 {n : Nat} {xs : List Int} (o : IsOrd n xs) {p : Int} (h : p ∈ rg n) : pos xs (g0 xs p) = p := by
  have h1 := rg_mem.mp h
  obtain ⟨x, hx, _⟩ := ord_ix o (j := p.toNat) (by omega)
  have e := g0_at hx
  rw [Int.toNat_of_nonneg h1.1] at e
  rw [e, pos_of o hx]
  omega
theorem g0_in {n : Nat} {xs : List Int} (o : IsOrd n xs) {p : Int} (h : p ∈ rg n) : g0 xs p ∈ rg n := by
  have h1 := rg_mem.mp h
  obtain ⟨x, hx, x0, x1⟩ := ord_ix o (j := p.toNat) (by omega)
  have e := g0_at hx
  rw [Int.toNat_of_nonneg h1.1] at e
  rw [e]
  exact rg_mem.mpr ⟨x0, x1⟩
end Fo
namespace Fo
open PySem PySem.Spec PyProof.Rows L2
def spWhole : Sp := fun vs H Q _ => ∃ i : Int, vs = [.int i] ∧ Q (.bl true) H
section
variable {P : Program} {w : World} {K : PySem.W.Frag} {mg : Str → Option Value} {base : Heap}
theorem scWhole : FnScope ["thing"] ["thing"] (defScope s_is_whole) := ⟨rfl, rfl, rfl, by decide +kernel, rfl, by decide +kernel, by decide +kernel⟩
theorem ok_whole {f : Addr} {fd : FuncData} {k : Nat} (T : Df K mg "is_whole" s_is_whole ["thing"] f fd) (B : Bi mg) : FnOk P w K mg base CX0 (k + 1) f fd ["thing"] spWhole := by
  refine T.F.ok scWhole (fun vs H Q E h => ?_) (fun cdv A outer s H vs Q E hr h => ?_)
  · obtain ⟨i, rfl, _⟩ := h
    rfl
  · obtain ⟨i, rfl, q⟩ := h
    refine ⟨_, pss_one (ps_ret (pe_and (pe_callB call_isi (by rfl) B.isinstance (by decide +kernel) (pa_cons (pv 0) (pa_cons (pe_bltn (v := .ty "int") (by rfl) B.int (by decide +kernel) rfl) pa_nil)))
      (pe_one (pe_not (pe_callB call_isi (by rfl) B.isinstance (by decide +kernel) (pa_cons (pv 0) (pa_cons (pe_bltn (v := .ty "bool") (by rfl) B.bool (by decide +kernel) rfl) pa_nil))))))), ?_⟩
    refine ⟨_, rfl, _, _, _, _, true, rfl, .ty _, .base (.int _), kit_ty (by decide +kernel), true, rfl, iteT ?_⟩
    exact ⟨_, rfl, _, _, _, _, false, rfl, .ty _, .base (.int _), kit_ty (by decide +kernel), false, rfl, q⟩
end
end Fo
namespace Fo
open PySem PySem.Spec PyProof.Rows L2
/-! ### whole numbers, orders -/
def spIsOrd : Sp := fun vs H Q _ => ∃ (a : Addr) (n : Nat) (ns : List Int), vs = [.ref a] ∧ H a = some (.lst (ns.map V.int)) ∧ IsOrd n ns ∧ 1 ≤ n ∧ n ≤ 12 ∧ ∀ H', Same H H' → Q (.bl true) H'
def spCheck : Sp := fun vs H Q _ => ∃ (a : Addr) (n : Nat) (ns : List Int), vs = [.ref a] ∧ H a = some (.lst (ns.map V.int)) ∧ IsOrd n ns ∧ 1 ≤ n ∧ n ≤ 12 ∧ ∀ H', Same H H' → Q .non H'
section
variable {P : Program} {w : World} {K : PySem.W.Frag} {mg : Str → Option Value} {base : Heap}
theorem scIsOrd : FnScope ["thing", "number"] ["thing"] (defScope s_is_order) := ⟨rfl, rfl, rfl, by decide +kernel, rfl, by decide +kernel, by decide +kernel⟩
theorem all_true (n : Nat) : (List.replicate n true).all id = true := by simp
set_option maxHeartbeats 2000000 in
theorem ok_is_order {f fW : Addr} {fd fdW : FuncData} {k : Nat} {t : Tok} (T : Df K mg "is_order" s_is_order ["thing"] f fd) (TW : Df K mg "is_whole" s_is_whole ["thing"] fW fdW) (B : Bi mg) (mM : mg "MOST_THINGS" = some (.int 12 t)) : FnOk P w K mg base CX0 (k + 2) f fd ["thing"] spIsOrd := by
  have GW : FnOk P w K mg base CX0 (k + 1) fW fdW ["thing"] spWhole := ok_whole TW B
  refine T.F.ok scIsOrd (fun vs H Q E h => ?_) (fun cdv A outer s H vs Q E hr h => ?_)
  · obtain ⟨a, n, ns, rfl, _⟩ := h
    rfl
  · obtain ⟨a, n, ns, rfl, hl, ho, hn1, hn2, q⟩ := h
    have hlm : (ns.map V.int).length = n := by rw [List.length_map, ho.len]
    refine ⟨_, pss_cons (ps_if (PW.pt (pw_or (pt_not (pt_val (pe_callB call_isi (by rfl) B.isinstance (by decide +kernel) (pa_cons (pv 0) (pa_cons (pe_bltn (v := .ty "list") (by rfl) B.list (by decide +kernel) rfl) pa_nil)))))
        (pw_or (pt_cmpR op_lt (pe_callB call_len_seq (by rfl) B.len PySem.boot_len (pa_cons (pv 0) pa_nil)) pe_int (nomark _)) (pw_or1 (pt_cmpR op_gt (pe_callB call_len_seq (by rfl) B.len PySem.boot_len (pa_cons (pv 0) pa_nil)) (pe_glob (v := .int 12) (by rfl) mM ⟨_, rfl⟩) (nomark _))))))
        (pss_one (ps_ret pe_bl)) pss_nil)
      (pss_cons (ps_if (pt_not (pt_val (pe_callB (cr_all rfl) (by rfl) B.all (by decide +kernel) (pa_cons (pe_lc (own := [("number", 1)]) (g := gName 1) (tt := tYes) (te := tCall spWhole [] E0 (tCons (tVar 1) tNil)) rfl scIsOrd.nd (pi_list (pv 0)) (blkOk_by (N := ["thing", "number"]) (sc := defScope s_is_order) (by decide +kernel)) (fun _ _ _ _ _ => pg_name (i := 1) scIsOrd.nd rfl (.inl rfl)) (fun _ _ _ _ _ => pts_nil)
          (fun _ _ _ _ _ => pe_call GW hr (by rfl) TW.g TW.F.kp TW.b .nil pass0 (pa_cons (pv 1) pa_nil))) pa_nil)))) (pss_one (ps_ret pe_bl)) pss_nil)
      (pss_one (ps_ret (pe_cmpR (op_eqD hr.units) (pe_callB cr_sorted (by rfl) B.sorted (by decide +kernel) (pa_cons (pv 0) pa_nil)) (pe_listRg rfl (by rfl) B.list (prg_1 (by rfl) B.range (pe_callB call_len_seq (by rfl) B.len PySem.boot_len (pa_cons (pv 0) pa_nil)))) (nomark _))))), ?_⟩
    refine ⟨_, rfl, _, _, _, _, true, rfl, .ty _, .base (.lst hl), kit_ty (by decide +kernel), true, rfl, iteF ?_⟩
    refine ⟨_, rfl, a, _, rfl, .inl (SqL.of hl), _, 1, rfl, rfl, _, rfl, ite2 (fun c => absurd (of_decide_eq_true c) (by rw [hlm]; omega)) (fun _ => ?_)⟩
    refine ⟨_, rfl, a, _, rfl, .inl (SqL.of hl), _, 12, rfl, rfl, _, rfl, ite2 (fun c => absurd (of_decide_eq_true c) (by rw [hlm]; omega)) (fun _ => ?_)⟩
    refine ⟨_, rfl, a, rfl, ⟨_, SqL.of hl⟩, fun p np => ?_⟩
    refine lc_list (K := K) (a := a) (xs := ns.map V.int) (fun i H3 => H3 p = some (.lst ((List.replicate i true).map V.bl)) ∧ Same H H3) ⟨upd_same, same_new np⟩ (fun i H3 _ hP => SqL.of (hP.2 _ _ hl)) (fun i x H3 hx hP => ?_) (fun H3 hP => ?_)
    · obtain ⟨y, ey, rfl⟩ := int_at_inv hx
      obtain ⟨hp3, sm⟩ := hP
      refine ⟨rfl, _, rfl, y, rfl, _, hp3, line_lt (by
        rw [List.length_map, List.length_replicate]
        have := (List.getElem?_eq_some_iff.mp hx).1
        omega), ?_, fun b o e => ?_⟩
      · rw [upd_same, List.replicate_succ', List.map_append]
        rfl
      · rw [upd_ne (ne_of_none e np)]
        exact sm _ _ e
    · obtain ⟨hp3, sm⟩ := hP
      have hl3 := sm _ _ hl
      refine ⟨p, _, rfl, SqL.of hp3, _, rfl, ?_⟩
      rw [all_true]
      refine iteF ?_
      refine ⟨_, rfl, a, ns, rfl, SqL.of hl3, by rw [ho.len]; omega, fun ns' s1 hperm hsrt ns1 => ?_⟩
      have hl4 := same_new (o := .lst (ns'.map V.int)) ns1 _ _ hl3
      refine ⟨_, rfl, a, _, rfl, .inl (SqL.of hl4), _, rfl, RgOk.of_le (by omega) (by rw [hlm]; omega) (by omega) (by omega), fun s2 ns2 => ?_⟩
      have e1 : ns' = rg n := sorted_eq (hperm.trans ho) hsrt (rg_sorted n)
      subst e1
      rw [hlm]
      have h1 : (upd (upd H3 s1 (.lst ((rg n).map V.int))) s2 (.lst (rgV 0 (n : Int)))) s1 = some (.lst ((rg n).map V.int)) := same_new ns2 _ _ upd_same
      have h2 : (upd (upd H3 s1 (.lst ((rg n).map V.int))) s2 (.lst (rgV 0 (n : Int)))) s2 = some (.lst ((rg n).map V.int)) := by rw [upd_same, rg_V]
      refine ⟨_, _, dp_list h1, dp_list h2, shaped_list _, shaped_list _, ?_⟩
      rw [eqv_list]
      exact q _ ((sm.trans (same_new ns1)).trans (same_new ns2))
theorem scCheck : FnScope ["thing"] ["thing"] (defScope s_check_order) := ⟨rfl, rfl, rfl, by decide +kernel, rfl, by decide +kernel, by decide +kernel⟩
theorem ok_check {f fO fW : Addr} {fd fdO fdW : FuncData} {k : Nat} {t : Tok} (T : Df K mg "check_order" s_check_order ["thing"] f fd) (TO : Df K mg "is_order" s_is_order ["thing"] fO fdO) (TW : Df K mg "is_whole" s_is_whole ["thing"] fW fdW) (B : Bi mg) (mM : mg "MOST_THINGS" = some (.int 12 t)) : FnOk P w K mg base CX0 (k + 3) f fd ["thing"] spCheck := by
  have GO : FnOk P w K mg base CX0 (k + 2) fO fdO ["thing"] spIsOrd := ok_is_order TO TW B mM
  refine T.F.ok scCheck (fun vs H Q E h => ?_) (fun cdv A outer s H vs Q E hr h => ?_)
  · obtain ⟨a, n, ns, rfl, _⟩ := h
    rfl
  · obtain ⟨a, n, ns, rfl, hl, ho, hn1, hn2, q⟩ := h
    refine ⟨_, pss_one (ps_if (pt_not (pt_val (pe_call GO hr (by rfl) TO.g TO.F.kp TO.b .nil pass0 (pa_cons (pv 0) pa_nil)))) (pss_one ps_never) pss_nil), ?_⟩
    exact ⟨_, rfl, a, n, ns, rfl, hl, ho, hn1, hn2, fun H' sm => ⟨_, rfl, iteF (q H' sm)⟩⟩
end
end Fo
namespace Fo
open PySem PySem.Spec PyProof.Rows L2
def spSize : Sp := fun vs H Q _ => ∃ (n most : Int), vs = [.int n, .int most] ∧ 1 ≤ n ∧ n ≤ most ∧ Q .non H
section
variable {P : Program} {w : World} {K : PySem.W.Frag} {mg : Str → Option Value} {base : Heap}
theorem scSize : FnScope ["thing", "most"] ["thing", "most"] (defScope s_check_size) := ⟨rfl, rfl, rfl, by decide +kernel, rfl, by decide +kernel, by decide +kernel⟩
theorem ok_size {f fW : Addr} {fd fdW : FuncData} {k : Nat} (T : Df K mg "check_size" s_check_size ["thing", "most"] f fd) (T_is_whole : Df K mg "is_whole" s_is_whole ["thing"] fW fdW) (B : Bi mg) : FnOk P w K mg base CX0 (k + 2) f fd ["thing", "most"] spSize := by
  have G_is_whole : FnOk P w K mg base CX0 (k + 1) fW fdW ["thing"] spWhole := ok_whole T_is_whole B
  refine T.F.ok scSize (fun vs H Q E h => ?_) (fun cdv A outer s H vs Q E hr h => ?_)
  · obtain ⟨n, most, rfl, _⟩ := h
    rfl
  · obtain ⟨n, most, rfl, h1, h2, q⟩ := h
    refine ⟨_, 
      (pss_one (ps_if (PW.pt (pw_or (pt_not (pt_val (pe_call G_is_whole hr (by rfl) T_is_whole.g T_is_whole.F.kp T_is_whole.b .nil pass0 (pa_cons (pv 0) pa_nil)))) (pw_or (pt_cmpR op_lt (pv 0) pe_int (nomark _)) (pw_or1 (pt_cmpR op_gt (pv 0) (pv 1) (nomark _))))))
        (pss_one ps_never)
        pss_nil)), ?_⟩
    refine ⟨_, rfl, n, rfl, _, rfl, iteF ?_⟩
    refine ⟨_, rfl, n, 1, rfl, rfl, _, rfl, ite2 (fun z => absurd (of_decide_eq_true z) (by omega)) (fun _ => ?_)⟩
    exact ⟨_, rfl, _, rfl, n, most, rfl, rfl, _, rfl, ite2 (fun z => absurd (of_decide_eq_true z) (by omega)) (fun _ => q)⟩
end
end Fo
namespace Fo
open PySem PySem.Spec PyProof.Rows L2
def spFrom : Sp := fun vs H Q _ => ∃ (r least : Int), vs = [.int r, .int least] ∧ least ≤ r ∧ Q .non H
section
variable {P : Program} {w : World} {K : PySem.W.Frag} {mg : Str → Option Value} {base : Heap}
theorem scFrom : FnScope ["thing", "least"] ["thing", "least"] (defScope s_check_from) := ⟨rfl, rfl, rfl, by decide +kernel, rfl, by decide +kernel, by decide +kernel⟩
theorem ok_from {f fW : Addr} {fd fdW : FuncData} {k : Nat} (T : Df K mg "check_from" s_check_from ["thing", "least"] f fd) (T_is_whole : Df K mg "is_whole" s_is_whole ["thing"] fW fdW) (B : Bi mg) : FnOk P w K mg base CX0 (k + 2) f fd ["thing", "least"] spFrom := by
  have G_is_whole : FnOk P w K mg base CX0 (k + 1) fW fdW ["thing"] spWhole := ok_whole T_is_whole B
  refine T.F.ok scFrom (fun vs H Q E h => ?_) (fun cdv A outer s H vs Q E hr h => ?_)
  · obtain ⟨r, least, rfl, _⟩ := h
    rfl
  · obtain ⟨r, least, rfl, hle, q⟩ := h
    refine ⟨_, 
      (pss_one (ps_if (PW.pt (pw_or (pt_not (pt_val (pe_call G_is_whole hr (by rfl) T_is_whole.g T_is_whole.F.kp T_is_whole.b .nil pass0 (pa_cons (pv 0) pa_nil)))) (pw_or1 (pt_cmpR op_lt (pv 0) (pv 1) (nomark _)))))
        (pss_one ps_never)
        pss_nil)), ?_⟩
    refine ⟨_, rfl, r, rfl, _, rfl, iteF ?_⟩
    exact ⟨_, rfl, _, rfl, r, least, rfl, rfl, _, rfl, ite2 (fun z => absurd (of_decide_eq_true z) (by omega)) (fun _ => q)⟩
end
end Fo
namespace Fo
open PySem PySem.Spec PyProof.Rows L2
def spApart : Sp := fun vs H Q _ => ∃ (w : Str) (n most d : Int), vs = [.str w, .int n, .int most, .int d] ∧ IsWay w ∧ 1 ≤ n ∧ n ≤ most ∧ 1 ≤ d ∧ Q .non H
section
variable {P : Program} {w : World} {K : PySem.W.Frag} {mg : Str → Option Value} {base : Heap}
theorem scApart : FnScope ["way", "n", "most", "d"] ["way", "n", "most", "d"] (defScope s_check_apart) := ⟨rfl, rfl, rfl, by decide +kernel, rfl, by decide +kernel, by decide +kernel⟩
theorem ok_apart {f f1 f2 f3 fW aW : Addr} {fd d1 d2 d3 dW : FuncData} {k : Nat} (T : Df K mg "check_apart" s_check_apart ["way", "n", "most", "d"] f fd) (T_check_way : Df K mg "check_way" s_check_way ["thing"] f1 d1) (T_check_size : Df K mg "check_size" s_check_size ["thing", "most"] f2 d2) (T_check_from : Df K mg "check_from" s_check_from ["thing", "least"] f3 d3) (T_is_whole : Df K mg "is_whole" s_is_whole ["thing"] fW dW) (W : Wy K mg aW) (B : Bi mg) : FnOk P w K mg base CX0 (k + 3) f fd ["way", "n", "most", "d"] spApart := by
  have G_check_way : FnOk P w K mg base CX0 (k + 2) f1 d1 ["thing"] spWay := ok_way (k := k + 1) T_check_way W B
  have G_check_size : FnOk P w K mg base CX0 (k + 2) f2 d2 ["thing", "most"] spSize := ok_size T_check_size T_is_whole B
  have G_check_from : FnOk P w K mg base CX0 (k + 2) f3 d3 ["thing", "least"] spFrom := ok_from T_check_from T_is_whole B
  refine T.F.ok scApart (fun vs H Q E h => ?_) (fun cdv A outer s H vs Q E hr h => ?_)
  · obtain ⟨w, n, most, d, rfl, _⟩ := h
    rfl
  · obtain ⟨w, n, most, d, rfl, hw, h1, h2, h3, q⟩ := h
    refine ⟨_, 
      (pss_cons (ps_expr (pe_call G_check_way hr (by rfl) T_check_way.g T_check_way.F.kp T_check_way.b .nil pass0 (pa_cons (pv 0) pa_nil)))
      (pss_cons (ps_expr (pe_call G_check_size hr (by rfl) T_check_size.g T_check_size.F.kp T_check_size.b .nil pass0 (pa_cons (pv 1) (pa_cons (pv 2) pa_nil))))
      (pss_one (ps_expr (pe_call G_check_from hr (by rfl) T_check_from.g T_check_from.F.kp T_check_from.b .nil pass0 (pa_cons (pv 3) (pa_cons pe_int pa_nil))))))), ?_⟩
    exact ⟨_, rfl, w, rfl, hw, _, rfl, _, rfl, n, most, rfl, h1, h2, _, rfl, d, 1, rfl, h3, q⟩
end
end Fo
namespace Fo
open PySem PySem.Spec PyProof.Rows L2
def farW (w : Str) (xs ys : List Int) : Int := if w = "swap" then farSwap xs ys else if w = "spot" then farSpot xs ys else farShift xs ys
theorem farW_swap (xs ys : List Int) : farW "swap" xs ys = farSwap xs ys := if_pos rfl
theorem farW_spot (xs ys : List Int) : farW "spot" xs ys = farSpot xs ys := by
  unfold farW
  rw [if_neg n1, if_pos rfl]
theorem farW_shift (xs ys : List Int) : farW "shift" xs ys = farShift xs ys := by
  unfold farW
  rw [if_neg n2, if_neg n3]
theorem farW_turn {w : Str} {n : Nat} {xs ys : List Int} (ox : IsOrd n xs) (oy : IsOrd n ys) (hn : 1 ≤ n) : farW w ys xs = farW w xs ys := by
  unfold farW
  rw [farSwap_turn ox oy, farSpot_turn (by rw [ox.len, oy.len]), farShift_turn ox oy hn]
abbrev rAbs : List V → Hp → VK → Prop := fun xs H Q => ∃ i, xs = [.int i] ∧ Q (.int (if i < 0 then -i else i)) H
def spFar : Sp := fun vs H Q _ => ∃ (w : Str) (a b : Addr) (n : Nat) (xs ys : List Int), vs = [.str w, .ref a, .ref b] ∧ IsWay w ∧ H a = some (.lst (xs.map V.int)) ∧ H b = some (.lst (ys.map V.int)) ∧ IsOrd n xs ∧ IsOrd n ys ∧ 1 ≤ n ∧ n ≤ 12 ∧ ∀ (H' : Hp), Same H H' → Q (.int (farW w xs ys)) H'
end Fo
namespace Fo
open PySem PySem.Spec PyProof.Rows L2
def two (vs : List V) (H : Hp) (a b : Addr) (n : Nat) (xs ys : List Int) : Prop := vs = [.ref a, .ref b] ∧ H a = some (.lst (xs.map V.int)) ∧ H b = some (.lst (ys.map V.int)) ∧ IsOrd n xs ∧ IsOrd n ys ∧ 1 ≤ n ∧ n ≤ 12
end Fo
namespace Fo
open PySem PySem.Spec PyProof.Rows L2
def spPlaces : Sp := fun vs H Q _ => ∃ (a : Addr) (n : Nat) (ns : List Int), vs = [.ref a] ∧ H a = some (.lst (ns.map V.int)) ∧ IsOrd n ns ∧ 1 ≤ n ∧ n ≤ 12 ∧
  ∀ (ps : List Int) (l : Addr) (H' : Hp), IsBack ns ps → H l = none → H' l = some (.lst (ps.map V.int)) → Same H H' → Q (.ref l) H'
section
variable {P : Program} {w : World} {K : PySem.W.Frag} {mg : Str → Option Value} {base : Heap}
theorem scPlaces : FnScope ["order", "places", "place", "thing"] ["order"] (defScope s_places_in) := ⟨rfl, rfl, rfl, by decide +kernel, rfl, by decide +kernel, by decide +kernel⟩
set_option maxHeartbeats 2000000 in
theorem ok_places {f : Addr} {fd : FuncData} {k : Nat} (T : Df K mg "places_in" s_places_in ["order"] f fd) (B : Bi mg) : FnOk P w K mg base CX0 (k + 1) f fd ["order"] spPlaces := by
  refine T.F.ok scPlaces (fun vs H Q E h => ?_) (fun cdv A outer s H vs Q E hr h => ?_)
  · obtain ⟨a, n, ns, rfl, _⟩ := h
    rfl
  · obtain ⟨a, n, ns, rfl, ha, ho, hn1, hn2, q⟩ := h
    have hlm : (ns.map V.int).length = n := by rw [List.length_map, ho.len]
    have hz : ∀ m : Nat, (List.replicate m [V.int 0]).flatten = (List.replicate m (0 : Int)).map V.int := by
      intro m
      induction m with
      | zero => rfl
      | succ m ih => rw [List.replicate_succ, List.replicate_succ, List.flatten_cons, ih]; rfl
    refine ⟨_, 
      (pss_cons (ps_set (i := 1) scPlaces.nd rfl (.inl rfl) (pe_op op_rep (pe_lst (pa_cons pe_int pa_nil)) (pe_callB call_len_seq (by rfl) B.len PySem.boot_len (pa_cons (pv 0) pa_nil))))
      (pss_cons (ps_for PassesOwn.never rfl (pi_enum (by rfl) B.enumerate (pa_cons (pv 0) pa_nil)) (pg_tup (by rfl) (pgs_cons (pg_name (i := 2) scPlaces.nd rfl (.inl rfl)) (pgs_cons (pg_name (i := 3) scPlaces.nd rfl (.inl rfl)) pgs_nil)))
        (pss_one (ps_asg (pv 2) (pg_sub (pv 1) (pv 3) set_list))))
      (pss_one (ps_ret (pv 1))))), ?_⟩
    refine ⟨line_small (by show 1 ≤ 16777216; decide), fun z nz => ?_⟩
    have s1 := same_new (o := .lst [.int 0]) nz
    refine ⟨_, rfl, a, _, rfl, .inl (SqL.of (s1 _ _ ha)), z, _, _, rfl, rfl, upd_same, by omega, by rw [hlm]; omega, line_small (by rw [hlm, Int.toNat_natCast]; show 1 * n ≤ _; omega), fun l nl => ?_⟩
    have s2 := s1.trans (same_new (o := .lst (List.replicate (((ns.map V.int).length : Nat) : Int).toNat [V.int 0]).flatten) nl)
    have nHl : H l = none := s1.free nl
    refine ⟨_, rfl, a, _, rfl, SqL.of (s2 _ _ ha), ?_⟩
    refine for_enumL (xs := ns.map V.int) (fun i σ H3 => ∃ (y2 y3 : Option V) (ps : List Int), σ = [some (.ref a), some (.ref l), y2, y3] ∧ H3 l = some (.lst (ps.map V.int)) ∧ ps.length = n ∧ (∀ (j : Nat) (x : Int), j < i → ns[j]? = some x → ps[x.toNat]? = some (j : Int)) ∧ Same H H3)
      ⟨none, none, List.replicate n 0, rfl, by rw [upd_same, hz, hlm, Int.toNat_natCast], by rw [List.length_replicate], fun j x hj => absurd hj (Nat.not_lt_zero _), s2⟩ (fun i σ H3 hP => by obtain ⟨_, _, _, _, _, _, _, sm⟩ := hP; exact SqL.of (sm _ _ ha)) (fun i x t σ H3 hx hP nt => ?_) (fun σ H3 hP => ?_)
    · obtain ⟨y2, y3, ps, rfl, hl3, el, hat, sm⟩ := hP
      obtain ⟨y, ey, rfl⟩ := int_at_inv hx
      have hy := ho.mem (List.mem_of_getElem? ey)
      have s3 := same_new (o := .tup [.int (i : Nat), .int y]) nt
      have hl4 := s3 _ _ hl3
      refine ⟨t, _, rfl, .inl (.inl upd_same), rfl, _, _, rfl, _, _, rfl, rfl, ?_⟩
      refine ⟨_, rfl, _, rfl, _, rfl, l, _, _, y.toNat, rfl, rfl, hl4, ix_n (by omega) (by rw [List.length_map]; omega), ?_⟩
      refine ⟨_, _, ps.set y.toNat (i : Int), rfl, by rw [upd_same, List.map_set], by rw [List.length_set]; exact el, fun j x hj hx2 => ?_, fun c o e => ?_⟩
      · by_cases c : j = i
        · subst c
          have e1 : x = y := Option.some.inj (hx2.symm.trans ey)
          subst e1
          rw [List.getElem?_set_self (by omega)]
        · have hx3 := ho.mem (List.mem_of_getElem? hx2)
          have ne : y.toNat ≠ x.toNat := fun e => c (nd_ix ho.nodup hx2 (by rw [ey]; congr 1; omega))
          rw [List.getElem?_set_ne ne]
          exact hat j x (by omega) hx2
      · rw [upd_ne (ne_of_none e nHl)]
        exact s3 _ _ (sm _ _ e)
    · obtain ⟨y2, y3, ps, rfl, hl3, el, hat, sm⟩ := hP
      rw [hlm] at hat
      refine ⟨_, rfl, q ps l H3 ⟨by rw [el, ho.len], fun j x hx => hat j x ?_ hx⟩ nHl hl3 sm⟩
      have := (List.getElem?_eq_some_iff.mp hx).1
      rw [ho.len] at this
      exact this
end
end Fo
namespace Fo
open PySem PySem.Spec PyProof.Rows L2
def spSeats : Sp := fun vs H Q _ => ∃ (a b : Addr) (n : Nat) (xs ys : List Int), two vs H a b n xs ys ∧ ∀ (l : Addr) (H' : Hp), H l = none → H' l = some (.lst ((seatsL xs ys).map V.int)) → Same H H' → Q (.ref l) H'
section
variable {P : Program} {w : World} {K : PySem.W.Frag} {mg : Str → Option Value} {base : Heap}
theorem scSeats : FnScope ["one", "other", "places", "thing"] ["one", "other"] (defScope s_seats_in) := ⟨rfl, rfl, rfl, by decide +kernel, rfl, by decide +kernel, by decide +kernel⟩
set_option maxHeartbeats 2000000 in
theorem ok_seats {f fP : Addr} {fd fdP : FuncData} {k : Nat} (T : Df K mg "seats_in" s_seats_in ["one", "other"] f fd) (T_places_in : Df K mg "places_in" s_places_in ["order"] fP fdP) (B : Bi mg) : FnOk P w K mg base CX0 (k + 2) f fd ["one", "other"] spSeats := by
  have G_places_in : FnOk P w K mg base CX0 (k + 1) fP fdP ["order"] spPlaces := ok_places T_places_in B
  refine T.F.ok scSeats (fun vs H Q E h => ?_) (fun cdv A outer s H vs Q E hr h => ?_)
  · obtain ⟨a, b, n, xs, ys, ⟨rfl, _⟩, _⟩ := h
    rfl
  · obtain ⟨a, b, n, xs, ys, ⟨rfl, ha, hb, ox, oy, hn1, hn2⟩, q⟩ := h
    refine ⟨_, 
      (pss_cons (ps_set (i := 2) scSeats.nd rfl (.inr rfl) (pe_call G_places_in hr (by rfl) T_places_in.g T_places_in.F.kp T_places_in.b .nil pass0 (pa_cons (pv 1) pa_nil)))
      (pss_one (ps_ret (pe_lc (own := [("thing", 3)]) (g := (gName 3)) (tt := tYes) (te := (tOp (rIxL K) (tVar 2) (tVar 3))) rfl scSeats.nd (pi_list (pv 0)) (blkOk_by (N := ["one", "other", "places", "thing"]) (sc := defScope s_seats_in) (by decide +kernel)) (fun _ _ _ _ _ => (pg_name (i := 3) scSeats.nd rfl (.inl rfl))) (fun _ _ _ _ _ => pts_nil) (fun _ _ _ _ _ => (pe_ix ix_list (pv 2) (pv 3) (fun _ _ => rfl))))))), ?_⟩
    refine ⟨_, rfl, b, n, ys, rfl, hb, oy, hn1, hn2, fun ps l H1 hps nl hl s1 => ?_⟩
    refine ⟨_, rfl, a, rfl, ⟨_, SqL.of (s1 _ _ ha)⟩, fun D nD => ?_⟩
    have nHD : H D = none := s1.free nD
    refine lc_list (K := K) (a := a) (xs := xs.map V.int) (fun i H3 => H3 D = some (.lst (((seatsL xs ys).take i).map V.int)) ∧ H3 l = some (.lst (ps.map V.int)) ∧ Same H H3) ⟨upd_same, same_new nD _ _ hl, s1.trans (same_new nD)⟩ (fun i H3 _ hP => SqL.of (hP.2.2 _ _ ha)) (fun i x H3 hx hP => ?_) (fun H3 hP => ?_)
    · obtain ⟨y, ey, rfl⟩ := int_at_inv hx
      obtain ⟨hD3, hl3, sm⟩ := hP
      have hy := ox.mem (List.mem_of_getElem? ey)
      have hi := (List.getElem?_eq_some_iff.mp ey).1
      rw [ox.len] at hi
      refine ⟨rfl, _, rfl, _, rfl, l, _, _, _, rfl, rfl, SqL.of hl3, at_of (j := y.toNat) (by omega) (int_at (back_pos oy hps hy.1 hy.2)), _, hD3, line_lt (by rw [List.length_map, List.length_take]; omega), ?_, ?_, fun c o e => ?_⟩
      · rw [upd_same, take_more (seats_at ey), List.map_append]
        rfl
      · rw [upd_ne (ne_of_none hl nD)]
        exact hl3
      · rw [upd_ne (ne_of_none e nHD)]
        exact sm _ _ e
    · obtain ⟨hD3, hl3, sm⟩ := hP
      rw [List.take_of_length_le (by rw [seats_len, List.length_map]; exact Nat.le_refl _)] at hD3
      exact q D H3 nHD hD3 sm
end
end Fo
namespace Fo
open PySem PySem.Spec PyProof.Rows L2
def spSwap : Sp := fun vs H Q _ => ∃ (a b : Addr) (n : Nat) (xs ys : List Int), two vs H a b n xs ys ∧ ∀ (H' : Hp), Same H H' → Q (.int (farSwap xs ys)) H'
def spSpot : Sp := fun vs H Q _ => ∃ (a b : Addr) (n : Nat) (xs ys : List Int), two vs H a b n xs ys ∧ ∀ (H' : Hp), Same H H' → Q (.int (farSpot xs ys)) H'
def spShift : Sp := fun vs H Q _ => ∃ (a b : Addr) (n : Nat) (xs ys : List Int), two vs H a b n xs ys ∧ ∀ (H' : Hp), Same H H' → Q (.int (farShift xs ys)) H'
section
variable {P : Program} {w : World} {K : PySem.W.Frag} {mg : Str → Option Value} {base : Heap}
theorem scSwap : FnScope ["one", "other", "seats", "turned", "place", "seat", "later"] ["one", "other"] (defScope s_far_by_swap) := ⟨rfl, rfl, rfl, by decide +kernel, rfl, by decide +kernel, by decide +kernel⟩
set_option maxHeartbeats 2000000 in
theorem ok_swap {f fP : Addr} {fd fdP : FuncData} {k : Nat} (T : Df K mg "far_by_swap" s_far_by_swap ["one", "other"] f fd) (T_seats_in : Df K mg "seats_in" s_seats_in ["one", "other"] fP fdP) (G_seats_in : FnOk P w K mg base CX0 k fP fdP ["one", "other"] spSeats) (B : Bi mg) : FnOk P w K mg base CX0 (k + 1) f fd ["one", "other"] spSwap := by
  refine T.F.ok scSwap (fun vs H Q E h => ?_) (fun cdv A outer s H vs Q E hr h => ?_)
  · obtain ⟨a, b, n, xs, ys, ⟨rfl, _⟩, _⟩ := h
    rfl
  · obtain ⟨a, b, n, xs, ys, ⟨rfl, ha, hb, ox, oy, hn1, hn2⟩, q⟩ := h
    refine ⟨_, 
      (pss_cons (ps_set (i := 2) scSwap.nd rfl (.inl rfl) (pe_call G_seats_in hr (by rfl) T_seats_in.g T_seats_in.F.kp T_seats_in.b .nil pass0 (pa_cons (pv 0) (pa_cons (pv 1) pa_nil))))
      (pss_cons (ps_set (i := 3) scSwap.nd rfl (.inl rfl) pe_int)
      (pss_cons (ps_for PassesOwn.never rfl (pi_enum (by rfl) B.enumerate (pa_cons (pv 2) pa_nil)) (pg_tup (by rfl) (pgs_cons (pg_name (i := 4) scSwap.nd rfl (.inl rfl)) (pgs_cons (pg_name (i := 5) scSwap.nd rfl (.inr rfl)) pgs_nil)))
        (pss_one (ps_aug (i := 3) scSwap.nd rfl (.inl rfl) (pe_callB call_len_seq (by rfl) B.len PySem.boot_len (pa_cons (pe_lc (own := [("later", 6)]) (g := (gName 6)) (tt := (tTest (tOp (rI0 fun i j => .bl (decide (i < j))) (tVar 6) (tVar 5)))) (te := (tVar 6)) rfl scSwap.nd (pi_list (pe_slice sl_list (pv 2) (po_some (pe_op op_add (pv 4) pe_int)) po_none)) (blkOk_by (N := ["one", "other", "seats", "turned", "place", "seat", "later"]) (sc := defScope s_far_by_swap) (by decide +kernel)) (fun _ _ _ _ _ => (pg_name (i := 6) scSwap.nd rfl (.inl rfl))) (fun _ _ _ _ _ => (pts_one (pt_cmpR op_lt (pv 6) (pv 5) (nomark _)))) (fun _ _ _ _ _ => (pv 6))) pa_nil)) ip_add)))
      (pss_one (ps_ret (pv 3)))))), ?_⟩
    refine ⟨_, rfl, _, rfl, a, b, n, xs, ys, ⟨rfl, ha, hb, ox, oy, hn1, hn2⟩, fun l H1 nl hl s1 => ?_⟩
    have os := seats_ord ox oy
    refine ⟨_, rfl, l, _, rfl, SqL.of hl, ?_⟩
    refine for_enumL (xs := (seatsL xs ys).map V.int) (fun i σ H3 => ∃ (y4 y5 y6 : Option V), σ = [some (.ref a), some (.ref b), some (.ref l), some (.int ((sumN (rg i) (fun p => cntL (seatsL xs ys) p.toNat) : Nat) : Int)), y4, y5, y6] ∧ H3 l = some (.lst ((seatsL xs ys).map V.int)) ∧ Same H H3)
      ⟨none, none, none, rfl, hl, s1⟩ (fun i σ H3 hP => by obtain ⟨_, _, _, _, hl3, _⟩ := hP; exact SqL.of hl3) (fun i x t σ H3 hx hP nt => ?_) (fun σ H3 hP => ?_)
    · obtain ⟨y4, y5, y6, rfl, hl3, sm⟩ := hP
      obtain ⟨y, ey, rfl⟩ := int_at_inv hx
      have hi := (List.getElem?_eq_some_iff.mp ey).1
      rw [os.len] at hi
      have s3 := same_new (o := .tup [.int (i : Nat), .int y]) nt
      refine ⟨t, _, rfl, .inl (.inl upd_same), rfl, _, _, rfl, _, _, rfl, rfl, ?_⟩
      refine ⟨_, rfl, _, rfl, _, rfl, (i : Int), 1, rfl, rfl, _, rfl, l, _, rfl, SqL.of (s3 _ _ hl3), fun c nc => ?_⟩
      have s4 := s3.trans (same_new (o := .lst (cutV ((seatsL xs ys).map V.int) (some ((i : Int) + 1)) none)) nc)
      have ecut : cutV ((seatsL xs ys).map V.int) (some ((i : Int) + 1)) none = (((seatsL xs ys).drop (i + 1)).map V.int) := by
        rw [cut_ints, show (i : Int) + 1 = ((i + 1 : Nat) : Int) by omega, cutI_tail]
      have hc4 : (upd (upd H3 t (.tup [.int (i : Nat), .int y])) c (.lst (cutV ((seatsL xs ys).map V.int) (some ((i : Int) + 1)) none))) c = some (.lst (((seatsL xs ys).drop (i + 1)).map V.int)) := by rw [upd_same, ecut]
      refine ⟨c, rfl, ⟨_, SqL.of hc4⟩, fun D nD => ?_⟩
      have ncD : c ≠ D := ne_of_none hc4 nD
      refine lc_list (K := K) (a := c) (xs := ((seatsL xs ys).drop (i + 1)).map V.int) (fun m H5 => H5 D = some (.lst (((((seatsL xs ys).drop (i + 1)).take m).filter (fun z => decide (z < g0 (seatsL xs ys) i))).map V.int)) ∧ H5 c = some (.lst (((seatsL xs ys).drop (i + 1)).map V.int)) ∧ Same H3 H5)
        ⟨upd_same, by rw [upd_ne ncD]; exact hc4, s4.trans (same_new nD)⟩ (fun m H5 _ hP => SqL.of hP.2.1) (fun m x H5 hx hP => ?_) (fun H5 hP => ?_)
      · obtain ⟨hD5, hc5, s5⟩ := hP
        obtain ⟨z, ez, rfl⟩ := int_at_inv hx
        have eg : g0 (seatsL xs ys) i = y := g0_at ey
        refine ⟨rfl, _, rfl, _, rfl, z, y, rfl, rfl, _, rfl, ite2 (fun c => ?_) (fun c => ?_)⟩
        · have hz : z < y := of_decide_eq_true c
          refine ⟨_, rfl, _, hD5, line_lt ?_, ?_, by rw [upd_ne ncD]; exact hc5, fun u o e => ?_⟩
          · rw [List.length_map]
            refine Nat.lt_of_le_of_lt (List.length_filter_le _ _) ?_
            rw [List.length_take, List.length_drop, os.len]
            omega
          · rw [upd_same, filter_more _ ez, eg, decide_eq_true hz, if_pos rfl, List.map_append]
            rfl
          · rw [upd_ne (ne_of_none (s4 _ _ e) nD)]
            exact s5 _ _ e
        · refine ⟨?_, hc5, s5⟩
          rw [filter_more _ ez, eg, decide_eq_false (fun hz => c (decide_eq_true hz)), if_neg (by decide), List.append_nil]
          rw [eg] at hD5
          exact hD5
      · obtain ⟨hD5, hc5, s5⟩ := hP
        rw [List.length_map, List.take_length] at hD5
        refine ⟨D, _, rfl, .inl (SqL.of hD5), _, _, rfl, rfl, ?_⟩
        refine ⟨some (.int (i : Int)), some (.int y), y6, ?_, s5 _ _ hl3, sm.trans s5⟩
        rw [rg_succ, sumN_append, sumN_cons, sumN_nil, List.length_map]
        show [some (.ref a), some (.ref b), some (.ref l), some (V.int (((sumN (rg i) (fun p => cntL (seatsL xs ys) p.toNat) : Nat) : Int) + ((cntL (seatsL xs ys) i : Nat) : Int))), some (.int (i : Int)), some (.int y), y6] = _
        rw [Int.toNat_natCast, Int.natCast_add, Nat.add_zero]
    · obtain ⟨y4, y5, y6, rfl, hl3, sm⟩ := hP
      refine ⟨_, rfl, ?_⟩
      have z := q H3 sm
      unfold farSwap invN at z
      rw [List.length_map]
      exact z
theorem scSpot : FnScope ["one", "other", "place"] ["one", "other"] (defScope s_far_by_spot) := ⟨rfl, rfl, rfl, by decide +kernel, rfl, by decide +kernel, by decide +kernel⟩
set_option maxHeartbeats 2000000 in
theorem ok_spot {f : Addr} {fd : FuncData} {k : Nat} (T : Df K mg "far_by_spot" s_far_by_spot ["one", "other"] f fd) (B : Bi mg) : FnOk P w K mg base CX0 (k + 1) f fd ["one", "other"] spSpot := by
  refine T.F.ok scSpot (fun vs H Q E h => ?_) (fun cdv A outer s H vs Q E hr h => ?_)
  · obtain ⟨a, b, n, xs, ys, ⟨rfl, _⟩, _⟩ := h
    rfl
  · obtain ⟨a, b, n, xs, ys, ⟨rfl, ha, hb, ox, oy, hn1, hn2⟩, q⟩ := h
    have hxl : (xs.map V.int).length = n := by rw [List.length_map, ox.len]
    refine ⟨_, 
      (pss_one (ps_ret (pe_callB call_len_seq (by rfl) B.len PySem.boot_len (pa_cons (pe_lc (own := [("place", 2)]) (g := (gName 2)) (tt := (tTest (tOp rNe (tOp (rIxL K) (tVar 0) (tVar 2)) (tOp (rIxL K) (tVar 1) (tVar 2))))) (te := (tVar 2)) rfl scSpot.nd (pi_range1 (by rfl) B.range (pa_cons (pe_callB call_len_seq (by rfl) B.len PySem.boot_len (pa_cons (pv 0) pa_nil)) pa_nil)) (blkOk_by (N := ["one", "other", "place"]) (sc := defScope s_far_by_spot) (by decide +kernel)) (fun _ _ _ _ _ => (pg_name (i := 2) scSpot.nd rfl (.inl rfl))) (fun _ _ _ _ _ => (pts_one (pt_cmpR op_ne (pe_ix ix_list (pv 0) (pv 2) (fun _ _ => rfl)) (pe_ix ix_list (pv 1) (pv 2) (fun _ _ => rfl)) (nomark _)))) (fun _ _ _ _ _ => (pv 2))) pa_nil)))), ?_⟩
    refine ⟨_, rfl, a, _, rfl, .inl (SqL.of ha), _, rfl, by omega, by rw [hxl]; omega, fun D nD => ?_⟩
    rw [hxl, Int.toNat_natCast]
    refine lc_range (lo := 0) (n := n) (fun m H3 => H3 D = some (.lst (((rg m).filter (fun p => !decide (g0 xs p = g0 ys p))).map V.int)) ∧ Same H H3) ⟨upd_same, same_new nD⟩ (fun m H3 hm hP => ?_) (fun H3 hP => ?_)
    · obtain ⟨hD3, sm⟩ := hP
      obtain ⟨x, ex, _⟩ := ord_ix ox hm
      obtain ⟨y, ey, _⟩ := ord_ix oy hm
      have gx : g0 xs (m : Int) = x := g0_at ex
      have gy : g0 ys (m : Int) = y := g0_at ey
      have fm : ((rg (m + 1)).filter fun p => !decide (g0 xs p = g0 ys p)) = ((rg m).filter fun p => !decide (g0 xs p = g0 ys p)) ++ (if x = y then [] else [(m : Int)]) := by
        rw [rg_succ, List.filter_append, List.filter_cons, gx, gy]
        congr 1
        by_cases c : x = y
        · simp [c]
        · simp [c]
      refine ⟨rfl, _, rfl, _, rfl, a, _, _, _, rfl, rfl, SqL.of (sm _ _ ha), at_of (j := m) (by omega) (int_at ex), _, rfl, _, rfl, b, _, _, _, rfl, rfl, SqL.of (sm _ _ hb), at_of (j := m) (by omega) (int_at ey), rfl, _, rfl, ?_⟩
      by_cases c : x = y
      · subst c
        refine iteNS rfl ⟨?_, sm⟩
        rw [fm, if_pos rfl, List.append_nil]
        exact hD3
      · rw [decide_eq_false (fun e => c (V.int.inj e))]
        refine iteT ⟨_, rfl, _, hD3, line_lt ?_, ?_, fun u o e => ?_⟩
        · rw [List.length_map]
          refine Nat.lt_of_le_of_lt (List.length_filter_le _ _) ?_
          rw [rg_len]
          omega
        · rw [upd_same, fm, if_neg c, List.map_append, Int.zero_add]
          rfl
        · rw [upd_ne (ne_of_none e nD)]
          exact sm _ _ e
    · obtain ⟨hD3, sm⟩ := hP
      refine ⟨D, _, rfl, .inl (SqL.of hD3), ?_⟩
      have z := q H3 sm
      unfold farSpot spotL at z
      rw [ox.len] at z
      rw [List.length_map]
      exact z
theorem scShift : FnScope ["one", "other", "place", "seat"] ["one", "other"] (defScope s_far_by_shift) := ⟨rfl, rfl, rfl, by decide +kernel, rfl, by decide +kernel, by decide +kernel⟩
set_option maxHeartbeats 2000000 in
theorem ok_shift {f fP : Addr} {fd fdP : FuncData} {k : Nat} (T : Df K mg "far_by_shift" s_far_by_shift ["one", "other"] f fd) (T_seats_in : Df K mg "seats_in" s_seats_in ["one", "other"] fP fdP) (G_seats_in : FnOk P w K mg base CX0 k fP fdP ["one", "other"] spSeats) (B : Bi mg) : FnOk P w K mg base CX0 (k + 1) f fd ["one", "other"] spShift := by
  refine T.F.ok scShift (fun vs H Q E h => ?_) (fun cdv A outer s H vs Q E hr h => ?_)
  · obtain ⟨a, b, n, xs, ys, ⟨rfl, _⟩, _⟩ := h
    rfl
  · obtain ⟨a, b, n, xs, ys, ⟨rfl, ha, hb, ox, oy, hn1, hn2⟩, q⟩ := h
    refine ⟨_, 
      (pss_one (ps_ret (pe_callB (cr_max rfl) (by rfl) B.max (by decide +kernel) (pa_cons (pe_lc (own := [("place", 2), ("seat", 3)]) (g := (gTup K 2 (gCons (gName 2) (gCons (gName 3) gNil)))) (tt := tYes) (te := (tCB rAbs (tCons (tOp (rI0 fun i j => .int (i - j)) (tVar 2) (tVar 3)) tNil))) rfl scShift.nd (pi_enum (by rfl) B.enumerate (pa_cons (pe_call G_seats_in hr (by rfl) T_seats_in.g T_seats_in.F.kp T_seats_in.b .nil pass0 (pa_cons (pv 0) (pa_cons (pv 1) pa_nil))) pa_nil)) (blkOk_by (N := ["one", "other", "place", "seat"]) (sc := defScope s_far_by_shift) (by decide +kernel)) (fun _ _ _ _ _ => (pg_tup (by rfl) (pgs_cons (pg_name (i := 2) scShift.nd rfl (.inl rfl)) (pgs_cons (pg_name (i := 3) scShift.nd rfl (.inl rfl)) pgs_nil)))) (fun _ _ _ _ _ => pts_nil) (fun _ _ _ _ _ => (pe_callB call_abs (by rfl) B.abs (by decide +kernel) (pa_cons (pe_op op_sub (pv 2) (pv 3)) pa_nil)))) pa_nil)))), ?_⟩
    have os := seats_ord ox oy
    refine ⟨_, rfl, _, rfl, a, b, n, xs, ys, ⟨rfl, ha, hb, ox, oy, hn1, hn2⟩, fun l H1 nl hl s1 => ?_⟩
    refine ⟨l, _, rfl, SqL.of hl, fun D nD => ?_⟩
    have nlD : l ≠ D := ne_of_none hl nD
    have nHD : H D = none := s1.free nD
    refine lc_enumL (K := K) (a := l) (xs := (seatsL xs ys).map V.int) (fun m H3 => H3 D = some (.lst (((gapsL xs ys).take m).map V.int)) ∧ H3 l = some (.lst ((seatsL xs ys).map V.int)) ∧ Same H H3) ⟨upd_same, by rw [upd_ne nlD]; exact hl, s1.trans (same_new nD)⟩ (fun m H3 _ hP => SqL.of hP.2.1) (fun m x t H3 hx hP nt => ?_) (fun H3 hP => ?_)
    · obtain ⟨hD3, hl3, sm⟩ := hP
      obtain ⟨y, ey, rfl⟩ := int_at_inv hx
      have hi := (List.getElem?_eq_some_iff.mp ey).1
      rw [os.len] at hi
      have s3 := same_new (o := .tup [.int (m : Nat), .int y]) nt
      have eg : (gapsL xs ys)[m]? = some (absI ((m : Int) - y)) := by
        unfold gapsL rg
        rw [List.map_map, List.getElem?_map, List.getElem?_range (by rw [ox.len]; exact hi)]
        show some (absI ((m : Int) - g0 (seatsL xs ys) (m : Int))) = _
        rw [g0_at ey]
      refine ⟨t, _, rfl, .inl (.inl upd_same), rfl, _, _, rfl, _, _, rfl, rfl, rfl, ?_⟩
      refine ⟨_, rfl, _, rfl, (m : Int), y, rfl, rfl, _, rfl, _, s3 _ _ hD3, line_lt (by rw [List.length_map, List.length_take, gaps_len, ox.len]; omega), ?_, ?_, fun u o e => ?_⟩
      · rw [upd_same, take_more eg, List.map_append]
        rfl
      · rw [upd_ne nlD]
        exact s3 _ _ hl3
      · rw [upd_ne (ne_of_none e nHD)]
        exact s3 _ _ (sm _ _ e)
    · obtain ⟨hD3, hl3, sm⟩ := hP
      rw [List.take_of_length_le (by rw [gaps_len, List.length_map, seats_len]; exact Nat.le_refl _)] at hD3
      refine ⟨D, gapsL xs ys, rfl, SqL.of hD3, by rw [gaps_len, ox.len]; exact hn1, fun m hm hle => ?_⟩
      have e : farShift xs ys = m := maxL_of (gaps_nonneg xs ys) hm hle
      rw [← e]
      exact q H3 sm
theorem scKnown : FnScope ["way", "one", "other"] ["way", "one", "other"] (defScope s_known_far) := ⟨rfl, rfl, rfl, by decide +kernel, rfl, by decide +kernel, by decide +kernel⟩
theorem ok_known {f f4 f5 f6 : Addr} {fd d4 d5 d6 : FuncData} {k : Nat} (T : Df K mg "known_far" s_known_far ["way", "one", "other"] f fd) (T_far_by_swap : Df K mg "far_by_swap" s_far_by_swap ["one", "other"] f4 d4) (T_far_by_spot : Df K mg "far_by_spot" s_far_by_spot ["one", "other"] f5 d5) (T_far_by_shift : Df K mg "far_by_shift" s_far_by_shift ["one", "other"] f6 d6)
    (G_far_by_swap : FnOk P w K mg base CX0 k f4 d4 ["one", "other"] spSwap) (G_far_by_spot : FnOk P w K mg base CX0 k f5 d5 ["one", "other"] spSpot) (G_far_by_shift : FnOk P w K mg base CX0 k f6 d6 ["one", "other"] spShift) :
    FnOk P w K mg base CX0 (k + 1) f fd ["way", "one", "other"] spFar := by
  refine T.F.ok scKnown (fun vs H Q E h => ?_) (fun cdv A outer s H vs Q E hr h => ?_)
  · obtain ⟨z, a, b, n, xs, ys, rfl, _⟩ := h
    rfl
  · obtain ⟨z, a, b, n, xs, ys, rfl, hz, ha, hb, ox, oy, hn1, hn2, q⟩ := h
    refine ⟨_, 
      (pss_cons (ps_if (pt_cmpR op_eq (pv 0) pe_str (nomark _))
        (pss_one (ps_ret (pe_call G_far_by_swap hr (by rfl) T_far_by_swap.g T_far_by_swap.F.kp T_far_by_swap.b .nil pass0 (pa_cons (pv 1) (pa_cons (pv 2) pa_nil)))))
        pss_nil)
      (pss_cons (ps_if (pt_cmpR op_eq (pv 0) pe_str (nomark _))
        (pss_one (ps_ret (pe_call G_far_by_spot hr (by rfl) T_far_by_spot.g T_far_by_spot.F.kp T_far_by_spot.b .nil pass0 (pa_cons (pv 1) (pa_cons (pv 2) pa_nil)))))
        pss_nil)
      (pss_one (ps_ret (pe_call G_far_by_shift hr (by rfl) T_far_by_shift.g T_far_by_shift.F.kp T_far_by_shift.b .nil pass0 (pa_cons (pv 1) (pa_cons (pv 2) pa_nil))))))), ?_⟩
    rcases hz with rfl | rfl | rfl
    · refine ⟨_, rfl, rfl, _, rfl, ite2 (fun _ => ?_) (fun c => absurd (by decide +kernel) c)⟩
      exact ⟨_, rfl, _, rfl, a, b, n, xs, ys, ⟨rfl, ha, hb, ox, oy, hn1, hn2⟩, fun H2 s2 => by rw [← farW_swap]; exact q H2 s2⟩
    · refine ⟨_, rfl, rfl, _, rfl, ite2 (fun c => absurd c (by decide +kernel)) (fun _ => ?_)⟩
      refine ⟨_, rfl, rfl, _, rfl, ite2 (fun _ => ?_) (fun c => absurd (by decide +kernel) c)⟩
      exact ⟨_, rfl, _, rfl, a, b, n, xs, ys, ⟨rfl, ha, hb, ox, oy, hn1, hn2⟩, fun H2 s2 => by rw [← farW_spot]; exact q H2 s2⟩
    · refine ⟨_, rfl, rfl, _, rfl, ite2 (fun c => absurd c (by decide +kernel)) (fun _ => ?_)⟩
      refine ⟨_, rfl, rfl, _, rfl, ite2 (fun c => absurd c (by decide +kernel)) (fun _ => ?_)⟩
      exact ⟨_, rfl, _, rfl, a, b, n, xs, ys, ⟨rfl, ha, hb, ox, oy, hn1, hn2⟩, fun H2 s2 => by rw [← farW_shift]; exact q H2 s2⟩
end
end Fo
namespace Fo
open PySem PySem.Spec PyProof.Rows L2
/-! ### how far, by things -/
theorem g0_seats {n : Nat} {xs ys : List Int} (o : IsOrd n xs) {p : Int} (h : p ∈ rg n) : g0 (seatsL xs ys) p = pos ys (g0 xs p) := by
  have h1 := rg_mem.mp h
  obtain ⟨x, hx, _⟩ := ord_ix o (j := p.toNat) (by omega)
  have e := g0_at hx
  have e2 := g0_at (seats_at (ys := ys) hx)
  rw [Int.toNat_of_nonneg h1.1] at e e2
  rw [e, e2]
def shL (n : Nat) (xs ys : List Int) : List Int := (rg n).map fun t => absI (pos xs t - pos ys t)
theorem shift_mem {n : Nat} {xs ys : List Int} (ox : IsOrd n xs) : ∀ g, g ∈ gapsL xs ys ↔ g ∈ shL n xs ys := by
  intro g
  unfold gapsL shL
  rw [ox.len, List.mem_map, List.mem_map]
  constructor
  · rintro ⟨p, hp, rfl⟩
    exact ⟨g0 xs p, g0_in ox hp, by rw [pos_g0 ox hp, g0_seats ox hp]⟩
  · rintro ⟨t, ht, rfl⟩
    exact ⟨pos xs t, pos_in ox ht, by rw [g0_seats ox (pos_in ox ht), g0_pos ox ht]⟩
theorem shift_T {n : Nat} {xs ys : List Int} (ox : IsOrd n xs) (hn : 1 ≤ n) : (∃ t ∈ rg n, farShift xs ys = absI (pos xs t - pos ys t)) ∧ ∀ t ∈ rg n, absI (pos xs t - pos ys t) ≤ farShift xs ys := by
  obtain ⟨h1, h2⟩ := maxL_mem (gaps_nonneg xs ys) (by rw [gaps_len, ox.len]; exact hn)
  constructor
  · obtain ⟨t, ht, e⟩ := List.mem_map.mp ((shift_mem ox _).mp h1)
    exact ⟨t, ht, e.symm⟩
  · intro t ht
    exact h2 _ ((shift_mem ox _).mpr (List.mem_map.mpr ⟨t, ht, rfl⟩))
/-! ### alike just where 0 -/
theorem invR_zero : ∀ {s : List Int}, invR s = 0 → s.Pairwise (· ≤ ·)
  | [], _ => List.Pairwise.nil
  | x :: r, h => by
    have h' : (r.filter (fun z => decide (z < x))).length + invR r = 0 := h
    refine List.Pairwise.cons (fun z hz => ?_) (invR_zero (by omega))
    have e : r.filter (fun z => decide (z < x)) = [] := List.eq_nil_of_length_eq_zero (by omega)
    have := List.filter_eq_nil_iff.mp e z hz
    simp at this
    exact this
theorem same_of_pos {n : Nat} {xs ys : List Int} (ox : IsOrd n xs) (oy : IsOrd n ys) (h : ∀ p ∈ rg n, pos ys (g0 xs p) = p) : xs = ys := by
  rw [g0_ord ox, g0_ord oy]
  apply List.map_congr_left
  intro p hp
  have e := g0_pos oy (g0_in ox hp)
  rw [h p hp] at e
  exact e.symm
theorem farW_zero {w : Str} {n : Nat} {xs ys : List Int} (hw : IsWay w) (ox : IsOrd n xs) (oy : IsOrd n ys) (hn : 1 ≤ n) (h : farW w xs ys = 0) : xs = ys := by
  rcases hw with rfl | rfl | rfl
  · rw [farW_swap] at h
    unfold farSwap at h
    rw [inv_NR] at h
    have hs := invR_zero (s := seatsL xs ys) (by omega)
    have e := sorted_eq (seats_ord ox oy) hs (rg_sorted n)
    refine same_of_pos ox oy fun p hp => ?_
    rw [← g0_seats ox hp, e]
    have h1 := rg_mem.mp hp
    have z : (rg n)[p.toNat]? = some p := by
      unfold rg
      rw [List.getElem?_map, List.getElem?_range (by omega)]
      show some ((p.toNat : Nat) : Int) = some p
      rw [Int.toNat_of_nonneg h1.1]
    have z2 := g0_at z
    rw [Int.toNat_of_nonneg h1.1] at z2
    exact z2
  · rw [farW_spot] at h
    unfold farSpot spotL at h
    have e : ((rg xs.length).filter fun p => !decide (g0 xs p = g0 ys p)) = [] := List.eq_nil_of_length_eq_zero (by omega)
    rw [g0_ord ox, g0_ord oy]
    apply List.map_congr_left
    intro p hp
    have := List.filter_eq_nil_iff.mp e p (by rw [ox.len]; exact hp)
    simpa using this
  · rw [farW_shift] at h
    have h2 := (shift_T (ys := ys) ox hn).2
    rw [h] at h2
    refine same_of_pos ox oy fun p hp => ?_
    have := h2 _ (g0_in ox hp)
    rw [pos_g0 ox hp] at this
    unfold absI at this
    split at this <;> omega
/-! ### by a third one never shorter -/
/-! ### called otherwise, and from behind -/
/-! ### how far at most -/
theorem invR_two (s : List Int) : 2 * invR s + s.length ≤ s.length * s.length := by
  induction s with
  | nil => exact Nat.le_refl _
  | cons x r ih =>
    show 2 * ((r.filter _).length + invR r) + (r.length + 1) ≤ (r.length + 1) * (r.length + 1)
    have h1 : (r.filter (fun z => decide (z < x))).length ≤ r.length := List.length_filter_le _ _
    have h2 : (r.length + 1) * (r.length + 1) = r.length * r.length + r.length + r.length + 1 := by
      rw [Nat.add_mul, Nat.mul_add]
      omega
    omega
theorem swap_most {n : Nat} {xs ys : List Int} (ox : IsOrd n xs) : 2 * farSwap xs ys ≤ (n : Int) * ((n : Int) - 1) := by
  unfold farSwap
  rw [inv_NR]
  have h := invR_two (seatsL xs ys)
  rw [seats_len, ox.len] at h
  have e : (n : Int) * ((n : Int) - 1) = ((n * n : Nat) : Int) - (n : Int) := by
    rw [Int.mul_sub, Int.mul_one, Int.natCast_mul]
  rw [e]
  omega
theorem spot_most {n : Nat} {xs ys : List Int} (ox : IsOrd n xs) : farSpot xs ys ≤ n := by
  unfold farSpot spotL
  rw [ox.len]
  have h := List.length_filter_le (fun p => !decide (g0 xs p = g0 ys p)) (rg n)
  rw [rg_len] at h
  omega
theorem shift_most {n : Nat} {xs ys : List Int} (ox : IsOrd n xs) (oy : IsOrd n ys) (hn : 1 ≤ n) : farShift xs ys ≤ (n : Int) - 1 := by
  obtain ⟨t, ht, e⟩ := (shift_T (ys := ys) ox hn).1
  have h1 := rg_mem.mp (pos_in ox ht)
  have h2 := rg_mem.mp (pos_in oy ht)
  rw [e]
  unfold absI
  split <;> omega
/-! ### backs -/
end Fo
namespace Fo
open PySem PySem.Spec PyProof.Rows L2
/-! lists of orders, asked of anything -/
def OLd (d : PyData) : Prop := ∃ ds, d = .list ds ∧ (∀ x ∈ ds, GoodD x) ∧ ∀ x ∈ ds, ∀ y ∈ ds, lenD x = lenD y
def spOLD : Sp := fun vs H Q _ => ∃ (v : V) (d : PyData), vs = [v] ∧ Dq H v d ∧ (∀ ds, d = .list ds → ds.length ≤ 10000) ∧ ∀ (b : Bool) (H' : Hp), (b = true ↔ OLd d) → Same H H' → Q (.bl b) H'
theorem all_snoc (bs : List Bool) (b : Bool) : (bs ++ [b]).all id = true ↔ bs.all id = true ∧ b = true := by
  rw [List.all_append, Bool.and_eq_true]
  simp
theorem take_all {ds : List PyData} {i : Nat} {d : PyData} (e : ds[i]? = some d) {p : PyData → Prop} : (∀ x ∈ ds.take (i + 1), p x) ↔ (∀ x ∈ ds.take i, p x) ∧ p d := by
  rw [List.take_add_one, e]
  constructor
  · intro h
    exact ⟨fun x m => h x (List.mem_append_left _ m), h d (List.mem_append_right _ List.mem_cons_self)⟩
  · rintro ⟨h1, h2⟩ x m
    rcases List.mem_append.mp m with m | m
    · exact h1 x m
    · rw [List.mem_singleton.mp m]
      exact h2
section
variable {P : Program} {w : World} {K : PySem.W.Frag} {mg : Str → Option Value} {base : Heap}
theorem scOLD : FnScope ["thing", "each", "order"] ["thing"] (defScope s_is_order_list) := ⟨rfl, rfl, rfl, by decide +kernel, rfl, by decide +kernel, by decide +kernel⟩
set_option maxHeartbeats 2000000 in
theorem ok_olD {f f1 : Addr} {fd d1 : FuncData} {k : Nat} (T : Df K mg "is_order_list" s_is_order_list ["thing"] f fd) (T_is_order : Df K mg "is_order" s_is_order ["thing"] f1 d1) (G_is_order : FnOk P w K mg base CX0 k f1 d1 ["thing"] spIsOrdD) (B : Bi mg) : FnOk P w K mg base CX0 (k + 1) f fd ["thing"] spOLD := by
  refine T.F.ok scOLD (fun vs H Q E h => ?_) (fun cdv A outer s H vs Q E hr h => ?_)
  · obtain ⟨v, d, rfl, _⟩ := h
    rfl
  · obtain ⟨v, d, rfl, hd, hlen, q⟩ := h
    refine ⟨_, 
      (pss_cons (ps_if (PW.pt (pw_or (pt_not (pt_val (pe_callB call_isi (by rfl) B.isinstance (by decide +kernel) (pa_cons (pv 0) (pa_cons (pe_bltn (v := .ty "list") (by rfl) B.list (by decide +kernel) rfl) pa_nil))))) (pw_or1 (pt_not (pt_val (pe_callB (cr_all rfl) (by rfl) B.all (by decide +kernel) (pa_cons (pe_lc (own := [("each", 1)]) (g := (gName 1)) (tt := tYes) (te := (tCall spIsOrdD [] E0 (tCons (tVar 1) tNil))) rfl scOLD.nd (pi_list (pv 0)) (blkOk_by (N := ["thing", "each", "order"]) (sc := defScope s_is_order_list) (by decide +kernel)) (fun _ _ _ _ _ => (pg_name (i := 1) scOLD.nd rfl (.inl rfl))) (fun _ _ _ _ _ => pts_nil) (fun _ _ _ _ _ => (pe_call G_is_order hr (by rfl) T_is_order.g T_is_order.F.kp T_is_order.b .nil pass0 (pa_cons (pv 1) pa_nil)))) pa_nil)))))))
        (pss_one (ps_ret pe_bl))
        pss_nil)
      (pss_one (ps_ret (pe_callB (cr_all rfl) (by rfl) B.all (by decide +kernel) (pa_cons (pe_lc (own := [("order", 2)]) (g := (gName 2)) (tt := tYes) (te := (tOp rEq (tCB (rLenS K) (tCons (tVar 2) tNil)) (tCB (rLenS K) (tCons (tOp (rIxL K) (tVar 0) (tC (.int 0))) tNil)))) rfl scOLD.nd (pi_list (pv 0)) (blkOk_by (N := ["thing", "each", "order"]) (sc := defScope s_is_order_list) (by decide +kernel)) (fun _ _ _ _ _ => (pg_name (i := 2) scOLD.nd rfl (.inl rfl))) (fun _ _ _ _ _ => pts_nil) (fun _ _ _ _ _ => (pe_cmpR op_eq (pe_callB call_len_seq (by rfl) B.len PySem.boot_len (pa_cons (pv 2) pa_nil)) (pe_callB call_len_seq (by rfl) B.len PySem.boot_len (pa_cons (pe_ix ix_list (pv 0) pe_int (fun _ _ => rfl)) pa_nil)) (nomark _)))) pa_nil))))), ?_⟩
    refine ⟨_, rfl, _, _, _, _, isListD d, rfl, .ty _, dq_ty hd, kit_listD d, _, rfl, ?_⟩
    cases hl : isListD d with
    | false =>
      refine iteT (iteT (q _ _ ⟨fun z => absurd z Bool.false_ne_true, fun z => ?_⟩ (Same.refl _)))
      obtain ⟨ds, e, _⟩ := z
      rw [e] at hl
      cases hl
    | true =>
      cases hd with
      | @lst a xs ds e al =>
        have hl1 := al.len
        have hl2 := hlen ds rfl
        refine iteF ?_
        refine ⟨_, rfl, a, rfl, ⟨_, SqL.of e⟩, fun p np => ?_⟩
        refine lc_list (K := K) (a := a) (xs := xs) (fun i H3 => (∃ bs : List Bool, H3 p = some (.lst (bs.map V.bl)) ∧ bs.length = i ∧ (bs.all id = true ↔ ∀ x ∈ ds.take i, GoodD x)) ∧ Same H H3) ⟨⟨[], upd_same, rfl, by simp⟩, same_new np⟩ (fun i H3 _ hP => SqL.of (hP.2 _ _ e)) (fun i x H3 hx hP => ?_) (fun H3 hP => ?_)
        · obtain ⟨⟨bs, hp3, hb, hg⟩, sm⟩ := hP
          obtain ⟨d, ed, hd⟩ := al.get hx
          have hi := (List.getElem?_eq_some_iff.mp ed).1
          refine ⟨rfl, _, rfl, x, d, rfl, hd.same sm, fun b H4 hb4 s4 => ⟨_, s4 _ _ hp3, line_lt (by rw [List.length_map]; omega), ⟨bs ++ [b], by rw [upd_same, List.map_append]; rfl, by rw [List.length_append, hb]; rfl, ?_⟩, fun b o eb => ?_⟩⟩
          · rw [all_snoc, hg, hb4, take_all ed]
          · rw [upd_ne (ne_of_none eb np)]
            exact s4 _ _ (sm _ _ eb)
        · obtain ⟨⟨bs, hp3, hb, hg⟩, sm⟩ := hP
          rw [hl1, List.take_length] at hg
          have e3 := sm _ _ e
          refine ⟨p, _, rfl, SqL.of hp3, _, rfl, ?_⟩
          have hno : bs.all id = false → (false = true ↔ OLd (.list ds)) := fun z => ⟨fun y => absurd y Bool.false_ne_true, fun y => by
            obtain ⟨ds', e', g', _⟩ := y
            injection e' with e'
            subst e'
            rw [hg.mpr g'] at z
            exact absurd z (by decide)⟩
          cases ha : bs.all id with
          | false => exact iteT (q _ _ (hno ha) sm)
          | true =>
            have good := hg.mp ha
            refine iteF ?_
            refine ⟨_, rfl, a, rfl, ⟨_, SqL.of e3⟩, fun p2 np2 => ?_⟩
            refine lc_list (K := K) (a := a) (xs := xs) (fun i H5 => (∃ cs : List Bool, H5 p2 = some (.lst (cs.map V.bl)) ∧ cs.length = i ∧ (cs.all id = true ↔ ∀ x ∈ ds.take i, ∀ y, ds[0]? = some y → lenD x = lenD y)) ∧ Same H3 H5) ⟨⟨[], upd_same, rfl, by simp⟩, same_new np2⟩ (fun i H5 _ hP => SqL.of (hP.2 _ _ e3)) (fun i x H5 hx hP => ?_) (fun H5 hP => ?_)
            · obtain ⟨⟨cs, hp5, hc, hg5⟩, sm5⟩ := hP
              have al5 := al.same (sm.trans sm5)
              obtain ⟨d, ed, hd⟩ := al5.get hx
              have hi := (List.getElem?_eq_some_iff.mp ed).1
              have g1 := good d (List.mem_of_getElem? ed)
              obtain ⟨a1, ns1, rfl, h1, o1, _, _, l1⟩ := good_at hd g1
              obtain ⟨x0, ex0⟩ : ∃ x0, xs[0]? = some x0 := ⟨xs[0]'(by omega), List.getElem?_eq_getElem (by omega)⟩
              obtain ⟨d0, ed0, hd0⟩ := al5.get ex0
              obtain ⟨a0, ns0, rfl, h0, o0, _, _, l0⟩ := good_at hd0 (good d0 (List.mem_of_getElem? ed0))
              refine ⟨rfl, _, rfl, a1, _, rfl, .inl (SqL.of h1), _, rfl, a, _, 0, _, rfl, rfl, SqL.of (sm5 _ _ e3), at_of (j := 0) rfl ex0, a0, _, rfl, .inl (SqL.of h0), rfl, ?_⟩
              refine ⟨_, hp5, line_lt (by rw [List.length_map]; omega), ⟨cs ++ [decide (lenD d = lenD d0)], ?_, by rw [List.length_append, hc]; rfl, ?_⟩, fun b o eb => ?_⟩
              · have e1 : decide (V.int (((ns1.map V.int).length : Nat) : Int) = V.int (((ns0.map V.int).length : Nat) : Int)) = decide (lenD d = lenD d0) := by
                  rw [List.length_map, List.length_map, l1, l0, decide_eq_decide]
                  exact ⟨fun z => by injection z with z; omega, fun z => by rw [z]⟩
                rw [upd_same, List.map_append, ← e1]
                rfl
              · rw [all_snoc, hg5, take_all ed, decide_eq_true_iff]
                refine and_congr Iff.rfl ⟨fun z y ey => ?_, fun z => z d0 ed0⟩
                rw [ed0] at ey
                rw [← Option.some.inj ey]
                exact z
              · rw [upd_ne (ne_of_none eb np2)]
                exact sm5 _ _ eb
            · obtain ⟨⟨cs, hp5, hc, hg5⟩, sm5⟩ := hP
              rw [hl1, List.take_length] at hg5
              refine ⟨p2, _, rfl, SqL.of hp5, ?_⟩
              refine q _ _ ?_ (sm.trans sm5)
              rw [hg5]
              constructor
              · intro h
                refine ⟨ds, rfl, good, fun x mx y my => ?_⟩
                cases ds with
                | nil => exact absurd mx List.not_mem_nil
                | cons d0 r => rw [h x mx d0 rfl, h y my d0 rfl]
              · rintro ⟨ds', e', _, h⟩
                injection e' with e'
                subst e'
                exact fun x mx y ey => h x mx y (List.mem_of_getElem? ey)
      | _ => cases hl
end
end Fo
namespace Fo
open PySem PySem.Spec PyProof.Rows L2
/-! sets of tuples of up to 300: the table of 512 slots. The round of x -> 5 x + 1 reckoned in one step -/
def geo (k : Nat) : Nat := (5 ^ k - 1) / 4
theorem geo_dvd : ∀ k : Nat, 4 * geo k + 1 = 5 ^ k
  | 0 => rfl
  | k + 1 => by
    have h := geo_dvd k
    unfold geo at h ⊢
    rw [Nat.pow_succ]
    omega
theorem geo_succ (k : Nat) : geo (k + 1) = geo k * 5 + 1 := by
  have h1 := geo_dvd k
  have h2 := geo_dvd (k + 1)
  rw [Nat.pow_succ] at h2
  omega
theorem lcgN_geo (m : Nat) : ∀ k, lcgN m k = geo k % (m + 1)
  | 0 => by show 0 = geo 0 % (m + 1); rw [show geo 0 = 0 from rfl, Nat.zero_mod]
  | k + 1 => by
    show (lcgN m k * 5 + 1) % (m + 1) = _
    rw [lcgN_geo m k, geo_succ, Nat.add_mod, Nat.mul_mod, Nat.mod_mod, ← Nat.mul_mod, ← Nat.add_mod]
def certB : List Nat := [0, 1, 326, 495, 412, 365, 2, 379, 376, 281, 254, 327, 404, 261, 58, 339, 496, 305, 438, 415, 140, 413, 370, 43, 360, 73, 366, 247, 132, 309, 426, 3, 480, 97, 38, 335, 380, 461, 226, 219, 344, 377, 478, 167, 372, 357, 282, 179, 464, 401, 150, 255, 108, 509, 82, 395, 328, 169, 78, 87, 100, 405, 138, 355, 448, 193, 262, 175, 348, 45, 450, 59, 312, 473, 190, 7, 340, 453, 506, 19, 432, 497, 374, 95, 76, 93, 306, 235, 296, 265, 302, 439, 68, 501, 362, 195, 416, 289, 486, 15, 316, 141, 162, 411, 280, 57, 414, 359, 308, 37, 218, 371, 400, 81, 86, 447, 44, 189, 18, 75, 264, 361, 14, 279, 36, 85, 74, 35, 384, 385, 198, 367, 284, 237, 386, 251, 248, 153, 126, 199, 276, 133, 442, 211, 368, 177, 310, 287, 12, 285, 242, 427, 232, 457, 238, 119, 4, 181, 298, 387, 352, 481, 422, 207, 252, 333, 98, 91, 216, 249, 350, 39, 244, 229, 154, 51, 336, 273, 22, 127, 492, 381, 466, 267, 200, 41, 462, 471, 484, 277, 10, 227, 320, 65, 134, 47, 220, 429, 322, 443, 184, 345, 62, 391, 212, 325, 378, 403, 304, 369, 246, 479, 460, 477, 178, 107, 168, 137, 174, 311, 452, 373, 234, 67, 288, 161, 358, 399, 188, 13, 34, 283, 152, 441, 286, 231, 180, 421, 90, 243, 272, 465, 470, 319, 428, 61, 402, 459, 136, 233, 398, 151, 420, 469, 458, 419, 256, 257, 70, 239, 156, 109, 258, 123, 120, 25, 510, 71, 148, 5, 314, 83, 240, 49, 182, 159, 396, 157, 114, 299, 104, 329, 110, 503, 388, 53, 170, 259, 224, 353, 294, 79, 124, 205, 482, 475, 88, 121, 222, 423, 116, 101, 26, 435, 208, 145, 406, 511, 364, 253, 338, 139, 72, 425, 334, 343, 356, 149, 394, 99, 192, 449, 6, 431, 92, 301, 194, 315, 56, 217, 446, 263, 84, 197, 250, 275, 176, 241, 118, 351, 332, 349, 50, 491, 40, 9, 46, 183, 324, 245, 106, 451, 160, 33, 230, 271, 60, 397, 418, 155, 24, 313, 158, 103, 52, 293, 474, 115, 144, 337, 342, 191, 300, 445, 274, 331, 8, 105, 270, 23, 292, 341, 330, 291, 128, 129, 454, 111, 28, 493, 130, 507, 504, 409, 382, 455, 20, 389, 186, 467, 112, 433, 54, 31, 268, 29, 498, 171, 488, 201, 494, 375, 260, 437, 42, 131, 96, 225, 166, 463, 508, 77, 354, 347, 472, 505, 94, 295, 500, 485, 410, 307, 80, 17, 278, 383, 236, 125, 210, 11, 456, 297, 206, 215, 228, 21, 266, 483, 64, 321, 390, 303, 476, 173, 66, 187, 440, 89, 318, 135, 468, 69, 122, 147, 48, 113, 502, 223, 204, 221, 434, 363, 424, 393, 430, 55, 196, 117, 490, 323, 32, 417, 102, 143, 444, 269, 290, 27, 408, 185, 30, 487, 436, 165, 346, 499, 16, 209, 214, 63, 172, 317, 146, 203, 392, 489, 142, 407, 164, 213, 202, 163]
theorem cert_ok : ((List.range 512).zip certB).all (fun p => geo p.2 % 512 == p.1 && decide (p.2 ≤ 511)) = true := by decide +kernel
theorem cert_len : certB.length = 512 := by decide +kernel
/-- the masks that come, up to 300 things -/
def MaskB (m : Nat) : Prop := MaskOk m ∨ m = 511
theorem lcg_allB {m : Nat} (hm : MaskB m) {j : Nat} (hj : j ≤ m) : ∃ b, b ≤ m ∧ lcgN m b = j := by
  rcases hm with hm | rfl
  · exact lcg_all hm hj
  · have h1 : j < certB.length := by rw [cert_len]; omega
    have h2 : ((List.range 512).zip certB)[j]? = some (j, certB[j]) := by
      rw [List.getElem?_zip_eq_some]
      exact ⟨by rw [List.getElem?_range (by omega)], List.getElem?_eq_getElem h1⟩
    have h3 := List.all_eq_true.mp cert_ok _ (List.mem_of_getElem? h2)
    rw [Bool.and_eq_true] at h3
    exact ⟨certB[j], of_decide_eq_true h3.2, by rw [lcgN_geo]; exact beq_iff_eq.mp h3.1⟩
theorem lcg_roundB {m : Nat} (hm : MaskB m) : lcgN m (m + 1) = 0 := by
  rcases hm with hm | rfl
  · exact lcg_round hm
  · rw [lcgN_geo]
    decide +kernel
theorem lcgN_modB {m : Nat} (hm : MaskB m) (k : Nat) : lcgN m (m + 1 + k) = lcgN m k := by
  have h := lcg_roundB hm
  induction k with
  | zero => exact h
  | succ k ih =>
    show (lcgN m (m + 1 + k) * 5 + 1) % (m + 1) = (lcgN m k * 5 + 1) % (m + 1)
    rw [ih]
/-- from anywhere each slot comes within a round -/
theorem lcgI_allB {m : Nat} (hm : MaskB m) {i j : Nat} (hi : i ≤ m) (hj : j ≤ m) : ∃ k, k ≤ m ∧ lcgI m i k = j := by
  obtain ⟨a, ha, rfl⟩ := lcg_allB hm hi
  obtain ⟨b, hb, rfl⟩ := lcg_allB hm hj
  by_cases c : a ≤ b
  · exact ⟨b - a, by omega, by rw [lcgN_add, show a + (b - a) = b by omega]⟩
  · exact ⟨m + 1 + b - a, by omega, by rw [lcgN_add, show a + (m + 1 + b - a) = m + 1 + b by omega, lcgN_modB hm]⟩
theorem run_meetsB {m : Nat} (hm : MaskB m) (h : Int) {j : Nat} (hj : j ≤ m) : ∃ n, n ≤ m + 12 ∧ runI m (SetTable.bits h) n = j := by
  obtain ⟨k, hk, e⟩ := lcgI_allB hm (runI_le m (SetTable.bits h) 12) hj
  refine ⟨12 + k, by omega, ?_⟩
  rw [runI_tail (bits_lt h), e]
theorem nth_meetsB {m : Nat} (hm : MaskB m) (h : Int) {j : Nat} (hj : j ≤ m) : ∃ k, k < 10 * SetTable.turns m ∧ (nth m (runAt m (SetTable.bits h % (m + 1)) (SetTable.bits h)) k).j = j := by
  obtain ⟨n, hn, e⟩ := run_meetsB hm h hj
  obtain ⟨k, hk, e2⟩ := run_nth m (SetTable.bits h) n
  exact ⟨k, by unfold SetTable.turns; omega, by rw [e2]; exact e⟩
theorem mask_oddB {m : Nat} (h : MaskB m) : m % 2 = 1 := by
  rcases h with h | rfl
  · exact mask_odd h
  · rfl
end Fo
namespace Fo
open PySem PySem.Spec PyProof.Rows L2
/-! a table of up to 512 slots -/
theorem way_leB (m : Nat) (h : Int) (k : Nat) : way m h k ≤ m := by
  have b := runEnd_bd (Nat.le_of_lt_succ (Nat.mod_lt (SetTable.bits h) (Nat.succ_pos m)))
  have q := nth_in (m := m) k (runAt m (SetTable.bits h % (m + 1)) (SetTable.bits h)) (by
    show SetTable.bits h % (m + 1) + (SetTable.runEnd m (SetTable.bits h % (m + 1)) - SetTable.bits h % (m + 1)) ≤ m
    have b1 := b.1
    have b2 := b.2.1
    exact (Nat.add_sub_cancel' b2).symm ▸ b1)
  exact Nat.le_trans (Nat.le_add_right _ _) q
structure TabB (t : SetTable) (hs : List Int) : Prop where
  ris : Ris t.place.toList
  dm : t.dummies = #[]
  sz : t.place.size = hs.length
  mok : MaskB t.mask
  bd : ∀ x ∈ t.place.toList, x ≤ t.mask
  reach : ∀ (i : Nat) (h : Int) (j : Nat), hs[i]? = some h → t.place.toList[i]? = some j → ∃ k, way t.mask h k = j ∧ ∀ k', k' < k → way t.mask h k' ∈ t.place.toList
theorem TabB.of {t : SetTable} {hs : List Int} (T : TabOk t hs) : TabB t hs := ⟨T.ris, T.dm, T.sz, .inl T.mok, T.bd, T.reach⟩
theorem TabB.len {t : SetTable} {hs : List Int} (T : TabB t hs) : t.place.toList.length = hs.length := by rw [Array.length_toList, T.sz]
theorem TabB.first {t : SetTable} {hs : List Int} (T : TabB t hs) (hl : hs.length ≤ t.mask) (h : Int) : ∃ K, K < 10 * SetTable.turns t.mask ∧ way t.mask h K ∉ t.place.toList ∧ ∀ k, k < K → way t.mask h k ∈ t.place.toList := by
  obtain ⟨j, hj, hn⟩ := st_missing t.place.toList (t.mask + 1) (by rw [T.len]; omega)
  obtain ⟨k, hk, e⟩ := nth_meetsB T.mok h (Nat.le_of_lt_succ hj)
  obtain ⟨K, h1, h2, h3⟩ := st_least (p := fun k => way t.mask h k ∉ t.place.toList) k (by
    show (nth t.mask (runAt t.mask (SetTable.bits h % (t.mask + 1)) (SetTable.bits h)) k).j ∉ _
    rw [e]
    exact hn)
  exact ⟨K, Nat.lt_of_le_of_lt h1 hk, h2, fun k' hk' => Classical.not_not.mp (h3 k' hk')⟩
theorem TabB.before {t : SetTable} {hs : List Int} (T : TabB t hs) {h : Int} {K i j : Nat} (hK : way t.mask h K ∉ t.place.toList) (hi : hs[i]? = some h) (hj : t.place.toList[i]? = some j) : ∃ k, k < K ∧ way t.mask h k = j := by
  obtain ⟨k, rfl, hb⟩ := T.reach i h j hi hj
  refine ⟨k, Nat.lt_of_not_le fun c => hK ?_, rfl⟩
  rcases Nat.eq_or_lt_of_le c with rfl | c
  · exact List.mem_of_getElem? hj
  · exact hb K c
theorem TabB.put {t : SetTable} {hs : List Int} (T : TabB t hs) {h : Int} {K j : Nat} (ej : way t.mask h K = j) (hK : j ∉ t.place.toList) (hb : ∀ k, k < K → way t.mask h k ∈ t.place.toList) :
    SetTable.below t.place j ≤ hs.length ∧ TabB (t.put j).1 (hs.take (SetTable.below t.place j) ++ h :: hs.drop (SetTable.below t.place j)) ∧ (t.put j).1.fill = hs.length + 1 := by
  have c1 := (below_cut T.ris j).1
  have b1 : SetTable.below t.place j ≤ t.place.toList.length := c1
  have b2 : SetTable.below t.place j ≤ hs.length := by rw [← T.len]; exact b1
  have pp := put_place t j
  have up : ∀ {x : Nat}, x ∈ t.place.toList → x ∈ (t.put j).1.place.toList := fun hx => by rw [pp]; exact mem_ins.2 (.inr hx)
  have sz : (t.put j).1.place.size = hs.length + 1 := by rw [← Array.length_toList, pp, len_ins _ b1, T.len]
  refine ⟨b2, ⟨ris_insert T.ris fun e => hK (List.mem_of_getElem? (by rw [Array.getElem?_toList]; exact e)), put_dm T.dm j, by rw [len_ins _ b2]; exact sz, T.mok, fun x hx => ?_, fun i h' j' e1 e2 => ?_⟩, ?_⟩
  · rw [pp] at hx
    rcases mem_ins.1 hx with rfl | z
    · rw [← ej]
      exact way_leB t.mask h K
    · exact T.bd x z
  · rw [tins_get hs b2] at e1
    rw [pp, tins_get _ b1] at e2
    show ∃ k, way t.mask h' k = j' ∧ ∀ k', k' < k → way t.mask h' k' ∈ (t.put j).1.place.toList
    have old : ∀ i, hs[i]? = some h' → t.place.toList[i]? = some j' → ∃ k, way t.mask h' k = j' ∧ ∀ k', k' < k → way t.mask h' k' ∈ (t.put j).1.place.toList := fun i a b => by
      obtain ⟨k, e, z⟩ := T.reach i h' j' a b
      exact ⟨k, e, fun k' hk' => up (z k' hk')⟩
    rcases Nat.lt_trichotomy i (SetTable.below t.place j) with c | c | c
    · rw [if_pos c] at e1 e2
      exact old i e1 e2
    · rw [if_neg (by omega), if_pos c] at e1 e2
      cases e1
      cases e2
      exact ⟨K, ej, fun k' hk' => up (hb k' hk')⟩
    · rw [if_neg (by omega), if_neg (by omega)] at e1 e2
      exact old (i - 1) e1 e2
  · show (t.put j).1.place.size + (t.put j).1.dummies.size = hs.length + 1
    rw [sz, put_dm T.dm j]
    rfl
/-! laying anew -/
theorem free_findB {m : Nat} (hm : MaskB m) (owner : Array (Option Nat)) (h : Int) {j : Nat} (hj : j ≤ m) (hf : oAt owner j = none) :
    ∃ K, SetTable.layClean.free m owner (SetTable.turns m) (SetTable.bits h % (m + 1)) (SetTable.bits h) = some (way m h K) ∧ oAt owner (way m h K) = none ∧ ∀ k, k < K → oAt owner (way m h k) ≠ none := by
  obtain ⟨n, hn, e⟩ := run_meetsB hm h hj
  have hw : way m h (off m (SetTable.bits h % (m + 1)) (SetTable.bits h) n) = j := by
    show (nth m (runAt m _ _) _).j = j
    rw [nth_off, itL_run]
    exact e
  obtain ⟨K, k1, k2, k3⟩ := st_least (p := fun k => oAt owner (way m h k) = none) _ (show oAt owner (way m h (off m (SetTable.bits h % (m + 1)) (SetTable.bits h) n)) = none by rw [hw]; exact hf)
  refine ⟨K, free_spec m owner (SetTable.turns m) n _ _ K (by unfold SetTable.turns; omega) k1 (fun k hk => ?_) (Option.isNone_iff_eq_none.mpr k2), k2, k3⟩
  exact Bool.eq_false_iff.mpr fun z => k3 k hk (Option.isNone_iff_eq_none.mp z)
theorem own_stepB {m : Nat} (hm : MaskB m) {done : List Int} {owner : Array (Option Nat)} (W : Own m done owner) (hl : done.length ≤ m) (h : Int) :
    ∃ j, SetTable.layClean.free m owner (SetTable.turns m) (SetTable.bits h % (m + 1)) (SetTable.bits h) = some j ∧ Own m (done ++ [h]) (owner.setIfInBounds j (some done.length)) := by
  obtain ⟨ps, hps, hin⟩ := W.ps
  obtain ⟨j0, h0, hn0⟩ := st_missing ps (m + 1) (by omega)
  obtain ⟨K, e1, e2, e3⟩ := free_findB hm owner h (Nat.le_of_lt_succ h0) (Classical.not_not.mp fun z => hn0 (hin j0 (Nat.le_of_lt_succ h0) z))
  have hjm := way_leB m h K
  generalize ej : way m h K = j at e1 e2 hjm
  have self := oAt_set_self (some done.length) (show j < owner.size by rw [W.sz]; omega)
  have mono : ∀ i, oAt owner i ≠ none → oAt (owner.setIfInBounds j (some done.length)) i ≠ none := fun i hi => by
    by_cases c : i = j
    · rw [c, self]
      exact fun z => by cases z
    · rw [oAt_set_ne _ c]
      exact hi
  refine ⟨j, e1, by rw [Array.size_setIfInBounds]; exact W.sz, fun i k hi e => ?_, fun k hk => ?_, j :: ps, by rw [List.length_cons, hps, List.length_append]; rfl, fun i hi e => ?_⟩
  · by_cases c : i = j
    · rw [c, self] at e
      cases e
      exact ⟨h, K, by rw [List.getElem?_append_right (Nat.le_refl _), Nat.sub_self]; rfl, by rw [c]; exact ej, fun k' hk' => mono _ (e3 k' hk')⟩
    · rw [oAt_set_ne _ c] at e
      obtain ⟨h', K', a1, a2, a3⟩ := W.at_ i k hi e
      exact ⟨h', K', by rw [List.getElem?_append_left (List.getElem?_eq_some_iff.mp a1).1]; exact a1, a2, fun k' hk' => mono _ (a3 k' hk')⟩
  · by_cases c : k < done.length
    · obtain ⟨i, hi, e⟩ := W.all k c
      exact ⟨i, hi, by rw [oAt_set_ne _ fun z => by rw [z, e2] at e; cases e]; exact e⟩
    · obtain rfl : k = done.length := by
        rw [List.length_append, List.length_singleton] at hk
        omega
      exact ⟨j, hjm, self⟩
  · by_cases c : i = j
    · rw [c]
      exact List.mem_cons_self
    · rw [oAt_set_ne _ c] at e
      exact List.mem_cons_of_mem _ (hin i hi e)
theorem fold_okB {m : Nat} (hm : MaskB m) (rest : List Int) : ∀ (done : List Int) (owner : Array (Option Nat)), Own m done owner → done.length + rest.length ≤ m →
    ∃ owner', rest.foldl (stepF m) (some (owner, done.length)) = some (owner', (done ++ rest).length) ∧ Own m (done ++ rest) owner' := by
  induction rest with
  | nil => exact fun done owner W _ => ⟨owner, by rw [List.append_nil]; rfl, by rw [List.append_nil]; exact W⟩
  | cons h rest ih =>
    intro done owner W hl
    rw [List.length_cons] at hl
    obtain ⟨j, e, W1⟩ := own_stepB hm W (by omega) h
    obtain ⟨owner', f, W2⟩ := ih (done ++ [h]) _ W1 (by rw [List.length_append, List.length_singleton]; omega)
    rw [List.append_assoc, List.singleton_append, show (done ++ [h]).length = done.length + 1 by rw [List.length_append]; rfl] at f
    rw [List.append_assoc, List.singleton_append] at W2
    exact ⟨owner', by rw [List.foldl_cons, stepF_some e]; exact f, W2⟩
theorem layClean_okB {m : Nat} (hm : MaskB m) {hs : Array Int} (hn : hs.size ≤ m) : ∃ owner, SetTable.layClean m hs = some owner ∧ Own m hs.toList owner := by
  obtain ⟨owner, f, W⟩ := fold_okB hm hs.toList [] _ (Own.init m) (by show 0 + hs.toList.length ≤ m; rw [Array.length_toList]; omega)
  refine ⟨owner, ?_, W⟩
  rw [layClean_eq, show (0 : Nat) = ([] : List Int).length from rfl, f]
  rfl
end Fo
namespace Fo
open PySem PySem.Spec PyProof.Rows L2
/-! the larger table -/
theorem live_len {m : Nat} {hs : List Int} {owner : Array (Option Nat)} (W : Own m hs owner) : (liveOf m owner).length = hs.length ∧ ((liveOf m owner).map (·.2)).Perm (List.range hs.length) ∧ Ris ((liveOf m owner).map (·.1)) := by
  have ris : Ris ((liveOf m owner).map (·.1)) ∧ ∀ x ∈ (liveOf m owner).map (·.1), x ∈ List.range (m + 1) := ris_live (fun j => owner.getD j none) (List.range (m + 1)) (by unfold Ris; exact List.pairwise_lt_range)
  have all2 : ∀ k, k < hs.length → k ∈ (liveOf m owner).map (·.2) := fun k hk => by
    obtain ⟨j, b1, b2⟩ := W.all k hk
    exact List.mem_map.mpr ⟨(j, k), (mem_live W.sz).2 ⟨b1, b2⟩, rfl⟩
  have le1 : (liveOf m owner).length ≤ hs.length := by
    obtain ⟨ps, p1, p2⟩ := W.ps
    have nd : ((liveOf m owner).map (·.1)).Nodup := List.Pairwise.imp (fun h => Nat.ne_of_lt h) ris.1
    have a := nat_nodup_len ((liveOf m owner).map (·.1)) ps nd fun x hx => by
      obtain ⟨⟨y, k⟩, hq, rfl⟩ := List.mem_map.mp hx
      obtain ⟨b1, b2⟩ := (mem_live W.sz).1 hq
      exact p2 y b1 fun z => by rw [b2] at z; cases z
    rw [List.length_map, p1] at a
    exact a
  have le2 : hs.length ≤ (liveOf m owner).length := by
    have b := nat_nodup_len (List.range hs.length) ((liveOf m owner).map (·.2)) List.nodup_range fun k hk => all2 k (List.mem_range.mp hk)
    rw [List.length_map, List.length_range] at b
    exact b
  have e := Nat.le_antisymm le1 le2
  exact ⟨e, perm_range hs.length _ (by rw [List.length_map]; exact e) all2, ris.1⟩
theorem relaid_okB (t : SetTable) {hs : Array Int} {wanted M : Nat} (hw : SetTable.sizeAbove wanted - 1 = M) (hM : MaskB M) (hn : hs.size ≤ M) :
    ∃ t' order, t.relaid hs wanted = some (t', order) ∧ order.toList.Perm (List.range hs.size) ∧ TabB t' (order.toList.map fun i => hs.getD i 0) ∧ t'.mask = M ∧ t'.led = t.led ∧ t'.plain = t.plain := by
  obtain ⟨owner, e, W⟩ := layClean_okB hM hn
  obtain ⟨l1, l2, l3⟩ := live_len W
  rw [Array.length_toList] at l1 l2
  have hr : t.relaid hs wanted = some (tabOf t M owner, ((liveOf M owner).map (·.2)).toArray) := by
    rw [relaid_eq, hw, e]
    rfl
  refine ⟨_, _, hr, l2, ⟨l3, rfl, ?_, hM, fun x hx => ?_, fun i h j h1 h2 => ?_⟩, rfl, rfl, rfl⟩
  · show ((liveOf M owner).map (·.1)).toArray.size = (((liveOf M owner).map (·.2)).map fun i => hs.getD i 0).length
    rw [List.size_toArray, List.length_map, List.length_map, List.length_map]
  · obtain ⟨⟨y, k⟩, hq, rfl⟩ := List.mem_map.mp (show x ∈ (liveOf M owner).map (·.1) from hx)
    exact ((mem_live W.sz).1 hq).1
  · replace h1 : (((liveOf M owner).map (·.2)).map fun i => hs.getD i 0)[i]? = some h := h1
    replace h2 : ((liveOf M owner).map (·.1))[i]? = some j := h2
    rw [List.getElem?_map] at h2
    obtain ⟨⟨y, k⟩, hq, rfl⟩ := Option.map_eq_some_iff.mp h2
    rw [List.getElem?_map, List.getElem?_map, hq] at h1
    obtain ⟨b1, b2⟩ := (mem_live W.sz).1 (List.mem_of_getElem? hq)
    obtain ⟨h0, K, a1, a2, a3⟩ := W.at_ y k b1 b2
    obtain rfl : h0 = h := by
      have e2 : hs.getD k 0 = h := Option.some.inj h1
      rw [← e2, Array.getD_eq_getD_getElem?, ← Array.getElem?_toList, a1]
      rfl
    refine ⟨K, a2, fun k' hk' => ?_⟩
    show way M h0 k' ∈ (liveOf M owner).map (·.1)
    obtain ⟨k2, z⟩ := Option.ne_none_iff_exists'.mp (a3 k' hk')
    exact List.mem_map.mpr ⟨(way M h0 k', k2), (mem_live W.sz).2 ⟨way_leB M h0 k', z⟩, rfl⟩
theorem size_77 : SetTable.sizeAbove (SetTable.grown 77) = 512 := by decide +kernel
end Fo
namespace Fo
open PySem PySem.Spec PyProof.Rows L2
/-! the search in such a table -/
/-- the k-th place of the way, as the search stands there -/
abbrev stp (m : Nat) (h : Int) (k : Nat) : SetTable.Probe := nth m (runAt m (SetTable.bits h % (m + 1)) (SetTable.bits h)) k
theorem stp_add (m : Nat) (h : Int) (c q : Nat) : nth m (stp m h c) q = stp m h (c + q) := (nth_add m c _ q).symm
theorem stp_dummy (m : Nat) (h : Int) (c : Nat) : (stp m h c).dummy = none := by
  induction c with
  | zero => rfl
  | succ c ih =>
    rw [show stp m h (c + 1) = adv m (stp m h c) from nth_succ _ _ _]
    unfold adv
    split <;> exact ih
/-- what the table answers from the c-th place on: the first of the hash before the first free place, or that -/
theorem probe_at {t : SetTable} {hs : List Int} (T : TabB t hs) (hashAt : Nat → Int) (h : Int) {K c : Nat} (hKf : K < 10 * SetTable.turns t.mask) (hK : way t.mask h K ∉ t.place.toList) (hKb : ∀ c, c < K → way t.mask h c ∈ t.place.toList) (hc : c ≤ K) :
    (∃ c' i, c ≤ c' ∧ c' < K ∧ t.place.toList[i]? = some (way t.mask h c') ∧ (∀ c2 i', c ≤ c2 → c2 < c' → t.place.toList[i']? = some (way t.mask h c2) → hashAt i' ≠ h) ∧ t.probe hashAt h (stp t.mask h c) = some (.candidate (way t.mask h c') i (stp t.mask h (c' + 1)))) ∨
    ((∀ c2 i', c ≤ c2 → c2 < K → t.place.toList[i']? = some (way t.mask h c2) → hashAt i' ≠ h) ∧ t.probe hashAt h (stp t.mask h c) = some (.empty (way t.mask h K) none)) := by
  have w : ∀ q, (nth t.mask (stp t.mask h c) q).j = way t.mask h (c + q) := fun q => congrArg SetTable.Probe.j (stp_add t.mask h c q)
  have spec := go_spec t T.ris T.dm hashAt h (10 * SetTable.turns t.mask) (K - c) (stp t.mask h c) (stp_dummy t.mask h c) (by omega)
    (fun q hq => by rw [w]; exact hKb _ (by omega)) (by rw [w, Nat.add_sub_cancel' hc]; exact hK)
  rcases spec with ⟨q, i, h1, h2, _, h4, h5⟩ | ⟨h4, h5⟩
  · rw [w] at h2
    rw [w, stp_add] at h5
    refine .inl ⟨c + q, i, by omega, by omega, h2, fun c2 i' a b e => h4 (c2 - c) i' (by omega) (by rw [w, Nat.add_sub_cancel' a]; exact e), h5⟩
  · rw [w, Nat.add_sub_cancel' hc] at h5
    exact .inr ⟨fun c2 i' a b e => h4 (c2 - c) i' (by omega) (by rw [w, Nat.add_sub_cancel' a]; exact e), h5⟩
structure SetBR (P : Program) (w : World) (h : Heap) (a : Addr) (L : List (Addr × List Int)) (es : Array (Int × Value)) (ep : Nat) (t : SetTable) : Prop where
  ob : ∃ o, h.get? a = some o ∧ o.ExactSet ∧ o.data = .set es ep t
  rows : es.toList = rowsOf P w L
  tab : TabB t (L.map fun p => thash P w p.2)
  nd : (L.map (·.2)).Nodup
  tup : ∀ p ∈ L, IsT P w h p.2 p.1
  plain : t.plain = true
  led : w.params.followText "set-order" = true ∨ t.led = true
  room : L.length * 5 < t.mask * 3
  few : L.length < 300
section
variable {P : Program} {w : World} {A : Around} {E : Value → Shared → Prop} {s : Shared} {a : Addr} {L : List (Addr × List Int)} {es : Array (Int × Value)} {ep : Nat} {t : SetTable}
theorem SetBR.size (R : SetBR P w s.heap a L es ep t) : es.size = L.length := by
  rw [← Array.length_toList, R.rows]
  exact List.length_map _
theorem SetBR.psize (R : SetBR P w s.heap a L es ep t) : t.place.size = L.length := by rw [R.tab.sz, List.length_map]
theorem SetBR.fits (R : SetBR P w s.heap a L es ep t) : t.fits es.size = true := by
  have h1 := R.psize
  have h3 := R.room
  unfold SetTable.fits SetTable.fill
  rw [R.size, R.tab.dm, Bool.and_eq_true, beq_iff_eq, decide_eq_true_eq]
  exact ⟨h1, by show t.place.size + 0 ≤ t.mask; omega⟩
theorem SetBR.entry (R : SetBR P w s.heap a L es ep t) {i : Nat} {p : Addr × List Int} (h : L[i]? = some p) : es[i]? = some (thash P w p.2, Value.ref p.1) := by
  rw [← Array.getElem?_toList, R.rows]
  unfold rowsOf
  rw [List.getElem?_map, h]
  rfl
theorem SetBR.hash (R : SetBR P w s.heap a L es ep t) {i : Nat} {p : Addr × List Int} (h : L[i]? = some p) : (es[i]?.map (·.1)).getD 0 = thash P w p.2 := by
  rw [R.entry h]
  rfl
theorem SetBR.gw (R : SetBR P w s.heap a L es ep t) : ¬ t.gaveWay = true := by
  unfold SetTable.gaveWay
  rw [mask_oddB R.tab.mok]
  decide
/-- the entry that sits at a place -/
theorem SetBR.at (R : SetBR P w s.heap a L es ep t) {i j : Nat} (h : t.place.toList[i]? = some j) : ∃ p, L[i]? = some p ∧ p ∈ L := by
  have hl : i < L.length := by
    have h1 := (List.getElem?_eq_some_iff.mp h).1
    rw [Array.length_toList, R.psize] at h1
    exact h1
  exact ⟨L[i], List.getElem?_eq_getElem hl, List.getElem_mem hl⟩
/-- the search, from the c-th place on -/
theorem SetBR.from (R : SetBR P w s.heap a L es ep t) {x : Addr} {k : List Int} (hx : IsT P w s.heap k x) (hu : A.units < cLine) {K : Nat} (hKf : K < 10 * SetTable.turns t.mask)
    (hK : way t.mask (thash P w k) K ∉ t.place.toList) (hKb : ∀ c, c < K → way t.mask (thash P w k) c ∈ t.place.toList) {Q : SetFound → Shared → Prop}
    (hin : k ∈ L.map (·.2) → Q (.there none) s) (hout : k ∉ L.map (·.2) → Q (.free (way t.mask (thash P w k) K) false) s) (f : Nat) :
    ∀ (c : Nat) (stand : Option SetTable.Probe), stand.getD (t.probeStart (thash P w k)) = stp t.mask (thash P w k) c → c ≤ K → K - c < f →
      (∀ (i : Nat) p, L[i]? = some p → p.2 = k → ∃ c', c ≤ c' ∧ c' < K ∧ t.place.toList[i]? = some (way t.mask (thash P w k) c')) →
      wpAny (model P w) A (setSearchFrom a (.ref x) (thash P w k) true f stand) Q E s := by
  induction f with
  | zero => exact fun c stand _ _ hf _ => absurd hf (Nat.not_lt_zero _)
  | succ f ih =>
    intro c stand hst hc hf hre
    obtain ⟨o, ho, hex, hd⟩ := R.ob
    rw [setSearchFrom_succ]
    refine wpAny_bind (wpAny_setState_of ho hd R.fits ?_)
    dsimp only
    refine wp_if_neg R.gw ?_
    try refine wpAny_bind (wpAny_pure ?_)
    rw [hst]
    rcases probe_at R.tab (fun i => (es[i]?.map (·.1)).getD 0) (thash P w k) hKf hK hKb hc with ⟨c', i, h1, h2, h3, h4, h5⟩ | ⟨h4, h5⟩
    · rw [h5]
      dsimp only
      obtain ⟨p, hp, mp⟩ := R.at h3
      have go : wpAny (model P w) A (searchRest a (.ref x) (thash P w k) true f es t (way t.mask (thash P w k) c') i (stp t.mask (thash P w k) (c' + 1))) Q E s := by
        unfold searchRest
        rw [R.entry hp]
        dsimp only
        refine wpAny_bind (wpAny_holding (wpAny_eqBool_tuple hu (R.tup p mp) hx ?_))
        refine wpAny_bind (wpAny_setState_of ho hd R.fits ?_)
        dsimp only
        by_cases e : p.2 = k
        · exact wp_if_pos (by simp [e]) (wpAny_pure (hin (List.mem_map.mpr ⟨p, mp, e⟩)))
        · refine wp_if_neg (by simp [e]) ?_
          try refine wpAny_bind (wpAny_pure ?_)
          rw [sameMem]
          dsimp only
          have sl : t.slot (way t.mask (thash P w k) c') = .live i := slot_live R.tab.ris h3
          simp only [if_true, sl, R.entry hp]
          refine wpAny_bind (wpAny_isSame_ref_self (wpAny_bind (wpAny_pure ?_)))
          simp only [if_true]
          refine wp_if_neg (by simp [e]) (ih (c' + 1) _ rfl (by omega) (by omega) fun i0 p0 g0 gk => ?_)
          obtain ⟨c2, a1, a2, a3⟩ := hre i0 p0 g0 gk
          refine ⟨c2, ?_, a2, a3⟩
          rcases Nat.lt_trichotomy c2 c' with z | rfl | z
          · exact absurd ((R.hash g0).trans (congrArg (thash P w) gk)) (h4 c2 i0 a1 z a3)
          · have s0 := slot_live R.tab.ris a3
            rw [sl] at s0
            injection s0 with s0
            rw [← s0, hp] at g0
            exact absurd ((congrArg Prod.snd (Option.some.inj g0)).trans gk) e
          · exact z
      by_cases hl : t.led = true
      · refine wp_if_neg (by simp [hl]) ?_
        try refine wpAny_bind (wpAny_pure ?_)
        exact go
      · refine wp_if_pos (by simp [hl]) ?_
        refine wpAny_bind (seen_tup hx (fun y hy => ?_) ?_)
        · obtain ⟨r, hr, rfl⟩ := List.mem_map.mp hy
          have hr2 : r ∈ es.toList := by
            have : r ∈ es ∧ r.1 = thash P w k := by simpa using hr
            simpa using this.1
          rw [R.rows] at hr2
          obtain ⟨p2, m2, rfl⟩ := List.mem_map.mp hr2
          exact ⟨p2.2, p2.1, rfl, R.tup p2 m2⟩
        · refine wp_if_neg (by decide) ?_
          try refine wpAny_bind (wpAny_pure ?_)
          exact go
    · rw [h5]
      dsimp only
      refine wpAny_pure (hout fun hm => ?_)
      obtain ⟨p0, m0, k0⟩ := List.mem_map.mp hm
      obtain ⟨i0, g0⟩ := List.mem_iff_getElem?.mp m0
      obtain ⟨c2, a1, a2, a3⟩ := hre i0 p0 g0 k0
      exact h4 c2 i0 a1 a2 a3 ((R.hash g0).trans (congrArg (thash P w) k0))
theorem SetBR.search (R : SetBR P w s.heap a L es ep t) {x : Addr} {k : List Int} (hx : IsT P w s.heap k x) (hu : A.units < cLine) {Q : SetFound → Shared → Prop}
    (hin : k ∈ L.map (·.2) → Q (.there none) s)
    (hout : ∀ K, k ∉ L.map (·.2) → way t.mask (thash P w k) K ∉ t.place.toList → (∀ c, c < K → way t.mask (thash P w k) c ∈ t.place.toList) → Q (.free (way t.mask (thash P w k) K) false) s) :
    wpAny (model P w) A (setSearch a (.ref x) (thash P w k) true) Q E s := by
  have room := R.room
  obtain ⟨K, hKf, hK, hKb⟩ := R.tab.first (by rw [List.length_map]; omega) (thash P w k)
  have hbig : K < 100000 := by
    have : SetTable.turns t.mask ≤ 10000 := by
      unfold SetTable.turns
      rcases R.tab.mok with (e | e | e) | e <;> omega
    omega
  unfold setSearch
  refine R.from hx hu hKf hK hKb hin (fun hn => hout K hn hK hKb) 100000 0 none rfl (Nat.zero_le _) (by omega) fun i p hp hk => ?_
  have hl : i < t.place.toList.length := by
    rw [R.tab.len, List.length_map]
    exact (List.getElem?_eq_some_iff.mp hp).1
  have hj := List.getElem?_eq_getElem hl
  obtain ⟨c, hc, e⟩ := R.tab.before hK (by rw [List.getElem?_map, hp, ← hk]; rfl) hj
  exact ⟨c, Nat.zero_le _, hc, by rw [hj, e]⟩
end
end Fo
namespace Fo
open PySem PySem.Spec PyProof.Rows L2
/-! adding to such a set -/
section
variable {P : Program} {w : World} {A : Around} {E : Value → Shared → Prop} {s : Shared} {a : Addr} {L : List (Addr × List Int)} {es : Array (Int × Value)} {ep : Nat} {t : SetTable}
/-- what is to be a set again once its table is laid anew -/
structure Near (P : Program) (w : World) (h : Heap) (a : Addr) (L : List (Addr × List Int)) (es : Array (Int × Value)) (ep : Nat) (t : SetTable) : Prop where
  ob : ∃ o, h.get? a = some o ∧ o.ExactSet ∧ o.data = .set es ep t
  rows : es.toList = rowsOf P w L
  tab : TabB t (L.map fun p => thash P w p.2)
  nd : (L.map (·.2)).Nodup
  tup : ∀ p ∈ L, IsT P w h p.2 p.1
  plain : t.plain = true
  led : w.params.followText "set-order" = true ∨ t.led = true
  few : L.length < 300
theorem Near.relay (N : Near P w s.heap a L es ep t) (hin : L.length ≤ t.mask) {wanted M : Nat} (hw : SetTable.sizeAbove wanted - 1 = M) (hM : MaskB M) (hw2 : SetTable.sizeAbove wanted ≤ 512) (hn : L.length * 5 < M * 3) {Q : Unit → Shared → Prop}
    (hQ : ∀ h' L' es' ep' t', Heap.SameBut a s.heap h' → SetBR P w h' a L' es' ep' t' → L'.Perm L → Q () { s with heap := h' }) : wpAny (model P w) A (setRelay a wanted) Q E s := by
  obtain ⟨o, ho, hex, hd⟩ := N.ob
  have el : es.size = L.length := by
    rw [← Array.length_toList, N.rows]
    exact List.length_map _
  have ep1 : t.place.size = L.length := by rw [N.tab.sz, List.length_map]
  have hfits : t.fits es.size = true := by
    unfold SetTable.fits SetTable.fill
    rw [el, N.tab.dm, Bool.and_eq_true, beq_iff_eq, decide_eq_true_eq]
    exact ⟨ep1, by show t.place.size + 0 ≤ t.mask; omega⟩
  obtain ⟨t', order, e, hp, T, em, eled, epl⟩ := relaid_okB t (hs := es.map (·.1)) (wanted := wanted) hw hM (by rw [Array.size_map, el]; omega)
  rw [Array.size_map, el] at hp
  obtain ⟨L2, r1, r2, r3⟩ := order_rows L es order N.rows hp
  rw [← r3] at T
  have es2 : (order.filterMap (es[·]?)).size = es.size := by
    rw [← Array.length_toList, r1, el, ← r2.length_eq]
    exact List.length_map _
  rw [setRelay_eq]
  refine wpAny_bind (wpAny_setState_of ho hd hfits ?_)
  dsimp only
  refine wp_if_neg (by rw [sizeLine_eq]; omega) ?_
  try refine wpAny_bind (wpAny_pure ?_)
  rw [e]
  dsimp only
  refine wpAny_bind ?_
  refine wp_if_neg (by rw [es2]; simp) ?_
  try refine wpAny_bind (wpAny_pure ?_)
  refine wpAny_pure ?_
  dsimp only
  have few := N.few
  refine wpAny_storeSet_of ho hd ?_ (by rw [es2, el, sizeLine_eq]; omega)
  have sb : Heap.SameBut a s.heap (s.heap.update a (Obj.putSet (order.filterMap (es[·]?)) t')) := Heap.SameBut.update ..
  refine hQ _ L2 _ (ep + 1) t' sb ⟨⟨_, store_at ho hd, ⟨hex.1, hex.2.1, hex.2.2⟩, rfl⟩, r1, T, (r2.map (·.2)).nodup_iff.mpr N.nd, fun p m => isT_same (N.tup p (r2.mem_iff.mp m)) ho hd sb, by rw [epl]; exact N.plain, by rw [eled]; exact N.led, ?_, by rw [r2.length_eq]; exact few⟩ r2
  rw [r2.length_eq, em]
  exact hn
theorem SetBR.add (R : SetBR P w s.heap a L es ep t) {x : Addr} {k : List Int} (hx : IsT P w s.heap k x) (hu : A.units < cLine) (hfew : L.length + 1 < 300) {Q : Bool → Shared → Prop}
    (hQ : ∀ b h' L' es' ep' t', Heap.SameBut a s.heap h' → SetBR P w h' a L' es' ep' t' → (k ∈ L.map (·.2) → L' = L) → (k ∉ L.map (·.2) → L'.Perm ((x, k) :: L)) → Q b { s with heap := h' }) :
    wpAny (model P w) A (setAddHashed a (.ref x) (thash P w k)) Q E s := by
  obtain ⟨o, ho, hex, hd⟩ := R.ob
  have room := R.room
  unfold setAddHashed
  refine wpAny_holding ?_
  rw [show (100000 : Nat) = 99999 + 1 from rfl, setAddHashedIn_succ]
  refine wpAny_bind (wpAny_setState_of ho hd R.fits ?_)
  dsimp only
  refine wp_if_neg (by simp [byScan, Value.scannable]) ?_
  try refine wpAny_bind (wpAny_pure ?_)
  refine wpAny_bind (R.search hx hu (fun hm => ?_) fun K hm hK hb => ?_)
  · dsimp only
    exact wpAny_pure (hQ false s.heap L es ep t (Heap.SameBut.refl a s.heap) R (fun _ => rfl) fun z => absurd hm z)
  dsimp only
  refine wpAny_bind (wpAny_setState_of ho hd R.fits ?_)
  dsimp only
  generalize ej : way t.mask (thash P w k) K = j at hK
  obtain ⟨q2, q3, q9⟩ := R.tab.put ej hK hb
  have pl : (t.put j).1.plain = true := R.plain
  have ld : w.params.followText "set-order" = true ∨ (t.put j).1.led = true := R.led
  have mk : (t.put j).1.mask = t.mask := rfl
  have q1 : (t.put j).2 = SetTable.below t.place j := rfl
  generalize t.put j = pt at q1 q3 q9 pl ld mk ⊢
  obtain ⟨t1, p⟩ := pt
  dsimp only at q1 q3 q9 pl ld mk ⊢
  subst q1
  first
    | (refine wpAny_bind ?_; refine wp_if_pos pl ?_; refine hashBy_tup hx ?_)
    | refine wp_if_pos pl (wpAny_bind (hashBy_tup hx ?_))
  simp only [if_true]
  generalize SetTable.below t.place j = p at q2 q3 ⊢
  have rw1 : (SetTable.insertAt es p (thash P w k, Value.ref x)).toList = rowsOf P w (L.take p ++ (x, k) :: L.drop p) := by rw [SetTable.toList_insertAt, rows_put, R.rows]
  have pm := put_perm L p (x, k)
  rw [show (L.map fun p => thash P w p.2).take p ++ thash P w k :: (L.map fun p => thash P w p.2).drop p = (L.take p ++ (x, k) :: L.drop p).map (fun p => thash P w p.2) by rw [List.map_append, List.map_cons, List.map_take, List.map_drop]] at q3
  have nd1 : ((L.take p ++ (x, k) :: L.drop p).map (·.2)).Nodup := (pm.map (·.2)).nodup_iff.mpr (by rw [List.map_cons]; exact List.nodup_cons.mpr ⟨hm, R.nd⟩)
  generalize SetTable.insertAt es p (thash P w k, Value.ref x) = es1 at rw1 ⊢
  generalize L.take p ++ (x, k) :: L.drop p = L1 at pm q3 nd1 rw1
  have len1 : L1.length = L.length + 1 := pm.length_eq
  have es1l : es1.size = L.length + 1 := by
    rw [← Array.length_toList, rw1, ← len1]
    exact List.length_map _
  refine wpAny_bind (wpAny_storeSet_of ho hd ?_ (by rw [es1l, sizeLine_eq]; omega))
  have sb : Heap.SameBut a s.heap (s.heap.update a (Obj.putSet es1 t1)) := Heap.SameBut.update ..
  have ho1 := store_at (es' := es1) (t' := t1) ho hd
  generalize s.heap.update a (Obj.putSet es1 t1) = h1 at sb ho1 ⊢
  have N : Near P w h1 a L1 es1 (ep + 1) t1 := ⟨⟨_, ho1, ⟨hex.1, hex.2.1, hex.2.2⟩, rfl⟩, rw1, q3, nd1, fun p hp => by
    rcases List.mem_cons.mp (pm.mem_iff.mp hp) with rfl | hp
    · exact isT_same hx ho hd sb
    · exact isT_same (R.tup p hp) ho hd sb, pl, ld, by rw [len1]; exact hfew⟩
  rw [List.length_map] at q9
  by_cases hf : t1.tooFull = true
  · first
      | (refine wpAny_bind ?_; refine wp_if_pos (by simp [hf]) ?_)
      | (refine wp_if_pos (by simp [hf]) ?_; refine wpAny_bind ?_)
    have full : t1.fill * 5 ≥ t1.mask * 3 := by
      unfold SetTable.tooFull at hf
      exact of_decide_eq_true hf
    rw [q9, mk] at full
    have go : ∀ M, SetTable.sizeAbove (SetTable.grown (L.length + 1)) - 1 = M → MaskB M → SetTable.sizeAbove (SetTable.grown (L.length + 1)) ≤ 512 → (L.length + 1) * 5 < M * 3 →
        wpAny (model P w) A (setRelay a (SetTable.grown (es.size + 1))) (fun _ s' => wpAny (model P w) A (pure true) Q E s') E { s with heap := h1 } := fun M g1 g2 g3 g4 => by
      rw [R.size]
      refine Near.relay (s := { s with heap := h1 }) N (by rw [len1, mk]; omega) g1 g2 g3 (by rw [len1]; exact g4) fun h2 L2 es2 ep2 t2 sb2 R2 pm2 => ?_
      exact wpAny_pure (hQ true h2 L2 es2 ep2 t2 (sb.trans sb2) R2 (fun z => absurd z hm) fun _ => pm2.trans pm)
    rcases R.tab.mok with (e | e | e) | e
    · have e4 : L.length = 4 := by rw [e] at full room; omega
      exact go 31 (by rw [e4, size_20]) (.inl (.inr (.inl rfl))) (by rw [e4, size_20]; decide) (by omega)
    · have e4 : L.length = 18 := by rw [e] at full room; omega
      exact go 127 (by rw [e4, size_76]) (.inl (.inr (.inr rfl))) (by rw [e4, size_76]; decide) (by omega)
    · have e4 : L.length = 76 := by rw [e] at full room; omega
      exact go 511 (by rw [e4, size_77]) (.inr rfl) (by rw [e4, size_77]; decide) (by omega)
    · rw [e] at full
      omega
  · first
      | refine wp_if_neg (by simp [hf]) ?_
      | (refine wpAny_bind ?_; refine wp_if_neg (by simp [hf]) ?_; refine wpAny_pure ?_)
    have notf : ¬ (t1.fill * 5 ≥ t1.mask * 3) := fun z => hf (by unfold SetTable.tooFull; exact decide_eq_true z)
    rw [q9] at notf
    exact wpAny_pure (hQ true h1 L1 es1 (ep + 1) t1 sb ⟨N.ob, N.rows, N.tab, N.nd, N.tup, N.plain, N.led, by rw [len1]; omega, N.few⟩ (fun z => absurd z hm) fun _ => pm)
end
end Fo
namespace Fo
open PySem PySem.Spec PyProof.Rows L2
/-! such a set as a thing of the heap -/
structure SetB0 (P : Program) (w : World) (h : Heap) (a : Addr) (L : List (Addr × List Int)) : Prop where
  ex : ∃ (es : Array (Int × Value)) (ep : Nat) (t : SetTable), (∃ o, h.get? a = some o ∧ o.ExactSet ∧ o.data = .set es ep t) ∧ es.toList = rowsOf P w L ∧ TabB t (L.map fun p => thash P w p.2) ∧ (L.map (·.2)).Nodup ∧ t.plain = true ∧
    (w.params.followText "set-order" = true ∨ t.led = true) ∧ L.length * 5 < t.mask * 3 ∧ L.length < 300
def SetBO (P : Program) (w : World) (a : Addr) (L : List (Addr × List Int)) : HO := .ext fun h => SetB0 P w h a L
section
variable {P : Program} {w : World} {H : Hp} {h : Heap} {a : Addr} {L : List (Addr × List Int)} {es : Array (Int × Value)} {ep : Nat} {t : SetTable}
theorem SetBR.t0 (R : SetBR P w h a L es ep t) : SetB0 P w h a L := ⟨es, ep, t, R.ob, R.rows, R.tab, R.nd, R.plain, R.led, R.room, R.few⟩
theorem SetB0.full (R : SetB0 P w h a L) (ht : ∀ p ∈ L, IsT P w h p.2 p.1) : ∃ es ep t, SetBR P w h a L es ep t := by
  obtain ⟨es, ep, t, h1, h2, h3, h4, h5, h6, h7, h8⟩ := R.ex
  exact ⟨es, ep, t, h1, h2, h3, h4, ht, h5, h6, h7, h8⟩
theorem setBO_new (R : SetB0 P w h a L) : ObjOk P w H h a (SetBO P w a L) := by
  obtain ⟨es, ep, t, ⟨o, ho, r⟩, q⟩ := id R.ex
  refine ⟨R, ⟨o, ho⟩, fun h1 h2 p k => ?_⟩
  obtain ⟨es2, ep2, t2, ⟨o2, ho2, r2⟩, q2⟩ := SetB0.ex p
  exact ⟨es2, ep2, t2, ⟨o2, k o2 ho2, r2⟩, q2⟩
theorem setB_fresh (ho : h.get? a = some { cls := .type "set", dict := none, data := .set #[] 0 (.fresh 0 0 (!w.params.followText "set-order")) }) : SetB0 P w h a [] := by
  have R := setTR_fresh (P := P) ho
  exact ⟨_, _, _, R.ob, R.rows, .of R.tab, R.nd, R.plain, R.led, R.room, by decide⟩
end
end Fo
namespace Fo
open PySem PySem.Spec PyProof.Rows L2 PpSet
/-- what adding a tuple of ints to a set of such asks -/
def putT (P : Program) (w : World) (K : PySem.W.Frag) : Addr → V → Hp → (Hp → Prop) → Prop := fun D y G Nx => ∃ (b : Addr) (k : List Int) (L : List (Addr × List Int)), y = .ref b ∧ SqT K G b (k.map V.int) ∧ G D = some (SetBO P w D L) ∧ (∀ p ∈ L, SqT K G p.1 (p.2.map V.int)) ∧ L.length + 1 < 300 ∧
  ∀ L', (k ∈ L.map (·.2) → L' = L) → (k ∉ L.map (·.2) → L'.Perm ((b, k) :: L)) → Nx (upd G D (SetBO P w D L'))
theorem freshT (P : Program) (w : World) : FreshS P w (fun a => SetBO P w a []) := fun H h => setBO_new (setB_fresh (Heap.get?_push_size _ rfl))
theorem addT {P : Program} {w : World} {K : PySem.W.Frag} {A : Around} (hu : A.units + 64 < cLine) : AddS P w K A (putT P w K) := by
  rintro Y rfl rfl rfl rfl ps s σ G D y v Nx I rv ⟨b, k, L, rfl, hb, hD, hL, few, nx⟩
  cases (show v = Value.ref b from rv)
  have R0 : SetB0 Y.prog Y.w s.heap D L := (I.hok D _ hD).1
  obtain ⟨es, ep, t, R⟩ := R0.full fun p hp => I.isT (hL p hp)
  have hx := I.isT hb
  obtain ⟨o, ho, hex, _⟩ := R.ob
  refine wpAny_call_entry PySem.F.slot_set_add ⟨_, ho, hex.1⟩ PySem.F.entry_set_add ?_ (PySem.F.args_set_add_2 _ _)
  simp only [Builtin.«set.add», Builtin.Frozenset.oneOther, Builtin.Frozenset.addrOf, setAdd, List.isEmpty_nil, bind_assoc]
  have hu1 : Y.A.in1.units < cLine := by
    have : Y.A.in1.units ≤ Y.A.units + 63 := by
      rw [Around.in1_units]
      omega
    omega
  refine wpAny_bind (wpAny_pure (wpAny_bind (wpAny_pure (wpAny_bind (wpAny_holding (wpAny_bind (wpAny_pyHash_tuple hu1 hx ?_)))))))
  refine SetBR.add (s := { s with toks := s.toks + (k.length + 1) }) R hx hu1 few fun _ h' L' es' ep' t' sb R' c1 c2 => ?_
  have ex : ∃ u, h'.get? D = some u := by
    obtain ⟨u, hu', _⟩ := R'.ob
    exact ⟨u, hu'⟩
  refine wpAny_pure ⟨_, rfl, _, ?_, nx L' c1 c2⟩
  exact I.write (e := D) (t' := s.toks + (k.length + 1)) (by rw [hD]; trivial) (.inl rfl) (fun c u hc hu' => (sb.2 c hc).trans hu') ex (setBO_new R'.t0)
/-- len(s), s a set of tuples of ints -/
def rLenST (P : Program) (w : World) (K : PySem.W.Frag) : List V → Hp → VK → Prop := fun xs H Q => ∃ (p : Addr) (L : List (Addr × List Int)), xs = [.ref p] ∧ H p = some (SetBO P w p L) ∧ (∀ p ∈ L, SqT K H p.1 (p.2.map V.int)) ∧ Q (.int ((L.length : Nat) : Int)) H
theorem call_lenST {X : Cx} : CallR X (.builtin "len") (rLenST X.prog X.w X.K) := by
  intro ps s σ H xs us Q I r h
  obtain ⟨p, L, rfl, hp, hL, q⟩ := h
  rw [Vals.ref1 r]
  have R0 : SetB0 X.prog X.w s.heap p L := (I.hok p _ hp).1
  obtain ⟨es, ep, t, R⟩ := R0.full fun p hp => I.isT (hL p hp)
  obtain ⟨o, ho, hex, hd⟩ := R.ob
  have few := R.few
  have sz := R.size
  refine call_len_set ho hex hd R.fits (by rw [sz]; omega) ?_
  rw [sz]
  exact ⟨.int ((L.length : Nat) : Int), H, I.tok _, ⟨_, rfl⟩, q⟩
abbrev rTupOf (K : PySem.W.Frag) : List V → Hp → VK → Prop := fun xs H Q => ∃ p ys, xs = [.ref p] ∧ ((SqL K H p ys ∧ ∀ l, H l = none → Q (.ref l) (upd H l (.tup ys))) ∨ (SqT K H p ys ∧ Q (.ref p) H))
/-- a set comprehension of tuples over a list that stands still -/
theorem scT_list {P : Program} {w : World} {K : PySem.W.Frag} {a : Addr} {xs : List V} {g : TG} {tt : TT} {te : TE} {vs : List Nat} {σ : L2.St} {H1 : Hp} {D : Addr} {Qd : Hp → Prop} (Pv : Nat → Hp → Prop) (h0 : Pv 0 (upd H1 D (SetBO P w D [])))
    (hl : ∀ i G, i ≤ xs.length → Pv i G → SqL K G a xs)
    (hs : ∀ i x G, xs[i]? = some x → Pv i G → g x (wipe σ vs) G fun σ2 H2 => wipe σ2 vs = wipe σ vs ∧ tt σ2 H2 fun b H3 => if b = true then te σ2 H3 fun y H4 => putT P w K D y H4 (Pv (i + 1)) else Pv (i + 1) H3)
    (hd : ∀ G, Pv xs.length G → Qd G) :
    ∃ W : Nat → Nat → Hp → Prop, (∃ m, W 0 m (upd H1 D (SetBO P w D []))) ∧ ∀ i m G, W i m G → ((Itl K a).stop i G ∧ Qd G) ∨ ((Itl K a).go i G ∧ ∃ Nx : Hp → Prop, (∀ G', Nx G' → ∃ m', m' < m ∧ W (i + 1) m' G') ∧
      ∀ x G', (Itl K a).yld i G x G' → g x (wipe σ vs) G' fun σ2 H2 => wipe σ2 vs = wipe σ vs ∧ tt σ2 H2 fun b H3 => if b = true then te σ2 H3 fun y H4 => putT P w K D y H4 Nx else Nx H3) := by
  refine ⟨fun i m G => m = xs.length - i ∧ i ≤ xs.length ∧ Pv i G, ⟨xs.length, rfl, Nat.zero_le _, h0⟩, ?_⟩
  rintro i m G ⟨rfl, hi, p⟩
  have q := hl i G hi p
  by_cases c : i < xs.length
  · refine .inr ⟨⟨_, _, q, List.getElem?_eq_getElem c⟩, Pv (i + 1), fun G' p' => ⟨xs.length - (i + 1), by omega, rfl, c, p'⟩, fun x G' y => ?_⟩
    obtain ⟨rfl, z⟩ := y
    exact hs i x _ (z _ q) p
  · have e : i = xs.length := by omega
    subst e
    exact .inl ⟨⟨_, q, Nat.le_refl _⟩, hd G p⟩
end Fo
namespace Fo
open PySem PySem.Spec PyProof.Rows L2 TL
/-! what is no text of orders is refused -/
abbrev rStrI : List V → Hp → VK → Prop := fun xs H Q => ∃ i, xs = [.int i] ∧ i.natAbs.log2 < 1920 ∧ Q (.str (toString i)) H
theorem str_at_inv {ys : List Str} {i : Nat} {v : V} (h : (ys.map V.str)[i]? = some v) : ∃ x, ys[i]? = some x ∧ v = V.str x := by
  rw [List.getElem?_map] at h
  cases e : ys[i]? with
  | none => rw [e] at h; cases h
  | some x => rw [e] at h; exact ⟨x, rfl, (Option.some.inj h).symm⟩
theorem log_small {x : Int} (h0 : 0 ≤ x) (h1 : x < 12) : x.natAbs.log2 < 1920 := by
  have : x.natAbs < 12 := by omega
  have h2 : ∀ k < 12, Nat.log2 k < 1920 := by decide +kernel
  exact h2 _ this
/-- the number that a word writes, or none -/
def numP (w : Str) : Option Nat := (List.range 12).find? fun k : Nat => decide (w = decT (k : Int))
def optV : Option Nat → V
  | none => .non
  | some k => .int k
def optD : Option Nat → PyData
  | none => .none
  | some k => .int k
def spNumD : Sp := fun vs H Q _ => ∃ (w : Str), vs = [.str w, .int 12] ∧ Q (optV (numP w)) H
def spTxtX (cT : Addr) : Sp := fun vs H Q E => ∃ (v : V) (d : PyData), vs = [v] ∧ Dq H v d ∧ (isStrD d = true → Q .non H) ∧ (isStrD d = false → ∀ H', Same H H' → E (.ref cT) none H')
/-- the order that a text writes -/
def RdP (s : Str) (xs : List Int) : Prop := (Txt.split s " ").map (fun w => optD (numP w)) = xs.map PyData.int ∧ IsOrd xs.length xs ∧ 1 ≤ xs.length ∧ xs.length ≤ 12
def RdD (d : PyData) (xs : List Int) : Prop := ∃ s, d = .str s ∧ RdP s xs
def ShortT (d : PyData) : Prop := ∀ s, d = .str s → s.length ≤ 1000000
def spReadX (cT : Addr) : Sp := fun vs H Q E => ∃ (v : V) (d : PyData), vs = [v] ∧ Dq H v d ∧ ShortT d ∧ (∀ xs, RdD d xs → ∀ (l : Addr) (H' : Hp), H l = none → H' l = some (.lst (xs.map V.int)) → Same H H' → Q (.ref l) H') ∧
  ((¬ ∃ xs, RdD d xs) → ∀ H', Same H H' → E (.ref cT) none H')
theorem joinL_len {S : List Nat} : ∀ {ps : List (List Nat)}, ps ≠ [] → (joinL S ps).length + S.length = (ps.map List.length).sum + ps.length * S.length
  | [], h => absurd rfl h
  | [p], _ => by
    show p.length + S.length = (p.length + 0) + 1 * S.length
    omega
  | p :: q :: r, _ => by
    have ih := joinL_len (S := S) (ps := q :: r) (by simp)
    show (p ++ (S ++ joinL S (q :: r))).length + S.length = (p.length + ((q :: r).map List.length).sum) + ((q :: r).length + 1) * S.length
    rw [List.length_append, List.length_append, Nat.add_mul]
    omega
/-- the parts of a text are no longer, all told, than the text -/
theorem split_sum (x y : Str) : ((Txt.split x y).map (·.length)).sum + (Txt.split x y).length * y.length ≤ x.length + y.length := by
  by_cases c : Txt.split x y = []
  · rw [c]
    simp
  · have h1 := StrLaws.join_split x y
    have h2 : tl x = joinL (tl y) ((Txt.split x y).map tl) := by
      rw [← tl_join, h1]
    have h3 := joinL_len (S := tl y) (ps := (Txt.split x y).map tl) (by simpa using c)
    rw [← h2, List.map_map, List.length_map] at h3
    have h4 : (Txt.split x y).map (List.length ∘ tl) = (Txt.split x y).map (·.length) := List.map_congr_left fun z _ => (len_tl' z).symm
    rw [h4, ← len_tl' x, ← len_tl' y] at h3
    omega
theorem split_len {x y : Str} (hy : 1 ≤ y.length) : (Txt.split x y).length ≤ x.length + y.length := by
  have h := split_sum x y
  have h2 : (Txt.split x y).length * 1 ≤ (Txt.split x y).length * y.length := Nat.mul_le_mul (Nat.le_refl _) hy
  omega
theorem dq_opt {H : Hp} : ∀ ws : List Str, DqAll H (ws.map fun w => optV (numP w)) (ws.map fun w => optD (numP w))
  | [] => .nil
  | w :: ws => .cons (by
      show Dq H (optV (numP w)) (optD (numP w))
      cases numP w with
      | none => exact .non
      | some k => exact .int _) (dq_opt ws)
theorem opt_good {ws : List Str} : GoodD (.list (ws.map fun w => optD (numP w))) ↔ ∃ xs : List Int, ws.map (fun w => optD (numP w)) = xs.map PyData.int ∧ IsOrd xs.length xs ∧ 1 ≤ xs.length ∧ xs.length ≤ 12 := by
  constructor
  · rintro ⟨ns, e, h⟩
    exact ⟨ns, PyData.list.inj e, h⟩
  · rintro ⟨ns, e, h⟩
    exact ⟨ns, by rw [e], h⟩
theorem opt_vals {ws : List Str} {xs : List Int} (h : ws.map (fun w => optD (numP w)) = xs.map PyData.int) : ws.map (fun w => optV (numP w)) = xs.map V.int := by
  induction ws generalizing xs with
  | nil =>
    cases xs with
    | nil => rfl
    | cons x xs => cases h
  | cons w ws ih =>
    cases xs with
    | nil => cases h
    | cons x xs =>
      rw [List.map_cons, List.map_cons] at h
      injection h with h1 h2
      rw [List.map_cons, List.map_cons, ih h2]
      congr 1
      cases e : numP w with
      | none => rw [e] at h1; cases h1
      | some k =>
        rw [e] at h1
        have : (k : Int) = x := PyData.int.inj h1
        rw [← this]
        rfl
section
variable {P : Program} {w : World} {K : PySem.W.Frag} {mg : Str → Option Value} {base : Heap}
theorem scTxtX : FnScope ["thing"] ["thing"] (defScope s_check_text) := ⟨rfl, rfl, rfl, by decide +kernel, rfl, by decide +kernel, by decide +kernel⟩
theorem ok_txtX {f cT : Addr} {fd : FuncData} {k : Nat} (T : Df K mg "check_text" s_check_text ["thing"] f fd) (X_NoText : ExK K mg "NoText" cT) (B : Bi mg) : FnOk P w K mg base (L2.CX P w) (k + 1) f fd ["thing"] (spTxtX cT) := by
  refine T.F.okX scTxtX (fun vs H Q E h => ?_) (fun cdv A outer s H vs Q E hr h => ?_)
  · obtain ⟨v, d, rfl, _⟩ := h
    rfl
  · obtain ⟨v, d, rfl, hd, q1, q2⟩ := h
    refine ⟨_, 
      (pss_one (ps_if (pt_not (pt_val (pe_callB call_isi (by rfl) B.isinstance (by decide +kernel) (pa_cons (pv 0) (pa_cons (pe_bltn (v := .ty "str") (by rfl) B.str (by decide +kernel) rfl) pa_nil)))))
        (pss_one (ps_raiseK rfl (takes_of rfl rfl rfl rfl) X_NoText (by rfl)))
        pss_nil)), ?_⟩
    refine ⟨_, rfl, _, _, _, _, isStrD d, rfl, .ty _, dq_ty hd, kit_strD d, _, rfl, ?_⟩
    cases h : isStrD d with
    | true => exact iteF (q1 h)
    | false => exact iteT (q2 h _ (Same.refl H))
theorem scNumD : FnScope ["word", "many", "number"] ["word", "many"] (defScope s_number_in) := ⟨rfl, rfl, rfl, by decide +kernel, rfl, by decide +kernel, by decide +kernel⟩
set_option maxHeartbeats 2000000 in
theorem ok_numD {f : Addr} {fd : FuncData} {k : Nat} (T : Df K mg "number_in" s_number_in ["word", "many"] f fd) (B : Bi mg) : FnOk P w K mg base CX0 (k + 1) f fd ["word", "many"] spNumD := by
  refine T.F.ok scNumD (fun vs H Q E h => ?_) (fun cdv A outer s H vs Q E hr h => ?_)
  · obtain ⟨x, rfl, _⟩ := h
    rfl
  · obtain ⟨x, rfl, q⟩ := h
    refine ⟨_, 
      (pss_cons (ps_for PassesOwn.never rfl (pi_range1 (by rfl) B.range (pa_cons (pv 1) pa_nil)) (pg_name (i := 2) scNumD.nd rfl (.inl rfl))
        (pss_one (ps_if (pt_cmpR op_eq (pv 0) (pe_callTy call_str_int (by rfl) B.str (by decide +kernel) (pa_cons (pv 2) pa_nil)) (nomark _))
          (pss_one (ps_ret (pv 2)))
          pss_nil)))
      (pss_one (ps_ret pe_non))), ?_⟩
    refine ⟨_, rfl, 12, rfl, by omega, by omega, ?_⟩
    refine for_range (n := 12) (fun i σ H3 => ∃ y : Option V, σ = [some (.str x), some (.int 12), y] ∧ ((List.range i).find? fun k : Nat => decide (x = decT (k : Int))) = none ∧ H3 = H) ⟨_, rfl, rfl, rfl⟩ (fun i σ H3 hi hP => ?_) (fun σ H3 hP => ?_)
    · obtain ⟨y, rfl, hno, rfl⟩ := hP
      rw [show (0 : Int) + (i : Int) = (i : Int) by omega]
      refine ⟨_, rfl, _, rfl, (i : Int), rfl, log_small (by omega) (by omega), rfl, _, rfl, ite2 (fun c => ?_) (fun c => ?_)⟩
      · have z : V.str x = V.str (decT i) := of_decide_eq_true c
        have e : numP x = some i := by
          unfold numP
          rw [List.find?_range_eq_some]
          refine ⟨decide_eq_true (V.str.inj z), List.mem_range.mpr hi, fun j hj => ?_⟩
          have := List.find?_eq_none.mp hno j (List.mem_range.mpr hj)
          simpa using this
        rw [e] at q
        exact ⟨_, rfl, q⟩
      · refine ⟨_, rfl, ?_, rfl⟩
        have hne : ¬ x = decT i := fun e => c (decide_eq_true (by rw [e]))
        rw [List.range_succ, List.find?_append, hno, List.find?_cons, decide_eq_false hne]
        rfl
    · obtain ⟨y, rfl, hno, rfl⟩ := hP
      have e : numP x = none := hno
      rw [e] at q
      exact q
theorem scReadX : FnScope ["text", "order", "word"] ["text"] (defScope s_read_order) := ⟨rfl, rfl, rfl, by decide +kernel, rfl, by decide +kernel, by decide +kernel⟩
set_option pp.maxSteps 200000 in
set_option maxHeartbeats 2000000 in
theorem ok_readX {f f1 f2 f3 cT : Addr} {fd d1 d2 d3 : FuncData} {k : Nat} {t : Tok} (T : Df K mg "read_order" s_read_order ["text"] f fd) (T_check_text : Df K mg "check_text" s_check_text ["thing"] f1 d1) (T_number_in : Df K mg "number_in" s_number_in ["word", "many"] f2 d2) (T_is_order : Df K mg "is_order" s_is_order ["thing"] f3 d3) (G_check_text : FnOk P w K mg base (L2.CX P w) k f1 d1 ["thing"] (spTxtX cT)) (G_number_in : FnOk P w K mg base CX0 k f2 d2 ["word", "many"] spNumD) (G_is_order : FnOk P w K mg base CX0 k f3 d3 ["thing"] spIsOrdD) (X_NoText : ExK K mg "NoText" cT) (mM : mg "MOST_THINGS" = some (.int 12 t)) : FnOk P w K mg base (L2.CX P w) (k + 1) f fd ["text"] (spReadX cT) := by
  refine T.F.okX scReadX (fun vs H Q E h => ?_) (fun cdv A outer s H vs Q E hr h => ?_)
  · obtain ⟨v, d, rfl, _⟩ := h
    rfl
  · obtain ⟨v, d, rfl, hd, hsh, q1, q2⟩ := h
    refine ⟨_, 
      (pss_cons (ps_expr (pe_callS G_check_text hr (by rfl) T_check_text.g T_check_text.F.kp T_check_text.b (fun σ => passAt (takes_of rfl rfl rfl rfl) σ) (pa_cons (pv 0) pa_nil)))
      (pss_cons (ps_setLc (i := 1) (own := [("word", 2)]) (g := (gName 2)) (tt := tYes) (te := (tCall spNumD [] E0 (tCons (tVar 2) (tCons (tC (.int 12)) tNil)))) (by rfl) scReadX.nd rfl rfl (sw_true rfl rfl rfl (by decide +kernel)) (pi_list (pe_split (pv 0) pe_str)) (blkOk_by (N := ["text", "order", "word"]) (sc := defScope s_read_order) (by decide +kernel)) (fun _ _ _ _ _ => (pg_name (i := 2) scReadX.nd rfl (.inl rfl))) (fun _ _ _ _ _ => pts_nil) (fun _ _ _ _ _ => (pe_call G_number_in hr (by rfl) T_number_in.g T_number_in.F.kp T_number_in.b .nil pass0 (pa_cons (pv 2) (pa_cons (pe_glob (v := .int 12) (by rfl) mM ⟨_, rfl⟩) pa_nil)))))
      (pss_cons (ps_if (pt_not (pt_val (pe_call G_is_order hr (by rfl) T_is_order.g T_is_order.F.kp T_is_order.b .nil pass0 (pa_cons (pv 1) pa_nil))))
        (pss_one (ps_raiseK rfl (takes_of rfl rfl rfl rfl) X_NoText (by rfl)))
        pss_nil)
      (pss_one (ps_ret (pv 1)))))), ?_⟩
    refine ⟨_, rfl, v, d, rfl, hd, fun hs => ?_, fun hs H1 s1 => ?_⟩
    · cases d with
      | str x =>
        cases hd
        have hx := hsh x rfl
        refine ⟨_, rfl, ⟨_, rfl⟩, _, _, rfl, rfl, by decide +kernel, line_small (by omega), fun p np => ?_⟩
        have hwl := split_len (x := x) (y := " ") (by decide)
        have e1 : (" " : Str).length = 1 := by decide
        have hRd : (¬ ∃ xs, RdP x xs) ∨ ∃ xs, RdP x xs := (Classical.em _).symm
        unfold RdP at hRd
        generalize eW : Txt.split x " " = ws at hwl hRd ⊢
        have sp := same_new (o := .lst (ws.map V.str)) np
        have hp : (upd H p (.lst (ws.map V.str))) p = _ := upd_same
        generalize upd H p (.lst (ws.map V.str)) = H1 at sp hp ⊢
        refine ⟨p, rfl, ⟨_, SqL.of hp⟩, fun D nD => ?_⟩
        refine lc_list (K := K) (a := p) (xs := ws.map V.str) (fun i H3 => H3 D = some (.lst ((ws.take i).map fun w => optV (numP w))) ∧ Same H1 H3) ⟨upd_same, same_new nD⟩ (fun i H3 _ hP => SqL.of (hP.2 _ _ hp)) (fun i y H3 hy hP => ?_) (fun H3 hP => ?_)
        · obtain ⟨z, ez, rfl⟩ := str_at_inv hy
          obtain ⟨hD3, sm⟩ := hP
          have hi := (List.getElem?_eq_some_iff.mp ez).1
          refine ⟨rfl, _, rfl, z, rfl, _, hD3, line_lt (by rw [List.length_map, List.length_take]; omega), ?_, fun b o e => ?_⟩
          · rw [upd_same, List.take_add_one, ez, List.map_append]
            rfl
          · rw [upd_ne (ne_of_none e nD)]
            exact sm _ _ e
        · obtain ⟨hD3, sm⟩ := hP
          rw [List.length_map, List.take_length] at hD3
          refine ⟨_, rfl, .ref D, _, rfl, .lst hD3 (dq_opt ws), fun b H4 hb s4 => ⟨_, rfl, ?_⟩⟩
          rw [opt_good] at hb
          cases b with
          | true =>
            obtain ⟨xs, h1, h2⟩ := hb.mp rfl
            refine iteF ⟨_, rfl, q1 xs ⟨x, rfl, by rw [eW]; exact h1, h2⟩ D H4 (sp.free nD) ?_ ((sp.trans sm).trans s4)⟩
            have := s4 _ _ hD3
            rw [opt_vals h1] at this
            exact this
          | false =>
            refine iteT (q2 (fun ⟨xs, z, ez, h1, h2⟩ => ?_) _ ((sp.trans sm).trans s4))
            cases ez
            rw [eW] at h1
            exact absurd (hb.mpr ⟨xs, h1, h2⟩) Bool.false_ne_true
      | _ => cases hs
    · exact q2 (fun ⟨xs, z, ez, _⟩ => by rw [ez] at hs; cases hs) _ s1
end
end Fo
namespace Fo
open PySem PySem.Spec PyProof.Rows L2
theorem rowsP_eq {a b : List (List Int)} (hp : a.Perm b) (ha : a.Pairwise (· ≤ ·)) (hb : b.Pairwise (· ≤ ·)) : a = b := List.Perm.eq_of_pairwise (fun x y _ _ h1 h2 => List.le_antisymm h1 h2) ha hb hp
end Fo
namespace Fo
open PySem PySem.Spec PyProof.Rows L2
/-! a Lister between two calls -/
/-- rows that stand: where each one is, and what it holds -/
def RP (H : Hp) (t : Addr) (ps : List (Addr × List Int)) : Prop := H t = some (.lst (ps.map fun p => V.ref p.1)) ∧ ∀ p ∈ ps, H p.1 = some (.lst (p.2.map V.int))
abbrev rws (ps : List (Addr × List Int)) : List (List Int) := ps.map (·.2)
theorem RP.same {H H' : Hp} {t : Addr} {ps : List (Addr × List Int)} (h : RP H t ps) (s : Same H H') : RP H' t ps := ⟨s _ _ h.1, fun p hp => s _ _ (h.2 p hp)⟩
def fldsL (w : Str) (n d : Int) (t e : Addr) : List (Str × V) := [("way", .str w), ("n", .int n), ("d", .int d), ("taken", .ref t), ("earlier", .ref e)]
theorem n_wn : (("n" : Str) == "way") = false := by decide +kernel
theorem n_wd : (("d" : Str) == "way") = false := by decide +kernel
theorem n_nd : (("d" : Str) == "n") = false := by decide +kernel
theorem n_wt : (("taken" : Str) == "way") = false := by decide +kernel
theorem n_nt : (("taken" : Str) == "n") = false := by decide +kernel
theorem n_dt : (("taken" : Str) == "d") = false := by decide +kernel
theorem n_we : (("earlier" : Str) == "way") = false := by decide +kernel
theorem n_ne : (("earlier" : Str) == "n") = false := by decide +kernel
theorem n_de : (("earlier" : Str) == "d") = false := by decide +kernel
theorem n_te : (("earlier" : Str) == "taken") = false := by decide +kernel
section
variable {w : Str} {n d : Int} {t e t' : Addr}
theorem fl_w : (fldsL w n d t e).lookup ("way" : Str) = some (V.str w) := by unfold fldsL; rw [List.lookup_cons_self]
theorem fl_n : (fldsL w n d t e).lookup ("n" : Str) = some (V.int n) := by unfold fldsL; rw [List.lookup_cons, n_wn, List.lookup_cons_self]
theorem fl_d : (fldsL w n d t e).lookup ("d" : Str) = some (V.int d) := by unfold fldsL; rw [List.lookup_cons, n_wd, List.lookup_cons, n_nd, List.lookup_cons_self]
theorem fl_t : (fldsL w n d t e).lookup ("taken" : Str) = some (V.ref t) := by unfold fldsL; rw [List.lookup_cons, n_wt, List.lookup_cons, n_nt, List.lookup_cons, n_dt, List.lookup_cons_self]
theorem fl_e : (fldsL w n d t e).lookup ("earlier" : Str) = some (V.ref e) := by unfold fldsL; rw [List.lookup_cons, n_we, List.lookup_cons, n_ne, List.lookup_cons, n_de, List.lookup_cons, n_te, List.lookup_cons_self]
theorem fl_no {m : Str} (h1 : (m == "way") = false) (h2 : (m == "n") = false) (h3 : (m == "d") = false) (h4 : (m == "taken") = false) (h5 : (m == "earlier") = false) : (fldsL w n d t e).lookup m = none := by
  unfold fldsL
  rw [List.lookup_cons, h1, List.lookup_cons, h2, List.lookup_cons, h3, List.lookup_cons, h4, List.lookup_cons, h5]
  rfl
end
/-- a Lister at a, its stack at e: rs its orders, ss those ahead of them, the last at the end -/
structure LsAt (C : Addr) (H : Hp) (a e : Addr) (X : List Addr) (w : Str) (n : Nat) (d : Int) (rs : List (List Int)) (ss : List (List (List Int))) : Prop where
  ex : ∃ (dx t : Addr) (ps : List (Addr × List Int)) (st : List (Addr × List (Addr × List Int))), H a = some (.ins C dx (fldsL w n d t e)) ∧ H e = some (.lst (st.map fun q => V.ref q.1)) ∧ RP H t ps ∧ rws ps = rs ∧ (∀ q ∈ st, RP H q.1 q.2) ∧ st.map (fun q => rws q.2) = ss ∧
    e ∈ X ∧ t ∉ X ∧ (∀ p ∈ ps, p.1 ∉ X) ∧ ∀ q ∈ st, q.1 ∉ X ∧ ∀ p ∈ q.2, p.1 ∉ X
  tr : ∀ x ∈ X, ∃ o, H x = some o
  wy : IsWay w
  n1 : 1 ≤ n
  n2 : n ≤ 8
  d1 : 1 ≤ d
  ord : ∀ r ∈ rs, IsOrd n r
  ords : ∀ s ∈ ss, ∀ r ∈ s, IsOrd n r
/-- what stays while a Lister is changed -/
def KpL (a e : Addr) (H H' : Hp) : Prop := ∀ b o, H b = some o → b ≠ a → b ≠ e → H' b = some o
theorem KpL.of_same {a e : Addr} {H H' : Hp} (s : Same H H') : KpL a e H H' := fun b o h _ _ => s b o h
theorem KpL.trans {a e : Addr} {H H1 H2 : Hp} (k : KpL a e H H1) (l : KpL a e H1 H2) : KpL a e H H2 := fun b o h n1 n2 => l b o (k b o h n1 n2) n1 n2
theorem LsAt.same {C : Addr} {H H' : Hp} {a e : Addr} {X : List Addr} {w : Str} {n : Nat} {d : Int} {rs : List (List Int)} {ss : List (List (List Int))} (h : LsAt C H a e X w n d rs ss) (s : Same H H') : LsAt C H' a e X w n d rs ss := by
  obtain ⟨⟨dx, t, ps, st, e1, e2, e3, e4, e5, e6, e7⟩, tr, r⟩ := h
  exact ⟨⟨dx, t, ps, st, s _ _ e1, s _ _ e2, e3.same s, e4, fun q hq => (e5 q hq).same s, e6, e7⟩, fun x hx => (tr x hx).imp fun o h => s _ _ h, by assumption, by assumption, by assumption, by assumption, by assumption, by assumption⟩
/-- the class, as the top has made it -/
structure TxL (K : PySem.W.Frag) (mg : Str → Option Value) (C fI : Addr) : Prop where
  cl : Cls K C
  mkx : Mk K C fI
  g : mg "Lister" = some (.ref C)
  nW : NoAttr K C "way"
  nN : NoAttr K C "n"
  nD : NoAttr K C "d"
  nT : NoAttr K C "taken"
  nE : NoAttr K C "earlier"
theorem ka : ¬ (("way" : Str) = "n") ∧ ¬ (("way" : Str) = "d") ∧ ¬ (("way" : Str) = "taken") ∧ ¬ (("way" : Str) = "earlier") ∧ ¬ (("n" : Str) = "d") ∧ ¬ (("n" : Str) = "taken") ∧ ¬ (("n" : Str) = "earlier") ∧ ¬ (("d" : Str) = "taken") ∧ ¬ (("d" : Str) = "earlier") ∧ ¬ (("taken" : Str) = "earlier") := by decide +kernel
theorem put_t (w : Str) (n d : Int) (t e t' : Addr) : putF "taken" (.ref t') (fldsL w n d t e) = fldsL w n d t' e := by
  obtain ⟨-, -, k1, -, -, k2, -, k3, -, -⟩ := ka
  unfold fldsL
  rw [putF, if_neg k1, putF, if_neg k2, putF, if_neg k3, putF, if_pos rfl]
theorem pl {f : Str} {v : V} : ∀ {fs : List (Str × V)} {n : Nat}, fs.length ≤ n → (putF f v fs).length ≤ n + 1
  | [], _, _ => Nat.succ_le_succ (Nat.zero_le _)
  | p :: fs, n, h => by
    unfold putF
    split
    · exact Nat.le_succ_of_le h
    · exact Nat.succ_le_succ (by cases n with | zero => exact absurd h (Nat.not_succ_le_zero _) | succ n => exact pl (Nat.le_of_succ_le_succ h))
theorem put_init (w : Str) (n d : Int) (t e : Addr) : putF "earlier" (.ref e) (putF "taken" (.ref t) (putF "d" (.int d) (putF "n" (.int n) (putF "way" (.str w) [])))) = fldsL w n d t e := by
  obtain ⟨k1, k2, k3, k4, k5, k6, k7, k8, k9, k10⟩ := ka
  unfold fldsL
  simp only [putF, if_neg k1, if_neg k2, if_neg k3, if_neg k4, if_neg k5, if_neg k6, if_neg k7, if_neg k8, if_neg k9, if_neg k10]
theorem RP.kpl {C dx : Addr} {fs : List (Str × V)} {a e t : Addr} {ps : List (Addr × List Int)} {H H' : Hp} (h : RP H t ps) (k : KpL a e H H') (ha : H a = some (.ins C dx fs)) (nt : t ≠ e) (np : ∀ p ∈ ps, p.1 ≠ e) : RP H' t ps :=
  ⟨k _ _ h.1 (ne_of h.1 ha (by intro z; cases z)) nt, fun p hp => k _ _ (h.2 p hp) (ne_of (h.2 p hp) ha (by intro z; cases z)) (np p hp)⟩
theorem RP.at {H : Hp} {t : Addr} {ps : List (Addr × List Int)} (h : RP H t ps) {i : Nat} {x : V} (hx : (ps.map fun p => V.ref p.1)[i]? = some x) : ∃ p, ps[i]? = some p ∧ x = .ref p.1 ∧ H p.1 = some (.lst (p.2.map V.int)) := by
  rw [List.getElem?_map] at hx
  cases e : ps[i]? with
  | none => rw [e] at hx; cases hx
  | some p => rw [e] at hx; exact ⟨p, rfl, (Option.some.inj hx).symm, h.2 p (List.mem_of_getElem? e)⟩
theorem rp_dps {K : PySem.W.Frag} {H : Hp} : ∀ {ps : List (Addr × List Int)}, (∀ p ∈ ps, H p.1 = some (.lst (p.2.map V.int))) → DpAll K H (ps.map fun p => V.ref p.1) ((rws ps).map dL)
  | [], _ => .nil
  | p :: ps, h => .cons (dp_list (h p List.mem_cons_self)) (rp_dps fun q hq => h q (List.mem_cons_of_mem _ hq))
theorem RP.dp {K : PySem.W.Frag} {H : Hp} {t : Addr} {ps : List (Addr × List Int)} (h : RP H t ps) : Dp K H (.ref t) (dLL (rws ps)) := .lst (SqL.of h.1) (rp_dps h.2)
theorem rws_at {ps : List (Addr × List Int)} {i : Nat} {p : Addr × List Int} (h : ps[i]? = some p) : (rws ps)[i]? = some p.2 := by rw [List.getElem?_map, h]; rfl
theorem take_p {α : Type} {ps : List α} {i : Nat} {p : α} (h : ps[i]? = some p) : ps.take (i + 1) = ps.take i ++ [p] := by rw [List.take_add_one, h]; rfl
theorem filter_p {α : Type} {ps : List α} {i : Nat} {p : α} (f : α → Bool) (h : ps[i]? = some p) : (ps.take (i + 1)).filter f = (ps.take i).filter f ++ (if f p = true then [p] else []) := by
  rw [take_p h, List.filter_append]
  show _ ++ List.filter f [p] = _
  rw [List.filter_cons]
  rfl
theorem trK {a e : Addr} {X : List Addr} {H H' : Hp} {o1 o2 : HO} (tr : ∀ x ∈ X, ∃ o, H x = some o) (k : KpL a e H H') (h1 : H' a = some o1) (h2 : H' e = some o2) : ∀ x ∈ X, ∃ o, H' x = some o := fun x hx => by
  obtain ⟨o, h⟩ := tr x hx
  by_cases c : x = a
  · exact ⟨o1, c ▸ h1⟩
  · by_cases c2 : x = e
    · exact ⟨o2, c2 ▸ h2⟩
    · exact ⟨o, k x o h c c2⟩
theorem LsAt.growL {C : Addr} {H H' : Hp} {a e : Addr} {X ys : List Addr} {w : Str} {n : Nat} {d : Int} {rs : List (List Int)} {ss : List (List (List Int))} (L : LsAt C H a e X w n d rs ss) (s : Same H H') (ny : ∀ y ∈ ys, H y = none ∧ ∃ o, H' y = some o) : LsAt C H' a e (ys ++ X) w n d rs ss := by
  obtain ⟨⟨dx, t, ps, st, e1, e2, e3, e4, e5, e6, eX, tX, pX, sX⟩, tr, r⟩ := L
  have ne : ∀ {b : Addr} {o : HO}, H b = some o → b ∉ X → b ∉ ys ++ X := fun {b o} h1 h2 z => by
    rcases List.mem_append.mp z with z | z
    · rw [(ny b z).1] at h1
      cases h1
    · exact h2 z
  refine ⟨⟨dx, t, ps, st, s _ _ e1, s _ _ e2, e3.same s, e4, fun q hq => (e5 q hq).same s, e6, List.mem_append_right _ eX, ne e3.1 tX, fun p hp => ne (e3.2 p hp) (pX p hp), fun q hq => ⟨ne (e5 q hq).1 (sX q hq).1, fun p hp => ne ((e5 q hq).2 p hp) ((sX q hq).2 p hp)⟩⟩, fun x hx => ?_, by assumption, by assumption, by assumption, by assumption, by assumption, by assumption⟩
  rcases List.mem_append.mp hx with hx | hx
  · exact (ny x hx).2
  · exact (tr x hx).imp fun o h => s _ _ h
def spInitL (C : Addr) : Sp := fun vs H Q _ => ∃ (a dx : Addr) (X : List Addr) (w : Str) (n : Nat) (d : Int), vs = [.ref a, .str w, .int n, .int d] ∧ H a = some (.ins C dx []) ∧ IsWay w ∧ 1 ≤ n ∧ n ≤ 8 ∧ 1 ≤ d ∧ (∀ x ∈ X, ∃ o, H x = some o) ∧ a ∉ X ∧
  ∀ (e : Addr) (H' : Hp), H e = none → LsAt C H' a e (e :: X) w n d [] [] → (∀ b o, H b = some o → b ≠ a → H' b = some o) → Q .non H'
def spManyOk : Sp := fun vs H Q _ => ∃ m : Int, vs = [.int m] ∧ m ≤ 120 ∧ Q .non H
def nearR (w : Str) (xs : List Int) (d : Int) (rs : List (List Int)) : List (List Int) := rs.filter fun r => decide (farW w xs r < d)
/-- new rows at l -/
def NewRows (H H' : Hp) (l : Addr) (qs : List (Addr × List Int)) : Prop := RP H' l qs ∧ H l = none ∧ ∀ q ∈ qs, H q.1 = none
def spComeL (C : Addr) : Sp := fun vs H Q _ => ∃ (a e o : Addr) (X : List Addr) (w : Str) (n : Nat) (d : Int) (rs : List (List Int)) (ss : List (List (List Int))) (xs : List Int), vs = [.ref a, .ref o] ∧ LsAt C H a e X w n d rs ss ∧ H o = some (.lst (xs.map V.int)) ∧ IsOrd n xs ∧ rs.length < 120 ∧ ss.length < 1000 ∧
  ∀ (l : Addr) (qs : List (Addr × List Int)) (rs' : List (List Int)) (ss' : List (List (List Int))) (H' : Hp), rws qs = nearR w xs d rs → (qs = [] → rs'.Perm (rs ++ [xs]) ∧ rs'.Pairwise (· ≤ ·) ∧ ss' = ss ++ [rs]) → (qs ≠ [] → rs' = rs ∧ ss' = ss) → NewRows H H' l qs → LsAt C H' a e (l :: (qs.map (·.1) ++ X)) w n d rs' ss' → KpL a e H H' → Q (.ref l) H'
def spChangeL (C : Addr) : Sp := fun vs H Q _ => ∃ (a e l : Addr) (X : List Addr) (w : Str) (n : Nat) (d : Int) (rs : List (List Int)) (ss : List (List (List Int))) (qs : List (Addr × List Int)), vs = [.ref a, .ref l] ∧ LsAt C H a e X w n d rs ss ∧ RP H l qs ∧ l ∉ X ∧ (∀ q ∈ qs, q.1 ∉ X) ∧ (∀ r ∈ rws qs, IsOrd n r) ∧ ss.length < 1000 ∧
  ∀ H', LsAt C H' a e X w n d (rws qs) (ss ++ [rs]) → KpL a e H H' → Q .non H'
def spDropL (C : Addr) : Sp := fun vs H Q _ => ∃ (a e o : Addr) (X : List Addr) (w : Str) (n : Nat) (d : Int) (rs : List (List Int)) (ss : List (List (List Int))) (xs : List Int), vs = [.ref a, .ref o] ∧ LsAt C H a e X w n d rs ss ∧ H o = some (.lst (xs.map V.int)) ∧ xs ∈ rs ∧ IsOrd n xs ∧ ss.length < 1000 ∧ rs.length ≤ 120 ∧
  ∀ H', LsAt C H' a e X w n d (rs.filter fun r => !decide (r = xs)) (ss ++ [rs]) → KpL a e H H' → Q .non H'
def spUndoL (C cN : Addr) : Sp := fun vs H Q E => ∃ (a e : Addr) (X : List Addr) (w : Str) (n : Nat) (d : Int) (rs : List (List Int)) (ss : List (List (List Int))), vs = [.ref a] ∧ LsAt C H a e X w n d rs ss ∧ (∀ r0 ss0, ss = ss0 ++ [r0] → ∀ H', LsAt C H' a e X w n d r0 ss0 → KpL a e H H' → Q .non H') ∧ (ss = [] → E (.ref cN) none H)
def spOrdersL (C : Addr) : Sp := fun vs H Q _ => ∃ (a e : Addr) (X : List Addr) (w : Str) (n : Nat) (d : Int) (rs : List (List Int)) (ss : List (List (List Int))), vs = [.ref a] ∧ LsAt C H a e X w n d rs ss ∧ rs.length ≤ 120 ∧ ∀ (l : Addr) (qs : List (Addr × List Int)) (H' : Hp), rws qs = rs → NewRows H H' l qs → Same H H' → Q (.ref l) H'
section
variable {P : Program} {w : World} {K : PySem.W.Frag} {mg : Str → Option Value} {base : Heap}
theorem scManyOk : FnScope ["many"] ["many"] (defScope s_check_many) := ⟨rfl, rfl, rfl, by decide +kernel, rfl, by decide +kernel, by decide +kernel⟩
theorem ok_manyOk {f : Addr} {fd : FuncData} {k : Nat} {tO : Tok} (T : Df K mg "check_many" s_check_many ["many"] f fd) (mO : mg "MOST_ORDERS" = some (.int 120 tO)) : FnOk P w K mg base CX0 (k + 1) f fd ["many"] spManyOk := by
  refine T.F.ok scManyOk (fun vs H Q E h => ?_) (fun cdv A outer s H vs Q E hr h => ?_)
  · obtain ⟨m, rfl, _⟩ := h
    rfl
  · obtain ⟨m, rfl, hm, q⟩ := h
    refine ⟨_, 
      (pss_one (ps_if (pt_cmpR op_gt (pv 0) (pe_glob (v := .int 120) (by rfl) mO ⟨_, rfl⟩) (nomark _))
        (pss_one ps_never)
        pss_nil)), ?_⟩
    refine ⟨_, rfl, m, 120, rfl, rfl, _, rfl, ?_⟩
    rw [decide_eq_false (show ¬ (120 : Int) < m by omega)]
    exact iteF q
end
end Fo
namespace Fo
open PySem PySem.Spec PyProof.Rows L2
section
variable {P : Program} {w : World} {K : PySem.W.Frag} {mg : Str → Option Value} {base : Heap}
theorem scChangeL : FnScope ["self", "orders"] ["self", "orders"] (defScope s_Lister_change_to) := ⟨rfl, rfl, rfl, by decide +kernel, rfl, by decide +kernel, by decide +kernel⟩
theorem ok_changeL {C_Lister fI f : Addr} {fd : FuncData} {k : Nat} (T : Dm K C_Lister "change_to" "Lister.change_to" s_Lister_change_to ["self", "orders"] f fd) (TC : TxL K mg C_Lister fI) : FnOk P w K mg base CX0 (k + 1) f fd ["self", "orders"] (spChangeL C_Lister) := by
  refine T.F.ok scChangeL (fun vs H Q E h => ?_) (fun cdv A outer s H vs Q E hr h => ?_)
  · obtain ⟨a, e, l, X, w, n, d, rs, ss, qs, rfl, _⟩ := h
    rfl
  · obtain ⟨a, e, l, X, w, n, d, rs, ss, qs, rfl, L, hl, nlX, nqX, oq, hz, q⟩ := h
    obtain ⟨dx, t, ps, st, ha, he, ht, ert, hst, ess, heX, ntX, npX, nsX⟩ := L.ex
    have nte : t ≠ e := fun z => ntX (z ▸ heX)
    have npe : ∀ p ∈ ps, p.1 ≠ e := fun p hp z => npX p hp (z ▸ heX)
    have nse : ∀ q ∈ st, q.1 ≠ e ∧ ∀ p ∈ q.2, p.1 ≠ e := fun q hq => ⟨fun z => (nsX q hq).1 (z ▸ heX), fun p hp z => (nsX q hq).2 p hp (z ▸ heX)⟩
    have nae : a ≠ e := ne_of ha he (by intro z; cases z)
    have nle : l ≠ e := fun z => nlX (z ▸ heX)
    have nqe : ∀ q ∈ qs, q.1 ≠ e := fun q hq z => nqX q hq (z ▸ heX)
    have nla : l ≠ a := ne_of hl.1 ha (by intro z; cases z)
    refine ⟨_, 
      (pss_cons (ps_expr (pe_bm PySem.F.plainAttrs_list PySem.F.slot_list_append PySem.F.type_list_append mt_append (pe_fld (pv 0) rfl) (pa_cons (pe_fld (pv 0) rfl) pa_nil)))
      (pss_one (ps_fld (pv 0) (pv 1) rfl))), ?_⟩
    refine ⟨_, rfl, a, _, dx, _, _, rfl, ha, TC.cl, TC.nE, fl_e, ?_⟩
    refine ⟨.inl ⟨rfl, _, SqL.of he⟩, ?_⟩
    refine ⟨_, rfl, a, _, dx, _, _, rfl, ha, TC.cl, TC.nT, fl_t, ?_⟩
    refine ⟨e, _, _, rfl, rfl, he, line_lt (by rw [List.length_map, ← List.length_map (f := fun q : Addr × List (Addr × List Int) => rws q.2), ess]; omega), ?_⟩
    refine ⟨_, rfl, _, rfl, a, _, dx, _, rfl, (by rw [upd_ne nae]; exact ha), TC.cl, TC.nT, (by show 5 < 1000; decide), ?_⟩
    rw [put_t]
    have kp : KpL a e H (upd (upd H e (.lst ((st.map fun q => V.ref q.1) ++ [V.ref t]))) a (.ins C_Lister dx (fldsL w n d l e))) := fun b o h n1 n2 => by rw [upd_ne n1, upd_ne n2]; exact h
    refine q _ ⟨⟨dx, l, qs, st ++ [(t, ps)], upd_same, (by rw [upd_ne nae.symm, upd_same, List.map_append]; rfl), hl.kpl kp ha nle nqe, rfl, fun q hq => ?_, ?_, heX, nlX, nqX, fun q hq => ?_⟩, trK L.tr kp upd_same (by rw [upd_ne nae.symm, upd_same]), L.wy, L.n1, L.n2, L.d1, oq, fun s hs r hr => ?_⟩ kp
    · rcases List.mem_append.mp hq with hq | hq
      · exact (hst q hq).kpl kp ha (nse q hq).1 (nse q hq).2
      · rw [List.mem_singleton.mp hq]
        exact ht.kpl kp ha nte npe
    · rw [List.map_append, ess, ← ert]
      rfl
    · rcases List.mem_append.mp hq with hq | hq
      · exact nsX q hq
      · rw [List.mem_singleton.mp hq]
        exact ⟨ntX, npX⟩
    · rcases List.mem_append.mp hs with hs | hs
      · exact L.ords s hs r hr
      · rw [List.mem_singleton.mp hs] at hr
        exact L.ord r hr
theorem scInitL : FnScope ["self", "way", "n", "d"] ["self", "way", "n", "d"] (defScope s_Lister___init__) := ⟨rfl, rfl, rfl, by decide +kernel, rfl, by decide +kernel, by decide +kernel⟩
theorem ok_initL {C_Lister fI f f1 : Addr} {fd d1 : FuncData} {k : Nat} {tK : Tok} (T : Dm K C_Lister "__init__" "Lister.__init__" s_Lister___init__ ["self", "way", "n", "d"] f fd) (TC : TxL K mg C_Lister fI) (T_check_apart : Df K mg "check_apart" s_check_apart ["way", "n", "most", "d"] f1 d1) (G_check_apart : FnOk P w K mg base CX0 k f1 d1 ["way", "n", "most", "d"] spApart) (mK : mg "MOST_KEPT" = some (.int 8 tK)) : FnOk P w K mg base CX0 (k + 1) f fd ["self", "way", "n", "d"] (spInitL C_Lister) := by
  refine T.F.ok scInitL (fun vs H Q E h => ?_) (fun cdv A outer s H vs Q E hr h => ?_)
  · obtain ⟨a, dx, X, w, n, d, rfl, _⟩ := h
    rfl
  · obtain ⟨a, dx, X, w, n, d, rfl, ha, hw, h1, h2, h3, htr, naX, q⟩ := h
    refine ⟨_, 
      (pss_cons (ps_expr (pe_call G_check_apart hr (by rfl) T_check_apart.g T_check_apart.F.kp T_check_apart.b .nil pass0 (pa_cons (pv 1) (pa_cons (pv 2) (pa_cons (pe_glob (v := .int 8) (by rfl) mK ⟨_, rfl⟩) (pa_cons (pv 3) pa_nil))))))
      (pss_cons (ps_fld (pv 0) (pv 1) rfl)
      (pss_cons (ps_fld (pv 0) (pv 2) rfl)
      (pss_cons (ps_fld (pv 0) (pv 3) rfl)
      (pss_cons (ps_fld (pv 0) (pe_lst pa_nil) rfl)
      (pss_one (ps_fld (pv 0) (pe_lst pa_nil) rfl))))))), ?_⟩
    refine ⟨_, rfl, _, rfl, _, rfl, w, n, 8, d, rfl, hw, by omega, by omega, h3, ?_⟩
    refine ⟨_, rfl, _, rfl, a, _, dx, _, rfl, ha, TC.cl, TC.nW, (by show 0 < 1000; decide), ?_⟩
    refine ⟨_, rfl, _, rfl, a, _, dx, _, rfl, upd_same, TC.cl, TC.nN, (by show 1 < 1000; decide), ?_⟩
    refine ⟨_, rfl, _, rfl, a, _, dx, _, rfl, upd_same, TC.cl, TC.nD, (Nat.lt_of_le_of_lt (pl (pl (Nat.le_refl 0))) (by decide)), ?_⟩
    refine ⟨by decide, fun t nt => ?_⟩
    have nta : a ≠ t := ne_of_none upd_same nt
    refine ⟨_, rfl, a, _, dx, _, rfl, (by rw [upd_ne nta]; exact upd_same), TC.cl, TC.nT, (Nat.lt_of_le_of_lt (pl (pl (pl (Nat.le_refl 0)))) (by decide)), ?_⟩
    refine ⟨by decide, fun e ne => ?_⟩
    have nae : a ≠ e := ne_of_none upd_same ne
    have nte : t ≠ e := ne_of_none (by rw [upd_ne nta.symm, upd_same]) ne
    refine ⟨_, rfl, a, _, dx, _, rfl, (by rw [upd_ne nae]; exact upd_same), TC.cl, TC.nE, (Nat.lt_of_le_of_lt (pl (pl (pl (pl (Nat.le_refl 0))))) (by decide)), ?_⟩
    rw [put_init]
    have hte : H t = none := by rw [← nt, upd_ne nta.symm, upd_ne nta.symm, upd_ne nta.symm]
    have hee : H e = none := by rw [← ne, upd_ne nae.symm, upd_ne nte.symm, upd_ne nae.symm, upd_ne nae.symm, upd_ne nae.symm]
    have kp : ∀ b o, H b = some o → b ≠ a → (upd (upd (upd (upd (upd (upd (upd H a (.ins C_Lister dx (putF "way" (.str w) []))) a (.ins C_Lister dx (putF "n" (.int n) (putF "way" (.str w) [])))) a (.ins C_Lister dx (putF "d" (.int d) (putF "n" (.int n) (putF "way" (.str w) []))))) t (.lst [])) a (.ins C_Lister dx (putF "taken" (.ref t) (putF "d" (.int d) (putF "n" (.int n) (putF "way" (.str w) [])))))) e (.lst [])) a (.ins C_Lister dx (fldsL w n d t e))) b = some o := fun b o h nb => by
      rw [upd_ne nb, upd_ne (ne_of_none h hee), upd_ne nb, upd_ne (ne_of_none h hte), upd_ne nb, upd_ne nb, upd_ne nb]
      exact h
    refine q e _ hee ⟨⟨dx, t, [], [], upd_same, (by rw [upd_ne nae.symm, upd_same]; rfl), ⟨(by rw [upd_ne nta.symm, upd_ne nte, upd_ne nta.symm, upd_same]; rfl), fun p hp => absurd hp List.not_mem_nil⟩, rfl, fun p hp => absurd hp List.not_mem_nil, rfl, List.mem_cons_self, fun hm => ?_, fun p hp => absurd hp List.not_mem_nil, fun p hp => absurd hp List.not_mem_nil⟩, fun x hx => ?_, hw, h1, h2, h3, fun r hr => absurd hr List.not_mem_nil, fun r hr => absurd hr List.not_mem_nil⟩ fun b o h nb => kp b o h nb
    · rcases List.mem_cons.mp hm with z | hm
      · exact nte z
      · obtain ⟨o, ho⟩ := htr t hm
        rw [hte] at ho
        cases ho
    · rcases List.mem_cons.mp hx with rfl | hx
      · exact ⟨_, by rw [upd_ne nae.symm, upd_same]⟩
      · obtain ⟨o, ho⟩ := htr x hx
        exact ⟨o, kp x o ho fun z => naX (z ▸ hx)⟩
theorem scUndoL : FnScope ["self"] ["self"] (defScope s_Lister_undo) := ⟨rfl, rfl, rfl, by decide +kernel, rfl, by decide +kernel, by decide +kernel⟩
theorem ok_undoL {cN C_Lister fI f : Addr} {fd : FuncData} {k : Nat} (T : Dm K C_Lister "undo" "Lister.undo" s_Lister_undo ["self"] f fd) (TC : TxL K mg C_Lister fI) (X_NoNumber : ExK K mg "NoNumber" cN) (B : Bi mg) : FnOk P w K mg base (L2.CX P w) (k + 1) f fd ["self"] (spUndoL C_Lister cN) := by
  refine T.F.okX scUndoL (fun vs H Q E h => ?_) (fun cdv A outer s H vs Q E hr h => ?_)
  · obtain ⟨a, e, X, w, n, d, rs, ss, rfl, _⟩ := h
    rfl
  · obtain ⟨a, e, X, w, n, d, rs, ss, rfl, L, q1, q2⟩ := h
    obtain ⟨dx, t, ps, st, ha, he, ht, ert, hst, ess, heX, ntX, npX, nsX⟩ := L.ex
    have nte : t ≠ e := fun z => ntX (z ▸ heX)
    have npe : ∀ p ∈ ps, p.1 ≠ e := fun p hp z => npX p hp (z ▸ heX)
    have nse : ∀ q ∈ st, q.1 ≠ e ∧ ∀ p ∈ q.2, p.1 ≠ e := fun q hq => ⟨fun z => (nsX q hq).1 (z ▸ heX), fun p hp z => (nsX q hq).2 p hp (z ▸ heX)⟩
    have nae : a ≠ e := ne_of ha he (by intro z; cases z)
    refine ⟨_, 
      (pss_cons (ps_if (pt_cmpR op_eq (pe_callB call_len_seq (by rfl) B.len PySem.boot_len (pa_cons (pe_fld (pv 0) rfl) pa_nil)) pe_int (nomark _))
        (pss_one (ps_raiseK rfl (takes_of rfl rfl rfl rfl) X_NoNumber (by rfl)))
        pss_nil)
      (pss_one (ps_fld (pv 0) (pe_bm0 PySem.F.plainAttrs_list PySem.F.slot_list_pop PySem.F.type_list_pop mt_pop (pe_fld (pv 0) rfl)) rfl))), ?_⟩
    refine ⟨_, rfl, a, _, dx, _, _, rfl, ha, TC.cl, TC.nE, fl_e, e, _, rfl, .inl (SqL.of he), rfl, _, rfl, ?_⟩
    rw [List.length_map]
    by_cases c : st = []
    · subst c
      exact iteT (q2 ess.symm)
    · have hl : st.length ≠ 0 := fun z => c (List.eq_nil_of_length_eq_zero z)
      rw [decide_eq_false (show ¬ (V.int (st.length : Int) = V.int 0) from fun z => by have := V.int.inj z; omega)]
      refine iteF ?_
      obtain ⟨st0, tp, rfl⟩ : ∃ st0 tp, st = st0 ++ [tp] := ⟨st.dropLast, st.getLast c, (List.dropLast_concat_getLast c).symm⟩
      obtain ⟨t0, ps0⟩ := tp
      have m0 : (t0, ps0) ∈ st0 ++ [(t0, ps0)] := List.mem_append_right _ List.mem_cons_self
      refine ⟨_, rfl, a, _, dx, _, _, rfl, ha, TC.cl, TC.nE, fl_e, ?_⟩
      refine ⟨.inl ⟨rfl, _, SqL.of he⟩, e, _, V.ref t0, rfl, rfl, he, ?_, ?_⟩
      · rw [List.map_append, List.length_append]
        show (List.map _ st0 ++ [V.ref t0])[(List.map _ st0).length + 1 - 1]? = _
        rw [Nat.add_sub_cancel, List.getElem?_append_right (Nat.le_refl _), Nat.sub_self]
        rfl
      refine ⟨_, rfl, a, _, dx, _, rfl, (by rw [upd_ne nae]; exact ha), TC.cl, TC.nT, (by show 5 < 1000; decide), ?_⟩
      rw [put_t]
      have ed : (List.map (fun q : Addr × List (Addr × List Int) => V.ref q.1) (st0 ++ [(t0, ps0)])).dropLast = st0.map fun q => V.ref q.1 := by
        rw [List.map_append]
        exact List.dropLast_concat
      rw [ed]
      have kp : KpL a e H (upd (upd H e (.lst (st0.map fun q => V.ref q.1))) a (.ins C_Lister dx (fldsL w n d t0 e))) := fun b o h n1 n2 => by rw [upd_ne n1, upd_ne n2]; exact h
      have es : ss = (st0.map fun q => rws q.2) ++ [rws ps0] := by rw [← ess, List.map_append]; rfl
      refine q1 (rws ps0) _ es _ ⟨⟨dx, t0, ps0, st0, upd_same, (by rw [upd_ne nae.symm, upd_same]), (hst _ m0).kpl kp ha (nse _ m0).1 (nse _ m0).2, rfl, fun q hq => (hst q (List.mem_append_left _ hq)).kpl kp ha (nse q (List.mem_append_left _ hq)).1 (nse q (List.mem_append_left _ hq)).2, rfl, heX, (nsX _ m0).1, (nsX _ m0).2, fun q hq => nsX q (List.mem_append_left _ hq)⟩, trK L.tr kp upd_same (by rw [upd_ne nae.symm, upd_same]), L.wy, L.n1, L.n2, L.d1, fun r hr => L.ords _ (by rw [es]; exact List.mem_append_right _ List.mem_cons_self) r hr, fun s hs r hr => L.ords s (by rw [es]; exact List.mem_append_left _ hs) r hr⟩ kp
end
end Fo
namespace Fo
open PySem PySem.Spec PyProof.Rows L2
section
variable {P : Program} {w : World} {K : PySem.W.Frag} {mg : Str → Option Value} {base : Heap}
theorem scOrdersL : FnScope ["self", "order"] ["self"] (defScope s_Lister_orders) := ⟨rfl, rfl, rfl, by decide +kernel, rfl, by decide +kernel, by decide +kernel⟩
theorem ok_ordersL {C_Lister fI f : Addr} {fd : FuncData} {k : Nat} (T : Dm K C_Lister "orders" "Lister.orders" s_Lister_orders ["self"] f fd) (TC : TxL K mg C_Lister fI) (B : Bi mg) : FnOk P w K mg base CX0 (k + 1) f fd ["self"] (spOrdersL C_Lister) := by
  refine T.F.ok scOrdersL (fun vs H Q E h => ?_) (fun cdv A outer s H vs Q E hr h => ?_)
  · obtain ⟨a, e, X, w, n, d, rs, ss, rfl, _⟩ := h
    rfl
  · obtain ⟨a, e, X, w, n, d, rs, ss, rfl, L, hl, q⟩ := h
    obtain ⟨dx, t, ps, st, ha, he, ht, ert, hst, ess, heX, ntX, npX, nsX⟩ := L.ex
    have nte : t ≠ e := fun z => ntX (z ▸ heX)
    have npe : ∀ p ∈ ps, p.1 ≠ e := fun p hp z => npX p hp (z ▸ heX)
    have nse : ∀ q ∈ st, q.1 ≠ e ∧ ∀ p ∈ q.2, p.1 ≠ e := fun q hq => ⟨fun z => (nsX q hq).1 (z ▸ heX), fun p hp z => (nsX q hq).2 p hp (z ▸ heX)⟩
    have hpl : ps.length ≤ 120 := by rw [← ert, List.length_map] at hl; exact hl
    refine ⟨_, 
      (pss_one (ps_ret (pe_lc (own := [("order", 1)]) (g := (gName 1)) (tt := tYes) (te := (tCB (rListOf K) (tCons (tVar 1) tNil))) rfl scOrdersL.nd (pi_list (pe_fld (pv 0) rfl)) (blkOk_by (N := ["self", "order"]) (sc := defScope s_Lister_orders) (by decide +kernel)) (fun _ _ _ _ _ => (pg_name (i := 1) scOrdersL.nd rfl (.inl rfl))) (fun _ _ _ _ _ => pts_nil) (fun _ _ _ _ _ => (pe_callTy call_list_of (by rfl) B.list (by decide +kernel) (pa_cons (pv 1) pa_nil)))))), ?_⟩
    refine ⟨_, rfl, a, _, dx, _, _, rfl, ha, TC.cl, TC.nT, fl_t, t, rfl, ⟨_, SqL.of ht.1⟩, fun D nD => ?_⟩
    refine lc_list (K := K) (a := t) (xs := ps.map fun p => V.ref p.1) (fun i H3 => ∃ bs : List (Addr × List Int), RP H3 D bs ∧ rws bs = rs.take i ∧ (∀ b ∈ bs, H b.1 = none ∧ b.1 ≠ D) ∧ Same H H3)
      ⟨[], ⟨upd_same, fun p hp => absurd hp List.not_mem_nil⟩, rfl, fun p hp => absurd hp List.not_mem_nil, same_new nD⟩ (fun i H3 _ hP => by obtain ⟨_, _, _, _, sm⟩ := hP; exact SqL.of (sm _ _ ht.1)) (fun i x H3 hx hP => ?_) (fun H3 hP => ?_)
    · obtain ⟨bs, hb, eb, nb, sm⟩ := hP
      obtain ⟨p, ep, rfl, hp⟩ := ht.at hx
      have hbl : bs.length ≤ 120 := by
        have := congrArg List.length eb
        rw [List.length_map, List.length_take] at this
        omega
      refine ⟨rfl, _, rfl, p.1, _, rfl, .inl (SqL.of (sm _ _ hp)), fun c nc => ?_⟩
      have s4 := same_new (o := .lst (p.2.map V.int)) nc
      have npc : D ≠ c := ne_of_none hb.1 nc
      refine ⟨_, s4 _ _ hb.1, line_lt (by rw [List.length_map]; omega), bs ++ [(c, p.2)], ⟨by rw [upd_same, List.map_append]; rfl, fun u hu => ?_⟩, ?_, fun u hu => ?_, fun b o h => ?_⟩
      · rcases List.mem_append.mp hu with hu | hu
        · rw [upd_ne (nb u hu).2]
          exact s4 _ _ (hb.2 u hu)
        · rw [List.mem_singleton.mp hu, upd_ne npc.symm, upd_same]
      · rw [take_p (by rw [← ert]; exact rws_at ep), ← eb]
        show List.map _ (bs ++ [(c, p.2)]) = _
        rw [List.map_append]
        rfl
      · rcases List.mem_append.mp hu with hu | hu
        · exact nb u hu
        · rw [List.mem_singleton.mp hu]
          exact ⟨sm.free nc, npc.symm⟩
      · rw [upd_ne (ne_of_none h nD)]
        exact s4 _ _ (sm _ _ h)
    · obtain ⟨bs, hb, eb, nb, sm⟩ := hP
      rw [List.length_map, List.take_of_length_le (by rw [← ert, List.length_map]; exact Nat.le_refl _)] at eb
      exact q D bs H3 eb ⟨hb, nD, fun u hu => (nb u hu).1⟩ sm
theorem scDropL : FnScope ["self", "order", "other"] ["self", "order"] (defScope s_Lister_drop) := ⟨rfl, rfl, rfl, by decide +kernel, rfl, by decide +kernel, by decide +kernel⟩
theorem ok_dropL {C_Lister fI f f1 f2 : Addr} {fd d1 d2 : FuncData} {k : Nat} (T : Dm K C_Lister "drop" "Lister.drop" s_Lister_drop ["self", "order"] f fd) (T_Lister : TxL K mg C_Lister fI) (T_check_order : Df K mg "check_order" s_check_order ["thing"] f1 d1) (G_check_order : FnOk P w K mg base CX0 k f1 d1 ["thing"] spCheck)
    (T_Lister_change_to : Dm K C_Lister "change_to" "Lister.change_to" s_Lister_change_to ["self", "orders"] f2 d2) (G_Lister_change_to : FnOk P w K mg base CX0 k f2 d2 ["self", "orders"] (spChangeL C_Lister)) (B : Bi mg) : FnOk P w K mg base CX0 (k + 1) f fd ["self", "order"] (spDropL C_Lister) := by
  refine T.F.ok scDropL (fun vs H Q E h => ?_) (fun cdv A outer s H vs Q E hr h => ?_)
  · obtain ⟨a, e, o, X, w, n, d, rs, ss, xs, rfl, _⟩ := h
    rfl
  · obtain ⟨a, e, o, X, w, n, d, rs, ss, xs, rfl, L, ho, hx, hox, hz, hrl, q⟩ := h
    obtain ⟨dx, t, ps, st, ha, he, ht, ert, hst, ess, heX, ntX, npX, nsX⟩ := L.ex
    have nte : t ≠ e := fun z => ntX (z ▸ heX)
    have npe : ∀ p ∈ ps, p.1 ≠ e := fun p hp z => npX p hp (z ▸ heX)
    have nse : ∀ q ∈ st, q.1 ≠ e ∧ ∀ p ∈ q.2, p.1 ≠ e := fun q hq => ⟨fun z => (nsX q hq).1 (z ▸ heX), fun p hp z => (nsX q hq).2 p hp (z ▸ heX)⟩
    have hpl : ps.length ≤ 120 := by rw [← ert, List.length_map] at hrl; exact hrl
    refine ⟨_, 
      (pss_cons (ps_expr (pe_call G_check_order hr (by rfl) T_check_order.g T_check_order.F.kp T_check_order.b .nil pass0 (pa_cons (pv 1) pa_nil)))
      (pss_cons (ps_if (pt_cmpR (op_notInD (units65 hr)) (pv 1) (pe_fld (pv 0) rfl) (by rfl))
        (pss_one ps_never)
        pss_nil)
      (pss_one (ps_expr (pe_meth (pv 0) T_Lister.cl T_Lister_change_to.me G_Lister_change_to hr T_Lister_change_to.b .nil pass0 (pa_cons (pe_lc (own := [("other", 2)]) (g := (gName 2)) (tt := (tTest (tOp (rNeD K) (tVar 2) (tVar 1)))) (te := (tVar 2)) rfl scDropL.nd (pi_list (pe_fld (pv 0) rfl)) (blkOk_by (N := ["self", "order", "other"]) (sc := defScope s_Lister_drop) (by decide +kernel)) (fun _ _ _ _ _ => (pg_name (i := 2) scDropL.nd rfl (.inl rfl))) (fun _ _ _ _ _ => (pts_one (pt_cmpR (op_neD hr.units) (pv 2) (pv 1) (nomark _)))) (fun _ _ _ _ _ => (pv 2))) pa_nil)))))), ?_⟩
    refine ⟨_, rfl, o, n, xs, rfl, ho, hox, L.n1, by have := L.n2; omega, fun H1 s1 => ?_⟩
    have L1 := L.same s1
    have ha1 := s1 _ _ ha
    have ht1 := ht.same s1
    refine ⟨_, rfl, _, rfl, a, _, dx, _, _, rfl, ha1, T_Lister.cl, T_Lister.nT, fl_t, _, _, dp_list (s1 _ _ ho), ht1.dp, shaped_list _, shaped_lists _, _, rfl, ?_⟩
    rw [any_row, ert, decide_eq_true hx]
    refine iteF ?_
    refine ⟨_, rfl, a, dx, _, rfl, ha1, fl_no (by decide +kernel) (by decide +kernel) (by decide +kernel) (by decide +kernel) (by decide +kernel), ?_⟩
    refine ⟨_, rfl, a, _, dx, _, _, rfl, ha1, T_Lister.cl, T_Lister.nT, fl_t, t, rfl, ⟨_, SqL.of ht1.1⟩, fun D nD => ?_⟩
    have nDX : D ∉ X := fun hm => by
      obtain ⟨o, ho⟩ := L1.tr D hm
      rw [nD] at ho
      cases ho
    refine lc_list (K := K) (a := t) (xs := ps.map fun p => V.ref p.1) (fun i H3 => H3 = upd H1 D (.lst (((ps.take i).filter fun p => !decide (p.2 = xs)).map fun p => V.ref p.1)))
      rfl (fun i H3 _ hP => by rw [hP]; exact SqL.of (same_new nD _ _ ht1.1)) (fun i x H3 hx hP => ?_) (fun H3 hP => ?_)
    · obtain ⟨p, ep, rfl, hp⟩ := ht1.at hx
      subst hP
      refine ⟨rfl, _, rfl, _, rfl, _, _, dp_list (same_new nD _ _ hp), dp_list (same_new nD _ _ (s1 _ _ ho)), shaped_list _, shaped_list _, _, rfl, ite2 (fun z => ?_) (fun z => ?_)⟩
      · rw [eqv_ints] at z
        refine ⟨_, rfl, _, upd_same, line_lt ?_, ?_⟩
        · rw [List.length_map]
          have := List.length_filter_le (fun p : Addr × List Int => !decide (p.2 = xs)) (ps.take i)
          rw [List.length_take] at this
          omega
        · rw [filter_p _ ep, if_pos z, List.map_append, upd_upd]
          rfl
      · rw [eqv_ints] at z
        rw [filter_p _ ep, if_neg z, List.append_nil]
    · subst hP
      rw [List.length_map, List.take_length]
      have hs := same_new (o := .lst ((ps.filter fun p => !decide (p.2 = xs)).map fun p => V.ref p.1)) nD
      refine ⟨a, e, D, X, w, n, d, rs, ss, ps.filter (fun p => !decide (p.2 = xs)), rfl, L1.same hs, ⟨upd_same, fun p hp => hs _ _ (ht1.2 p (List.mem_filter.mp hp).1)⟩, nDX, fun p hp => npX p (List.mem_filter.mp hp).1, fun r hr => ?_, hz, fun H' L' k' => ?_⟩
      · obtain ⟨p, hp, rfl⟩ := List.mem_map.mp hr
        exact L.ord _ (by rw [← ert]; exact List.mem_map_of_mem (List.mem_filter.mp hp).1)
      · refine q H' ?_ (((KpL.of_same (s1.trans hs))).trans k')
        have e1 : rws (ps.filter fun p => !decide (p.2 = xs)) = rs.filter fun r => !decide (r = xs) := by
          rw [← ert]
          show List.map _ (List.filter _ _) = List.filter _ (List.map _ _)
          rw [List.filter_map]
          rfl
        rw [← e1]
        exact L'
end
end Fo
namespace Fo
open PySem PySem.Spec PyProof.Rows L2
section
variable {P : Program} {w : World} {K : PySem.W.Frag} {mg : Str → Option Value} {base : Heap}
theorem rws_perm {ps qs : List (Addr × List Int)} (h : ps.Perm qs) : (rws ps).Perm (rws qs) := h.map _
theorem scComeL : FnScope ["self", "order", "near", "other"] ["self", "order"] (defScope s_Lister_come) := ⟨rfl, rfl, rfl, by decide +kernel, rfl, by decide +kernel, by decide +kernel⟩
set_option maxHeartbeats 2000000 in
theorem ok_comeL {C_Lister fI f f1 f2 f3 f4 : Addr} {fd d1 d2 d3 d4 : FuncData} {k : Nat} (T : Dm K C_Lister "come" "Lister.come" s_Lister_come ["self", "order"] f fd) (T_Lister : TxL K mg C_Lister fI) (T_check_order : Df K mg "check_order" s_check_order ["thing"] f1 d1) (G_check_order : FnOk P w K mg base CX0 k f1 d1 ["thing"] spCheck)
    (T_check_many : Df K mg "check_many" s_check_many ["many"] f3 d3) (G_check_many : FnOk P w K mg base CX0 k f3 d3 ["many"] spManyOk) (T_known_far : Df K mg "known_far" s_known_far ["way", "one", "other"] f4 d4) (G_known_far : FnOk P w K mg base CX0 k f4 d4 ["way", "one", "other"] spFar)
    (T_Lister_change_to : Dm K C_Lister "change_to" "Lister.change_to" s_Lister_change_to ["self", "orders"] f2 d2) (G_Lister_change_to : FnOk P w K mg base CX0 k f2 d2 ["self", "orders"] (spChangeL C_Lister)) (B : Bi mg) : FnOk P w K mg base CX0 (k + 1) f fd ["self", "order"] (spComeL C_Lister) := by
  refine T.F.ok scComeL (fun vs H Q E h => ?_) (fun cdv A outer s H vs Q E hr h => ?_)
  · obtain ⟨a, e, o, X, w, n, d, rs, ss, xs, rfl, _⟩ := h
    rfl
  · obtain ⟨a, e, o, X, w, n, d, rs, ss, xs, rfl, L, ho, hx, hrl, hz, q⟩ := h
    obtain ⟨dx, t, ps, st, ha, he, ht, ert, hst, ess, heX, ntX, npX, nsX⟩ := L.ex
    have nte : t ≠ e := fun z => ntX (z ▸ heX)
    have npe : ∀ p ∈ ps, p.1 ≠ e := fun p hp z => npX p hp (z ▸ heX)
    have nse : ∀ q ∈ st, q.1 ≠ e ∧ ∀ p ∈ q.2, p.1 ≠ e := fun q hq => ⟨fun z => (nsX q hq).1 (z ▸ heX), fun p hp z => (nsX q hq).2 p hp (z ▸ heX)⟩
    have hpl : ps.length < 120 := by rw [← ert, List.length_map] at hrl; exact hrl
    have hn2 := L.n2
    refine ⟨_, 
      (pss_cons (ps_expr (pe_call G_check_order hr (by rfl) T_check_order.g T_check_order.F.kp T_check_order.b .nil pass0 (pa_cons (pv 1) pa_nil)))
      (pss_cons (ps_if (pt_cmpR op_ne (pe_callB call_len_seq (by rfl) B.len PySem.boot_len (pa_cons (pv 1) pa_nil)) (pe_fld (pv 0) rfl) (nomark _))
        (pss_one ps_never)
        pss_nil)
      (pss_cons (ps_expr (pe_call G_check_many hr (by rfl) T_check_many.g T_check_many.F.kp T_check_many.b .nil pass0 (pa_cons (pe_op op_add (pe_callB call_len_seq (by rfl) B.len PySem.boot_len (pa_cons (pe_fld (pv 0) rfl) pa_nil)) pe_int) pa_nil)))
      (pss_cons (ps_setLc (i := 2) (own := [("other", 3)]) (g := (gName 3)) (tt := (tTest (tOp (rI0 fun i j => .bl (decide (i < j))) (tCall spFar [] E0 (tCons (tFld K (tVar 0) "way") (tCons (tVar 1) (tCons (tVar 3) tNil)))) (tFld K (tVar 0) "d")))) (te := (tCB (rListOf K) (tCons (tVar 3) tNil))) (by rfl) scComeL.nd rfl rfl (sw_true rfl rfl rfl (by decide +kernel)) (pi_list (pe_fld (pv 0) rfl)) (blkOk_by (N := ["self", "order", "near", "other"]) (sc := defScope s_Lister_come) (by decide +kernel)) (fun _ _ _ _ _ => (pg_name (i := 3) scComeL.nd rfl (.inl rfl))) (fun _ _ _ _ _ => (pts_one (pt_cmpR op_lt (pe_call G_known_far hr (by rfl) T_known_far.g T_known_far.F.kp T_known_far.b .nil pass0 (pa_cons (pe_fld (pv 0) rfl) (pa_cons (pv 1) (pa_cons (pv 3) pa_nil)))) (pe_fld (pv 0) rfl) (nomark _)))) (fun _ _ _ _ _ => (pe_callTy call_list_of (by rfl) B.list (by decide +kernel) (pa_cons (pv 3) pa_nil))))
      (Evl.pss_cut (ps_if (pt_cmpR op_eq (pe_callB call_len_seq (by rfl) B.len PySem.boot_len (pa_cons (pv 2) pa_nil)) pe_int (nomark _))
        (pss_one (ps_expr (pe_meth (pv 0) T_Lister.cl T_Lister_change_to.me G_Lister_change_to hr T_Lister_change_to.b .nil pass0 (pa_cons (pe_callB (cr_sortedR hr.units) (by rfl) B.sorted (by decide +kernel) (pa_cons (pe_op op_cat (pe_fld (pv 0) rfl) (pe_lst (pa_cons (pe_callTy call_list_of (by rfl) B.list (by decide +kernel) (pa_cons (pv 1) pa_nil)) pa_nil))) pa_nil)) pa_nil))))
        pss_nil)
      (pss_one (ps_ret (pv 2)))))))), ?_⟩
    refine ⟨_, rfl, o, n, xs, rfl, ho, hx, L.n1, by omega, fun H1 s1 => ?_⟩
    have L1 := L.same s1
    have ha1 := s1 _ _ ha
    have ht1 := ht.same s1
    have ho1 := s1 _ _ ho
    refine ⟨_, rfl, o, _, rfl, .inl (SqL.of ho1), _, rfl, a, _, dx, _, _, rfl, ha1, T_Lister.cl, T_Lister.nN, fl_n, rfl, _, rfl, ?_⟩
    rw [List.length_map, hx.len, decide_eq_true rfl]
    refine iteF ?_
    refine ⟨_, rfl, a, _, dx, _, _, rfl, ha1, T_Lister.cl, T_Lister.nT, fl_t, t, _, rfl, .inl (SqL.of ht1.1), _, _, rfl, rfl, _, rfl, by rw [List.length_map]; omega, ?_⟩
    refine ⟨_, rfl, a, _, dx, _, _, rfl, ha1, T_Lister.cl, T_Lister.nT, fl_t, t, rfl, ⟨_, SqL.of ht1.1⟩, fun D nD => ?_⟩
    have nHD : H D = none := s1.free nD
    refine lc_list (K := K) (a := t) (xs := ps.map fun p => V.ref p.1) (fun i H3 => ∃ bs : List (Addr × List Int), RP H3 D bs ∧ rws bs = nearR w xs d (rs.take i) ∧ bs.length ≤ 120 ∧ (∀ b ∈ bs, H1 b.1 = none ∧ b.1 ≠ D) ∧ Same H1 H3)
      ⟨[], ⟨upd_same, fun p hp => absurd hp List.not_mem_nil⟩, rfl, Nat.zero_le _, fun p hp => absurd hp List.not_mem_nil, same_new nD⟩ (fun i H3 _ hP => by obtain ⟨_, _, _, _, _, sm⟩ := hP; exact SqL.of (sm _ _ ht1.1)) (fun i x H3 hxi hP => ?_) (fun H3 hP => ?_)
    · obtain ⟨bs, hb, eb, lb, nb, sm⟩ := hP
      obtain ⟨p, ep, rfl, hp⟩ := ht1.at hxi
      have er : rs[i]? = some p.2 := by rw [← ert]; exact rws_at ep
      refine ⟨rfl, _, rfl, a, _, dx, _, _, rfl, sm _ _ ha1, T_Lister.cl, T_Lister.nW, fl_w, _, rfl, _, rfl, w, o, p.1, n, xs, p.2, rfl, L.wy, sm _ _ ho1, sm _ _ hp, hx, L.ord _ (List.mem_of_getElem? er), L.n1, by omega, fun H4 s4 => ?_⟩
      have t4 := sm.trans s4
      refine ⟨_, rfl, a, _, dx, _, _, rfl, t4 _ _ ha1, T_Lister.cl, T_Lister.nD, fl_d, _, _, rfl, rfl, _, rfl, ite2 (fun z => ?_) (fun z => ?_)⟩
      · refine ⟨_, rfl, p.1, _, rfl, .inl (SqL.of (t4 _ _ hp)), fun c nc => ?_⟩
        have s5 := same_new (o := .lst (p.2.map V.int)) nc
        have hb4 := hb.same s4
        have npc : D ≠ c := ne_of_none hb4.1 nc
        have hi : i < 120 := by
          have := (List.getElem?_eq_some_iff.mp ep).1
          omega
        have hbl : bs.length ≤ i := by
          have := congrArg List.length eb
          have h2 := List.length_filter_le (fun r => decide (farW w xs r < d)) (rs.take i)
          rw [List.length_map] at this
          rw [List.length_take] at h2
          unfold nearR at this
          omega
        refine ⟨_, s5 _ _ hb4.1, line_lt (by rw [List.length_map]; omega), bs ++ [(c, p.2)], ⟨by rw [upd_same, List.map_append]; rfl, fun u hu => ?_⟩, ?_, by rw [List.length_append]; show _ + 1 ≤ _; omega, fun u hu => ?_, fun b ob h => ?_⟩
        · rcases List.mem_append.mp hu with hu | hu
          · rw [upd_ne (nb u hu).2]
            exact s5 _ _ (hb4.2 u hu)
          · rw [List.mem_singleton.mp hu, upd_ne npc.symm, upd_same]
        · unfold nearR at eb ⊢
          rw [filter_p _ er, if_pos z, ← eb]
          show List.map _ (bs ++ [(c, p.2)]) = _
          rw [List.map_append]
          rfl
        · rcases List.mem_append.mp hu with hu | hu
          · exact nb u hu
          · rw [List.mem_singleton.mp hu]
            exact ⟨t4.free nc, npc.symm⟩
        · rw [upd_ne (ne_of_none h nD)]
          exact s5 _ _ (t4 _ _ h)
      · refine ⟨bs, hb.same s4, ?_, lb, nb, t4⟩
        unfold nearR at eb ⊢
        rw [filter_p _ er, if_neg z, List.append_nil]
        exact eb
    · obtain ⟨bs, hb, eb, lb, nb, sm⟩ := hP
      rw [List.length_map, List.take_of_length_le (by rw [← ert, List.length_map]; exact Nat.le_refl _)] at eb
      have s13 := s1.trans sm
      have L3 : LsAt C_Lister H3 a e (D :: (bs.map (·.1) ++ X)) w n d rs ss := L1.growL (ys := D :: bs.map fun b : Addr × List Int => b.1) sm fun y hy => by
        rcases List.mem_cons.mp hy with rfl | hy
        · exact ⟨nD, _, hb.1⟩
        · obtain ⟨b, hb2, rfl⟩ := List.mem_map.mp hy
          exact ⟨(nb b hb2).1, _, hb.2 b hb2⟩
      have ntr : ∀ {x : Addr} {o : HO}, H1 x = some o → x ∉ X → x ∉ D :: (bs.map (·.1) ++ X) := fun {x o} hx h1 hm => by
        rcases List.mem_cons.mp hm with rfl | hm
        · rw [nD] at hx; cases hx
        · rcases List.mem_append.mp hm with hm | hm
          · obtain ⟨b, hb2, rfl⟩ := List.mem_map.mp hm
            rw [(nb b hb2).1] at hx
            cases hx
          · exact h1 hm
      have ha3 := s13 _ _ ha
      have ht3 := ht.same s13
      have nDa : D ≠ a := fun z => by rw [z, ha1] at nD; cases nD
      have nDe : D ≠ e := fun z => by rw [z, s1 _ _ he] at nD; cases nD
      have nbe : ∀ b ∈ bs, b.1 ≠ e := fun b hb z => by
        have h2 := (nb b hb).1
        rw [z, s1 _ _ he] at h2
        cases h2
      have nbH : ∀ b ∈ bs, H b.1 = none := fun b hb => s1.free (nb b hb).1
      refine ⟨fun σ' H' => σ' = [some (.ref a), some (.ref o), some (.ref D), none] ∧ ∃ rs' ss', (bs = [] → rs'.Perm (rs ++ [xs]) ∧ rs'.Pairwise (· ≤ ·) ∧ ss' = ss ++ [rs]) ∧ (bs ≠ [] → rs' = rs ∧ ss' = ss) ∧ LsAt C_Lister H' a e (D :: (bs.map (·.1) ++ X)) w n d rs' ss' ∧ RP H' D bs ∧ KpL a e H H', ?_, fun σ' H' hM => ?_⟩
      · refine ⟨_, rfl, D, _, rfl, .inl (SqL.of hb.1), rfl, _, rfl, ite2 (fun z => ?_) (fun z => ?_)⟩
        · have eb0 : bs = [] := by
            have z2 := V.int.inj (of_decide_eq_true z)
            rw [List.length_map] at z2
            exact List.eq_nil_of_length_eq_zero (by omega)
          refine ⟨_, rfl, a, dx, _, rfl, ha3, fl_no (by decide +kernel) (by decide +kernel) (by decide +kernel) (by decide +kernel) (by decide +kernel), ?_⟩
          refine ⟨_, rfl, a, _, dx, _, _, rfl, ha3, T_Lister.cl, T_Lister.nT, fl_t, _, rfl, o, _, rfl, .inl (SqL.of (s13 _ _ ho)), fun c nc => ?_⟩
          have s5 := same_new (o := .lst (xs.map V.int)) nc
          refine ⟨(by show 1 ≤ sizeLine; decide), fun u nu => ?_⟩
          have s6 := same_new (o := .lst [V.ref c]) nu
          refine ⟨t, u, _, _, rfl, rfl, s6 _ _ (s5 _ _ ht3.1), upd_same, ?_, fun v nv => ?_⟩
          · refine Nat.le_of_lt (line_lt ?_)
            rw [List.length_map]
            show _ + 1 < _
            omega
          have s7 := same_new (o := .lst (ps.map (fun p => V.ref p.1) ++ [V.ref c])) nv
          have ev : ps.map (fun p => V.ref p.1) ++ [V.ref c] = (ps ++ [(c, xs)]).map fun p => V.ref p.1 := by
            rw [List.map_append]
            rfl
          have hall : ∀ p ∈ ps ++ [(c, xs)], (upd (upd (upd H3 c (.lst (xs.map V.int))) u (.lst [V.ref c])) v (.lst (ps.map (fun p => V.ref p.1) ++ [V.ref c]))) p.1 = some (.lst (p.2.map V.int)) := fun p hp => by
            rcases List.mem_append.mp hp with hp | hp
            · exact s7 _ _ (s6 _ _ (s5 _ _ (ht3.2 p hp)))
            · rw [List.mem_singleton.mp hp]
              exact s7 _ _ (s6 _ _ upd_same)
          refine ⟨v, ps ++ [(c, xs)], rfl, by rw [← ev]; exact SqL.of upd_same, fun p hp => dp_list (hall p hp), fun y ny => ?_⟩
          have s8 := same_new (o := .lst ((rowsR (ps ++ [(c, xs)])).map fun p => V.ref p.1)) ny
          have s58 := s5.trans (s6.trans (s7.trans s8))
          have he3 := s13 _ _ he
          have nHX : ∀ {b : Addr} {G : Hp}, Same H3 G → G b = none → b ∉ D :: (bs.map (·.1) ++ X) := fun sG h hm => by
            obtain ⟨o, ho⟩ := L3.tr _ hm
            rw [sG _ _ ho] at h
            cases h
          refine ⟨a, e, y, _, w, n, d, rs, ss, rowsR (ps ++ [(c, xs)]), rfl, L3.same s58, ⟨upd_same, fun p hp => s8 _ _ (hall p ((rowsR_perm _).mem_iff.mp hp))⟩, nHX (s5.trans (s6.trans s7)) ny, fun p hp => ?_, fun r hr => ?_, hz, fun H' L' k' => ?_⟩
          · rcases List.mem_append.mp ((rowsR_perm _).mem_iff.mp hp) with hp | hp
            · exact ntr (ht1.2 p hp) (npX p hp)
            · rw [List.mem_singleton.mp hp]
              exact nHX (Same.refl _) nc
          · obtain ⟨p, hp, rfl⟩ := List.mem_map.mp hr
            rcases List.mem_append.mp ((rowsR_perm _).mem_iff.mp hp) with hp | hp
            · exact L.ord _ (by rw [← ert]; exact List.mem_map_of_mem hp)
            · rw [List.mem_singleton.mp hp]
              exact hx
          · have kk := (KpL.of_same (a := a) (e := e) s58).trans k'
            refine ⟨rfl, _, _, fun _ => ⟨?_, rowsR_sorted _, rfl⟩, fun z2 => absurd eb0 z2, L', hb.kpl kk ha3 nDe nbe, (KpL.of_same s13).trans kk⟩
            have := rws_perm (rowsR_perm (ps ++ [(c, xs)]))
            rw [show rws (ps ++ [(c, xs)]) = rs ++ [xs] by rw [← ert]; show List.map _ _ = _; rw [List.map_append]; rfl] at this
            exact this
        · have nb0 : bs ≠ [] := fun z2 => z (by rw [z2]; rfl)
          exact ⟨rfl, rs, ss, fun z2 => absurd z2 nb0, fun _ => ⟨rfl, rfl⟩, L3, hb, KpL.of_same s13⟩
      · obtain ⟨rfl, rs', ss', c1, c2, L', hb', kk⟩ := hM
        exact ⟨_, rfl, q D bs rs' ss' H' eb c1 c2 ⟨hb', nHD, nbH⟩ L' kk⟩
end
end Fo
namespace Fo
open PySem PySem.Spec PyProof.Rows L2
/-! how far apart the nearest two are, of any orders -/
def prs (w : Str) (rs : List (List Int)) : Nat → List Int
  | 0 => []
  | i + 1 => prs w rs i ++ (match rs[i]? with
    | some x => (rs.take i).map (farW w x)
    | none => [])
theorem prs_at {w : Str} {rs : List (List Int)} {i : Nat} {x : List Int} (h : rs[i]? = some x) : prs w rs (i + 1) = prs w rs i ++ (rs.take i).map (farW w x) := by
  show _ ++ (match rs[i]? with | some x => (rs.take i).map (farW w x) | none => []) = _
  rw [h]
theorem prs_len {w : Str} {rs : List (List Int)} : ∀ i, (prs w rs i).length ≤ i * i
  | 0 => Nat.le_refl _
  | i + 1 => by
    have ih := prs_len (w := w) (rs := rs) i
    cases h : rs[i]? with
    | none =>
      show (prs w rs i ++ (match rs[i]? with | some x => (rs.take i).map (farW w x) | none => [])).length ≤ _
      rw [h, List.append_nil]
      exact Nat.le_trans ih (Nat.mul_le_mul (Nat.le_succ _) (Nat.le_succ _))
    | some x =>
      rw [prs_at h, List.length_append, List.length_map, List.length_take]
      have : (i + 1) * (i + 1) = i * i + 2 * i + 1 := by rw [Nat.add_mul, Nat.mul_add]; omega
      omega
theorem cut_take (xs : List V) (i : Nat) : cutV xs none (some (i : Int)) = xs.take i := by
  unfold cutV
  rw [HT.sIx_none, HT.sIx_nat]
  by_cases h : i ≤ xs.length
  · rw [Nat.min_eq_left h]
    simp
  · rw [Nat.min_eq_right (by omega)]
    simp
    rw [List.take_of_length_le (by omega)]
def spLeastL (C : Addr) : Sp := fun vs H Q _ => ∃ (a e : Addr) (X : List Addr) (w : Str) (n : Nat) (d : Int) (rs : List (List Int)) (ss : List (List (List Int))), vs = [.ref a] ∧ LsAt C H a e X w n d rs ss ∧ rs.length ≤ 120 ∧
  (prs w rs rs.length = [] → ∀ H', Same H H' → Q .non H') ∧ ∀ m H', Same H H' → m ∈ prs w rs rs.length → (∀ y ∈ prs w rs rs.length, m ≤ y) → Q (.int m) H'
section
variable {P : Program} {w : World} {K : PySem.W.Frag} {mg : Str → Option Value} {base : Heap}
theorem scLeastL : FnScope ["self", "place", "order", "other"] ["self"] (defScope s_Lister_least_apart) := ⟨rfl, rfl, rfl, by decide +kernel, rfl, by decide +kernel, by decide +kernel⟩
set_option maxHeartbeats 2000000 in
theorem ok_leastL {C_Lister fI f f1 : Addr} {fd d1 : FuncData} {k : Nat} (T : Dm K C_Lister "least_apart" "Lister.least_apart" s_Lister_least_apart ["self"] f fd) (T_Lister : TxL K mg C_Lister fI) (T_known_far : Df K mg "known_far" s_known_far ["way", "one", "other"] f1 d1) (G_known_far : FnOk P w K mg base CX0 k f1 d1 ["way", "one", "other"] spFar) (B : Bi mg) : FnOk P w K mg base CX0 (k + 1) f fd ["self"] (spLeastL C_Lister) := by
  refine T.F.ok scLeastL (fun vs H Q E h => ?_) (fun cdv A outer s H vs Q E hr h => ?_)
  · obtain ⟨a, e, X, w, n, d, rs, ss, rfl, _⟩ := h
    rfl
  · obtain ⟨a, e, X, w, n, d, rs, ss, rfl, L, hrl, q1, q2⟩ := h
    obtain ⟨dx, t, ps, st, ha, he, ht, ert, _⟩ := L.ex
    have hn8 := L.n2
    have hpl : ps.length = rs.length := by rw [← ert, List.length_map]
    refine ⟨_, 
      (pss_one (ps_ret (pe_minDef hr.units rfl (by rfl) B.min (pe_lc2 (own := [("place", 1), ("order", 2), ("other", 3)]) (vs1 := [3]) (wi1 := iList K (tSl (rSlL K) (tFld K (tVar 0) "taken") tNoPart (tPart (tVar 1)))) (g := (gTup K 2 (gCons (gName 1) (gCons (gName 2) gNil)))) (tt := tYes) (g1 := (gName 3)) (tt1 := tYes) (te := (tCall spFar [] E0 (tCons (tFld K (tVar 0) "way") (tCons (tVar 2) (tCons (tVar 3) tNil))))) rfl scLeastL.nd (pi_enum (by rfl) B.enumerate (pa_cons (pe_fld (pv 0) rfl) pa_nil)) (blkOk_by (N := ["self", "place", "order", "other"]) (sc := defScope s_Lister_least_apart) (by decide +kernel)) (by decide) (fun _ _ _ _ _ => (pg_tup (by rfl) (pgs_cons (pg_name (i := 1) scLeastL.nd rfl (.inl rfl)) (pgs_cons (pg_name (i := 2) scLeastL.nd rfl (.inl rfl)) pgs_nil)))) (fun _ _ _ _ _ => pts_nil) (fun _ _ _ _ _ => (pi_list (pe_slice sl_list (pe_fld (pv 0) rfl) po_none (po_some (pv 1))))) (fun _ _ _ _ _ => (pg_name (i := 3) scLeastL.nd rfl (.inl rfl))) (fun _ _ _ _ _ => pts_nil) (fun _ _ _ _ _ => (pe_call G_known_far hr (by rfl) T_known_far.g T_known_far.F.kp T_known_far.b .nil pass0 (pa_cons (pe_fld (pv 0) rfl) (pa_cons (pv 2) (pa_cons (pv 3) pa_nil)))))) pe_non))), ?_⟩
    refine ⟨_, rfl, a, _, dx, _, _, rfl, ha, T_Lister.cl, T_Lister.nT, fl_t, t, _, rfl, SqL.of ht.1, fun D nD => ?_⟩
    refine ⟨fun i m G => m = rs.length - i ∧ i ≤ rs.length ∧ G D = some (.lst ((prs w rs i).map V.int)) ∧ Same H G, ⟨_, rfl, Nat.zero_le _, upd_same, same_new nD⟩, fun i m G hM => ?_⟩
    obtain ⟨rfl, hi, hD, sm⟩ := hM
    by_cases hlt : i < rs.length
    · have hps : i < ps.length := by omega
      refine .inr ⟨⟨_, (ps.map fun p => V.ref p.1)[i]'(by rw [List.length_map]; exact hps), SqL.of (sm _ _ ht.1), by simp [hps]⟩, fun G => G D = some (.lst ((prs w rs (i + 1)).map V.int)) ∧ Same H G, fun G p => ⟨rs.length - (i + 1), by omega, rfl, hlt, p.1, p.2⟩, fun x G' y => ?_⟩
      obtain ⟨T0, x', rfl, nT, rfl, f1⟩ := y
      obtain ⟨p, ep, rfl, hp⟩ := (ht.same sm).at (f1 _ (SqL.of (sm _ _ ht.1)))
      have er : rs[i]? = some p.2 := by rw [← ert]; exact rws_at ep
      have s1 := same_new (o := .tup [.int (i : Nat), .ref p.1]) nT
      have sm1 := sm.trans s1
      refine ⟨T0, _, rfl, .inl (.inl upd_same), rfl, _, _, rfl, _, _, rfl, rfl, rfl, ?_⟩
      refine ⟨_, rfl, a, _, dx, _, _, rfl, sm1 _ _ ha, T_Lister.cl, T_Lister.nT, fl_t, _, rfl, _, rfl, t, _, rfl, SqL.of (sm1 _ _ ht.1), fun c nc => ?_⟩
      rw [cut_take]
      have s2 := same_new (o := .lst ((ps.map fun p => V.ref p.1).take i)) nc
      have sm2 := sm1.trans s2
      have ncD : c ≠ D := fun z => by rw [z, s1 _ _ hD] at nc; cases nc
      refine ⟨c, rfl, ⟨_, SqL.of upd_same⟩, ?_⟩
      refine ⟨fun j k G => k = i - j ∧ j ≤ i ∧ G D = some (.lst ((prs w rs i ++ (rs.take j).map (farW w p.2)).map V.int)) ∧ G c = some (.lst ((ps.map fun p => V.ref p.1).take i)) ∧ Same H G, ⟨_, rfl, Nat.zero_le _, by rw [List.take_zero, List.map_nil, List.append_nil]; exact s2 _ _ (s1 _ _ hD), upd_same, sm2⟩, fun j k G hM => ?_⟩
      obtain ⟨rfl, hj, hD3, hc3, sm3⟩ := hM
      by_cases hlj : j < i
      · have hpj : j < ps.length := by omega
        refine .inr ⟨⟨_, ((ps.map fun p => V.ref p.1).take i)[j]'(by rw [List.length_take, List.length_map]; omega), SqL.of hc3, List.getElem?_eq_getElem _⟩, fun G => G D = some (.lst ((prs w rs i ++ (rs.take (j + 1)).map (farW w p.2)).map V.int)) ∧ G c = some (.lst ((ps.map fun p => V.ref p.1).take i)) ∧ Same H G, fun G p => ⟨i - (j + 1), by omega, rfl, hlj, p⟩, fun x G' y => ?_⟩
        obtain ⟨e0, y⟩ := y
        subst e0
        have hx := y _ (SqL.of hc3)
        rw [List.getElem?_take_of_lt hlj] at hx
        obtain ⟨r, eqr, rfl, hr3⟩ := (ht.same sm3).at hx
        have er2 : rs[j]? = some r.2 := by rw [← ert]; exact rws_at eqr
        refine ⟨rfl, _, rfl, a, _, dx, _, _, rfl, sm3 _ _ ha, T_Lister.cl, T_Lister.nW, fl_w, _, rfl, _, rfl, w, p.1, r.1, n, p.2, r.2, rfl, L.wy, sm3 _ _ (ht.2 p (List.mem_of_getElem? ep)), hr3, L.ord _ (List.mem_of_getElem? er), L.ord _ (List.mem_of_getElem? er2), L.n1, by omega, fun G4 s4 => ?_⟩
        have hl1 := prs_len (w := w) (rs := rs) i
        have hsq : i * i ≤ 120 * 120 := Nat.mul_le_mul (by omega) (by omega)
        refine ⟨_, s4 _ _ hD3, line_lt ?_, by rw [upd_same, take_p er2]; simp [List.map_append, List.append_assoc], by rw [upd_ne ncD]; exact s4 _ _ hc3, fun b o hb => ?_⟩
        · rw [List.length_map, List.length_append, List.length_map, List.length_take]
          omega
        · rw [upd_ne (ne_of_none hb nD)]
          exact s4 _ _ (sm3 _ _ hb)
      · obtain rfl : j = i := by omega
        refine .inl ⟨⟨_, SqL.of hc3, by rw [List.length_take]; exact Nat.min_le_left _ _⟩, ?_, sm3⟩
        rw [prs_at er]
        exact hD3
    · obtain rfl : i = rs.length := by omega
      refine .inl ⟨⟨_, SqL.of (sm _ _ ht.1), by rw [List.length_map]; omega⟩, D, _, rfl, rfl, SqL.of hD, fun z => q1 z _ sm, fun m hm hle => q2 m _ sm hm hle⟩
end
end Fo
namespace Fo
open PySem PySem.Spec PyProof.Rows L2
/-! k73: the law's own lists, beside a Lister -/
def srt (rs : List (List Int)) : List (List Int) := (rowsR (rs.map fun r => ((0 : Addr), r))).map (·.2)
theorem srt_perm (rs : List (List Int)) : (srt rs).Perm rs := by
  have h := (rowsR_perm (rs.map fun r => ((0 : Addr), r))).map (·.2)
  rw [List.map_map] at h
  have e : rs.map ((·.2) ∘ fun r => ((0 : Addr), r)) = rs := List.map_id _
  rw [e] at h
  exact h
theorem srt_nil : srt [] = [] := List.eq_nil_of_length_eq_zero (by rw [(srt_perm []).length_eq]; rfl)
theorem srt_sorted (rs : List (List Int)) : (srt rs).Pairwise (· ≤ ·) := rowsR_sorted _
theorem srt_eq {a rs : List (List Int)} (hp : a.Perm rs) (ha : a.Pairwise (· ≤ ·)) : a = srt rs := rowsP_eq (hp.trans (srt_perm rs).symm) ha (srt_sorted rs)
theorem erase_filter {x : List Int} : ∀ {l : List (List Int)} {j : Nat}, l.Nodup → l[j]? = some x → l.eraseIdx j = l.filter fun r => !decide (r = x)
  | [], _, _, h => by simp at h
  | y :: l, 0, hn, h => by
    obtain rfl : y = x := Option.some.inj h
    obtain ⟨h1, h2⟩ := List.nodup_cons.mp hn
    rw [List.filter_cons, if_neg (by simp), List.eraseIdx_cons_zero]
    exact (List.filter_eq_self.mpr fun r hr => by
      have : r ≠ y := fun z => h1 (z ▸ hr)
      simp [this]).symm
  | y :: l, j + 1, hn, h => by
    obtain ⟨h1, h2⟩ := List.nodup_cons.mp hn
    have hx : l[j]? = some x := by simpa using h
    have ne : y ≠ x := fun z => h1 (z ▸ List.mem_of_getElem? hx)
    rw [List.filter_cons, if_pos (by simp [ne]), List.eraseIdx_cons_succ, erase_filter h2 hx]
theorem LsAt.out {C : Addr} {H H' : Hp} {a e y : Addr} {X : List Addr} {w : Str} {n : Nat} {d : Int} {rs : List (List Int)} {ss : List (List (List Int))} (L : LsAt C H a e X w n d rs ss) (k : ∀ b o, H b = some o → b ≠ y → H' b = some o) (hy : y ∈ X) (ha : a ≠ y) (he : e ≠ y) (ty : ∃ o, H' y = some o) : LsAt C H' a e X w n d rs ss := by
  obtain ⟨⟨dx, t, ps, st, e1, e2, e3, e4, e5, e6, eX, tX, pX, sX⟩, tr, r⟩ := L
  have rk : ∀ {t : Addr} {ps : List (Addr × List Int)}, RP H t ps → t ∉ X → (∀ p ∈ ps, p.1 ∉ X) → RP H' t ps := fun h h1 h2 => ⟨k _ _ h.1 fun z => h1 (z ▸ hy), fun p hp => k _ _ (h.2 p hp) fun z => h2 p hp (z ▸ hy)⟩
  refine ⟨⟨dx, t, ps, st, k _ _ e1 ha, k _ _ e2 he, rk e3 tX pX, e4, fun q hq => rk (e5 q hq) (sX q hq).1 (sX q hq).2, e6, eX, tX, pX, sX⟩, fun x hx => ?_, by assumption, by assumption, by assumption, by assumption, by assumption, by assumption⟩
  by_cases c : x = y
  · exact c ▸ ty
  · obtain ⟨o, ho⟩ := tr x hx
    exact ⟨o, k x o ho c⟩
theorem LsAt.sub {C : Addr} {H : Hp} {a e : Addr} {X X' : List Addr} {w : Str} {n : Nat} {d : Int} {rs : List (List Int)} {ss : List (List (List Int))} (L : LsAt C H a e X w n d rs ss) (h : ∀ x ∈ X', x ∈ X) (he : e ∈ X') : LsAt C H a e X' w n d rs ss := by
  obtain ⟨⟨dx, t, ps, st, e1, e2, e3, e4, e5, e6, eX, tX, pX, sX⟩, tr, r⟩ := L
  exact ⟨⟨dx, t, ps, st, e1, e2, e3, e4, e5, e6, he, fun z => tX (h _ z), fun p hp z => pX p hp (h _ z), fun q hq => ⟨fun z => (sX q hq).1 (h _ z), fun p hp z => (sX q hq).2 p hp (h _ z)⟩⟩, fun x hx => tr x (h x hx), by assumption, by assumption, by assumption, by assumption, by assumption, by assumption⟩
theorem LsAt.grow {C : Addr} {H H' : Hp} {a e y : Addr} {X : List Addr} {w : Str} {n : Nat} {d : Int} {rs : List (List Int)} {ss : List (List (List Int))} (L : LsAt C H a e X w n d rs ss) (s : Same H H') (ny : H y = none) (ty : ∃ o, H' y = some o) : LsAt C H' a e (y :: X) w n d rs ss := by
  obtain ⟨⟨dx, t, ps, st, e1, e2, e3, e4, e5, e6, eX, tX, pX, sX⟩, tr, r⟩ := L
  have ne : ∀ {b : Addr} {o : HO}, H b = some o → b ∉ X → b ∉ y :: X := fun {b o} h1 h2 z => by
    rcases List.mem_cons.mp z with z | z
    · rw [z, ny] at h1
      cases h1
    · exact h2 z
  refine ⟨⟨dx, t, ps, st, s _ _ e1, s _ _ e2, e3.same s, e4, fun q hq => (e5 q hq).same s, e6, List.mem_cons_of_mem _ eX, ne e3.1 tX, fun p hp => ne (e3.2 p hp) (pX p hp), fun q hq => ⟨ne (e5 q hq).1 (sX q hq).1, fun p hp => ne ((e5 q hq).2 p hp) ((sX q hq).2 p hp)⟩⟩, fun x hx => ?_, by assumption, by assumption, by assumption, by assumption, by assumption, by assumption⟩
  rcases List.mem_cons.mp hx with rfl | hx
  · exact ty
  · exact (tr x hx).imp fun o h => s _ _ h
theorem LsAt.obj {C : Addr} {H : Hp} {a e : Addr} {w : Str} {n : Nat} {d : Int} {rs : List (List Int)} {ss : List (List (List Int))} {X : List Addr} (L : LsAt C H a e X w n d rs ss) (m : Str) (h1 : (m == "way") = false) (h2 : (m == "n") = false) (h3 : (m == "d") = false) (h4 : (m == "taken") = false) (h5 : (m == "earlier") = false) : ∃ dx fs, H a = some (.ins C dx fs) ∧ fs.lookup m = none := by
  obtain ⟨dx, t, ps, st, ha, _⟩ := L.ex
  exact ⟨dx, _, ha, fl_no h1 h2 h3 h4 h5⟩
theorem row_srt (ps : List (Addr × List Int)) : rws (rowsR ps) = srt (rws ps) := srt_eq ((rowsR_perm ps).map _) (rowsR_sorted ps)
end Fo
namespace Fo
open PySem PySem.Spec PyProof.Rows L2
/-! what stays where tables of code objects may grow -/
def KeepT (H H' : Hp) : Prop := (∀ b o, H b = some o → (∀ q, o ≠ .tbl q) → H' b = some o) ∧ ∀ b q, H b = some (.tbl q) → ∃ q', H' b = some (.tbl q') ∧ (TriplesOk q.toList → TriplesOk q'.toList)
theorem KeepT.refl (H : Hp) : KeepT H H := ⟨fun _ _ e _ => e, fun _ q e => ⟨q, e, id⟩⟩
theorem KeepT.of_same {H H' : Hp} (h : Same H H') : KeepT H H' := ⟨fun b o e _ => h b o e, fun b q e => ⟨q, h b _ e, id⟩⟩
theorem KeepT.trans {H H1 H2 : Hp} (a : KeepT H H1) (b : KeepT H1 H2) : KeepT H H2 := by
  refine ⟨fun c o e f => b.1 c o (a.1 c o e f) f, fun c q e => ?_⟩
  obtain ⟨q1, e1, t1⟩ := a.2 c q e
  obtain ⟨q2, e2, t2⟩ := b.2 c q1 e1
  exact ⟨q2, e2, fun z => t2 (t1 z)⟩
theorem KeepT.free {H H' : Hp} (a : KeepT H H') {p : Addr} (np : H' p = none) : H p = none := by
  cases e : H p with
  | none => rfl
  | some o =>
    cases o with
    | tbl q =>
      obtain ⟨q', e', _⟩ := a.2 p q e
      rw [np] at e'
      cases e'
    | _ =>
      have z := a.1 p _ e (fun q z => by cases z)
      rw [np] at z
      cases z
theorem KeepT.lst {H H' : Hp} (a : KeepT H H') {p : Addr} {xs : List V} (e : H p = some (.lst xs)) : H' p = some (.lst xs) := a.1 p _ e (fun q z => by cases z)
theorem KeepT.seq {K : PySem.W.Frag} {H H' : Hp} (a : KeepT H H') {p : Addr} {xs : List V} (e : SqL K H p xs) : SqL K H' p xs := by
  rcases e with (e | ⟨o, e⟩) | e
  · exact .inl (.inl (a.1 p _ e (fun q z => by cases z)))
  · exact .inl (.inr ⟨o, a.1 p _ e (fun q z => by cases z)⟩)
  · exact .inr e
theorem KeepT.tab {H H' : Hp} (a : KeepT H H') {P : Addr} (t : GxR.TabG H P) : GxR.TabG H' P := by
  obtain ⟨q, e, z⟩ := t
  obtain ⟨q', e', t'⟩ := a.2 P q e
  exact ⟨q', e', t' z⟩
theorem LL.keepT {H H' : Hp} {as : List Addr} {rs : List (List Int)} (h : LL H as rs) (s : KeepT H H') : LL H' as rs := by
  induction as generalizing rs with
  | nil => cases rs with
    | nil => trivial
    | cons _ _ => exact h.elim
  | cons a as ih => cases rs with
    | nil => exact h.elim
    | cons r rs => exact ⟨s.lst h.1, ih h.2⟩
/-- a def with the code object that it runs by -/
structure DfC (K : PySem.W.Frag) (mg : Str → Option Value) (x : Str) (st : Stmt) (ps : List Str) (f : Addr) (fd : FuncData) (c : Addr) : Prop where
  F : Fun K x x st f fd
  b : Binds K fd ps []
  g : mg x = some (.ref f)
  c : fd.code = .ref c
theorem fun_okC {P : Program} {w : World} {K : PySem.W.Frag} {mg : Str → Option Value} {base : Heap} {x qual : Str} {st : Stmt} {f c : Addr} {fd : FuncData} {N ps : List Str} {k : Nat} {sp : Sp} (F : Fun K x qual st f fd) (hc : fd.code = .ref c) (S : FnScope N ps (defScope st))
    (len : ∀ vs H Q E, sp vs H Q E → vs.length = ps.length)
    (body : ∀ (A : Around) (outer : List Env) (s : Shared) (H : Hp) (vs : List V) (Q : VK) (E : XK), Room k (A.deeper (envOfC qual (defScope st) s.heap.objs.size f (.ref c))) → sp vs H Q E →
      ∃ t, PSs (cxOf CX0 P w K mg base N qual (defScope st) f (.ref c) A outer s H E).nox (defBody st) t ∧ t { nx := fun _ H' => Q .non H', rt := Q } (start N vs) H) : FnOk P w K mg base CX0 (k + 1) f fd ps sp := by
  obtain ⟨oc, od, kV, doc, pm, an, cdv, ct, osl, rfl, lk, hcd⟩ := F.ex
  obtain rfl : cdv = .ref c := hc
  refine fn_of lk hcd S len fun A outer s H vs Q E hr hsp => ?_
  obtain ⟨t, h1, h2⟩ := body A outer s H vs Q E hr hsp
  exact ⟨t, h1.nox, h2⟩
end Fo
namespace Fo
open PySem PySem.Spec PyProof.Rows L2
/-- what is never called -/
def spNev : Sp := fun _ _ _ _ => False
section
variable {P : Program} {w : World} {K : PySem.W.Frag} {mg : Str → Option Value} {base : Heap}
theorem scNv_counts_ahead : FnScope ["poll", "things", "places", "order", "i", "j", "seats"] ["poll"] (defScope s_counts_ahead) := ⟨rfl, rfl, rfl, by decide +kernel, rfl, by decide +kernel, by decide +kernel⟩
theorem ok_nv_counts_ahead {f : Addr} {fd : FuncData} {k : Nat} (T : Df K mg "counts_ahead" s_counts_ahead ["poll"] f fd) : FnOk P w K mg base CX0 (k + 1) f fd ["poll"] spNev :=
  T.F.ok scNv_counts_ahead (fun _ _ _ _ h => h.elim) (fun _ _ _ _ _ _ _ _ _ h => h.elim)
theorem scNv_middle_by_pairs : FnScope ["ahead", "sums", "left", "order", "thing"] ["ahead"] (defScope s_middle_by_pairs) := ⟨rfl, rfl, rfl, by decide +kernel, rfl, by decide +kernel, by decide +kernel⟩
theorem ok_nv_middle_by_pairs {f : Addr} {fd : FuncData} {k : Nat} (T : Df K mg "middle_by_pairs" s_middle_by_pairs ["ahead"] f fd) : FnOk P w K mg base CX0 (k + 1) f fd ["ahead"] spNev :=
  T.F.ok scNv_middle_by_pairs (fun _ _ _ _ h => h.elim) (fun _ _ _ _ _ _ _ _ _ h => h.elim)
theorem scNv_middle_by_all : FnScope ["way", "poll", "n", "least", "best", "order", "far"] ["way", "poll", "n"] (defScope s_middle_by_all) := ⟨rfl, rfl, rfl, by decide +kernel, rfl, by decide +kernel, by decide +kernel⟩
theorem ok_nv_middle_by_all {f : Addr} {fd : FuncData} {k : Nat} (T : Df K mg "middle_by_all" s_middle_by_all ["way", "poll", "n"] f fd) : FnOk P w K mg base CX0 (k + 1) f fd ["way", "poll", "n"] spNev :=
  T.F.ok scNv_middle_by_all (fun _ _ _ _ h => h.elim) (fun _ _ _ _ _ _ _ _ _ h => h.elim)
theorem scNv_all_orders : FnScope ["n"] ["n"] (defScope s_all_orders) := ⟨rfl, rfl, rfl, by decide +kernel, rfl, by decide +kernel, by decide +kernel⟩
theorem ok_nv_all_orders {f : Addr} {fd : FuncData} {k : Nat} (T : Df K mg "all_orders" s_all_orders ["n"] f fd) : FnOk P w K mg base CX0 (k + 1) f fd ["n"] spNev :=
  T.F.ok scNv_all_orders (fun _ _ _ _ h => h.elim) (fun _ _ _ _ _ _ _ _ _ h => h.elim)
theorem scNv_those_within : FnScope ["way", "order", "orders", "r", "other"] ["way", "order", "orders", "r"] (defScope s_those_within) := ⟨rfl, rfl, rfl, by decide +kernel, rfl, by decide +kernel, by decide +kernel⟩
theorem ok_nv_those_within {f : Addr} {fd : FuncData} {k : Nat} (T : Df K mg "those_within" s_those_within ["way", "order", "orders", "r"] f fd) : FnOk P w K mg base CX0 (k + 1) f fd ["way", "order", "orders", "r"] spNev :=
  T.F.ok scNv_those_within (fun _ _ _ _ h => h.elim) (fun _ _ _ _ _ _ _ _ _ h => h.elim)
theorem scNv_is_far : FnScope ["way", "d", "order", "others", "other"] ["way", "d", "order", "others"] (defScope s_is_far) := ⟨rfl, rfl, rfl, by decide +kernel, rfl, by decide +kernel, by decide +kernel⟩
theorem ok_nv_is_far {f c0 : Addr} {fd : FuncData} {k : Nat} (T : DfC K mg "is_far" s_is_far ["way", "d", "order", "others"] f fd c0) : FnOk P w K mg base CX0 (k + 1) f fd ["way", "d", "order", "others"] spNev :=
  fun_okC T.F T.c scNv_is_far (fun _ _ _ _ h => h.elim) (fun _ _ _ _ _ _ _ _ h => h.elim)
end
end Fo
namespace Fo
open PySem PySem.Spec PyProof.Rows L2
/-- a list of orders of n things -/
structure OL (H : Hp) (l : Addr) (as : List Addr) (rs : List (List Int)) (n : Nat) : Prop where
  top : H l = some (.lst (as.map V.ref))
  ll : LL H as rs
  ord : ∀ r ∈ rs, IsOrd n r
  n1 : 1 ≤ n
  n2 : n ≤ 12
theorem OL.same {H H' : Hp} {l : Addr} {as : List Addr} {rs : List (List Int)} {n : Nat} (h : OL H l as rs n) (s : Same H H') : OL H' l as rs n := ⟨s _ _ h.top, h.ll.same s, h.ord, h.n1, h.n2⟩
theorem OL.keepD {H H' : Hp} {l d : Addr} {as : List Addr} {rs : List (List Int)} {n : Nat} (h : OL H l as rs n) (s : KeepD d H H') (nl : l ≠ d) (na : d ∉ as) : OL H' l as rs n :=
  ⟨s _ _ h.top nl, h.ll.keep fun a ha o e => s a o e (fun q => na (by rw [← q]; exact ha)), h.ord, h.n1, h.n2⟩
end Fo
namespace Fo
open PySem PySem.Spec PyProof.Rows L2
/-- the numbers of a list of numbers -/
def intsD : PyData → List Int
  | .list ds => ds.filterMap fun x => match x with | .int i => some i | _ => none
  | _ => []
theorem intsD_of (ns : List Int) : intsD (.list (ns.map PyData.int)) = ns := by
  show List.filterMap _ (ns.map PyData.int) = ns
  rw [List.filterMap_map]
  induction ns with
  | nil => rfl
  | cons x r ih => rw [List.filterMap_cons]; show x :: _ = x :: r; rw [show List.filterMap _ r = r from ih]
theorem good_ints {d : PyData} (g : GoodD d) : d = .list ((intsD d).map PyData.int) ∧ IsOrd (intsD d).length (intsD d) ∧ 1 ≤ (intsD d).length ∧ (intsD d).length ≤ 12 := by
  obtain ⟨ns, rfl, h1, h2, h3⟩ := g
  rw [intsD_of]
  exact ⟨rfl, h1, h2, h3⟩
theorem good_atD {H : Hp} {v : V} {d : PyData} (h : Dq H v d) (g : GoodD d) : ∃ (a : Addr), v = .ref a ∧ H a = some (.lst ((intsD d).map V.int)) := by
  obtain ⟨ns, rfl, h1, h2, h3⟩ := g
  rw [intsD_of]
  cases h with
  | @lst a xs _ e al =>
    have := dq_intsV al
    subst this
    exact ⟨a, rfl, e⟩
theorem good_ll {H : Hp} : ∀ {xs : List V} {ds : List PyData}, DqAll H xs ds → (∀ x ∈ ds, GoodD x) → ∃ as : List Addr, xs = as.map V.ref ∧ LL H as (ds.map intsD)
  | [], [], _, _ => ⟨[], rfl, trivial⟩
  | _ :: _, _ :: _, .cons h t, g => by
    obtain ⟨a, rfl, ha⟩ := good_atD h (g _ List.mem_cons_self)
    obtain ⟨as, rfl, hL⟩ := good_ll t fun x m => g x (List.mem_cons_of_mem _ m)
    exact ⟨a :: as, rfl, ha, hL⟩
end Fo
namespace Fo
open PySem PySem.Spec PyProof.Rows L2
/-! the good cases out of those of anything -/
theorem take_more' {α : Type} {l : List α} {i : Nat} {x : α} (h : l[i]? = some x) : l.take (i + 1) = l.take i ++ [x] := by
  rw [List.take_add_one, h]
  rfl
theorem ll_dq {H : Hp} : ∀ {as : List Addr} {rs : List (List Int)}, LL H as rs → DqAll H (as.map V.ref) (rs.map fun r => PyData.list (r.map PyData.int))
  | [], [], _ => .nil
  | _ :: _, _ :: _, h => .cons (dq_list h.1) (ll_dq h.2)
  | [], _ :: _, h => h.elim
  | _ :: _, [], h => h.elim
theorem ol_dq {H : Hp} {l : Addr} {as : List Addr} {rs : List (List Int)} {n : Nat} (h : OL H l as rs n) : Dq H (.ref l) (dLL rs) := .lst h.top (ll_dq h.ll)
theorem ol_old {H : Hp} {l : Addr} {as : List Addr} {rs : List (List Int)} {n : Nat} (h : OL H l as rs n) : OLd (dLL rs) := by
  refine ⟨_, rfl, fun x m => ?_, fun x mx y my => ?_⟩
  · obtain ⟨r, mr, rfl⟩ := List.mem_map.mp m
    have o := h.ord r mr
    have l := o.len
    exact ⟨r, rfl, by rw [l]; exact o, by have := h.n1; omega, by have := h.n2; omega⟩
  · obtain ⟨r, mr, rfl⟩ := List.mem_map.mp mx
    obtain ⟨r2, mr2, rfl⟩ := List.mem_map.mp my
    show (r.map PyData.int).length = (r2.map PyData.int).length
    rw [List.length_map, List.length_map, (h.ord r mr).len, (h.ord r2 mr2).len]
/-- unlike ones of as many things -/
def UnlD (d : PyData) : Prop := OLd d ∧ ∀ ds, d = .list ds → (ds.map intsD).Nodup
/-- one to 120 of them -/
def LiD (d : PyData) : Prop := UnlD d ∧ ∀ ds, d = .list ds → 1 ≤ ds.length ∧ ds.length ≤ 120
def spOLst : Sp := fun vs H Q _ => ∃ (l : Addr) (as : List Addr) (rs : List (List Int)) (n : Nat), vs = [.ref l] ∧ OL H l as rs n ∧ rs.length ≤ 1000 ∧ ∀ H', Same H H' → Q (.bl true) H'
def spUnlD : Sp := fun vs H Q _ => ∃ (v : V) (d : PyData), vs = [v] ∧ Dq H v d ∧ (∀ ds, d = .list ds → ds.length ≤ 250) ∧ ∀ (b : Bool) (H' : Hp), (b = true ↔ UnlD d) → Same H H' → Q (.bl b) H'
def spCUX (cO : Addr) : Sp := fun vs H Q E => ∃ (v : V) (d : PyData), vs = [v] ∧ Dq H v d ∧ (∀ ds, d = .list ds → ds.length ≤ 250) ∧ (LiD d → ∀ H', Same H H' → Q .non H') ∧ (¬ LiD d → ∀ H', Same H H' → E (.ref cO) none H')
theorem perm_subG {α : Type} [DecidableEq α] : ∀ {a b : List α}, a.Nodup → (∀ x ∈ a, x ∈ b) → b.length ≤ a.length → a.Perm b
  | [], b, _, _, h => by
    have : b = [] := List.eq_nil_of_length_eq_zero (Nat.le_zero.mp h)
    rw [this]
  | x :: a, b, nd, sub, h => by
    have hx := sub x List.mem_cons_self
    have nx := (List.nodup_cons.mp nd).1
    have h1 := List.length_erase_of_mem hx
    rw [List.length_cons] at h
    refine List.Perm.trans (List.Perm.cons x (perm_subG (b := b.erase x) (List.nodup_cons.mp nd).2 (fun y hy => ?_) (by omega))) (List.perm_cons_erase hx).symm
    exact (List.mem_erase_of_ne (fun z => nx (by rw [← z]; exact hy))).mpr (sub y (List.mem_cons_of_mem _ hy))
theorem len_sub {α : Type} [DecidableEq α] {a b : List α} (nd : a.Nodup) (sub : ∀ x ∈ a, x ∈ b) : a.length ≤ b.length := by
  by_cases h : b.length ≤ a.length
  · rw [(perm_subG nd sub h).length_eq]
    exact Nat.le_refl _
  · omega
theorem nodup_lenG {α : Type} [DecidableEq α] {a b : List α} (nd : a.Nodup) (h : ∀ x, x ∈ a ↔ x ∈ b) : a.length = b.length ↔ b.Nodup := by
  constructor
  · intro e
    exact (perm_subG nd (fun x m => (h x).mp m) (by omega)).nodup_iff.mp nd
  · intro nb
    have h1 := len_sub nd fun x m => (h x).mp m
    have h2 := len_sub nb fun x m => (h x).mpr m
    omega
section
variable {P : Program} {w : World} {K : PySem.W.Frag} {mg : Str → Option Value} {base : Heap}
theorem fn_imp {CX : CXT} {k : Nat} {f : Addr} {fd : FuncData} {ps : List Str} {sp sp' : Sp} (F : FnOk P w K mg base CX k f fd ps sp) (h : ∀ vs H Q E, sp' vs H Q E → sp vs H Q E) : FnOk P w K mg base CX k f fd ps sp' :=
  ⟨fun vs H Q E z => F.len _ _ _ _ (h _ _ _ _ z), fun A outer s H args us vs Q E hr e0 hb hv hs => F.run A outer s H args us vs Q E hr e0 hb hv (h _ _ _ _ hs)⟩
theorem ok_olst52 {f : Addr} {fd : FuncData} {k : Nat} (T : Df K mg "is_order_list" s_is_order_list ["thing"] f fd) (G : FnOk P w K mg base CX0 k f fd ["thing"] spOLD) : FnOk P w K mg base CX0 k f fd ["thing"] spOLst := fn_imp G fun vs H Q E ⟨l, as, rs, n, e, hO, hl, q⟩ => ⟨_, _, e, ol_dq hO, fun ds e => by injection e with e; rw [← e, List.length_map]; omega, fun b H' hb s => by
  have hb2 : b = true := hb.mpr (ol_old hO)
  subst hb2
  exact q _ s⟩
end
end Fo
namespace Fo
open PySem PySem.Spec PyProof.Rows L2
/-! ### counts by shift: beginnings by the set of their things -/
def keysN (l : List (Nat × Int)) : List Nat := l.map (·.1)
def PosN (l : List (Nat × Int)) : Prop := ∀ p ∈ l, 0 < p.2
theorem nodupN_len : ∀ {l m : List Nat}, l.Nodup → (∀ x ∈ l, x ∈ m) → l.length ≤ m.length
  | [], m, _, _ => Nat.zero_le _
  | a :: l, m, hn, hs => by
    obtain ⟨h1, h2⟩ := List.nodup_cons.mp hn
    have ha := hs a List.mem_cons_self
    have ih := nodupN_len (l := l) (m := m.erase a) h2 fun x hx => by
      have ne : x ≠ a := fun e => h1 (by rw [← e]; exact hx)
      exact (List.mem_erase_of_ne ne).mpr (hs x (List.mem_cons_of_mem _ hx))
    rw [List.length_erase_of_mem ha] at ih
    have : 0 < m.length := List.length_pos_of_mem ha
    rw [List.length_cons]
    omega
/-- what holds of the beginnings: no key twice, keys below 2 ^ 12, each counted -/
structure GoodW (l : List (Nat × Int)) : Prop where
  nd : (keysN l).Nodup
  lt : ∀ k ∈ keysN l, k < 4096
  pos : PosN l
theorem GoodW.len {l : List (Nat × Int)} (h : GoodW l) : l.length ≤ 4096 := by
  have h1 : (keysN l).length ≤ (List.range 4096).length := by
    have hsub : ∀ x ∈ keysN l, x ∈ List.range 4096 := fun x hx => List.mem_range.mpr (h.lt x hx)
    exact nodupN_len h.nd hsub
  rw [List.length_range] at h1
  unfold keysN at h1
  rw [List.length_map] at h1
  exact h1
end Fo
namespace Fo
open PySem PySem.Spec PyProof.Rows L2
/-! what a Lister could take besides -/
theorem KeepT.rp {H H' : Hp} {t : Addr} {ps : List (Addr × List Int)} (k : KeepT H H') (h : RP H t ps) : RP H' t ps := ⟨k.lst h.1, fun p hp => k.lst (h.2 p hp)⟩
theorem LsAt.keepT {C : Addr} {H H' : Hp} {a e : Addr} {X : List Addr} {w : Str} {n : Nat} {d : Int} {rs : List (List Int)} {ss : List (List (List Int))} (h : LsAt C H a e X w n d rs ss) (k : KeepT H H') : LsAt C H' a e X w n d rs ss := by
  obtain ⟨⟨dx, t, ps, st, e1, e2, e3, e4, e5, e6, e7⟩, tr, r⟩ := h
  refine ⟨⟨dx, t, ps, st, k.1 _ _ e1 (fun q z => by cases z), k.lst e2, k.rp e3, e4, fun q hq => k.rp (e5 q hq), e6, e7⟩, fun x hx => ?_, by assumption, by assumption, by assumption, by assumption, by assumption, by assumption⟩
  obtain ⟨o, ho⟩ := tr x hx
  cases hn : H' x with
  | some o' => exact ⟨o', rfl⟩
  | none => rw [k.free hn] at ho; cases ho
theorem rws_LL {H : Hp} : ∀ {ps : List (Addr × List Int)}, (∀ p ∈ ps, H p.1 = some (.lst (p.2.map V.int))) → LL H (ps.map (·.1)) (rws ps)
  | [], _ => trivial
  | p :: ps, h => ⟨h p List.mem_cons_self, rws_LL fun q hq => h q (List.mem_cons_of_mem _ hq)⟩
theorem RP.two {H : Hp} {t : Addr} {ps : List (Addr × List Int)} (h : RP H t ps) : H t = some (.lst ((ps.map (·.1)).map V.ref)) ∧ LL H (ps.map (·.1)) (rws ps) := ⟨by rw [List.map_map]; exact h.1, rws_LL h.2⟩
end Fo
namespace Fo
open PySem PySem.Spec PyProof.Rows L2 PpSet
section
variable {P : Program} {w : World} {K : PySem.W.Frag} {mg : Str → Option Value} {base : Heap}
theorem scUnlD : FnScope ["thing", "order"] ["thing"] (defScope s_is_unlike_list) := ⟨rfl, rfl, rfl, by decide +kernel, rfl, by decide +kernel, by decide +kernel⟩
set_option maxHeartbeats 4000000 in
theorem ok_unlD {f f1 : Addr} {fd d1 : FuncData} {k : Nat} (T : Df K mg "is_unlike_list" s_is_unlike_list ["thing"] f fd) (T_is_order_list : Df K mg "is_order_list" s_is_order_list ["thing"] f1 d1) (G_is_order_list : FnOk P w K mg base CX0 k f1 d1 ["thing"] spOLD) (B : Bi mg) : FnOk P w K mg base CX0 (k + 1) f fd ["thing"] spUnlD := by
  refine T.F.ok scUnlD (fun vs H Q E h => ?_) (fun cdv A outer s H vs Q E hr h => ?_)
  · obtain ⟨v, d, rfl, _⟩ := h
    rfl
  · obtain ⟨v, d, rfl, hd, hlen, q⟩ := h
    refine ⟨_, 
      (pss_one (ps_ret (pe_and (pe_call G_is_order_list hr (by rfl) T_is_order_list.g T_is_order_list.F.kp T_is_order_list.b .nil pass0 (pa_cons (pv 0) pa_nil)) (pe_one (pe_cmpR op_eq (pe_callB call_lenST (by rfl) B.len PySem.boot_len (pa_cons (pe_scG (freshT _ _) (addT hr.units) (own := [("order", 1)]) (g := (gName 1)) (tt := tYes) (te := (tCB (rTupOf K) (tCons (tVar 1) tNil))) rfl scUnlD.nd (pi_list (pv 0)) (blkOk_by (N := ["thing", "order"]) (sc := defScope s_is_unlike_list) (by decide +kernel)) (fun _ _ _ _ _ => (pg_name (i := 1) scUnlD.nd rfl (.inl rfl))) (fun _ _ _ _ _ => pts_nil) (fun _ _ _ _ _ => (pe_callTy call_tuple_of (by rfl) B.tuple (by decide +kernel) (pa_cons (pv 1) pa_nil)))) pa_nil)) (pe_callB call_len_seq (by rfl) B.len PySem.boot_len (pa_cons (pv 0) pa_nil)) (nomark _)))))), ?_⟩
    refine ⟨_, rfl, v, d, rfl, hd, fun ds e => Nat.le_trans (hlen ds e) (by decide), fun b H1 hb s1 => ⟨_, rfl, ?_⟩⟩
    cases b with
    | false => exact iteF (q _ _ ⟨fun z => absurd z Bool.false_ne_true, fun z => absurd (hb.mpr z.1) Bool.false_ne_true⟩ s1)
    | true =>
      have hO := hb.mp rfl
      obtain ⟨ds, rfl, good, hll⟩ := hb.mp rfl
      have hl250 := hlen ds rfl
      obtain ⟨l, xs, rfl, hp1, al1⟩ := dq_lst (hd.same s1)
      have hxl := al1.len
      obtain ⟨as, rfl, hL1⟩ := good_ll al1 good
      have hal := hL1.len
      rw [List.length_map] at hal
      refine iteT ⟨_, rfl, l, rfl, ⟨_, SqL.of hp1⟩, fun D nD => ?_⟩
      refine scT_list (K := K) (a := l) (xs := as.map V.ref) (fun i G => ∃ L : List (Addr × List Int), G D = some (SetBO P w D L) ∧ (∀ p ∈ L, G p.1 = some (.tup (p.2.map V.int)) ∧ p.1 ≠ D) ∧ L.length ≤ i ∧ (L.map (·.2)).Nodup ∧ (∀ r, r ∈ L.map (·.2) ↔ r ∈ (ds.map intsD).take i) ∧ Same H1 G)
        ⟨[], upd_same, fun p hp => absurd hp List.not_mem_nil, Nat.le_refl _, List.nodup_nil, fun r => by simp, same_new nD⟩ (fun i G _ hP => by obtain ⟨_, _, _, _, _, _, sm⟩ := hP; exact SqL.of (sm _ _ hp1)) (fun i x G hx hP => ?_) (fun G hP => ?_)
      · obtain ⟨a, ea, rfl⟩ := ref_at_inv hx
        obtain ⟨L, hD, hL, hLl, hnd, hin, sm⟩ := hP
        obtain ⟨r, er, ha⟩ := (hL1.same sm).get ea
        have hi := (List.getElem?_eq_some_iff.mp er).1
        rw [List.length_map] at hi
        refine ⟨rfl, _, rfl, a, _, rfl, .inl ⟨SqL.of ha, fun c nc => ?_⟩⟩
        have s4 := same_new (o := .tup (r.map V.int)) nc
        have ncD : c ≠ D := (ne_of_none hD nc).symm
        refine ⟨c, r, L, rfl, SqT.of upd_same, s4 _ _ hD, fun p hp => SqT.of (s4 _ _ (hL p hp).1), by omega, fun L' h1 h2 => ?_⟩
        by_cases hr0 : r ∈ L.map (·.2)
        · have e := h1 hr0
          subst e
          refine ⟨L', upd_same, fun p hp => ?_, by omega, hnd, fun z => ?_, fun b o e => ?_⟩
          · obtain ⟨u1, u2⟩ := hL p hp
            exact ⟨by rw [upd_ne u2]; exact s4 _ _ u1, u2⟩
          · rw [hin z, take_more' er, List.mem_append, List.mem_singleton]
            exact ⟨.inl, fun h => h.elim id fun h => by rw [h]; exact (hin r).mp hr0⟩
          · rw [upd_ne (ne_of_none e nD)]
            exact s4 _ _ (sm _ _ e)
        · have hp' := h2 hr0
          have hpm := hp'.map (·.2)
          refine ⟨L', upd_same, fun p hp => ?_, by rw [hp'.length_eq, List.length_cons]; omega, ?_, fun z => ?_, fun b o e => ?_⟩
          · rcases List.mem_cons.mp (hp'.mem_iff.mp hp) with e | e
            · rw [e]
              exact ⟨by rw [upd_ne ncD]; exact upd_same, ncD⟩
            · obtain ⟨u1, u2⟩ := hL p e
              exact ⟨by rw [upd_ne u2]; exact s4 _ _ u1, u2⟩
          · rw [hpm.nodup_iff, List.map_cons, List.nodup_cons]
            exact ⟨hr0, hnd⟩
          · rw [hpm.mem_iff, List.map_cons, List.mem_cons, hin z, take_more' er, List.mem_append, List.mem_singleton]
            exact or_comm
          · rw [upd_ne (ne_of_none e nD)]
            exact s4 _ _ (sm _ _ e)
      · obtain ⟨L, hD, hL, hLl, hnd, hin, sm⟩ := hP
        rw [List.take_of_length_le (by rw [List.length_map, List.length_map]; omega)] at hin
        refine ⟨D, L, rfl, hD, fun p hp => SqT.of (hL p hp).1, _, rfl, l, _, rfl, .inl (SqL.of (sm _ _ hp1)), rfl, ?_⟩
        refine q _ _ ?_ (s1.trans sm)
        have key := nodup_lenG hnd hin
        rw [List.length_map, List.length_map] at key
        rw [decide_eq_true_iff]
        constructor
        · intro z
          injection z with z
          rw [List.length_map] at z
          refine ⟨hO, fun es e => ?_⟩
          injection e with e
          rw [← e]
          exact key.mp (by omega)
        · intro z
          have := key.mpr (z.2 ds rfl)
          rw [List.length_map, this, hal]
theorem scCUX : FnScope ["thing"] ["thing"] (defScope s_check_unlike_list) := ⟨rfl, rfl, rfl, by decide +kernel, rfl, by decide +kernel, by decide +kernel⟩
theorem ok_cux {f f1 cO : Addr} {fd d1 : FuncData} {k : Nat} {t : Tok} (T : Df K mg "check_unlike_list" s_check_unlike_list ["thing"] f fd) (T_is_unlike_list : Df K mg "is_unlike_list" s_is_unlike_list ["thing"] f1 d1) (G_is_unlike_list : FnOk P w K mg base CX0 k f1 d1 ["thing"] spUnlD) (X_NoOrder : ExK K mg "NoOrder" cO) (B : Bi mg) (mO : mg "MOST_ORDERS" = some (.int 120 t)) : FnOk P w K mg base (L2.CX P w) (k + 1) f fd ["thing"] (spCUX cO) := by
  refine T.F.okX scCUX (fun vs H Q E h => ?_) (fun cdv A outer s H vs Q E hr h => ?_)
  · obtain ⟨v, d, rfl, _⟩ := h
    rfl
  · obtain ⟨v, d, rfl, hd, hlen, q1, q2⟩ := h
    refine ⟨_, 
      (pss_one (ps_if (PW.pt (pw_or (pt_not (pt_val (pe_call G_is_unlike_list hr (by rfl) T_is_unlike_list.g T_is_unlike_list.F.kp T_is_unlike_list.b .nil pass0 (pa_cons (pv 0) pa_nil)))) (pw_or (pt_cmpR op_eq (pe_callB call_len_seq (by rfl) B.len PySem.boot_len (pa_cons (pv 0) pa_nil)) pe_int (nomark _)) (pw_or1 (pt_cmpR op_gt (pe_callB call_len_seq (by rfl) B.len PySem.boot_len (pa_cons (pv 0) pa_nil)) (pe_glob (v := .int 120) (by rfl) mO ⟨_, rfl⟩) (nomark _))))))
        (pss_one (ps_raiseK rfl (takes_of rfl rfl rfl rfl) X_NoOrder (by rfl)))
        pss_nil)), ?_⟩
    refine ⟨_, rfl, v, d, rfl, hd, hlen, fun b H1 hb s1 => ⟨_, rfl, ?_⟩⟩
    cases b with
    | false => exact iteT (iteT (q2 (fun z => absurd (hb.mpr z.1) Bool.false_ne_true) _ s1))
    | true =>
      have hU := hb.mp rfl
      obtain ⟨ds, rfl, _⟩ := hU.1
      obtain ⟨l, xs, rfl, hp1, al1⟩ := dq_lst (hd.same s1)
      have hxl := al1.len
      refine iteF ⟨_, rfl, l, _, rfl, .inl (SqL.of hp1), rfl, _, rfl, ite2 (fun c => ?_) (fun c => ?_)⟩
      · have c1 := V.int.inj (of_decide_eq_true c)
        exact iteT (q2 (fun z => by have := (z.2 ds rfl).1; omega) _ s1)
      have c0 : ds.length ≠ 0 := fun z => c (decide_eq_true (by rw [hxl, z]; rfl))
      refine ⟨_, rfl, l, _, rfl, .inl (SqL.of hp1), _, 120, rfl, rfl, _, rfl, ite2 (fun c => ?_) (fun c => ?_)⟩
      · have c1 := of_decide_eq_true c
        exact q2 (fun z => by have := (z.2 ds rfl).2; omega) _ s1
      · refine q1 ⟨hU, fun es e => ?_⟩ _ s1
        injection e with e
        have c1 : ¬ (120 : Int) < ((xs.length : Nat) : Int) := fun z => c (decide_eq_true z)
        rw [← e]
        omega
end
end Fo
namespace Fo
open PySem PySem.Spec PyProof.Rows L2
/-! ### sets of things as numbers, the least cost of an order of a set -/
def tN (n S : Nat) : List Nat := (List.range n).filter fun t => S.testBit t
/-! ### the first of the least -/
end Fo
namespace Fo
open PySem PySem.Spec PyProof.Rows L2
def aN (rs : List (List Int)) (i j : Int) : Int := (((rs.filter fun r => decide (pos r i < pos r j)).length : Nat) : Int)
def aM (n : Nat) (rs : List (List Int)) : List (List Int) := (rg n).map fun i => (rg n).map fun j => aN rs i j
/-- lists of places, each of an order -/
def Bks : List (List Int) → List (List Int) → Prop
  | [], [] => True
  | p :: ps, r :: rs => IsBack r p ∧ Bks ps rs
  | _, _ => False
theorem Bks.len : ∀ {ps rs : List (List Int)}, Bks ps rs → ps.length = rs.length
  | [], [], _ => rfl
  | [], _ :: _, h => h.elim
  | _ :: _, [], h => h.elim
  | _ :: _, _ :: _, h => by rw [List.length_cons, List.length_cons, Bks.len h.2]
theorem Bks.get : ∀ {ps rs : List (List Int)} {i : Nat} {r : List Int}, Bks ps rs → rs[i]? = some r → ∃ p, ps[i]? = some p ∧ IsBack r p
  | [], [], _, _, _, e => by simp at e
  | [], _ :: _, _, _, h, _ => h.elim
  | _ :: _, [], _, _, h, _ => h.elim
  | p :: ps, r :: rs, 0, r', h, e => by
    have e2 : r = r' := Option.some.inj e
    subst e2
    exact ⟨p, rfl, h.1⟩
  | p :: ps, r :: rs, i + 1, r', h, e => Bks.get (i := i) h.2 e
end Fo
namespace Fo
open PySem PySem.Spec PyProof.Rows L2
structure AhAt (H : Hp) (l : Addr) (as : List Addr) (n : Nat) (rs : List (List Int)) : Prop where
  top : H l = some (.lst (as.map V.ref))
  ll : LL H as (aM n rs)
  n1 : 1 ≤ n
  n2 : n ≤ 9
theorem AhAt.same {H H' : Hp} {l : Addr} {as : List Addr} {n : Nat} {rs : List (List Int)} (h : AhAt H l as n rs) (s : Same H H') : AhAt H' l as n rs := ⟨s _ _ h.top, h.ll.same s, h.n1, h.n2⟩
theorem aM_len (n : Nat) (rs : List (List Int)) : (aM n rs).length = n := by unfold aM; rw [List.length_map, rg_len]
theorem AhAt.len {H : Hp} {l : Addr} {as : List Addr} {n : Nat} {rs : List (List Int)} (h : AhAt H l as n rs) : (as.map V.ref).length = n := by rw [List.length_map, h.ll.len, aM_len]
end Fo
namespace Fo
open PySem PySem.Spec PyProof.Rows L2
/-! what a Lister refuses -/
def spManyX (cT : Addr) : Sp := fun vs H Q E => ∃ m : Int, vs = [.int m] ∧ (m ≤ 120 → Q .non H) ∧ (120 < m → E (.ref cT) none H)
def spComeR (C cO cF cT : Addr) : Sp := fun vs H _ E => ∃ (a e : Addr) (X : List Addr) (w : Str) (n : Nat) (d : Int) (rs : List (List Int)) (ss : List (List (List Int))) (v : V) (dat : PyData), vs = [.ref a, v] ∧ LsAt C H a e X w n d rs ss ∧ Dq H v dat ∧
  ((¬ GoodD dat ∧ ∀ H', Same H H' → E (.ref cO) none H') ∨ (GoodD dat ∧ lenD dat ≠ n ∧ ∀ H', Same H H' → E (.ref cF) none H') ∨ (GoodD dat ∧ lenD dat = n ∧ 120 ≤ rs.length ∧ ∀ H', Same H H' → E (.ref cT) none H'))
def spDropR (C cO cF : Addr) : Sp := fun vs H _ E => ∃ (a e : Addr) (X : List Addr) (w : Str) (n : Nat) (d : Int) (rs : List (List Int)) (ss : List (List (List Int))) (v : V) (dat : PyData), vs = [.ref a, v] ∧ LsAt C H a e X w n d rs ss ∧ Dq H v dat ∧
  ((¬ GoodD dat ∧ ∀ H', Same H H' → E (.ref cO) none H') ∨ (GoodD dat ∧ (∀ xs ∈ rs, dat ≠ dL xs) ∧ ∀ H', Same H H' → E (.ref cF) none H'))
section
variable {P : Program} {w : World} {K : PySem.W.Frag} {mg : Str → Option Value} {base : Heap}
theorem scManyX : FnScope ["many"] ["many"] (defScope s_check_many) := ⟨rfl, rfl, rfl, by decide +kernel, rfl, by decide +kernel, by decide +kernel⟩
theorem ok_manyX {f cT : Addr} {fd : FuncData} {k : Nat} {tO : Tok} (T : Df K mg "check_many" s_check_many ["many"] f fd) (mO : mg "MOST_ORDERS" = some (.int 120 tO)) (X_TooMany : ExK K mg "TooMany" cT) : FnOk P w K mg base (L2.CX P w) (k + 1) f fd ["many"] (spManyX cT) := by
  refine T.F.okX scManyX (fun vs H Q E h => ?_) (fun cdv A outer s H vs Q E hr h => ?_)
  · obtain ⟨m, rfl, _⟩ := h
    rfl
  · obtain ⟨m, rfl, q1, q2⟩ := h
    refine ⟨_, 
      (pss_one (ps_if (pt_cmpR op_gt (pv 0) (pe_glob (v := .int 120) (by rfl) mO ⟨_, rfl⟩) (nomark _))
        (pss_one (ps_raiseK rfl (takes_of rfl rfl rfl rfl) X_TooMany (by rfl)))
        pss_nil)), ?_⟩
    refine ⟨_, rfl, m, 120, rfl, rfl, _, rfl, ite2 (fun z => q2 (of_decide_eq_true z)) (fun z => q1 (Int.not_lt.mp fun h => z (decide_eq_true h)))⟩
theorem scComeR : FnScope ["self", "order", "near", "other"] ["self", "order"] (defScope s_Lister_come) := ⟨rfl, rfl, rfl, by decide +kernel, rfl, by decide +kernel, by decide +kernel⟩
set_option maxHeartbeats 2000000 in
theorem ok_comeR {C_Lister fI f f1 f2 f3 f4 cO cF cT : Addr} {fd d1 d2 d3 d4 : FuncData} {k : Nat} (T : Dm K C_Lister "come" "Lister.come" s_Lister_come ["self", "order"] f fd) (T_Lister : TxL K mg C_Lister fI) (T_check_order : Df K mg "check_order" s_check_order ["thing"] f1 d1) (G_check_order : FnOk P w K mg base (L2.CX P w) k f1 d1 ["thing"] (spChk cO))
    (T_check_many : Df K mg "check_many" s_check_many ["many"] f3 d3) (G_check_many : FnOk P w K mg base (L2.CX P w) k f3 d3 ["many"] (spManyX cT)) (T_known_far : Df K mg "known_far" s_known_far ["way", "one", "other"] f4 d4) (G_known_far : FnOk P w K mg base CX0 k f4 d4 ["way", "one", "other"] spFar)
    (T_Lister_change_to : Dm K C_Lister "change_to" "Lister.change_to" s_Lister_change_to ["self", "orders"] f2 d2) (G_Lister_change_to : FnOk P w K mg base CX0 k f2 d2 ["self", "orders"] (spChangeL C_Lister)) (X_NoFit : ExK K mg "NoFit" cF) (B : Bi mg) : FnOk P w K mg base (L2.CX P w) (k + 1) f fd ["self", "order"] (spComeR C_Lister cO cF cT) := by
  refine T.F.okX scComeR (fun vs H Q E h => ?_) (fun cdv A outer s H vs Q E hr h => ?_)
  · obtain ⟨a, e, X, w, n, d, rs, ss, v, dat, rfl, _⟩ := h
    rfl
  · obtain ⟨a, e, X, w, n, d, rs, ss, v, dat, rfl, L, hv, q⟩ := h
    refine ⟨_, 
      (pss_cons (ps_expr (pe_callS G_check_order hr (by rfl) T_check_order.g T_check_order.F.kp T_check_order.b (fun σ => passAt (takes_of rfl rfl rfl rfl) σ) (pa_cons (pv 1) pa_nil)))
      (pss_cons (ps_if (pt_cmpR op_ne (pe_callB call_len_seq (by rfl) B.len PySem.boot_len (pa_cons (pv 1) pa_nil)) (pe_fld (pv 0) rfl) (nomark _))
        (pss_one (ps_raiseK rfl (takes_of rfl rfl rfl rfl) X_NoFit (by rfl)))
        pss_nil)
      (pss_cons (ps_expr (pe_callS G_check_many hr (by rfl) T_check_many.g T_check_many.F.kp T_check_many.b (fun σ => passAt (takes_of rfl rfl rfl rfl) σ) (pa_cons (pe_op op_add (pe_callB call_len_seq (by rfl) B.len PySem.boot_len (pa_cons (pe_fld (pv 0) rfl) pa_nil)) pe_int) pa_nil)))
      (pss_cons (ps_setLc (i := 2) (own := [("other", 3)]) (g := (gName 3)) (tt := (tTest (tOp (rI0 fun i j => .bl (decide (i < j))) (tCall spFar [] E0 (tCons (tFld K (tVar 0) "way") (tCons (tVar 1) (tCons (tVar 3) tNil)))) (tFld K (tVar 0) "d")))) (te := (tCB (rListOf K) (tCons (tVar 3) tNil))) (by rfl) scComeR.nd rfl rfl (sw_true rfl rfl rfl (by decide +kernel)) (pi_list (pe_fld (pv 0) rfl)) (blkOk_by (N := ["self", "order", "near", "other"]) (sc := defScope s_Lister_come) (by decide +kernel)) (fun _ _ _ _ _ => (pg_name (i := 3) scComeR.nd rfl (.inl rfl))) (fun _ _ _ _ _ => (pts_one (pt_cmpR op_lt (pe_call G_known_far hr (by rfl) T_known_far.g T_known_far.F.kp T_known_far.b .nil pass0 (pa_cons (pe_fld (pv 0) rfl) (pa_cons (pv 1) (pa_cons (pv 3) pa_nil)))) (pe_fld (pv 0) rfl) (nomark _)))) (fun _ _ _ _ _ => (pe_callTy call_list_of (by rfl) B.list (by decide +kernel) (pa_cons (pv 3) pa_nil))))
      (Evl.pss_cut (ps_if (pt_cmpR op_eq (pe_callB call_len_seq (by rfl) B.len PySem.boot_len (pa_cons (pv 2) pa_nil)) pe_int (nomark _))
        (pss_one (ps_expr (pe_meth (pv 0) T_Lister.cl T_Lister_change_to.me G_Lister_change_to hr T_Lister_change_to.b .nil pass0 (pa_cons (pe_callB (cr_sortedR hr.units) (by rfl) B.sorted (by decide +kernel) (pa_cons (pe_op op_cat (pe_fld (pv 0) rfl) (pe_lst (pa_cons (pe_callTy call_list_of (by rfl) B.list (by decide +kernel) (pa_cons (pv 1) pa_nil)) pa_nil))) pa_nil)) pa_nil))))
        pss_nil)
      (pss_one (ps_ret (pv 2)))))))), ?_⟩
    refine ⟨_, rfl, v, dat, rfl, hv, fun g H1 s1 => ?_, fun ng H1 s1 => ?_⟩
    · rcases q with ⟨ng, _⟩ | q
      · exact absurd g ng
      have L1 := L.same s1
      obtain ⟨dx, t, ps, st, ha, he, ht, ert, _⟩ := L1.ex
      obtain ⟨o, ns, rfl, ho, i1, i2, i3, el⟩ := good_at (hv.same s1) g
      refine ⟨_, rfl, o, _, rfl, .inl (SqL.of ho), _, rfl, a, _, dx, _, _, rfl, ha, T_Lister.cl, T_Lister.nN, fl_n, rfl, _, rfl, ?_⟩
      rw [List.length_map, ← el]
      rcases q with ⟨_, nl, q⟩ | ⟨_, nl, hl, q⟩
      · rw [decide_eq_false (show ¬ (V.int (lenD dat : Int) = V.int (n : Int)) from fun z => nl (by have := V.int.inj z; omega))]
        exact iteT (q _ s1)
      · rw [decide_eq_true (show V.int (lenD dat : Int) = V.int (n : Int) by rw [nl])]
        refine iteF ?_
        refine ⟨_, rfl, a, _, dx, _, _, rfl, ha, T_Lister.cl, T_Lister.nT, fl_t, t, _, rfl, .inl (SqL.of ht.1), _, _, rfl, rfl, _, rfl, fun z => ?_, fun _ => q _ s1⟩
        rw [List.length_map] at z
        rw [← ert, List.length_map] at hl
        omega
    · rcases q with ⟨_, q⟩ | ⟨g, _⟩ | ⟨g, _⟩
      · exact q _ s1
      · exact absurd g ng
      · exact absurd g ng
theorem scDropR : FnScope ["self", "order", "other"] ["self", "order"] (defScope s_Lister_drop) := ⟨rfl, rfl, rfl, by decide +kernel, rfl, by decide +kernel, by decide +kernel⟩
set_option maxHeartbeats 2000000 in
theorem ok_dropR {C_Lister fI f f1 f2 cO cF : Addr} {fd d1 d2 : FuncData} {k : Nat} (T : Dm K C_Lister "drop" "Lister.drop" s_Lister_drop ["self", "order"] f fd) (T_Lister : TxL K mg C_Lister fI) (T_check_order : Df K mg "check_order" s_check_order ["thing"] f1 d1) (G_check_order : FnOk P w K mg base (L2.CX P w) k f1 d1 ["thing"] (spChk cO))
    (T_Lister_change_to : Dm K C_Lister "change_to" "Lister.change_to" s_Lister_change_to ["self", "orders"] f2 d2) (G_Lister_change_to : FnOk P w K mg base CX0 k f2 d2 ["self", "orders"] (spChangeL C_Lister)) (X_NoFit : ExK K mg "NoFit" cF) (B : Bi mg) : FnOk P w K mg base (L2.CX P w) (k + 1) f fd ["self", "order"] (spDropR C_Lister cO cF) := by
  refine T.F.okX scDropR (fun vs H Q E h => ?_) (fun cdv A outer s H vs Q E hr h => ?_)
  · obtain ⟨a, e, X, w, n, d, rs, ss, v, dat, rfl, _⟩ := h
    rfl
  · obtain ⟨a, e, X, w, n, d, rs, ss, v, dat, rfl, L, hv, q⟩ := h
    refine ⟨_, 
      (pss_cons (ps_expr (pe_callS G_check_order hr (by rfl) T_check_order.g T_check_order.F.kp T_check_order.b (fun σ => passAt (takes_of rfl rfl rfl rfl) σ) (pa_cons (pv 1) pa_nil)))
      (pss_cons (ps_if (pt_cmpR (op_notInD (units65 hr)) (pv 1) (pe_fld (pv 0) rfl) (by rfl))
        (pss_one (ps_raiseK rfl (takes_of rfl rfl rfl rfl) X_NoFit (by rfl)))
        pss_nil)
      (pss_one (ps_expr (pe_meth (pv 0) T_Lister.cl T_Lister_change_to.me G_Lister_change_to hr T_Lister_change_to.b .nil pass0 (pa_cons (pe_lc (own := [("other", 2)]) (g := (gName 2)) (tt := (tTest (tOp (rNeD K) (tVar 2) (tVar 1)))) (te := (tVar 2)) rfl scDropR.nd (pi_list (pe_fld (pv 0) rfl)) (blkOk_by (N := ["self", "order", "other"]) (sc := defScope s_Lister_drop) (by decide +kernel)) (fun _ _ _ _ _ => (pg_name (i := 2) scDropR.nd rfl (.inl rfl))) (fun _ _ _ _ _ => (pts_one (pt_cmpR (op_neD hr.units) (pv 2) (pv 1) (nomark _)))) (fun _ _ _ _ _ => (pv 2))) pa_nil)))))), ?_⟩
    refine ⟨_, rfl, v, dat, rfl, hv, fun g H1 s1 => ?_, fun ng H1 s1 => ?_⟩
    · rcases q with ⟨ng, _⟩ | ⟨_, nm, q⟩
      · exact absurd g ng
      have L1 := L.same s1
      obtain ⟨dx, t, ps, st, ha, he, ht, ert, _⟩ := L1.ex
      obtain ⟨ns, rfl, i1, i2, i3⟩ := g
      have hv1 := hv.same s1
      cases hv1 with
      | @lst o xs0 _ ho al =>
        have ex0 := dq_intsV al
        subst ex0
        refine ⟨_, rfl, _, rfl, a, _, dx, _, _, rfl, ha, T_Lister.cl, T_Lister.nT, fl_t, _, _, dp_list ho, ht.dp, shaped_list _, shaped_lists _, _, rfl, ?_⟩
        rw [any_row, ert, decide_eq_false (fun hm => nm ns hm rfl)]
        exact iteT (q _ s1)
    · rcases q with ⟨_, q⟩ | ⟨g, _⟩
      · exact q _ s1
      · exact absurd g ng
end
end Fo
namespace Fo
open PySem PySem.Spec PyProof.Rows L2
/-! k71: what is asked of the room, and what is refused of more than six things -/
def spFewX (cT : Addr) : Sp := fun vs H Q E => ∃ (n : Int), vs = [.int n, .int 6] ∧ (n ≤ 6 → Q .non H) ∧ (6 < n → E (.ref cT) none H)
def spFirstR (C cT : Addr) : Sp := fun vs H _ E => ∃ (a e : Addr) (X : List Addr) (w : Str) (n : Nat) (d : Int) (rs : List (List Int)) (ss : List (List (List Int))), vs = [.ref a] ∧ LsAt C H a e X w n d rs ss ∧ 6 < n ∧ E (.ref cT) none H
section
variable {P : Program} {w : World} {K : PySem.W.Frag} {mg : Str → Option Value} {base : Heap}
theorem scFewX : FnScope ["n", "most"] ["n", "most"] (defScope s_check_few) := ⟨rfl, rfl, rfl, by decide +kernel, rfl, by decide +kernel, by decide +kernel⟩
theorem ok_fewX {f cT : Addr} {fd : FuncData} {k : Nat} (T : Df K mg "check_few" s_check_few ["n", "most"] f fd) (X_TooMany : ExK K mg "TooMany" cT) : FnOk P w K mg base (L2.CX P w) (k + 1) f fd ["n", "most"] (spFewX cT) := by
  refine T.F.okX scFewX (fun vs H Q E h => ?_) (fun cdv A outer s H vs Q E hr h => ?_)
  · obtain ⟨n, rfl, _⟩ := h
    rfl
  · obtain ⟨n, rfl, q1, q2⟩ := h
    refine ⟨_, 
      (pss_one (ps_if (pt_cmpR op_gt (pv 0) (pv 1) (nomark _))
        (pss_one (ps_raiseA rfl (takes_of rfl rfl rfl rfl) X_TooMany (by rfl) (pe_joined (PJ.cons pe_str (PJ.cons (pe_fmt (pv 1)) (PJ.cons pe_str PJ.nil))))))
        pss_nil)), ?_⟩
    exact ⟨_, rfl, _, rfl, n, 6, rfl, rfl, _, rfl, ite2 (fun c => ⟨_, rfl, by decide +kernel, _, rfl, .inr ⟨6, rfl, by decide, _, rfl, by decide +kernel, _, rfl, by decide +kernel, q2 (of_decide_eq_true c)⟩⟩) (fun c => q1 (Int.not_lt.mp fun h => c (decide_eq_true h)))⟩
theorem scMoreR : FnScope ["self", "order"] ["self"] (defScope s_Lister_how_many_more) := ⟨rfl, rfl, rfl, by decide +kernel, rfl, by decide +kernel, by decide +kernel⟩
set_option maxHeartbeats 2000000 in
theorem ok_moreR {C_Lister fI f f1 f2 f3 cT : Addr} {fd d1 d2 d3 : FuncData} {k c0 : Nat} {tk : Tok} (T : Dm K C_Lister "how_many_more" "Lister.how_many_more" s_Lister_how_many_more ["self"] f fd) (T_Lister : TxL K mg C_Lister fI) (T_check_few : Df K mg "check_few" s_check_few ["n", "most"] f1 d1) (G_check_few : FnOk P w K mg base (L2.CX P w) k f1 d1 ["n", "most"] (spFewX cT)) (T_all_orders : Df K mg "all_orders" s_all_orders ["n"] f2 d2) (G_all_orders : FnOk P w K mg base CX0 k f2 d2 ["n"] spNev)
    (T_is_far : DfC K mg "is_far" s_is_far ["way", "d", "order", "others"] f3 d3 c0) (G_is_far : FnOk P w K mg base CX0 k f3 d3 ["way", "d", "order", "others"] spNev) (B : Bi mg) (mL : mg "MOST_LISTED" = some (.int 6 tk)) : FnOk P w K mg base (L2.CX P w) (k + 1) f fd ["self"] (spFirstR C_Lister cT) := by
  refine T.F.okX scMoreR (fun vs H Q E h => ?_) (fun cdv A outer s H vs Q E hr h => ?_)
  · obtain ⟨a, e, X, w, n, d, rs, ss, rfl, _⟩ := h
    rfl
  · obtain ⟨a, e, X, w, n, d, rs, ss, rfl, L, hn, q⟩ := h
    refine ⟨_, 
      (pss_cons (ps_expr (pe_callS G_check_few hr (by rfl) T_check_few.g T_check_few.F.kp T_check_few.b (fun σ => passAt (takes_of rfl rfl rfl rfl) σ) (pa_cons (pe_fld (pv 0) rfl) (pa_cons (pe_glob (v := .int 6) (by rfl) mL ⟨_, rfl⟩) pa_nil))))
      (pss_one (ps_ret (pe_callB call_len_seq (by rfl) B.len PySem.boot_len (pa_cons (pe_lc (own := [("order", 1)]) (g := (gName 1)) (tt := (tB (tCall spNev [] E0 (tCons (tFld K (tVar 0) "way") (tCons (tFld K (tVar 0) "d") (tCons (tVar 1) (tCons (tFld K (tVar 0) "taken") tNil))))))) (te := (tVar 1)) rfl scMoreR.nd (pi_list (pe_call G_all_orders hr (by rfl) T_all_orders.g T_all_orders.F.kp T_all_orders.b .nil pass0 (pa_cons (pe_fld (pv 0) rfl) pa_nil))) (blkOk_by (N := ["self", "order"]) (sc := defScope s_Lister_how_many_more) (by decide +kernel)) (fun _ _ _ _ _ => (pg_name (i := 1) scMoreR.nd rfl (.inl rfl))) (fun _ _ _ _ _ => (pts_one (pt_val (pe_call G_is_far hr (by rfl) T_is_far.g T_is_far.F.kp T_is_far.b .nil pass0 (pa_cons (pe_fld (pv 0) rfl) (pa_cons (pe_fld (pv 0) rfl) (pa_cons (pv 1) (pa_cons (pe_fld (pv 0) rfl) pa_nil)))))))) (fun _ _ _ _ _ => (pv 1))) pa_nil))))), ?_⟩
    obtain ⟨dx, t, ps, st, ha, he, htk, ert, _⟩ := L.ex
    exact ⟨_, rfl, a, _, dx, _, _, rfl, ha, T_Lister.cl, T_Lister.nN, fl_n, (n : Int), rfl, fun h => absurd h (by omega), fun _ => q⟩
theorem scFirstR : FnScope ["self", "order"] ["self"] (defScope s_Lister_first_more) := ⟨rfl, rfl, rfl, by decide +kernel, rfl, by decide +kernel, by decide +kernel⟩
set_option maxHeartbeats 2000000 in
theorem ok_firstR {C_Lister fI f f1 f2 f3 cT : Addr} {fd d1 d2 d3 : FuncData} {k c0 : Nat} {tk : Tok} (T : Dm K C_Lister "first_more" "Lister.first_more" s_Lister_first_more ["self"] f fd) (T_Lister : TxL K mg C_Lister fI) (T_check_few : Df K mg "check_few" s_check_few ["n", "most"] f1 d1) (G_check_few : FnOk P w K mg base (L2.CX P w) k f1 d1 ["n", "most"] (spFewX cT)) (T_all_orders : Df K mg "all_orders" s_all_orders ["n"] f2 d2) (G_all_orders : FnOk P w K mg base CX0 k f2 d2 ["n"] spNev)
    (T_is_far : DfC K mg "is_far" s_is_far ["way", "d", "order", "others"] f3 d3 c0) (G_is_far : FnOk P w K mg base CX0 k f3 d3 ["way", "d", "order", "others"] spNev) (B : Bi mg) (mL : mg "MOST_LISTED" = some (.int 6 tk)) : FnOk P w K mg base (L2.CX P w) (k + 1) f fd ["self"] (spFirstR C_Lister cT) := by
  refine T.F.okX scFirstR (fun vs H Q E h => ?_) (fun cdv A outer s H vs Q E hr h => ?_)
  · obtain ⟨a, e, X, w, n, d, rs, ss, rfl, _⟩ := h
    rfl
  · obtain ⟨a, e, X, w, n, d, rs, ss, rfl, L, hn, q⟩ := h
    refine ⟨_, 
      (pss_cons (ps_expr (pe_callS G_check_few hr (by rfl) T_check_few.g T_check_few.F.kp T_check_few.b (fun σ => passAt (takes_of rfl rfl rfl rfl) σ) (pa_cons (pe_fld (pv 0) rfl) (pa_cons (pe_glob (v := .int 6) (by rfl) mL ⟨_, rfl⟩) pa_nil))))
      (pss_cons (ps_for (passes_of rfl) rfl (pi_list (pe_call G_all_orders hr (by rfl) T_all_orders.g T_all_orders.F.kp T_all_orders.b .nil pass0 (pa_cons (pe_fld (pv 0) rfl) pa_nil))) (pg_name (i := 1) scFirstR.nd rfl (.inl rfl))
        (pss_one (ps_if (pt_val (pe_call G_is_far hr (by rfl) T_is_far.g T_is_far.F.kp T_is_far.b .nil pass0 (pa_cons (pe_fld (pv 0) rfl) (pa_cons (pe_fld (pv 0) rfl) (pa_cons (pv 1) (pa_cons (pe_fld (pv 0) rfl) pa_nil))))))
          (pss_one (ps_ret (pv 1)))
          pss_nil)))
      (pss_one (ps_ret pe_non)))), ?_⟩
    obtain ⟨dx, t, ps, st, ha, he, htk, ert, _⟩ := L.ex
    exact ⟨_, rfl, a, _, dx, _, _, rfl, ha, T_Lister.cl, T_Lister.nN, fl_n, (n : Int), rfl, fun h => absurd h (by omega), fun _ => q⟩
end
end Fo
namespace Fo
open PySem PySem.Spec PyProof.Rows L2
def LedOk (f d e : PyData) : Prop := GoodD d ∧ LiD e ∧ WayD f ∧ ∀ ds y, e = .list ds → ds[0]? = some y → lenD d = lenD y
/-- j: which refusal -/
def LedBad (f d e : PyData) (j : Nat) : Prop := (j = 0 ∧ ¬ (GoodD d ∧ LiD e)) ∨ (j = 1 ∧ GoodD d ∧ LiD e ∧ ¬ WayD f) ∨ (j = 2 ∧ GoodD d ∧ LiD e ∧ WayD f ∧ ∀ ds y, e = .list ds → ds[0]? = some y → lenD d ≠ lenD y)
def spLedX (c : Nat → Addr) : Sp := fun vs H Q E => ∃ (x v u : V) (f d e : PyData), vs = [x, v, u] ∧ Dq H x f ∧ Dq H v d ∧ Dq H u e ∧ (∀ ds, e = .list ds → ds.length ≤ 250) ∧ ((LedOk f d e ∧ ∀ H', Same H H' → Q .non H') ∨ ∃ j, LedBad f d e j ∧ ∀ H', Same H H' → E (.ref (c j)) none H')
def spNearR (c : Nat → Addr) : Sp := fun vs H _ E => ∃ (x v u : V) (f d e : PyData) (j : Nat), vs = [x, v, u] ∧ Dq H x f ∧ Dq H v d ∧ Dq H u e ∧ (∀ ds, e = .list ds → ds.length ≤ 250) ∧ LedBad f d e j ∧ ∀ H', Same H H' → E (.ref (c j)) none H'
section
variable {P : Program} {w : World} {K : PySem.W.Frag} {mg : Str → Option Value} {base : Heap}
theorem scLedX : FnScope ["way", "order", "orders"] ["way", "order", "orders"] (defScope s_check_led) := ⟨rfl, rfl, rfl, by decide +kernel, rfl, by decide +kernel, by decide +kernel⟩
set_option maxHeartbeats 2000000 in
theorem ok_ledX {f f1 f2 f3 f4 : Addr} {c : Nat → Addr} {fd d1 d2 d3 d4 : FuncData} {k : Nat} (T : Df K mg "check_led" s_check_led ["way", "order", "orders"] f fd) (T_check_order : Df K mg "check_order" s_check_order ["thing"] f1 d1) (T_check_unlike_list : Df K mg "check_unlike_list" s_check_unlike_list ["thing"] f2 d2) (T_check_way : Df K mg "check_way" s_check_way ["thing"] f3 d3) (T_check_fit : Df K mg "check_fit" s_check_fit ["one", "other"] f4 d4)
    (G_check_order : FnOk P w K mg base (L2.CX P w) k f1 d1 ["thing"] (spChk (c 0))) (G_check_unlike_list : FnOk P w K mg base (L2.CX P w) k f2 d2 ["thing"] (spCUX (c 0))) (G_check_way : FnOk P w K mg base (L2.CX P w) k f3 d3 ["thing"] (spWayX (c 1))) (G_check_fit : FnOk P w K mg base (L2.CX P w) k f4 d4 ["one", "other"] (spFitX (c 2))) (B : Bi mg) : FnOk P w K mg base (L2.CX P w) (k + 1) f fd ["way", "order", "orders"] (spLedX c) := by
  refine T.F.okX scLedX (fun vs H Q E h => ?_) (fun cdv A outer s H vs Q E hr h => ?_)
  · obtain ⟨x, v, u, f, d, e, rfl, _⟩ := h
    rfl
  · obtain ⟨x, v, u, f, d, e, rfl, hf, hd, he, hl, q⟩ := h
    have fits : GoodD d → LiD e → ∀ H2, Same H H2 → ∃ (a l a0 : Addr) (ns ms : List Int) (ys : List V) (y : PyData) (es : List PyData), v = .ref a ∧ u = .ref l ∧ H2 a = some (.lst (ns.map V.int)) ∧ H2 l = some (.lst ys) ∧ ys[0]? = some (.ref a0) ∧ H2 a0 = some (.lst (ms.map V.int)) ∧ e = .list es ∧ es[0]? = some y ∧ lenD d = ns.length ∧ lenD y = ms.length := fun g li H2 s2 => by
      obtain ⟨a, ns, rfl, ha, _, _, _, l1⟩ := good_at (hd.same s2) g
      obtain ⟨es, rfl, good, _⟩ := li.1.1
      obtain ⟨l, ys, rfl, hp, ay⟩ := dq_lst (he.same s2)
      have h1 := (li.2 es rfl).1
      have hyl := ay.len
      obtain ⟨y0, ey0⟩ : ∃ y0, ys[0]? = some y0 := ⟨ys[0]'(by omega), List.getElem?_eq_getElem (by omega)⟩
      obtain ⟨d0, ed0, hd0⟩ := ay.get ey0
      obtain ⟨a0, ms, rfl, ha0, _, _, _, l0⟩ := good_at hd0 (good d0 (List.mem_of_getElem? ed0))
      exact ⟨a, l, a0, ns, ms, ys, d0, es, rfl, rfl, ha, hp, ey0, ha0, rfl, ed0, l1, l0⟩
    refine ⟨_, 
      (pss_cons (ps_expr (pe_callS G_check_order hr (by rfl) T_check_order.g T_check_order.F.kp T_check_order.b (fun σ => passAt (takes_of rfl rfl rfl rfl) σ) (pa_cons (pv 1) pa_nil)))
      (pss_cons (ps_expr (pe_callS G_check_unlike_list hr (by rfl) T_check_unlike_list.g T_check_unlike_list.F.kp T_check_unlike_list.b (fun σ => passAt (takes_of rfl rfl rfl rfl) σ) (pa_cons (pv 2) pa_nil)))
      (pss_cons (ps_expr (pe_callS G_check_way hr (by rfl) T_check_way.g T_check_way.F.kp T_check_way.b (fun σ => passAt (takes_of rfl rfl rfl rfl) σ) (pa_cons (pv 0) pa_nil)))
      (pss_one (ps_expr (pe_callS G_check_fit hr (by rfl) T_check_fit.g T_check_fit.F.kp T_check_fit.b (fun σ => passAt (takes_of rfl rfl rfl rfl) σ) (pa_cons (pv 1) (pa_cons (pe_ix ix_list (pv 2) pe_int (fun _ _ => rfl)) pa_nil)))))))), ?_⟩
    rcases q with ⟨⟨g, li, wy, fit⟩, q⟩ | ⟨j, ⟨rfl, nb⟩ | ⟨rfl, g, li, nw⟩ | ⟨rfl, g, li, wy, nfit⟩, q⟩
    · refine ⟨_, rfl, v, d, rfl, hd, fun _ H1 s1 => ?_, fun z => absurd g z⟩
      refine ⟨_, rfl, u, e, rfl, he.same s1, hl, fun _ H2 s2 => ?_, fun z => absurd li z⟩
      have s12 := s1.trans s2
      refine ⟨_, rfl, x, f, rfl, hf.same s12, fun _ => ?_, fun z => absurd wy z⟩
      obtain ⟨a, l, a0, ns, ms, ys, y, es, rfl, rfl, ha, hp, ey, ha0, ee, ees, l1, l2⟩ := fits g li H2 s12
      have e1 := fit es y ee ees
      exact ⟨_, rfl, _, rfl, l, _, 0, _, rfl, rfl, SqL.of hp, at_of (j := 0) rfl ey, a, a0, _, _, rfl, ha, ha0, fun _ => q _ s12, fun z => absurd (by rw [List.length_map, List.length_map]; omega) z⟩
    · refine ⟨_, rfl, v, d, rfl, hd, fun g H1 s1 => ?_, fun _ H1 s1 => q _ s1⟩
      exact ⟨_, rfl, u, e, rfl, he.same s1, hl, fun li => absurd ⟨g, li⟩ nb, fun _ H2 s2 => q _ (s1.trans s2)⟩
    · refine ⟨_, rfl, v, d, rfl, hd, fun _ H1 s1 => ?_, fun z => absurd g z⟩
      refine ⟨_, rfl, u, e, rfl, he.same s1, hl, fun _ H2 s2 => ?_, fun z => absurd li z⟩
      exact ⟨_, rfl, x, f, rfl, hf.same (s1.trans s2), fun z => absurd z nw, fun _ => q _ (s1.trans s2)⟩
    · refine ⟨_, rfl, v, d, rfl, hd, fun _ H1 s1 => ?_, fun z => absurd g z⟩
      refine ⟨_, rfl, u, e, rfl, he.same s1, hl, fun _ H2 s2 => ?_, fun z => absurd li z⟩
      have s12 := s1.trans s2
      refine ⟨_, rfl, x, f, rfl, hf.same s12, fun _ => ?_, fun z => absurd wy z⟩
      obtain ⟨a, l, a0, ns, ms, ys, y, es, rfl, rfl, ha, hp, ey, ha0, ee, ees, l1, l2⟩ := fits g li H2 s12
      have e1 := nfit es y ee ees
      exact ⟨_, rfl, _, rfl, l, _, 0, _, rfl, rfl, SqL.of hp, at_of (j := 0) rfl ey, a, a0, _, _, rfl, ha, ha0, fun z => absurd (by rw [List.length_map, List.length_map] at z; omega) e1, fun _ => q _ s12⟩
theorem scNearR : FnScope ["way", "order", "orders", "r", "other"] ["way", "order", "orders"] (defScope s_nearest_of) := ⟨rfl, rfl, rfl, by decide +kernel, rfl, by decide +kernel, by decide +kernel⟩
set_option maxHeartbeats 2000000 in
theorem ok_nearR {f f1 f2 f3 : Addr} {c : Nat → Addr} {fd d1 d2 d3 : FuncData} {k : Nat} (T : Df K mg "nearest_of" s_nearest_of ["way", "order", "orders"] f fd) (T_check_led : Df K mg "check_led" s_check_led ["way", "order", "orders"] f1 d1) (T_known_far : Df K mg "known_far" s_known_far ["way", "one", "other"] f2 d2) (T_those_within : Df K mg "those_within" s_those_within ["way", "order", "orders", "r"] f3 d3) (G_check_led : FnOk P w K mg base (L2.CX P w) k f1 d1 ["way", "order", "orders"] (spLedX c)) (G_known_far : FnOk P w K mg base CX0 k f2 d2 ["way", "one", "other"] spFar) (G_those_within : FnOk P w K mg base CX0 k f3 d3 ["way", "order", "orders", "r"] spNev) (B : Bi mg) : FnOk P w K mg base (L2.CX P w) (k + 1) f fd ["way", "order", "orders"] (spNearR c) := by
  refine T.F.okX scNearR (fun vs H Q E h => ?_) (fun cdv A outer s H vs Q E hr h => ?_)
  · obtain ⟨x, v, u, f, d, e, j, rfl, _⟩ := h
    rfl
  · obtain ⟨x, v, u, f, d, e, j, rfl, hf, hd, he, hl, hb, q⟩ := h
    refine ⟨_, 
      (pss_cons (ps_expr (pe_callS G_check_led hr (by rfl) T_check_led.g T_check_led.F.kp T_check_led.b (fun σ => passAt (takes_of rfl rfl rfl rfl) σ) (pa_cons (pv 0) (pa_cons (pv 1) (pa_cons (pv 2) pa_nil)))))
      (pss_cons (ps_set (i := 3) scNearR.nd rfl (.inl rfl) (pe_callB (cr_min rfl) (by rfl) B.min (by decide +kernel) (pa_cons (pe_lc (own := [("other", 4)]) (g := (gName 4)) (tt := tYes) (te := (tCall spFar [] E0 (tCons (tVar 0) (tCons (tVar 1) (tCons (tVar 4) tNil))))) rfl scNearR.nd (pi_list (pv 2)) (blkOk_by (N := ["way", "order", "orders", "r", "other"]) (sc := defScope s_nearest_of) (by decide +kernel)) (fun _ _ _ _ _ => (pg_name (i := 4) scNearR.nd rfl (.inl rfl))) (fun _ _ _ _ _ => pts_nil) (fun _ _ _ _ _ => (pe_call G_known_far hr (by rfl) T_known_far.g T_known_far.F.kp T_known_far.b .nil pass0 (pa_cons (pv 0) (pa_cons (pv 1) (pa_cons (pv 4) pa_nil)))))) pa_nil)))
      (pss_one (ps_ret (pe_tup (pa_cons (pv 3) (pa_cons (pe_call G_those_within hr (by rfl) T_those_within.g T_those_within.F.kp T_those_within.b .nil pass0 (pa_cons (pv 0) (pa_cons (pv 1) (pa_cons (pv 2) (pa_cons (pv 3) pa_nil))))) pa_nil))))))), ?_⟩
    exact ⟨_, rfl, _, rfl, _, rfl, x, v, u, f, d, e, rfl, hf, hd, he, hl, .inr ⟨j, hb, fun H1 s1 => q _ s1⟩⟩
end
end Fo
namespace Fo
open PySem PySem.Spec PyProof.Rows L2
def OrdX (x : List Int) : Prop := ∃ n, IsOrd n x ∧ 1 ≤ n ∧ n ≤ 12
structure TrAt (H : Hp) (t a0 a1 a2 : Addr) (x0 x1 x2 : List Int) : Prop where
  top : H t = some (.tup [.ref a0, .ref a1, .ref a2])
  h0 : H a0 = some (.lst (x0.map V.int))
  h1 : H a1 = some (.lst (x1.map V.int))
  h2 : H a2 = some (.lst (x2.map V.int))
  o0 : OrdX x0
  o1 : OrdX x1
  o2 : OrdX x2
theorem TrAt.same {H H' : Hp} {t a0 a1 a2 : Addr} {x0 x1 x2 : List Int} (h : TrAt H t a0 a1 a2 x0 x1 x2) (s : Same H H') : TrAt H' t a0 a1 a2 x0 x1 x2 := ⟨s _ _ h.top, s _ _ h.h0, s _ _ h.h1, s _ _ h.h2, h.o0, h.o1, h.o2⟩
end Fo
namespace Fo
open PySem PySem.Spec PyProof.Rows L2
/-! polls, asked of anything -/
def PollD (d : PyData) : Prop := OLd d ∧ ∀ ds, d = .list ds → 1 ≤ ds.length ∧ ds.length ≤ 20
/-- how many things the orders of a poll have -/
def nP : PyData → Nat
  | .list (x :: _) => lenD x
  | _ => 0
def lmP : PyData → Int
  | .str z => if z = "swap" then 9 else 6
  | _ => 6
theorem poll_ol {H : Hp} {v : V} {d : PyData} (h : Dq H v d) (g : PollD d) : ∃ (l : Addr) (as : List Addr) (rs : List (List Int)), v = .ref l ∧ OL H l as rs (nP d) ∧ 1 ≤ rs.length ∧ rs.length ≤ 20 := by
  obtain ⟨⟨ds, rfl, g1, g2⟩, g3⟩ := g
  obtain ⟨h1, h2⟩ := g3 ds rfl
  cases h with
  | @lst a xs _ e al =>
    obtain ⟨as, rfl, hL⟩ := good_ll al g1
    obtain ⟨d0, ds', rfl⟩ : ∃ d0 ds', ds = d0 :: ds' := by
      cases ds with
      | nil => exact absurd h1 (by decide)
      | cons d0 r => exact ⟨d0, r, rfl⟩
    have z0 := good_ints (g1 d0 List.mem_cons_self)
    have e0 : nP (.list (d0 :: ds')) = (intsD d0).length := by
      show lenD d0 = _
      rw [z0.1, intsD_of]
      show ((intsD d0).map PyData.int).length = _
      rw [List.length_map]
    refine ⟨a, as, (d0 :: ds').map intsD, rfl, ⟨e, hL, fun r m => ?_, by rw [e0]; exact z0.2.2.1, by rw [e0]; exact z0.2.2.2⟩, by rw [List.length_map]; exact h1, by rw [List.length_map]; exact h2⟩
    obtain ⟨y, my, rfl⟩ := List.mem_map.mp m
    have z1 := good_ints (g1 y my)
    have e1 : lenD y = (intsD y).length := by
      rw [z1.1, intsD_of]
      show ((intsD y).map PyData.int).length = _
      rw [List.length_map]
    have e2 := g2 y my d0 List.mem_cons_self
    have e3 : lenD d0 = nP (.list (d0 :: ds')) := rfl
    rw [← e3, ← e2, e1]
    exact z1.2.1
def spCPX (cO : Addr) : Sp := fun vs H Q E => ∃ (v : V) (d : PyData), vs = [v] ∧ Dq H v d ∧ (∀ ds, d = .list ds → ds.length ≤ 10000) ∧ (PollD d → ∀ H', Same H H' → Q .non H') ∧ (¬ PollD d → ∀ H', Same H H' → E (.ref cO) none H')
def spFewY (cT : Addr) : Sp := fun vs H Q E => ∃ (n m : Int), vs = [.int n, .int m] ∧ 0 ≤ m ∧ m ≤ 12 ∧ (n ≤ m → Q .non H) ∧ (m < n → E (.ref cT) none H)
def spMidR (cO cW cT : Addr) : Sp := fun vs H Q E => ∃ (x p : V) (f dp : PyData), vs = [x, p] ∧ Dq H x f ∧ Dq H p dp ∧ (∀ ds, dp = .list ds → ds.length ≤ 10000) ∧
  ((¬ PollD dp ∧ ∀ H', Same H H' → E (.ref cO) none H') ∨ (PollD dp ∧ ¬ WayD f ∧ ∀ H', Same H H' → E (.ref cW) none H') ∨ (PollD dp ∧ WayD f ∧ lmP f < nP dp ∧ ∀ H', Same H H' → E (.ref cT) none H'))
section
variable {P : Program} {w : World} {K : PySem.W.Frag} {mg : Str → Option Value} {base : Heap}
theorem scCPX : FnScope ["thing"] ["thing"] (defScope s_check_poll) := ⟨rfl, rfl, rfl, by decide +kernel, rfl, by decide +kernel, by decide +kernel⟩
set_option maxHeartbeats 2000000 in
theorem ok_cpX {f f1 cO : Addr} {fd d1 : FuncData} {k : Nat} {t : Tok} (T : Df K mg "check_poll" s_check_poll ["thing"] f fd) (T_is_order_list : Df K mg "is_order_list" s_is_order_list ["thing"] f1 d1) (G_is_order_list : FnOk P w K mg base CX0 k f1 d1 ["thing"] spOLD) (X_NoOrder : ExK K mg "NoOrder" cO) (B : Bi mg) (mP : mg "MOST_POLLED" = some (.int 20 t)) : FnOk P w K mg base (L2.CX P w) (k + 1) f fd ["thing"] (spCPX cO) := by
  refine T.F.okX scCPX (fun vs H Q E h => ?_) (fun cdv A outer s H vs Q E hr h => ?_)
  · obtain ⟨v, d, rfl, _⟩ := h
    rfl
  · obtain ⟨v, d, rfl, hd, hl, q1, q2⟩ := h
    refine ⟨_, 
      (pss_one (ps_if (PW.pt (pw_or (pt_not (pt_val (pe_call G_is_order_list hr (by rfl) T_is_order_list.g T_is_order_list.F.kp T_is_order_list.b .nil pass0 (pa_cons (pv 0) pa_nil)))) (pw_or (pt_cmpR op_eq (pe_callB call_len_seq (by rfl) B.len PySem.boot_len (pa_cons (pv 0) pa_nil)) pe_int (nomark _)) (pw_or1 (pt_cmpR op_gt (pe_callB call_len_seq (by rfl) B.len PySem.boot_len (pa_cons (pv 0) pa_nil)) (pe_glob (v := .int 20) (by rfl) mP ⟨_, rfl⟩) (nomark _))))))
        (pss_one (ps_raiseK rfl (takes_of rfl rfl rfl rfl) X_NoOrder (by rfl)))
        pss_nil)), ?_⟩
    refine ⟨_, rfl, v, d, rfl, hd, hl, fun b H1 hb s1 => ⟨_, rfl, ?_⟩⟩
    cases b with
    | false => exact iteT (iteT (q2 (fun z => absurd (hb.mpr z.1) Bool.false_ne_true) _ s1))
    | true =>
      have hO := hb.mp rfl
      obtain ⟨ds, rfl, g1, g2⟩ := id hO
      cases hd with
      | @lst a xs _ e al =>
        have hxl := al.len
        have e1 := s1 _ _ e
        refine iteF ⟨_, rfl, a, _, rfl, .inl (SqL.of e1), rfl, _, rfl, ?_⟩
        by_cases c : ds.length = 0
        · refine ite2 (fun _ => iteT (q2 (fun z => ?_) _ s1)) (fun cc => absurd (decide_eq_true (show V.int ((xs.length : Nat) : Int) = V.int 0 by rw [hxl, c]; rfl)) cc)
          have := (z.2 ds rfl).1
          omega
        · refine ite2 (fun cc => absurd (V.int.inj (of_decide_eq_true cc)) (by rw [hxl]; omega)) (fun _ => ?_)
          refine ⟨_, rfl, a, _, rfl, .inl (SqL.of e1), _, 20, rfl, rfl, _, rfl, ?_⟩
          by_cases c2 : (20 : Int) < ((xs.length : Nat) : Int)
          · refine ite2 (fun _ => q2 (fun z => ?_) _ s1) (fun cc => absurd (decide_eq_true c2) cc)
            have := (z.2 ds rfl).2
            omega
          · exact ite2 (fun cc => absurd (of_decide_eq_true cc) c2) (fun _ => q1 ⟨hO, fun ds' e' => by injection e' with e'; subst e'; omega⟩ _ s1)
theorem scFewY : FnScope ["n", "most"] ["n", "most"] (defScope s_check_few) := ⟨rfl, rfl, rfl, by decide +kernel, rfl, by decide +kernel, by decide +kernel⟩
theorem ok_fewY {f cT : Addr} {fd : FuncData} {k : Nat} (T : Df K mg "check_few" s_check_few ["n", "most"] f fd) (X_TooMany : ExK K mg "TooMany" cT) : FnOk P w K mg base (L2.CX P w) (k + 1) f fd ["n", "most"] (spFewY cT) := by
  refine T.F.okX scFewY (fun vs H Q E h => ?_) (fun cdv A outer s H vs Q E hr h => ?_)
  · obtain ⟨n, m, rfl, _⟩ := h
    rfl
  · obtain ⟨n, m, rfl, m0, m1, q1, q2⟩ := h
    refine ⟨_, 
      (pss_one (ps_if (pt_cmpR op_gt (pv 0) (pv 1) (nomark _))
        (pss_one (ps_raiseA rfl (takes_of rfl rfl rfl rfl) X_TooMany (by rfl) (pe_joined (PJ.cons pe_str (PJ.cons (pe_fmt (pv 1)) (PJ.cons pe_str PJ.nil))))))
        pss_nil)), ?_⟩
    have fits : ∀ u : Nat, u < 13 → ((u : Int).natAbs.log2 < 1920 ∧ (Str.empty ++ Str.ofString "more than " ++ Str.ofString (toString (u : Int))).length ≤ 16777216 ∧ (Str.empty ++ Str.ofString "more than " ++ Str.ofString (toString (u : Int)) ++ Str.ofString " things").length ≤ 16777216) := by decide +kernel
    obtain ⟨u, rfl⟩ : ∃ u : Nat, m = (u : Int) := ⟨m.toNat, by omega⟩
    obtain ⟨g1, g2, g3⟩ := fits u (by omega)
    refine ⟨_, rfl, _, rfl, n, u, rfl, rfl, _, rfl, ite2 (fun c => ?_) (fun c => q1 (Int.not_lt.mp fun h => c (decide_eq_true h)))⟩
    refine ⟨_, rfl, by decide +kernel, _, rfl, .inr ⟨u, rfl, g1, _, rfl, g2, _, rfl, g3, q2 (of_decide_eq_true c)⟩⟩
theorem scMidR : FnScope ["way", "poll", "n"] ["way", "poll"] (defScope s_middle_of) := ⟨rfl, rfl, rfl, by decide +kernel, rfl, by decide +kernel, by decide +kernel⟩
set_option maxHeartbeats 2000000 in
theorem ok_midR {f f1 f3 f4 f5 f6 f7 cO cW cT : Addr} {fd d1 d3 d4 d5 d6 d7 : FuncData} {k : Nat} {tB tL : Tok} (T : Df K mg "middle_of" s_middle_of ["way", "poll"] f fd) (T_check_poll : Df K mg "check_poll" s_check_poll ["thing"] f1 d1) (T_check_way : Df K mg "check_way" s_check_way ["thing"] f3 d3) (T_check_few : Df K mg "check_few" s_check_few ["n", "most"] f4 d4) (T_counts_ahead : Df K mg "counts_ahead" s_counts_ahead ["poll"] f5 d5) (T_middle_by_pairs : Df K mg "middle_by_pairs" s_middle_by_pairs ["ahead"] f6 d6) (T_middle_by_all : Df K mg "middle_by_all" s_middle_by_all ["way", "poll", "n"] f7 d7) (G_check_poll : FnOk P w K mg base (L2.CX P w) k f1 d1 ["thing"] (spCPX cO)) (G_check_way : FnOk P w K mg base (L2.CX P w) k f3 d3 ["thing"] (spWayX cW)) (G_check_few : FnOk P w K mg base (L2.CX P w) k f4 d4 ["n", "most"] (spFewY cT)) (G_counts_ahead : FnOk P w K mg base CX0 k f5 d5 ["poll"] spNev) (G_middle_by_pairs : FnOk P w K mg base CX0 k f6 d6 ["ahead"] spNev) (G_middle_by_all : FnOk P w K mg base CX0 k f7 d7 ["way", "poll", "n"] spNev) (B : Bi mg) (mB : mg "MOST_BY_PAIRS" = some (.int 9 tB)) (mL : mg "MOST_LISTED" = some (.int 6 tL)) : FnOk P w K mg base (L2.CX P w) (k + 1) f fd ["way", "poll"] (spMidR cO cW cT) := by
  refine T.F.okX scMidR (fun vs H Q E h => ?_) (fun cdv A outer s H vs Q E hr h => ?_)
  · obtain ⟨x, p, f, dp, rfl, _⟩ := h
    rfl
  · obtain ⟨x, p, f, dp, rfl, hf, hp, hl, q⟩ := h
    refine ⟨_, 
      (pss_cons (ps_expr (pe_callS G_check_poll hr (by rfl) T_check_poll.g T_check_poll.F.kp T_check_poll.b (fun σ => passAt (takes_of rfl rfl rfl rfl) σ) (pa_cons (pv 1) pa_nil)))
      (pss_cons (ps_expr (pe_callS G_check_way hr (by rfl) T_check_way.g T_check_way.F.kp T_check_way.b (fun σ => passAt (takes_of rfl rfl rfl rfl) σ) (pa_cons (pv 0) pa_nil)))
      (pss_cons (ps_set (i := 2) scMidR.nd rfl (.inl rfl) (pe_callB call_len_seq (by rfl) B.len PySem.boot_len (pa_cons (pe_ix ix_list (pv 1) pe_int (fun _ _ => rfl)) pa_nil)))
      (pss_cons (ps_if (pt_cmpR op_eq (pv 0) pe_str (nomark _))
        (pss_cons (ps_expr (pe_callS G_check_few hr (by rfl) T_check_few.g T_check_few.F.kp T_check_few.b (fun σ => passAt (takes_of rfl rfl rfl rfl) σ) (pa_cons (pv 2) (pa_cons (pe_glob (v := .int 9) (by rfl) mB ⟨_, rfl⟩) pa_nil))))
        (pss_one (ps_ret (pe_call G_middle_by_pairs hr (by rfl) T_middle_by_pairs.g T_middle_by_pairs.F.kp T_middle_by_pairs.b .nil pass0 (pa_cons (pe_call G_counts_ahead hr (by rfl) T_counts_ahead.g T_counts_ahead.F.kp T_counts_ahead.b .nil pass0 (pa_cons (pv 1) pa_nil)) pa_nil)))))
        pss_nil)
      (pss_cons (ps_expr (pe_callS G_check_few hr (by rfl) T_check_few.g T_check_few.F.kp T_check_few.b (fun σ => passAt (takes_of rfl rfl rfl rfl) σ) (pa_cons (pv 2) (pa_cons (pe_glob (v := .int 6) (by rfl) mL ⟨_, rfl⟩) pa_nil))))
      (pss_one (ps_ret (pe_call G_middle_by_all hr (by rfl) T_middle_by_all.g T_middle_by_all.F.kp T_middle_by_all.b .nil pass0 (pa_cons (pv 0) (pa_cons (pv 1) (pa_cons (pv 2) pa_nil))))))))))), ?_⟩
    refine ⟨_, rfl, p, dp, rfl, hp, hl, fun g1 H1 s1 => ?_, fun n1 H1 s1 => ?_⟩
    rotate_left
    · rcases q with ⟨_, q⟩ | ⟨g, _⟩ | ⟨g, _⟩
      · exact q _ s1
      all_goals exact absurd g n1
    refine ⟨_, rfl, x, f, rfl, hf.same s1, fun g3 => ?_, fun n3 => ?_⟩
    rotate_left
    · rcases q with ⟨z, _⟩ | ⟨_, _, q⟩ | ⟨_, g, _⟩
      · exact absurd g1 z
      · exact q _ s1
      all_goals exact absurd g n3
    obtain ⟨l, as, rs, rfl, hO, h1, h2⟩ := poll_ol (hp.same s1) g1
    obtain ⟨z, rfl, wz⟩ := id g3
    cases hf
    obtain ⟨a0, ea0⟩ : ∃ a0, as[0]? = some a0 := ⟨_, List.getElem?_eq_getElem (by rw [hO.ll.len]; omega)⟩
    obtain ⟨r0, er0, ha0⟩ := hO.ll.get ea0
    have l0 := (hO.ord r0 (List.mem_of_getElem? er0)).len
    have l0' : (r0.map V.int).length = nP dp := by rw [List.length_map, l0]
    have hgt : lmP (.str z) < nP dp ∧ ∀ H', Same H H' → E (.ref cT) none H' := by
      rcases q with ⟨z, _⟩ | ⟨_, z, _⟩ | ⟨_, _, q⟩
      · exact absurd g1 z
      · exact absurd g3 z
      · exact q
    refine ⟨_, rfl, l, _, 0, _, rfl, rfl, SqL.of hO.top, at_of (j := 0) rfl (ref_at ea0), a0, _, rfl, .inl (SqL.of ha0), ?_⟩
    rw [l0']
    refine ⟨_, rfl, rfl, _, rfl, ?_⟩
    by_cases c : z = "swap"
    · subst c
      refine ite2 (fun _ => ?_) (fun c => absurd (decide_eq_true rfl) c)
      refine ⟨_, rfl, _, _, rfl, by decide, by decide, fun c => ?_, fun _ => hgt.2 _ s1⟩
      have : (9 : Int) < nP dp := hgt.1
      omega
    · refine ite2 (fun cc => absurd (V.str.inj (of_decide_eq_true cc)) c) (fun _ => ?_)
      refine ⟨_, rfl, _, _, rfl, by decide, by decide, fun cc => ?_, fun _ => hgt.2 _ s1⟩
      have : (if z = "swap" then (9 : Int) else 6) < nP dp := hgt.1
      rw [if_neg c] at this
      omega
end
end Fo
namespace Fo
open PySem PySem.Spec PyProof.Rows L2
def spListX (cF : Addr) : Sp := fun vs H Q E => ∃ (a : Addr) (xs : List V), vs = [.ref a] ∧ H a = some (.lst xs) ∧ (xs.length ≤ 6 → Q .non H) ∧ (6 < xs.length → E (.ref cF) none H)
def SureBad (f e g : PyData) (j : Nat) : Prop := (j = 0 ∧ ¬ LiD e) ∨ (j = 1 ∧ LiD e ∧ ¬ WayD f) ∨ (j = 2 ∧ LiD e ∧ WayD f ∧ ∀ ds y, e = .list ds → ds[0]? = some y → 6 < lenD y) ∨ (j = 4 ∧ LiD e ∧ WayD f ∧ (∀ ds y, e = .list ds → ds[0]? = some y → lenD y ≤ 6) ∧ ¬ FromD 0 g)
def spSureX (c : Nat → Addr) : Sp := fun vs H _ E => ∃ (x u t : V) (f e g : PyData) (j : Nat), vs = [x, u, t] ∧ Dq H x f ∧ Dq H u e ∧ Dq H t g ∧ (∀ ds, e = .list ds → ds.length ≤ 250) ∧ SureBad f e g j ∧ ∀ H', Same H H' → E (.ref (c j)) none H'
theorem head_of {H : Hp} {u : V} {e : PyData} (he : Dq H u e) (li : LiD e) : ∃ (l a0 : Addr) (ms : List Int) (ys : List V) (y : PyData) (es : List PyData), u = .ref l ∧ H l = some (.lst ys) ∧ ys[0]? = some (.ref a0) ∧ H a0 = some (.lst (ms.map V.int)) ∧ e = .list es ∧ es[0]? = some y ∧ lenD y = ms.length := by
  obtain ⟨es, rfl, good, _⟩ := li.1.1
  obtain ⟨l, ys, rfl, hp, ay⟩ := dq_lst he
  have h1 := (li.2 es rfl).1
  have hyl := ay.len
  obtain ⟨y0, ey0⟩ : ∃ y0, ys[0]? = some y0 := ⟨ys[0]'(by omega), List.getElem?_eq_getElem (by omega)⟩
  obtain ⟨d0, ed0, hd0⟩ := ay.get ey0
  obtain ⟨a0, ms, rfl, ha0, _, _, _, l0⟩ := good_at hd0 (good d0 (List.mem_of_getElem? ed0))
  exact ⟨l, a0, ms, ys, d0, es, rfl, hp, ey0, ha0, rfl, ed0, l0⟩
section
variable {P : Program} {w : World} {K : PySem.W.Frag} {mg : Str → Option Value} {base : Heap}
theorem scListX : FnScope ["order"] ["order"] (defScope s_check_listed) := ⟨rfl, rfl, rfl, by decide +kernel, rfl, by decide +kernel, by decide +kernel⟩
theorem ok_listX {f cF : Addr} {fd : FuncData} {k : Nat} {tL : Tok} (T : Df K mg "check_listed" s_check_listed ["order"] f fd) (mL : mg "MOST_LISTED" = some (.int 6 tL)) (X_NoFit : ExK K mg "NoFit" cF) (B : Bi mg) : FnOk P w K mg base (L2.CX P w) (k + 1) f fd ["order"] (spListX cF) := by
  refine T.F.okX scListX (fun vs H Q E h => ?_) (fun cdv A outer s H vs Q E hr h => ?_)
  · obtain ⟨a, xs, rfl, _⟩ := h
    rfl
  · obtain ⟨a, xs, rfl, ha, q1, q2⟩ := h
    refine ⟨_, 
      (pss_one (ps_if (pt_cmpR op_gt (pe_callB call_len_seq (by rfl) B.len PySem.boot_len (pa_cons (pv 0) pa_nil)) (pe_glob (v := .int 6) (by rfl) mL ⟨_, rfl⟩) (nomark _))
        (pss_one (ps_raiseK rfl (takes_of rfl rfl rfl rfl) X_NoFit (by rfl)))
        pss_nil)), ?_⟩
    refine ⟨_, rfl, a, _, rfl, .inl (SqL.of ha), _, _, rfl, rfl, _, rfl, ?_⟩
    by_cases c : 6 < xs.length
    · rw [decide_eq_true (show (6 : Int) < (xs.length : Int) by omega)]
      exact iteT (q2 c)
    · rw [decide_eq_false (show ¬ (6 : Int) < (xs.length : Int) by omega)]
      exact iteF (q1 (by omega))
theorem scSureX : FnScope ["way", "orders", "e"] ["way", "orders", "e"] (defScope s_check_sure) := ⟨rfl, rfl, rfl, by decide +kernel, rfl, by decide +kernel, by decide +kernel⟩
set_option maxHeartbeats 2000000 in
theorem ok_sureX {f f1 f2 f3 f4 : Addr} {c : Nat → Addr} {fd d1 d2 d3 d4 : FuncData} {k : Nat} (T : Df K mg "check_sure" s_check_sure ["way", "orders", "e"] f fd) (T_check_unlike_list : Df K mg "check_unlike_list" s_check_unlike_list ["thing"] f1 d1) (T_check_way : Df K mg "check_way" s_check_way ["thing"] f2 d2) (T_check_listed : Df K mg "check_listed" s_check_listed ["order"] f3 d3) (T_check_from : Df K mg "check_from" s_check_from ["thing", "least"] f4 d4) (G_check_unlike_list : FnOk P w K mg base (L2.CX P w) k f1 d1 ["thing"] (spCUX (c 0))) (G_check_way : FnOk P w K mg base (L2.CX P w) k f2 d2 ["thing"] (spWayX (c 1))) (G_check_listed : FnOk P w K mg base (L2.CX P w) k f3 d3 ["order"] (spListX (c 2))) (G_check_from : FnOk P w K mg base (L2.CX P w) k f4 d4 ["thing", "least"] (spFromX (c 4))) (B : Bi mg) : FnOk P w K mg base (L2.CX P w) (k + 1) f fd ["way", "orders", "e"] (spSureX c) := by
  refine T.F.okX scSureX (fun vs H Q E h => ?_) (fun cdv A outer s H vs Q E hr h => ?_)
  · obtain ⟨x, u, t, f, e, g, j, rfl, _⟩ := h
    rfl
  · obtain ⟨x, u, t, f, e, g, j, rfl, hf, he, ht, hl, hb, q⟩ := h
    refine ⟨_, 
      (pss_cons (ps_expr (pe_callS G_check_unlike_list hr (by rfl) T_check_unlike_list.g T_check_unlike_list.F.kp T_check_unlike_list.b (fun σ => passAt (takes_of rfl rfl rfl rfl) σ) (pa_cons (pv 1) pa_nil)))
      (pss_cons (ps_expr (pe_callS G_check_way hr (by rfl) T_check_way.g T_check_way.F.kp T_check_way.b (fun σ => passAt (takes_of rfl rfl rfl rfl) σ) (pa_cons (pv 0) pa_nil)))
      (pss_cons (ps_expr (pe_callS G_check_listed hr (by rfl) T_check_listed.g T_check_listed.F.kp T_check_listed.b (fun σ => passAt (takes_of rfl rfl rfl rfl) σ) (pa_cons (pe_ix ix_list (pv 1) pe_int (fun _ _ => rfl)) pa_nil)))
      (pss_one (ps_expr (pe_callS G_check_from hr (by rfl) T_check_from.g T_check_from.F.kp T_check_from.b (fun σ => passAt (takes_of rfl rfl rfl rfl) σ) (pa_cons (pv 2) (pa_cons pe_int pa_nil)))))))), ?_⟩
    rcases hb with ⟨rfl, nl⟩ | ⟨rfl, li, nw⟩ | ⟨rfl, li, wy, big⟩ | ⟨rfl, li, wy, sm, nf⟩
    · exact ⟨_, rfl, u, e, rfl, he, hl, fun z => absurd z nl, fun _ H1 s1 => q _ s1⟩
    · refine ⟨_, rfl, u, e, rfl, he, hl, fun _ H1 s1 => ?_, fun z => absurd li z⟩
      exact ⟨_, rfl, x, f, rfl, hf.same s1, fun z => absurd z nw, fun _ => q _ s1⟩
    · refine ⟨_, rfl, u, e, rfl, he, hl, fun _ H1 s1 => ?_, fun z => absurd li z⟩
      refine ⟨_, rfl, x, f, rfl, hf.same s1, fun _ => ?_, fun z => absurd wy z⟩
      obtain ⟨l, a0, ms, ys, y, es, rfl, hp, ey, ha0, ee, ees, l2⟩ := head_of (he.same s1) li
      have h6 := big es y ee ees
      exact ⟨_, rfl, l, _, 0, _, rfl, rfl, SqL.of hp, at_of (j := 0) rfl ey, a0, _, rfl, ha0, fun z => absurd z (by rw [List.length_map]; omega), fun _ => q _ s1⟩
    · refine ⟨_, rfl, u, e, rfl, he, hl, fun _ H1 s1 => ?_, fun z => absurd li z⟩
      refine ⟨_, rfl, x, f, rfl, hf.same s1, fun _ => ?_, fun z => absurd wy z⟩
      obtain ⟨l, a0, ms, ys, y, es, rfl, hp, ey, ha0, ee, ees, l2⟩ := head_of (he.same s1) li
      have h6 := sm es y ee ees
      refine ⟨_, rfl, l, _, 0, _, rfl, rfl, SqL.of hp, at_of (j := 0) rfl ey, a0, _, rfl, ha0, fun _ => ?_, fun z => absurd z (by rw [List.length_map]; omega)⟩
      exact ⟨_, rfl, t, g, 0, rfl, ht.same s1, by decide, by decide, fun z => absurd z nf, fun _ => q _ s1⟩
theorem scNotR : FnScope ["way", "orders", "e", "order", "near"] ["way", "orders", "e"] (defScope s_not_sure) := ⟨rfl, rfl, rfl, by decide +kernel, rfl, by decide +kernel, by decide +kernel⟩
set_option maxHeartbeats 2000000 in
theorem ok_notR {f f1 f2 f3 : Addr} {c : Nat → Addr} {fd d1 d2 d3 : FuncData} {k : Nat} (T : Df K mg "not_sure" s_not_sure ["way", "orders", "e"] f fd) (T_check_sure : Df K mg "check_sure" s_check_sure ["way", "orders", "e"] f1 d1) (T_all_orders : Df K mg "all_orders" s_all_orders ["n"] f2 d2) (T_those_within : Df K mg "those_within" s_those_within ["way", "order", "orders", "r"] f3 d3) (G_check_sure : FnOk P w K mg base (L2.CX P w) k f1 d1 ["way", "orders", "e"] (spSureX c)) (B : Bi mg) : FnOk P w K mg base (L2.CX P w) (k + 1) f fd ["way", "orders", "e"] (spSureX c) := by
  have G_all_orders : FnOk P w K mg base CX0 k f2 d2 ["n"] spNever := fn_never
  have G_those_within : FnOk P w K mg base CX0 k f3 d3 ["way", "order", "orders", "r"] spNever := fn_never
  refine T.F.okX scNotR (fun vs H Q E h => ?_) (fun cdv A outer s H vs Q E hr h => ?_)
  · obtain ⟨x, u, t, f, e, g, j, rfl, _⟩ := h
    rfl
  · obtain ⟨x, u, t, f, e, g, j, rfl, hf, he, ht, hl, hb, q⟩ := h
    refine ⟨_, 
      (pss_cons (ps_expr (pe_callS G_check_sure hr (by rfl) T_check_sure.g T_check_sure.F.kp T_check_sure.b (fun σ => passAt (takes_of rfl rfl rfl rfl) σ) (pa_cons (pv 0) (pa_cons (pv 1) (pa_cons (pv 2) pa_nil)))))
      (pss_cons (ps_for (passes_of rfl) rfl (pi_list (pe_call G_all_orders hr (by rfl) T_all_orders.g T_all_orders.F.kp T_all_orders.b .nil pass0 (pa_cons (pe_callB call_len_seq (by rfl) B.len PySem.boot_len (pa_cons (pe_ix ix_list (pv 1) pe_int (fun _ _ => rfl)) pa_nil)) pa_nil))) (pg_name (i := 3) scNotR.nd rfl (.inl rfl))
        (pss_cons (ps_set (i := 4) scNotR.nd rfl (.inl rfl) (pe_call G_those_within hr (by rfl) T_those_within.g T_those_within.F.kp T_those_within.b .nil pass0 (pa_cons (pv 0) (pa_cons (pv 3) (pa_cons (pv 1) (pa_cons (pv 2) pa_nil))))))
        (pss_one (ps_if (pt_cmpR op_gt (pe_callB call_len_seq (by rfl) B.len PySem.boot_len (pa_cons (pv 4) pa_nil)) pe_int (nomark _))
          (pss_one (ps_ret (pe_tup (pa_cons (pv 3) (pa_cons (pe_ix ix_list (pv 4) pe_int (fun _ _ => rfl)) (pa_cons (pe_ix ix_list (pv 4) pe_int (fun _ _ => rfl)) pa_nil))))))
          pss_nil))))
      (pss_one (ps_ret pe_non)))), ?_⟩
    exact ⟨_, rfl, _, rfl, _, rfl, x, u, t, f, e, g, j, rfl, hf, he, ht, hl, hb, q⟩
end
end Fo
namespace Fo
open PySem PySem.Spec PyProof.Rows L2 TL
def spWr : Sp := fun vs H Q _ => ∃ (a : Addr) (n : Nat) (xs : List Int), vs = [.ref a] ∧ H a = some (.lst (xs.map V.int)) ∧ IsOrd n xs ∧ 1 ≤ n ∧ n ≤ 12 ∧ ∀ H', Same H H' → Q (.str (wrT xs)) H'
def spWrL : Sp := fun vs H Q _ => ∃ (l : Addr) (as : List Addr) (rs : List (List Int)) (n : Nat), vs = [.ref l] ∧ OL H l as rs n ∧ rs.length ≤ 1000 ∧ ∀ H', Same H H' → Q (.str (wrL rs)) H'
section
variable {P : Program} {w : World} {K : PySem.W.Frag} {mg : Str → Option Value} {base : Heap}
theorem scWr : FnScope ["order", "thing"] ["order"] (defScope s_written) := ⟨rfl, rfl, rfl, by decide +kernel, rfl, by decide +kernel, by decide +kernel⟩
set_option maxHeartbeats 2000000 in
theorem ok_wr {f : Addr} {fd : FuncData} {k : Nat} (T : Df K mg "written" s_written ["order"] f fd) (B : Bi mg) : FnOk P w K mg base CX0 (k + 1) f fd ["order"] spWr := by
  refine T.F.ok scWr (fun vs H Q E h => ?_) (fun cdv A outer s H vs Q E hr h => ?_)
  · obtain ⟨a, n, xs, rfl, _⟩ := h
    rfl
  · obtain ⟨a, n, xs, rfl, ha, ox, h1, h2, q⟩ := h
    refine ⟨_, 
      (pss_one (ps_ret (pe_join pe_str (pe_lc (own := [("thing", 1)]) (g := (gName 1)) (tt := tYes) (te := (tCB rStrI (tCons (tVar 1) tNil))) rfl scWr.nd (pi_list (pv 0)) (blkOk_by (N := ["order", "thing"]) (sc := defScope s_written) (by decide +kernel)) (fun _ _ _ _ _ => (pg_name (i := 1) scWr.nd rfl (.inl rfl))) (fun _ _ _ _ _ => pts_nil) (fun _ _ _ _ _ => (pe_callTy call_str_int (by rfl) B.str (by decide +kernel) (pa_cons (pv 1) pa_nil))))))), ?_⟩
    refine ⟨⟨_, rfl⟩, _, rfl, a, rfl, ⟨_, SqL.of ha⟩, fun p np => ?_⟩
    refine lc_list (K := K) (a := a) (xs := xs.map V.int) (fun i H3 => H3 p = some (.lst (((xs.take i).map decT).map V.str)) ∧ Same H H3) ⟨upd_same, same_new np⟩ (fun i H3 _ hP => SqL.of (hP.2 _ _ ha)) (fun i x H3 hx hP => ?_) (fun H3 hP => ?_)
    · obtain ⟨y, ey, rfl⟩ := int_at_inv hx
      obtain ⟨hp3, sm⟩ := hP
      have hi := (List.getElem?_eq_some_iff.mp ey).1
      have hy := ox.mem (List.mem_of_getElem? ey)
      rw [ox.len] at hi
      refine ⟨rfl, _, rfl, y, rfl, log_small hy.1 (by omega), _, hp3, line_lt (by rw [List.length_map, List.length_map, List.length_take]; omega), ?_, fun b o e => ?_⟩
      · rw [upd_same, take_more ey, List.map_append, List.map_append]
        rfl
      · rw [upd_ne (ne_of_none e np)]
        exact sm _ _ e
    · obtain ⟨hp3, sm⟩ := hP
      rw [List.length_map, List.take_length] at hp3
      refine ⟨_, p, _, rfl, rfl, .inl (SqL.of hp3), ?_, q _ sm⟩
      have := dec_sum ox h2
      rw [List.length_map, ox.len]
      show _ + n * 1 ≤ 16777216
      omega
theorem scShow : FnScope ["order"] ["order"] (defScope s_show_order) := ⟨rfl, rfl, rfl, by decide +kernel, rfl, by decide +kernel, by decide +kernel⟩
theorem ok_show {f f1 f2 : Addr} {fd d1 d2 : FuncData} {k : Nat} (T : Df K mg "show_order" s_show_order ["order"] f fd) (T_check_order : Df K mg "check_order" s_check_order ["thing"] f1 d1) (T_written : Df K mg "written" s_written ["order"] f2 d2) (G_check_order : FnOk P w K mg base CX0 k f1 d1 ["thing"] spCheck) (G_written : FnOk P w K mg base CX0 k f2 d2 ["order"] spWr) : FnOk P w K mg base CX0 (k + 1) f fd ["order"] spWr := by
  refine T.F.ok scShow (fun vs H Q E h => ?_) (fun cdv A outer s H vs Q E hr h => ?_)
  · obtain ⟨a, n, xs, rfl, _⟩ := h
    rfl
  · obtain ⟨a, n, xs, rfl, ha, ox, h1, h2, q⟩ := h
    refine ⟨_, 
      (pss_cons (ps_expr (pe_call G_check_order hr (by rfl) T_check_order.g T_check_order.F.kp T_check_order.b .nil pass0 (pa_cons (pv 0) pa_nil)))
      (pss_one (ps_ret (pe_call G_written hr (by rfl) T_written.g T_written.F.kp T_written.b .nil pass0 (pa_cons (pv 0) pa_nil))))), ?_⟩
    exact ⟨_, rfl, a, n, xs, rfl, ha, ox, h1, h2, fun H1 s1 => ⟨_, rfl, a, n, xs, rfl, s1 _ _ ha, ox, h1, h2, fun H2 s2 => q _ (s1.trans s2)⟩⟩
theorem scShowL : FnScope ["orders", "order"] ["orders"] (defScope s_show_orders) := ⟨rfl, rfl, rfl, by decide +kernel, rfl, by decide +kernel, by decide +kernel⟩
set_option maxHeartbeats 2000000 in
theorem ok_showL {f f1 f2 : Addr} {fd d1 d2 : FuncData} {k : Nat} {t : Tok} (T : Df K mg "show_orders" s_show_orders ["orders"] f fd) (T_is_order_list : Df K mg "is_order_list" s_is_order_list ["thing"] f1 d1) (T_written : Df K mg "written" s_written ["order"] f2 d2) (G_is_order_list : FnOk P w K mg base CX0 k f1 d1 ["thing"] spOLst) (G_written : FnOk P w K mg base CX0 k f2 d2 ["order"] spWr) (B : Bi mg) (mN : mg "NO_ORDERS" = some (.str "-" t)) : FnOk P w K mg base CX0 (k + 1) f fd ["orders"] spWrL := by
  refine T.F.ok scShowL (fun vs H Q E h => ?_) (fun cdv A outer s H vs Q E hr h => ?_)
  · obtain ⟨l, as, rs, n, rfl, _⟩ := h
    rfl
  · obtain ⟨l, as, rs, n, rfl, hO, hlen, q⟩ := h
    have hal := hO.ll.len
    refine ⟨_, 
      (pss_cons (ps_if (pt_not (pt_val (pe_call G_is_order_list hr (by rfl) T_is_order_list.g T_is_order_list.F.kp T_is_order_list.b .nil pass0 (pa_cons (pv 0) pa_nil))))
        (pss_one ps_never)
        pss_nil)
      (pss_cons (ps_if (pt_cmpR op_eq (pe_callB call_len_seq (by rfl) B.len PySem.boot_len (pa_cons (pv 0) pa_nil)) pe_int (nomark _))
        (pss_one (ps_ret (pe_glob (v := .str "-") (by rfl) mN ⟨_, rfl⟩)))
        pss_nil)
      (pss_one (ps_ret (pe_join pe_str (pe_lc (own := [("order", 1)]) (g := (gName 1)) (tt := tYes) (te := (tCall spWr [] E0 (tCons (tVar 1) tNil))) rfl scShowL.nd (pi_list (pv 0)) (blkOk_by (N := ["orders", "order"]) (sc := defScope s_show_orders) (by decide +kernel)) (fun _ _ _ _ _ => (pg_name (i := 1) scShowL.nd rfl (.inl rfl))) (fun _ _ _ _ _ => pts_nil) (fun _ _ _ _ _ => (pe_call G_written hr (by rfl) T_written.g T_written.F.kp T_written.b .nil pass0 (pa_cons (pv 1) pa_nil))))))))), ?_⟩
    refine ⟨_, rfl, l, as, rs, n, rfl, hO, hlen, fun H1 s1 => ⟨_, rfl, iteF ?_⟩⟩
    have h1 := hO.same s1
    refine ⟨_, rfl, l, _, rfl, .inl (SqL.of h1.top), rfl, _, rfl, ite2 (fun c => ?_) (fun c => ?_)⟩
    · have z : V.int (((as.map V.ref).length : Nat) : Int) = V.int 0 := of_decide_eq_true c
      have z2 : (((as.map V.ref).length : Nat) : Int) = 0 := V.int.inj z
      rw [List.length_map] at z2
      have e : rs = [] := List.eq_nil_of_length_eq_zero (by omega)
      subst e
      exact q _ s1
    · have hne : rs ≠ [] := fun e => c (decide_eq_true (by rw [List.length_map, hal, e]; rfl))
      refine ⟨⟨_, rfl⟩, _, rfl, l, rfl, ⟨_, SqL.of h1.top⟩, fun p np => ?_⟩
      refine lc_list (K := K) (a := l) (xs := as.map V.ref) (fun i H3 => H3 p = some (.lst (((rs.take i).map wrT).map V.str)) ∧ Same H1 H3) ⟨upd_same, same_new np⟩ (fun i H3 _ hP => SqL.of (hP.2 _ _ h1.top)) (fun i x H3 hx hP => ?_) (fun H3 hP => ?_)
      · obtain ⟨a, ea, rfl⟩ := ref_at_inv hx
        obtain ⟨hp3, sm⟩ := hP
        have hi := (List.getElem?_eq_some_iff.mp ea).1
        obtain ⟨r, er, ha⟩ := (h1.ll.same sm).get ea
        refine ⟨rfl, _, rfl, a, n, r, rfl, ha, hO.ord r (List.mem_of_getElem? er), hO.n1, hO.n2, fun H4 s4 => ⟨_, s4 _ _ hp3, line_lt (by rw [List.length_map, List.length_map, List.length_take]; omega), ?_, fun b o e => ?_⟩⟩
        · rw [upd_same, take_more' er, List.map_append, List.map_append]
          rfl
        · rw [upd_ne (ne_of_none e np)]
          exact s4 _ _ (sm _ _ e)
      · obtain ⟨hp3, sm⟩ := hP
        rw [List.length_map, List.take_of_length_le (by omega)] at hp3
        refine ⟨_, p, _, rfl, rfl, .inl (SqL.of hp3), ?_, ?_⟩
        · have := wr_sum hO.ord hO.n2
          rw [List.length_map]
          show _ + rs.length * 2 ≤ 16777216
          omega
        · have z := q _ (s1.trans sm)
          unfold wrL at z
          rw [if_neg hne] at z
          exact z
end
end Fo
namespace L2
open PySem PySem.Spec PyProof.Rows
/-! a dict that the module's top has made, and a call of what it holds -/
structure DKs (P : Program) (w : World) (K : PySem.W.Frag) (a : Addr) (kvs : List (Key × V)) : Prop where
  ex : ∀ h : Heap, K.In h → kvs.length ≤ sizeLine ∧ (a == sysModules) = false ∧ ∃ vs, KV kvs vs ∧ h.DictOf (mixKind P w) a vs
def tDGetK (D : Addr → List (Key × V) → Prop) (td ty : TE) : TE := fun σ H Q => td σ H fun x H1 => ty σ H1 fun y H2 => ∃ a kvs k v, x = .ref a ∧ D a kvs ∧ y = kV k ∧ valV kvs k = some v ∧ Q v H2
def tDInK (D : Addr → List (Key × V) → Prop) (ty td : TE) : TE := fun σ H Q => ty σ H fun y H1 => td σ H1 fun x H2 => ∃ a kvs k, x = .ref a ∧ D a kvs ∧ y = kV k ∧ Q (.bl (valV kvs k).isSome) H2
section
variable {X : Cx} {o i e value : Expr} {pos pos' tpos : Pos} {td ty tv : TE}
theorem pc_dinK (hi : PE X i ty) (ho : PE X o td) : PC X .In i o (tDInK (DKs X.prog X.w X.K) ty td) := by
  refine ⟨fun pins s σ H Q I h => ?_⟩
  refine thn (hi.run pins s σ H _ I h) fun iv s1 ⟨y, H1, I1, ry, q1⟩ => thn (ho.run pins s1 σ H1 _ I1 q1) fun u s2 ⟨x, H2, I2, rx, a, kvs, k, ex, g, ey, q2⟩ => ?_
  subst ex
  subst ey
  obtain rfl : u = Value.ref a := rx
  obtain ⟨z, hd, vs, rel, dd⟩ := g.ex s2.heap I2.kIn
  refine wpAny_in_of (kV_is ry) hd dd.mapOf ?_
  rw [← (rel.val k).isSome_eq]
  exact ⟨.bl (valV kvs k).isSome, H2, I2.tok _, rfl, q2⟩
theorem pe_dgetK (ho : PE X o td) (hi : PE X i ty) (hs : NoSl i) : PE X (.Subscript o i pos) (tDGetK (DKs X.prog X.w X.K) td ty) := by
  refine ⟨fun pins s σ H Q I h => ?_⟩
  refine subD_of PySem.F.slot_dict_getitem.lookup hs (thn (ho.run pins s σ H _ I h) fun u s1 ⟨x, H1, I1, rx, q1⟩ => thn (hi.run pins s1 σ H1 _ I1 q1) fun iv s2 ⟨y, H2, I2, ry, a, kvs, k, v, ex, g, ey, ev, q2⟩ => ?_)
  subst ex
  subst ey
  obtain rfl : u = Value.ref a := rx
  obtain ⟨z, hd, vs, rel, dd⟩ := g.ex s2.heap I2.kIn
  refine ⟨dd.typeIs, ?_⟩
  obtain ⟨w', hw, rw'⟩ := RelO.some_of (v := v) (o := valueAt vs k) (by rw [← ev]; exact rel.val k)
  exact wpAny_getItem_of (kV_is ry) dd.mapOf hw ⟨v, H2, I2.tok _, rw', q2⟩
end
structure HeldX (P : Program) (w : World) (K : PySem.W.Frag) (mg : Str → Option Value) (base : Heap) (k : Nat) (f : Addr) (sp : Sp) : Prop where
  ex : ∃ (fd : FuncData) (ps : List Str), FnOk P w K mg base (L2.CX P w) k f fd ps sp ∧ PySem.W.keepIn K (.ref f) = true ∧ Binds K fd ps []
def tCallAX (i : Nat) (S : Addr → Sp → Prop) (E : L2.St → XK) (t : TA) : TE := fun σ H Q => ∃ f sp, σ[i]? = some (some (.ref f)) ∧ S f sp ∧ t σ H fun vs H1 => sp vs H1 Q (E σ)
section
variable {X : Cx} {k i : Nat} {E : L2.St → XK} {x : Str} {p pos : Pos} {e : Expr} {es : List Expr} {t : TA}
theorem pe_callAX (hr : Room k X.A) (hN : X.N[i]? = some x) (hv : Vis X.env.scope x) (hx : ∀ σ, PassesAt (L2.CX X.prog X.w) X σ (E σ)) (ha : PA X (e :: es) t)
    (hdb : (x == ("__debug__" : Str)) = false := by decide) (hcd : (x == ("__classdict__" : Str)) = false := by decide)
    (he : starEach (e :: es) X.env = (false, eval e X.env) :: starEach es X.env := by rfl) (hpl : (backTo pos (starEach es X.env)).any (·.1) = false := by rfl) : PE X (.Call (.Name x p) (e :: es) [] pos) (tCallAX i (HeldX X.prog X.w X.K X.mg X.base k) E t) := by
  refine ⟨fun pins s σ H Q I h => ?_⟩
  obtain ⟨f, sp, hs, A, ht⟩ := h
  obtain ⟨fd, ps, F, hk, hb⟩ := A.ex
  refine wpAny_Call_Name_kw (thn ((pe_var (pos := p) hN hv hdb hcd).run pins s σ H (fun v H1 => v = .ref f ∧ H1 = H) I ⟨.ref f, hs, rfl, rfl⟩) fun u s1 ⟨v, H1, I1, r1, q1⟩ => ?_)
  obtain ⟨rfl, rfl⟩ := q1
  cases r1
  refine PySem.W.callWith_K (h₀ := X.base) I.ok.mod.kin hk (thn (ha.run pos pins s1 σ _ _ I1 ht) fun us s2 ⟨vs, H2, I2, r, q⟩ => ⟨I2.kIn, ?_⟩) he hpl
  exact run_fnS F hr hb (hx σ) I2 r q
end
end L2
namespace Fo
open PySem PySem.Spec PyProof.Rows L2
/-! the bounds that are refused -/
def spPX (cW cN : Addr) : Sp := fun vs H Q E => ∃ (x v u : V) (f d e : PyData) (m : Int), vs = [x, v, .int m, u] ∧ 0 ≤ m ∧ m ≤ 1000 ∧ Dq H x f ∧ Dq H v d ∧ Dq H u e ∧ ((¬ WayD f ∧ E (.ref cW) none H) ∨ (WayD f ∧ ¬ (SizeD m d ∧ FromD 1 e) ∧ E (.ref cN) none H))
section
variable {P : Program} {w : World} {K : PySem.W.Frag} {mg : Str → Option Value} {base : Heap}
theorem scPX : FnScope ["way", "n", "most", "d"] ["way", "n", "most", "d"] (defScope s_check_apart) := ⟨rfl, rfl, rfl, by decide +kernel, rfl, by decide +kernel, by decide +kernel⟩
theorem ok_apX {f f1 f2 f3 cW cN : Addr} {fd d1 d2 d3 : FuncData} {k : Nat} (T : Df K mg "check_apart" s_check_apart ["way", "n", "most", "d"] f fd) (T_check_way : Df K mg "check_way" s_check_way ["thing"] f1 d1) (T_check_size : Df K mg "check_size" s_check_size ["thing", "most"] f2 d2) (T_check_from : Df K mg "check_from" s_check_from ["thing", "least"] f3 d3) (G_check_way : FnOk P w K mg base (L2.CX P w) k f1 d1 ["thing"] (spWayX cW)) (G_check_size : FnOk P w K mg base (L2.CX P w) k f2 d2 ["thing", "most"] (spSizeX cN)) (G_check_from : FnOk P w K mg base (L2.CX P w) k f3 d3 ["thing", "least"] (spFromX cN)) : FnOk P w K mg base (L2.CX P w) (k + 1) f fd ["way", "n", "most", "d"] (spPX cW cN) := by
  refine T.F.okX scPX (fun vs H Q E h => ?_) (fun cdv A outer s H vs Q E hr h => ?_)
  · obtain ⟨x, v, u, f, d, e, m, rfl, _⟩ := h
    rfl
  · obtain ⟨x, v, u, f, d, e, m, rfl, m0, m1, hf, hd, he, q⟩ := h
    refine ⟨_, 
      (pss_cons (ps_expr (pe_callS G_check_way hr (by rfl) T_check_way.g T_check_way.F.kp T_check_way.b (fun σ => passAt (takes_of rfl rfl rfl rfl) σ) (pa_cons (pv 0) pa_nil)))
      (pss_cons (ps_expr (pe_callS G_check_size hr (by rfl) T_check_size.g T_check_size.F.kp T_check_size.b (fun σ => passAt (takes_of rfl rfl rfl rfl) σ) (pa_cons (pv 1) (pa_cons (pv 2) pa_nil))))
      (pss_one (ps_expr (pe_callS G_check_from hr (by rfl) T_check_from.g T_check_from.F.kp T_check_from.b (fun σ => passAt (takes_of rfl rfl rfl rfl) σ) (pa_cons (pv 3) (pa_cons pe_int pa_nil))))))), ?_⟩
    refine ⟨_, rfl, x, f, rfl, hf, fun wy => ?_, fun nw => ?_⟩
    · rcases q with ⟨nw, _⟩ | ⟨_, nn, q⟩
      · exact absurd wy nw
      refine ⟨_, rfl, _, rfl, v, d, m, rfl, hd, m0, m1, fun sz => ?_, fun _ => q⟩
      exact ⟨_, rfl, u, e, 1, rfl, he, by decide, by decide, fun fr => absurd ⟨sz, fr⟩ nn, fun _ => q⟩
    · rcases q with ⟨_, q⟩ | ⟨wy, _⟩
      · exact q
      · exact absurd wy nw
end
end Fo
namespace Fo
open PySem PySem.Spec PyProof.Rows L2
def spInitX (cW cN : Addr) : Sp := fun vs H Q E => ∃ (a : Addr) (x v u : V) (f d e : PyData), vs = [.ref a, x, v, u] ∧ Dq H x f ∧ Dq H v d ∧ Dq H u e ∧ ((¬ WayD f ∧ E (.ref cW) none H) ∨ (WayD f ∧ ¬ (SizeD 8 d ∧ FromD 1 e) ∧ E (.ref cN) none H))
section
variable {P : Program} {w : World} {K : PySem.W.Frag} {mg : Str → Option Value} {base : Heap}
theorem scInitX : FnScope ["self", "way", "n", "d"] ["self", "way", "n", "d"] (defScope s_Lister___init__) := ⟨rfl, rfl, rfl, by decide +kernel, rfl, by decide +kernel, by decide +kernel⟩
theorem ok_initX {C_Lister fI f f1 cW cN : Addr} {fd d1 : FuncData} {k : Nat} {tK : Tok} (T : Dm K C_Lister "__init__" "Lister.__init__" s_Lister___init__ ["self", "way", "n", "d"] f fd) (TC : TxL K mg C_Lister fI) (T_check_apart : Df K mg "check_apart" s_check_apart ["way", "n", "most", "d"] f1 d1) (G_check_apart : FnOk P w K mg base (L2.CX P w) k f1 d1 ["way", "n", "most", "d"] (spPX cW cN)) (mK : mg "MOST_KEPT" = some (.int 8 tK)) : FnOk P w K mg base (L2.CX P w) (k + 1) f fd ["self", "way", "n", "d"] (spInitX cW cN) := by
  have T_Lister := TC
  refine T.F.okX scInitX (fun vs H Q E h => ?_) (fun cdv A outer s H vs Q E hr h => ?_)
  · obtain ⟨a, x, v, u, f, d, e, rfl, _⟩ := h
    rfl
  · obtain ⟨a, x, v, u, f, d, e, rfl, hf, hd, he, q⟩ := h
    refine ⟨_, 
      (pss_cons (ps_expr (pe_callS G_check_apart hr (by rfl) T_check_apart.g T_check_apart.F.kp T_check_apart.b (fun σ => passAt (takes_of rfl rfl rfl rfl) σ) (pa_cons (pv 1) (pa_cons (pv 2) (pa_cons (pe_glob (v := .int 8) (by rfl) mK ⟨_, rfl⟩) (pa_cons (pv 3) pa_nil))))))
      (pss_cons (ps_fld (pv 0) (pv 1) rfl)
      (pss_cons (ps_fld (pv 0) (pv 2) rfl)
      (pss_cons (ps_fld (pv 0) (pv 3) rfl)
      (pss_cons (ps_fld (pv 0) (pe_lst pa_nil) rfl)
      (pss_one (ps_fld (pv 0) (pe_lst pa_nil) rfl))))))), ?_⟩
    exact ⟨_, rfl, _, rfl, _, rfl, x, v, u, f, d, e, 8, rfl, by decide, by decide, hf, hd, he, q⟩
end
end Fo
namespace L2
open PySem PySem.Spec PyProof.Rows PySem.W
/-! first, *others = a list -/
section
variable {X : Cx} {pos : Pos}
theorem pgs_star {e : Expr} {es : List Expr} {p : Pos} {t : TG} {u : TGs} (h1 : PG X e t) (h2 : PGs X es u)
    (hs : (assignEach (.Starred e p :: es) X.env).map (·.2) = assign e X.env :: (assignEach es X.env).map (·.2) := by rfl) : PGs X (.Starred e p :: es) (gCons t u) := by
  refine ⟨fun pins s σ H vs us Q I r h => ?_⟩
  obtain ⟨v, vr, e1, h⟩ := h
  subst e1
  cases r with
  | cons r rr =>
    rw [hs]
    refine assignInOrder_cons (thn (h1.run pins s σ H _ _ _ I r h) fun _ s1 ⟨σ1, H1, I1, q1⟩ => ?_)
    exact h2.run pins s1 σ1 H1 _ _ Q I1 rr q1
def gStar1 (K : PySem.W.Frag) (t : TGs) : TG := fun v σ H Q => ∃ a x xs, v = .ref a ∧ SqL K H a (x :: xs) ∧ xs.length < 16384 ∧ ∀ D, H D = none → t [x, .ref D] σ (upd H D (.lst xs)) Q
theorem pg_star1 {e1 e2 : Expr} {p : Pos} {k : Nat} {t : TGs} (hc : X.calm = true) (h : PGs X [e1, .Starred e2 p] t)
    (hn : (assignEach [e1, .Starred e2 p] X.env).length = 2 := by rfl) (hst : (assignEach [e1, .Starred e2 p] X.env).findIdx? (·.1) = some 1 := by rfl) : PG X (.Tuple [e1, .Starred e2 p] k pos) (gStar1 X.K t) := by
  refine ⟨fun pins s σ H v u Q I r hw => ?_⟩
  obtain ⟨a, x, xs, e0, hq, hz, hw⟩ := hw
  subst e0
  cases r
  obtain ⟨its, rv, pl, _⟩ := I.list hq
  cases rv with
  | cons r0 rr =>
    rename_i ux uxs
    have hh : X.A.handled = none := I.ok.hd hc
    have hl : s.heap.IsList a (ux :: uxs).toArray := by
      obtain ⟨o, m, e, c, d, q⟩ := pl
      exact ⟨o, e, c, m, q⟩
    have hlen : uxs.length = xs.length := rr.length.symm
    rw [PyProof.Rows.assign_Tuple]
    refine wpAny_bind (wpAny_standAt ?_)
    unfold unpack
    rw [hn, hst]
    refine wpAny_bind (wpAny_holding ?_)
    have hlt : a ≠ s.heap.objs.size := by obtain ⟨o, ho, _⟩ := hl; exact Nat.ne_of_lt (Heap.lt_size ho)
    unfold unpackItems
    refine wpAny_bind ?_
    unfold notIterableAtAll
    refine wpAny_bind (wpAny_specialOf hl.typeIs slot_list_iter.lookup ?_)
    refine wpAny_pure ?_
    simp only [Bool.false_eq_true, if_false]
    refine wpAny_bind (wpAny_holding (wpAny_pyIter_list hl ?_))
    have hsz : (ux :: uxs).toArray.size = uxs.length + 1 := by simp
    refine wpAny_bind (wpAny_holding (kun_draw hlt 1 0 _ _ ⟨_, Heap.get?_push_size _ rfl, rfl, rfl⟩ (hl.push _) (by omega) fun h₁ hit₁ hs₁ => ?_))
    have hl₁ : h₁.IsList a (ux :: uxs).toArray := (hl.push _).extBut hs₁.extBut hlt
    rw [Nat.zero_add] at hit₁
    have hit₁' := hit₁
    obtain ⟨oi, hoi, _⟩ := hit₁'
    have hl₁' := hl₁
    obtain ⟨ol, hol, _⟩ := hl₁'
    rw [List.drop_zero]
    show wpAny _ _ (if ([ux] : List Value).length < 1 then _ else _) _ _ _
    rw [if_neg (by simp)]
    refine wpAny_bind (wpAny_holding (kun_collect (s := { s with heap := h₁ }) (T := "list_iterator") (.inr (.inr (.inl rfl))) (Walks.list (A := X.A.in1) hh s.heap.objs.size a hlt (ux :: uxs).toArray) (fun j u st => st.1.typeIs) (k := 1) (by omega) ⟨hit₁, hl₁⟩ (Heap.lt_size hoi) (Heap.lt_size hol) (fun h₂ tk hk => ?_) (by rw [sizeLine_eq]; omega)))
    show wpAny _ _ (if uxs.length < 2 - 1 - 1 then _ else _) _ _ _
    rw [if_neg (by omega)]
    show wpAny _ _ (newList (uxs.take (uxs.length - 0)) >>= fun d => pure ([ux] ++ [d] ++ uxs.drop (uxs.length - 0))) _ _ _
    rw [Nat.sub_zero, List.take_length, List.drop_length]
    have he : ∀ b o, s.heap.get? b = some o → h₂.get? b = some o := fun b o e => by
      have hb : b ≠ s.heap.objs.size := Nat.ne_of_lt (Heap.lt_size e)
      exact hk b o hb (hs₁.extBut b o hb (Heap.get?_push_of_some _ e))
    have I1 : Inv X pins σ H { s with heap := h₂, toks := tk } := I.kept he
    refine wpAny_bind (wpAny_newList ?_ (by rw [sizeLine_eq]; omega))
    refine wpAny_pure ?_
    have I2 : Inv X pins σ (upd H h₂.objs.size (.lst xs)) { s with heap := h₂.push (seqObj "list" uxs.toArray 0), toks := tk } :=
      I1.laid (t' := tk) (fun b u e => Heap.get?_push_of_some _ e) (Nat.le_refl _)
        (show ObjOk X.prog X.w _ _ _ (.lst xs) from ⟨by rw [sizeLine_eq]; omega, uxs, 0, rr, Heap.get?_push_size _ rfl⟩)
    exact h.run pins _ σ _ [x, .ref h₂.objs.size] [ux, .ref h₂.objs.size] Q I2 (.cons r0 (.cons rfl .nil)) (hw _ (I1.hok.fresh (Nat.le_refl _)))
end
end L2
namespace Fo
open PySem PySem.Spec PyProof.Rows L2
/-! C(..) within a try: what __init__ raises is let out -/
section
variable {X : Cx} {CX : CXT} {k : Nat} {f C : Addr} {fd : FuncData} {ps : List Str} {sp : Sp} {E : L2.St → XK} {x : Str} {p pos : Pos} {e : Expr} {es : List Expr} {t : TA}
theorem run_makeS {pins : List (Addr × Obj)} {σ : L2.St} {H : Hp} {s : Shared} {Q : VK} {us : List Value} {vs : List V} (M : Mk X.K C f) (F : FnOk X.prog X.w X.K X.mg X.base CX k f fd ps sp) (hr : Room (k + 1) X.A) (hb : Binds X.K fd ps [])
    (hx : PassesAt CX X σ (E σ)) (I : Inv X pins σ H s) (r : Vals vs us)
    (h : ∀ x dx, H x = none → H dx = none → dx ≠ x → sp (.ref x :: vs) (upd (upd H dx (.own x)) x (.ins C dx [])) (fun v H2 => v = .non ∧ Q (.ref x) H2) (E σ)) :
    wpAny (model X.prog X.w) X.A (call (.ref C) us) (EP X pins σ Q) X.xe s := by
  have hq := h (s.heap.objs.size + 1) s.heap.objs.size (I.hok.fresh (Nat.le_succ _)) (I.hok.fresh (Nat.le_refl _)) (Nat.ne_of_lt (Nat.lt_succ_self _))
  have I2 := Inv.made (C := C) I
  have r2 : Vals (V.ref (s.heap.objs.size + 1) :: vs) (Value.ref (s.heap.objs.size + 1) :: us) := .cons rfl r
  have hl : (Value.ref (s.heap.objs.size + 1) :: us ++ []).length = ps.length := by
    have e := r2.length
    rw [F.len _ _ _ _ hq] at e
    rw [List.append_nil]
    exact e.symm
  have b := hb _ (Value.ref (s.heap.objs.size + 1) :: us) I2.kIn hl
  rw [List.append_nil] at b
  refine wpAny_call (make_map (f := f) I.kIn M.makes M.init (beq_iff_eq.mp M.fn) (codeAny_mono (F.run _ X.stack _ _ ⟨Value.ref (s.heap.objs.size + 1) :: us, []⟩ (Value.ref (s.heap.objs.size + 1) :: us) _ _ (E σ) (hr.make C us [])
    (I2.env0.make C us []) b r2 hq) fun r s' hq' => ?_))
  cases r with
  | error e => exact hx pins _ _ e s' I2 hq'
  | ok fl =>
    cases fl with
    | ret u =>
      obtain ⟨v, H', I3, rv, ev, q3⟩ := I2.after hq'
      subst ev
      exact ⟨rv, ⟨V.ref (s.heap.objs.size + 1), H', I3, rfl, q3⟩⟩
    | next => exact False.elim hq'
    | brk => exact False.elim hq'
    | cont => exact False.elim hq'
def tMakeS (C : Addr) (sp : Sp) (E : L2.St → XK) (t : TA) : TE := fun σ H Q => t σ H fun vs H1 => ∀ x dx, H1 x = none → H1 dx = none → dx ≠ x →
  sp (.ref x :: vs) (upd (upd H1 dx (.own x)) x (.ins C dx [])) (fun v H2 => v = .non ∧ Q (.ref x) H2) (E σ)
theorem pe_makeS (M : Mk X.K C f) (F : FnOk X.prog X.w X.K X.mg X.base CX k f fd ps sp) (hr : Room (k + 1) X.A) (hg : Gl X x) (hm : X.mg x = some (.ref C)) (hb : Binds X.K fd ps []) (hx : ∀ σ, PassesAt CX X σ (E σ))
    (ha : PA X (e :: es) t) (hdb : (x == ("__debug__" : Str)) = false := by decide) (he : starEach (e :: es) X.env = (false, eval e X.env) :: starEach es X.env := by rfl) (hpl : (backTo pos (starEach es X.env)).any (·.1) = false := by rfl) :
    PE X (.Call (.Name x p) (e :: es) [] pos) (tMakeS C sp E t) := by
  refine ⟨fun pins s σ H Q I h => ?_⟩
  refine wpAny_Call_Name_kw (ld_glob I hg hm ?_ hdb)
  refine PySem.W.callWith_K (h₀ := X.base) I.ok.mod.kin M.kp (thn (ha.run pos pins s σ H _ I h) fun us s1 ⟨vs, H1, I1, r, q⟩ => ⟨I1.kIn, ?_⟩) he hpl
  exact run_makeS M F hr hb (hx σ) I1 r q
end
end Fo
namespace Fo
open PySem PySem.Spec PyProof.Rows L2
theorem far_most {w : Str} {n : Nat} {xs ys : List Int} (hw : IsWay w) (ox : IsOrd n xs) (oy : IsOrd n ys) (hn : 1 ≤ n) (hn8 : n ≤ 8) : farW w xs ys ≤ 99 := by
  rcases hw with rfl | rfl | rfl
  · rw [farW_swap]
    have h1 := swap_most (ys := ys) ox
    have h2 : (n : Int) * ((n : Int) - 1) ≤ 8 * 7 := Int.mul_le_mul (by omega) (by omega) (by omega) (by omega)
    omega
  · rw [farW_spot]
    have := spot_most (ys := ys) ox
    omega
  · rw [farW_shift]
    have := shift_most ox oy hn
    omega
theorem far_nn (w : Str) (xs ys : List Int) : 0 ≤ farW w xs ys := by
  by_cases h1 : w = "swap"
  · subst h1; rw [farW_swap]; unfold farSwap; omega
  · by_cases h2 : w = "spot"
    · subst h2; rw [farW_spot]; unfold farSpot; omega
    · unfold farW
      rw [if_neg h1, if_neg h2]
      unfold farShift
      have : ∀ l : List Int, 0 ≤ maxL l := fun l => by
        unfold maxL
        induction l with
        | nil => exact Int.le_refl _
        | cons a l ih => show 0 ≤ max a _; omega
      exact this _
theorem prs_from {w : Str} {rs : List (List Int)} : ∀ (i : Nat) (y : Int), y ∈ prs w rs i → ∃ x ∈ rs, ∃ z ∈ rs, y = farW w x z
  | 0, _, h => absurd h List.not_mem_nil
  | i + 1, y, h => by
    rcases List.mem_append.mp (show y ∈ prs w rs i ++ (match rs[i]? with | some x => (rs.take i).map (farW w x) | none => []) from h) with h | h
    · exact prs_from i y h
    · cases hx : rs[i]? with
      | none => rw [hx] at h; cases h
      | some x =>
        rw [hx] at h
        obtain ⟨z, hz, rfl⟩ := List.mem_map.mp h
        exact ⟨x, List.mem_of_getElem? hx, z, List.mem_of_mem_take hz, rfl⟩
theorem prs_99 {w : Str} {n : Nat} {rs : List (List Int)} {i : Nat} (hw : IsWay w) (ho : ∀ r ∈ rs, IsOrd n r) (h1 : 1 ≤ n) (h8 : n ≤ 8) : ∀ m ∈ prs w rs i, m ≤ 99 := fun m hm => by
  obtain ⟨x, hx, z, hz, rfl⟩ := prs_from i m hm
  exact far_most hw (ho x hx) (ho z hz) h1 h8
theorem prs_nn {w : Str} {rs : List (List Int)} {i : Nat} : ∀ m ∈ prs w rs i, 0 ≤ m := fun m hm => by
  obtain ⟨x, hx, z, hz, rfl⟩ := prs_from i m hm
  exact far_nn w x z
end Fo
namespace Fo
open PySem PySem.Spec PyProof.Rows L2 TL
def numL (w : Str) : Option Nat := (List.range 100).find? fun k : Nat => decide (w = decT (k : Int))
end Fo
namespace Fo
open PySem PySem.Spec PyProof.Rows L2
/-! what the desk tells -/
def leI : List Int → Int
  | [] => 0
  | [x] => x
  | x :: y :: r => min x (leI (y :: r))
theorem leI_spec : ∀ {l : List Int}, l ≠ [] → leI l ∈ l ∧ ∀ y ∈ l, leI l ≤ y
  | [], h => absurd rfl h
  | [x], _ => ⟨List.mem_cons_self, fun y hy => by rw [List.mem_singleton.mp hy]; exact Int.le_refl _⟩
  | x :: y :: r, _ => by
    obtain ⟨h1, h2⟩ := leI_spec (l := y :: r) (by simp)
    have e : leI (x :: y :: r) = min x (leI (y :: r)) := rfl
    by_cases c : x ≤ leI (y :: r)
    · rw [e, Int.min_eq_left c]
      refine ⟨List.mem_cons_self, fun z hz => ?_⟩
      rcases List.mem_cons.mp hz with rfl | hz
      · exact Int.le_refl _
      · have := h2 z hz
        omega
    · rw [e, Int.min_eq_right (by omega)]
      refine ⟨List.mem_cons_of_mem _ h1, fun z hz => ?_⟩
      rcases List.mem_cons.mp hz with rfl | hz
      · omega
      · exact h2 z hz
theorem leI_of {l : List Int} {m : Int} (h1 : m ∈ l) (h2 : ∀ y ∈ l, m ≤ y) : leI l = m := by
  have hne : l ≠ [] := fun z => by rw [z] at h1; cases h1
  obtain ⟨g1, g2⟩ := leI_spec hne
  have := h2 _ g1
  have := g2 _ h1
  omega
def apF (w : Str) (rs : List (List Int)) : Str := if prs w rs rs.length = [] then "none" else decT (leI (prs w rs rs.length))
def spNumH : Sp := fun vs H Q _ => ∃ (w : Str), vs = [.str w, .int 100] ∧ Q (optV (numL w)) H
def spRdN (cR : Addr) : Sp := fun vs H Q E => ∃ (w : Str), vs = [.str w] ∧ (∀ k : Nat, numL w = some k → Q (.int k) H) ∧ (numL w = none → E (.ref cR) none H)
def spUndT (C cN : Addr) : Sp := fun vs H Q E => ∃ (a e : Addr) (X : List Addr) (w : Str) (n : Nat) (d : Int) (rs : List (List Int)) (ss : List (List (List Int))), vs = [.ref a] ∧ LsAt C H a e X w n d rs ss ∧ (∀ r0 ss0, ss = ss0 ++ [r0] → ∀ H', LsAt C H' a e X w n d r0 ss0 → KpL a e H H' → Q (.str "ok") H') ∧ (ss = [] → E (.ref cN) none H)
def spTxtT (C : Addr) (F : Str → Nat → Int → List (List Int) → Str) : Sp := fun vs H Q _ => ∃ (a e : Addr) (X : List Addr) (w : Str) (n : Nat) (d : Int) (rs : List (List Int)) (ss : List (List (List Int))), vs = [.ref a] ∧ LsAt C H a e X w n d rs ss ∧ rs.length ≤ 120 ∧ ∀ H', Same H H' → Q (.str (F w n d rs)) H'
def spFewT (C cT : Addr) : Sp := fun vs H _ E => ∃ (a e : Addr) (X : List Addr) (w : Str) (n : Nat) (d : Int) (rs : List (List Int)) (ss : List (List (List Int))), vs = [.ref a] ∧ LsAt C H a e X w n d rs ss ∧ (n ≤ 6 → False) ∧ (6 < n → E (.ref cT) none H)
def spMidT (C cO cT : Addr) : Sp := fun vs H _ E => ∃ (a e : Addr) (X : List Addr) (w : Str) (n : Nat) (d : Int) (rs : List (List Int)) (ss : List (List (List Int))), vs = [.ref a] ∧ LsAt C H a e X w n d rs ss ∧ rs.length ≤ 120 ∧
  ((rs = [] ∨ 20 < rs.length) → ∀ H', Same H H' → E (.ref cO) none H') ∧ (rs ≠ [] → rs.length ≤ 20 → (n ≤ 6 ∨ w = "swap") → False) ∧ (rs ≠ [] → rs.length ≤ 20 → ¬ (n ≤ 6 ∨ w = "swap") → ∀ H', Same H H' → E (.ref cT) none H')
def spComeT (C cF cT : Addr) : Sp := fun vs H Q E => ∃ (a e o : Addr) (X : List Addr) (w : Str) (n : Nat) (d : Int) (rs : List (List Int)) (ss : List (List (List Int))) (xs : List Int), vs = [.ref a, .ref o] ∧ LsAt C H a e X w n d rs ss ∧ H o = some (.lst (xs.map V.int)) ∧ IsOrd xs.length xs ∧ 1 ≤ xs.length ∧ xs.length ≤ 12 ∧ rs.length ≤ 120 ∧ ss.length < 1000 ∧
  (xs.length ≠ n → ∀ H', Same H H' → E (.ref cF) none H') ∧ (xs.length = n → 120 ≤ rs.length → ∀ H', Same H H' → E (.ref cT) none H') ∧
  (xs.length = n → rs.length < 120 → nearR w xs d rs = [] → ∀ H', LsAt C H' a e X w n d (srt (rs ++ [xs])) (ss ++ [rs]) → KpL a e H H' → Q (.str "ok") H') ∧
  (xs.length = n → rs.length < 120 → nearR w xs d rs ≠ [] → ∀ H', LsAt C H' a e X w n d rs ss → KpL a e H H' → Q (.str (wrL (nearR w xs d rs))) H')
def spDropT (C cF : Addr) : Sp := fun vs H Q E => ∃ (a e o : Addr) (X : List Addr) (w : Str) (n : Nat) (d : Int) (rs : List (List Int)) (ss : List (List (List Int))) (xs : List Int), vs = [.ref a, .ref o] ∧ LsAt C H a e X w n d rs ss ∧ H o = some (.lst (xs.map V.int)) ∧ IsOrd xs.length xs ∧ 1 ≤ xs.length ∧ xs.length ≤ 12 ∧ rs.length ≤ 120 ∧ ss.length < 1000 ∧
  (xs ∉ rs → ∀ H', Same H H' → E (.ref cF) none H') ∧ (xs ∈ rs → ∀ H', LsAt C H' a e X w n d (rs.filter fun r => !decide (r = xs)) (ss ++ [rs]) → KpL a e H H' → Q (.str "ok") H')
def spNeT (C cO cF : Addr) : Sp := fun vs H _ E => ∃ (a e o : Addr) (X : List Addr) (w : Str) (n : Nat) (d : Int) (rs : List (List Int)) (ss : List (List (List Int))) (xs : List Int), vs = [.ref a, .ref o] ∧ LsAt C H a e X w n d rs ss ∧ H o = some (.lst (xs.map V.int)) ∧ IsOrd xs.length xs ∧ 1 ≤ xs.length ∧ xs.length ≤ 12 ∧ rs.length ≤ 120 ∧ rs.Nodup ∧
  (rs = [] → ∀ H', Same H H' → E (.ref cO) none H') ∧ (rs ≠ [] → xs.length ≠ n → ∀ H', Same H H' → E (.ref cF) none H') ∧ (rs ≠ [] → xs.length = n → False)
def spSureT (C cO cF : Addr) : Sp := fun vs H _ E => ∃ (a e : Addr) (X : List Addr) (w : Str) (n : Nat) (d : Int) (rs : List (List Int)) (ss : List (List (List Int))) (k : Nat), vs = [.ref a, .int k] ∧ LsAt C H a e X w n d rs ss ∧ rs.length ≤ 120 ∧ rs.Nodup ∧
  (rs = [] → ∀ H', Same H H' → E (.ref cO) none H') ∧ (rs ≠ [] → 6 < n → ∀ H', Same H H' → E (.ref cF) none H') ∧ (rs ≠ [] → n ≤ 6 → False)
theorem log_big {x : Int} (h : x.natAbs < 1000000000000000000) : x.natAbs.log2 < 1920 := by
  by_cases c : x.natAbs = 0
  · rw [c]; decide
  · refine Nat.lt_of_lt_of_le ((Nat.log2_lt c).mpr (Nat.lt_of_lt_of_le h (?_ : _ ≤ 2 ^ 60))) (by decide)
    decide
theorem LsAt.ol {C : Addr} {H : Hp} {a e l : Addr} {X : List Addr} {w : Str} {n : Nat} {d : Int} {rs : List (List Int)} {ss : List (List (List Int))} {qs : List (Addr × List Int)} (L : LsAt C H a e X w n d rs ss) {H' : Hp} (h : RP H' l qs) (er : rws qs = rs) : OL H' l (qs.map (·.1)) rs n :=
  ⟨h.two.1, by rw [← er]; exact h.two.2, L.ord, L.n1, by have := L.n2; omega⟩
section
variable {P : Program} {w : World} {K : PySem.W.Frag} {mg : Str → Option Value} {base : Heap}
theorem scNumH : FnScope ["word", "many", "number"] ["word", "many"] (defScope s_number_in) := ⟨rfl, rfl, rfl, by decide +kernel, rfl, by decide +kernel, by decide +kernel⟩
set_option maxHeartbeats 2000000 in
theorem ok_numH {f : Addr} {fd : FuncData} {k : Nat} (T : Df K mg "number_in" s_number_in ["word", "many"] f fd) (B : Bi mg) : FnOk P w K mg base CX0 (k + 1) f fd ["word", "many"] spNumH := by
  refine T.F.ok scNumH (fun vs H Q E h => ?_) (fun cdv A outer s H vs Q E hr h => ?_)
  · obtain ⟨x, rfl, _⟩ := h
    rfl
  · obtain ⟨x, rfl, q⟩ := h
    refine ⟨_, 
      (pss_cons (ps_for PassesOwn.never rfl (pi_range1 (by rfl) B.range (pa_cons (pv 1) pa_nil)) (pg_name (i := 2) scNumH.nd rfl (.inl rfl))
        (pss_one (ps_if (pt_cmpR op_eq (pv 0) (pe_callTy call_str_int (by rfl) B.str (by decide +kernel) (pa_cons (pv 2) pa_nil)) (nomark _))
          (pss_one (ps_ret (pv 2)))
          pss_nil)))
      (pss_one (ps_ret pe_non))), ?_⟩
    refine ⟨_, rfl, 100, rfl, by omega, by omega, ?_⟩
    refine for_range (n := 100) (fun i σ H3 => ∃ y : Option V, σ = [some (.str x), some (.int 100), y] ∧ ((List.range i).find? fun k : Nat => decide (x = decT (k : Int))) = none ∧ H3 = H) ⟨_, rfl, rfl, rfl⟩ (fun i σ H3 hi hP => ?_) (fun σ H3 hP => ?_)
    · obtain ⟨y, rfl, hno, rfl⟩ := hP
      rw [show (0 : Int) + (i : Int) = (i : Int) by omega]
      refine ⟨_, rfl, _, rfl, (i : Int), rfl, log_big (by omega), rfl, _, rfl, ite2 (fun c => ?_) (fun c => ?_)⟩
      · have z : V.str x = V.str (decT i) := of_decide_eq_true c
        have e : numL x = some i := by
          unfold numL
          rw [List.find?_range_eq_some]
          refine ⟨decide_eq_true (V.str.inj z), List.mem_range.mpr hi, fun j hj => ?_⟩
          have := List.find?_eq_none.mp hno j (List.mem_range.mpr hj)
          simpa using this
        rw [e] at q
        exact ⟨_, rfl, q⟩
      · refine ⟨_, rfl, ?_, rfl⟩
        have hne : ¬ x = decT i := fun e => c (decide_eq_true (by rw [e]))
        rw [List.range_succ, List.find?_append, hno, List.find?_cons, decide_eq_false hne]
        rfl
    · obtain ⟨y, rfl, hno, rfl⟩ := hP
      have e : numL x = none := hno
      rw [e] at q
      exact q
theorem scRdN : FnScope ["word", "number"] ["word"] (defScope s_read_number) := ⟨rfl, rfl, rfl, by decide +kernel, rfl, by decide +kernel, by decide +kernel⟩
theorem ok_rdN {f f1 cR : Addr} {fd d1 : FuncData} {k : Nat} {tN : Tok} (T : Df K mg "read_number" s_read_number ["word"] f fd) (T_number_in : Df K mg "number_in" s_number_in ["word", "many"] f1 d1) (G_number_in : FnOk P w K mg base CX0 k f1 d1 ["word", "many"] spNumH) (X_NoRow : ExK K mg "NoRow" cR) (mNUM : mg "NUMBERS" = some (.int 100 tN)) : FnOk P w K mg base (L2.CX P w) (k + 1) f fd ["word"] (spRdN cR) := by
  refine T.F.okX scRdN (fun vs H Q E h => ?_) (fun cdv A outer s H vs Q E hr h => ?_)
  · obtain ⟨x, rfl, _⟩ := h
    rfl
  · obtain ⟨x, rfl, q1, q2⟩ := h
    refine ⟨_, 
      (pss_cons (ps_set (i := 1) scRdN.nd rfl (.inl rfl) (pe_call G_number_in hr (by rfl) T_number_in.g T_number_in.F.kp T_number_in.b .nil pass0 (pa_cons (pv 0) (pa_cons (pe_glob (v := .int 100) (by rfl) mNUM ⟨_, rfl⟩) pa_nil))))
      (pss_cons (ps_if (pt_cmpR op_isN (pv 1) pe_non (nomark _))
        (pss_one (ps_raiseK rfl (takes_of rfl rfl rfl rfl) X_NoRow (by rfl)))
        pss_nil)
      (pss_one (ps_ret (pv 1))))), ?_⟩
    refine ⟨_, rfl, x, rfl, ?_⟩
    cases hx : numL x with
    | none => exact ⟨_, rfl, rfl, _, rfl, iteT (q2 hx)⟩
    | some k => exact ⟨_, rfl, rfl, _, rfl, iteF ⟨_, rfl, q1 k hx⟩⟩
theorem scUndT : FnScope ["lister"] ["lister"] (defScope s_undo_last) := ⟨rfl, rfl, rfl, by decide +kernel, rfl, by decide +kernel, by decide +kernel⟩
theorem ok_undT {C_Lister fI f f1 cN : Addr} {fd d1 : FuncData} {k : Nat} {tD : Tok} (T : Df K mg "undo_last" s_undo_last ["lister"] f fd) (T_Lister : TxL K mg C_Lister fI) (T_Lister_undo : Dm K C_Lister "undo" "Lister.undo" s_Lister_undo ["self"] f1 d1) (G_Lister_undo : FnOk P w K mg base (L2.CX P w) k f1 d1 ["self"] (spUndoL C_Lister cN)) (mDONE : mg "DONE" = some (.str "ok" tD)) : FnOk P w K mg base (L2.CX P w) (k + 1) f fd ["lister"] (spUndT C_Lister cN) := by
  refine T.F.okX scUndT (fun vs H Q E h => ?_) (fun cdv A outer s H vs Q E hr h => ?_)
  · obtain ⟨a, e, X, w, n, d, rs, ss, rfl, _⟩ := h
    rfl
  · obtain ⟨a, e, X, wy, n, d, rs, ss, rfl, L, q1, q2⟩ := h
    refine ⟨_, 
      (pss_cons (ps_expr (pe_meth0S (pv 0) T_Lister.cl T_Lister_undo.me G_Lister_undo hr T_Lister_undo.b (fun σ => passAt (takes_of rfl rfl rfl rfl) σ)))
      (pss_one (ps_ret (pe_glob (v := .str "ok") (by rfl) mDONE ⟨_, rfl⟩)))), ?_⟩
    obtain ⟨dx, fs, ha, hno⟩ := L.obj "undo" (by decide +kernel) (by decide +kernel) (by decide +kernel) (by decide +kernel) (by decide +kernel)
    exact ⟨_, rfl, a, dx, fs, rfl, ha, hno, a, e, X, wy, n, d, rs, ss, rfl, L, fun r0 ss0 e0 H' L' k' => q1 r0 ss0 e0 H' L' k', q2⟩
theorem scListT : FnScope ["lister"] ["lister"] (defScope s_tell_list) := ⟨rfl, rfl, rfl, by decide +kernel, rfl, by decide +kernel, by decide +kernel⟩
theorem ok_listT {C_Lister fI f f1 f2 : Addr} {fd d1 d2 : FuncData} {k : Nat} (T : Df K mg "tell_list" s_tell_list ["lister"] f fd) (T_Lister : TxL K mg C_Lister fI) (T_Lister_orders : Dm K C_Lister "orders" "Lister.orders" s_Lister_orders ["self"] f1 d1) (T_show_orders : Df K mg "show_orders" s_show_orders ["orders"] f2 d2) (G_Lister_orders : FnOk P w K mg base CX0 k f1 d1 ["self"] (spOrdersL C_Lister)) (G_show_orders : FnOk P w K mg base CX0 k f2 d2 ["orders"] spWrL) : FnOk P w K mg base CX0 (k + 1) f fd ["lister"] (spTxtT C_Lister fun _ _ _ rs => wrL rs) := by
  refine T.F.ok scListT (fun vs H Q E h => ?_) (fun cdv A outer s H vs Q E hr h => ?_)
  · obtain ⟨a, e, X, w, n, d, rs, ss, rfl, _⟩ := h
    rfl
  · obtain ⟨a, e, X, wy, n, d, rs, ss, rfl, L, hl, q⟩ := h
    refine ⟨_, 
      (pss_one (ps_ret (pe_call G_show_orders hr (by rfl) T_show_orders.g T_show_orders.F.kp T_show_orders.b .nil pass0 (pa_cons (pe_meth0 (pv 0) T_Lister.cl T_Lister_orders.me G_Lister_orders hr T_Lister_orders.b .nil pass0) pa_nil)))), ?_⟩
    obtain ⟨dx, fs, ha, hno⟩ := L.obj "orders" (by decide +kernel) (by decide +kernel) (by decide +kernel) (by decide +kernel) (by decide +kernel)
    refine ⟨_, rfl, a, dx, fs, rfl, ha, hno, a, e, X, wy, n, d, rs, ss, rfl, L, hl, fun l qs H1 er nr s1 => ?_⟩
    exact ⟨l, _, rs, n, rfl, L.ol nr.1 er, by omega, fun H2 s2 => q _ (s1.trans s2)⟩
theorem scApT : FnScope ["lister", "least"] ["lister"] (defScope s_tell_apart) := ⟨rfl, rfl, rfl, by decide +kernel, rfl, by decide +kernel, by decide +kernel⟩
theorem ok_apT {C_Lister fI f f1 : Addr} {fd d1 : FuncData} {k : Nat} {tN : Tok} (T : Df K mg "tell_apart" s_tell_apart ["lister"] f fd) (T_Lister : TxL K mg C_Lister fI) (T_Lister_least_apart : Dm K C_Lister "least_apart" "Lister.least_apart" s_Lister_least_apart ["self"] f1 d1) (G_Lister_least_apart : FnOk P w K mg base CX0 k f1 d1 ["self"] (spLeastL C_Lister)) (B : Bi mg) (mNOTHING : mg "NOTHING" = some (.str "none" tN)) : FnOk P w K mg base CX0 (k + 1) f fd ["lister"] (spTxtT C_Lister fun w _ _ rs => apF w rs) := by
  refine T.F.ok scApT (fun vs H Q E h => ?_) (fun cdv A outer s H vs Q E hr h => ?_)
  · obtain ⟨a, e, X, w, n, d, rs, ss, rfl, _⟩ := h
    rfl
  · obtain ⟨a, e, X, wy, n, d, rs, ss, rfl, L, hl, q⟩ := h
    refine ⟨_, 
      (pss_cons (ps_set (i := 1) scApT.nd rfl (.inl rfl) (pe_meth0 (pv 0) T_Lister.cl T_Lister_least_apart.me G_Lister_least_apart hr T_Lister_least_apart.b .nil pass0))
      (pss_one (ps_ret (pe_ifExp (pt_cmpR op_isN (pv 1) pe_non (nomark _)) (pe_glob (v := .str "none") (by rfl) mNOTHING ⟨_, rfl⟩) (pe_callTy call_str_int (by rfl) B.str (by decide +kernel) (pa_cons (pv 1) pa_nil)))))), ?_⟩
    obtain ⟨dx, fs, ha, hno⟩ := L.obj "least_apart" (by decide +kernel) (by decide +kernel) (by decide +kernel) (by decide +kernel) (by decide +kernel)
    refine ⟨_, rfl, a, dx, fs, rfl, ha, hno, a, e, X, wy, n, d, rs, ss, rfl, L, hl, fun ez H1 s1 => ?_, fun m H1 s1 m1 m2 => ?_⟩
    · refine ⟨_, rfl, rfl, _, rfl, iteT ?_⟩
      have this : Q (.str (apF wy rs)) H1 := q H1 s1
      unfold apF at this
      rw [if_pos ez] at this
      exact this
    · have hne : prs wy rs rs.length ≠ [] := fun z => by rw [z] at m1; cases m1
      have this : Q (.str (apF wy rs)) H1 := q H1 s1
      unfold apF at this
      rw [if_neg hne, leI_of m1 m2] at this
      refine ⟨_, rfl, rfl, _, rfl, iteF ⟨_, rfl, m, rfl, ?_, this⟩⟩
      have hm : m ≤ 99 := prs_99 L.wy L.ord L.n1 L.n2 m m1
      have h0 : 0 ≤ m := prs_nn m m1
      exact log_big (by omega)
end
end Fo
namespace Fo
open PySem PySem.Spec PyProof.Rows L2
theorem app_len (a b : Str) : (a ++ b).length = a.length + b.length := Str.length_append a b
theorem rws_nilD {qs : List (Addr × List Int)} {rs : List (List Int)} (h : rws qs = rs) : qs = [] ↔ rs = [] := by
  rw [← h]
  exact (List.map_eq_nil_iff (f := fun p : Addr × List Int => p.2)).symm
theorem li_of {rs : List (List Int)} {n : Nat} (ho : ∀ r ∈ rs, IsOrd n r) (h1 : 1 ≤ n) (h2 : n ≤ 12) (nd : rs.Nodup) (hne : rs ≠ []) (hl : rs.length ≤ 120) : LiD (dLL rs) := by
  have old : OLd (dLL rs) := ⟨_, rfl, fun x hx => by
    obtain ⟨r, hr, rfl⟩ := List.mem_map.mp hx
    have o := ho r hr
    exact ⟨r, rfl, by rw [o.len]; exact o, by rw [o.len]; exact h1, by rw [o.len]; exact h2⟩, fun x hx y hy => by
    obtain ⟨r, hr, rfl⟩ := List.mem_map.mp hx
    obtain ⟨s, hs, rfl⟩ := List.mem_map.mp hy
    show (r.map PyData.int).length = (s.map PyData.int).length
    rw [List.length_map, List.length_map, (ho r hr).len, (ho s hs).len]⟩
  refine ⟨⟨old, fun ds e => ?_⟩, fun ds e => ?_⟩
  · injection e with e
    subst e
    rw [List.map_map]
    have : rs.map (intsD ∘ dL) = rs := by
      have h : ∀ r, (intsD ∘ dL) r = r := fun r => intsD_of r
      rw [List.map_congr_left fun r _ => h r]
      exact List.map_id _
    rw [this]
    exact nd
  · injection e with e
    subst e
    rw [List.length_map]
    exact ⟨List.length_pos_iff.mpr hne, hl⟩
theorem poll_of {rs : List (List Int)} {n : Nat} (ho : ∀ r ∈ rs, IsOrd n r) (h1 : 1 ≤ n) (h2 : n ≤ 12) (hne : rs ≠ []) (hl : rs.length ≤ 20) : PollD (dLL rs) ∧ nP (dLL rs) = n := by
  have old : OLd (dLL rs) := ⟨_, rfl, fun x hx => by
    obtain ⟨r, hr, rfl⟩ := List.mem_map.mp hx
    have o := ho r hr
    exact ⟨r, rfl, by rw [o.len]; exact o, by rw [o.len]; exact h1, by rw [o.len]; exact h2⟩, fun x hx y hy => by
    obtain ⟨r, hr, rfl⟩ := List.mem_map.mp hx
    obtain ⟨s, hs, rfl⟩ := List.mem_map.mp hy
    show (r.map PyData.int).length = (s.map PyData.int).length
    rw [List.length_map, List.length_map, (ho r hr).len, (ho s hs).len]⟩
  refine ⟨⟨old, fun ds e => ?_⟩, ?_⟩
  · injection e with e
    subst e
    rw [List.length_map]
    exact ⟨List.length_pos_iff.mpr hne, hl⟩
  · cases rs with
    | nil => exact absurd rfl hne
    | cons r rs =>
      show (r.map PyData.int).length = n
      rw [List.length_map, (ho r List.mem_cons_self).len]
theorem good_of {n : Nat} {xs : List Int} (o : IsOrd xs.length xs) (h1 : 1 ≤ xs.length) (h2 : xs.length ≤ 12) : GoodD (dL xs) ∧ lenD (dL xs) = xs.length := ⟨⟨xs, rfl, o, h1, h2⟩, by show (xs.map PyData.int).length = _; rw [List.length_map]⟩
section
variable {P : Program} {w : World} {K : PySem.W.Frag} {mg : Str → Option Value} {base : Heap}
theorem scRoT : FnScope ["lister"] ["lister"] (defScope s_tell_room) := ⟨rfl, rfl, rfl, by decide +kernel, rfl, by decide +kernel, by decide +kernel⟩
theorem ok_roT {C_Lister fI f f1 cT : Addr} {fd d1 : FuncData} {k : Nat} (T : Df K mg "tell_room" s_tell_room ["lister"] f fd) (T_Lister : TxL K mg C_Lister fI) (T_Lister_how_many_more : Dm K C_Lister "how_many_more" "Lister.how_many_more" s_Lister_how_many_more ["self"] f1 d1) (G_Lister_how_many_more : FnOk P w K mg base (L2.CX P w) k f1 d1 ["self"] (spFirstR C_Lister cT)) (B : Bi mg) : FnOk P w K mg base (L2.CX P w) (k + 1) f fd ["lister"] (spFewT C_Lister cT) := by
  refine T.F.okX scRoT (fun vs H Q E h => ?_) (fun cdv A outer s H vs Q E hr h => ?_)
  · obtain ⟨a, e, X, w, n, d, rs, ss, rfl, _⟩ := h
    rfl
  · obtain ⟨a, e, X, wy, n, d, rs, ss, rfl, L, q1, q2⟩ := h
    refine ⟨_, 
      (pss_one (ps_ret (pe_callTy call_str_int (by rfl) B.str (by decide +kernel) (pa_cons (pe_meth0S (pv 0) T_Lister.cl T_Lister_how_many_more.me G_Lister_how_many_more hr T_Lister_how_many_more.b (fun σ => passAt (takes_of rfl rfl rfl rfl) σ)) pa_nil)))), ?_⟩
    obtain ⟨dx, fs, ha, hno⟩ := L.obj "how_many_more" (by decide +kernel) (by decide +kernel) (by decide +kernel) (by decide +kernel) (by decide +kernel)
    have c : 6 < n := Nat.lt_of_not_le q1
    exact ⟨_, rfl, a, dx, fs, rfl, ha, hno, ⟨a, e, X, wy, n, d, rs, ss, rfl, L, c, q2 c⟩⟩
theorem scFiT : FnScope ["lister", "order"] ["lister"] (defScope s_tell_first) := ⟨rfl, rfl, rfl, by decide +kernel, rfl, by decide +kernel, by decide +kernel⟩
theorem ok_fiT {C_Lister fI f f1 f2 cT : Addr} {fd d1 d2 : FuncData} {k : Nat} {tN : Tok} (T : Df K mg "tell_first" s_tell_first ["lister"] f fd) (T_Lister : TxL K mg C_Lister fI) (T_Lister_first_more : Dm K C_Lister "first_more" "Lister.first_more" s_Lister_first_more ["self"] f1 d1) (T_show_order : Df K mg "show_order" s_show_order ["order"] f2 d2) (G_Lister_first_more : FnOk P w K mg base (L2.CX P w) k f1 d1 ["self"] (spFirstR C_Lister cT)) (G_show_order : FnOk P w K mg base CX0 k f2 d2 ["order"] spWr) (mNOTHING : mg "NOTHING" = some (.str "none" tN)) : FnOk P w K mg base (L2.CX P w) (k + 1) f fd ["lister"] (spFewT C_Lister cT) := by
  refine T.F.okX scFiT (fun vs H Q E h => ?_) (fun cdv A outer s H vs Q E hr h => ?_)
  · obtain ⟨a, e, X, w, n, d, rs, ss, rfl, _⟩ := h
    rfl
  · obtain ⟨a, e, X, wy, n, d, rs, ss, rfl, L, q1, q2⟩ := h
    refine ⟨_, 
      (pss_cons (ps_set (i := 1) scFiT.nd rfl (.inl rfl) (pe_meth0S (pv 0) T_Lister.cl T_Lister_first_more.me G_Lister_first_more hr T_Lister_first_more.b (fun σ => passAt (takes_of rfl rfl rfl rfl) σ)))
      (pss_one (ps_ret (pe_ifExp (pt_cmpR op_isN (pv 1) pe_non (nomark _)) (pe_glob (v := .str "none") (by rfl) mNOTHING ⟨_, rfl⟩) (pe_call G_show_order hr (by rfl) T_show_order.g T_show_order.F.kp T_show_order.b .nil pass0 (pa_cons (pv 1) pa_nil)))))), ?_⟩
    obtain ⟨dx, fs, ha, hno⟩ := L.obj "first_more" (by decide +kernel) (by decide +kernel) (by decide +kernel) (by decide +kernel) (by decide +kernel)
    have c : 6 < n := Nat.lt_of_not_le q1
    exact ⟨_, rfl, a, dx, fs, rfl, ha, hno, ⟨a, e, X, wy, n, d, rs, ss, rfl, L, c, q2 c⟩⟩
end
end Fo
namespace Fo
open PySem PySem.Spec PyProof.Rows L2
theorem rws_dq {H : Hp} {l : Addr} {qs : List (Addr × List Int)} (h : RP H l qs) : Dq H (.ref l) (dLL (rws qs)) := by
  refine .lst h.1 ?_
  have key : ∀ {ps : List (Addr × List Int)}, (∀ p ∈ ps, H p.1 = some (.lst (p.2.map V.int))) → DqAll H (ps.map fun p => V.ref p.1) ((rws ps).map dL) := fun {ps} => by
    induction ps with
    | nil => intro _; exact .nil
    | cons p ps ih => intro h; exact .cons (.lst (h p List.mem_cons_self) dqAll_intsG) (ih fun q m => h q (List.mem_cons_of_mem _ m))
  exact key h.2
section
variable {P : Program} {w : World} {K : PySem.W.Frag} {mg : Str → Option Value} {base : Heap}
theorem scMiT : FnScope ["lister", "far", "order"] ["lister"] (defScope s_tell_middle) := ⟨rfl, rfl, rfl, by decide +kernel, rfl, by decide +kernel, by decide +kernel⟩
set_option maxHeartbeats 4000000 in
theorem ok_miT {C_Lister fI f f1 f2 f3 cO cW cT : Addr} {fd d1 d2 d3 : FuncData} {k : Nat} (T : Df K mg "tell_middle" s_tell_middle ["lister"] f fd) (T_Lister : TxL K mg C_Lister fI) (T_Lister_orders : Dm K C_Lister "orders" "Lister.orders" s_Lister_orders ["self"] f1 d1) (T_middle_of : Df K mg "middle_of" s_middle_of ["way", "poll"] f2 d2) (T_show_order : Df K mg "show_order" s_show_order ["order"] f3 d3) (G_Lister_orders : FnOk P w K mg base CX0 k f1 d1 ["self"] (spOrdersL C_Lister)) (G_middle_of : FnOk P w K mg base (L2.CX P w) k f2 d2 ["way", "poll"] (spMidR cO cW cT)) (G_show_order : FnOk P w K mg base CX0 k f3 d3 ["order"] spWr) : FnOk P w K mg base (L2.CX P w) (k + 1) f fd ["lister"] (spMidT C_Lister cO cT) := by
  refine T.F.okX scMiT (fun vs H Q E h => ?_) (fun cdv A outer s H vs Q E hr h => ?_)
  · obtain ⟨a, e, X, w, n, d, rs, ss, rfl, _⟩ := h
    rfl
  · obtain ⟨a, e, X, wy, n, d, rs, ss, rfl, L, hl, q1, q2, q3⟩ := h
    refine ⟨_, 
      (pss_cons (ps_asg (pe_callS G_middle_of hr (by rfl) T_middle_of.g T_middle_of.F.kp T_middle_of.b (fun σ => passAt (takes_of rfl rfl rfl rfl) σ) (pa_cons (pe_fld (pv 0) rfl) (pa_cons (pe_meth0 (pv 0) T_Lister.cl T_Lister_orders.me G_Lister_orders hr T_Lister_orders.b .nil pass0) pa_nil))) (pg_tup (by rfl) (pgs_cons (pg_name (i := 1) scMiT.nd rfl (.inl rfl)) (pgs_cons (pg_name (i := 2) scMiT.nd rfl (.inl rfl)) pgs_nil))))
      (pss_one (ps_ret (pe_joined (PJ.cons (pe_fmt (pv 1)) (PJ.cons pe_str (PJ.cons (pe_fmt (pe_call G_show_order hr (by rfl) T_show_order.g T_show_order.F.kp T_show_order.b .nil pass0 (pa_cons (pv 2) pa_nil))) PJ.nil))))))), ?_⟩
    obtain ⟨dx, fs, ha, hno⟩ := L.obj "orders" (by decide +kernel) (by decide +kernel) (by decide +kernel) (by decide +kernel) (by decide +kernel)
    obtain ⟨dx2, t, ps, st, ha2, _⟩ := L.ex
    have hn8 := L.n2
    refine ⟨_, rfl, a, _, dx2, _, _, rfl, ha2, T_Lister.cl, T_Lister.nW, fl_w, _, rfl, a, dx, fs, rfl, ha, hno, a, e, X, wy, n, d, rs, ss, rfl, L, hl, fun l qs H1 er nr s1 => ?_⟩
    have hO := L.ol nr.1 er
    have hdq : Dq H1 (.ref l) (dLL rs) := by have := rws_dq nr.1; rw [er] at this; exact this
    have hlen : ∀ ds, dLL rs = .list ds → ds.length ≤ 10000 := fun ds e => by injection e with e; rw [← e, List.length_map]; omega
    have wd : WayD (.str wy) := ⟨wy, rfl, L.wy⟩
    by_cases c0 : rs = [] ∨ 20 < rs.length
    · refine ⟨.str wy, .ref l, .str wy, dLL rs, rfl, .str wy, hdq, hlen, .inl ⟨fun pd => ?_, fun H2 s2 => q1 c0 H2 (s1.trans s2)⟩⟩
      have h2 := pd.2 _ rfl
      rw [List.length_map] at h2
      rcases c0 with c0 | c0
      · rw [c0] at h2
        exact absurd h2.1 (by decide)
      · omega
    · have hne : rs ≠ [] := fun z => c0 (.inl z)
      have h20 : rs.length ≤ 20 := by
        by_cases c : 20 < rs.length
        · exact absurd (.inr c) c0
        · omega
      have hp := poll_of L.ord L.n1 (by omega) hne h20
      by_cases c1 : n ≤ 6 ∨ wy = "swap"
      · exact (q2 hne h20 c1).elim
      · refine ⟨.str wy, .ref l, .str wy, dLL rs, rfl, .str wy, hdq, hlen, .inr (.inr ⟨hp.1, wd, ?_, fun H2 s2 => q3 hne h20 c1 H2 (s1.trans s2)⟩)⟩
        rw [hp.2]
        unfold lmP
        have h1 : ¬ n ≤ 6 := fun z => c1 (.inl z)
        have h2 : ¬ wy = "swap" := fun z => c1 (.inr z)
        show (if wy = "swap" then (9 : Int) else 6) < (n : Int)
        rw [if_neg h2]
        omega
theorem scCoT : FnScope ["lister", "order", "near"] ["lister", "order"] (defScope s_let_come) := ⟨rfl, rfl, rfl, by decide +kernel, rfl, by decide +kernel, by decide +kernel⟩
set_option maxHeartbeats 4000000 in
theorem ok_coT {C_Lister fI f f1 f2 cO cF cT : Addr} {fd d1 d2 : FuncData} {k : Nat} {tD : Tok} (T : Df K mg "let_come" s_let_come ["lister", "order"] f fd) (T_Lister : TxL K mg C_Lister fI) (T_Lister_come : Dm K C_Lister "come" "Lister.come" s_Lister_come ["self", "order"] f1 d1) (T_show_orders : Df K mg "show_orders" s_show_orders ["orders"] f2 d2) (G_Lister_come : FnOk P w K mg base (L2.CX P w) k f1 d1 ["self", "order"] (fun vs H Q E => spComeL C_Lister vs H Q E ∨ spComeR C_Lister cO cF cT vs H Q E)) (G_show_orders : FnOk P w K mg base CX0 k f2 d2 ["orders"] spWrL) (B : Bi mg) (mDONE : mg "DONE" = some (.str "ok" tD)) : FnOk P w K mg base (L2.CX P w) (k + 1) f fd ["lister", "order"] (spComeT C_Lister cF cT) := by
  refine T.F.okX scCoT (fun vs H Q E h => ?_) (fun cdv A outer s H vs Q E hr h => ?_)
  · obtain ⟨a, e, o, X, w, n, d, rs, ss, xs, rfl, _⟩ := h
    rfl
  · obtain ⟨a, e, o, X, wy, n, d, rs, ss, xs, rfl, L, ho, ox, x1, x2, hl, hs, q1, q2, q3, q4⟩ := h
    refine ⟨_, 
      (pss_cons (ps_set (i := 2) scCoT.nd rfl (.inl rfl) (pe_methS (pv 0) T_Lister.cl T_Lister_come.me G_Lister_come hr T_Lister_come.b (fun σ => passAt (takes_of rfl rfl rfl rfl) σ) (pa_cons (pv 1) pa_nil)))
      (pss_one (ps_ret (pe_ifExp (pt_cmpR op_eq (pe_callB call_len_seq (by rfl) B.len PySem.boot_len (pa_cons (pv 2) pa_nil)) pe_int (nomark _)) (pe_glob (v := .str "ok") (by rfl) mDONE ⟨_, rfl⟩) (pe_call G_show_orders hr (by rfl) T_show_orders.g T_show_orders.F.kp T_show_orders.b .nil pass0 (pa_cons (pv 2) pa_nil)))))), ?_⟩
    obtain ⟨dx, fs, ha, hno⟩ := L.obj "come" (by decide +kernel) (by decide +kernel) (by decide +kernel) (by decide +kernel) (by decide +kernel)
    obtain ⟨go, gl⟩ := good_of (n := n) ox x1 x2
    have hn8 := L.n2
    by_cases c1 : xs.length = n
    · by_cases c2 : rs.length < 120
      · have ox' : IsOrd n xs := by rw [← c1]; exact ox
        refine ⟨_, rfl, a, dx, fs, rfl, ha, hno, _, rfl, .inl ⟨a, e, o, X, wy, n, d, rs, ss, xs, rfl, L, ho, ox', c2, hs, fun l qs rs' ss' H1 er r1 r2 nr L1 k1 => ?_⟩⟩
        have hql : qs.length ≤ 120 := by
          have h1 : (rws qs).length ≤ rs.length := by rw [er]; exact List.length_filter_le _ _
          rw [List.length_map] at h1
          omega
        have eX : e ∈ X := by obtain ⟨_, _, _, _, _, _, _, _, _, _, eX, _⟩ := L.ex; exact eX
        have L1' := L1.sub (X' := X) (fun y hy => List.mem_cons_of_mem _ (List.mem_append_right _ hy)) eX
        by_cases c3 : qs = []
        · subst c3
          obtain ⟨p1, p2, rfl⟩ := r1 rfl
          have ers : rs' = srt (rs ++ [xs]) := srt_eq p1 p2
          subst ers
          exact ⟨_, rfl, l, _, rfl, .inl (SqL.of nr.1.1), rfl, _, rfl, iteT (q3 c1 c2 er.symm H1 L1' k1)⟩
        · obtain ⟨rfl, rfl⟩ := r2 c3
          have hne : nearR wy xs d rs' ≠ [] := fun z => c3 ((rws_nilD er).mpr z)
          refine ⟨_, rfl, l, _, rfl, .inl (SqL.of nr.1.1), rfl, _, rfl, ?_⟩
          rw [List.length_map, decide_eq_false (show ¬ V.int ((qs.length : Nat) : Int) = V.int 0 from fun z => c3 (List.eq_nil_of_length_eq_zero (by have := V.int.inj z; omega)))]
          have hO : OL H1 l (qs.map (·.1)) (nearR wy xs d rs') n := ⟨nr.1.two.1, by rw [← er]; exact nr.1.two.2, fun r hr => L.ord r (List.mem_filter.mp hr).1, L.n1, by omega⟩
          refine iteF ⟨_, rfl, l, _, _, n, rfl, hO, by rw [← er, List.length_map]; omega, fun H2 s2 => ?_⟩
          exact q4 c1 c2 hne H2 (L1'.same s2) (fun b ob hb n1 n2 => s2 _ _ (k1 b ob hb n1 n2))
      · exact ⟨_, rfl, a, dx, fs, rfl, ha, hno, _, rfl, .inr ⟨a, e, X, wy, n, d, rs, ss, .ref o, dL xs, rfl, L, .lst ho dqAll_intsG, .inr (.inr ⟨go, by rw [gl]; exact c1, by omega, fun H1 s1 => q2 c1 (by omega) H1 s1⟩)⟩⟩
    · exact ⟨_, rfl, a, dx, fs, rfl, ha, hno, _, rfl, .inr ⟨a, e, X, wy, n, d, rs, ss, .ref o, dL xs, rfl, L, .lst ho dqAll_intsG, .inr (.inl ⟨go, by rw [gl]; exact c1, fun H1 s1 => q1 c1 H1 s1⟩)⟩⟩
theorem scDrT : FnScope ["lister", "order"] ["lister", "order"] (defScope s_let_drop) := ⟨rfl, rfl, rfl, by decide +kernel, rfl, by decide +kernel, by decide +kernel⟩
set_option maxHeartbeats 4000000 in
theorem ok_drT {C_Lister fI f f1 cO cF : Addr} {fd d1 : FuncData} {k : Nat} {tD : Tok} (T : Df K mg "let_drop" s_let_drop ["lister", "order"] f fd) (T_Lister : TxL K mg C_Lister fI) (T_Lister_drop : Dm K C_Lister "drop" "Lister.drop" s_Lister_drop ["self", "order"] f1 d1) (G_Lister_drop : FnOk P w K mg base (L2.CX P w) k f1 d1 ["self", "order"] (fun vs H Q E => spDropL C_Lister vs H Q E ∨ spDropR C_Lister cO cF vs H Q E)) (mDONE : mg "DONE" = some (.str "ok" tD)) : FnOk P w K mg base (L2.CX P w) (k + 1) f fd ["lister", "order"] (spDropT C_Lister cF) := by
  refine T.F.okX scDrT (fun vs H Q E h => ?_) (fun cdv A outer s H vs Q E hr h => ?_)
  · obtain ⟨a, e, o, X, w, n, d, rs, ss, xs, rfl, _⟩ := h
    rfl
  · obtain ⟨a, e, o, X, wy, n, d, rs, ss, xs, rfl, L, ho, ox, x1, x2, hl, hs, q1, q2⟩ := h
    refine ⟨_, 
      (pss_cons (ps_expr (pe_methS (pv 0) T_Lister.cl T_Lister_drop.me G_Lister_drop hr T_Lister_drop.b (fun σ => passAt (takes_of rfl rfl rfl rfl) σ) (pa_cons (pv 1) pa_nil)))
      (pss_one (ps_ret (pe_glob (v := .str "ok") (by rfl) mDONE ⟨_, rfl⟩)))), ?_⟩
    obtain ⟨dx, fs, ha, hno⟩ := L.obj "drop" (by decide +kernel) (by decide +kernel) (by decide +kernel) (by decide +kernel) (by decide +kernel)
    obtain ⟨go, gl⟩ := good_of (n := n) ox x1 x2
    by_cases c : xs ∈ rs
    · exact ⟨_, rfl, a, dx, fs, rfl, ha, hno, _, rfl, .inl ⟨a, e, o, X, wy, n, d, rs, ss, xs, rfl, L, ho, c, L.ord xs c, hs, hl, fun H1 L1 k1 => q2 c H1 L1 k1⟩⟩
    · exact ⟨_, rfl, a, dx, fs, rfl, ha, hno, _, rfl, .inr ⟨a, e, X, wy, n, d, rs, ss, .ref o, dL xs, rfl, L, .lst ho dqAll_intsG, .inr ⟨go, fun ys hy e => c (by have e2 := intD_inj (show xs.map PyData.int = ys.map PyData.int by injection e); rw [e2]; exact hy), fun H1 s1 => q1 c H1 s1⟩⟩⟩
theorem scNeT : FnScope ["lister", "order", "far", "orders"] ["lister", "order"] (defScope s_tell_near) := ⟨rfl, rfl, rfl, by decide +kernel, rfl, by decide +kernel, by decide +kernel⟩
set_option maxHeartbeats 4000000 in
theorem ok_neT {C_Lister fI f f1 f2 f3 : Addr} {c : Nat → Addr} {fd d1 d2 d3 : FuncData} {k : Nat} (T : Df K mg "tell_near" s_tell_near ["lister", "order"] f fd) (T_Lister : TxL K mg C_Lister fI) (T_Lister_orders : Dm K C_Lister "orders" "Lister.orders" s_Lister_orders ["self"] f1 d1) (T_nearest_of : Df K mg "nearest_of" s_nearest_of ["way", "order", "orders"] f2 d2) (T_show_orders : Df K mg "show_orders" s_show_orders ["orders"] f3 d3) (G_Lister_orders : FnOk P w K mg base CX0 k f1 d1 ["self"] (spOrdersL C_Lister)) (G_nearest_of : FnOk P w K mg base (L2.CX P w) k f2 d2 ["way", "order", "orders"] (spNearR c)) (G_show_orders : FnOk P w K mg base CX0 k f3 d3 ["orders"] spWrL) : FnOk P w K mg base (L2.CX P w) (k + 1) f fd ["lister", "order"] (spNeT C_Lister (c 0) (c 2)) := by
  refine T.F.okX scNeT (fun vs H Q E h => ?_) (fun cdv A outer s H vs Q E hr h => ?_)
  · obtain ⟨a, e, o, X, w, n, d, rs, ss, xs, rfl, _⟩ := h
    rfl
  · obtain ⟨a, e, o, X, wy, n, d, rs, ss, xs, rfl, L, ho, ox, x1, x2, hl, nd, q1, q2, q3⟩ := h
    refine ⟨_, 
      (pss_cons (ps_asg (pe_callS G_nearest_of hr (by rfl) T_nearest_of.g T_nearest_of.F.kp T_nearest_of.b (fun σ => passAt (takes_of rfl rfl rfl rfl) σ) (pa_cons (pe_fld (pv 0) rfl) (pa_cons (pv 1) (pa_cons (pe_meth0 (pv 0) T_Lister.cl T_Lister_orders.me G_Lister_orders hr T_Lister_orders.b .nil pass0) pa_nil)))) (pg_tup (by rfl) (pgs_cons (pg_name (i := 2) scNeT.nd rfl (.inl rfl)) (pgs_cons (pg_name (i := 3) scNeT.nd rfl (.inl rfl)) pgs_nil))))
      (pss_one (ps_ret (pe_joined (PJ.cons (pe_fmt (pv 2)) (PJ.cons pe_str (PJ.cons (pe_fmt (pe_call G_show_orders hr (by rfl) T_show_orders.g T_show_orders.F.kp T_show_orders.b .nil pass0 (pa_cons (pv 3) pa_nil))) PJ.nil))))))), ?_⟩
    obtain ⟨dx, fs, ha, hno⟩ := L.obj "orders" (by decide +kernel) (by decide +kernel) (by decide +kernel) (by decide +kernel) (by decide +kernel)
    obtain ⟨dx2, t, ps, st, ha2, _⟩ := L.ex
    have hn8 := L.n2
    obtain ⟨go, gl⟩ := good_of (n := n) ox x1 x2
    refine ⟨_, rfl, a, _, dx2, _, _, rfl, ha2, T_Lister.cl, T_Lister.nW, fl_w, _, rfl, _, rfl, a, dx, fs, rfl, ha, hno, a, e, X, wy, n, d, rs, ss, rfl, L, hl, fun l qs H1 er nr s1 => ?_⟩
    have hO := L.ol nr.1 er
    have hdq : Dq H1 (.ref l) (dLL rs) := by have := rws_dq nr.1; rw [er] at this; exact this
    have hlen : ∀ ds, dLL rs = .list ds → ds.length ≤ 250 := fun ds e => by injection e with e; rw [← e, List.length_map]; omega
    have wd : WayD (.str wy) := ⟨wy, rfl, L.wy⟩
    have hdo : Dq H1 (.ref o) (dL xs) := .lst (s1 _ _ ho) dqAll_intsG
    by_cases c0 : rs = []
    · refine ⟨.str wy, .ref o, .ref l, .str wy, dL xs, dLL rs, 0, rfl, .str wy, hdo, hdq, hlen, .inl ⟨rfl, fun z => ?_⟩, fun H2 s2 => q1 c0 H2 (s1.trans s2)⟩
      have h2 := (z.2.2 _ rfl).1
      rw [c0] at h2
      exact absurd h2 (by decide)
    · have li := li_of L.ord L.n1 (by omega) nd c0 hl
      by_cases c1 : xs.length = n
      · exact (q3 c0 c1).elim
      · refine ⟨.str wy, .ref o, .ref l, .str wy, dL xs, dLL rs, 2, rfl, .str wy, hdo, hdq, hlen, .inr (.inr ⟨rfl, go, li, wd, fun ds y e hy => ?_⟩), fun H2 s2 => q2 c0 c1 H2 (s1.trans s2)⟩
        injection e with e
        rw [gl]
        rw [← e, List.getElem?_map] at hy
        cases hr : rs[0]? with
        | none => rw [hr] at hy; cases hy
        | some r =>
          rw [hr] at hy
          cases hy
          show xs.length ≠ (r.map PyData.int).length
          rw [List.length_map, (L.ord r (List.mem_of_getElem? hr)).len]
          exact c1
theorem scSuT : FnScope ["lister", "e"] ["lister", "e"] (defScope s_tell_sure) := ⟨rfl, rfl, rfl, by decide +kernel, rfl, by decide +kernel, by decide +kernel⟩
set_option maxHeartbeats 4000000 in
theorem ok_suT {C_Lister fI f f1 f2 : Addr} {c : Nat → Addr} {fd d1 d2 : FuncData} {k : Nat} (T : Df K mg "tell_sure" s_tell_sure ["lister", "e"] f fd) (T_Lister : TxL K mg C_Lister fI) (T_Lister_orders : Dm K C_Lister "orders" "Lister.orders" s_Lister_orders ["self"] f1 d1) (T_not_sure : Df K mg "not_sure" s_not_sure ["way", "orders", "e"] f2 d2) (G_Lister_orders : FnOk P w K mg base CX0 k f1 d1 ["self"] (spOrdersL C_Lister)) (G_not_sure : FnOk P w K mg base (L2.CX P w) k f2 d2 ["way", "orders", "e"] (spSureX c)) : FnOk P w K mg base (L2.CX P w) (k + 1) f fd ["lister", "e"] (spSureT C_Lister (c 0) (c 2)) := by
  refine T.F.okX scSuT (fun vs H Q E h => ?_) (fun cdv A outer s H vs Q E hr h => ?_)
  · obtain ⟨a, e, X, w, n, d, rs, ss, j, rfl, _⟩ := h
    rfl
  · obtain ⟨a, e, X, wy, n, d, rs, ss, j, rfl, L, hl, nd, q1, q2, q3⟩ := h
    refine ⟨_, 
      (pss_one (ps_ret (pe_ifExp (pt_cmpR op_isN (pe_callS G_not_sure hr (by rfl) T_not_sure.g T_not_sure.F.kp T_not_sure.b (fun σ => passAt (takes_of rfl rfl rfl rfl) σ) (pa_cons (pe_fld (pv 0) rfl) (pa_cons (pe_meth0 (pv 0) T_Lister.cl T_Lister_orders.me G_Lister_orders hr T_Lister_orders.b .nil pass0) (pa_cons (pv 1) pa_nil)))) pe_non (nomark _)) pe_str pe_str))), ?_⟩
    obtain ⟨dx, fs, ha, hno⟩ := L.obj "orders" (by decide +kernel) (by decide +kernel) (by decide +kernel) (by decide +kernel) (by decide +kernel)
    obtain ⟨dx2, t, ps, st, ha2, _⟩ := L.ex
    have hn8 := L.n2
    refine ⟨_, rfl, a, _, dx2, _, _, rfl, ha2, T_Lister.cl, T_Lister.nW, fl_w, _, rfl, a, dx, fs, rfl, ha, hno, a, e, X, wy, n, d, rs, ss, rfl, L, hl, fun l qs H1 er nr s1 => ⟨_, rfl, ?_⟩⟩
    have hO := L.ol nr.1 er
    have hdq : Dq H1 (.ref l) (dLL rs) := by have := rws_dq nr.1; rw [er] at this; exact this
    have hlen : ∀ ds, dLL rs = .list ds → ds.length ≤ 250 := fun ds e => by injection e with e; rw [← e, List.length_map]; omega
    have wd : WayD (.str wy) := ⟨wy, rfl, L.wy⟩
    by_cases c0 : rs = []
    · refine ⟨.str wy, .ref l, .int j, .str wy, dLL rs, .int j, 0, rfl, .str wy, hdq, .int j, hlen, .inl ⟨rfl, fun z => ?_⟩, fun H2 s2 => q1 c0 H2 (s1.trans s2)⟩
      have h2 := (z.2 _ rfl).1
      rw [c0] at h2
      exact absurd h2 (by decide)
    · have li := li_of L.ord L.n1 (by omega) nd c0 hl
      by_cases c1 : n ≤ 6
      · exact (q3 c0 c1).elim
      · refine ⟨.str wy, .ref l, .int j, .str wy, dLL rs, .int j, 2, rfl, .str wy, hdq, .int j, hlen, .inr (.inr (.inl ⟨rfl, li, wd, fun ds y e hy => ?_⟩)), fun H2 s2 => q2 c0 (by omega) H2 (s1.trans s2)⟩
        injection e with e
        rw [← e, List.getElem?_map] at hy
        cases hr : rs[0]? with
        | none => rw [hr] at hy; cases hy
        | some r =>
          rw [hr] at hy
          cases hy
          show 6 < (r.map PyData.int).length
          rw [List.length_map, (L.ord r (List.mem_of_getElem? hr)).len]
          omega
end
end Fo
namespace Fo
open PySem PySem.Spec PyProof.Rows L2
/-! the desk -/
structure TxD (K : PySem.W.Frag) (mg : Str → Option Value) (C fI : Addr) : Prop where
  cl : Cls K C
  mkx : Mk K C fI
  g : mg "Desk" = some (.ref C)
  nL : NoAttr K C "lister"
def DkO (CD : Addr) (H : Hp) (b a : Addr) : Prop := ∃ dx, H b = some (.ins CD dx [("lister", .ref a)])
inductive SayO
  | hard
  | txt (t : Str)
  | no (i : Nat)
  | go (t : Str) (rs : List (List Int)) (ss : List (List (List Int)))
  | new (w : Str) (n : Nat) (d : Int)
def SayK (CD CL : Addr) (c : Nat → Addr) (H : Hp) (b a e : Addr) (X : List Addr) (w : Str) (n : Nat) (d : Int) (Q : VK) (E : XK) : SayO → Prop
  | .hard => False
  | .txt t => ∀ H', KeepT H H' → Q (.str t) H'
  | .no i => ∀ H', KeepT H H' → E (.ref (c i)) none H'
  | .go t rs ss => ∀ H', LsAt CL H' a e X w n d rs ss → KpL a e H H' → Q (.str t) H'
  | .new w' n' d' => ∀ a' e' H', H a' = none → H e' = none → a' ≠ e' → DkO CD H' b a' → LsAt CL H' a' e' (e' :: X) w' n' d' [] [] → (∀ x o, H x = some o → x ≠ b → H' x = some o) → Q (.str "ok") H'
/-- what is told of a row without more -/
def bareO (w : Str) (n : Nat) (d : Int) (rs : List (List Int)) (ss : List (List (List Int))) (row : Str) : Option SayO :=
  if row = "undo" then some (match ss.getLast? with
    | none => .no 4
    | some r => .go "ok" r ss.dropLast)
  else if row = "list" then some (.txt (wrL rs))
  else if row = "apart" then some (.txt (apF w rs))
  else if row = "room" then some (if n ≤ 6 then .hard else .no 5)
  else if row = "first" then some (if n ≤ 6 then .hard else .no 5)
  else if row = "bounds" then some (.hard)
  else if row = "middle" then some (if rs = [] ∨ 20 < rs.length then .no 0 else if n ≤ 6 ∨ w = "swap" then .hard else .no 5)
  else none
open Classical in
noncomputable def rdF (s : Str) : Option (List Int) := if h : ∃ xs, RdP s xs then some h.choose else none
theorem rd_uniq {s : Str} {xs ys : List Int} (h : RdP s xs) (g : RdP s ys) : xs = ys := intD_inj (h.1.symm.trans g.1)
theorem rdF_some {s : Str} {xs : List Int} (h : RdP s xs) : rdF s = some xs := by
  unfold rdF
  have he : ∃ xs, RdP s xs := ⟨xs, h⟩
  rw [dif_pos he, rd_uniq he.choose_spec h]
theorem rdF_none {s : Str} (h : ¬ ∃ xs, RdP s xs) : rdF s = none := by
  unfold rdF
  rw [dif_neg h]
def ordO (w : Str) (n : Nat) (d : Int) (rs : List (List Int)) (ss : List (List (List Int))) (k : Nat) (xs : List Int) : SayO :=
  if k = 0 then (if xs.length ≠ n then .no 2 else if 120 ≤ rs.length then .no 5 else if nearR w xs d rs = [] then .go "ok" (srt (rs ++ [xs])) (ss ++ [rs]) else .go (wrL (nearR w xs d rs)) rs ss)
  else if k = 1 then (if xs ∈ rs then .go "ok" (rs.filter fun r => !decide (r = xs)) (ss ++ [rs]) else .no 2)
  else (if rs = [] then .no 0 else if xs.length ≠ n then .no 2 else .hard)
def headK (word : Str) : Option Nat := if word = "come" then some 0 else if word = "drop" then some 1 else if word = "near" then some 2 else none
def numO (w : Str) (n : Nat) (d : Int) (rs : List (List Int)) : List Str → SayO
  | [s, e] => if s = "sure" then (match numL e with
    | none => .no 8
    | some k => if rs = [] then .no 0 else if 6 < n then .no 2 else .hard) else .no 8
  | [s, w', n', d'] => if s = "lister" ∧ w' ≠ "" then (match numL n', numL d' with
    | some n1, some d1 => if w' = "swap" ∨ w' = "spot" ∨ w' = "shift" then (if 1 ≤ n1 ∧ n1 ≤ 8 ∧ 1 ≤ d1 then .new w' n1 d1 else .no 4) else .no 1
    | _, _ => .no 8) else .no 8
  | _ => .no 8
noncomputable def sayT (w : Str) (n : Nat) (d : Int) (rs : List (List Int)) (ss : List (List (List Int))) (row : Str) : SayO :=
  match bareO w n d rs ss row with
  | some o => o
  | none => match (if (Txt.partition row " ").2.1 = " " then headK (Txt.partition row " ").1 else none) with
    | some k => (match rdF (Txt.partition row " ").2.2 with
      | none => .no 6
      | some xs => ordO w n d rs ss k xs)
    | none => numO w n d rs (Txt.split row " ")
noncomputable def sayO (w : Str) (n : Nat) (d : Int) (rs : List (List Int)) (ss : List (List (List Int))) : PyData → SayO
  | .str row => sayT w n d rs ss row
  | _ => .no 8
def spDesk0 (CD CL : Addr) : Sp := fun vs H Q _ => ∃ (b dx : Addr) (X : List Addr), vs = [.ref b] ∧ H b = some (.ins CD dx []) ∧ (∀ x ∈ X, ∃ o, H x = some o) ∧
  ∀ (a e : Addr) (H' : Hp), H a = none → H e = none → a ≠ e → DkO CD H' b a → LsAt CL H' a e (e :: X) "swap" 3 1 [] [] → (∀ x o, H x = some o → x ≠ b → H' x = some o) → Q .non H'
def spSWN (CD CL : Addr) (c : Nat → Addr) : Sp := fun vs H Q E => ∃ (b a e l : Addr) (X : List Addr) (w : Str) (n : Nat) (d : Int) (rs : List (List Int)) (ss : List (List (List Int))) (ws : List Str), vs = [.ref b, .ref l] ∧ DkO CD H b a ∧ LsAt CL H a e X w n d rs ss ∧ rs.length ≤ 120 ∧ rs.Nodup ∧ H l = some (.lst (ws.map V.str)) ∧ ws ≠ [] ∧ ws.length < 16384 ∧ a ∉ X ∧ b ∉ X ∧ SayK CD CL c H b a e X w n d Q E (numO w n d rs ws)
def spSay (CD CL Pt : Addr) (c : Nat → Addr) : Sp := fun vs H Q E => ∃ (b a e : Addr) (X : List Addr) (w : Str) (n : Nat) (d : Int) (rs : List (List Int)) (ss : List (List (List Int))) (v : V) (dat : PyData), vs = [.ref b, v] ∧ DkO CD H b a ∧ LsAt CL H a e X w n d rs ss ∧ rs.length ≤ 120 ∧ ss.length < 1000 ∧ rs.Nodup ∧ GxR.TabG H Pt ∧ Dq H v dat ∧ (∀ s, dat = .str s → s.length ≤ 10000) ∧ a ∉ X ∧ b ∉ X ∧ SayK CD CL c H b a e X w n d Q E (sayO w n d rs ss dat)
theorem LsAt.ins {C : Addr} {H : Hp} {a e y c dx : Addr} {X : List Addr} {w : Str} {n : Nat} {d : Int} {rs : List (List Int)} {ss : List (List (List Int))} {fs gs : List (Str × V)} (L : LsAt C H a e X w n d rs ss) (hy : H y = some (.ins c dx fs)) (ny : y ≠ a) : LsAt C (upd H y (.ins c dx gs)) a e X w n d rs ss := by
  obtain ⟨⟨dx', t, ps, st, e1, e2, e3, e4, e5, e6, eX, tX, pX, sX⟩, tr, r⟩ := L
  have ne : ∀ {b : Addr} {xs : List V}, H b = some (.lst xs) → b ≠ y := fun {b xs} h z => by rw [z, hy] at h; cases h
  have k : ∀ {b : Addr} {o : HO}, H b = some o → b ≠ y → (upd H y (.ins c dx gs)) b = some o := fun {b o} h n => by rw [upd_ne n]; exact h
  have rk : ∀ {t : Addr} {ps : List (Addr × List Int)}, RP H t ps → RP (upd H y (.ins c dx gs)) t ps := fun h => ⟨k h.1 (ne h.1), fun p hp => k (h.2 p hp) (ne (h.2 p hp))⟩
  refine ⟨⟨dx', t, ps, st, k e1 ny.symm, k e2 (ne e2), rk e3, e4, fun q hq => rk (e5 q hq), e6, eX, tX, pX, sX⟩, fun x hx => ?_, by assumption, by assumption, by assumption, by assumption, by assumption, by assumption⟩
  by_cases z : x = y
  · exact ⟨_, by rw [z]; exact upd_same⟩
  · obtain ⟨o, ho⟩ := tr x hx
    exact ⟨o, k ho z⟩
section
variable {P : Program} {w : World} {K : PySem.W.Frag} {mg : Str → Option Value} {base : Heap}
theorem scDesk0 : FnScope ["self"] ["self"] (defScope s_Desk___init__) := ⟨rfl, rfl, rfl, by decide +kernel, rfl, by decide +kernel, by decide +kernel⟩
set_option maxHeartbeats 4000000 in
theorem ok_desk0 {C_Desk C_Lister fI fJ f : Addr} {fd dJ : FuncData} {k : Nat} (T : Dm K C_Desk "__init__" "Desk.__init__" s_Desk___init__ ["self"] f fd) (T_Desk : TxD K mg C_Desk fI) (T_Lister : TxL K mg C_Lister fJ) (T_Lister_init : Dm K C_Lister "__init__" "Lister.__init__" s_Lister___init__ ["self", "way", "n", "d"] fJ dJ) (G_Lister_init : FnOk P w K mg base CX0 k fJ dJ ["self", "way", "n", "d"] (spInitL C_Lister)) : FnOk P w K mg base CX0 (k + 2) f fd ["self"] (spDesk0 C_Desk C_Lister) := by
  refine T.F.ok scDesk0 (fun vs H Q E h => ?_) (fun cdv A outer s H vs Q E hr h => ?_)
  · obtain ⟨b, dx, X, rfl, _⟩ := h
    rfl
  · obtain ⟨b, dx, X, rfl, hb, hX, q⟩ := h
    refine ⟨_, 
      (pss_one (ps_fld (pv 0) (pe_make T_Lister.mkx G_Lister_init hr (by rfl) T_Lister.g T_Lister_init.b .nil pass0 (pa_cons pe_str (pa_cons pe_int (pa_cons pe_int pa_nil)))) rfl)), ?_⟩
    refine fun a da na nda nxa => ?_
    have n2a : (upd H da (.own a)) a = none := by rw [upd_ne nxa.symm]; exact na
    have sm1 := (same_new (o := .own a) nda).trans (same_new (o := .ins C_Lister da []) n2a)
    have nab : b ≠ a := fun z => by rw [← z, hb] at na; cases na
    have ndb : b ≠ da := fun z => by rw [← z, hb] at nda; cases nda
    refine ⟨a, da, X, "swap", 3, 1, rfl, upd_same, .inl rfl, by decide, by decide, by decide, fun x hx => (hX x hx).imp fun o h => sm1 _ _ h, fun m => (by obtain ⟨o, h⟩ := hX a m; rw [na] at h; cases h), fun e H1 ne L1 k1 => ⟨rfl, ?_⟩⟩
    have hb1 : H1 b = some (.ins C_Desk dx []) := k1 _ _ (sm1 _ _ hb) nab
    refine ⟨_, rfl, b, _, dx, _, rfl, hb1, T_Desk.cl, T_Desk.nL, (by show 0 < 1000; decide), ?_⟩
    refine q a e _ na (sm1.free ne) (fun z => (by rw [← z] at ne; rw [show (upd (upd H da (.own a)) a (.ins C_Lister da [])) a = _ from upd_same] at ne; cases ne)) ⟨dx, upd_same⟩ (L1.ins hb1 nab) (fun x o hx nx => ?_)
    rw [upd_ne nx]
    exact k1 _ _ (sm1 _ _ hx) (fun z => by rw [z, na] at hx; cases hx)
theorem scSWN : FnScope ["self", "words", "word", "given"] ["self", "words"] (defScope s_Desk_say_with_numbers) := ⟨rfl, rfl, rfl, by decide +kernel, rfl, by decide +kernel, by decide +kernel⟩
set_option maxHeartbeats 4000000 in
theorem ok_swn {C_Desk C_Lister fI fJ f f1 f2 : Addr} {c : Nat → Addr} {fd dJ d1 d2 : FuncData} {k : Nat} {tD : Tok} (T : Dm K C_Desk "say_with_numbers" "Desk.say_with_numbers" s_Desk_say_with_numbers ["self", "words"] f fd) (T_Desk : TxD K mg C_Desk fI) (T_Lister : TxL K mg C_Lister fJ) (T_Lister_init : Dm K C_Lister "__init__" "Lister.__init__" s_Lister___init__ ["self", "way", "n", "d"] fJ dJ) (T_tell_sure : Df K mg "tell_sure" s_tell_sure ["lister", "e"] f1 d1) (T_read_number : Df K mg "read_number" s_read_number ["word"] f2 d2) (G_Lister_init : FnOk P w K mg base (L2.CX P w) k fJ dJ ["self", "way", "n", "d"] (fun vs H Q E => spInitL C_Lister vs H Q E ∨ spInitX (c 1) (c 4) vs H Q E)) (G_tell_sure : FnOk P w K mg base (L2.CX P w) (k + 1) f1 d1 ["lister", "e"] (spSureT C_Lister (c 0) (c 2))) (G_read_number : FnOk P w K mg base (L2.CX P w) (k + 1) f2 d2 ["word"] (spRdN (c 8))) (X_NoRow : ExK K mg "NoRow" (c 8)) (B : Bi mg) (mDONE : mg "DONE" = some (.str "ok" tD)) : FnOk P w K mg base (L2.CX P w) (k + 2) f fd ["self", "words"] (spSWN C_Desk C_Lister c) := by
  refine T.F.okX scSWN (fun vs H Q E h => ?_) (fun cdv A outer s H vs Q E hr h => ?_)
  · obtain ⟨b, a, e, l, X, w, n, d, rs, ss, ws, rfl, _⟩ := h
    rfl
  · obtain ⟨b, a, e, l, X, wy, n, d, rs, ss, ws, rfl, ⟨dx, hb⟩, L, hl, nd, hw, hne, hwl, naX, nbX, q⟩ := h
    refine ⟨_, 
      (pss_cons (ps_asg (pv 1) (pg_star1 (by rfl) (pgs_cons (pg_name (i := 2) scSWN.nd rfl (.inl rfl)) (pgs_star (pg_name (i := 3) scSWN.nd rfl (.inl rfl)) pgs_nil))))
      (Evl.pss_cut (ps_if (PW.pt (pw_and (pt_cmpR op_eq (pv 2) pe_str (nomark _)) (pw_and1 (pt_cmpR op_eq (pe_callB call_len_seq (by rfl) B.len PySem.boot_len (pa_cons (pv 3) pa_nil)) pe_int (nomark _)))))
        (pss_one (ps_ret (pe_callS G_tell_sure hr (by rfl) T_tell_sure.g T_tell_sure.F.kp T_tell_sure.b (fun σ => passAt (takes_of rfl rfl rfl rfl) σ) (pa_cons (pe_fld (pv 0) rfl) (pa_cons (pe_callS G_read_number hr (by rfl) T_read_number.g T_read_number.F.kp T_read_number.b (fun σ => passAt (takes_of rfl rfl rfl rfl) σ) (pa_cons (pe_ix ix_list (pv 3) pe_int (fun _ _ => rfl)) pa_nil)) pa_nil)))))
        pss_nil)
      (Evl.pss_cut (ps_if (PW.pt (pw_and (pt_cmpR op_eq (pv 2) pe_str (nomark _)) (pw_and (pt_cmpR op_eq (pe_callB call_len_seq (by rfl) B.len PySem.boot_len (pa_cons (pv 3) pa_nil)) pe_int (nomark _)) (pw_and1 (pt_cmpR op_ne (pe_ix ix_list (pv 3) pe_int (fun _ _ => rfl)) pe_str (nomark _))))))
        (pss_cons (ps_fld (pv 0) (pe_makeS T_Lister.mkx G_Lister_init hr (by rfl) T_Lister.g T_Lister_init.b (fun σ => passAt (takes_of rfl rfl rfl rfl) σ) (pa_cons (pe_ix ix_list (pv 3) pe_int (fun _ _ => rfl)) (pa_cons (pe_callS G_read_number hr (by rfl) T_read_number.g T_read_number.F.kp T_read_number.b (fun σ => passAt (takes_of rfl rfl rfl rfl) σ) (pa_cons (pe_ix ix_list (pv 3) pe_int (fun _ _ => rfl)) pa_nil)) (pa_cons (pe_callS G_read_number hr (by rfl) T_read_number.g T_read_number.F.kp T_read_number.b (fun σ => passAt (takes_of rfl rfl rfl rfl) σ) (pa_cons (pe_ix ix_list (pv 3) pe_int (fun _ _ => rfl)) pa_nil)) pa_nil)))) rfl)
        (pss_one (ps_ret (pe_glob (v := .str "ok") (by rfl) mDONE ⟨_, rfl⟩))))
        pss_nil)
      (pss_one (ps_raiseK rfl (takes_of rfl rfl rfl rfl) X_NoRow (by rfl)))))), ?_⟩
    obtain ⟨w0, gs, rfl⟩ : ∃ w0 gs, ws = w0 :: gs := by
      cases ws with
      | nil => exact absurd rfl hne
      | cons x r => exact ⟨x, r, rfl⟩
    have hgl : gs.length < 16384 := by rw [List.length_cons] at hwl; omega
    refine ⟨_, rfl, l, .str w0, gs.map V.str, rfl, SqL.of hw, by rw [List.length_map]; exact hgl, fun D nD => ⟨_, _, rfl, _, _, rfl, rfl, ?_⟩⟩
    have s1 := same_new (o := .lst (gs.map V.str)) nD
    have L1 := L.same s1
    have hb1 := s1 _ _ hb
    have hD1 : (upd H D (.lst (gs.map V.str))) D = some (.lst (gs.map V.str)) := upd_same
    generalize upd H D (.lst (gs.map V.str)) = H1 at s1 L1 hb1 hD1 ⊢
    have elen : (gs.map V.str).length = gs.length := List.length_map _
    -- sure
    refine ⟨fun σ G => σ = [some (.ref b), some (.ref l), some (.str w0), some (.ref D)] ∧ G = H1 ∧ ¬ (w0 = "sure" ∧ gs.length = 1), ?_, fun σ G hP => ?_⟩
    · refine ⟨_, rfl, rfl, _, rfl, ?_⟩
      by_cases c0 : w0 = "sure"
      · rw [decide_eq_true (show V.str w0 = V.str "sure" by rw [c0])]
        refine iteT ⟨_, rfl, D, _, rfl, .inl (SqL.of hD1), rfl, _, rfl, ?_⟩
        rw [elen]
        by_cases c1 : gs.length = 1
        · rw [decide_eq_true (show V.int ((gs.length : Nat) : Int) = V.int 1 by rw [c1]; rfl)]
          obtain ⟨g0, rfl⟩ : ∃ g0, gs = [g0] := List.length_eq_one_iff.mp c1
          subst c0
          have qe : numO wy n d rs ["sure", g0] = (match numL g0 with
            | none => SayO.no 8
            | some k => if rs = [] then .no 0 else if 6 < n then .no 2 else .hard) := by
            rw [numO, if_pos rfl]
          rw [qe] at q
          refine iteT ⟨_, rfl, b, _, dx, _, _, rfl, hb1, T_Desk.cl, T_Desk.nL, rfl, _, rfl, D, _, _, _, rfl, rfl, SqL.of hD1, atI_nat (j := 0) rfl, g0, rfl, fun k hk => ?_, fun hn => ?_⟩
          · rw [hk] at q
            refine ⟨a, e, X, wy, n, d, rs, ss, k, rfl, L1, hl, nd, fun c2 H2 s2 => ?_, fun c2 c3 H2 s2 => ?_, fun c2 c3 => ?_⟩
            · replace q : SayK C_Desk C_Lister c H b a e X wy n d Q E (if rs = [] then .no 0 else if 6 < n then .no 2 else .hard) := q
              rw [if_pos c2] at q
              exact q H2 (KeepT.of_same (s1.trans s2))
            · replace q : SayK C_Desk C_Lister c H b a e X wy n d Q E (if rs = [] then .no 0 else if 6 < n then .no 2 else .hard) := q
              rw [if_neg c2, if_pos c3] at q
              exact q H2 (KeepT.of_same (s1.trans s2))
            · replace q : SayK C_Desk C_Lister c H b a e X wy n d Q E (if rs = [] then .no 0 else if 6 < n then .no 2 else .hard) := q
              rw [if_neg c2, if_neg (by omega)] at q
              exact q
          · rw [hn] at q
            exact q H1 (KeepT.of_same s1)
        · rw [decide_eq_false (show ¬ V.int ((gs.length : Nat) : Int) = V.int 1 from fun z => c1 (by have := V.int.inj z; omega))]
          exact iteF ⟨rfl, rfl, fun z => c1 z.2⟩
      · rw [decide_eq_false (show ¬ V.str w0 = V.str "sure" from fun z => c0 (V.str.inj z))]
        exact iteF (iteF ⟨rfl, rfl, fun z => c0 z.1⟩)
    obtain ⟨rfl, rfl, hns⟩ := hP
    -- lister
    refine ⟨fun σ G' => σ = [some (.ref b), some (.ref l), some (.str w0), some (.ref D)] ∧ G' = G ∧ ¬ (w0 = "lister" ∧ ∃ w' n' d', gs = [w', n', d'] ∧ w' ≠ ""), ?_, fun σ G' hP => ?_⟩
    · refine ⟨_, rfl, rfl, _, rfl, ?_⟩
      by_cases c0 : w0 = "lister"
      · rw [decide_eq_true (show V.str w0 = V.str "lister" by rw [c0])]
        refine iteT ⟨_, rfl, D, _, rfl, .inl (SqL.of hD1), rfl, _, rfl, ?_⟩
        rw [elen]
        by_cases c1 : gs.length = 3
        · rw [decide_eq_true (show V.int ((gs.length : Nat) : Int) = V.int 3 by rw [c1]; rfl)]
          obtain ⟨w', n', d', rfl⟩ : ∃ w' n' d', gs = [w', n', d'] := by
            match gs, c1 with
            | [x, y, z], _ => exact ⟨x, y, z, rfl⟩
          refine iteT ⟨_, rfl, D, _, _, _, rfl, rfl, SqL.of hD1, atI_nat (j := 0) rfl, rfl, _, rfl, ?_⟩
          by_cases c2 : w' = ""
          · rw [decide_eq_true (show V.str w' = V.str "" by rw [c2])]
            exact iteF ⟨rfl, rfl, fun z => by obtain ⟨_, x, y, u, e1, e2⟩ := z; injection e1 with e1; exact e2 (by rw [← e1]; exact c2)⟩
          · rw [decide_eq_false (show ¬ V.str w' = V.str "" from fun z => c2 (V.str.inj z))]
            subst c0
            have qe : numO wy n d rs ["lister", w', n', d'] = (match numL n', numL d' with
              | some n1, some d1 => if w' = "swap" ∨ w' = "spot" ∨ w' = "shift" then (if 1 ≤ n1 ∧ n1 ≤ 8 ∧ 1 ≤ d1 then SayO.new w' n1 d1 else .no 4) else .no 1
              | _, _ => .no 8) := by rw [numO, if_pos ⟨rfl, c2⟩]
            rw [qe] at q
            refine iteT ⟨_, rfl, D, _, _, _, rfl, rfl, SqL.of hD1, atI_nat (j := 0) rfl, _, rfl, D, _, _, _, rfl, rfl, SqL.of hD1, atI_nat (j := 1) rfl, n', rfl, fun n1 hn1 => ?_, fun hn => ?_⟩
            rotate_left
            · rw [hn] at q
              exact q G (KeepT.of_same s1)
            refine ⟨_, rfl, D, _, _, _, rfl, rfl, SqL.of hD1, atI_nat (j := 2) rfl, d', rfl, fun d1 hd1 => ?_, fun hn => ?_⟩
            rotate_left
            · rw [hn1, hn] at q
              exact q G (KeepT.of_same s1)
            rw [hn1, hd1] at q
            replace q : SayK C_Desk C_Lister c H b a e X wy n d Q E (if w' = "swap" ∨ w' = "spot" ∨ w' = "shift" then (if 1 ≤ n1 ∧ n1 ≤ 8 ∧ 1 ≤ d1 then SayO.new w' n1 d1 else .no 4) else .no 1) := q
            refine fun y dy ny ndy nyx => ?_
            have n2y : (upd G dy (.own y)) y = none := by rw [upd_ne nyx.symm]; exact ny
            have sm1 := (same_new (o := .own y) ndy).trans (same_new (o := .ins C_Lister dy []) n2y)
            have s13 := s1.trans sm1
            have nyb : b ≠ y := fun z => by rw [← z, hb1] at ny; cases ny
            by_cases cw : w' = "swap" ∨ w' = "spot" ∨ w' = "shift"
            · rw [if_pos cw] at q
              by_cases cn : 1 ≤ n1 ∧ n1 ≤ 8 ∧ 1 ≤ d1
              · rw [if_pos cn] at q
                refine .inl ⟨y, dy, X, w', n1, d1, rfl, upd_same, cw, cn.1, cn.2.1, by omega, fun x hx => (L.tr x hx).imp fun o h => s13 _ _ h, fun m => (by obtain ⟨o, h⟩ := L.tr y m; rw [s1 _ _ h] at ny; cases ny), fun e' H2 ne' L2 k2 => ⟨rfl, ?_⟩⟩
                have hb2 : H2 b = some (.ins C_Desk dx [("lister", .ref a)]) := k2 _ _ (sm1 _ _ hb1) nyb
                refine ⟨_, rfl, b, _, dx, _, rfl, hb2, T_Desk.cl, T_Desk.nL, (by show 1 < 1000; decide), ?_⟩
                refine q y e' _ (s1.free ny) (s1.free (sm1.free ne')) (fun z => (by rw [← z] at ne'; rw [show (upd (upd G dy (.own y)) y (.ins C_Lister dy [])) y = _ from upd_same] at ne'; cases ne')) ⟨dx, upd_same⟩ (L2.ins hb2 nyb) (fun x o hx nx => ?_)
                rw [upd_ne nx]
                exact k2 _ _ (s13 _ _ hx) (fun z => by rw [← z] at ny; rw [s1 _ _ hx] at ny; cases ny)
              · rw [if_neg cn] at q
                refine .inr ⟨y, .str w', .int n1, .int d1, .str w', .int n1, .int d1, rfl, .str _, .int _, .int _, .inr ⟨⟨w', rfl, cw⟩, fun z => cn ?_, q _ (KeepT.of_same s13)⟩⟩
                obtain ⟨⟨i, ei, i1, i2⟩, j, ej, j1⟩ := z
                injection ei with ei
                injection ej with ej
                omega
            · rw [if_neg cw] at q
              refine .inr ⟨y, .str w', .int n1, .int d1, .str w', .int n1, .int d1, rfl, .str _, .int _, .int _, .inl ⟨fun z => cw ?_, q _ (KeepT.of_same s13)⟩⟩
              obtain ⟨z1, e1, e2⟩ := z
              injection e1 with e1
              rw [e1]
              exact e2
        · rw [decide_eq_false (show ¬ V.int ((gs.length : Nat) : Int) = V.int 3 from fun z => c1 (by have := V.int.inj z; omega))]
          exact iteF (iteF ⟨rfl, rfl, fun z => by obtain ⟨_, x, y, u, e1, _⟩ := z; rw [e1] at c1; exact c1 rfl⟩)
      · rw [decide_eq_false (show ¬ V.str w0 = V.str "lister" from fun z => c0 (V.str.inj z))]
        exact iteF (iteF ⟨rfl, rfl, fun z => c0 z.1⟩)
    obtain ⟨rfl, rfl, hnl⟩ := hP
    -- no such row
    have qe : numO wy n d rs (w0 :: gs) = .no 8 := by
      match gs, hns, hnl with
      | [], _, _ => rfl
      | [x], hns, _ => rw [numO, if_neg fun z => hns ⟨z, rfl⟩]
      | [x, y], _, _ => rfl
      | [x, y, z], _, hnl => rw [numO, if_neg fun h => hnl ⟨h.1, x, y, z, rfl, h.2⟩]
      | x :: y :: z :: u :: r, _, _ => rfl
    rw [qe] at q
    exact q _ (KeepT.of_same s1)
end
end Fo
namespace Fo
open PySem PySem.Spec PyProof.Rows L2
theorem val7 {s : Str} {v0 v1 v2 v3 v4 v5 v6 : V} : valV [((.inr "undo" : Key), v0), (.inr "list", v1), (.inr "apart", v2), (.inr "room", v3), (.inr "first", v4), (.inr "bounds", v5), (.inr "middle", v6)] (.inr s) =
    if s = "undo" then some v0 else if s = "list" then some v1 else if s = "apart" then some v2 else if s = "room" then some v3 else if s = "first" then some v4 else if s = "bounds" then some v5 else if s = "middle" then some v6 else none := by
  have key : ∀ {t : Str} {v : V} {r : List (Key × V)}, valV (((.inr t : Key), v) :: r) (.inr s) = if s = t then some v else valV r (.inr s) := fun {t v r} => by
    unfold valV
    rw [List.find?_cons]
    by_cases c : s = t
    · rw [if_pos c, show decide ((Sum.inr t : Key) = Sum.inr s) = true from decide_eq_true (by rw [c])]
      rfl
    · rw [if_neg c, show decide ((Sum.inr t : Key) = Sum.inr s) = false from decide_eq_false (fun z => c (Sum.inr.inj z).symm)]
  rw [key, key, key, key, key, key, key]
  rfl
theorem val3 {s : Str} {v0 v1 v2 : V} : valV [((.inr "come" : Key), v0), (.inr "drop", v1), (.inr "near", v2)] (.inr s) = if s = "come" then some v0 else if s = "drop" then some v1 else if s = "near" then some v2 else none := by
  have key : ∀ {t : Str} {v : V} {r : List (Key × V)}, valV (((.inr t : Key), v) :: r) (.inr s) = if s = t then some v else valV r (.inr s) := fun {t v r} => by
    unfold valV
    rw [List.find?_cons]
    by_cases c : s = t
    · rw [if_pos c, show decide ((Sum.inr t : Key) = Sum.inr s) = true from decide_eq_true (by rw [c])]
      rfl
    · rw [if_neg c, show decide ((Sum.inr t : Key) = Sum.inr s) = false from decide_eq_false (fun z => c (Sum.inr.inj z).symm)]
  rw [key, key, key]
  rfl
abbrev kvB (f0 f1 f2 f3 f4 f5 f6 : Addr) : List (Key × V) := [((.inr "undo" : Key), .ref f0), (.inr "list", .ref f1), (.inr "apart", .ref f2), (.inr "room", .ref f3), (.inr "first", .ref f4), (.inr "bounds", .ref f5), (.inr "middle", .ref f6)]
abbrev kvO (g0 g1 g2 : Addr) : List (Key × V) := [((.inr "come" : Key), .ref g0), (.inr "drop", .ref g1), (.inr "near", .ref g2)]
theorem split_ne (s : Str) : Txt.split s " " ≠ [] := fun z => by
  have h := StrLaws.join_split s " "
  rw [z] at h
  have e : s = "" := h.symm
  rw [e] at z
  exact absurd z (by decide +kernel)
theorem par_len {S : List Nat} : ∀ {l acc a b : List Nat}, TL.par S acc l = some (a, b) → b.length ≤ l.length
  | [], _, _, _, h => by cases h
  | c :: r, acc, a, b, h => by
    rw [TL.par] at h
    split at h
    · cases h
      rw [List.length_drop]
      omega
    · have := par_len h
      rw [List.length_cons]
      omega
theorem rest_len (s : Str) : (Txt.partition s " ").2.2.length ≤ s.length := by
  rw [TL.partition_par s " " (by decide +kernel)]
  split
  · rename_i a b h
    have := par_len h
    rw [TL.len_tl s]
    simpa [Str.length] using this
  · exact Nat.zero_le _
theorem SayK.later {CD CL : Addr} {c : Nat → Addr} {H H1 : Hp} {b a e : Addr} {X : List Addr} {w : Str} {n : Nat} {d : Int} {Q : VK} {E : XK} {o : SayO} (q : SayK CD CL c H b a e X w n d Q E o) (s : Same H H1) : SayK CD CL c H1 b a e X w n d Q E o := by
  cases o with
  | hard => exact q
  | txt t => exact fun H' k' => q H' ((KeepT.of_same s).trans k')
  | no i => exact fun H' k' => q H' ((KeepT.of_same s).trans k')
  | go t rs ss => exact fun H' L' k' => q H' L' (fun x o hx n1 n2 => k' x o (s _ _ hx) n1 n2)
  | new w' n' d' => exact fun a' e' H' na ne nae hD hL k' => q a' e' H' (s.free na) (s.free ne) nae hD hL (fun x o hx nx => k' x o (s _ _ hx) nx)
section
variable {P : Program} {w : World} {K : PySem.W.Frag} {mg : Str → Option Value} {base : Heap}
theorem scSay : FnScope ["self", "row", "bare", "word", "blank", "rest", "with_order"] ["self", "row"] (defScope s_Desk_say) := ⟨rfl, rfl, rfl, by decide +kernel, rfl, by decide +kernel, by decide +kernel⟩
set_option maxHeartbeats 8000000 in
theorem ok_say {C_Desk C_Lister Pt fI fJ f f1 f2 aB aO f0 g1 g2 g3 g4 g5 g6 h0 h1 h2 : Addr} {c : Nat → Addr} {fd d1 d2 d0 e1 e2 e3 e4 e5 e6 i0 i1 i2 : FuncData} {k : Nat} (T : Dm K C_Desk "say" "Desk.say" s_Desk_say ["self", "row"] f fd) (T_Desk : TxD K mg C_Desk fI) (T_Lister : TxL K mg C_Lister fJ) (T_read_order : Df K mg "read_order" s_read_order ["text"] f1 d1) (T_Desk_say_with_numbers : Dm K C_Desk "say_with_numbers" "Desk.say_with_numbers" s_Desk_say_with_numbers ["self", "words"] f2 d2)
    (T_undo_last : Df K mg "undo_last" s_undo_last ["lister"] f0 d0) (T_tell_list : Df K mg "tell_list" s_tell_list ["lister"] g1 e1) (T_tell_apart : Df K mg "tell_apart" s_tell_apart ["lister"] g2 e2) (T_tell_room : Df K mg "tell_room" s_tell_room ["lister"] g3 e3) (T_tell_first : Df K mg "tell_first" s_tell_first ["lister"] g4 e4) (T_tell_bounds : Df K mg "tell_bounds" s_tell_bounds ["lister"] g5 e5) (T_tell_middle : Df K mg "tell_middle" s_tell_middle ["lister"] g6 e6) (T_let_come : Df K mg "let_come" s_let_come ["lister", "order"] h0 i0) (T_let_drop : Df K mg "let_drop" s_let_drop ["lister", "order"] h1 i1) (T_tell_near : Df K mg "tell_near" s_tell_near ["lister", "order"] h2 i2)
    (G_read_order : FnOk P w K mg base (L2.CX P w) k f1 d1 ["text"] (spReadX (c 6))) (G_Desk_say_with_numbers : FnOk P w K mg base (L2.CX P w) k f2 d2 ["self", "words"] (spSWN C_Desk C_Lister c))
    (G_undo_last : FnOk P w K mg base (L2.CX P w) k f0 d0 ["lister"] (spUndT C_Lister (c 4))) (G_tell_list : FnOk P w K mg base CX0 k g1 e1 ["lister"] (spTxtT C_Lister fun _ _ _ rs => wrL rs)) (G_tell_apart : FnOk P w K mg base CX0 k g2 e2 ["lister"] (spTxtT C_Lister fun w _ _ rs => apF w rs)) (G_tell_room : FnOk P w K mg base (L2.CX P w) k g3 e3 ["lister"] (spFewT C_Lister (c 5))) (G_tell_first : FnOk P w K mg base (L2.CX P w) k g4 e4 ["lister"] (spFewT C_Lister (c 5))) (G_tell_middle : FnOk P w K mg base (L2.CX P w) k g6 e6 ["lister"] (spMidT C_Lister (c 0) (c 5)))
    (G_let_come : FnOk P w K mg base (L2.CX P w) k h0 i0 ["lister", "order"] (spComeT C_Lister (c 2) (c 5))) (G_let_drop : FnOk P w K mg base (L2.CX P w) k h1 i1 ["lister", "order"] (spDropT C_Lister (c 2))) (G_tell_near : FnOk P w K mg base (L2.CX P w) k h2 i2 ["lister", "order"] (spNeT C_Lister (c 0) (c 2)))
    (X_NoRow : ExK K mg "NoRow" (c 8)) (B : Bi mg) (mBARE : mg "BARE_ROWS" = some (.ref aB)) (mORDR : mg "ORDER_ROWS" = some (.ref aO)) (DB : DKs P w K aB (kvB f0 g1 g2 g3 g4 g5 g6)) (DO : DKs P w K aO (kvO h0 h1 h2)) : FnOk P w K mg base (L2.CX P w) (k + 1) f fd ["self", "row"] (spSay C_Desk C_Lister Pt c) := by
  refine T.F.okX scSay (fun vs H Q E h => ?_) (fun cdv A outer s H vs Q E hr h => ?_)
  · obtain ⟨b, a, e, X, w, n, d, rs, ss, v, dat, rfl, _⟩ := h
    rfl
  · obtain ⟨b, a, e, X, wy, n, d, rs, ss, v, dat, rfl, ⟨dx, hb⟩, L, hl, hs, nd, tab, hv, hsh, naX, nbX, q⟩ := h
    refine ⟨_, 
      (pss_cons (ps_if (pt_not (pt_val (pe_callB call_isi (by rfl) B.isinstance (by decide +kernel) (pa_cons (pv 1) (pa_cons (pe_bltn (v := .ty "str") (by rfl) B.str (by decide +kernel) rfl) pa_nil)))))
        (pss_one (ps_raiseK rfl (takes_of rfl rfl rfl rfl) X_NoRow (by rfl)))
        pss_nil)
      (pss_cons (ps_if (pt_cmp (pc_dinK (pv 1) (pe_glob (v := .ref aB) (by rfl) mBARE rfl)))
        (pss_cons (ps_set (i := 2) scSay.nd rfl (.inl rfl) (pe_dgetK (pe_glob (v := .ref aB) (by rfl) mBARE rfl) (pv 1) (fun _ _ => rfl)))
        (pss_one (ps_ret (pe_callAX (i := 2) hr (by rfl) (by first | exact Or.inl rfl | exact Or.inr (Or.inl rfl) | exact Or.inr (Or.inr rfl)) (fun σ => passAt (takes_of rfl rfl rfl rfl) σ) (pa_cons (pe_fld (pv 0) rfl) pa_nil)))))
        pss_nil)
      (pss_cons (ps_asg (pe_partition (pv 1) pe_str) (pg_tup (by rfl) (pgs_cons (pg_name (i := 3) scSay.nd rfl (.inl rfl)) (pgs_cons (pg_name (i := 4) scSay.nd rfl (.inl rfl)) (pgs_cons (pg_name (i := 5) scSay.nd rfl (.inl rfl)) pgs_nil)))))
      (Evl.pss_cut (ps_if (PW.pt (pw_and (pt_cmp (pc_dinK (pv 3) (pe_glob (v := .ref aO) (by rfl) mORDR rfl))) (pw_and1 (pt_cmpR op_eq (pv 4) pe_str (nomark _)))))
        (pss_cons (ps_set (i := 6) scSay.nd rfl (.inl rfl) (pe_dgetK (pe_glob (v := .ref aO) (by rfl) mORDR rfl) (pv 3) (fun _ _ => rfl)))
        (pss_one (ps_ret (pe_callAX (i := 6) hr (by rfl) (by first | exact Or.inl rfl | exact Or.inr (Or.inl rfl) | exact Or.inr (Or.inr rfl)) (fun σ => passAt (takes_of rfl rfl rfl rfl) σ) (pa_cons (pe_fld (pv 0) rfl) (pa_cons (pe_callS G_read_order hr (by rfl) T_read_order.g T_read_order.F.kp T_read_order.b (fun σ => passAt (takes_of rfl rfl rfl rfl) σ) (pa_cons (pv 5) pa_nil)) pa_nil))))))
        pss_nil)
      (pss_one (ps_ret (pe_methS (pv 0) T_Desk.cl T_Desk_say_with_numbers.me G_Desk_say_with_numbers hr T_Desk_say_with_numbers.b (fun σ => passAt (takes_of rfl rfl rfl rfl) σ) (pa_cons (pe_split (pv 1) pe_str) pa_nil)))))))), ?_⟩
    refine ⟨_, rfl, _, _, _, _, isStrD dat, rfl, .ty _, dq_ty hv, kit_strD dat, _, rfl, ?_⟩
    cases hst : isStrD dat with
    | false =>
      refine iteT ?_
      have e0 : sayO wy n d rs ss dat = .no 8 := by
        cases dat with
        | str x => cases hst
        | _ => rfl
      rw [e0] at q
      exact q _ (KeepT.refl H)
    | true =>
      obtain ⟨row, rfl⟩ : ∃ row, dat = .str row := by
        cases dat with
        | str x => exact ⟨x, rfl⟩
        | _ => cases hst
      cases hv
      have hlen := hsh row rfl
      replace q : SayK C_Desk C_Lister c H b a e X wy n d Q E (sayT wy n d rs ss row) := q
      refine iteF ⟨_, rfl, aB, _, .inr row, rfl, DB, rfl, _, rfl, ?_⟩
      rw [val7]
      unfold sayT at q
      have bare : ∀ {o : SayO}, bareO wy n d rs ss row = some o → SayK C_Desk C_Lister c H b a e X wy n d Q E o := fun {o} h => by
        rw [h] at q
        exact q
      by_cases r0 : row = "undo"
      · subst r0
        have q0 := bare (o := _) (by unfold bareO; rw [if_pos rfl])
        rw [if_pos rfl]
        refine iteT ⟨_, rfl, aB, _, .inr "undo", .ref f0, rfl, DB, rfl, by rw [val7, if_pos rfl], f0, _, rfl, ⟨_, _, G_undo_last, T_undo_last.F.kp, T_undo_last.b⟩, _, rfl, b, _, dx, _, _, rfl, hb, T_Desk.cl, T_Desk.nL, rfl, ?_⟩
        refine ⟨a, e, X, wy, n, d, rs, ss, rfl, L, fun r1 ss1 e1 H1 L1 k1 => ?_, fun e1 => ?_⟩
        · subst e1
          rw [List.getLast?_concat] at q0
          exact q0 H1 (by rw [List.dropLast_concat]; exact L1) k1
        · subst e1
          exact q0 H (KeepT.refl H)
      rw [if_neg r0]
      by_cases r1 : row = "list"
      · subst r1
        have q0 := bare (o := _) (by unfold bareO; rw [if_neg r0, if_pos rfl])
        rw [if_pos rfl]
        refine iteT ⟨_, rfl, aB, _, .inr "list", .ref g1, rfl, DB, rfl, by rw [val7, if_neg r0, if_pos rfl], g1, _, rfl, ⟨_, _, fn_up G_tell_list, T_tell_list.F.kp, T_tell_list.b⟩, _, rfl, b, _, dx, _, _, rfl, hb, T_Desk.cl, T_Desk.nL, rfl, ?_⟩
        exact ⟨a, e, X, wy, n, d, rs, ss, rfl, L, hl, fun H1 s1 => q0 H1 (KeepT.of_same s1)⟩
      rw [if_neg r1]
      by_cases r2 : row = "apart"
      · subst r2
        have q0 := bare (o := _) (by unfold bareO; rw [if_neg r0, if_neg r1, if_pos rfl])
        rw [if_pos rfl]
        refine iteT ⟨_, rfl, aB, _, .inr "apart", .ref g2, rfl, DB, rfl, by rw [val7, if_neg r0, if_neg r1, if_pos rfl], g2, _, rfl, ⟨_, _, fn_up G_tell_apart, T_tell_apart.F.kp, T_tell_apart.b⟩, _, rfl, b, _, dx, _, _, rfl, hb, T_Desk.cl, T_Desk.nL, rfl, ?_⟩
        exact ⟨a, e, X, wy, n, d, rs, ss, rfl, L, hl, fun H1 s1 => q0 H1 (KeepT.of_same s1)⟩
      rw [if_neg r2]
      by_cases r3 : row = "room"
      · subst r3
        have q0 := bare (o := _) (by unfold bareO; rw [if_neg r0, if_neg r1, if_neg r2, if_pos rfl])
        rw [if_pos rfl]
        refine iteT ⟨_, rfl, aB, _, .inr "room", .ref g3, rfl, DB, rfl, by rw [val7, if_neg r0, if_neg r1, if_neg r2, if_pos rfl], g3, _, rfl, ⟨_, _, G_tell_room, T_tell_room.F.kp, T_tell_room.b⟩, _, rfl, b, _, dx, _, _, rfl, hb, T_Desk.cl, T_Desk.nL, rfl, ?_⟩
        refine ⟨a, e, X, wy, n, d, rs, ss, rfl, L, fun c6 => ?_, fun c6 => ?_⟩
        · rw [if_pos c6] at q0
          exact q0
        · rw [if_neg (by omega)] at q0
          exact q0 H (KeepT.refl H)
      rw [if_neg r3]
      by_cases r4 : row = "first"
      · subst r4
        have q0 := bare (o := _) (by unfold bareO; rw [if_neg r0, if_neg r1, if_neg r2, if_neg r3, if_pos rfl])
        rw [if_pos rfl]
        refine iteT ⟨_, rfl, aB, _, .inr "first", .ref g4, rfl, DB, rfl, by rw [val7, if_neg r0, if_neg r1, if_neg r2, if_neg r3, if_pos rfl], g4, _, rfl, ⟨_, _, G_tell_first, T_tell_first.F.kp, T_tell_first.b⟩, _, rfl, b, _, dx, _, _, rfl, hb, T_Desk.cl, T_Desk.nL, rfl, ?_⟩
        refine ⟨a, e, X, wy, n, d, rs, ss, rfl, L, fun c6 => ?_, fun c6 => ?_⟩
        · rw [if_pos c6] at q0
          exact q0
        · rw [if_neg (by omega)] at q0
          exact q0 H (KeepT.refl H)
      rw [if_neg r4]
      by_cases r5 : row = "bounds"
      · subst r5
        have q0 := bare (o := _) (by unfold bareO; rw [if_neg r0, if_neg r1, if_neg r2, if_neg r3, if_neg r4, if_pos rfl])
        exact q0.elim
      rw [if_neg r5]
      by_cases r6 : row = "middle"
      · subst r6
        have q0 := bare (o := _) (by unfold bareO; rw [if_neg r0, if_neg r1, if_neg r2, if_neg r3, if_neg r4, if_neg r5, if_pos rfl])
        rw [if_pos rfl]
        refine iteT ⟨_, rfl, aB, _, .inr "middle", .ref g6, rfl, DB, rfl, by rw [val7, if_neg r0, if_neg r1, if_neg r2, if_neg r3, if_neg r4, if_neg r5, if_pos rfl], g6, _, rfl, ⟨_, _, G_tell_middle, T_tell_middle.F.kp, T_tell_middle.b⟩, _, rfl, b, _, dx, _, _, rfl, hb, T_Desk.cl, T_Desk.nL, rfl, ?_⟩
        refine ⟨a, e, X, wy, n, d, rs, ss, rfl, L, hl, fun c6 H1 s1 => ?_, fun c6 c7 c8 => ?_, fun c6 c7 c8 H1 s1 => ?_⟩
        · rw [if_pos c6] at q0
          exact q0 H1 (KeepT.of_same s1)
        · rw [if_neg (fun z => z.elim c6 (by omega)), if_pos c8] at q0
          exact q0
        · rw [if_neg (fun z => z.elim c6 (by omega)), if_neg c8] at q0
          exact q0 H1 (KeepT.of_same s1)
      rw [if_neg r6]
      have nb : bareO wy n d rs ss row = none := by unfold bareO; rw [if_neg r0, if_neg r1, if_neg r2, if_neg r3, if_neg r4, if_neg r5, if_neg r6]
      rw [nb] at q
      clear bare nb
      replace q : SayK C_Desk C_Lister c H b a e X wy n d Q E (match (if (Txt.partition row " ").2.1 = " " then headK (Txt.partition row " ").1 else none) with
        | some k => (match rdF (Txt.partition row " ").2.2 with
          | none => .no 6
          | some xs => ordO wy n d rs ss k xs)
        | none => numO wy n d rs (Txt.split row " ")) := q
      refine iteF ?_
      refine ⟨_, rfl, ⟨_, rfl⟩, row, " ", rfl, rfl, by decide +kernel, line_small (by omega), fun t nt => ?_⟩
      have s1 := same_new (o := .tup [.str (Txt.partition row " ").1, .str (Txt.partition row " ").2.1, .str (Txt.partition row " ").2.2]) nt
      have L1 := L.same s1
      have hb1 := s1 _ _ hb
      have htl := rest_len row
      refine ⟨t, _, rfl, .inl (.inl upd_same), rfl, _, _, rfl, _, _, rfl, _, _, rfl, rfl, ?_⟩
      generalize upd H t (.tup [.str (Txt.partition row " ").1, .str (Txt.partition row " ").2.1, .str (Txt.partition row " ").2.2]) = H1 at s1 L1 hb1 ⊢
      generalize (Txt.partition row " ").1 = word at q htl ⊢
      generalize (Txt.partition row " ").2.1 = bl at q htl ⊢
      generalize (Txt.partition row " ").2.2 = rest at q htl ⊢
      refine ⟨fun σ G => σ = [some (.ref b), some (.str row), none, some (.str word), some (.str bl), some (.str rest), none] ∧ G = H1 ∧ (if bl = " " then headK word else none) = none, ?_, fun σ G hP => ?_⟩
      · refine ⟨_, rfl, aO, _, .inr word, rfl, DO, rfl, _, rfl, ?_⟩
        rw [val3]
        by_cases cb : bl = " "
        · rw [if_pos cb] at q
          have ct : decide (V.str bl = V.str " ") = true := decide_eq_true (by rw [cb])
          have hrd : ∀ {j : Nat}, headK word = some j → (∀ xs, RdP rest xs → SayK C_Desk C_Lister c H b a e X wy n d Q E (ordO wy n d rs ss j xs)) ∧ ((¬ ∃ xs, RdP rest xs) → SayK C_Desk C_Lister c H b a e X wy n d Q E (.no 6)) := fun {j} hj => by
            rw [hj] at q
            replace q : SayK C_Desk C_Lister c H b a e X wy n d Q E (match rdF rest with
              | none => .no 6
              | some xs => ordO wy n d rs ss j xs) := q
            refine ⟨fun xs hx => ?_, fun hx => ?_⟩
            · rw [rdF_some hx] at q
              exact q
            · rw [rdF_none hx] at q
              exact q
          by_cases c0 : word = "come"
          · rw [if_pos c0]
            obtain ⟨p1, p2⟩ := hrd (j := 0) (by unfold headK; rw [if_pos c0])
            refine iteT ⟨_, rfl, rfl, _, rfl, ?_⟩
            rw [ct]
            refine iteT ⟨_, rfl, aO, _, .inr word, .ref h0, rfl, DO, rfl, by rw [val3, if_pos c0], h0, _, rfl, ⟨_, _, G_let_come, T_let_come.F.kp, T_let_come.b⟩, _, rfl, b, _, dx, _, _, rfl, hb1, T_Desk.cl, T_Desk.nL, rfl, _, rfl, .str rest, .str rest, rfl, .str _, fun s e => (by injection e with e; rw [← e]; omega), fun xs hx l H2 nl hl2 s2 => ?_, fun hx H2 s2 => ?_⟩
            rotate_left
            · exact p2 (fun ⟨xs, hx2⟩ => hx ⟨xs, rest, rfl, hx2⟩) H2 (KeepT.of_same (s1.trans s2))
            obtain ⟨z, ez, hx⟩ := hx
            injection ez with ez
            subst ez
            have q1 := p1 xs hx
            unfold ordO at q1
            rw [if_pos rfl] at q1
            refine ⟨a, e, l, X, wy, n, d, rs, ss, xs, rfl, L1.same s2, hl2, hx.2.1, hx.2.2.1, hx.2.2.2, hl, hs, fun u1 H3 s3 => ?_, fun u1 u2 H3 s3 => ?_, fun u1 u2 u3 H3 L3 k3 => ?_, fun u1 u2 u3 H3 L3 k3 => ?_⟩
            · rw [if_pos u1] at q1
              exact q1 H3 (KeepT.of_same (s1.trans (s2.trans s3)))
            · rw [if_neg (fun z => z u1), if_pos u2] at q1
              exact q1 H3 (KeepT.of_same (s1.trans (s2.trans s3)))
            · rw [if_neg (fun z => z u1), if_neg (by omega), if_pos u3] at q1
              exact q1 H3 L3 (fun x o hx n1 n2 => k3 x o (s2 _ _ (s1 _ _ hx)) n1 n2)
            · rw [if_neg (fun z => z u1), if_neg (by omega), if_neg u3] at q1
              exact q1 H3 L3 (fun x o hx n1 n2 => k3 x o (s2 _ _ (s1 _ _ hx)) n1 n2)
          rw [if_neg c0]
          by_cases c1 : word = "drop"
          · rw [if_pos c1]
            obtain ⟨p1, p2⟩ := hrd (j := 1) (by unfold headK; rw [if_neg c0, if_pos c1])
            refine iteT ⟨_, rfl, rfl, _, rfl, ?_⟩
            rw [ct]
            refine iteT ⟨_, rfl, aO, _, .inr word, .ref h1, rfl, DO, rfl, by rw [val3, if_neg c0, if_pos c1], h1, _, rfl, ⟨_, _, G_let_drop, T_let_drop.F.kp, T_let_drop.b⟩, _, rfl, b, _, dx, _, _, rfl, hb1, T_Desk.cl, T_Desk.nL, rfl, _, rfl, .str rest, .str rest, rfl, .str _, fun s e => (by injection e with e; rw [← e]; omega), fun xs hx l H2 nl hl2 s2 => ?_, fun hx H2 s2 => ?_⟩
            rotate_left
            · exact p2 (fun ⟨xs, hx2⟩ => hx ⟨xs, rest, rfl, hx2⟩) H2 (KeepT.of_same (s1.trans s2))
            obtain ⟨z, ez, hx⟩ := hx
            injection ez with ez
            subst ez
            have q1 := p1 xs hx
            unfold ordO at q1
            rw [if_neg (by decide), if_pos rfl] at q1
            refine ⟨a, e, l, X, wy, n, d, rs, ss, xs, rfl, L1.same s2, hl2, hx.2.1, hx.2.2.1, hx.2.2.2, hl, hs, fun u1 H3 s3 => ?_, fun u1 H3 L3 k3 => ?_⟩
            · rw [if_neg u1] at q1
              exact q1 H3 (KeepT.of_same (s1.trans (s2.trans s3)))
            · rw [if_pos u1] at q1
              exact q1 H3 L3 (fun x o hx n1 n2 => k3 x o (s2 _ _ (s1 _ _ hx)) n1 n2)
          rw [if_neg c1]
          by_cases c2 : word = "near"
          · rw [if_pos c2]
            obtain ⟨p1, p2⟩ := hrd (j := 2) (by unfold headK; rw [if_neg c0, if_neg c1, if_pos c2])
            refine iteT ⟨_, rfl, rfl, _, rfl, ?_⟩
            rw [ct]
            refine iteT ⟨_, rfl, aO, _, .inr word, .ref h2, rfl, DO, rfl, by rw [val3, if_neg c0, if_neg c1, if_pos c2], h2, _, rfl, ⟨_, _, G_tell_near, T_tell_near.F.kp, T_tell_near.b⟩, _, rfl, b, _, dx, _, _, rfl, hb1, T_Desk.cl, T_Desk.nL, rfl, _, rfl, .str rest, .str rest, rfl, .str _, fun s e => (by injection e with e; rw [← e]; omega), fun xs hx l H2 nl hl2 s2 => ?_, fun hx H2 s2 => ?_⟩
            rotate_left
            · exact p2 (fun ⟨xs, hx2⟩ => hx ⟨xs, rest, rfl, hx2⟩) H2 (KeepT.of_same (s1.trans s2))
            obtain ⟨z, ez, hx⟩ := hx
            injection ez with ez
            subst ez
            have q1 := p1 xs hx
            unfold ordO at q1
            rw [if_neg (by decide), if_neg (by decide)] at q1
            refine ⟨a, e, l, X, wy, n, d, rs, ss, xs, rfl, L1.same s2, hl2, hx.2.1, hx.2.2.1, hx.2.2.2, hl, nd, fun u1 H3 s3 => ?_, fun u1 u2 H3 s3 => ?_, fun u1 u2 => ?_⟩
            · rw [if_pos u1] at q1
              exact q1 H3 (KeepT.of_same (s1.trans (s2.trans s3)))
            · rw [if_neg u1, if_pos u2] at q1
              exact q1 H3 (KeepT.of_same (s1.trans (s2.trans s3)))
            · rw [if_neg u1, if_neg (fun z => z u2)] at q1
              exact q1
          rw [if_neg c2]
          exact iteF (iteF ⟨rfl, rfl, by rw [if_pos cb]; unfold headK; rw [if_neg c0, if_neg c1, if_neg c2]⟩)
        · have cf : decide (V.str bl = V.str " ") = false := decide_eq_false (fun z => cb (V.str.inj z))
          cases hso : (if word = "come" then some (V.ref h0) else if word = "drop" then some (V.ref h1) else if word = "near" then some (V.ref h2) else none).isSome with
          | false => exact iteF (iteF ⟨rfl, rfl, if_neg cb⟩)
          | true =>
            refine iteT ⟨_, rfl, rfl, _, rfl, ?_⟩
            rw [cf]
            exact iteF ⟨rfl, rfl, if_neg cb⟩
      obtain ⟨rfl, rfl, hno⟩ := hP
      rw [hno] at q
      have hwl := split_len (x := row) (y := " ") (by decide)
      have e1 : (" " : Str).length = 1 := by decide
      refine ⟨_, rfl, b, dx, _, rfl, hb1, rfl, ?_⟩
      refine ⟨_, rfl, ⟨_, rfl⟩, row, " ", rfl, rfl, by decide +kernel, line_small (by omega), fun l nl => ?_⟩
      have s2 := same_new (o := .lst ((Txt.split row " ").map V.str)) nl
      refine ⟨b, a, e, l, X, wy, n, d, rs, ss, Txt.split row " ", rfl, ⟨dx, s2 _ _ hb1⟩, L1.same s2, hl, nd, upd_same, split_ne row, by omega, naX, nbX, ?_⟩
      exact SayK.later q (s1.trans s2)
end
end Fo
namespace Fo
open PySem PySem.Spec PyProof.Rows L2
/-! xs.count(y), flat items -/
section
variable {X : Cx}
def rCntF (K : PySem.W.Frag) : V → List V → Hp → VK → Prop := fun x xs H Q => ∃ (a : Addr) (ys : List V) (y : V), x = V.ref a ∧ xs = [y] ∧ SqL K H a ys ∧ flatV y = true ∧ ys.all flatV = true ∧ Q (.int (ys.countP (fun z => eqV z y) : Nat)) H
theorem cnt_flat {y : V} : ∀ {ys : List V} {us : List Value}, Vals ys us → ys.all flatV = true → us.countP (eqU y) = ys.countP fun z => eqV z y
  | [], _, r, _ => by cases r; rfl
  | x :: ys, _, r, f => by
    cases r with
    | cons r1 r2 =>
      rw [List.all_cons, Bool.and_eq_true_iff] at f
      rw [List.countP_cons, List.countP_cons, cnt_flat r2 f.2, eqU_of r1 f.1]
theorem mt_cntF : MtR X "list.count" (rCntF X.K) := by
  intro pins s σ H x xs v us Q I rx rxs h
  obtain ⟨a, ys, y, rfl, rfl, hs, fy, fys, q⟩ := h
  cases rx
  cases rxs with
  | cons ry rt =>
    rename_i uy ut
    cases rt
    obtain ⟨its, rv, ⟨⟨cls, dd, data, sl⟩, n, ho, hc, hdn, hd⟩, hlen⟩ := I.list hs
    simp only at hc hd
    subst hc hd
    refine call_meets PySem.F.slot_list_count ⟨_, ho, rfl⟩ PySem.F.entry_list_count (PySem.F.args_list_count_2 _ _)
      (SeqAt.list_countAt a its.toArray n dd sl uy (eqU y)) ⟨ho, fun u' hu' => mem_eqAt ry fy rv fys u' (by simpa using hu'), ?_⟩
    have ec : its.toArray.toList.countP (eqU y) = ys.countP fun z => eqV z y := cnt_flat rv fys
    refine ⟨.int (ys.countP (fun z => eqV z y) : Nat), H, I.tok _, ⟨s.toks, ?_⟩, q⟩
    show Value.int ((its.toArray.toList.countP (eqU y) : Nat) : Int) s.toks = Value.int ((ys.countP (fun z => eqV z y) : Nat) : Int) s.toks
    rw [ec]
end
end Fo
namespace Fo
open PySem PySem.Spec PyProof.Rows L2 TL
/-! what the desk says: no text of it has a tab -/
def NTb (t : Str) : Prop := t.length ≤ 16000 ∧ ∀ c ∈ tl t, (c ≠ 9 ∧ c ≠ 100)
theorem ntb_cut {t : Str} (h : NTb t) : cutS t none (some 1) ≠ "\t" := fun e => by
  have h1 : (cutS t none (some 1)).cps.toList = [9] := by rw [e]; rfl
  have h2 : (tl t).take (HT.sIx t.length t.length (some 1) - HT.sIx t.length 0 none) = [9] := by
    have : (cutS t none (some 1)).cps.toList = ((tl t).drop (HT.sIx t.length 0 none)).take (HT.sIx t.length t.length (some 1) - HT.sIx t.length 0 none) := rfl
    rw [this] at h1
    exact h1
  have h3 : 9 ∈ (tl t).take (HT.sIx t.length t.length (some 1) - HT.sIx t.length 0 none) := by rw [h2]; exact List.mem_singleton.mpr rfl
  have : 9 ∈ tl t := List.mem_of_mem_take h3
  exact (h.2 9 this).1 rfl
theorem ntb_dec0 {m : Int} (h0 : 0 ≤ m) : ∀ c ∈ tl (decT m), (c ≠ 9 ∧ c ≠ 100) := fun c hc => by
  obtain ⟨k, rfl⟩ := Int.eq_ofNat_of_zero_le h0
  have h : tl (decT ((k : Nat) : Int)) = TL.numL k := TL.tl_num k
  rw [h] at hc
  have := TL.numL_digits k c hc
  omega
theorem ntb_dec {m : Int} (h0 : 0 ≤ m) (h : m.natAbs < 1000000000000000000) : NTb (decT m) ∧ (decT m).length ≤ 1921 := by
  have g := PyProof.Rows.int_text_len_1921 (log_big h)
  exact ⟨⟨by show (Str.ofString (toString m)).length ≤ _; omega, ntb_dec0 h0⟩, g⟩
theorem ntb_wrT {n : Nat} {xs : List Int} (o : IsOrd n xs) (h : n ≤ 12) : NTb (wrT xs) := ⟨by have := wr_len o h; omega, fun c hc => by
  rcases wr_sign o h hc with h | h <;> omega⟩
theorem ntb_wrL {n : Nat} {rs : List (List Int)} (o : ∀ r ∈ rs, IsOrd n r) (h : n ≤ 12) (hl : rs.length ≤ 120) : NTb (wrL rs) := ⟨by have := wrL_len (n := n) (rs := rs) o h; omega, fun c hc => by
  unfold wrL at hc
  by_cases e : rs = []
  · rw [if_pos e] at hc
    have : ∀ c ∈ tl ("-" : Str), (c ≠ 9 ∧ c ≠ 100) := by decide +kernel
    exact this c hc
  · rw [if_neg e, tl_joinT] at hc
    rcases mem_joinL hc with h1 | ⟨p, hp, h1⟩
    · have : ∀ c ∈ tl (", " : Str), (c ≠ 9 ∧ c ≠ 100) := by decide +kernel
      exact this c h1
    · obtain ⟨z, hz, rfl⟩ := List.mem_map.mp hp
      obtain ⟨r, hr, rfl⟩ := List.mem_map.mp hz
      exact (ntb_wrT (o r hr) h).2 c h1⟩
theorem tl_app (a b : Str) : tl (a ++ b) = tl a ++ tl b := by
  show (a.cps ++ b.cps).toList = _
  exact Array.toList_append
theorem ntb_ok : NTb "ok" := ⟨by decide, by decide +kernel⟩
theorem ntb_none : NTb "none" := ⟨by decide, by decide +kernel⟩
theorem leI_ex {l : List Int} (h : l ≠ []) : ∃ m, m ∈ l ∧ ∀ y ∈ l, m ≤ y := ⟨leI l, leI_spec h⟩
def IRef (i : Nat) : Prop := i = 0 ∨ i = 1 ∨ i = 2 ∨ i = 4 ∨ i = 5 ∨ i = 6 ∨ i = 8
def ansOK : SayO → Prop
  | .hard => True
  | .txt t => NTb t
  | .go t _ _ => NTb t
  | .no i => IRef i
  | .new _ _ _ => True
section
variable {w : Str} {n : Nat} {d : Int} {rs : List (List Int)} {ss : List (List (List Int))} (hw : IsWay w) (n1 : 1 ≤ n) (n8 : n ≤ 8) (d1 : 1 ≤ d) (ho : ∀ r ∈ rs, IsOrd n r) (hl : rs.length ≤ 120)
include hw n1 n8 ho in
theorem ntb_ap : NTb (apF w rs) := by
  unfold apF
  by_cases h : prs w rs rs.length = []
  · rw [if_pos h]
    exact ntb_none
  · rw [if_neg h]
    have hm : leI (prs w rs rs.length) ∈ prs w rs rs.length := by
      obtain ⟨m, m1, m2⟩ := leI_ex h
      rw [leI_of m1 m2]
      exact m1
    have h1 : leI (prs w rs rs.length) ≤ 99 := prs_99 hw ho n1 n8 _ hm
    have h2 := prs_nn _ hm
    exact (ntb_dec h2 (by omega)).1
include hw n1 n8 ho hl in
theorem bare_ok {row : Str} {o : SayO} (h : bareO w n d rs ss row = some o) : ansOK o := by
  unfold bareO at h
  split at h
  · cases h
    split
    · exact .inr (.inr (.inr (.inl rfl)))
    · exact ntb_ok
  split at h
  · cases h
    exact ntb_wrL ho (by omega) hl
  split at h
  · cases h
    exact ntb_ap hw n1 n8 ho
  split at h
  · cases h
    split
    · trivial
    · exact .inr (.inr (.inr (.inr (.inl rfl))))
  split at h
  · cases h
    split
    · trivial
    · exact .inr (.inr (.inr (.inr (.inl rfl))))
  split at h
  · cases h
    trivial
  split at h
  · cases h
    split
    · exact .inl rfl
    · split
      · trivial
      · exact .inr (.inr (.inr (.inr (.inl rfl))))
  cases h
include n8 ho hl in
theorem ord_ok {k : Nat} {xs : List Int} : ansOK (ordO w n d rs ss k xs) := by
  unfold ordO
  split
  · split
    · exact .inr (.inr (.inl rfl))
    split
    · exact .inr (.inr (.inr (.inr (.inl rfl))))
    split
    · exact ntb_ok
    · exact ntb_wrL (n := n) (fun r hr => ho r (List.mem_filter.mp hr).1) (by omega) (Nat.le_trans (List.length_filter_le _ _) hl)
  split
  · split
    · exact ntb_ok
    · exact .inr (.inr (.inl rfl))
  · split
    · exact .inl rfl
    · split
      · exact .inr (.inr (.inl rfl))
      · trivial
theorem num_ok {ws : List Str} : ansOK (numO w n d rs ws) := by
  have i8 : IRef 8 := .inr (.inr (.inr (.inr (.inr (.inr rfl)))))
  unfold numO
  split
  · split
    · split
      · exact i8
      · split
        · exact .inl rfl
        split
        · exact .inr (.inr (.inl rfl))
        · trivial
    · exact i8
  · split
    · split
      · split
        · split
          · trivial
          · exact .inr (.inr (.inr (.inl rfl)))
        · exact .inr (.inl rfl)
      · exact i8
    · exact i8
  · exact i8
include hw n1 n8 d1 ho hl in
theorem say_ok (dat : PyData) : ansOK (sayO w n d rs ss dat) := by
  have i8 : IRef 8 := .inr (.inr (.inr (.inr (.inr (.inr rfl)))))
  cases dat with
  | str row =>
    show ansOK (sayT w n d rs ss row)
    unfold sayT
    split
    · rename_i o h
      exact bare_ok hw n1 n8 ho hl h
    · split
      · split
        · exact .inr (.inr (.inr (.inr (.inr (.inl rfl)))))
        · rename_i xs h
          have hx : RdP (Txt.partition row " ").2.2 xs := by
            unfold rdF at h
            split at h
            · rename_i he
              injection h with h
              rw [← h]
              exact he.choose_spec
            · cases h
          exact ord_ok n8 ho hl
      · exact num_ok
  | _ => exact i8
end
end Fo
namespace Fo
open PySem PySem.Spec PyProof.Rows L2
def nameD (i : Nat) : Str := match i with
  | 0 => "NoOrder"
  | 1 => "NoWay"
  | 2 => "NoFit"
  | 4 => "NoNumber"
  | 5 => "TooMany"
  | 6 => "NoText"
  | _ => "NoRow"
def SaidK (CD CL : Addr) (H : Hp) (b a e : Addr) (X : List Addr) (w : Str) (n : Nat) (d : Int) (Q : VK) : SayO → Prop
  | .hard => False
  | .txt t => ∀ H', KeepT H H' → Q (.str t) H'
  | .no i => ∀ H', KeepT H H' → Q (.str ("\t" ++ nameD i)) H'
  | .go t rs ss => ∀ H', LsAt CL H' a e X w n d rs ss → KpL a e H H' → Q (.str t) H'
  | .new w' n' d' => ∀ a' e' H', H a' = none → H e' = none → a' ≠ e' → DkO CD H' b a' → LsAt CL H' a' e' (e' :: X) w' n' d' [] [] → (∀ x o, H x = some o → x ≠ b → H' x = some o) → Q (.str "ok") H'
def spSaidD (CD CL Pt : Addr) : Sp := fun vs H Q _ => ∃ (b a e : Addr) (X : List Addr) (w : Str) (n : Nat) (d : Int) (rs : List (List Int)) (ss : List (List (List Int))) (v : V) (dat : PyData), vs = [.ref b, v] ∧ DkO CD H b a ∧ LsAt CL H a e X w n d rs ss ∧ rs.length ≤ 120 ∧ ss.length < 1000 ∧ rs.Nodup ∧ GxR.TabG H Pt ∧ Dq H v dat ∧ (∀ s, dat = .str s → s.length ≤ 10000) ∧ a ∉ X ∧ b ∉ X ∧ SaidK CD CL H b a e X w n d Q (sayO w n d rs ss dat)
def at7 (i : Nat) : Nat := match i with
  | 8 => 0
  | 1 => 1
  | 6 => 2
  | 2 => 3
  | 0 => 4
  | 4 => 5
  | _ => 6
theorem no_two {K : PySem.W.Frag} {c : Nat → Addr} {C : Addr} {i : Nat} (kd : KdY K c C i) (hi : IRef i) : PySem.W.kitAny K (.ref C) [.ref (c 7), .ref (c 3)] = some false := any_no fun u hu => by
  unfold IRef at hi
  simp only [List.mem_cons, List.not_mem_nil, or_false] at hu
  rcases hu with rfl | rfl
  · rw [kd.ks 7 (by decide), decide_eq_false (by omega)]
  · rw [kd.ks 3 (by decide), decide_eq_false (by omega)]
theorem first_true7 {bs : List Bool} {j : Nat} (h : ∀ m, m < j → bs[m]? = some false) : ∀ (m : Nat) (z : V), m < j → (bs.map V.bl)[m]? = some z → eqV z (.bl true) = false := fun m z hm hz => by
  rw [List.getElem?_map, h m hm] at hz
  cases hz
  rfl
section
variable {P : Program} {w : World} {K : PySem.W.Frag} {mg : Str → Option Value} {base : Heap}
theorem scSaidD : FnScope ["desk", "row", "caught", "found", "e", "kinds"] ["desk", "row"] (defScope s_law_said) := ⟨rfl, rfl, rfl, by decide +kernel, rfl, by decide +kernel, by decide +kernel⟩
set_option maxHeartbeats 4000000 in
theorem ok_saidD {f f1 fI cE C_Desk C_Lister Pt : Addr} {c : Nat → Addr} {fd d1 : FuncData} {k : Nat} (T : Df K mg "_law_said" s_law_said ["desk", "row"] f fd) (T_Desk : TxD K mg C_Desk fI) (T_Desk_say : Dm K C_Desk "say" "Desk.say" s_Desk_say ["self", "row"] f1 d1) (G_Desk_say : FnOk P w K mg base (L2.CX P w) k f1 d1 ["self", "row"] (spSay C_Desk C_Lister Pt c))
    (kd : ∀ i, IRef i → KdY K c (c i) i) (g_OrderError : mg "OrderError" = some (.ref cE)) (xm : ∀ i, IRef i → PySem.W.exmOne K (.ref (c i)) (.ref cE) = some true) (g_NoOrder : mg "NoOrder" = some (.ref (c 0))) (g_NoWay : mg "NoWay" = some (.ref (c 1))) (g_NoFit : mg "NoFit" = some (.ref (c 2))) (g_NoPlace : mg "NoPlace" = some (.ref (c 3))) (g_NoNumber : mg "NoNumber" = some (.ref (c 4))) (g_TooMany : mg "TooMany" = some (.ref (c 5))) (g_NoText : mg "NoText" = some (.ref (c 6))) (g_NoName : mg "NoName" = some (.ref (c 7))) (g_NoRow : mg "NoRow" = some (.ref (c 8))) (B : Bi mg) : FnOk P w K mg base CX0 (k + 1) f fd ["desk", "row"] (spSaidD C_Desk C_Lister Pt) := by
  refine T.F.ok scSaidD (fun vs H Q E h => ?_) (fun cdv A outer s H vs Q E hr h => ?_)
  · obtain ⟨b, a, e, X, w, n, d, rs, ss, v, dat, rfl, _⟩ := h
    rfl
  · obtain ⟨b, a, e, X, wy, n, d, rs, ss, v, dat, rfl, ⟨dx, hb⟩, L, hl, hs, nd, tab, hv, hsh, naX, nbX, q⟩ := h
    refine ⟨_, 
      (pss_cons (ps_set (i := 2) scSaidD.nd rfl (.inl rfl) pe_non)
      (pss_cons (ps_set (i := 3) scSaidD.nd rfl (.inl rfl) pe_str)
      (Evl.pss_cut (ps_try_k (i := 4) rfl rfl rfl scSaidD.nd rfl rfl ⟨by rfl, by decide, .inl g_OrderError⟩ takes0 (fun W pn xe tk po =>
        (pss_one (ps_set (i := 3) scSaidD.nd rfl (.inl rfl) (pe_methS (pv 0) T_Desk.cl T_Desk_say.me G_Desk_say hr T_Desk_say.b (fun σ => passAt tk σ) (pa_cons (pv 1) pa_nil))))) (fun a oe cls d pn hz hf =>
        (pss_one (ps_set (i := 2) scSaidD.nd rfl (.inl rfl) (pv 4)))))
      (pss_cons (ps_if (pt_cmpR op_isN (pv 2) pe_non (nomark _))
        (pss_one (ps_ret (pe_ix ix_list (pe_lst (pa_cons (pv 3) (pa_cons pe_str pa_nil))) (pe_callTy call_int1 (by rfl) B.int (by decide +kernel) (pa_cons (pe_or (pe_not (pe_callB call_isZ (by rfl) B.isinstance (by decide +kernel) (pa_cons (pv 3) (pa_cons (pe_bltn (v := .ty "str") (by rfl) B.str (by decide +kernel) rfl) pa_nil)))) (pe_one (pe_cmpR op_eq (pe_slice sl_str (pv 3) po_none (po_some pe_int)) pe_str (nomark _)))) pa_nil)) (fun _ _ => rfl))))
        pss_nil)
      (pss_cons (ps_set (i := 5) scSaidD.nd rfl (.inl rfl) (pe_lst (pa_cons (pe_callB call_isZ (by rfl) B.isinstance (by decide +kernel) (pa_cons (pv 2) (pa_cons (pe_glob (v := .ref (c 8)) (by rfl) g_NoRow rfl) pa_nil))) (pa_cons (pe_callB call_isZ (by rfl) B.isinstance (by decide +kernel) (pa_cons (pv 2) (pa_cons (pe_glob (v := .ref (c 1)) (by rfl) g_NoWay rfl) pa_nil))) (pa_cons (pe_callB call_isZ (by rfl) B.isinstance (by decide +kernel) (pa_cons (pv 2) (pa_cons (pe_glob (v := .ref (c 6)) (by rfl) g_NoText rfl) pa_nil))) pa_nil)))))
      (pss_cons (ps_set (i := 5) scSaidD.nd rfl (.inl rfl) (pe_op op_cat (pv 5) (pe_lst (pa_cons (pe_callB call_isZ (by rfl) B.isinstance (by decide +kernel) (pa_cons (pv 2) (pa_cons (pe_glob (v := .ref (c 2)) (by rfl) g_NoFit rfl) pa_nil))) (pa_cons (pe_callB call_isZ (by rfl) B.isinstance (by decide +kernel) (pa_cons (pv 2) (pa_cons (pe_glob (v := .ref (c 0)) (by rfl) g_NoOrder rfl) pa_nil))) (pa_cons (pe_callB call_isZ (by rfl) B.isinstance (by decide +kernel) (pa_cons (pv 2) (pa_cons (pe_glob (v := .ref (c 4)) (by rfl) g_NoNumber rfl) pa_nil))) pa_nil))))))
      (pss_cons (ps_expr (pe_bm PySem.F.plainAttrs_list PySem.F.slot_list_append PySem.F.type_list_append mt_append (pv 5) (pa_cons (pe_callB call_isZ (by rfl) B.isinstance (by decide +kernel) (pa_cons (pv 2) (pa_cons (pe_glob (v := .ref (c 5)) (by rfl) g_TooMany rfl) pa_nil))) pa_nil)))
      (pss_cons (ps_if (PW.pt (pw_or (pt_val (pe_callB call_isZT (by rfl) B.isinstance (by decide +kernel) (pa_cons (pv 2) (pa_cons (pe_tup (pa_cons (pe_glob (v := .ref (c 7)) (by rfl) g_NoName rfl) (pa_cons (pe_glob (v := .ref (c 3)) (by rfl) g_NoPlace rfl) pa_nil))) pa_nil)))) (pw_or (pt_not (pt_val (pe_callB call_isZ (by rfl) B.isinstance (by decide +kernel) (pa_cons (pv 2) (pa_cons (pe_bltn (v := .ty "ValueError") (by rfl) B.ValueError (by decide +kernel) rfl) pa_nil))))) (pw_or1 (pt_cmpR op_ne (pe_bm PySem.F.plainAttrs_list PySem.F.slot_list_count PySem.F.type_list_count mt_cntF (pv 5) (pa_cons pe_bl pa_nil)) pe_int (nomark _))))))
        (pss_one (ps_ret pe_str))
        pss_nil)
      (pss_one (ps_ret (pe_op op_add_str pe_str (pe_ix ix_list (pe_lst (pa_cons pe_str (pa_cons pe_str (pa_cons pe_str (pa_cons pe_str (pa_cons pe_str (pa_cons pe_str (pa_cons pe_str pa_nil)))))))) (pe_bm PySem.F.plainAttrs_list PySem.F.slot_list_index PySem.F.type_list_index mt_index (pv 5) (pa_cons pe_bl pa_nil)) (fun _ _ => rfl))))))))))))), ?_⟩
    have hok := say_ok (ss := ss) L.wy L.n1 L.n2 L.d1 L.ord hl dat
    refine ⟨fun σ' H' => (∃ (t : Str) (z z2 : Option V), σ' = [some (.ref b), some v, some .non, some (.str t), z, z2] ∧ NTb t ∧ ∀ H2, Same H' H2 → Q (.str t) H2) ∨
      (∃ (x : Addr) (i : Nat) (z z2 : Option V), σ' = [some (.ref b), some v, some (.ref x), some (.str ""), z, z2] ∧ H' x = some (ExV (.ref (c i)) none x) ∧ IRef i ∧ ∀ H2, Same H' H2 → Q (.str ("\t" ++ nameD i)) H2), ?_, fun σ' H' hM => ?_⟩
    · refine ⟨_, rfl, b, dx, _, rfl, hb, rfl, _, rfl, b, a, e, X, wy, n, d, rs, ss, v, dat, rfl, ⟨dx, hb⟩, L, hl, hs, nd, tab, hv, hsh, naX, nbX, ?_⟩
      cases hso : sayO wy n d rs ss dat with
      | hard =>
        rw [hso] at q
        exact q.elim
      | txt t =>
        rw [hso] at q hok
        exact fun H' k' => .inl ⟨t, _, _, rfl, hok, fun H2 s2 => q H2 (k'.trans (KeepT.of_same s2))⟩
      | no i =>
        rw [hso] at q hok
        exact fun H1 k1 => ⟨true, xm i hok, fun _ x nx => ⟨_, rfl, .inr ⟨x, i, _, _, rfl, upd_same, hok, fun H2 s => q H2 (k1.trans (KeepT.of_same ((same_new nx).trans s)))⟩⟩, fun z => absurd z.symm Bool.false_ne_true⟩
      | go t r1 s1 =>
        rw [hso] at q hok
        exact fun H' L' k' => .inl ⟨t, _, _, rfl, hok, fun H2 s2 => q H2 (L'.same s2) (k'.trans (KpL.of_same s2))⟩
      | new w1 n1 d1 =>
        rw [hso] at q hok
        exact fun a' e' H' f1 f2 f3 hD hL k' => .inl ⟨"ok", _, _, rfl, ntb_ok, fun H2 s2 => q a' e' H2 f1 f2 f3 (hD.imp fun _ h => s2 _ _ h) (hL.same s2) (fun x o hx nx => s2 _ _ (k' x o hx nx))⟩
    · rcases hM with ⟨t, z, z2, rfl, nt, q⟩ | ⟨x, i, z, z2, rfl, hx, hi, q⟩
      · refine ⟨_, rfl, rfl, _, rfl, iteT ?_⟩
        refine ⟨_, rfl, by show 2 ≤ sizeLine; decide, fun p np => ?_⟩
        have s1 := same_new (o := .lst [.str t, V.str "odd"]) np
        refine ⟨_, rfl, _, _, _, _, true, rfl, .ty _, .x (.base (.str _)), kit_ty (a := "str") (by decide +kernel), ?_⟩
        have ct : (cutS t none (some 1) = "\t") = False := eq_false (ntb_cut nt)
        refine ⟨_, rfl, _, rfl, iteF ?_⟩
        have cf : decide (V.str (cutS t none (some 1)) = V.str "\t") = false := decide_eq_false (fun z => ntb_cut nt (V.str.inj z))
        refine ⟨_, rfl, 1, rfl, t, rfl, line_small (by have := nt.1; omega), rfl, ?_⟩
        rw [cf]
        exact .inr ⟨false, rfl, p, _, 0, .str t, rfl, rfl, SqL.of upd_same, rfl, q _ s1⟩
      · have kk := kd i hi
        refine ⟨_, rfl, rfl, _, rfl, iteF ?_⟩
        refine ⟨_, rfl, _, _, _, _, _, rfl, .own _, .exc hx kk.ec, kk.ks 8 (by decide), ?_⟩
        refine ⟨_, rfl, _, _, _, _, _, rfl, .own _, .exc hx kk.ec, kk.ks 1 (by decide), ?_⟩
        refine ⟨_, rfl, _, _, _, _, _, rfl, .own _, .exc hx kk.ec, kk.ks 6 (by decide), ?_⟩
        refine ⟨line_small (by show 3 ≤ 16777216; decide), fun p1 np1 => ?_⟩
        obtain ⟨s1, h1⟩ := nb [decide (8 = i), decide (1 = i), decide (6 = i)] np1
        have hx1 := s1 _ _ hx
        refine ⟨_, rfl, _, rfl, _, _, _, _, _, rfl, .own _, .exc hx1 kk.ec, kk.ks 2 (by decide), ?_⟩
        refine ⟨_, rfl, _, _, _, _, _, rfl, .own _, .exc hx1 kk.ec, kk.ks 0 (by decide), ?_⟩
        refine ⟨_, rfl, _, _, _, _, _, rfl, .own _, .exc hx1 kk.ec, kk.ks 4 (by decide), ?_⟩
        refine ⟨line_small (by show 3 ≤ 16777216; decide), fun p2 np2 => ?_⟩
        obtain ⟨s2, h2⟩ := nb [decide (2 = i), decide (0 = i), decide (4 = i)] np2
        refine ⟨_, _, _, _, rfl, rfl, s2 _ _ h1, h2, line_small (by show 3 + 3 ≤ 16777216; decide), fun p3 np3 => ?_⟩
        obtain ⟨s3, h3⟩ := nb ([decide (8 = i), decide (1 = i), decide (6 = i)] ++ [decide (2 = i), decide (0 = i), decide (4 = i)]) np3
        have s12 := s1.trans s2
        have s13 := s12.trans s3
        have hx3 := s13 _ _ hx
        refine ⟨_, rfl, .inl ⟨rfl, _, SqL.of h3⟩, _, rfl, _, _, _, _, _, rfl, .own _, .exc hx3 kk.ec, kk.ks 5 (by decide), p3, _, _, rfl, rfl, h3, line_small (by show 6 < 16777216; decide), ?_⟩
        have s14 : Same H' (upd (upd (upd (upd H' p1 (HO.lst [V.bl (decide (8 = i)), V.bl (decide (1 = i)), V.bl (decide (6 = i))])) p2 (HO.lst [V.bl (decide (2 = i)), V.bl (decide (0 = i)), V.bl (decide (4 = i))])) p3 (HO.lst (List.map V.bl [decide (8 = i), decide (1 = i), decide (6 = i)] ++ List.map V.bl [decide (2 = i), decide (0 = i), decide (4 = i)]))) p3 (HO.lst ((List.map V.bl [decide (8 = i), decide (1 = i), decide (6 = i)] ++ List.map V.bl [decide (2 = i), decide (0 = i), decide (4 = i)]) ++ [V.bl (decide (5 = i))]))) := fun y o hy => by
          rw [upd_ne (ne_of_none (s12 _ _ hy) np3)]
          exact s13 y o hy
        have h4 : ∀ {G : Hp}, (upd G p3 (HO.lst ((List.map V.bl [decide (8 = i), decide (1 = i), decide (6 = i)] ++ List.map V.bl [decide (2 = i), decide (0 = i), decide (4 = i)]) ++ [V.bl (decide (5 = i))]))) p3 = some (HO.lst (([decide (8 = i), decide (1 = i), decide (6 = i), decide (2 = i), decide (0 = i), decide (4 = i), decide (5 = i)]).map V.bl)) := fun {G} => upd_same
        have hx4 := s14 _ _ hx
        refine ⟨_, rfl, line_small (by show 2 ≤ 16777216; decide), fun tp ntp => ?_⟩
        have s5 := same_new (o := .tup [.ref (c 7), .ref (c 3)]) ntp
        refine ⟨_, tp, _, _, _, false, rfl, upd_same, .cons (.own _) (.cons (.own _) .nil), .exc (s5 _ _ hx4) kk.ec, no_two kk hi, _, rfl, iteF ?_⟩
        refine ⟨_, rfl, _, _, _, _, _, rfl, .ty _, .exc (s5 _ _ hx4) kk.ec, kk.ve, _, rfl, iteF ?_⟩
        have h45 := s5 _ _ (h4 (G := _))
        have s15 := s14.trans s5
        have c1 : ((([decide (8 = i), decide (1 = i), decide (6 = i), decide (2 = i), decide (0 = i), decide (4 = i), decide (5 = i)]).map V.bl).countP fun z => eqV z (.bl true)) = 1 := by
          rcases hi with rfl | rfl | rfl | rfl | rfl | rfl | rfl <;> decide
        have c2 : ∀ m, m < at7 i → ([decide (8 = i), decide (1 = i), decide (6 = i), decide (2 = i), decide (0 = i), decide (4 = i), decide (5 = i)])[m]? = some false := by
          rcases hi with rfl | rfl | rfl | rfl | rfl | rfl | rfl <;> decide
        have c3 : (([decide (8 = i), decide (1 = i), decide (6 = i), decide (2 = i), decide (0 = i), decide (4 = i), decide (5 = i)]).map V.bl)[at7 i]? = some (.bl true) := by
          rcases hi with rfl | rfl | rfl | rfl | rfl | rfl | rfl <;> rfl
        have c4 : atI ([V.str "NoRow", V.str "NoWay", V.str "NoText", V.str "NoFit", V.str "NoOrder", V.str "NoNumber", V.str "TooMany"]) ((at7 i : Nat) : Int) = some (.str (nameD i)) := by
          rcases hi with rfl | rfl | rfl | rfl | rfl | rfl | rfl <;> rfl
        refine ⟨_, rfl, .inl ⟨rfl, _, SqL.of h45⟩, p3, _, .bl true, rfl, rfl, SqL.of h45, rfl, rfl, rfl, _, rfl, ?_⟩
        rw [c1]
        refine iteF ?_
        refine ⟨line_small (by show 7 ≤ 16777216; decide), fun l nl => ?_⟩
        have s6 := same_new (o := .lst [V.str "NoRow", V.str "NoWay", V.str "NoText", V.str "NoFit", V.str "NoOrder", V.str "NoNumber", V.str "TooMany"]) nl
        refine ⟨_, rfl, .inl ⟨rfl, _, SqL.of (s6 _ _ h45)⟩, p3, _, .bl true, at7 i, .bl true, rfl, rfl, SqL.of (s6 _ _ h45), rfl, rfl, c3, rfl, first_true7 c2, ?_⟩
        refine ⟨l, _, _, _, rfl, rfl, SqL.of upd_same, c4, ?_⟩
        have ln : (nameD i).length ≤ 10 := by rcases hi with rfl | rfl | rfl | rfl | rfl | rfl | rfl <;> decide
        exact ⟨_, _, rfl, rfl, line_small (by show 1 + _ ≤ _; omega), q _ (s15.trans s6)⟩
end
end Fo
namespace Fo
open PySem PySem.Spec PyProof.Rows L2
/-! ### a pool: three numbers, of which others are drawn -/
def PoolAt (H : Hp) (d : Addr) : Prop := ∃ a b s : Int, H d = some (.lst [.int a, .int b, .int s])
theorem PoolAt.same {H H' : Hp} {d : Addr} (h : PoolAt H d) (s : Same H H') : PoolAt H' d := by
  obtain ⟨a, b, t, e⟩ := h
  exact ⟨a, b, t, s _ _ e⟩
theorem PoolAt.ne {H : Hp} {d : Addr} (h : PoolAt H d) {p : Addr} (e : H p = none) : p ≠ d := by
  obtain ⟨a, b, t, e1⟩ := h
  exact (ne_of_none e1 e).symm
theorem PoolAt.upd {H : Hp} {d : Addr} (h : PoolAt H d) {p : Addr} {o : HO} (n1 : p ≠ d) : PoolAt (upd H p o) d := by
  obtain ⟨a, b, t, e⟩ := h
  exact ⟨a, b, t, by rw [upd_ne n1.symm]; exact e⟩
theorem PoolAt.new {H : Hp} {d : Addr} (h : PoolAt H d) {p : Addr} {o : HO} (e : H p = none) : PoolAt (L2.upd H p o) d := h.upd (h.ne e)
def spPool (K : PySem.W.Frag) : Sp := fun vs H Q _ => ∃ (a : Addr) (ns : List Int) (k : Nat), vs = [.ref a, .int k] ∧ SqL K H a (ns.map V.int) ∧ ∀ (d : Addr) (H' : Hp), H d = none → PoolAt H' d → Same H H' → Q (.ref d) H'
def spDrawP : Sp := fun vs H Q _ => ∃ (d : Addr) (many : Int), vs = [.ref d, .int many] ∧ PoolAt H d ∧ 0 < many ∧ many ≤ 100000000000000000000000000 ∧ ∀ (v : Int) (H' : Hp), 0 ≤ v → v < many → PoolAt H' d → KeepD d H H' → Q (.int v) H'
def spOrderP : Sp := fun vs H Q _ => ∃ (d : Addr) (n : Nat), vs = [.ref d, .int n] ∧ PoolAt H d ∧ n ≤ 12 ∧
  ∀ (ns : List Int) (l : Addr) (H' : Hp), IsOrd n ns → H l = none → H' l = some (.lst (ns.map V.int)) → l ≠ d → PoolAt H' d → KeepD d H H' → Q (.ref l) H'
theorem at3_0 {x y z : V} : atI [x, y, z] 0 = some x := rfl
theorem at3_1 {x y z : V} : atI [x, y, z] 1 = some y := rfl
theorem at3_2 {x y z : V} : atI [x, y, z] 2 = some z := rfl
section
variable {P : Program} {w : World} {K : PySem.W.Frag} {mg : Str → Option Value} {base : Heap}
theorem scDrawP : FnScope ["pool", "many", "found", "x"] ["pool", "many"] (defScope s_law_draw) := ⟨rfl, rfl, rfl, by decide +kernel, rfl, by decide +kernel, by decide +kernel⟩
set_option maxHeartbeats 1000000 in
theorem ok_drawP {f : Addr} {fd : FuncData} {k : Nat} (T : Df K mg "_law_draw" s_law_draw ["pool", "many"] f fd) (B : Bi mg) : FnOk P w K mg base CX0 (k + 1) f fd ["pool", "many"] spDrawP := by
  refine T.F.ok scDrawP (fun vs H Q E h => ?_) (fun cdv A outer s H vs Q E hr h => ?_)
  · obtain ⟨d, m, rfl, _⟩ := h
    rfl
  · obtain ⟨d, m, rfl, ⟨a, b, st, hd⟩, hm, hm2, q⟩ := h
    refine ⟨_, 
      (pss_cons (ps_if (pt_cmpR op_eq (pe_ix ix_list (pv 0) pe_int (fun _ _ => rfl)) pe_int (nomark _))
        (pss_cons (ps_set (i := 2) scDrawP.nd rfl (.inl rfl) (pe_op op_mod (pe_ix ix_list (pv 0) pe_int (fun _ _ => rfl)) (pv 1)))
        (pss_cons (ps_asg (pe_op op_fdivW (pe_ix ix_list (pv 0) pe_int (fun _ _ => rfl)) (pv 1)) (pg_sub (pv 0) pe_int set_list))
        (pss_one (ps_ret (pv 2)))))
        pss_nil)
      (pss_cons (ps_asg (pe_op op_add (pe_ix ix_list (pv 0) pe_int (fun _ _ => rfl)) pe_int) (pg_sub (pv 0) pe_int set_list))
      (Evl.pss_cut (ps_set (i := 3) scDrawP.nd rfl (.inl rfl) (pe_op op_mod (pe_op op_add (pe_op op_mod (pe_ix ix_list (pv 0) pe_int (fun _ _ => rfl)) pe_int) (pe_op op_mul pe_int (pe_ix ix_list (pv 0) pe_int (fun _ _ => rfl)))) pe_int))
      (Evl.pss_cut (ps_set (i := 3) scDrawP.nd rfl (.inl rfl) (pe_op op_mod (pe_op op_mul (pv 3) (pv 3)) pe_int))
      (Evl.pss_cut (ps_set (i := 3) scDrawP.nd rfl (.inl rfl) (pe_op op_mod (pe_op op_mul (pe_op op_add (pv 3) pe_int) (pv 3)) pe_int))
      (pss_one (ps_ret (pe_op op_mod (pe_op op_fdiv (pv 3) pe_int) (pv 1))))))))), ?_⟩
    refine ⟨_, rfl, d, _, 1, _, rfl, rfl, SqL.of hd, at3_1, rfl, _, rfl, ite2 (fun _ => ?_) (fun _ => ?_)⟩
    · refine ⟨_, rfl, d, _, 0, _, rfl, rfl, SqL.of hd, at3_0, _, rfl, a, m, rfl, rfl, hm, ?_⟩
      refine ⟨_, rfl, d, _, 0, _, rfl, rfl, SqL.of hd, at3_0, _, rfl, a, m, rfl, rfl, wide_div (b := 100) hm (by show m.natAbs < 1267650600228229401496703205376; omega) (by decide) (by decide), _, rfl, d, _, 0, 0, rfl, rfl, hd, rfl, ?_⟩
      obtain ⟨c1, c2⟩ := mod_b a hm
      exact ⟨_, rfl, q _ _ c1 c2 ⟨a / m, b, st, upd_same⟩ fun b o e nb => by rw [upd_ne nb]; exact e⟩
    · refine ⟨_, rfl, d, _, 2, _, rfl, rfl, SqL.of hd, at3_2, st, 1, rfl, rfl, _, rfl, d, _, 2, 2, rfl, rfl, hd, rfl, ?_⟩
      have hd1 : (upd H d (.lst (([.int a, .int b, .int st] : List V).set 2 (.int (st + 1))))) d = some (.lst [.int a, .int b, .int (st + 1)]) := upd_same
      have kp : KeepD d H (upd H d (.lst (([.int a, .int b, .int st] : List V).set 2 (.int (st + 1))))) := fun b o e nb => by rw [upd_ne nb]; exact e
      refine ⟨fun τ G => ∃ x : Int, 0 ≤ x ∧ x < 999999999989 ∧ τ = [some (.ref d), some (.int m), none, some (.int x)] ∧ G = upd H d (.lst (([.int a, .int b, .int st] : List V).set 2 (.int (st + 1)))), ?_, fun τ G hM => ?_⟩
      · have z := mod_b (a % 999999999989 + 440023 * (st + 1)) (m := 999999999989) (by decide)
        exact ⟨_, rfl, d, _, 0, _, rfl, rfl, SqL.of hd1, at3_0, _, 999999999989, rfl, rfl, (show (0 : Int) < 999999999989 by decide), _, rfl, d, _, 2, _, rfl, rfl, SqL.of hd1, at3_2, 440023, _, rfl, rfl, .inl ⟨by decide, by decide⟩, _, _, rfl, rfl, _, 999999999989, rfl, rfl, (show (0 : Int) < 999999999989 by decide), _, z.1, z.2, rfl, rfl⟩
      obtain ⟨x, x0, x1, rfl, e1⟩ := hM
      subst e1
      generalize upd H d (.lst (([.int a, .int b, .int st] : List V).set 2 (.int (st + 1)))) = G at hd1 kp ⊢
      refine ⟨fun τ G' => ∃ y : Int, 0 ≤ y ∧ y < 1000000000039 ∧ τ = [some (.ref d), some (.int m), none, some (.int y)] ∧ G' = G, ?_, fun τ G' hM => ?_⟩
      · exact ⟨_, rfl, _, rfl, x, x, rfl, rfl, .inl ⟨by omega, by omega⟩, _, 1000000000039, rfl, rfl, (show (0 : Int) < 1000000000039 by decide), _, (mod_b _ (by decide)).1, (mod_b _ (by decide)).2, rfl, rfl⟩
      obtain ⟨y, y0, y1, rfl, e1⟩ := hM
      subst e1
      refine ⟨fun τ G'' => ∃ z : Int, 0 ≤ z ∧ z < 999999999961 ∧ τ = [some (.ref d), some (.int m), none, some (.int z)] ∧ G'' = G', ?_, fun τ G'' hM => ?_⟩
      · exact ⟨_, rfl, y, 710009, rfl, rfl, _, rfl, _, y, rfl, rfl, .inr ⟨by omega, by omega⟩, _, 999999999961, rfl, rfl, (show (0 : Int) < 999999999961 by decide), _, (mod_b _ (by decide)).1, (mod_b _ (by decide)).2, rfl, rfl⟩
      obtain ⟨z, z0, z1, rfl, e1⟩ := hM
      subst e1
      obtain ⟨c1, c2⟩ := mod_b (z / 7) hm
      exact ⟨_, rfl, _, 7, rfl, rfl, ⟨by decide, by decide⟩, _, rfl, _, m, rfl, rfl, hm, q _ _ c1 c2 ⟨a, b, st + 1, hd1⟩ kp⟩
theorem scPool : FnScope ["script", "k", "cell"] ["script", "k"] (defScope s_law_pool) := ⟨rfl, rfl, rfl, by decide +kernel, rfl, by decide +kernel, by decide +kernel⟩
theorem ok_pool {f : Addr} {fd : FuncData} {k : Nat} (T : Df K mg "_law_pool" s_law_pool ["script", "k"] f fd) (B : Bi mg) : FnOk P w K mg base CX0 (k + 1) f fd ["script", "k"] (spPool K) := by
  refine T.F.ok scPool (fun vs H Q E h => ?_) (fun cdv A outer s H vs Q E hr h => ?_)
  · obtain ⟨a, ns, k, rfl, _⟩ := h
    rfl
  · obtain ⟨a, ns, k, rfl, hS, q⟩ := h
    refine ⟨_, 
      (pss_cons (ps_set (i := 2) scPool.nd rfl (.inl rfl) pe_int)
      (Evl.pss_cut (ps_if (pt_cmpR op_lt (pv 1) (pe_callB call_len_seq (by rfl) B.len PySem.boot_len (pa_cons (pv 0) pa_nil)) (nomark _))
        (pss_one (ps_set (i := 2) scPool.nd rfl (.inl rfl) (pe_ix ix_list (pv 0) (pv 1) (fun _ _ => rfl))))
        pss_nil)
      (pss_one (ps_ret (pe_lst (pa_cons (pv 2) (pa_cons (pe_callTy call_int1 (by rfl) B.int (by decide +kernel) (pa_cons (pe_cmpR op_ge (pv 2) (pe_op op_pow pe_int pe_int) (nomark _)) pa_nil)) (pa_cons (pe_op op_mul pe_int (pv 1)) pa_nil)))))))), ?_⟩
    refine ⟨fun τ G => ∃ x : Int, τ = [some (.ref a), some (.int k), some (.int x)] ∧ G = H, ?_, fun τ G hM => ?_⟩
    · refine ⟨_, rfl, _, rfl, a, _, rfl, .inl hS, (k : Int), _, rfl, rfl, _, rfl, ite2 (fun c => ?_) (fun _ => ⟨0, rfl, rfl⟩)⟩
      have hl : (k : Int) < (((ns.map V.int).length : Nat) : Int) := of_decide_eq_true c
      rw [List.length_map] at hl
      exact ⟨_, rfl, _, rfl, a, _, _, _, rfl, rfl, hS, at_of (j := k) rfl (int_at (List.getElem?_eq_getElem (show k < ns.length by omega))), _, rfl, rfl⟩
    obtain ⟨x, rfl, rfl⟩ := hM
    refine ⟨_, rfl, _, rfl, 10, 18, rfl, rfl, ⟨by decide, by decide, by decide⟩, x, _, rfl, rfl, .inr ⟨_, rfl, _, rfl, 37, (k : Int), rfl, rfl, .inl ⟨by decide, by decide⟩, line_small (by show 3 ≤ 16777216; decide), fun d nd => ?_⟩⟩
    exact q d _ nd ⟨_, _, _, upd_same⟩ (same_new nd)
theorem scOrderP : FnScope ["pool", "n", "left", "k"] ["pool", "n"] (defScope s_law_order) := ⟨rfl, rfl, rfl, by decide +kernel, rfl, by decide +kernel, by decide +kernel⟩
set_option maxHeartbeats 4000000 in
theorem ok_ordP {f fD : Addr} {fd fdD : FuncData} {k : Nat} (T : Df K mg "_law_order" s_law_order ["pool", "n"] f fd) (T__law_draw : Df K mg "_law_draw" s_law_draw ["pool", "many"] fD fdD) (G__law_draw : FnOk P w K mg base CX0 k fD fdD ["pool", "many"] spDrawP) (B : Bi mg) : FnOk P w K mg base CX0 (k + 1) f fd ["pool", "n"] spOrderP := by
  refine T.F.ok scOrderP (fun vs H Q E h => ?_) (fun cdv A outer s H vs Q E hr h => ?_)
  · obtain ⟨D, n, rfl, _⟩ := h
    rfl
  · obtain ⟨d, n, rfl, hD, hn2, q⟩ := h
    refine ⟨_, 
      (pss_cons (ps_set (i := 2) scOrderP.nd rfl (.inr rfl) (pe_listRg rfl (by rfl) B.list (prg_1 (by rfl) B.range (pv 1))))
      (pss_one (ps_ret (pe_lc (own := [("k", 3)]) (g := (gName 3)) (tt := tYes) (te := (tBM K "list" rPopAt (tVar 2) (tCons (tCall spDrawP [] E0 (tCons (tVar 0) (tCons (tCB (rLenS K) (tCons (tVar 2) tNil)) tNil))) tNil))) rfl scOrderP.nd (pi_range1 (by rfl) B.range (pa_cons (pv 1) pa_nil)) (blkOk_by (N := ["pool", "n", "left", "k"]) (sc := defScope s_law_order) (by decide +kernel)) (fun _ _ _ _ _ => (pg_name (i := 3) scOrderP.nd rfl (.inl rfl))) (fun _ _ _ _ _ => pts_nil) (fun _ _ _ _ _ => (pe_bm PySem.F.plainAttrs_list PySem.F.slot_list_pop PySem.F.type_list_pop mt_popAt (pv 2) (pa_cons (pe_call G__law_draw hr (by rfl) T__law_draw.g T__law_draw.F.kp T__law_draw.b .nil pass0 (pa_cons (pv 0) (pa_cons (pe_callB call_len_seq (by rfl) B.len PySem.boot_len (pa_cons (pv 2) pa_nil)) pa_nil))) pa_nil))))))), ?_⟩
    refine ⟨_, rfl, n, rfl, RgOk.of_le (by omega) (by omega) (by omega) (by omega), fun l nl => ?_⟩
    have hl0 : (upd H l (.lst (rgV 0 (n : Int)))) l = some (.lst ((rg n).map V.int)) := by rw [upd_same, rg_V]
    have D0 := hD.new (o := .lst (rgV 0 (n : Int))) nl
    have nf := hD.ne nl
    have k0 : KeepD d H (upd H l (.lst (rgV 0 (n : Int)))) := KeepD.new nl
    refine ⟨_, rfl, n, rfl, by omega, by omega, ?_⟩
    rw [Int.toNat_natCast]
    intro p np
    have npf := D0.ne np
    have lp : l ≠ p := ne_of_none hl0 np
    refine lc_range (lo := 0) (n := n) (fun i H3 => ∃ (rest acc : List Int), (acc ++ rest).Perm (rg n) ∧ acc.length = i ∧ H3 l = some (.lst (rest.map V.int)) ∧ H3 p = some (.lst (acc.map V.int)) ∧ PoolAt H3 d ∧ ∀ b o, H b = some o → b ≠ d → H3 b = some o)
      ⟨rg n, [], List.Perm.refl _, rfl, by rw [upd_ne lp]; exact hl0, upd_same, D0.new np, fun b o e f => by rw [upd_ne (ne_of_none (k0 b o e f) np)]; exact k0 b o e f⟩ (fun i H3 hi hP => ?_) (fun H3 hP => ?_)
    · obtain ⟨rest, acc, hperm, el, hl3, hp3, D3, kp3⟩ := hP
      have hlen : rest.length = n - i := by
        have := List.Perm.length_eq hperm
        rw [List.length_append, rg_len] at this
        omega
      have hlm : (rest.map V.int).length = rest.length := List.length_map _
      refine ⟨rfl, ?_⟩
      refine ⟨_, rfl, .inl ⟨rfl, _, SqL.of hl3⟩, _, rfl, _, rfl, l, _, rfl, .inl (SqL.of hl3), d, _, rfl, D3, by rw [hlm]; omega, by rw [hlm]; omega, fun v H4 v0 v1 D4 k4 => ?_⟩
      have hl4 := k4 l _ hl3 nf
      have hp4 := k4 p _ hp3 npf
      rw [hlm] at v1
      obtain ⟨j, ej⟩ : ∃ j : Nat, v = (j : Int) := ⟨v.toNat, by omega⟩
      subst ej
      obtain ⟨y, ey⟩ : ∃ y, rest[j]? = some y := ⟨rest[j]'(by omega), List.getElem?_eq_getElem (by omega)⟩
      refine ⟨l, _, _, j, _, rfl, rfl, hl4, by omega, by omega, seq_ix rfl (by rw [hlm]; omega), int_at ey, ?_⟩
      refine ⟨acc.map V.int, by rw [upd_ne lp.symm]; exact hp4, line_lt (by rw [List.length_map]; omega), rest.eraseIdx j, acc ++ [y], ?_, by rw [List.length_append, el]; rfl, ?_, by rw [upd_same, List.map_append]; rfl, ?_, fun b o e f => ?_⟩
      · rw [List.append_assoc]
        exact (List.Perm.append_left acc (pop_perm ey)).trans hperm
      · rw [upd_ne lp, upd_same, map_erase]
      · exact (D4.upd nf).upd npf
      · have e4 := k4 b o (kp3 b o e f) f
        have nbl : b ≠ l := ne_of_none e nl
        have nbp : b ≠ p := ne_of_none (k0 b o e f) np
        rw [upd_ne nbp, upd_ne nbl]
        exact e4
    · obtain ⟨rest, acc, hperm, el, hl3, hp3, D3, kp3⟩ := hP
      have hr0 : rest = [] := by
        have := List.Perm.length_eq hperm
        rw [List.length_append, rg_len] at this
        exact List.eq_nil_of_length_eq_zero (by omega)
      subst hr0
      rw [List.append_nil] at hperm
      exact q acc p H3 hperm (k0.none np npf) hp3 npf D3 kp3
end
end Fo
namespace Fo
open PySem PySem.Spec PyProof.Rows L2
theorem idx_facts {n : Nat} {ys : List Int} {x : Int} (o : IsOrd n ys) (x0 : 0 ≤ x) (x1 : x < n) : ∃ j : Nat, (ys.map V.int)[j]? = some (V.int x) ∧ eqV (V.int x) (V.int x) = true ∧ (∀ (m : Nat) (z' : V), m < j → (ys.map V.int)[m]? = some z' → eqV z' (V.int x) = false) ∧ ((j : Nat) : Int) = pos ys x := by
  obtain ⟨j, hj, ej, pj⟩ := pos_at o x0 x1
  refine ⟨j, int_at ej, ?_, fun u z' hu hz' => ?_, pj.symm⟩
  · show (x == x) = true
    exact beq_self_eq_true _
  · obtain ⟨y, ey, rfl⟩ := int_at_inv hz'
    show (y == x) = false
    rw [beq_eq_false_iff_ne]
    intro e
    subst e
    exact absurd (nd_ix o.nodup ey ej) (by omega)
end Fo
namespace Fo
open PySem PySem.Spec PyProof.Rows L2
/-- a comprehension over zip of two lists that stand still -/
theorem lc_zipL {K : PySem.W.Frag} {a b : Addr} {xs ys : List V} {g : TG} {tt : TT} {te : TE} {vs : List Nat} {σ : L2.St} {H1 : Hp} {D : Addr} {Qd : Hp → Prop} (hlen : xs.length = ys.length) (Pv : Nat → Hp → Prop) (h0 : Pv 0 (upd H1 D (.lst []))) (hl : ∀ i H, i ≤ xs.length → Pv i H → SqL K H a xs ∧ SqL K H b ys)
    (hs : ∀ (i : Nat) (x y : V) (T : Addr) (H : Hp), xs[i]? = some x → ys[i]? = some y → Pv i H → H T = none → g (.ref T) (wipe σ vs) (upd H T (.tup [x, y])) fun σ2 H2 => wipe σ2 vs = wipe σ vs ∧ tt σ2 H2 fun b H3 =>
      if b = true then te σ2 H3 fun y H4 => ∃ acc, H4 D = some (.lst acc) ∧ acc.length < sizeLine ∧ Pv (i + 1) (upd H4 D (.lst (acc ++ [y]))) else Pv (i + 1) H3) (hd : ∀ H, Pv xs.length H → Qd H) :
    ∃ W : Nat → Nat → Hp → Prop, (∃ m, W 0 m (upd H1 D (.lst []))) ∧ ∀ i m H, W i m H →
      ((Itz K a b).stop i H ∧ Qd H) ∨ ((Itz K a b).go i H ∧ ∃ Nx : Hp → Prop, (∀ H', Nx H' → ∃ m', m' < m ∧ W (i + 1) m' H') ∧ ∀ x H', (Itz K a b).yld i H x H' → g x (wipe σ vs) H' fun σ2 H2 => wipe σ2 vs = wipe σ vs ∧ tt σ2 H2 fun b H3 =>
        if b = true then te σ2 H3 fun y H4 => ∃ acc, H4 D = some (.lst acc) ∧ acc.length < sizeLine ∧ Nx (upd H4 D (.lst (acc ++ [y]))) else Nx H3) := by
  refine ⟨fun i m H => m = xs.length - i ∧ i ≤ xs.length ∧ Pv i H, ⟨xs.length, by simp, Nat.zero_le _, h0⟩, ?_⟩
  rintro i m H ⟨rfl, hi, p⟩
  obtain ⟨q1, q2⟩ := hl i H hi p
  by_cases hlt : i < xs.length
  · refine .inr ⟨⟨xs, ys, xs[i], ys[i], q1, q2, by simp [hlt], List.getElem?_eq_getElem (by omega)⟩, Pv (i + 1), fun H' p' => ⟨xs.length - (i + 1), by omega, rfl, hlt, p'⟩, fun x H' y => ?_⟩
    obtain ⟨T, x', y', rfl, hT, rfl, f1, f2⟩ := y
    exact hs i x' y' T H (f1 xs q1) (f2 ys q2) p hT
  · have e : i = xs.length := by omega
    subst e
    exact .inl ⟨⟨xs, ys, q1, q2, .inl (Nat.le_refl _)⟩, hd H p⟩
section
variable {P : Program} {w : World} {K : PySem.W.Frag} {mg : Str → Option Value} {base : Heap}
theorem scLFar : FnScope ["way", "one", "other", "there", "found", "p", "a", "b", "thing", "q"] ["way", "one", "other"] (defScope s_law_far) := ⟨rfl, rfl, rfl, by decide +kernel, rfl, by decide +kernel, by decide +kernel⟩
set_option maxHeartbeats 4000000 in
theorem ok_lfar82 {f : Addr} {fd : FuncData} {k : Nat} (T : Df K mg "_law_far" s_law_far ["way", "one", "other"] f fd) (B : Bi mg) : FnOk P w K mg base CX0 (k + 1) f fd ["way", "one", "other"] spFar := by
  refine T.F.ok scLFar (fun vs H Q E h => ?_) (fun cdv A outer s H vs Q E hr h => ?_)
  · obtain ⟨z, a, b, n, xs, ys, rfl, _⟩ := h
    rfl
  · obtain ⟨z, a, b, n, xs, ys, rfl, hz, ha, hb, ox, oy, hn1, hn2, q⟩ := h
    have hxl : (xs.map V.int).length = n := by rw [List.length_map, ox.len]
    have hyl : (ys.map V.int).length = n := by rw [List.length_map, oy.len]
    have os := seats_ord ox oy
    refine ⟨_, 
      (pss_cons (ps_if (pt_cmpR op_eq (pv 0) pe_str (nomark _))
        (pss_one (ps_ret (pe_callB call_len_seq (by rfl) B.len PySem.boot_len (pa_cons (pe_lc (own := [("a", 6), ("b", 7)]) (g := (gTup K 2 (gCons (gName 6) (gCons (gName 7) gNil)))) (tt := (tTest (tOp rNe (tVar 6) (tVar 7)))) (te := (tC (.int 1))) rfl scLFar.nd (pi_zip (by rfl) B.zip (pa_cons (pv 1) (pa_cons (pv 2) pa_nil))) (blkOk_by (N := ["way", "one", "other", "there", "found", "p", "a", "b", "thing", "q"]) (sc := defScope s_law_far) (by decide +kernel)) (fun _ _ _ _ _ => (pg_tup (by rfl) (pgs_cons (pg_name (i := 6) scLFar.nd rfl (.inl rfl)) (pgs_cons (pg_name (i := 7) scLFar.nd rfl (.inl rfl)) pgs_nil)))) (fun _ _ _ _ _ => (pts_one (pt_cmpR op_ne (pv 6) (pv 7) (nomark _)))) (fun _ _ _ _ _ => pe_int)) pa_nil))))
        pss_nil)
      (pss_cons (ps_set (i := 3) scLFar.nd rfl (.inr rfl) (pe_lc (own := [("thing", 8)]) (g := (gName 8)) (tt := tYes) (te := (tBM K "list" (rIndex K) (tVar 2) (tCons (tVar 8) tNil))) rfl scLFar.nd (pi_list (pv 1)) (blkOk_by (N := ["way", "one", "other", "there", "found", "p", "a", "b", "thing", "q"]) (sc := defScope s_law_far) (by decide +kernel)) (fun _ _ _ _ _ => (pg_name (i := 8) scLFar.nd rfl (.inl rfl))) (fun _ _ _ _ _ => pts_nil) (fun _ _ _ _ _ => (pe_bm PySem.F.plainAttrs_list PySem.F.slot_list_index PySem.F.type_list_index mt_index (pv 2) (pa_cons (pv 8) pa_nil)))))
      (pss_cons (ps_if (pt_cmpR op_eq (pv 0) pe_str (nomark _))
        (pss_one (ps_ret (pe_callB (cr_max rfl) (by rfl) B.max (by decide +kernel) (pa_cons (pe_lc (own := [("p", 5), ("q", 9)]) (g := (gTup K 2 (gCons (gName 5) (gCons (gName 9) gNil)))) (tt := tYes) (te := (tCB rAbs (tCons (tOp (rI0 fun i j => .int (i - j)) (tVar 5) (tVar 9)) tNil))) rfl scLFar.nd (pi_enum (by rfl) B.enumerate (pa_cons (pv 3) pa_nil)) (blkOk_by (N := ["way", "one", "other", "there", "found", "p", "a", "b", "thing", "q"]) (sc := defScope s_law_far) (by decide +kernel)) (fun _ _ _ _ _ => (pg_tup (by rfl) (pgs_cons (pg_name (i := 5) scLFar.nd rfl (.inl rfl)) (pgs_cons (pg_name (i := 9) scLFar.nd rfl (.inl rfl)) pgs_nil)))) (fun _ _ _ _ _ => pts_nil) (fun _ _ _ _ _ => (pe_callB call_abs (by rfl) B.abs (by decide +kernel) (pa_cons (pe_op op_sub (pv 5) (pv 9)) pa_nil)))) pa_nil))))
        pss_nil)
      (pss_cons (ps_set (i := 4) scLFar.nd rfl (.inl rfl) pe_int)
      (pss_cons (ps_for PassesOwn.never rfl (pi_range1 (by rfl) B.range (pa_cons (pe_callB call_len_seq (by rfl) B.len PySem.boot_len (pa_cons (pv 3) pa_nil)) pa_nil)) (pg_name (i := 5) scLFar.nd rfl (.inr rfl))
        (pss_one (ps_set (i := 4) scLFar.nd rfl (.inl rfl) (pe_op op_add (pv 4) (pe_callB call_len_seq (by rfl) B.len PySem.boot_len (pa_cons (pe_lc (own := [("q", 9)]) (g := (gName 9)) (tt := (tTest (tOp (rI0 fun i j => .bl (decide (i < j))) (tVar 9) (tOp (rIxL K) (tVar 3) (tVar 5))))) (te := (tVar 9)) rfl scLFar.nd (pi_list (pe_slice sl_list (pv 3) (po_some (pe_op op_add (pv 5) pe_int)) po_none)) (blkOk_by (N := ["way", "one", "other", "there", "found", "p", "a", "b", "thing", "q"]) (sc := defScope s_law_far) (by decide +kernel)) (fun _ _ _ _ _ => (pg_name (i := 9) scLFar.nd rfl (.inl rfl))) (fun _ _ _ _ _ => (pts_one (pt_cmpR op_lt (pv 9) (pe_ix ix_list (pv 3) (pv 5) (fun _ _ => rfl)) (nomark _)))) (fun _ _ _ _ _ => (pv 9))) pa_nil))))))
      (pss_one (ps_ret (pv 4)))))))), ?_⟩
    rcases hz with rfl | rfl | rfl
    · -- swap
      refine ⟨_, rfl, rfl, _, rfl, ite2 (fun c => absurd c (by decide +kernel)) (fun _ => ?_)⟩
      refine ⟨_, rfl, a, rfl, ⟨_, SqL.of ha⟩, fun l nl => ?_⟩
      refine lc_list (K := K) (a := a) (xs := xs.map V.int) (fun m H3 => H3 l = some (.lst (((seatsL xs ys).take m).map V.int)) ∧ Same H H3) ⟨upd_same, same_new nl⟩ (fun m H3 _ hP => SqL.of (hP.2 _ _ ha)) (fun m x H3 hx hP => ?_) (fun H3 hP => ?_)
      · obtain ⟨hD3, sm⟩ := hP
        obtain ⟨y, ey, rfl⟩ := int_at_inv hx
        have yb := ox.mem (List.mem_of_getElem? ey)
        obtain ⟨j1, a1, b1, c1, p1⟩ := idx_facts oy yb.1 yb.2
        refine ⟨rfl, _, rfl, .inl ⟨rfl, _, SqL.of (sm _ _ hb)⟩, _, rfl, b, _, _, j1, _, rfl, rfl, SqL.of (sm _ _ hb), rfl, flat_ints ys, a1, b1, c1, _, hD3, line_lt (by rw [List.length_map, List.length_take, seats_len, ox.len]; omega), ?_, fun u o e => ?_⟩
        · rw [upd_same, take_more (seats_at ey), List.map_append, p1]
          rfl
        · rw [upd_ne (ne_of_none e nl)]
          exact sm _ _ e
      obtain ⟨hl, s1⟩ := hP
      rw [List.take_of_length_le (by rw [seats_len, List.length_map]; exact Nat.le_refl _)] at hl
      refine ⟨_, rfl, rfl, _, rfl, ite2 (fun c => absurd c (by decide +kernel)) (fun _ => ?_)⟩
      have hsl : ((seatsL xs ys).map V.int).length = n := by rw [List.length_map, seats_len, ox.len]
      refine ⟨_, rfl, l, _, rfl, .inl (SqL.of hl), _, rfl, by omega, by rw [hsl]; omega, ?_⟩
      rw [hsl, Int.toNat_natCast]
      refine for_range (n := n) (fun i σ G => ∃ (y5 y6 y7 y8 y9 : Option V), σ = [some (.str "swap"), some (.ref a), some (.ref b), some (.ref l), some (.int ((sumN (rg i) (fun p => cntL (seatsL xs ys) p.toNat) : Nat) : Int)), y5, y6, y7, y8, y9] ∧ G l = some (.lst ((seatsL xs ys).map V.int)) ∧ Same H G)
        ⟨_, _, _, _, _, rfl, hl, s1⟩ (fun i σ G hi hP => ?_) (fun σ G hP => ?_)
      · obtain ⟨y5, y6, y7, y8, y9, rfl, hl3, sm⟩ := hP
        rw [show (0 + (i : Int)) = (i : Int) by omega]
        have hsn : i < (seatsL xs ys).length := by rw [seats_len, ox.len]; exact hi
        obtain ⟨y, ey⟩ : ∃ y, (seatsL xs ys)[i]? = some y := ⟨_, List.getElem?_eq_getElem hsn⟩
        refine ⟨_, rfl, _, rfl, _, rfl, (i : Int), 1, rfl, rfl, _, rfl, l, _, rfl, SqL.of hl3, fun c nc => ?_⟩
        have s4 : Same G (upd G c (.lst (cutV ((seatsL xs ys).map V.int) (some ((i : Int) + 1)) none))) := same_new nc
        have ecut : cutV ((seatsL xs ys).map V.int) (some ((i : Int) + 1)) none = (((seatsL xs ys).drop (i + 1)).map V.int) := by
          rw [cut_ints, show (i : Int) + 1 = ((i + 1 : Nat) : Int) by omega, cutI_tail]
        have hc4 : (upd G c (.lst (cutV ((seatsL xs ys).map V.int) (some ((i : Int) + 1)) none))) c = some (.lst (((seatsL xs ys).drop (i + 1)).map V.int)) := by rw [upd_same, ecut]
        refine ⟨c, rfl, ⟨_, SqL.of hc4⟩, fun D nD => ?_⟩
        have ncD : c ≠ D := ne_of_none hc4 nD
        refine lc_list (K := K) (a := c) (xs := ((seatsL xs ys).drop (i + 1)).map V.int) (fun m H5 => H5 D = some (.lst (((((seatsL xs ys).drop (i + 1)).take m).filter (fun z => decide (z < g0 (seatsL xs ys) i))).map V.int)) ∧ H5 c = some (.lst (((seatsL xs ys).drop (i + 1)).map V.int)) ∧ Same G H5)
          ⟨upd_same, by rw [upd_ne ncD]; exact hc4, s4.trans (same_new nD)⟩ (fun m H5 _ hP => SqL.of hP.2.1) (fun m x H5 hx hP => ?_) (fun H5 hP => ?_)
        · obtain ⟨hD5, hc5, s5⟩ := hP
          obtain ⟨z, ez, rfl⟩ := int_at_inv hx
          have eg : g0 (seatsL xs ys) i = y := g0_at ey
          refine ⟨rfl, _, rfl, _, rfl, _, rfl, l, _, (i : Int), .int y, rfl, rfl, SqL.of (s5 _ _ hl3), atI_nat (int_at ey), z, y, rfl, rfl, _, rfl, ite2 (fun c => ?_) (fun c => ?_)⟩
          · have hz : z < y := of_decide_eq_true c
            refine ⟨_, rfl, _, hD5, line_lt ?_, ?_, by rw [upd_ne ncD]; exact hc5, fun u o e => ?_⟩
            · rw [List.length_map]
              refine Nat.lt_of_le_of_lt (List.length_filter_le _ _) ?_
              rw [List.length_take, List.length_drop, os.len]
              omega
            · rw [upd_same, filter_more _ ez, eg, decide_eq_true hz, if_pos rfl, List.map_append]
              rfl
            · rw [upd_ne (ne_of_none (s4 _ _ e) nD)]
              exact s5 _ _ e
          · refine ⟨?_, hc5, s5⟩
            rw [filter_more _ ez, eg, decide_eq_false (fun hz => c (decide_eq_true hz)), if_neg (by decide), List.append_nil]
            rw [eg] at hD5
            exact hD5
        · obtain ⟨hD5, hc5, s5⟩ := hP
          rw [List.length_map, List.take_length] at hD5
          refine ⟨D, _, rfl, .inl (SqL.of hD5), _, _, rfl, rfl, ?_⟩
          refine ⟨some (.int (i : Int)), y6, y7, y8, y9, ?_, s5 _ _ hl3, sm.trans s5⟩
          rw [rg_succ, sumN_append, sumN_cons, sumN_nil, List.length_map]
          show [some (.str "swap"), some (.ref a), some (.ref b), some (.ref l), some (V.int (((sumN (rg i) (fun p => cntL (seatsL xs ys) p.toNat) : Nat) : Int) + ((cntL (seatsL xs ys) i : Nat) : Int))), some (.int (i : Int)), y6, y7, y8, y9] = _
          rw [Int.toNat_natCast, Int.natCast_add, Nat.add_zero]
      · obtain ⟨y5, y6, y7, y8, y9, rfl, hl3, sm⟩ := hP
        refine ⟨_, rfl, ?_⟩
        have z := q G sm
        rw [farW_swap] at z
        unfold farSwap invN at z
        rw [seats_len, ox.len] at z
        exact z
    · -- spot
      refine ⟨_, rfl, rfl, _, rfl, ite2 (fun _ => ?_) (fun c => absurd (by decide +kernel) c)⟩
      refine ⟨_, rfl, _, rfl, a, b, _, _, rfl, SqL.of ha, SqL.of hb, fun D nD => ?_⟩
      refine lc_zipL (K := K) (a := a) (b := b) (xs := xs.map V.int) (ys := ys.map V.int) (by rw [hxl, hyl]) (fun m H3 => H3 D = some (.lst (((rg m).filter (fun p => !decide (g0 xs p = g0 ys p))).map (fun _ => V.int 1))) ∧ Same H H3) ⟨upd_same, same_new nD⟩ (fun m H3 _ hP => ⟨SqL.of (hP.2 _ _ ha), SqL.of (hP.2 _ _ hb)⟩) (fun m u v t H3 hu hv hP nt => ?_) (fun H3 hP => ?_)
      · obtain ⟨hD3, sm⟩ := hP
        obtain ⟨x, ex, rfl⟩ := int_at_inv hu
        obtain ⟨y, ey, rfl⟩ := int_at_inv hv
        have hm := (List.getElem?_eq_some_iff.mp ex).1
        rw [ox.len] at hm
        have gx : g0 xs (m : Int) = x := g0_at ex
        have gy : g0 ys (m : Int) = y := g0_at ey
        have s3 := same_new (o := .tup [.int x, .int y]) nt
        have fm : ((rg (m + 1)).filter fun p => !decide (g0 xs p = g0 ys p)) = ((rg m).filter fun p => !decide (g0 xs p = g0 ys p)) ++ (if x = y then [] else [(m : Int)]) := by
          rw [rg_succ, List.filter_append, List.filter_cons, gx, gy]
          congr 1
          by_cases c : x = y
          · simp [c]
          · simp [c]
        refine ⟨t, _, rfl, .inl (.inl upd_same), rfl, _, _, rfl, _, _, rfl, rfl, rfl, ?_⟩
        refine ⟨_, rfl, _, rfl, rfl, _, rfl, ?_⟩
        by_cases c : x = y
        · subst c
          refine iteNS rfl ⟨?_, sm.trans s3⟩
          rw [fm, if_pos rfl, List.append_nil]
          exact s3 _ _ hD3
        · rw [decide_eq_false (fun e => c (V.int.inj e))]
          refine iteT ⟨_, s3 _ _ hD3, line_lt ?_, ?_, fun u o e => ?_⟩
          · rw [List.length_map]
            refine Nat.lt_of_le_of_lt (List.length_filter_le _ _) ?_
            rw [rg_len]
            omega
          · rw [upd_same, fm, if_neg c, List.map_append]
            rfl
          · rw [upd_ne (ne_of_none e nD)]
            exact s3 _ _ (sm _ _ e)
      · obtain ⟨hD3, sm⟩ := hP
        refine ⟨D, _, rfl, .inl (SqL.of hD3), ?_⟩
        have z := q H3 sm
        rw [farW_spot] at z
        unfold farSpot spotL at z
        rw [List.length_map, hxl]
        rw [ox.len] at z
        exact z
    · -- shift
      refine ⟨_, rfl, rfl, _, rfl, ite2 (fun c => absurd c (by decide +kernel)) (fun _ => ?_)⟩
      refine ⟨_, rfl, a, rfl, ⟨_, SqL.of ha⟩, fun l nl => ?_⟩
      refine lc_list (K := K) (a := a) (xs := xs.map V.int) (fun m H3 => H3 l = some (.lst (((seatsL xs ys).take m).map V.int)) ∧ Same H H3) ⟨upd_same, same_new nl⟩ (fun m H3 _ hP => SqL.of (hP.2 _ _ ha)) (fun m x H3 hx hP => ?_) (fun H3 hP => ?_)
      · obtain ⟨hD3, sm⟩ := hP
        obtain ⟨y, ey, rfl⟩ := int_at_inv hx
        have yb := ox.mem (List.mem_of_getElem? ey)
        obtain ⟨j1, a1, b1, c1, p1⟩ := idx_facts oy yb.1 yb.2
        refine ⟨rfl, _, rfl, .inl ⟨rfl, _, SqL.of (sm _ _ hb)⟩, _, rfl, b, _, _, j1, _, rfl, rfl, SqL.of (sm _ _ hb), rfl, flat_ints ys, a1, b1, c1, _, hD3, line_lt (by rw [List.length_map, List.length_take, seats_len, ox.len]; omega), ?_, fun u o e => ?_⟩
        · rw [upd_same, take_more (seats_at ey), List.map_append, p1]
          rfl
        · rw [upd_ne (ne_of_none e nl)]
          exact sm _ _ e
      obtain ⟨hl, s1⟩ := hP
      rw [List.take_of_length_le (by rw [seats_len, List.length_map]; exact Nat.le_refl _)] at hl
      refine ⟨_, rfl, rfl, _, rfl, ite2 (fun _ => ?_) (fun c => absurd (by decide +kernel) c)⟩
      refine ⟨_, rfl, l, _, rfl, SqL.of hl, fun D nD => ?_⟩
      refine lc_enumL (K := K) (a := l) (xs := (seatsL xs ys).map V.int) (fun m H4 => H4 D = some (.lst (((gapsL xs ys).take m).map V.int)) ∧ H4 l = some (.lst ((seatsL xs ys).map V.int)) ∧ Same H H4) ⟨upd_same, same_new nD _ _ hl, s1.trans (same_new nD)⟩ (fun m H4 _ hP => SqL.of hP.2.1) (fun m x t H4 hx hP nt => ?_) (fun H4 hP => ?_)
      · obtain ⟨hD4, hl4, sm⟩ := hP
        obtain ⟨y, ey, rfl⟩ := int_at_inv hx
        have hi := (List.getElem?_eq_some_iff.mp ey).1
        rw [seats_len, ox.len] at hi
        have s3 := same_new (o := .tup [.int (m : Nat), .int y]) nt
        have eg : (gapsL xs ys)[m]? = some (absI ((m : Int) - y)) := by
          unfold gapsL rg
          rw [List.map_map, List.getElem?_map, List.getElem?_range (by rw [ox.len]; exact hi)]
          show some (absI ((m : Int) - g0 (seatsL xs ys) (m : Int))) = _
          rw [g0_at ey]
        refine ⟨t, _, rfl, .inl (.inl upd_same), rfl, _, _, rfl, _, _, rfl, rfl, rfl, ?_⟩
        refine ⟨_, rfl, _, rfl, (m : Int), y, rfl, rfl, _, rfl, _, s3 _ _ hD4, line_lt (by rw [List.length_map, List.length_take, gaps_len, ox.len]; omega), ?_, by rw [upd_ne (ne_of_none hl nD)]; exact s3 _ _ hl4, fun u o e => ?_⟩
        · rw [upd_same, take_more eg, List.map_append]
          rfl
        · rw [upd_ne (ne_of_none (s1 _ _ e) nD)]
          exact s3 _ _ (sm _ _ e)
      · obtain ⟨hD3, _, sm⟩ := hP
        rw [List.take_of_length_le (by rw [gaps_len, List.length_map, seats_len]; exact Nat.le_refl _)] at hD3
        refine ⟨D, gapsL xs ys, rfl, SqL.of hD3, by rw [gaps_len, ox.len]; exact hn1, fun m hm hle => ?_⟩
        have e : farShift xs ys = m := maxL_of (gaps_nonneg xs ys) hm hle
        have z := q H4 sm
        rw [farW_shift, e] at z
        exact z
end
end Fo
namespace Fo
open PySem PySem.Spec PyProof.Rows L2
/-! the law's own list, beside a desk: the way, n, d, the orders held, the deeds done -/
structure Deed where
  t : Addr
  c : Bool
  o : Addr
  xs : List Int
structure St82 (H : Hp) (st O D : Addr) (w : Str) (n : Nat) (d : Int) (ps : List (Addr × List Int)) (ts : List Deed) : Prop where
  hs : H st = some (.lst [.str w, .int n, .int d, .ref O, .ref D])
  hO : RP H O ps
  hD : H D = some (.lst (ts.map fun t => V.ref t.t))
  ht : ∀ t ∈ ts, H t.t = some (.tup [.str (if t.c = true then "came" else "gone"), .ref t.o]) ∧ H t.o = some (.lst (t.xs.map V.int))
  wy : IsWay w
  n1 : 1 ≤ n
  n8 : n ≤ 8
  d1 : 1 ≤ d
  ord : ∀ p ∈ ps, IsOrd n p.2
  ort : ∀ t ∈ ts, IsOrd n t.xs
  le : ps.length ≤ 120
  lt : ts.length ≤ 1000
  sO : st ≠ O
  sD : st ≠ D
  OD : O ≠ D
  pO : ∀ p ∈ ps, p.1 ≠ O ∧ p.1 ≠ D
  tO : ∀ t ∈ ts, t.o ≠ O ∧ t.o ≠ D
theorem St82.same {H H' : Hp} {st O D : Addr} {w : Str} {n : Nat} {d : Int} {ps : List (Addr × List Int)} {ts : List Deed} (h : St82 H st O D w n d ps ts) (s : Same H H') : St82 H' st O D w n d ps ts :=
  ⟨s _ _ h.hs, h.hO.same s, s _ _ h.hD, fun t m => ⟨s _ _ (h.ht t m).1, s _ _ (h.ht t m).2⟩, h.wy, h.n1, h.n8, h.d1, h.ord, h.ort, h.le, h.lt, h.sO, h.sD, h.OD, h.pO, h.tO⟩
theorem eqv_nilD (a : List (List Int)) : PyData.eqv (dLL a) (dLL []) = decide (a = []) := by
  cases a with
  | nil => rfl
  | cons x l =>
    rw [decide_eq_false (fun z => by cases z)]
    simp [dLL, PyData.eqv, PyData.eqvAll]
end Fo
namespace Fo
open PySem PySem.Spec PyProof.Rows L2
theorem erase_map {α β : Type} (f : α → β) : ∀ (l : List α) (j : Nat), (l.map f).eraseIdx j = (l.eraseIdx j).map f
  | [], j => by simp
  | a :: r, 0 => by simp
  | a :: r, j + 1 => by
    have ih := erase_map f r j
    simp [ih]
end Fo
namespace Fo
open PySem PySem.Spec PyProof.Rows L2
/-! how the law's deeds and the desk's earlier lists go together -/
inductive Run : List (List Int) → List Deed → List (List (List Int)) → Prop
  | nil : Run [] [] []
  | came {os0 os : List (List Int)} {ts : List Deed} {ss : List (List (List Int))} {t : Deed} : Run os0 ts ss → t.c = true → os.Perm (os0 ++ [t.xs]) → t.xs ∉ os0 → os0.length ≤ 120 → os0.Nodup → Run os (ts ++ [t]) (ss ++ [srt os0])
  | gone {os0 os : List (List Int)} {ts : List Deed} {ss : List (List (List Int))} {t : Deed} : Run os0 ts ss → t.c = false → os.Perm (os0.erase t.xs) → t.xs ∈ os0 → os0.length ≤ 120 → os0.Nodup → Run os (ts ++ [t]) (ss ++ [srt os0])
theorem Run.len {os : List (List Int)} {ts : List Deed} {ss : List (List (List Int))} (h : Run os ts ss) : ss.length = ts.length := by
  induction h with
  | nil => rfl
  | came _ _ _ _ _ _ ih => rw [List.length_append, List.length_append, ih]; rfl
  | gone _ _ _ _ _ _ ih => rw [List.length_append, List.length_append, ih]; rfl
theorem Run.none {os : List (List Int)} {ss : List (List (List Int))} (h : Run os [] ss) : ss = [] := List.eq_nil_of_length_eq_zero h.len
end Fo
namespace Fo
open PySem PySem.Spec PyProof.Rows L2
theorem eqvAll_lists : ∀ a b : List (List Int), PyData.eqvAll (a.map dL) (b.map dL) = decide (a = b)
  | [], [] => by simp [PyData.eqvAll]
  | [], _ :: _ => by simp [PyData.eqvAll]
  | _ :: _, [] => by simp [PyData.eqvAll]
  | x :: a, y :: b => by
    show PyData.eqvAll (dL x :: a.map dL) (dL y :: b.map dL) = _
    rw [PyData.eqvAll, eqvAll_lists a b, eqv_ints]
    by_cases h : x = y
    · subst h
      simp
    · simp [h]
theorem eqv_listsD (a b : List (List Int)) : PyData.eqv (dLL a) (dLL b) = decide (a = b) := by
  rw [PyData.eqv]
  exact eqvAll_lists a b
theorem dp_of {K : PySem.W.Frag} {H : Hp} {l : Addr} {as : List Addr} {rs : List (List Int)} {n : Nat} (h : OL H l as rs n) : Dp K H (.ref l) (dLL rs) := dp_lists h.top h.ll
theorem dp_nil {K : PySem.W.Frag} {H : Hp} {a : Addr} (h : H a = some (.lst [])) : Dp K H (.ref a) (dLL []) := .lst (SqL.of h) .nil
end Fo
namespace Fo
open PySem PySem.Spec PyProof.Rows L2 TL
section
variable {P : Program} {w : World} {K : PySem.W.Frag} {mg : Str → Option Value} {base : Heap}
theorem scLWr : FnScope ["order", "thing"] ["order"] (defScope s_law_written) := ⟨rfl, rfl, rfl, by decide +kernel, rfl, by decide +kernel, by decide +kernel⟩
set_option maxHeartbeats 2000000 in
theorem ok_lwr {f : Addr} {fd : FuncData} {k : Nat} (T : Df K mg "_law_written" s_law_written ["order"] f fd) (B : Bi mg) : FnOk P w K mg base CX0 (k + 1) f fd ["order"] spWr := by
  refine T.F.ok scLWr (fun vs H Q E h => ?_) (fun cdv A outer s H vs Q E hr h => ?_)
  · obtain ⟨a, n, xs, rfl, _⟩ := h
    rfl
  · obtain ⟨a, n, xs, rfl, ha, ox, h1, h2, q⟩ := h
    refine ⟨_, 
      (pss_one (ps_ret (pe_join pe_str (pe_lc (own := [("thing", 1)]) (g := (gName 1)) (tt := tYes) (te := (tCB rStrI (tCons (tVar 1) tNil))) rfl scLWr.nd (pi_list (pv 0)) (blkOk_by (N := ["order", "thing"]) (sc := defScope s_law_written) (by decide +kernel)) (fun _ _ _ _ _ => (pg_name (i := 1) scLWr.nd rfl (.inl rfl))) (fun _ _ _ _ _ => pts_nil) (fun _ _ _ _ _ => (pe_callTy call_str_int (by rfl) B.str (by decide +kernel) (pa_cons (pv 1) pa_nil))))))), ?_⟩
    refine ⟨⟨_, rfl⟩, _, rfl, a, rfl, ⟨_, SqL.of ha⟩, fun p np => ?_⟩
    refine lc_list (K := K) (a := a) (xs := xs.map V.int) (fun i H3 => H3 p = some (.lst (((xs.take i).map decT).map V.str)) ∧ Same H H3) ⟨upd_same, same_new np⟩ (fun i H3 _ hP => SqL.of (hP.2 _ _ ha)) (fun i x H3 hx hP => ?_) (fun H3 hP => ?_)
    · obtain ⟨y, ey, rfl⟩ := int_at_inv hx
      obtain ⟨hp3, sm⟩ := hP
      have hi := (List.getElem?_eq_some_iff.mp ey).1
      have hy := ox.mem (List.mem_of_getElem? ey)
      rw [ox.len] at hi
      refine ⟨rfl, _, rfl, y, rfl, log_small hy.1 (by omega), _, hp3, line_lt (by rw [List.length_map, List.length_map, List.length_take]; omega), ?_, fun b o e => ?_⟩
      · rw [upd_same, take_more ey, List.map_append, List.map_append]
        rfl
      · rw [upd_ne (ne_of_none e np)]
        exact sm _ _ e
    · obtain ⟨hp3, sm⟩ := hP
      rw [List.length_map, List.take_length] at hp3
      refine ⟨_, p, _, rfl, rfl, .inl (SqL.of hp3), ?_, q _ sm⟩
      have := dec_sum ox h2
      rw [List.length_map, ox.len]
      show _ + n * 1 ≤ 16777216
      omega
theorem scLWrL : FnScope ["orders", "order"] ["orders"] (defScope s_law_list_written) := ⟨rfl, rfl, rfl, by decide +kernel, rfl, by decide +kernel, by decide +kernel⟩
set_option maxHeartbeats 2000000 in
theorem ok_lwrL {f f2 : Addr} {fd d2 : FuncData} {k : Nat} (T : Df K mg "_law_list_written" s_law_list_written ["orders"] f fd) (T__law_written : Df K mg "_law_written" s_law_written ["order"] f2 d2) (G__law_written : FnOk P w K mg base CX0 k f2 d2 ["order"] spWr) (B : Bi mg) : FnOk P w K mg base CX0 (k + 1) f fd ["orders"] spWrL := by
  refine T.F.ok scLWrL (fun vs H Q E h => ?_) (fun cdv A outer s H vs Q E hr h => ?_)
  · obtain ⟨l, as, rs, n, rfl, _⟩ := h
    rfl
  · obtain ⟨l, as, rs, n, rfl, hO, hlen, q⟩ := h
    have hal := hO.ll.len
    refine ⟨_, 
      (pss_one (ps_ret (pe_ifExp (pt_cmpR (op_neD hr.units) (pv 0) (pe_lst pa_nil) (nomark _)) (pe_join pe_str (pe_lc (own := [("order", 1)]) (g := (gName 1)) (tt := tYes) (te := (tCall spWr [] E0 (tCons (tVar 1) tNil))) rfl scLWrL.nd (pi_list (pv 0)) (blkOk_by (N := ["orders", "order"]) (sc := defScope s_law_list_written) (by decide +kernel)) (fun _ _ _ _ _ => (pg_name (i := 1) scLWrL.nd rfl (.inl rfl))) (fun _ _ _ _ _ => pts_nil) (fun _ _ _ _ _ => (pe_call G__law_written hr (by rfl) T__law_written.g T__law_written.F.kp T__law_written.b .nil pass0 (pa_cons (pv 1) pa_nil))))) pe_str))), ?_⟩
    refine ⟨_, rfl, line_small (by show 0 ≤ 16777216; decide), fun e0 ne0 => ?_⟩
    have s1 := same_new (o := .lst []) ne0
    have h1 := hO.same s1
    refine ⟨_, _, dp_of h1, dp_nil upd_same, shaped_lists _, shaped_lists _, _, rfl, ?_⟩
    rw [eqv_listsD]
    by_cases c : rs = []
    · rw [decide_eq_true c]
      subst c
      exact iteF (q _ s1)
    · rw [decide_eq_false c]
      refine iteT ?_
      refine ⟨⟨_, rfl⟩, _, rfl, l, rfl, ⟨_, SqL.of h1.top⟩, fun p np => ?_⟩
      refine lc_list (K := K) (a := l) (xs := as.map V.ref) (fun i H3 => H3 p = some (.lst (((rs.take i).map wrT).map V.str)) ∧ Same (upd H e0 (.lst [])) H3) ⟨upd_same, same_new np⟩ (fun i H3 _ hP => SqL.of (hP.2 _ _ h1.top)) (fun i x H3 hx hP => ?_) (fun H3 hP => ?_)
      · obtain ⟨a, ea, rfl⟩ := ref_at_inv hx
        obtain ⟨hp3, sm⟩ := hP
        have hi := (List.getElem?_eq_some_iff.mp ea).1
        obtain ⟨r, er, ha⟩ := (h1.ll.same sm).get ea
        refine ⟨rfl, _, rfl, a, n, r, rfl, ha, hO.ord r (List.mem_of_getElem? er), hO.n1, hO.n2, fun H4 s4 => ⟨_, s4 _ _ hp3, line_lt (by rw [List.length_map, List.length_map, List.length_take]; omega), ?_, fun b o e => ?_⟩⟩
        · rw [upd_same, take_more' er, List.map_append, List.map_append]
          rfl
        · rw [upd_ne (ne_of_none e np)]
          exact s4 _ _ (sm _ _ e)
      · obtain ⟨hp3, sm⟩ := hP
        rw [List.length_map, List.take_of_length_le (by omega)] at hp3
        refine ⟨_, p, _, rfl, rfl, .inl (SqL.of hp3), ?_, ?_⟩
        · have := wr_sum hO.ord hO.n2
          rw [List.length_map]
          show _ + rs.length * 2 ≤ 16777216
          omega
        · have z := q _ (s1.trans sm)
          unfold wrL at z
          rw [if_neg c] at z
          exact z
end
end Fo
namespace Fo
open PySem PySem.Spec PyProof.Rows L2
/-! the least apart does not hang on the order of the list -/
theorem prs_mem {w : Str} {n : Nat} {rs : List (List Int)} (ho : ∀ r ∈ rs, IsOrd n r) (hn : 1 ≤ n) (nd : rs.Nodup) : ∀ i, i ≤ rs.length → ∀ y, y ∈ prs w rs i ↔ ∃ x, x ∈ rs.take i ∧ ∃ z, z ∈ rs.take i ∧ x ≠ z ∧ y = farW w x z
  | 0, _, y => ⟨fun h => absurd h List.not_mem_nil, fun ⟨x, hx, _⟩ => absurd hx (by rw [List.take_zero]; exact List.not_mem_nil)⟩
  | i + 1, hi, y => by
    have ih := prs_mem (w := w) ho hn nd i (Nat.le_of_succ_le hi) y
    have er : rs[i]? = some (rs[i]'hi) := List.getElem?_eq_getElem hi
    generalize rs[i]'hi = r at er
    have hr : r ∈ rs := List.mem_of_getElem? er
    have et := take_p er
    have nr : r ∉ rs.take i := fun h => by
      have h2 : (rs.take (i + 1)).Nodup := nd.sublist (List.take_sublist _ _)
      rw [et] at h2
      exact (List.nodup_append.mp h2).2.2 r h r (List.mem_singleton.mpr rfl) rfl
    rw [prs_at er, List.mem_append, ih, et]
    constructor
    · rintro (⟨x, hx, z, hz, h⟩ | h)
      · exact ⟨x, List.mem_append_left _ hx, z, List.mem_append_left _ hz, h⟩
      · obtain ⟨o, h1, rfl⟩ := List.mem_map.mp h
        exact ⟨r, List.mem_append_right _ (List.mem_singleton.mpr rfl), o, List.mem_append_left _ h1, fun q => nr (q ▸ h1), rfl⟩
    · rintro ⟨x, hx, z, hz, nxz, rfl⟩
      rcases List.mem_append.mp hx with hx | hx
      · rcases List.mem_append.mp hz with hz | hz
        · exact .inl ⟨x, hx, z, hz, nxz, rfl⟩
        · rw [List.mem_singleton.mp hz]
          refine .inr (List.mem_map.mpr ⟨x, hx, ?_⟩)
          exact (farW_turn (ho x (List.mem_of_mem_take hx)) (ho r hr) hn)
      · rw [List.mem_singleton.mp hx] at nxz ⊢
        rcases List.mem_append.mp hz with hz | hz
        · exact .inr (List.mem_map.mpr ⟨z, hz, rfl⟩)
        · exact absurd (List.mem_singleton.mp hz).symm nxz
theorem prs_perm {w : Str} {n : Nat} {rs qs : List (List Int)} (hp : rs.Perm qs) (ho : ∀ r ∈ rs, IsOrd n r) (hn : 1 ≤ n) (nd : rs.Nodup) (y : Int) : y ∈ prs w rs rs.length ↔ y ∈ prs w qs qs.length := by
  rw [prs_mem ho hn nd _ (Nat.le_refl _), prs_mem (fun r hr => ho r (hp.mem_iff.mpr hr)) hn (hp.nodup_iff.mp nd) _ (Nat.le_refl _), List.take_length, List.take_length]
  constructor
  · rintro ⟨x, hx, z, hz, h⟩
    exact ⟨x, hp.mem_iff.mp hx, z, hp.mem_iff.mp hz, h⟩
  · rintro ⟨x, hx, z, hz, h⟩
    exact ⟨x, hp.mem_iff.mpr hx, z, hp.mem_iff.mpr hz, h⟩
/-- outside of some addresses all stays -/
theorem LsAt.outY {C : Addr} {H H' : Hp} {a e : Addr} {Y : Addr → Prop} {X : List Addr} {w : Str} {n : Nat} {d : Int} {rs : List (List Int)} {ss : List (List (List Int))} (L : LsAt C H a e X w n d rs ss) (k : ∀ b o, H b = some o → ¬ Y b → H' b = some o) (hy : ∀ y, Y y → y ∈ X) (ha : ¬ Y a) (he : ¬ Y e) (ty : ∀ y ∈ X, Y y → ∃ o, H' y = some o) : LsAt C H' a e X w n d rs ss := by
  obtain ⟨⟨dx, t, ps, st, e1, e2, e3, e4, e5, e6, eX, tX, pX, sX⟩, tr, r⟩ := L
  have rk : ∀ {t : Addr} {ps : List (Addr × List Int)}, RP H t ps → t ∉ X → (∀ p ∈ ps, p.1 ∉ X) → RP H' t ps := fun h h1 h2 => ⟨k _ _ h.1 fun z => h1 (hy _ z), fun p hp => k _ _ (h.2 p hp) fun z => h2 p hp (hy _ z)⟩
  refine ⟨⟨dx, t, ps, st, k _ _ e1 ha, k _ _ e2 he, rk e3 tX pX, e4, fun q hq => rk (e5 q hq) (sX q hq).1 (sX q hq).2, e6, eX, tX, pX, sX⟩, fun x hx => ?_, by assumption, by assumption, by assumption, by assumption, by assumption, by assumption⟩
  by_cases c : Y x
  · exact ty x hx c
  · obtain ⟨o, ho⟩ := tr x hx
    exact ⟨o, k x o ho c⟩
end Fo
namespace Fo
open PySem PySem.Spec PyProof.Rows L2 TL
theorem bare_say {w : Str} {n : Nat} {d : Int} {rs : List (List Int)} {ss : List (List (List Int))} {row : Str} {o : SayO} (h : bareO w n d rs ss row = some o) : sayO w n d rs ss (.str row) = o := by
  show sayT w n d rs ss row = _
  unfold sayT
  rw [h]
theorem say_list {w : Str} {n : Nat} {d : Int} {rs : List (List Int)} {ss : List (List (List Int))} : sayO w n d rs ss (.str "list") = .txt (wrL rs) := bare_say (by rfl)
theorem say_undo {w : Str} {n : Nat} {d : Int} {rs r : List (List Int)} {ss : List (List (List Int))} : sayO w n d rs (ss ++ [r]) (.str "undo") = .go "ok" r ss := bare_say (by
  unfold bareO
  rw [if_pos rfl, List.getLast?_concat, List.dropLast_concat])
theorem say_undo0 {w : Str} {n : Nat} {d : Int} {rs : List (List Int)} : sayO w n d rs [] (.str "undo") = .no 4 := bare_say (by rfl)
end Fo
namespace Fo
open PySem PySem.Spec PyProof.Rows L2
/-- the desk, its Lister and what is held -/
structure DAt (CD CL Pt : Addr) (H : Hp) (b a e : Addr) (X : List Addr) (w : Str) (n : Nat) (d : Int) (rs : List (List Int)) (ss : List (List (List Int))) : Prop where
  D : DkO CD H b a
  L : LsAt CL H a e X w n d rs ss
  T : GxR.TabG H Pt
  le : rs.length ≤ 120
  ls : ss.length < 1000
  nd : rs.Nodup
  aX : a ∉ X
  bX : b ∉ X
theorem KeepT.kplD {a e : Addr} {H0 H H' : Hp} (k : KeepT H0 H) (s : KpL a e H H') (na : H0 a = none) (ne : H0 e = none) : KeepT H0 H' := by
  refine ⟨fun b o h f => s b o (k.1 b o h f) (ne_of_none h na) (ne_of_none h ne), fun b q h => ?_⟩
  obtain ⟨q', e', t⟩ := k.2 b q h
  exact ⟨q', s b _ e' (ne_of_none h na) (ne_of_none h ne), t⟩
section
variable {CD CL Pt : Addr} {H H' : Hp} {b a e : Addr} {X : List Addr} {w : Str} {n : Nat} {d : Int} {rs rs' : List (List Int)} {ss ss' : List (List (List Int))}
theorem DAt.ea (h : DAt CD CL Pt H b a e X w n d rs ss) : (∃ dx t, H a = some (.ins CL dx (fldsL w n d t e))) ∧ ∃ xs, H e = some (.lst xs) := by
  obtain ⟨dx, t, ps, st, h1, h2, _⟩ := h.L.ex
  exact ⟨⟨dx, t, h1⟩, _, h2⟩
theorem DAt.keep (h : DAt CD CL Pt H b a e X w n d rs ss) (k : KeepT H H') : DAt CD CL Pt H' b a e X w n d rs ss := by
  obtain ⟨dx, hb⟩ := h.D
  exact ⟨⟨dx, k.1 _ _ hb (fun q z => by cases z)⟩, h.L.keepT k, k.tab h.T, h.le, h.ls, h.nd, h.aX, h.bX⟩
theorem DAt.same (h : DAt CD CL Pt H b a e X w n d rs ss) (k : Same H H') : DAt CD CL Pt H' b a e X w n d rs ss := h.keep (KeepT.of_same k)
theorem DAt.go (h : DAt CD CL Pt H b a e X w n d rs ss) (L : LsAt CL H' a e X w n d rs' ss') (k : KpL a e H H') (h1 : rs'.length ≤ 120) (h2 : ss'.length < 1000) (h3 : rs'.Nodup) : DAt CD CL Pt H' b a e X w n d rs' ss' := by
  obtain ⟨⟨dx, t, ha⟩, xs, he⟩ := h.ea
  obtain ⟨db, hb⟩ := h.D
  obtain ⟨q, hq, ok⟩ := h.T
  have nba : b ≠ a := fun z => by
    rw [z, ha] at hb
    injection hb with hb
    injection hb with _ _ hb
    cases hb
  have nbe : b ≠ e := fun z => by rw [z, he] at hb; cases hb
  exact ⟨⟨db, k _ _ hb nba nbe⟩, L, ⟨q, k _ _ hq (fun z => by rw [z, ha] at hq; cases hq) (fun z => by rw [z, he] at hq; cases hq), ok⟩, h1, h2, h3, h.aX, h.bX⟩
theorem DAt.grow {y : Addr} (h : DAt CD CL Pt H b a e X w n d rs ss) (s : Same H H') (ny : H y = none) (ty : ∃ o, H' y = some o) : DAt CD CL Pt H' b a e (y :: X) w n d rs ss := by
  have h2 := h.same s
  obtain ⟨⟨dx, t, ha⟩, xs, he⟩ := h.ea
  obtain ⟨db, hb⟩ := h.D
  exact ⟨h2.D, h.L.grow s ny ty, h2.T, h.le, h.ls, h.nd, fun z => (List.mem_cons.mp z).elim (fun z => ne_of_none ha ny z) h.aX, fun z => (List.mem_cons.mp z).elim (fun z => ne_of_none hb ny z) h.bX⟩
theorem DAt.put {y : Addr} {xs ys : List V} (h : DAt CD CL Pt H b a e X w n d rs ss) (hy : y ∈ X) (hx : H y = some (.lst xs)) (he : e ≠ y) : DAt CD CL Pt (upd H y (.lst ys)) b a e X w n d rs ss := by
  obtain ⟨db, hb⟩ := h.D
  obtain ⟨q, hq, ok⟩ := h.T
  have nb : b ≠ y := fun z => h.bX (z ▸ hy)
  exact ⟨⟨db, by rw [upd_ne nb]; exact hb⟩, h.L.out (y := y) (fun c o hc nc => by rw [upd_ne nc]; exact hc) hy (fun z => h.aX (z ▸ hy)) he ⟨_, upd_same⟩, ⟨q, by rw [upd_ne (fun z => by rw [z, hx] at hq; cases hq)]; exact hq, ok⟩, h.le, h.ls, h.nd, h.aX, h.bX⟩
end
end Fo
namespace Fo
open PySem PySem.Spec PyProof.Rows L2
theorem St82.keepT {H H' : Hp} {st O D : Addr} {w : Str} {n : Nat} {d : Int} {ps : List (Addr × List Int)} {ts : List Deed} (h : St82 H st O D w n d ps ts) (s : KeepT H H') : St82 H' st O D w n d ps ts :=
  ⟨s.lst h.hs, s.rp h.hO, s.lst h.hD, fun t m => ⟨s.1 _ _ (h.ht t m).1 (fun q z => by cases z), s.lst (h.ht t m).2⟩, h.wy, h.n1, h.n8, h.d1, h.ord, h.ort, h.le, h.lt, h.sO, h.sD, h.OD, h.pO, h.tO⟩
end Fo
namespace Fo
open PySem PySem.Spec PyProof.Rows L2 TL
theorem dec100 : ∀ k : Nat, k < 100 → (decT (k : Int)).length ≤ 2 ∧ 1 ≤ (decT (k : Int)).length ∧ (∀ c ∈ (decT (k : Int)).cps.toList, c ∈ ("0123456789" : Str).cps.toList) ∧ ((decT (k : Int)).length = 2 → (decT (k : Int)).cps.toList.head? ≠ some 48) ∧ PySem.intText? (decT (k : Int)) = some (k : Int) := by decide +kernel
theorem numL_some {w : Str} {k : Nat} (h : numL w = some k) : k < 100 ∧ w = decT (k : Int) := by
  unfold numL at h
  have h1 := List.find?_some h
  have h2 := List.mem_of_find?_eq_some h
  exact ⟨List.mem_range.mp h2, of_decide_eq_true h1⟩
theorem numL_of {k : Nat} (h : k < 100) : ∃ j, numL (decT (k : Int)) = some j ∧ decT (k : Int) = decT ((j : Nat) : Int) := by
  cases e : numL (decT (k : Int)) with
  | none =>
    have := List.find?_eq_none.mp e k (List.mem_range.mpr h)
    simp at this
  | some j => exact ⟨j, rfl, (numL_some e).2⟩
theorem dec_inj100 : ∀ k : Nat, k < 100 → ∀ j : Nat, j < 100 → decT ((k : Nat) : Int) = decT ((j : Nat) : Int) → k = j := fun k hk j hj e => by
  have h1 := (dec100 k hk).2.2.2.2
  have h2 := (dec100 j hj).2.2.2.2
  rw [e, h2] at h1
  have := Option.some.inj h1
  omega
theorem numL_dec {k : Nat} (h : k < 100) : numL (decT (k : Int)) = some k := by
  obtain ⟨j, h1, h2⟩ := numL_of h
  rw [h1, dec_inj100 k h j (numL_some h1).1 h2]
theorem numP_L {w : Str} {k : Nat} : numP w = some k ↔ numL w = some k ∧ k < 12 := by
  constructor
  · intro h
    have h1 := List.find?_some h
    have h2 := List.mem_range.mp (List.mem_of_find?_eq_some h)
    have h3 : w = decT (k : Int) := of_decide_eq_true h1
    rw [h3]
    exact ⟨numL_dec (by omega), h2⟩
  · rintro ⟨h, hk⟩
    have h3 := (numL_some h).2
    unfold numP
    rw [List.find?_range_eq_some]
    refine ⟨decide_eq_true h3, List.mem_range.mpr hk, fun j hj => ?_⟩
    have : ¬ w = decT ((j : Nat) : Int) := fun e => by
      have := dec_inj100 k (by omega) j (by omega) (h3.symm.trans e)
      omega
    simpa using this
end Fo
namespace Fo
open PySem PySem.Spec PyProof.Rows L2
theorem sameD {d : Addr} {G G1 G2 : Hp} (nd : G d = none) (s : Same G G1) (k : KeepD d G1 G2) : Same G G2 := fun y o hy => k y o (s _ _ hy) (ne_of_none hy nd)
end Fo
namespace Fo
open PySem PySem.Spec PyProof.Rows L2 TL
theorem atS {ys : List Str} {i : Int} (h0 : 0 ≤ i) (h1 : i < ys.length) : ∃ y, y ∈ ys ∧ atI (ys.map V.str) i = some (.str y) := by
  obtain ⟨j, rfl⟩ := Int.eq_ofNat_of_zero_le h0
  have h2 : j < ys.length := by omega
  exact ⟨ys[j], List.getElem_mem h2, atI_nat (by rw [List.getElem?_map, List.getElem?_eq_getElem h2]; rfl)⟩
def ways10 : List Str := ["swap", "spot", "shift", "swap", "spot", "shift", "jump", "Swap", "swaps", "s"]
def rowN (w : Str) (n d : Nat) : Str := Txt.join " " ["lister", w, decT (n : Int), decT (d : Int)]
end Fo
namespace Fo
open PySem PySem.Spec PyProof.Rows L2 TL
theorem par_some {s : Nat} : ∀ {l acc a b : List Nat}, par [s] acc l = some (a, b) → spl [s] 0 acc l = a :: spl [s] 0 [] b
  | [], _, _, _, h => by cases h
  | c :: r, acc, a, b, h => by
    rw [par] at h
    split at h
    · rename_i hp
      cases h
      exact spl_hit hp
    · rename_i hp
      rw [spl_miss (by simpa using hp)]
      exact par_some h
theorem par_none {s : Nat} : ∀ {l acc : List Nat}, par [s] acc l = none → spl [s] 0 acc l = [acc ++ l]
  | [], acc, _ => by rw [spl_nil, List.append_nil]
  | c :: r, acc, h => by
    rw [par] at h
    split at h
    · cases h
    · rename_i hp
      rw [spl_miss (by simpa using hp), par_none h, List.append_assoc]
      rfl
theorem spl_ne (S : List Nat) : ∀ (l : List Nat) (k : Nat) (acc : List Nat), spl S k acc l ≠ []
  | [], k, acc => by rw [spl_nil]; exact List.cons_ne_nil _ _
  | c :: r, k, acc => by
    cases k with
    | zero =>
      by_cases h : pre S (c :: r) = true
      · rw [spl_hit h]; exact List.cons_ne_nil _ _
      · rw [spl_miss (by simpa using h)]
        exact spl_ne S r 0 _
    | succ k => exact spl_ne S r k acc
theorem kind_min (x : Str) : ¬ Builtin.Str.strKind x < Builtin.Str.strKind " " := by
  have e : Builtin.Str.strKind " " = 1 := by decide +kernel
  rw [e]
  unfold Builtin.Str.strKind
  split
  · omega
  · split <;> omega
/-- the parts of a row, by its first blank -/
theorem split_blank (s : Str) : ((Txt.partition s " ").2.1 = " " ∧ ∃ r, r ≠ [] ∧ Txt.split s " " = (Txt.partition s " ").1 :: r) ∨ ((Txt.partition s " ").2.1 ≠ " " ∧ Txt.split s " " = [s]) := by
  have hs := split_spl s " " (by decide +kernel) (kind_min s)
  have e1 : tl (" " : Str) = [32] := by decide +kernel
  rw [e1] at hs
  rw [partition_par s " " (by decide +kernel), e1]
  cases hp : par [32] [] (tl s) with
  | some ab =>
    obtain ⟨a, b⟩ := ab
    rw [par_some hp] at hs
    refine .inl ⟨rfl, ?_⟩
    cases hw : Txt.split s " " with
    | nil => rw [hw] at hs; cases hs
    | cons w r =>
      rw [hw, List.map_cons] at hs
      injection hs with h1 h2
      refine ⟨r, fun z => ?_, ?_⟩
      · rw [z] at h2
        exact spl_ne _ _ _ _ h2.symm
      · have : w = (⟨a.toArray⟩ : Str) := Str.ext' (Array.toList_inj.mp h1)
        rw [this]
  | none =>
    rw [par_none hp] at hs
    refine .inr ⟨?_, ?_⟩
    · show Str.empty ≠ " "
      decide +kernel
    cases hw : Txt.split s " " with
    | nil => rw [hw] at hs; cases hs
    | cons w r =>
      rw [hw, List.map_cons] at hs
      injection hs with h1 h2
      have hr : r = [] := List.map_eq_nil_iff.mp h2
      have : w = s := TL.ext_tl h1
      rw [hr, this]
def bareW : List Str := ["undo", "list", "apart", "room", "first", "bounds", "middle"]
section
variable (w : Str) (n : Nat) (d : Int) (rs : List (List Int)) (ss : List (List (List Int)))
theorem bare_none {row : Str} (h : ¬ row ∈ bareW) : bareO w n d rs ss row = none := by
  simp only [bareW, List.mem_cons, List.not_mem_nil, or_false, not_or] at h
  obtain ⟨h1, h2, h3, h4, h5, h6, h7⟩ := h
  unfold bareO
  rw [if_neg h1, if_neg h2, if_neg h3, if_neg h4, if_neg h5, if_neg h6, if_neg h7]
end
end Fo
namespace Fo
open PySem PySem.Spec PyProof.Rows L2 TL
theorem par_head {t : List Nat} : ∀ {h acc : List Nat}, 32 ∉ h → par [32] acc (h ++ 32 :: t) = some (acc ++ h, t)
  | [], acc, _ => by
    show par [32] acc (32 :: t) = _
    rw [par, if_pos (by simp [pre]), List.append_nil]
    rfl
  | c :: h, acc, n => by
    have n1 : c ≠ 32 := fun z => n (by rw [z]; exact List.mem_cons_self)
    show par [32] acc (c :: (h ++ 32 :: t)) = _
    rw [par, if_neg (by simp [pre]; exact fun z => n1 z), par_head (fun z => n (List.mem_cons_of_mem _ z)), List.append_assoc]
    rfl
theorem tl_app3 (a b c : Str) : tl (a ++ b ++ c) = tl a ++ (tl b ++ tl c) := by
  rw [tl_app, tl_app, List.append_assoc]
/-- a row of a head and a text behind a blank -/
theorem head_part {hd t : Str} (h : 32 ∉ tl hd) : Txt.partition (hd ++ " " ++ t) " " = (hd, (" " : Str), t) := by
  rw [partition_par _ " " (by decide +kernel), show tl (" " : Str) = [32] by decide +kernel, tl_app3, show tl (" " : Str) = [32] by decide +kernel]
  show (match par [32] [] (tl hd ++ 32 :: tl t) with | some (a, b) => ((⟨a.toArray⟩ : Str), (" " : Str), (⟨b.toArray⟩ : Str)) | none => _) = _
  rw [par_head h]
  show ((⟨([] ++ tl hd).toArray⟩ : Str), (" " : Str), (⟨(tl t).toArray⟩ : Str)) = _
  rw [List.nil_append]
theorem bare_free : ∀ row ∈ bareW, 32 ∉ tl row := by decide +kernel
theorem head_bare {hd t : Str} : ¬ (hd ++ " " ++ t) ∈ bareW := fun m => by
  refine bare_free _ m ?_
  rw [tl_app3, show tl (" " : Str) = [32] by decide +kernel]
  exact List.mem_append_right _ List.mem_cons_self
section
variable {w : Str} {n : Nat} {d : Int} {rs : List (List Int)} {ss : List (List (List Int))}
theorem head_say {hd t : Str} {k : Nat} (h : 32 ∉ tl hd) (hk : headK hd = some k) : sayO w n d rs ss (.str (hd ++ " " ++ t)) = (match rdF t with
    | none => .no 6
    | some xs => ordO w n d rs ss k xs) := by
  show sayT w n d rs ss (hd ++ " " ++ t) = _
  unfold sayT
  rw [bare_none w n d rs ss head_bare, head_part h]
  show (match (if (" " : Str) = " " then headK hd else none) with
    | some k => (match rdF t with
      | none => SayO.no 6
      | some xs => ordO w n d rs ss k xs)
    | none => numO w n d rs (Txt.split (hd ++ " " ++ t) " ")) = _
  rw [if_pos rfl, hk]
theorem come_row {t : Str} : sayO w n d rs ss (.str ("come" ++ " " ++ t)) = (match rdF t with
    | none => .no 6
    | some xs => ordO w n d rs ss 0 xs) := head_say (by decide +kernel) rfl
theorem dec_sign99 : ∀ k : Nat, k ≤ 99 → 32 ∉ tl (decT (k : Int)) := by decide +kernel
theorem ways_sign : ∀ w ∈ ways10, 32 ∉ tl w ∧ w ≠ "" := by decide +kernel
theorem num_dec {k : Nat} (h : k ≤ 99) : numL (decT (k : Int)) = some k := numL_dec (by omega)
theorem row_split {v : Str} {a b : Nat} (hv : v ∈ ways10) (ha : a ≤ 99) (hb : b ≤ 99) : Txt.split (rowN v a b) " " = [("lister" : Str), v, decT (a : Int), decT (b : Int)] := by
  refine split_join (y := " ") (s := 32) (S := []) rfl (by decide +kernel) (List.cons_ne_nil _ _) fun p hp hc => ?_
  simp only [List.mem_cons, List.not_mem_nil, or_false] at hp
  rcases hp with rfl | rfl | rfl | rfl
  · exact absurd hc (by decide +kernel)
  · exact (ways_sign _ hv).1 hc
  · exact dec_sign99 a ha hc
  · exact dec_sign99 b hb hc
theorem bare_split : ∀ row ∈ bareW, (Txt.split row " ").length = 1 := by decide +kernel
open Classical in
theorem new_say {v : Str} {a b : Nat} (hv : v ∈ ways10) (ha : a ≤ 99) (hb : b ≤ 99) : sayO w n d rs ss (.str (rowN v a b)) = (if v = "swap" ∨ v = "spot" ∨ v = "shift" then (if 1 ≤ a ∧ a ≤ 8 ∧ 1 ≤ b then SayO.new v a b else .no 4) else .no 1) := by
  have hs := row_split hv ha hb
  have hb0 : ¬ rowN v a b ∈ bareW := fun m => by
    have := bare_split _ m
    rw [hs] at this
    cases this
  show sayT w n d rs ss (rowN v a b) = _
  unfold sayT
  rw [bare_none w n d rs ss hb0, hs]
  have hk : (if (Txt.partition (rowN v a b) " ").2.1 = " " then headK (Txt.partition (rowN v a b) " ").1 else none) = none := by
    rcases split_blank (rowN v a b) with ⟨h1, r, hr, h2⟩ | ⟨h1, h2⟩
    · rw [hs] at h2
      injection h2 with h3 h4
      rw [if_pos h1, ← h3]
      rfl
    · rw [if_neg h1]
  rw [hk]
  show (if ("lister" : Str) = "lister" ∧ v ≠ "" then (match numL (decT (a : Int)), numL (decT (b : Int)) with
      | some n1, some d1 => if v = "swap" ∨ v = "spot" ∨ v = "shift" then (if 1 ≤ n1 ∧ n1 ≤ 8 ∧ 1 ≤ d1 then SayO.new v n1 d1 else .no 4) else .no 1
      | _, _ => .no 8) else .no 8) = _
  rw [if_pos ⟨rfl, (ways_sign v hv).2⟩, num_dec ha, num_dec hb]
end
end Fo
namespace Fo
open PySem PySem.Spec PyProof.Rows L2
section
variable {CD CL Pt : Addr} {H H' : Hp} {b a e : Addr} {X : List Addr} {w : Str} {n : Nat} {d : Int} {rs rs' : List (List Int)} {ss ss' : List (List (List Int))}
theorem DAt.growL {ys : List Addr} (h : DAt CD CL Pt H b a e X w n d rs ss) (s : Same H H') (ny : ∀ y ∈ ys, H y = none ∧ ∃ o, H' y = some o) : DAt CD CL Pt H' b a e (ys ++ X) w n d rs ss := by
  have h2 := h.same s
  obtain ⟨⟨dx, t, ha⟩, xs, he⟩ := h.ea
  obtain ⟨db, hb⟩ := h.D
  exact ⟨h2.D, h.L.growL s ny, h2.T, h.le, h.ls, h.nd, fun z => (List.mem_append.mp z).elim (fun z => ne_of_none ha (ny _ z).1 rfl) h.aX, fun z => (List.mem_append.mp z).elim (fun z => ne_of_none hb (ny _ z).1 rfl) h.bX⟩
/-- cells that the desk knows of and does not own may change -/
theorem DAt.outs {Y : List Addr} (h : DAt CD CL Pt H b a e X w n d rs ss) (k : ∀ x o, H x = some o → x ∉ Y → H' x = some o) (hy : ∀ y ∈ Y, y ∈ X) (he : e ∉ Y) (tY : ∀ y ∈ Y, ∃ o, H' y = some o) (tt : ∀ y ∈ Y, ∀ p, H y ≠ some (.tbl p)) : DAt CD CL Pt H' b a e X w n d rs ss := by
  obtain ⟨db, hb⟩ := h.D
  obtain ⟨q, hq, ok⟩ := h.T
  exact ⟨⟨db, k _ _ hb fun z => h.bX (hy _ z)⟩, h.L.outY (Y := fun y => y ∈ Y) k hy (fun z => h.aX (hy _ z)) he (fun y _ m => tY y m), ⟨q, k _ _ hq fun z => tt _ z _ hq, ok⟩, h.le, h.ls, h.nd, h.aX, h.bX⟩
theorem DAt.neL {x : Addr} {xs : List V} (h : DAt CD CL Pt H b a e X w n d rs ss) (hx : H x = some (.lst xs)) : x ≠ a ∧ x ≠ b := by
  obtain ⟨⟨dx, t, ha⟩, _⟩ := h.ea
  obtain ⟨db, hb⟩ := h.D
  exact ⟨fun z => (by rw [z, ha] at hx; cases hx), fun z => (by rw [z, hb] at hx; cases hx)⟩
end
theorem St82.kpl {H H' : Hp} {CD CL Pt st O D b a e : Addr} {X : List Addr} {w w' : Str} {n n' : Nat} {d d' : Int} {ps : List (Addr × List Int)} {ts : List Deed} {rs : List (List Int)} {ss : List (List (List Int))} (S : St82 H st O D w n d ps ts) (h : DAt CD CL Pt H b a e X w' n' d' rs ss) (k : KpL a e H H') (eO : e ≠ O) (eD : e ≠ D) : St82 H' st O D w n d ps ts := by
  obtain ⟨dx, t, qs, sk, ha, he, _⟩ := h.L.ex
  have ka : ∀ {x : Addr} {xs : List V}, H x = some (.lst xs) → x ≠ a := fun hx z => by rw [z, ha] at hx; cases hx
  have ki : ∀ {x : Addr} {m : Nat} {xs : List Int}, H x = some (.lst (xs.map V.int)) → IsOrd m xs → 1 ≤ m → x ≠ e := fun {x m xs} hx o hm z => by
    rw [z, he] at hx
    injection hx with hx
    injection hx with hx
    have hl := o.len
    cases xs with
    | nil => simp at hl; omega
    | cons y ys =>
      cases sk with
      | nil => cases hx
      | cons q r => cases hx
  have hst : st ≠ e := fun z => by
    have h1 := S.hs
    rw [z, he] at h1
    cases sk with
    | nil => cases h1
    | cons q r => cases h1
  have htp : ∀ {x : Addr} {xs : List V}, H x = some (.tup xs) → x ≠ a ∧ x ≠ e := fun hx => ⟨fun z => (by rw [z, ha] at hx; cases hx), fun z => (by rw [z, he] at hx; cases hx)⟩
  refine ⟨k _ _ S.hs (ka S.hs) hst, ⟨k _ _ S.hO.1 (ka S.hO.1) eO.symm, fun p m => k _ _ (S.hO.2 p m) (ka (S.hO.2 p m)) (ki (S.hO.2 p m) (S.ord p m) S.n1)⟩, k _ _ S.hD (ka S.hD) eD.symm, fun t m => ⟨k _ _ (S.ht t m).1 (htp (S.ht t m).1).1 (htp (S.ht t m).1).2, k _ _ (S.ht t m).2 (ka (S.ht t m).2) (ki (S.ht t m).2 (S.ort t m) S.n1)⟩, S.wy, S.n1, S.n8, S.d1, S.ord, S.ort, S.le, S.lt, S.sO, S.sD, S.OD, S.pO, S.tO⟩
end Fo
namespace Fo
open PySem PySem.Spec PyProof.Rows L2
/-- what is written of an order is read as it -/
theorem rdP_wr86 {n : Nat} {xs : List Int} (o : IsOrd n xs) (h1 : 1 ≤ n) (h2 : n ≤ 12) : RdP (wrT xs) xs := by
  have hn := o.len
  refine ⟨?_, by rw [hn]; exact o, by rw [hn]; exact h1, by rw [hn]; exact h2⟩
  rw [split_wr o h1 h2, List.map_map]
  refine List.map_congr_left fun x hx => ?_
  have hb := o.mem hx
  obtain ⟨k, rfl⟩ := Int.eq_ofNat_of_zero_le hb.1
  show optD (numP (decT (k : Int))) = _
  rw [numP_L.mpr ⟨numL_dec (by omega), by omega⟩]
  rfl
end Fo
namespace Fo
open PySem PySem.Spec PyProof.Rows L2 TL
/-! k85: rows that are refused, whatever stands -/
def noNum : List Str → Bool
  | [s, e] => decide (s ≠ "sure") || (numL e).isNone
  | [s, w, n, d] => decide (s ≠ "lister") || decide (w = "") || (numL n).isNone || (numL d).isNone
  | _ => true
/-- no row of a word and an order -/
def noHd (row : Str) : Bool := decide (row ∉ bareW) && (decide ((Txt.partition row " ").2.1 ≠ " ") || (headK (Txt.partition row " ").1).isNone)
def noRw (row : Str) : Bool := noHd row && noNum (Txt.split row " ")
def lsNo : List Str → Nat
  | [s, v, a, b] => if s = "lister" ∧ v ≠ "" then (match numL a, numL b with
    | some x, some y => if v = "swap" ∨ v = "spot" ∨ v = "shift" then (if 1 ≤ x ∧ x ≤ 8 ∧ 1 ≤ y then 9 else 4) else 1
    | _, _ => 9) else 9
  | _ => 9
def isLs (row : Str) (i : Nat) : Bool := noHd row && decide (i < 9) && decide (lsNo (Txt.split row " ") = i)
def isSu (row : Str) : Bool := noHd row && (match Txt.split row " " with
  | [s, e] => decide (s = "sure") && (numL e).isSome
  | _ => false)
def rdBad (t : Str) : Bool := (Txt.split t " ").any (fun w => (numP w).isNone) || decide (¬ (((Txt.split t " ").filterMap numP).map fun k : Nat => (k : Int)).Perm (rg (Txt.split t " ").length)) || decide (12 < (Txt.split t " ").length)
section
variable {w : Str} {n : Nat} {d : Int} {rs : List (List Int)} {ss : List (List (List Int))} {row : Str} {i : Nat}
theorem no_hd (h : noHd row = true) : sayO w n d rs ss (.str row) = numO w n d rs (Txt.split row " ") := by
  unfold noHd at h
  obtain ⟨h1, h2⟩ := Bool.and_eq_true_iff.mp h
  show sayT w n d rs ss row = _
  unfold sayT
  rw [bare_none w n d rs ss (of_decide_eq_true h1)]
  have : (if (Txt.partition row " ").2.1 = " " then headK (Txt.partition row " ").1 else none) = none := by
    rcases Bool.or_eq_true_iff.mp h2 with h2 | h2
    · rw [if_neg (of_decide_eq_true h2)]
    · split
      · exact Option.isNone_iff_eq_none.mp h2
      · rfl
  rw [this]
theorem no_num {ws : List Str} (h : noNum ws = true) : numO w n d rs ws = .no 8 := by
  match ws, h with
  | [], _ => rfl
  | [_], _ => rfl
  | [s, e], h =>
    show (if s = "sure" then _ else SayO.no 8) = _
    rcases Bool.or_eq_true_iff.mp h with h | h
    · rw [if_neg (of_decide_eq_true h)]
    · split
      · rw [Option.isNone_iff_eq_none.mp h]
      · rfl
  | [_, _, _], _ => rfl
  | [s, v, a, b], h =>
    show (if s = "lister" ∧ v ≠ "" then _ else SayO.no 8) = _
    have h : ((decide (s ≠ "lister") || decide (v = "")) || (numL a).isNone || (numL b).isNone) = true := h
    rcases Bool.or_eq_true_iff.mp h with h | h
    · rcases Bool.or_eq_true_iff.mp h with h | h
      · rcases Bool.or_eq_true_iff.mp h with h | h
        · rw [if_neg (fun z => of_decide_eq_true h z.1)]
        · rw [if_neg (fun z => z.2 (of_decide_eq_true h))]
      · split
        · rw [Option.isNone_iff_eq_none.mp h]
        · rfl
    · split
      · rw [Option.isNone_iff_eq_none.mp h]
        cases numL a <;> rfl
      · rfl
  | _ :: _ :: _ :: _ :: _ :: _, _ => rfl
theorem no_rw (h : noRw row = true) : sayO w n d rs ss (.str row) = .no 8 := by
  obtain ⟨h1, h2⟩ := Bool.and_eq_true_iff.mp h
  rw [no_hd h1, no_num h2]
theorem is_ls (h : isLs row i = true) : sayO w n d rs ss (.str row) = .no i := by
  obtain ⟨h1, h3⟩ := Bool.and_eq_true_iff.mp h
  obtain ⟨h1, h2⟩ := Bool.and_eq_true_iff.mp h1
  have h2 := of_decide_eq_true h2
  have h3 := of_decide_eq_true h3
  rw [no_hd h1]
  generalize Txt.split row " " = ws at h3
  match ws, h3 with
  | [], h3 => exact absurd h3 (by show ¬ 9 = i; omega)
  | [_], h3 => exact absurd h3 (by show ¬ 9 = i; omega)
  | [_, _], h3 => exact absurd h3 (by show ¬ 9 = i; omega)
  | [_, _, _], h3 => exact absurd h3 (by show ¬ 9 = i; omega)
  | [s, v, a, b], h3 =>
    have h3 : (if s = "lister" ∧ v ≠ "" then (match numL a, numL b with
      | some x, some y => if v = "swap" ∨ v = "spot" ∨ v = "shift" then (if 1 ≤ x ∧ x ≤ 8 ∧ 1 ≤ y then 9 else 4) else 1
      | _, _ => 9) else 9) = i := h3
    show (if s = "lister" ∧ v ≠ "" then (match numL a, numL b with
      | some n1, some d1 => if v = "swap" ∨ v = "spot" ∨ v = "shift" then (if 1 ≤ n1 ∧ n1 ≤ 8 ∧ 1 ≤ d1 then SayO.new v n1 d1 else .no 4) else .no 1
      | _, _ => .no 8) else .no 8) = _
    by_cases c : s = "lister" ∧ v ≠ ""
    · rw [if_pos c] at h3 ⊢
      cases hx : numL a with
      | none => rw [hx] at h3; exact absurd h3 (by show ¬ 9 = i; omega)
      | some x =>
        cases hy : numL b with
        | none => rw [hx, hy] at h3; exact absurd h3 (by show ¬ 9 = i; omega)
        | some y =>
          rw [hx, hy] at h3
          have h3 : (if v = "swap" ∨ v = "spot" ∨ v = "shift" then (if 1 ≤ x ∧ x ≤ 8 ∧ 1 ≤ y then 9 else 4) else 1) = i := h3
          show (if v = "swap" ∨ v = "spot" ∨ v = "shift" then (if 1 ≤ x ∧ x ≤ 8 ∧ 1 ≤ y then SayO.new v x y else .no 4) else .no 1) = _
          by_cases c2 : v = "swap" ∨ v = "spot" ∨ v = "shift"
          · rw [if_pos c2] at h3 ⊢
            by_cases c3 : 1 ≤ x ∧ x ≤ 8 ∧ 1 ≤ y
            · rw [if_pos c3] at h3
              omega
            · rw [if_neg c3] at h3 ⊢
              rw [h3]
          · rw [if_neg c2] at h3 ⊢
            rw [h3]
    · rw [if_neg c] at h3
      omega
  | _ :: _ :: _ :: _ :: _ :: _, h3 => exact absurd h3 (by show ¬ 9 = i; omega)
/-- how sure: no list, more than six things -/
theorem is_su (h : isSu row = true) : (rs = [] → sayO w n d rs ss (.str row) = .no 0) ∧ (rs ≠ [] → 6 < n → sayO w n d rs ss (.str row) = .no 2) := by
  obtain ⟨h1, h3⟩ := Bool.and_eq_true_iff.mp h
  rw [no_hd h1]
  generalize Txt.split row " " = ws at h3
  match ws, h3 with
  | [s, e], h3 =>
    obtain ⟨h3, h4⟩ := Bool.and_eq_true_iff.mp h3
    obtain ⟨k, hk⟩ := Option.isSome_iff_exists.mp h4
    have e1 : numO w n d rs [s, e] = (if rs = [] then .no 0 else if 6 < n then .no 2 else .hard) := by
      show (if s = "sure" then (match numL e with
        | none => SayO.no 8
        | some k => if rs = [] then .no 0 else if 6 < n then .no 2 else .hard) else .no 8) = _
      rw [if_pos (of_decide_eq_true h3), hk]
    rw [e1]
    exact ⟨fun c => if_pos c, fun c c2 => by rw [if_neg c, if_pos c2]⟩
theorem rd_bad {t : Str} (h : rdBad t = true) : ¬ ∃ xs, RdP t xs := by
  rintro ⟨xs, e, o, l1, l2⟩
  have len : (Txt.split t " ").length = xs.length := by
    have := congrArg List.length e
    rw [List.length_map, List.length_map] at this
    exact this
  have key : ∀ (ws : List Str) (xs : List Int), ws.map (fun w => optD (numP w)) = xs.map PyData.int → (∀ w ∈ ws, (numP w).isNone = false) ∧ (ws.filterMap numP).map (fun k : Nat => (k : Int)) = xs := fun ws => by
    induction ws with
    | nil =>
      intro xs e
      cases xs with
      | nil => exact ⟨fun _ m => absurd m List.not_mem_nil, rfl⟩
      | cons _ _ => cases e
    | cons w ws ih =>
      intro xs e
      cases xs with
      | nil => cases e
      | cons x xs =>
        rw [List.map_cons, List.map_cons] at e
        injection e with e1 e2
        obtain ⟨i1, i2⟩ := ih xs e2
        cases hw : numP w with
        | none => rw [hw] at e1; cases e1
        | some k =>
          rw [hw] at e1
          have e1 : PyData.int (k : Int) = PyData.int x := e1
          injection e1 with e1
          refine ⟨fun v m => ?_, ?_⟩
          · rcases List.mem_cons.mp m with rfl | m
            · rw [hw]; rfl
            · exact i1 v m
          · rw [List.filterMap_cons_some hw, List.map_cons, i2, e1]
  obtain ⟨k1, k2⟩ := key _ _ e
  unfold rdBad at h
  rcases Bool.or_eq_true_iff.mp h with h | h
  · rcases Bool.or_eq_true_iff.mp h with h | h
    · obtain ⟨v, m, hv⟩ := List.any_eq_true.mp h
      rw [k1 v m] at hv
      cases hv
    · have h := of_decide_eq_true h
      rw [k2, len] at h
      exact h o
  · have h := of_decide_eq_true h
    omega
end
/-- a writing, as it is read -/
def rdGood (t : Str) (xs : List Int) : Bool := decide (t = wrT xs) && decide (xs.Perm (rg xs.length)) && decide (1 ≤ xs.length) && decide (xs.length ≤ 12)
theorem rd_goodW {t : Str} {xs : List Int} (h : rdGood t xs = true) : rdF t = some xs := by
  unfold rdGood at h
  obtain ⟨h, h4⟩ := Bool.and_eq_true_iff.mp h
  obtain ⟨h, h3⟩ := Bool.and_eq_true_iff.mp h
  obtain ⟨h1, h2⟩ := Bool.and_eq_true_iff.mp h
  rw [of_decide_eq_true h1]
  exact rdF_some (rdP_wr86 (show IsOrd xs.length xs from of_decide_eq_true (p := xs.Perm (rg xs.length)) h2) (of_decide_eq_true h3) (of_decide_eq_true h4))
def noRows : List Str := (["", " ", "lister", "lister swap", "lister swap 3", "lister swap 3 01", "lister jump 03 1", "lister  3 1"] : List Str) ++ (["lister swap 100 1", "lister swap 3 1 1", "lister jump x 1", "come", "drop", "near", "undo 1"] : List Str) ++ (["sure", "sure 00", "sure x", "sure -1", "sure 100", "sure 1 1", "list ", "apart 0", "room 1"] : List Str) ++ (["first 0 1", "bounds swap", "middle 1", "Undo", "lister swap 3 1\n", "come\n0 1 2", "size", "sure \n", "lister swap -3 1"] : List Str)
theorem no_rows : ∀ r ∈ noRows, noRw r = true ∧ r.length ≤ 10000 := by decide +kernel
def wayRows : List Str := ["lister jump 3 1", "lister jump 0 0", "lister Swap 99 1", "lister swaps 3 0", "lister 3 3 1", "lister swap, 3 1"]
theorem way_rows : ∀ r ∈ wayRows, isLs r 1 = true ∧ r.length ≤ 10000 := by decide +kernel
def numRows : List Str := ["lister swap 0 1", "lister spot 9 1", "lister shift 3 0", "lister swap 99 0", "lister spot 0 0", "lister shift 12 3"]
theorem num_rows : ∀ r ∈ numRows, isLs r 4 = true ∧ r.length ≤ 10000 := by decide +kernel
def txtRows : List Str := (["", " ", "0 1 1", "1 2 3", "x", "0,1,2", "0 1 2 "] : List Str) ++ ([" 0 1 2", "0  1 2", "0 1 2, 1 0 2", "-", "0 01 2", "0 1 3"] : List Str) ++ (["0 1 2 3 4 5 6 7 8 9 10 11 12", "0 1 2\n", "0 -1", "+0", "0 1 2 4", "1", "0 2"] : List Str)
theorem txt_rows : ∀ r ∈ txtRows, rdBad r = true ∧ r.length ≤ 1000 := by decide +kernel
end Fo
namespace Fo
open PySem PySem.Spec PyProof.Rows L2
/-- a row that is refused by the i-th class, whatever stands -/
def RefAt (G : Hp) (v : V) (i : Nat) : Prop := ∃ dat, Dq G v dat ∧ (∀ s, dat = .str s → s.length ≤ 10000) ∧ ∀ w n d rs ss, sayO w n d rs ss dat = .no i
theorem RefAt.same {G G' : Hp} {v : V} {i : Nat} (h : RefAt G v i) (s : Same G G') : RefAt G' v i := by
  obtain ⟨dat, a, b⟩ := h
  exact ⟨dat, a.same s, b⟩
theorem ref_str {G : Hp} {t : Str} {i : Nat} (hl : t.length ≤ 10000) (h : ∀ w n d rs ss, sayO w n d rs ss (.str t) = .no i) : RefAt G (.str t) i := ⟨.str t, .str t, fun s e => by injection e with e; rw [← e]; exact hl, h⟩
def spRef85 (i : Nat) : Sp := fun vs H Q _ => ∃ (d : Addr), vs = [.ref d] ∧ PoolAt H d ∧ ∀ (v : V) (G : Hp), (∀ G', KeepD d G G' → RefAt G' v i) → PoolAt G d → KeepD d H G → Q v G
theorem cat_lit {G : Hp} {l : Addr} {xs zs : List V} {R : VK} (hl : G l = some (.lst xs)) (h1 : zs.length ≤ sizeLine) (h2 : xs.length + zs.length ≤ sizeLine) (q : ∀ z G', G' z = some (.lst (xs ++ zs)) → Same G G' → G z = none → R (.ref z) G') : zs.length ≤ sizeLine ∧ ∀ p, G p = none → rCat (.ref l) (.ref p) (upd G p (.lst zs)) R := by
  refine ⟨h1, fun p np => ⟨l, p, xs, zs, rfl, rfl, same_new np _ _ hl, upd_same, h2, fun z nz => q z _ upd_same ((same_new np).trans (same_new nz)) ((same_new np).free nz)⟩⟩
section
variable {P : Program} {w : World} {K : PySem.W.Frag} {mg : Str → Option Value} {base : Heap}
theorem scNwy : FnScope ["pool", "rows"] ["pool"] (defScope s_law_no_way) := ⟨rfl, rfl, rfl, by decide +kernel, rfl, by decide +kernel, by decide +kernel⟩
set_option maxHeartbeats 2000000 in
theorem ok_noway85 {f f1 : Addr} {fd d1 : FuncData} {k : Nat} (T : Df K mg "_law_no_way" s_law_no_way ["pool"] f fd) (T__law_draw : Df K mg "_law_draw" s_law_draw ["pool", "many"] f1 d1) (G__law_draw : FnOk P w K mg base CX0 k f1 d1 ["pool", "many"] spDrawP) (B : Bi mg) : FnOk P w K mg base CX0 (k + 1) f fd ["pool"] (spRef85 1) := by
  refine T.F.ok scNwy (fun vs H Q E h => ?_) (fun cdv A outer s H vs Q E hr h => ?_)
  · obtain ⟨d, rfl, _⟩ := h
    rfl
  · obtain ⟨d, rfl, P0, q⟩ := h
    refine ⟨_, 
      (pss_cons (ps_set (i := 1) scNwy.nd rfl (.inl rfl) (pe_lst (pa_cons pe_str (pa_cons pe_str (pa_cons pe_str pa_nil)))))
      (pss_cons (ps_set (i := 1) scNwy.nd rfl (.inl rfl) (pe_op op_cat (pv 1) (pe_lst (pa_cons pe_str (pa_cons pe_str (pa_cons pe_str pa_nil))))))
      (pss_one (ps_ret (pe_ix ix_list (pv 1) (pe_call G__law_draw hr (by rfl) T__law_draw.g T__law_draw.F.kp T__law_draw.b .nil pass0 (pa_cons (pv 0) (pa_cons pe_int pa_nil))) (fun _ _ => rfl)))))), ?_⟩
    refine ⟨line_small (by show 3 ≤ 16777216; decide), fun p np => ?_⟩
    have hp := @upd_same H p (.lst [.str "lister jump 3 1", .str "lister jump 0 0", .str "lister Swap 99 1"])
    have sp := same_new (o := .lst [.str "lister jump 3 1", .str "lister jump 0 0", .str "lister Swap 99 1"]) np
    have P1 := P0.same sp
    generalize upd H p (.lst [.str "lister jump 3 1", .str "lister jump 0 0", .str "lister Swap 99 1"]) = H1 at hp sp P1 ⊢
    refine ⟨_, rfl, cat_lit hp (line_small (by show 3 ≤ 16777216; decide)) (line_small (by show 3 + 3 ≤ 16777216; decide)) fun z H2 hz s2 nz => ?_⟩
    have P2 := P1.same s2
    have zd := P1.ne nz
    refine ⟨_, rfl, _, rfl, d, 6, rfl, P2, by decide, by decide, fun v H3 v0 v1 P3 k3 => ?_⟩
    have hz3 : H3 z = some (.lst (wayRows.map V.str)) := k3 _ _ hz zd
    obtain ⟨r, mr, er⟩ := atS (ys := wayRows) v0 (by show v < 6; exact v1)
    refine ⟨z, _, v, .str r, rfl, rfl, SqL.of hz3, er, ?_⟩
    have h1 := way_rows r mr
    exact q _ _ (fun G' _ => ref_str h1.2 fun _ _ _ _ _ => is_ls h1.1) P3 (((KeepD.of_same (sp.trans s2))).trans k3)
theorem scNnm : FnScope ["pool", "rows"] ["pool"] (defScope s_law_no_number) := ⟨rfl, rfl, rfl, by decide +kernel, rfl, by decide +kernel, by decide +kernel⟩
set_option maxHeartbeats 2000000 in
theorem ok_nonum85 {f f1 : Addr} {fd d1 : FuncData} {k : Nat} (T : Df K mg "_law_no_number" s_law_no_number ["pool"] f fd) (T__law_draw : Df K mg "_law_draw" s_law_draw ["pool", "many"] f1 d1) (G__law_draw : FnOk P w K mg base CX0 k f1 d1 ["pool", "many"] spDrawP) (B : Bi mg) : FnOk P w K mg base CX0 (k + 1) f fd ["pool"] (spRef85 4) := by
  refine T.F.ok scNnm (fun vs H Q E h => ?_) (fun cdv A outer s H vs Q E hr h => ?_)
  · obtain ⟨d, rfl, _⟩ := h
    rfl
  · obtain ⟨d, rfl, P0, q⟩ := h
    refine ⟨_, 
      (pss_cons (ps_set (i := 1) scNnm.nd rfl (.inl rfl) (pe_lst (pa_cons pe_str (pa_cons pe_str (pa_cons pe_str pa_nil)))))
      (pss_cons (ps_set (i := 1) scNnm.nd rfl (.inl rfl) (pe_op op_cat (pv 1) (pe_lst (pa_cons pe_str (pa_cons pe_str (pa_cons pe_str pa_nil))))))
      (pss_one (ps_ret (pe_ix ix_list (pv 1) (pe_call G__law_draw hr (by rfl) T__law_draw.g T__law_draw.F.kp T__law_draw.b .nil pass0 (pa_cons (pv 0) (pa_cons pe_int pa_nil))) (fun _ _ => rfl)))))), ?_⟩
    refine ⟨line_small (by show 3 ≤ 16777216; decide), fun p np => ?_⟩
    have hp := @upd_same H p (.lst [.str "lister swap 0 1", .str "lister spot 9 1", .str "lister shift 3 0"])
    have sp := same_new (o := .lst [.str "lister swap 0 1", .str "lister spot 9 1", .str "lister shift 3 0"]) np
    have P1 := P0.same sp
    generalize upd H p (.lst [.str "lister swap 0 1", .str "lister spot 9 1", .str "lister shift 3 0"]) = H1 at hp sp P1 ⊢
    refine ⟨_, rfl, cat_lit hp (line_small (by show 3 ≤ 16777216; decide)) (line_small (by show 3 + 3 ≤ 16777216; decide)) fun z H2 hz s2 nz => ?_⟩
    have P2 := P1.same s2
    have zd := P1.ne nz
    refine ⟨_, rfl, _, rfl, d, 6, rfl, P2, by decide, by decide, fun v H3 v0 v1 P3 k3 => ?_⟩
    have hz3 : H3 z = some (.lst (numRows.map V.str)) := k3 _ _ hz zd
    obtain ⟨r, mr, er⟩ := atS (ys := numRows) v0 (by show v < 6; exact v1)
    refine ⟨z, _, v, .str r, rfl, rfl, SqL.of hz3, er, ?_⟩
    have h1 := num_rows r mr
    exact q _ _ (fun G' _ => ref_str h1.2 fun _ _ _ _ _ => is_ls h1.1) P3 (((KeepD.of_same (sp.trans s2))).trans k3)
theorem scNtx : FnScope ["pool", "head", "texts"] ["pool"] (defScope s_law_no_text) := ⟨rfl, rfl, rfl, by decide +kernel, rfl, by decide +kernel, by decide +kernel⟩
set_option maxHeartbeats 2000000 in
theorem ok_notext85 {f f1 : Addr} {fd d1 : FuncData} {k : Nat} (T : Df K mg "_law_no_text" s_law_no_text ["pool"] f fd) (T__law_draw : Df K mg "_law_draw" s_law_draw ["pool", "many"] f1 d1) (G__law_draw : FnOk P w K mg base CX0 k f1 d1 ["pool", "many"] spDrawP) (B : Bi mg) : FnOk P w K mg base CX0 (k + 1) f fd ["pool"] (spRef85 6) := by
  refine T.F.ok scNtx (fun vs H Q E h => ?_) (fun cdv A outer s H vs Q E hr h => ?_)
  · obtain ⟨d, rfl, _⟩ := h
    rfl
  · obtain ⟨d, rfl, P0, q⟩ := h
    refine ⟨_, 
      (pss_cons (ps_set (i := 1) scNtx.nd rfl (.inl rfl) (pe_ix ix_list (pe_lst (pa_cons pe_str (pa_cons pe_str (pa_cons pe_str pa_nil)))) (pe_call G__law_draw hr (by rfl) T__law_draw.g T__law_draw.F.kp T__law_draw.b .nil pass0 (pa_cons (pv 0) (pa_cons pe_int pa_nil))) (fun _ _ => rfl)))
      (pss_cons (ps_set (i := 2) scNtx.nd rfl (.inl rfl) (pe_lst (pa_cons pe_str (pa_cons pe_str (pa_cons pe_str (pa_cons pe_str (pa_cons pe_str (pa_cons pe_str (pa_cons pe_str pa_nil)))))))))
      (pss_cons (ps_set (i := 2) scNtx.nd rfl (.inl rfl) (pe_op op_cat (pv 2) (pe_lst (pa_cons pe_str (pa_cons pe_str (pa_cons pe_str (pa_cons pe_str (pa_cons pe_str (pa_cons pe_str pa_nil)))))))))
      (pss_cons (ps_set (i := 2) scNtx.nd rfl (.inl rfl) (pe_op op_cat (pv 2) (pe_lst (pa_cons pe_str (pa_cons pe_str (pa_cons pe_str (pa_cons pe_str (pa_cons pe_str (pa_cons pe_str (pa_cons pe_str pa_nil))))))))))
      (pss_one (ps_ret (pe_op op_add_str (pv 1) (pe_ix ix_list (pv 2) (pe_call G__law_draw hr (by rfl) T__law_draw.g T__law_draw.F.kp T__law_draw.b .nil pass0 (pa_cons (pv 0) (pa_cons pe_int pa_nil))) (fun _ _ => rfl))))))))), ?_⟩
    refine ⟨line_small (by show 3 ≤ 16777216; decide), fun p np => ?_⟩
    have hp := @upd_same H p (.lst [.str "come ", .str "drop ", .str "near "])
    have sp := same_new (o := .lst [.str "come ", .str "drop ", .str "near "]) np
    have P1 := P0.same sp
    have pd := P0.ne np
    generalize upd H p (.lst [.str "come ", .str "drop ", .str "near "]) = H1 at hp sp P1 ⊢
    refine ⟨_, rfl, d, 3, rfl, P1, by decide, by decide, fun v H2 v0 v1 P2 k2 => ?_⟩
    obtain ⟨hd, mh, eh⟩ := atS (ys := ["come ", "drop ", "near "]) v0 (by show v < 3; exact v1)
    refine ⟨p, _, v, .str hd, rfl, rfl, SqL.of (k2 _ _ hp pd), eh, ?_⟩
    refine ⟨line_small (by show 7 ≤ 16777216; decide), fun l nl => ?_⟩
    have hl := @upd_same H2 l (.lst [.str "", .str " ", .str "0 1 1", .str "1 2 3", .str "x", .str "0,1,2", .str "0 1 2 "])
    have sl := same_new (o := .lst [.str "", .str " ", .str "0 1 1", .str "1 2 3", .str "x", .str "0,1,2", .str "0 1 2 "]) nl
    have P3 := P2.same sl
    generalize upd H2 l (.lst [.str "", .str " ", .str "0 1 1", .str "1 2 3", .str "x", .str "0,1,2", .str "0 1 2 "]) = H3 at hl sl P3 ⊢
    refine ⟨_, rfl, cat_lit hl (line_small (by show 6 ≤ 16777216; decide)) (line_small (by show 7 + 6 ≤ 16777216; decide)) fun z1 H4 hz1 s4 nz1 => ?_⟩
    refine ⟨_, rfl, cat_lit hz1 (line_small (by show 7 ≤ 16777216; decide)) (line_small (by show 13 + 7 ≤ 16777216; decide)) fun z H5 hz s5 nz => ?_⟩
    have P5 := (P3.same s4).same s5
    have zd := (P3.same s4).ne nz
    refine ⟨_, rfl, _, rfl, _, rfl, d, 20, rfl, P5, by decide, by decide, fun u H6 u0 u1 P6 k6 => ?_⟩
    have hz6 : H6 z = some (.lst (txtRows.map V.str)) := k6 _ _ hz zd
    obtain ⟨t, mt, et⟩ := atS (ys := txtRows) u0 (by show u < 20; exact u1)
    have h1 := txt_rows t mt
    have l5 : hd.length = 5 := by
      simp only [List.mem_cons, List.not_mem_nil, or_false] at mh
      rcases mh with rfl | rfl | rfl <;> decide
    refine ⟨z, _, u, .str t, rfl, rfl, SqL.of hz6, et, hd, t, rfl, rfl, line_small (by rw [l5]; omega), ?_⟩
    have say : ∀ w n d rs ss, sayO w n d rs ss (.str (hd ++ t)) = .no 6 := fun w n d rs ss => by
      have hn := rdF_none (rd_bad h1.1)
      simp only [List.mem_cons, List.not_mem_nil, or_false] at mh
      rcases mh with rfl | rfl | rfl
      · rw [show (("come " : Str) ++ t) = "come" ++ " " ++ t by rw [show (("come" : Str) ++ " ") = "come " by decide +kernel], head_say (k := 0) (by decide +kernel) rfl, hn]
      · rw [show (("drop " : Str) ++ t) = "drop" ++ " " ++ t by rw [show (("drop" : Str) ++ " ") = "drop " by decide +kernel], head_say (k := 1) (by decide +kernel) rfl, hn]
      · rw [show (("near " : Str) ++ t) = "near" ++ " " ++ t by rw [show (("near" : Str) ++ " ") = "near " by decide +kernel], head_say (k := 2) (by decide +kernel) rfl, hn]
    exact q _ _ (fun G' _ => ref_str (by rw [app_len, l5]; omega) say) P6 ((((KeepD.of_same sp).trans k2).trans (KeepD.of_same (sl.trans (s4.trans s5)))).trans k6)
theorem scNrw : FnScope ["pool", "rows"] ["pool"] (defScope s_law_no_row) := ⟨rfl, rfl, rfl, by decide +kernel, rfl, by decide +kernel, by decide +kernel⟩
set_option maxHeartbeats 4000000 in
theorem ok_norow85 {f f1 : Addr} {fd d1 : FuncData} {k : Nat} (T : Df K mg "_law_no_row" s_law_no_row ["pool"] f fd) (T__law_draw : Df K mg "_law_draw" s_law_draw ["pool", "many"] f1 d1) (G__law_draw : FnOk P w K mg base CX0 k f1 d1 ["pool", "many"] spDrawP) (B : Bi mg) : FnOk P w K mg base CX0 (k + 1) f fd ["pool"] (spRef85 8) := by
  refine T.F.ok scNrw (fun vs H Q E h => ?_) (fun cdv A outer s H vs Q E hr h => ?_)
  · obtain ⟨d, rfl, _⟩ := h
    rfl
  · obtain ⟨d, rfl, P0, q⟩ := h
    refine ⟨_, 
      (pss_cons (ps_set (i := 1) scNrw.nd rfl (.inl rfl) (pe_lst (pa_cons pe_non (pa_cons pe_int (pa_cons (pe_lst (pa_cons pe_str pa_nil)) (pa_cons pe_str (pa_cons pe_str pa_nil)))))))
      (pss_cons (ps_set (i := 1) scNrw.nd rfl (.inl rfl) (pe_op op_cat (pv 1) (pe_lst (pa_cons pe_str (pa_cons pe_str (pa_cons pe_str (pa_cons pe_str (pa_cons pe_str pa_nil))))))))
      (pss_cons (ps_set (i := 1) scNrw.nd rfl (.inl rfl) (pe_op op_cat (pv 1) (pe_lst (pa_cons pe_str (pa_cons pe_str (pa_cons pe_str (pa_cons pe_str pa_nil)))))))
      (pss_cons (ps_set (i := 1) scNrw.nd rfl (.inl rfl) (pe_op op_cat (pv 1) (pe_lst (pa_cons pe_str (pa_cons pe_str (pa_cons pe_str (pa_cons pe_str pa_nil)))))))
      (pss_cons (ps_set (i := 1) scNrw.nd rfl (.inl rfl) (pe_op op_cat (pv 1) (pe_lst (pa_cons pe_str (pa_cons pe_str (pa_cons pe_str (pa_cons pe_str (pa_cons pe_str pa_nil))))))))
      (pss_cons (ps_set (i := 1) scNrw.nd rfl (.inl rfl) (pe_op op_cat (pv 1) (pe_lst (pa_cons pe_str (pa_cons pe_str (pa_cons pe_str (pa_cons pe_str (pa_cons pe_str pa_nil))))))))
      (pss_cons (ps_set (i := 1) scNrw.nd rfl (.inl rfl) (pe_op op_cat (pv 1) (pe_lst (pa_cons pe_str (pa_cons pe_str (pa_cons pe_str (pa_cons pe_str pa_nil)))))))
      (pss_cons (ps_set (i := 1) scNrw.nd rfl (.inl rfl) (pe_op op_cat (pv 1) (pe_lst (pa_cons pe_str (pa_cons pe_str (pa_cons pe_str (pa_cons pe_str pa_nil)))))))
      (pss_one (ps_ret (pe_ix ix_list (pv 1) (pe_call G__law_draw hr (by rfl) T__law_draw.g T__law_draw.F.kp T__law_draw.b .nil pass0 (pa_cons (pv 0) (pa_cons pe_int pa_nil))) (fun _ _ => rfl)))))))))))), ?_⟩
    refine ⟨line_small (by show 1 ≤ 16777216; decide), fun p np => ?_⟩
    have hp := @upd_same H p (.lst [.str "list"])
    have sp := same_new (o := .lst [.str "list"]) np
    have P1 := P0.same sp
    have pd := P0.ne np
    generalize upd H p (.lst [.str "list"]) = H1 at hp sp P1 ⊢
    refine ⟨line_small (by show 5 ≤ 16777216; decide), fun l nl => ?_⟩
    have hl := @upd_same H1 l (.lst [.non, .int 7, .ref p, .str "", .str " "])
    have sl := same_new (o := .lst [.non, .int 7, .ref p, .str "", .str " "]) nl
    generalize upd H1 l (.lst [.non, .int 7, .ref p, .str "", .str " "]) = G0 at hl sl ⊢
    refine ⟨_, rfl, cat_lit hl (line_small (by show 5 ≤ 16777216; decide)) (line_small (by show 5 + 5 ≤ 16777216; decide)) fun z0 G1 hz0 s0 nz0 => ?_⟩
    refine ⟨_, rfl, cat_lit hz0 (line_small (by show 4 ≤ 16777216; decide)) (line_small (by show 10 + 4 ≤ 16777216; decide)) fun z1 G2 hz1 s1 nz1 => ?_⟩
    refine ⟨_, rfl, cat_lit hz1 (line_small (by show 4 ≤ 16777216; decide)) (line_small (by show 14 + 4 ≤ 16777216; decide)) fun z2 G3 hz2 s2 nz2 => ?_⟩
    refine ⟨_, rfl, cat_lit hz2 (line_small (by show 5 ≤ 16777216; decide)) (line_small (by show 18 + 5 ≤ 16777216; decide)) fun z3 G4 hz3 s3 nz3 => ?_⟩
    refine ⟨_, rfl, cat_lit hz3 (line_small (by show 5 ≤ 16777216; decide)) (line_small (by show 23 + 5 ≤ 16777216; decide)) fun z4 G5 hz4 s4 nz4 => ?_⟩
    refine ⟨_, rfl, cat_lit hz4 (line_small (by show 4 ≤ 16777216; decide)) (line_small (by show 28 + 4 ≤ 16777216; decide)) fun z5 G6 hz5 s5 nz5 => ?_⟩
    refine ⟨_, rfl, cat_lit hz5 (line_small (by show 4 ≤ 16777216; decide)) (line_small (by show 32 + 4 ≤ 16777216; decide)) fun z6 G7 hz6 s6 nz6 => ?_⟩
    have sA : Same H1 G6 := sl.trans (s0.trans (s1.trans (s2.trans (s3.trans (s4.trans (s5))))))
    have sB := sA.trans s6
    have P7 := P1.same sB
    have zd := (P1.same sA).ne nz6
    have hp7 := sB _ _ hp
    refine ⟨_, rfl, _, rfl, d, 36, rfl, P7, by decide, by decide, fun v G8 v0 v1 P8 k8 => ?_⟩
    have hz8 : G8 z6 = some (.lst ([.non, .int 7, .ref p] ++ noRows.map V.str)) := k8 _ _ hz6 zd
    have hp8 := k8 _ _ hp7 pd
    have kk : KeepD d H G8 := (KeepD.of_same (sp.trans sB)).trans k8
    obtain ⟨j, rfl⟩ := Int.eq_ofNat_of_zero_le v0
    have hj : j < 36 := by omega
    by_cases c : j < 3
    · match j, c with
      | 0, _ => exact ⟨z6, _, 0, .non, rfl, rfl, SqL.of hz8, rfl, q _ _ (fun G' _ => ⟨_, .non, (fun s e => by cases e), fun _ _ _ _ _ => rfl⟩) P8 kk⟩
      | 1, _ => exact ⟨z6, _, 1, .int 7, rfl, rfl, SqL.of hz8, rfl, q _ _ (fun G' _ => ⟨_, .int 7, (fun s e => by cases e), fun _ _ _ _ _ => rfl⟩) P8 kk⟩
      | 2, _ => exact ⟨z6, _, 2, .ref p, rfl, rfl, SqL.of hz8, rfl, q _ _ (fun G' k' => ⟨_, .lst (k' _ _ hp8 pd) (.cons (.str _) .nil), (fun s e => by cases e), fun _ _ _ _ _ => rfl⟩) P8 kk⟩
    · obtain ⟨i, rfl⟩ : ∃ i, j = i + 3 := ⟨j - 3, by omega⟩
      have hi : i < noRows.length := by show i < 33; omega
      have er : atI (([.non, .int 7, .ref p] : List V) ++ noRows.map V.str) ((i + 3 : Nat) : Int) = some (.str noRows[i]) := atI_nat (by
        rw [List.getElem?_append_right (by show 3 ≤ i + 3; omega), show i + 3 - ([.non, .int 7, .ref p] : List V).length = i from Nat.add_sub_cancel i 3, List.getElem?_map, List.getElem?_eq_getElem hi]
        rfl)
      have h1 := no_rows noRows[i] (List.getElem_mem hi)
      exact ⟨z6, _, _, .str noRows[i], rfl, rfl, SqL.of hz8, er, q _ _ (fun G' _ => ref_str h1.2 fun _ _ _ _ _ => no_rw h1.1) P8 kk⟩
end
end Fo
namespace Fo
open PySem PySem.Spec PyProof.Rows L2 TL
/-- what is known of the desk by its number -/
def Cnd85 (c : Int) (w : Str) (n : Nat) (rs : List (List Int)) (ss : List (List (List Int))) : Prop :=
  if c = 0 then w = "swap" ∧ n = 3 ∧ rs = [] ∧ ss = []
  else if c = 1 then n = 3 ∧ rs ≠ [] ∧ ∀ r ∈ rs, IsOrd 3 r
  else if c = 2 then w = "shift" ∧ n = 7 ∧ rs ≠ [] ∧ rs.length ≤ 20 ∧ [6, 5, 4, 3, 2, 1, 0] ∉ rs
  else n = 4 ∧ 20 < rs.length ∧ ∀ r ∈ rs, IsOrd 4 r
def Els85 (c : Int) (due row : Str) : Prop := row.length ≤ 10000 ∧ due.length ≤ 10 ∧ ∃ i, due = nameD i ∧ ∀ w n d rs ss, Cnd85 c w n rs ss → sayO w n d rs ss (.str row) = .no i
section
variable {w : Str} {n : Nat} {d : Int} {rs : List (List Int)} {ss : List (List (List Int))} {row hd t : Str} {k : Nat} {xs : List Int}
theorem ord_row (e : row = hd ++ " " ++ t) (hk : headK hd = some k) (hb : 32 ∉ tl hd) (g : rdGood t xs = true) : sayO w n d rs ss (.str row) = ordO w n d rs ss k xs := by
  rw [e, head_say hb hk, rd_goodW g]
theorem ord_come (h : xs.length ≠ n) : ordO w n d rs ss 0 xs = .no 2 := by
  unfold ordO
  rw [if_pos rfl, if_pos h]
theorem ord_drop (h : xs ∉ rs) : ordO w n d rs ss 1 xs = .no 2 := by
  unfold ordO
  rw [if_neg (by decide), if_pos rfl, if_neg h]
theorem ord_near0 (h : rs = []) : ordO w n d rs ss 2 xs = .no 0 := by
  unfold ordO
  rw [if_neg (by decide), if_neg (by decide), if_pos h]
theorem ord_near (h : rs ≠ []) (h2 : xs.length ≠ n) : ordO w n d rs ss 2 xs = .no 2 := by
  unfold ordO
  rw [if_neg (by decide), if_neg (by decide), if_neg h, if_pos h2]
theorem say_mid : sayO w n d rs ss (.str "middle") = (if rs = [] ∨ 20 < rs.length then .no 0 else if n ≤ 6 ∨ w = "swap" then .hard else .no 5) := bare_say (by rfl)
theorem say_room : sayO w n d rs ss (.str "room") = (if n ≤ 6 then .hard else .no 5) := bare_say (by rfl)
theorem say_first : sayO w n d rs ss (.str "first") = (if n ≤ 6 then .hard else .no 5) := bare_say (by rfl)
theorem not_in {m : Nat} (h : ∀ r ∈ rs, IsOrd m r) (h2 : xs.length ≠ m) : xs ∉ rs := fun z => h2 (h _ z).len
end
theorem els_0_0 : Els85 0 "NoNumber" "undo" := ⟨by decide, by decide, 4, rfl, fun w n d rs ss h => by
  unfold Cnd85 at h
  rw [if_pos rfl] at h
  rw [h.2.2.2]; exact say_undo0⟩
theorem els_0_1 : Els85 0 "NoOrder" "near 0 1 2" := ⟨by decide, by decide, 0, rfl, fun w n d rs ss h => by
  unfold Cnd85 at h
  rw [if_pos rfl] at h
  rw [ord_row (hd := "near") (t := "0 1 2") (k := 2) (xs := [0, 1, 2]) (by decide +kernel) rfl (by decide +kernel) (by decide +kernel)]; exact ord_near0 h.2.2.1⟩
theorem els_0_2 : Els85 0 "NoOrder" "near 0" := ⟨by decide, by decide, 0, rfl, fun w n d rs ss h => by
  unfold Cnd85 at h
  rw [if_pos rfl] at h
  rw [ord_row (hd := "near") (t := "0") (k := 2) (xs := [0]) (by decide +kernel) rfl (by decide +kernel) (by decide +kernel)]; exact ord_near0 h.2.2.1⟩
theorem els_0_3 : Els85 0 "NoOrder" "sure 0" := ⟨by decide, by decide, 0, rfl, fun w n d rs ss h => by
  unfold Cnd85 at h
  rw [if_pos rfl] at h
  exact (is_su (by decide +kernel)).1 h.2.2.1⟩
theorem els_0_4 : Els85 0 "NoOrder" "sure 99" := ⟨by decide, by decide, 0, rfl, fun w n d rs ss h => by
  unfold Cnd85 at h
  rw [if_pos rfl] at h
  exact (is_su (by decide +kernel)).1 h.2.2.1⟩
theorem els_0_5 : Els85 0 "NoOrder" "middle" := ⟨by decide, by decide, 0, rfl, fun w n d rs ss h => by
  unfold Cnd85 at h
  rw [if_pos rfl] at h
  rw [say_mid, if_pos (.inl h.2.2.1)]⟩
theorem els_0_6 : Els85 0 "NoFit" "drop 0 1 2" := ⟨by decide, by decide, 2, rfl, fun w n d rs ss h => by
  unfold Cnd85 at h
  rw [if_pos rfl] at h
  rw [ord_row (hd := "drop") (t := "0 1 2") (k := 1) (xs := [0, 1, 2]) (by decide +kernel) rfl (by decide +kernel) (by decide +kernel)]; exact ord_drop (by rw [h.2.2.1]; exact List.not_mem_nil)⟩
theorem els_0_7 : Els85 0 "NoFit" "drop 0" := ⟨by decide, by decide, 2, rfl, fun w n d rs ss h => by
  unfold Cnd85 at h
  rw [if_pos rfl] at h
  rw [ord_row (hd := "drop") (t := "0") (k := 1) (xs := [0]) (by decide +kernel) rfl (by decide +kernel) (by decide +kernel)]; exact ord_drop (by rw [h.2.2.1]; exact List.not_mem_nil)⟩
theorem els_0_8 : Els85 0 "NoFit" "come 1 0" := ⟨by decide, by decide, 2, rfl, fun w n d rs ss h => by
  unfold Cnd85 at h
  rw [if_pos rfl] at h
  rw [ord_row (hd := "come") (t := "1 0") (k := 0) (xs := [1, 0]) (by decide +kernel) rfl (by decide +kernel) (by decide +kernel)]; exact ord_come (by rw [h.2.1]; decide)⟩
theorem els_1_0 : Els85 1 "NoFit" "near 0 1" := ⟨by decide, by decide, 2, rfl, fun w n d rs ss h => by
  unfold Cnd85 at h
  rw [if_neg (by decide), if_pos rfl] at h
  rw [ord_row (hd := "near") (t := "0 1") (k := 2) (xs := [0, 1]) (by decide +kernel) rfl (by decide +kernel) (by decide +kernel)]; exact ord_near h.2.1 (by rw [h.1]; decide)⟩
theorem els_1_1 : Els85 1 "NoFit" "near 3 2 1 0" := ⟨by decide, by decide, 2, rfl, fun w n d rs ss h => by
  unfold Cnd85 at h
  rw [if_neg (by decide), if_pos rfl] at h
  rw [ord_row (hd := "near") (t := "3 2 1 0") (k := 2) (xs := [3, 2, 1, 0]) (by decide +kernel) rfl (by decide +kernel) (by decide +kernel)]; exact ord_near h.2.1 (by rw [h.1]; decide)⟩
theorem els_1_2 : Els85 1 "NoFit" "come 0" := ⟨by decide, by decide, 2, rfl, fun w n d rs ss h => by
  unfold Cnd85 at h
  rw [if_neg (by decide), if_pos rfl] at h
  rw [ord_row (hd := "come") (t := "0") (k := 0) (xs := [0]) (by decide +kernel) rfl (by decide +kernel) (by decide +kernel)]; exact ord_come (by rw [h.1]; decide)⟩
theorem els_1_3 : Els85 1 "NoFit" "come 0 1 2 3 4 5 6 7 8" := ⟨by decide, by decide, 2, rfl, fun w n d rs ss h => by
  unfold Cnd85 at h
  rw [if_neg (by decide), if_pos rfl] at h
  rw [ord_row (hd := "come") (t := "0 1 2 3 4 5 6 7 8") (k := 0) (xs := [0, 1, 2, 3, 4, 5, 6, 7, 8]) (by decide +kernel) rfl (by decide +kernel) (by decide +kernel)]; exact ord_come (by rw [h.1]; decide)⟩
theorem els_1_4 : Els85 1 "NoFit" "drop 0 1 2 3" := ⟨by decide, by decide, 2, rfl, fun w n d rs ss h => by
  unfold Cnd85 at h
  rw [if_neg (by decide), if_pos rfl] at h
  rw [ord_row (hd := "drop") (t := "0 1 2 3") (k := 1) (xs := [0, 1, 2, 3]) (by decide +kernel) rfl (by decide +kernel) (by decide +kernel)]; exact ord_drop (not_in h.2.2 (by decide))⟩
theorem els_1_5 : Els85 1 "NoFit" "drop 0" := ⟨by decide, by decide, 2, rfl, fun w n d rs ss h => by
  unfold Cnd85 at h
  rw [if_neg (by decide), if_pos rfl] at h
  rw [ord_row (hd := "drop") (t := "0") (k := 1) (xs := [0]) (by decide +kernel) rfl (by decide +kernel) (by decide +kernel)]; exact ord_drop (not_in h.2.2 (by decide))⟩
theorem els_2_0 : Els85 2 "TooMany" "room" := ⟨by decide, by decide, 5, rfl, fun w n d rs ss h => by
  unfold Cnd85 at h
  rw [if_neg (by decide), if_neg (by decide), if_pos rfl] at h
  rw [say_room, if_neg (by rw [h.2.1]; decide)]⟩
theorem els_2_1 : Els85 2 "TooMany" "first" := ⟨by decide, by decide, 5, rfl, fun w n d rs ss h => by
  unfold Cnd85 at h
  rw [if_neg (by decide), if_neg (by decide), if_pos rfl] at h
  rw [say_first, if_neg (by rw [h.2.1]; decide)]⟩
theorem els_2_2 : Els85 2 "TooMany" "middle" := ⟨by decide, by decide, 5, rfl, fun w n d rs ss h => by
  unfold Cnd85 at h
  rw [if_neg (by decide), if_neg (by decide), if_pos rfl] at h
  rw [say_mid, if_neg (fun z => z.elim h.2.2.1 (fun z => absurd z (by have := h.2.2.2.1; omega))), if_neg (by rw [h.1, h.2.1]; decide)]⟩
theorem els_2_3 : Els85 2 "NoFit" "sure 0" := ⟨by decide, by decide, 2, rfl, fun w n d rs ss h => by
  unfold Cnd85 at h
  rw [if_neg (by decide), if_neg (by decide), if_pos rfl] at h
  exact (is_su (by decide +kernel)).2 h.2.2.1 (by rw [h.2.1]; decide)⟩
theorem els_2_4 : Els85 2 "NoFit" "sure 99" := ⟨by decide, by decide, 2, rfl, fun w n d rs ss h => by
  unfold Cnd85 at h
  rw [if_neg (by decide), if_neg (by decide), if_pos rfl] at h
  exact (is_su (by decide +kernel)).2 h.2.2.1 (by rw [h.2.1]; decide)⟩
theorem els_2_5 : Els85 2 "NoFit" "drop 6 5 4 3 2 1 0" := ⟨by decide, by decide, 2, rfl, fun w n d rs ss h => by
  unfold Cnd85 at h
  rw [if_neg (by decide), if_neg (by decide), if_pos rfl] at h
  rw [ord_row (hd := "drop") (t := "6 5 4 3 2 1 0") (k := 1) (xs := [6, 5, 4, 3, 2, 1, 0]) (by decide +kernel) rfl (by decide +kernel) (by decide +kernel)]; exact ord_drop h.2.2.2.2⟩
theorem els_2_6 : Els85 2 "NoFit" "near 0 1 2 3 4 5 6 7" := ⟨by decide, by decide, 2, rfl, fun w n d rs ss h => by
  unfold Cnd85 at h
  rw [if_neg (by decide), if_neg (by decide), if_pos rfl] at h
  rw [ord_row (hd := "near") (t := "0 1 2 3 4 5 6 7") (k := 2) (xs := [0, 1, 2, 3, 4, 5, 6, 7]) (by decide +kernel) rfl (by decide +kernel) (by decide +kernel)]; exact ord_near h.2.2.1 (by rw [h.2.1]; decide)⟩
theorem els_2_7 : Els85 2 "NoFit" "come 0 1 2 3 4 5" := ⟨by decide, by decide, 2, rfl, fun w n d rs ss h => by
  unfold Cnd85 at h
  rw [if_neg (by decide), if_neg (by decide), if_pos rfl] at h
  rw [ord_row (hd := "come") (t := "0 1 2 3 4 5") (k := 0) (xs := [0, 1, 2, 3, 4, 5]) (by decide +kernel) rfl (by decide +kernel) (by decide +kernel)]; exact ord_come (by rw [h.2.1]; decide)⟩
theorem els_3_0 : Els85 3 "NoOrder" "middle" := ⟨by decide, by decide, 0, rfl, fun w n d rs ss h => by
  unfold Cnd85 at h
  rw [if_neg (by decide), if_neg (by decide), if_neg (by decide)] at h
  rw [say_mid, if_pos (.inr h.2.1)]⟩
theorem els_3_1 : Els85 3 "NoFit" "near 0 1 2" := ⟨by decide, by decide, 2, rfl, fun w n d rs ss h => by
  unfold Cnd85 at h
  rw [if_neg (by decide), if_neg (by decide), if_neg (by decide)] at h
  rw [ord_row (hd := "near") (t := "0 1 2") (k := 2) (xs := [0, 1, 2]) (by decide +kernel) rfl (by decide +kernel) (by decide +kernel)]; exact ord_near (fun z => by have := h.2.1; rw [z] at this; cases this) (by rw [h.1]; decide)⟩
theorem els_3_2 : Els85 3 "NoFit" "come 0 1 2 3 4" := ⟨by decide, by decide, 2, rfl, fun w n d rs ss h => by
  unfold Cnd85 at h
  rw [if_neg (by decide), if_neg (by decide), if_neg (by decide)] at h
  rw [ord_row (hd := "come") (t := "0 1 2 3 4") (k := 0) (xs := [0, 1, 2, 3, 4]) (by decide +kernel) rfl (by decide +kernel) (by decide +kernel)]; exact ord_come (by rw [h.1]; decide)⟩
theorem els_3_3 : Els85 3 "NoFit" "drop 2 1 0" := ⟨by decide, by decide, 2, rfl, fun w n d rs ss h => by
  unfold Cnd85 at h
  rw [if_neg (by decide), if_neg (by decide), if_neg (by decide)] at h
  rw [ord_row (hd := "drop") (t := "2 1 0") (k := 1) (xs := [2, 1, 0]) (by decide +kernel) rfl (by decide +kernel) (by decide +kernel)]; exact ord_drop (not_in h.2.2 (by decide))⟩
/-- the list of the refusals of a desk -/
def EL85 (G : Hp) (d l : Addr) (c : Int) (m : Nat) : Prop := ∃ ts : List (Addr × Str × Str), G l = some (.lst (ts.map fun t => V.ref t.1)) ∧ l ≠ d ∧ ts.length = m ∧ ∀ t ∈ ts, t.1 ≠ d ∧ G t.1 = some (.tup [.str t.2.1, .str t.2.2]) ∧ Els85 c t.2.1 t.2.2
theorem EL85.same {G G' : Hp} {d l : Addr} {c : Int} {m : Nat} (h : EL85 G d l c m) (s : Same G G') : EL85 G' d l c m := by
  obtain ⟨ts, a, b, e, f⟩ := h
  exact ⟨ts, s _ _ a, b, e, fun t m => ⟨(f t m).1, s _ _ (f t m).2.1, (f t m).2.2⟩⟩
theorem EL85.cat {G G' : Hp} {d l z : Addr} {c : Int} {m : Nat} (h : EL85 G d l c m) (us : List (Addr × Str × Str)) (hz : ∀ xs, G l = some (.lst xs) → G' z = some (.lst (xs ++ us.map fun t => V.ref t.1))) (s : Same G G') (zd : z ≠ d) (hu : ∀ t ∈ us, t.1 ≠ d ∧ G t.1 = some (.tup [.str t.2.1, .str t.2.2]) ∧ Els85 c t.2.1 t.2.2) : EL85 G' d z c (m + us.length) := by
  obtain ⟨ts, a, b, e, f⟩ := h
  refine ⟨ts ++ us, by rw [List.map_append]; exact hz _ a, zd, by rw [List.length_append, e], fun t m => ?_⟩
  rcases List.mem_append.mp m with m | m
  · exact ⟨(f t m).1, s _ _ (f t m).2.1, (f t m).2.2⟩
  · exact ⟨(hu t m).1, s _ _ (hu t m).2.1, (hu t m).2.2⟩
def spEls85 : Sp := fun vs H Q _ => ∃ (d : Addr) (at_ : Int), vs = [.ref d, .int at_] ∧ PoolAt H d ∧ 0 ≤ at_ ∧ at_ < 4 ∧ ∀ (tp : Addr) (due row : Str) (G : Hp), G tp = some (.tup [.str ("\t" ++ due), .str row]) → Els85 at_ due row → PoolAt G d → KeepD d H G → Q (.ref tp) G
section
variable {P : Program} {w : World} {K : PySem.W.Frag} {mg : Str → Option Value} {base : Heap}
theorem scEls : FnScope ["pool", "at", "some", "due", "row"] ["pool", "at"] (defScope s_law_else) := ⟨rfl, rfl, rfl, by decide +kernel, rfl, by decide +kernel, by decide +kernel⟩
set_option maxHeartbeats 8000000 in
theorem ok_els85 {f f1 : Addr} {fd d1 : FuncData} {k : Nat} (T : Df K mg "_law_else" s_law_else ["pool", "at"] f fd) (T__law_draw : Df K mg "_law_draw" s_law_draw ["pool", "many"] f1 d1) (G__law_draw : FnOk P w K mg base CX0 k f1 d1 ["pool", "many"] spDrawP) (B : Bi mg) : FnOk P w K mg base CX0 (k + 1) f fd ["pool", "at"] spEls85 := by
  refine T.F.ok scEls (fun vs H Q E h => ?_) (fun cdv A outer s H vs Q E hr h => ?_)
  · obtain ⟨d, a, rfl, _⟩ := h
    rfl
  · obtain ⟨d, av, rfl, P0, a0, a1, q⟩ := h
    refine ⟨_, 
      (pss_cons (ps_set (i := 2) scEls.nd rfl (.inl rfl) (pe_lst (pa_cons (pe_tup (pa_cons pe_str (pa_cons pe_str pa_nil))) (pa_cons (pe_tup (pa_cons pe_str (pa_cons pe_str pa_nil))) (pa_cons (pe_tup (pa_cons pe_str (pa_cons pe_str pa_nil))) (pa_cons (pe_tup (pa_cons pe_str (pa_cons pe_str pa_nil))) pa_nil))))))
      (pss_cons (ps_set (i := 2) scEls.nd rfl (.inl rfl) (pe_op op_cat (pv 2) (pe_lst (pa_cons (pe_tup (pa_cons pe_str (pa_cons pe_str pa_nil))) (pa_cons (pe_tup (pa_cons pe_str (pa_cons pe_str pa_nil))) (pa_cons (pe_tup (pa_cons pe_str (pa_cons pe_str pa_nil))) pa_nil))))))
      (pss_cons (ps_set (i := 2) scEls.nd rfl (.inl rfl) (pe_op op_cat (pv 2) (pe_lst (pa_cons (pe_tup (pa_cons pe_str (pa_cons pe_str pa_nil))) (pa_cons (pe_tup (pa_cons pe_str (pa_cons pe_str pa_nil))) pa_nil)))))
      (Evl.pss_cut (ps_if (pt_cmpR op_eq (pv 1) pe_int (nomark _))
        (pss_cons (ps_set (i := 2) scEls.nd rfl (.inl rfl) (pe_lst (pa_cons (pe_tup (pa_cons pe_str (pa_cons pe_str pa_nil))) (pa_cons (pe_tup (pa_cons pe_str (pa_cons pe_str pa_nil))) pa_nil))))
        (pss_cons (ps_set (i := 2) scEls.nd rfl (.inl rfl) (pe_op op_cat (pv 2) (pe_lst (pa_cons (pe_tup (pa_cons pe_str (pa_cons pe_str pa_nil))) (pa_cons (pe_tup (pa_cons pe_str (pa_cons pe_str pa_nil))) pa_nil)))))
        (pss_one (ps_set (i := 2) scEls.nd rfl (.inl rfl) (pe_op op_cat (pv 2) (pe_lst (pa_cons (pe_tup (pa_cons pe_str (pa_cons pe_str pa_nil))) (pa_cons (pe_tup (pa_cons pe_str (pa_cons pe_str pa_nil))) pa_nil))))))))
        pss_nil)
      (Evl.pss_cut (ps_if (pt_cmpR op_eq (pv 1) pe_int (nomark _))
        (pss_cons (ps_set (i := 2) scEls.nd rfl (.inl rfl) (pe_lst (pa_cons (pe_tup (pa_cons pe_str (pa_cons pe_str pa_nil))) (pa_cons (pe_tup (pa_cons pe_str (pa_cons pe_str pa_nil))) (pa_cons (pe_tup (pa_cons pe_str (pa_cons pe_str pa_nil))) pa_nil)))))
        (pss_cons (ps_set (i := 2) scEls.nd rfl (.inl rfl) (pe_op op_cat (pv 2) (pe_lst (pa_cons (pe_tup (pa_cons pe_str (pa_cons pe_str pa_nil))) (pa_cons (pe_tup (pa_cons pe_str (pa_cons pe_str pa_nil))) pa_nil)))))
        (pss_cons (ps_set (i := 2) scEls.nd rfl (.inl rfl) (pe_op op_cat (pv 2) (pe_lst (pa_cons (pe_tup (pa_cons pe_str (pa_cons pe_str pa_nil))) (pa_cons (pe_tup (pa_cons pe_str (pa_cons pe_str pa_nil))) pa_nil)))))
        (pss_one (ps_set (i := 2) scEls.nd rfl (.inl rfl) (pe_op op_cat (pv 2) (pe_lst (pa_cons (pe_tup (pa_cons pe_str (pa_cons pe_str pa_nil))) pa_nil))))))))
        pss_nil)
      (Evl.pss_cut (ps_if (pt_cmpR op_eq (pv 1) pe_int (nomark _))
        (pss_cons (ps_set (i := 2) scEls.nd rfl (.inl rfl) (pe_lst (pa_cons (pe_tup (pa_cons pe_str (pa_cons pe_str pa_nil))) (pa_cons (pe_tup (pa_cons pe_str (pa_cons pe_str pa_nil))) pa_nil))))
        (pss_one (ps_set (i := 2) scEls.nd rfl (.inl rfl) (pe_op op_cat (pv 2) (pe_lst (pa_cons (pe_tup (pa_cons pe_str (pa_cons pe_str pa_nil))) (pa_cons (pe_tup (pa_cons pe_str (pa_cons pe_str pa_nil))) pa_nil)))))))
        pss_nil)
      (pss_cons (ps_asg (pe_ix ix_list (pv 2) (pe_call G__law_draw hr (by rfl) T__law_draw.g T__law_draw.F.kp T__law_draw.b .nil pass0 (pa_cons (pv 0) (pa_cons (pe_callB call_len_seq (by rfl) B.len PySem.boot_len (pa_cons (pv 2) pa_nil)) pa_nil))) (fun _ _ => rfl)) (pg_tup (by rfl) (pgs_cons (pg_name (i := 3) scEls.nd rfl (.inl rfl)) (pgs_cons (pg_name (i := 4) scEls.nd rfl (.inl rfl)) pgs_nil))))
      (pss_one (ps_ret (pe_tup (pa_cons (pe_op op_add_str pe_str (pv 3)) (pa_cons (pv 4) pa_nil)))))))))))), ?_⟩
    have kk : KeepD d H H := KeepD.of_same (Same.refl H)
    refine ⟨line_small (by show 2 ≤ 16777216; decide), fun t00 nt00 => ?_⟩
    have h00 := @upd_same H t00 (.tup [.str "NoNumber", .str "undo"])
    have s00 := same_new (o := .tup [.str "NoNumber", .str "undo"]) nt00
    have P00 := P0.same s00
    have td00 := P0.ne nt00
    have kk := kk.trans (KeepD.of_same s00)
    generalize upd H t00 (.tup [.str "NoNumber", .str "undo"]) = G00 at h00 P00 kk ⊢
    clear s00 nt00
    refine ⟨line_small (by show 2 ≤ 16777216; decide), fun t01 nt01 => ?_⟩
    have h01 := @upd_same G00 t01 (.tup [.str "NoOrder", .str "near 0 1 2"])
    have s01 := same_new (o := .tup [.str "NoOrder", .str "near 0 1 2"]) nt01
    have P01 := P00.same s01
    have td01 := P00.ne nt01
    have h00 := s01 _ _ h00
    have kk := kk.trans (KeepD.of_same s01)
    generalize upd G00 t01 (.tup [.str "NoOrder", .str "near 0 1 2"]) = G01 at h01 P01 kk h00 ⊢
    clear s01 nt01
    refine ⟨line_small (by show 2 ≤ 16777216; decide), fun t02 nt02 => ?_⟩
    have h02 := @upd_same G01 t02 (.tup [.str "NoOrder", .str "near 0"])
    have s02 := same_new (o := .tup [.str "NoOrder", .str "near 0"]) nt02
    have P02 := P01.same s02
    have td02 := P01.ne nt02
    have h00 := s02 _ _ h00
    have h01 := s02 _ _ h01
    have kk := kk.trans (KeepD.of_same s02)
    generalize upd G01 t02 (.tup [.str "NoOrder", .str "near 0"]) = G02 at h02 P02 kk h00 h01 ⊢
    clear s02 nt02
    refine ⟨line_small (by show 2 ≤ 16777216; decide), fun t03 nt03 => ?_⟩
    have h03 := @upd_same G02 t03 (.tup [.str "NoOrder", .str "sure 0"])
    have s03 := same_new (o := .tup [.str "NoOrder", .str "sure 0"]) nt03
    have P03 := P02.same s03
    have td03 := P02.ne nt03
    have h00 := s03 _ _ h00
    have h01 := s03 _ _ h01
    have h02 := s03 _ _ h02
    have kk := kk.trans (KeepD.of_same s03)
    generalize upd G02 t03 (.tup [.str "NoOrder", .str "sure 0"]) = G03 at h03 P03 kk h00 h01 h02 ⊢
    clear s03 nt03
    have ts0g0 : ∀ t ∈ ([(t00, "NoNumber", "undo"), (t01, "NoOrder", "near 0 1 2"), (t02, "NoOrder", "near 0"), (t03, "NoOrder", "sure 0")] : List (Addr × Str × Str)), t.1 ≠ d ∧ G03 t.1 = some (.tup [.str t.2.1, .str t.2.2]) ∧ Els85 0 t.2.1 t.2.2 := fun t m => by
        simp only [List.mem_cons, List.not_mem_nil, or_false] at m
        rcases m with rfl | rfl | rfl | rfl
        · exact ⟨td00, h00, els_0_0⟩
        · exact ⟨td01, h01, els_0_1⟩
        · exact ⟨td02, h02, els_0_2⟩
        · exact ⟨td03, h03, els_0_3⟩
    refine ⟨line_small (by show 4 ≤ 16777216; decide), fun l0g0 nl0g0 => ?_⟩
    have E0g0 : EL85 (upd G03 l0g0 (.lst [.ref t00, .ref t01, .ref t02, .ref t03])) d l0g0 0 4 := ⟨[(t00, "NoNumber", "undo"), (t01, "NoOrder", "near 0 1 2"), (t02, "NoOrder", "near 0"), (t03, "NoOrder", "sure 0")], upd_same, P03.ne nl0g0, rfl, fun t m => ⟨(ts0g0 t m).1, same_new nl0g0 _ _ (ts0g0 t m).2.1, (ts0g0 t m).2.2⟩⟩
    have P0g0 := P03.new (o := .lst [.ref t00, .ref t01, .ref t02, .ref t03]) nl0g0
    have kk := kk.trans (KeepD.of_same (same_new (o := .lst [.ref t00, .ref t01, .ref t02, .ref t03]) nl0g0))
    generalize upd G03 l0g0 (.lst [.ref t00, .ref t01, .ref t02, .ref t03]) = G0g0 at E0g0 P0g0 kk ⊢
    clear ts0g0 nl0g0 h00 td00 P00 h01 td01 P01 h02 td02 P02 h03 td03 P03
    refine ⟨_, rfl, ?_⟩
    refine ⟨line_small (by show 2 ≤ 16777216; decide), fun t04 nt04 => ?_⟩
    have h04 := @upd_same G0g0 t04 (.tup [.str "NoOrder", .str "sure 99"])
    have s04 := same_new (o := .tup [.str "NoOrder", .str "sure 99"]) nt04
    have P04 := P0g0.same s04
    have td04 := P0g0.ne nt04
    have E0g0 := E0g0.same s04
    have kk := kk.trans (KeepD.of_same s04)
    generalize upd G0g0 t04 (.tup [.str "NoOrder", .str "sure 99"]) = G04 at h04 P04 kk E0g0 ⊢
    clear s04 nt04
    refine ⟨line_small (by show 2 ≤ 16777216; decide), fun t05 nt05 => ?_⟩
    have h05 := @upd_same G04 t05 (.tup [.str "NoOrder", .str "middle"])
    have s05 := same_new (o := .tup [.str "NoOrder", .str "middle"]) nt05
    have P05 := P04.same s05
    have td05 := P04.ne nt05
    have h04 := s05 _ _ h04
    have E0g0 := E0g0.same s05
    have kk := kk.trans (KeepD.of_same s05)
    generalize upd G04 t05 (.tup [.str "NoOrder", .str "middle"]) = G05 at h05 P05 kk h04 E0g0 ⊢
    clear s05 nt05
    refine ⟨line_small (by show 2 ≤ 16777216; decide), fun t06 nt06 => ?_⟩
    have h06 := @upd_same G05 t06 (.tup [.str "NoFit", .str "drop 0 1 2"])
    have s06 := same_new (o := .tup [.str "NoFit", .str "drop 0 1 2"]) nt06
    have P06 := P05.same s06
    have td06 := P05.ne nt06
    have h04 := s06 _ _ h04
    have h05 := s06 _ _ h05
    have E0g0 := E0g0.same s06
    have kk := kk.trans (KeepD.of_same s06)
    generalize upd G05 t06 (.tup [.str "NoFit", .str "drop 0 1 2"]) = G06 at h06 P06 kk h04 h05 E0g0 ⊢
    clear s06 nt06
    have ts0g1 : ∀ t ∈ ([(t04, "NoOrder", "sure 99"), (t05, "NoOrder", "middle"), (t06, "NoFit", "drop 0 1 2")] : List (Addr × Str × Str)), t.1 ≠ d ∧ G06 t.1 = some (.tup [.str t.2.1, .str t.2.2]) ∧ Els85 0 t.2.1 t.2.2 := fun t m => by
        simp only [List.mem_cons, List.not_mem_nil, or_false] at m
        rcases m with rfl | rfl | rfl
        · exact ⟨td04, h04, els_0_4⟩
        · exact ⟨td05, h05, els_0_5⟩
        · exact ⟨td06, h06, els_0_6⟩
    have cc0g1 := E0g0
    obtain ⟨us0g1, hl0g1, _, le0g1, _⟩ := cc0g1
    refine cat_lit (zs := [.ref t04, .ref t05, .ref t06]) hl0g1 (line_small (by show 3 ≤ 16777216; decide)) (line_small (by rw [List.length_map, le0g1]; show 4 + 3 ≤ 16777216; decide)) fun l0g1 G0g1 hz0g1 sz0g1 nz0g1 => ?_
    have E0g1 : EL85 G0g1 d l0g1 0 7 := E0g0.cat [(t04, "NoOrder", "sure 99"), (t05, "NoOrder", "middle"), (t06, "NoFit", "drop 0 1 2")] (fun xs hx => by rw [hl0g1] at hx; injection hx with hx; injection hx with hx; rw [← hx]; exact hz0g1) sz0g1 (P06.ne nz0g1) ts0g1
    have P0g1 := P06.same sz0g1
    have kk := kk.trans (KeepD.of_same sz0g1)
    clear ts0g1 hl0g1 hz0g1 sz0g1 nz0g1 E0g0 le0g1 h04 td04 P04 h05 td05 P05 h06 td06 P06
    refine ⟨_, rfl, ?_⟩
    refine ⟨line_small (by show 2 ≤ 16777216; decide), fun t07 nt07 => ?_⟩
    have h07 := @upd_same G0g1 t07 (.tup [.str "NoFit", .str "drop 0"])
    have s07 := same_new (o := .tup [.str "NoFit", .str "drop 0"]) nt07
    have P07 := P0g1.same s07
    have td07 := P0g1.ne nt07
    have E0g1 := E0g1.same s07
    have kk := kk.trans (KeepD.of_same s07)
    generalize upd G0g1 t07 (.tup [.str "NoFit", .str "drop 0"]) = G07 at h07 P07 kk E0g1 ⊢
    clear s07 nt07
    refine ⟨line_small (by show 2 ≤ 16777216; decide), fun t08 nt08 => ?_⟩
    have h08 := @upd_same G07 t08 (.tup [.str "NoFit", .str "come 1 0"])
    have s08 := same_new (o := .tup [.str "NoFit", .str "come 1 0"]) nt08
    have P08 := P07.same s08
    have td08 := P07.ne nt08
    have h07 := s08 _ _ h07
    have E0g1 := E0g1.same s08
    have kk := kk.trans (KeepD.of_same s08)
    generalize upd G07 t08 (.tup [.str "NoFit", .str "come 1 0"]) = G08 at h08 P08 kk h07 E0g1 ⊢
    clear s08 nt08
    have ts0g2 : ∀ t ∈ ([(t07, "NoFit", "drop 0"), (t08, "NoFit", "come 1 0")] : List (Addr × Str × Str)), t.1 ≠ d ∧ G08 t.1 = some (.tup [.str t.2.1, .str t.2.2]) ∧ Els85 0 t.2.1 t.2.2 := fun t m => by
        simp only [List.mem_cons, List.not_mem_nil, or_false] at m
        rcases m with rfl | rfl
        · exact ⟨td07, h07, els_0_7⟩
        · exact ⟨td08, h08, els_0_8⟩
    have cc0g2 := E0g1
    obtain ⟨us0g2, hl0g2, _, le0g2, _⟩ := cc0g2
    refine cat_lit (zs := [.ref t07, .ref t08]) hl0g2 (line_small (by show 2 ≤ 16777216; decide)) (line_small (by rw [List.length_map, le0g2]; show 7 + 2 ≤ 16777216; decide)) fun l0g2 G0g2 hz0g2 sz0g2 nz0g2 => ?_
    have E0g2 : EL85 G0g2 d l0g2 0 9 := E0g1.cat [(t07, "NoFit", "drop 0"), (t08, "NoFit", "come 1 0")] (fun xs hx => by rw [hl0g2] at hx; injection hx with hx; injection hx with hx; rw [← hx]; exact hz0g2) sz0g2 (P08.ne nz0g2) ts0g2
    have P0g2 := P08.same sz0g2
    have kk := kk.trans (KeepD.of_same sz0g2)
    clear ts0g2 hl0g2 hz0g2 sz0g2 nz0g2 E0g1 le0g2 h07 td07 P07 h08 td08 P08
    refine ⟨fun σ' G' => ∃ (c : Int) (l : Addr) (m : Nat) (z3 z4 : Option V), σ' = [some (.ref d), some (.int av), some (.ref l), z3, z4] ∧ EL85 G' d l c m ∧ 0 < m ∧ m ≤ 9 ∧ PoolAt G' d ∧ KeepD d H G' ∧ (av ≤ 1 → c = av), ?_, fun σ' G' hM => ?_⟩
    · refine ⟨_, rfl, rfl, _, rfl, ite2 (fun cc => ?_) (fun cc => ?_)⟩
      · have ca : av = 1 := V.int.inj (of_decide_eq_true cc)
        refine ⟨line_small (by show 2 ≤ 16777216; decide), fun t10 nt10 => ?_⟩
        have h10 := @upd_same G0g2 t10 (.tup [.str "NoFit", .str "near 0 1"])
        have s10 := same_new (o := .tup [.str "NoFit", .str "near 0 1"]) nt10
        have P10 := P0g2.same s10
        have td10 := P0g2.ne nt10
        have kk := kk.trans (KeepD.of_same s10)
        generalize upd G0g2 t10 (.tup [.str "NoFit", .str "near 0 1"]) = G10 at h10 P10 kk ⊢
        clear s10 nt10
        refine ⟨line_small (by show 2 ≤ 16777216; decide), fun t11 nt11 => ?_⟩
        have h11 := @upd_same G10 t11 (.tup [.str "NoFit", .str "near 3 2 1 0"])
        have s11 := same_new (o := .tup [.str "NoFit", .str "near 3 2 1 0"]) nt11
        have P11 := P10.same s11
        have td11 := P10.ne nt11
        have h10 := s11 _ _ h10
        have kk := kk.trans (KeepD.of_same s11)
        generalize upd G10 t11 (.tup [.str "NoFit", .str "near 3 2 1 0"]) = G11 at h11 P11 kk h10 ⊢
        clear s11 nt11
        have ts1g0 : ∀ t ∈ ([(t10, "NoFit", "near 0 1"), (t11, "NoFit", "near 3 2 1 0")] : List (Addr × Str × Str)), t.1 ≠ d ∧ G11 t.1 = some (.tup [.str t.2.1, .str t.2.2]) ∧ Els85 1 t.2.1 t.2.2 := fun t m => by
            simp only [List.mem_cons, List.not_mem_nil, or_false] at m
            rcases m with rfl | rfl
            · exact ⟨td10, h10, els_1_0⟩
            · exact ⟨td11, h11, els_1_1⟩
        refine ⟨line_small (by show 2 ≤ 16777216; decide), fun l1g0 nl1g0 => ?_⟩
        have E1g0 : EL85 (upd G11 l1g0 (.lst [.ref t10, .ref t11])) d l1g0 1 2 := ⟨[(t10, "NoFit", "near 0 1"), (t11, "NoFit", "near 3 2 1 0")], upd_same, P11.ne nl1g0, rfl, fun t m => ⟨(ts1g0 t m).1, same_new nl1g0 _ _ (ts1g0 t m).2.1, (ts1g0 t m).2.2⟩⟩
        have P1g0 := P11.new (o := .lst [.ref t10, .ref t11]) nl1g0
        have kk := kk.trans (KeepD.of_same (same_new (o := .lst [.ref t10, .ref t11]) nl1g0))
        generalize upd G11 l1g0 (.lst [.ref t10, .ref t11]) = G1g0 at E1g0 P1g0 kk ⊢
        clear ts1g0 nl1g0 h10 td10 P10 h11 td11 P11
        refine ⟨_, rfl, ?_⟩
        refine ⟨line_small (by show 2 ≤ 16777216; decide), fun t12 nt12 => ?_⟩
        have h12 := @upd_same G1g0 t12 (.tup [.str "NoFit", .str "come 0"])
        have s12 := same_new (o := .tup [.str "NoFit", .str "come 0"]) nt12
        have P12 := P1g0.same s12
        have td12 := P1g0.ne nt12
        have E1g0 := E1g0.same s12
        have kk := kk.trans (KeepD.of_same s12)
        generalize upd G1g0 t12 (.tup [.str "NoFit", .str "come 0"]) = G12 at h12 P12 kk E1g0 ⊢
        clear s12 nt12
        refine ⟨line_small (by show 2 ≤ 16777216; decide), fun t13 nt13 => ?_⟩
        have h13 := @upd_same G12 t13 (.tup [.str "NoFit", .str "come 0 1 2 3 4 5 6 7 8"])
        have s13 := same_new (o := .tup [.str "NoFit", .str "come 0 1 2 3 4 5 6 7 8"]) nt13
        have P13 := P12.same s13
        have td13 := P12.ne nt13
        have h12 := s13 _ _ h12
        have E1g0 := E1g0.same s13
        have kk := kk.trans (KeepD.of_same s13)
        generalize upd G12 t13 (.tup [.str "NoFit", .str "come 0 1 2 3 4 5 6 7 8"]) = G13 at h13 P13 kk h12 E1g0 ⊢
        clear s13 nt13
        have ts1g1 : ∀ t ∈ ([(t12, "NoFit", "come 0"), (t13, "NoFit", "come 0 1 2 3 4 5 6 7 8")] : List (Addr × Str × Str)), t.1 ≠ d ∧ G13 t.1 = some (.tup [.str t.2.1, .str t.2.2]) ∧ Els85 1 t.2.1 t.2.2 := fun t m => by
            simp only [List.mem_cons, List.not_mem_nil, or_false] at m
            rcases m with rfl | rfl
            · exact ⟨td12, h12, els_1_2⟩
            · exact ⟨td13, h13, els_1_3⟩
        have cc1g1 := E1g0
        obtain ⟨us1g1, hl1g1, _, le1g1, _⟩ := cc1g1
        refine cat_lit (zs := [.ref t12, .ref t13]) hl1g1 (line_small (by show 2 ≤ 16777216; decide)) (line_small (by rw [List.length_map, le1g1]; show 2 + 2 ≤ 16777216; decide)) fun l1g1 G1g1 hz1g1 sz1g1 nz1g1 => ?_
        have E1g1 : EL85 G1g1 d l1g1 1 4 := E1g0.cat [(t12, "NoFit", "come 0"), (t13, "NoFit", "come 0 1 2 3 4 5 6 7 8")] (fun xs hx => by rw [hl1g1] at hx; injection hx with hx; injection hx with hx; rw [← hx]; exact hz1g1) sz1g1 (P13.ne nz1g1) ts1g1
        have P1g1 := P13.same sz1g1
        have kk := kk.trans (KeepD.of_same sz1g1)
        clear ts1g1 hl1g1 hz1g1 sz1g1 nz1g1 E1g0 le1g1 h12 td12 P12 h13 td13 P13
        refine ⟨_, rfl, ?_⟩
        refine ⟨line_small (by show 2 ≤ 16777216; decide), fun t14 nt14 => ?_⟩
        have h14 := @upd_same G1g1 t14 (.tup [.str "NoFit", .str "drop 0 1 2 3"])
        have s14 := same_new (o := .tup [.str "NoFit", .str "drop 0 1 2 3"]) nt14
        have P14 := P1g1.same s14
        have td14 := P1g1.ne nt14
        have E1g1 := E1g1.same s14
        have kk := kk.trans (KeepD.of_same s14)
        generalize upd G1g1 t14 (.tup [.str "NoFit", .str "drop 0 1 2 3"]) = G14 at h14 P14 kk E1g1 ⊢
        clear s14 nt14
        refine ⟨line_small (by show 2 ≤ 16777216; decide), fun t15 nt15 => ?_⟩
        have h15 := @upd_same G14 t15 (.tup [.str "NoFit", .str "drop 0"])
        have s15 := same_new (o := .tup [.str "NoFit", .str "drop 0"]) nt15
        have P15 := P14.same s15
        have td15 := P14.ne nt15
        have h14 := s15 _ _ h14
        have E1g1 := E1g1.same s15
        have kk := kk.trans (KeepD.of_same s15)
        generalize upd G14 t15 (.tup [.str "NoFit", .str "drop 0"]) = G15 at h15 P15 kk h14 E1g1 ⊢
        clear s15 nt15
        have ts1g2 : ∀ t ∈ ([(t14, "NoFit", "drop 0 1 2 3"), (t15, "NoFit", "drop 0")] : List (Addr × Str × Str)), t.1 ≠ d ∧ G15 t.1 = some (.tup [.str t.2.1, .str t.2.2]) ∧ Els85 1 t.2.1 t.2.2 := fun t m => by
            simp only [List.mem_cons, List.not_mem_nil, or_false] at m
            rcases m with rfl | rfl
            · exact ⟨td14, h14, els_1_4⟩
            · exact ⟨td15, h15, els_1_5⟩
        have cc1g2 := E1g1
        obtain ⟨us1g2, hl1g2, _, le1g2, _⟩ := cc1g2
        refine cat_lit (zs := [.ref t14, .ref t15]) hl1g2 (line_small (by show 2 ≤ 16777216; decide)) (line_small (by rw [List.length_map, le1g2]; show 4 + 2 ≤ 16777216; decide)) fun l1g2 G1g2 hz1g2 sz1g2 nz1g2 => ?_
        have E1g2 : EL85 G1g2 d l1g2 1 6 := E1g1.cat [(t14, "NoFit", "drop 0 1 2 3"), (t15, "NoFit", "drop 0")] (fun xs hx => by rw [hl1g2] at hx; injection hx with hx; injection hx with hx; rw [← hx]; exact hz1g2) sz1g2 (P15.ne nz1g2) ts1g2
        have P1g2 := P15.same sz1g2
        have kk := kk.trans (KeepD.of_same sz1g2)
        clear ts1g2 hl1g2 hz1g2 sz1g2 nz1g2 E1g1 le1g2 h14 td14 P14 h15 td15 P15
        exact ⟨1, _, _, _, _, rfl, E1g2, by decide, by decide, P1g2, kk, fun _ => ca.symm⟩
      · have ca : av ≠ 1 := fun z => cc (decide_eq_true (by rw [z]))
        exact ⟨0, _, _, _, _, rfl, E0g2, by decide, by decide, P0g2, kk, fun _ => by omega⟩
    clear kk 
    obtain ⟨c, l, m, z3, z4, rfl, EL, m0, m9, PL, kk, hc⟩ := hM
    refine ⟨fun σ' G' => ∃ (c : Int) (l : Addr) (m : Nat) (z3 z4 : Option V), σ' = [some (.ref d), some (.int av), some (.ref l), z3, z4] ∧ EL85 G' d l c m ∧ 0 < m ∧ m ≤ 9 ∧ PoolAt G' d ∧ KeepD d H G' ∧ (av ≤ 2 → c = av), ?_, fun σ' G' hM => ?_⟩
    · refine ⟨_, rfl, rfl, _, rfl, ite2 (fun cc => ?_) (fun cc => ?_)⟩
      · have ca : av = 2 := V.int.inj (of_decide_eq_true cc)
        refine ⟨line_small (by show 2 ≤ 16777216; decide), fun t20 nt20 => ?_⟩
        have h20 := @upd_same G' t20 (.tup [.str "TooMany", .str "room"])
        have s20 := same_new (o := .tup [.str "TooMany", .str "room"]) nt20
        have P20 := PL.same s20
        have td20 := PL.ne nt20
        have kk := kk.trans (KeepD.of_same s20)
        generalize upd G' t20 (.tup [.str "TooMany", .str "room"]) = G20 at h20 P20 kk ⊢
        clear s20 nt20
        refine ⟨line_small (by show 2 ≤ 16777216; decide), fun t21 nt21 => ?_⟩
        have h21 := @upd_same G20 t21 (.tup [.str "TooMany", .str "first"])
        have s21 := same_new (o := .tup [.str "TooMany", .str "first"]) nt21
        have P21 := P20.same s21
        have td21 := P20.ne nt21
        have h20 := s21 _ _ h20
        have kk := kk.trans (KeepD.of_same s21)
        generalize upd G20 t21 (.tup [.str "TooMany", .str "first"]) = G21 at h21 P21 kk h20 ⊢
        clear s21 nt21
        refine ⟨line_small (by show 2 ≤ 16777216; decide), fun t22 nt22 => ?_⟩
        have h22 := @upd_same G21 t22 (.tup [.str "TooMany", .str "middle"])
        have s22 := same_new (o := .tup [.str "TooMany", .str "middle"]) nt22
        have P22 := P21.same s22
        have td22 := P21.ne nt22
        have h20 := s22 _ _ h20
        have h21 := s22 _ _ h21
        have kk := kk.trans (KeepD.of_same s22)
        generalize upd G21 t22 (.tup [.str "TooMany", .str "middle"]) = G22 at h22 P22 kk h20 h21 ⊢
        clear s22 nt22
        have ts2g0 : ∀ t ∈ ([(t20, "TooMany", "room"), (t21, "TooMany", "first"), (t22, "TooMany", "middle")] : List (Addr × Str × Str)), t.1 ≠ d ∧ G22 t.1 = some (.tup [.str t.2.1, .str t.2.2]) ∧ Els85 2 t.2.1 t.2.2 := fun t m => by
            simp only [List.mem_cons, List.not_mem_nil, or_false] at m
            rcases m with rfl | rfl | rfl
            · exact ⟨td20, h20, els_2_0⟩
            · exact ⟨td21, h21, els_2_1⟩
            · exact ⟨td22, h22, els_2_2⟩
        refine ⟨line_small (by show 3 ≤ 16777216; decide), fun l2g0 nl2g0 => ?_⟩
        have E2g0 : EL85 (upd G22 l2g0 (.lst [.ref t20, .ref t21, .ref t22])) d l2g0 2 3 := ⟨[(t20, "TooMany", "room"), (t21, "TooMany", "first"), (t22, "TooMany", "middle")], upd_same, P22.ne nl2g0, rfl, fun t m => ⟨(ts2g0 t m).1, same_new nl2g0 _ _ (ts2g0 t m).2.1, (ts2g0 t m).2.2⟩⟩
        have P2g0 := P22.new (o := .lst [.ref t20, .ref t21, .ref t22]) nl2g0
        have kk := kk.trans (KeepD.of_same (same_new (o := .lst [.ref t20, .ref t21, .ref t22]) nl2g0))
        generalize upd G22 l2g0 (.lst [.ref t20, .ref t21, .ref t22]) = G2g0 at E2g0 P2g0 kk ⊢
        clear ts2g0 nl2g0 h20 td20 P20 h21 td21 P21 h22 td22 P22
        refine ⟨_, rfl, ?_⟩
        refine ⟨line_small (by show 2 ≤ 16777216; decide), fun t23 nt23 => ?_⟩
        have h23 := @upd_same G2g0 t23 (.tup [.str "NoFit", .str "sure 0"])
        have s23 := same_new (o := .tup [.str "NoFit", .str "sure 0"]) nt23
        have P23 := P2g0.same s23
        have td23 := P2g0.ne nt23
        have E2g0 := E2g0.same s23
        have kk := kk.trans (KeepD.of_same s23)
        generalize upd G2g0 t23 (.tup [.str "NoFit", .str "sure 0"]) = G23 at h23 P23 kk E2g0 ⊢
        clear s23 nt23
        refine ⟨line_small (by show 2 ≤ 16777216; decide), fun t24 nt24 => ?_⟩
        have h24 := @upd_same G23 t24 (.tup [.str "NoFit", .str "sure 99"])
        have s24 := same_new (o := .tup [.str "NoFit", .str "sure 99"]) nt24
        have P24 := P23.same s24
        have td24 := P23.ne nt24
        have h23 := s24 _ _ h23
        have E2g0 := E2g0.same s24
        have kk := kk.trans (KeepD.of_same s24)
        generalize upd G23 t24 (.tup [.str "NoFit", .str "sure 99"]) = G24 at h24 P24 kk h23 E2g0 ⊢
        clear s24 nt24
        have ts2g1 : ∀ t ∈ ([(t23, "NoFit", "sure 0"), (t24, "NoFit", "sure 99")] : List (Addr × Str × Str)), t.1 ≠ d ∧ G24 t.1 = some (.tup [.str t.2.1, .str t.2.2]) ∧ Els85 2 t.2.1 t.2.2 := fun t m => by
            simp only [List.mem_cons, List.not_mem_nil, or_false] at m
            rcases m with rfl | rfl
            · exact ⟨td23, h23, els_2_3⟩
            · exact ⟨td24, h24, els_2_4⟩
        have cc2g1 := E2g0
        obtain ⟨us2g1, hl2g1, _, le2g1, _⟩ := cc2g1
        refine cat_lit (zs := [.ref t23, .ref t24]) hl2g1 (line_small (by show 2 ≤ 16777216; decide)) (line_small (by rw [List.length_map, le2g1]; show 3 + 2 ≤ 16777216; decide)) fun l2g1 G2g1 hz2g1 sz2g1 nz2g1 => ?_
        have E2g1 : EL85 G2g1 d l2g1 2 5 := E2g0.cat [(t23, "NoFit", "sure 0"), (t24, "NoFit", "sure 99")] (fun xs hx => by rw [hl2g1] at hx; injection hx with hx; injection hx with hx; rw [← hx]; exact hz2g1) sz2g1 (P24.ne nz2g1) ts2g1
        have P2g1 := P24.same sz2g1
        have kk := kk.trans (KeepD.of_same sz2g1)
        clear ts2g1 hl2g1 hz2g1 sz2g1 nz2g1 E2g0 le2g1 h23 td23 P23 h24 td24 P24
        refine ⟨_, rfl, ?_⟩
        refine ⟨line_small (by show 2 ≤ 16777216; decide), fun t25 nt25 => ?_⟩
        have h25 := @upd_same G2g1 t25 (.tup [.str "NoFit", .str "drop 6 5 4 3 2 1 0"])
        have s25 := same_new (o := .tup [.str "NoFit", .str "drop 6 5 4 3 2 1 0"]) nt25
        have P25 := P2g1.same s25
        have td25 := P2g1.ne nt25
        have E2g1 := E2g1.same s25
        have kk := kk.trans (KeepD.of_same s25)
        generalize upd G2g1 t25 (.tup [.str "NoFit", .str "drop 6 5 4 3 2 1 0"]) = G25 at h25 P25 kk E2g1 ⊢
        clear s25 nt25
        refine ⟨line_small (by show 2 ≤ 16777216; decide), fun t26 nt26 => ?_⟩
        have h26 := @upd_same G25 t26 (.tup [.str "NoFit", .str "near 0 1 2 3 4 5 6 7"])
        have s26 := same_new (o := .tup [.str "NoFit", .str "near 0 1 2 3 4 5 6 7"]) nt26
        have P26 := P25.same s26
        have td26 := P25.ne nt26
        have h25 := s26 _ _ h25
        have E2g1 := E2g1.same s26
        have kk := kk.trans (KeepD.of_same s26)
        generalize upd G25 t26 (.tup [.str "NoFit", .str "near 0 1 2 3 4 5 6 7"]) = G26 at h26 P26 kk h25 E2g1 ⊢
        clear s26 nt26
        have ts2g2 : ∀ t ∈ ([(t25, "NoFit", "drop 6 5 4 3 2 1 0"), (t26, "NoFit", "near 0 1 2 3 4 5 6 7")] : List (Addr × Str × Str)), t.1 ≠ d ∧ G26 t.1 = some (.tup [.str t.2.1, .str t.2.2]) ∧ Els85 2 t.2.1 t.2.2 := fun t m => by
            simp only [List.mem_cons, List.not_mem_nil, or_false] at m
            rcases m with rfl | rfl
            · exact ⟨td25, h25, els_2_5⟩
            · exact ⟨td26, h26, els_2_6⟩
        have cc2g2 := E2g1
        obtain ⟨us2g2, hl2g2, _, le2g2, _⟩ := cc2g2
        refine cat_lit (zs := [.ref t25, .ref t26]) hl2g2 (line_small (by show 2 ≤ 16777216; decide)) (line_small (by rw [List.length_map, le2g2]; show 5 + 2 ≤ 16777216; decide)) fun l2g2 G2g2 hz2g2 sz2g2 nz2g2 => ?_
        have E2g2 : EL85 G2g2 d l2g2 2 7 := E2g1.cat [(t25, "NoFit", "drop 6 5 4 3 2 1 0"), (t26, "NoFit", "near 0 1 2 3 4 5 6 7")] (fun xs hx => by rw [hl2g2] at hx; injection hx with hx; injection hx with hx; rw [← hx]; exact hz2g2) sz2g2 (P26.ne nz2g2) ts2g2
        have P2g2 := P26.same sz2g2
        have kk := kk.trans (KeepD.of_same sz2g2)
        clear ts2g2 hl2g2 hz2g2 sz2g2 nz2g2 E2g1 le2g2 h25 td25 P25 h26 td26 P26
        refine ⟨_, rfl, ?_⟩
        refine ⟨line_small (by show 2 ≤ 16777216; decide), fun t27 nt27 => ?_⟩
        have h27 := @upd_same G2g2 t27 (.tup [.str "NoFit", .str "come 0 1 2 3 4 5"])
        have s27 := same_new (o := .tup [.str "NoFit", .str "come 0 1 2 3 4 5"]) nt27
        have P27 := P2g2.same s27
        have td27 := P2g2.ne nt27
        have E2g2 := E2g2.same s27
        have kk := kk.trans (KeepD.of_same s27)
        generalize upd G2g2 t27 (.tup [.str "NoFit", .str "come 0 1 2 3 4 5"]) = G27 at h27 P27 kk E2g2 ⊢
        clear s27 nt27
        have ts2g3 : ∀ t ∈ ([(t27, "NoFit", "come 0 1 2 3 4 5")] : List (Addr × Str × Str)), t.1 ≠ d ∧ G27 t.1 = some (.tup [.str t.2.1, .str t.2.2]) ∧ Els85 2 t.2.1 t.2.2 := fun t m => by
            simp only [List.mem_cons, List.not_mem_nil, or_false] at m
            rcases m with rfl
            · exact ⟨td27, h27, els_2_7⟩
        have cc2g3 := E2g2
        obtain ⟨us2g3, hl2g3, _, le2g3, _⟩ := cc2g3
        refine cat_lit (zs := [.ref t27]) hl2g3 (line_small (by show 1 ≤ 16777216; decide)) (line_small (by rw [List.length_map, le2g3]; show 7 + 1 ≤ 16777216; decide)) fun l2g3 G2g3 hz2g3 sz2g3 nz2g3 => ?_
        have E2g3 : EL85 G2g3 d l2g3 2 8 := E2g2.cat [(t27, "NoFit", "come 0 1 2 3 4 5")] (fun xs hx => by rw [hl2g3] at hx; injection hx with hx; injection hx with hx; rw [← hx]; exact hz2g3) sz2g3 (P27.ne nz2g3) ts2g3
        have P2g3 := P27.same sz2g3
        have kk := kk.trans (KeepD.of_same sz2g3)
        clear ts2g3 hl2g3 hz2g3 sz2g3 nz2g3 E2g2 le2g3 h27 td27 P27
        exact ⟨2, _, _, _, _, rfl, E2g3, by decide, by decide, P2g3, kk, fun _ => ca.symm⟩
      · have ca : av ≠ 2 := fun z => cc (decide_eq_true (by rw [z]))
        exact ⟨c, _, _, _, _, rfl, EL, m0, m9, PL, kk, fun _ => hc (by omega)⟩
    clear kk 
    obtain ⟨c, l, m, z3, z4, rfl, EL, m0, m9, PL, kk, hc⟩ := hM
    refine ⟨fun σ' G' => ∃ (c : Int) (l : Addr) (m : Nat) (z3 z4 : Option V), σ' = [some (.ref d), some (.int av), some (.ref l), z3, z4] ∧ EL85 G' d l c m ∧ 0 < m ∧ m ≤ 9 ∧ PoolAt G' d ∧ KeepD d H G' ∧ (av ≤ 3 → c = av), ?_, fun σ' G' hM => ?_⟩
    · refine ⟨_, rfl, rfl, _, rfl, ite2 (fun cc => ?_) (fun cc => ?_)⟩
      · have ca : av = 3 := V.int.inj (of_decide_eq_true cc)
        refine ⟨line_small (by show 2 ≤ 16777216; decide), fun t30 nt30 => ?_⟩
        have h30 := @upd_same G' t30 (.tup [.str "NoOrder", .str "middle"])
        have s30 := same_new (o := .tup [.str "NoOrder", .str "middle"]) nt30
        have P30 := PL.same s30
        have td30 := PL.ne nt30
        have kk := kk.trans (KeepD.of_same s30)
        generalize upd G' t30 (.tup [.str "NoOrder", .str "middle"]) = G30 at h30 P30 kk ⊢
        clear s30 nt30
        refine ⟨line_small (by show 2 ≤ 16777216; decide), fun t31 nt31 => ?_⟩
        have h31 := @upd_same G30 t31 (.tup [.str "NoFit", .str "near 0 1 2"])
        have s31 := same_new (o := .tup [.str "NoFit", .str "near 0 1 2"]) nt31
        have P31 := P30.same s31
        have td31 := P30.ne nt31
        have h30 := s31 _ _ h30
        have kk := kk.trans (KeepD.of_same s31)
        generalize upd G30 t31 (.tup [.str "NoFit", .str "near 0 1 2"]) = G31 at h31 P31 kk h30 ⊢
        clear s31 nt31
        have ts3g0 : ∀ t ∈ ([(t30, "NoOrder", "middle"), (t31, "NoFit", "near 0 1 2")] : List (Addr × Str × Str)), t.1 ≠ d ∧ G31 t.1 = some (.tup [.str t.2.1, .str t.2.2]) ∧ Els85 3 t.2.1 t.2.2 := fun t m => by
            simp only [List.mem_cons, List.not_mem_nil, or_false] at m
            rcases m with rfl | rfl
            · exact ⟨td30, h30, els_3_0⟩
            · exact ⟨td31, h31, els_3_1⟩
        refine ⟨line_small (by show 2 ≤ 16777216; decide), fun l3g0 nl3g0 => ?_⟩
        have E3g0 : EL85 (upd G31 l3g0 (.lst [.ref t30, .ref t31])) d l3g0 3 2 := ⟨[(t30, "NoOrder", "middle"), (t31, "NoFit", "near 0 1 2")], upd_same, P31.ne nl3g0, rfl, fun t m => ⟨(ts3g0 t m).1, same_new nl3g0 _ _ (ts3g0 t m).2.1, (ts3g0 t m).2.2⟩⟩
        have P3g0 := P31.new (o := .lst [.ref t30, .ref t31]) nl3g0
        have kk := kk.trans (KeepD.of_same (same_new (o := .lst [.ref t30, .ref t31]) nl3g0))
        generalize upd G31 l3g0 (.lst [.ref t30, .ref t31]) = G3g0 at E3g0 P3g0 kk ⊢
        clear ts3g0 nl3g0 h30 td30 P30 h31 td31 P31
        refine ⟨_, rfl, ?_⟩
        refine ⟨line_small (by show 2 ≤ 16777216; decide), fun t32 nt32 => ?_⟩
        have h32 := @upd_same G3g0 t32 (.tup [.str "NoFit", .str "come 0 1 2 3 4"])
        have s32 := same_new (o := .tup [.str "NoFit", .str "come 0 1 2 3 4"]) nt32
        have P32 := P3g0.same s32
        have td32 := P3g0.ne nt32
        have E3g0 := E3g0.same s32
        have kk := kk.trans (KeepD.of_same s32)
        generalize upd G3g0 t32 (.tup [.str "NoFit", .str "come 0 1 2 3 4"]) = G32 at h32 P32 kk E3g0 ⊢
        clear s32 nt32
        refine ⟨line_small (by show 2 ≤ 16777216; decide), fun t33 nt33 => ?_⟩
        have h33 := @upd_same G32 t33 (.tup [.str "NoFit", .str "drop 2 1 0"])
        have s33 := same_new (o := .tup [.str "NoFit", .str "drop 2 1 0"]) nt33
        have P33 := P32.same s33
        have td33 := P32.ne nt33
        have h32 := s33 _ _ h32
        have E3g0 := E3g0.same s33
        have kk := kk.trans (KeepD.of_same s33)
        generalize upd G32 t33 (.tup [.str "NoFit", .str "drop 2 1 0"]) = G33 at h33 P33 kk h32 E3g0 ⊢
        clear s33 nt33
        have ts3g1 : ∀ t ∈ ([(t32, "NoFit", "come 0 1 2 3 4"), (t33, "NoFit", "drop 2 1 0")] : List (Addr × Str × Str)), t.1 ≠ d ∧ G33 t.1 = some (.tup [.str t.2.1, .str t.2.2]) ∧ Els85 3 t.2.1 t.2.2 := fun t m => by
            simp only [List.mem_cons, List.not_mem_nil, or_false] at m
            rcases m with rfl | rfl
            · exact ⟨td32, h32, els_3_2⟩
            · exact ⟨td33, h33, els_3_3⟩
        have cc3g1 := E3g0
        obtain ⟨us3g1, hl3g1, _, le3g1, _⟩ := cc3g1
        refine cat_lit (zs := [.ref t32, .ref t33]) hl3g1 (line_small (by show 2 ≤ 16777216; decide)) (line_small (by rw [List.length_map, le3g1]; show 2 + 2 ≤ 16777216; decide)) fun l3g1 G3g1 hz3g1 sz3g1 nz3g1 => ?_
        have E3g1 : EL85 G3g1 d l3g1 3 4 := E3g0.cat [(t32, "NoFit", "come 0 1 2 3 4"), (t33, "NoFit", "drop 2 1 0")] (fun xs hx => by rw [hl3g1] at hx; injection hx with hx; injection hx with hx; rw [← hx]; exact hz3g1) sz3g1 (P33.ne nz3g1) ts3g1
        have P3g1 := P33.same sz3g1
        have kk := kk.trans (KeepD.of_same sz3g1)
        clear ts3g1 hl3g1 hz3g1 sz3g1 nz3g1 E3g0 le3g1 h32 td32 P32 h33 td33 P33
        exact ⟨3, _, _, _, _, rfl, E3g1, by decide, by decide, P3g1, kk, fun _ => ca.symm⟩
      · have ca : av ≠ 3 := fun z => cc (decide_eq_true (by rw [z]))
        exact ⟨c, _, _, _, _, rfl, EL, m0, m9, PL, kk, fun _ => hc (by omega)⟩
    clear kk 
    obtain ⟨c, l, m, z3, z4, rfl, EL, m0, m9, PL, kk, hc⟩ := hM
    have hc := hc (by omega)
    subst hc
    obtain ⟨ts, hl, ld, le, ht⟩ := EL
    have tl : (ts.map fun t => V.ref t.1).length = ts.length := List.length_map ..
    refine ⟨_, rfl, _, rfl, _, rfl, l, _, rfl, .inl (SqL.of hl), d, _, rfl, PL, by rw [tl]; omega, by rw [tl]; omega, fun v G2 v0 v1 P2 k2 => ?_⟩
    rw [tl] at v1
    obtain ⟨j, rfl⟩ := Int.eq_ofNat_of_zero_le v0
    have hj : j < ts.length := by omega
    have mt := List.getElem_mem hj
    have et : atI (ts.map fun t => V.ref t.1) ((j : Nat) : Int) = some (.ref ts[j].1) := atI_nat (by rw [List.getElem?_map, List.getElem?_eq_getElem hj]; rfl)
    obtain ⟨n1, n2, n3⟩ := ht _ mt
    refine ⟨l, _, _, .ref ts[j].1, rfl, rfl, SqL.of (k2 _ _ hl ld), et, ?_⟩
    have h2 := k2 _ _ n2 n1
    refine ⟨ts[j].1, _, rfl, .inl (.inl h2), rfl, _, _, rfl, _, _, rfl, rfl, ?_⟩
    refine ⟨_, rfl, "\t", _, rfl, rfl, line_small (by have := n3.2.1; show 1 + _ ≤ _; omega), _, rfl, line_small (by show 2 ≤ 16777216; decide), fun tp nt => ?_⟩
    exact q tp _ _ _ upd_same n3 (P2.new nt) (kk.trans (k2.trans (KeepD.of_same (same_new nt))))
end
end Fo
namespace Fo
open PySem PySem.Spec PyProof.Rows L2
/-! k85: all orders of four things -/
def ext4 (s : List Int) : List (List Int) := ((rg 4).filter fun k => !decide (k ∈ s)).map fun k => s ++ [k]
def allD : Nat → List (List Int)
  | 0 => [[]]
  | t + 1 => (allD t).flatMap ext4
theorem allD_len : (allD 4).length = 24 ∧ (allD 4).Nodup ∧ ∀ r ∈ allD 4, r.Perm (rg 4) := by decide +kernel
theorem allD_short : ∀ t, t ≤ 3 → (allD t).length ≤ 24 ∧ ∀ r ∈ allD t, r.length ≤ 4 := by decide +kernel
def spAfo : Sp := fun vs H Q _ => vs = [] ∧ ∀ (l : Addr) (ps : List (Addr × List Int)) (G : Hp), RP G l ps → rws ps = allD 4 → H l = none → (∀ p ∈ ps, H p.1 = none) → Same H G → Q (.ref l) G
section
variable {P : Program} {w : World} {K : PySem.W.Frag} {mg : Str → Option Value} {base : Heap}
theorem scAfo : FnScope ["found", "turn", "longer", "some", "k"] [] (defScope s_law_all_of_four) := ⟨rfl, rfl, rfl, by decide +kernel, rfl, by decide +kernel, by decide +kernel⟩
set_option maxHeartbeats 4000000 in
theorem ok_afo85 {f : Addr} {fd : FuncData} {k : Nat} (T : Df K mg "_law_all_of_four" s_law_all_of_four [] f fd) (B : Bi mg) : FnOk P w K mg base CX0 (k + 1) f fd [] spAfo := by
  refine T.F.ok scAfo (fun vs H Q E h => ?_) (fun cdv A outer s H vs Q E hr h => ?_)
  · obtain ⟨rfl, _⟩ := h
    rfl
  · obtain ⟨rfl, q⟩ := h
    refine ⟨_, 
      (pss_cons (ps_set (i := 0) scAfo.nd rfl (.inl rfl) (pe_lst (pa_cons (pe_lst pa_nil) pa_nil)))
      (pss_cons (ps_for PassesOwn.never rfl (pi_range1 (by rfl) B.range (pa_cons pe_int pa_nil)) (pg_name (i := 1) scAfo.nd rfl (.inl rfl))
        (pss_cons (ps_set (i := 2) scAfo.nd rfl (.inl rfl) (pe_lst pa_nil))
        (pss_cons (ps_for PassesOwn.never rfl (pi_list (pv 0)) (pg_name (i := 3) scAfo.nd rfl (.inr rfl))
          (pss_one (ps_set (i := 2) scAfo.nd rfl (.inl rfl) (pe_op op_cat (pv 2) (pe_lc (own := [("k", 4)]) (g := (gName 4)) (tt := (tTest (tOp (rIn K true) (tVar 4) (tVar 3)))) (te := (tOp rCat (tVar 3) (tLst (tCons (tVar 4) tNil)))) rfl scAfo.nd (pi_range1 (by rfl) B.range (pa_cons pe_int pa_nil)) (blkOk_by (N := ["found", "turn", "longer", "some", "k"]) (sc := defScope s_law_all_of_four) (by decide +kernel)) (fun _ _ _ _ _ => (pg_name (i := 4) scAfo.nd rfl (.inl rfl))) (fun _ _ _ _ _ => (pts_one (pt_cmpR op_notIn_seq (pv 4) (pv 3) (by rfl)))) (fun _ _ _ _ _ => (pe_op op_cat (pv 3) (pe_lst (pa_cons (pv 4) pa_nil)))))))))
        (pss_one (ps_set (i := 0) scAfo.nd rfl (.inl rfl) (pv 2))))))
      (pss_one (ps_ret (pv 0))))), ?_⟩
    refine ⟨line_small (by show 0 ≤ 16777216; decide), fun p0 n0 => ⟨line_small (by show 1 ≤ 16777216; decide), fun l0 nl0 => ?_⟩⟩
    have h0 := same_new (o := .lst [.ref p0]) nl0 _ _ (@upd_same H p0 (.lst []))
    have s0 := (same_new (o := .lst []) n0).trans (same_new (o := .lst [.ref p0]) nl0)
    have hl0 := @upd_same (upd H p0 (.lst [])) l0 (.lst [.ref p0])
    have nl0' : H l0 = none := (same_new (o := .lst []) n0).free nl0
    refine ⟨4, rfl, by decide, by decide, ?_⟩
    refine for_range (n := 4) (fun t σ G => ∃ (l : Addr) (ps : List (Addr × List Int)) (y1 y2 y3 y4 : Option V), σ = [some (.ref l), y1, y2, y3, y4] ∧ RP G l ps ∧ rws ps = allD t ∧ H l = none ∧ (∀ p ∈ ps, H p.1 = none) ∧ Same H G)
      ⟨l0, [(p0, [])], _, _, _, _, rfl, ⟨hl0, fun p m => by rw [List.mem_singleton.mp m]; exact h0⟩, rfl, nl0', (fun p m => by rw [List.mem_singleton.mp m]; exact n0), s0⟩ (fun t σ G ht hP => ?_) (fun σ G hP => ?_)
    · obtain ⟨l, ps, y1, y2, y3, y4, rfl, R, er, nl, np, sG⟩ := hP
      have sh := allD_short t (by omega)
      have pl : ps.length ≤ 24 := by
        have : (rws ps).length = ps.length := List.length_map ..
        rw [← this, er]
        exact sh.1
      refine ⟨line_small (by show 0 ≤ 16777216; decide), fun m0 nm0 => ?_⟩
      have s1 := same_new (o := .lst []) nm0
      have hm0 := @upd_same G m0 (.lst [])
      refine ⟨_, rfl, l, rfl, ⟨_, SqL.of (R.same s1).1⟩, ?_⟩
      refine for_list (xs := ps.map fun p => V.ref p.1) (fun i σ G2 => ∃ (m : Addr) (qs : List (Addr × List Int)) (y3 y4 : Option V), σ = [some (.ref l), some (.int (0 + (t : Int))), some (.ref m), y3, y4] ∧ Same G G2 ∧ RP G2 m qs ∧ rws qs = ((allD t).take i).flatMap ext4 ∧ H m = none ∧ (∀ p ∈ qs, H p.1 = none))
        ⟨m0, [], _, _, rfl, s1, ⟨hm0, fun _ m => absurd m List.not_mem_nil⟩, rfl, sG.free nm0, fun _ m => absurd m List.not_mem_nil⟩ (fun i σ G2 _ hP => ?_) (fun i x σ G2 hx hP => ?_) (fun σ G2 hP => ?_)
      · obtain ⟨m, qs, y3, y4, rfl, s2, _⟩ := hP
        exact SqL.of (s2 _ _ R.1)
      · obtain ⟨m, qs, y3, y4, rfl, s2, RQ, eq, nm, nq⟩ := hP
        obtain ⟨p, ep, rfl⟩ : ∃ p, ps[i]? = some p ∧ x = V.ref p.1 := by
          rw [List.getElem?_map] at hx
          cases h : ps[i]? with
          | none => rw [h] at hx; cases hx
          | some p => rw [h] at hx; cases hx; exact ⟨p, rfl, rfl⟩
        have mp := List.mem_of_getElem? ep
        have ep2 : (allD t)[i]? = some p.2 := by
          rw [← er]
          show (ps.map (·.2))[i]? = _
          rw [List.getElem?_map, ep]
          rfl
        have hp2 := s2 _ _ (R.2 p mp)
        have pl2 : p.2.length ≤ 4 := sh.2 _ (List.mem_of_getElem? ep2)
        refine ⟨_, rfl, 4, rfl, by decide, by decide, fun z nz => ?_⟩
        refine lc_range (lo := 0) (n := 4) (fun j C => ∃ us : List (Addr × List Int), C z = some (.lst (us.map fun p => V.ref p.1)) ∧ us.map (·.2) = ((rg j).filter fun k => !decide (k ∈ p.2)).map (fun k => p.2 ++ [k]) ∧ us.length ≤ j ∧ (∀ u ∈ us, C u.1 = some (.lst (u.2.map V.int)) ∧ H u.1 = none ∧ u.1 ≠ z) ∧ Same G2 C)
          ⟨[], upd_same, rfl, Nat.le_refl _, (fun _ m => absurd m List.not_mem_nil), same_new nz⟩ (fun j C hj hQ => ?_) (fun C hQ => ?_)
        · obtain ⟨us, hz, eu, ul, hu, sC⟩ := hQ
          have hpC := sC _ _ hp2
          have ft : ((rg (j + 1)).filter fun k => !decide (k ∈ p.2)) = ((rg j).filter fun k => !decide (k ∈ p.2)) ++ (if (j : Int) ∈ p.2 then [] else [(j : Int)]) := by
            rw [rg_succ, List.filter_append]
            congr 1
            show List.filter _ [(j : Int)] = _
            rw [List.filter_cons]
            by_cases h : (j : Int) ∈ p.2
            · rw [decide_eq_true h, if_pos h]; rfl
            · rw [decide_eq_false h, if_neg h]; rfl
          refine ⟨rfl, _, rfl, _, rfl, p.1, _, rfl, .inl (SqL.of hpC), rfl, flatI _, ?_⟩
          rw [inV_ints, show (0 + (j : Int)) = (j : Int) by omega]
          by_cases c : (j : Int) ∈ p.2
          rotate_left
          · rw [decide_eq_false c]
            refine ⟨true, rfl, ?_⟩
            refine iteT ?_
            refine ⟨_, rfl, _, rfl, line_small (by show 1 ≤ 16777216; decide), fun b nb => ?_⟩
            refine ⟨p.1, b, _, _, rfl, rfl, same_new nb _ _ hpC, upd_same, line_small (by rw [List.length_map]; show _ + 1 ≤ _; omega), fun u nu => ?_⟩
            have sN := (same_new (o := .lst [.int (j : Int)]) nb).trans (same_new (o := .lst (p.2.map V.int ++ [.int (j : Int)])) nu)
            have hu2 := @upd_same (upd C b (.lst [.int (j : Int)])) u (.lst (p.2.map V.int ++ [.int (j : Int)]))
            have nuH : H u = none := sG.free (s2.free (sC.free ((same_new nb).free nu)))
            have sGz := sN _ _ hz
            generalize upd (upd C b (.lst [.int (j : Int)])) u (.lst (p.2.map V.int ++ [.int (j : Int)])) = C2 at sN hu2 sGz ⊢
            refine ⟨_, sGz, line_lt (by rw [List.length_map]; omega), us ++ [(u, p.2 ++ [(j : Int)])], ?_, ?_, by rw [List.length_append]; show us.length + 1 ≤ _; omega, fun v m => ?_, fun y o e => ?_⟩
            · rw [upd_same, List.map_append]
              rfl
            · rw [ft, if_neg c, List.map_append, List.map_append, eu]
              rfl
            · have hz' := sGz
              rcases List.mem_append.mp m with m | m
              · obtain ⟨v1, v2, v3⟩ := hu v m
                exact ⟨by rw [upd_ne v3]; exact sN _ _ v1, v2, v3⟩
              · rw [List.mem_singleton.mp m]
                have uz : u ≠ z := fun e => by
                  rw [e] at nu
                  have := same_new (o := .lst [.int (j : Int)]) nb _ _ hz
                  rw [this] at nu
                  cases nu
                exact ⟨by rw [upd_ne uz, hu2, List.map_append]; rfl, nuH, uz⟩
            · rw [upd_ne (ne_of_none e nz)]
              exact sN _ _ (sC _ _ e)
          · rw [decide_eq_true c]
            refine ⟨false, rfl, ?_⟩
            refine iteF ?_
            exact ⟨us, hz, by rw [ft, if_pos c, List.append_nil, eu], by omega, hu, sC⟩
        · obtain ⟨us, hz, eu, ul, hu, sC⟩ := hQ
          have hm2 := sC _ _ RQ.1
          have ql : qs.length ≤ 24 * 4 := by
            have e1 : (rws qs).length = qs.length := List.length_map ..
            rw [← e1, eq, List.length_flatMap]
            have e2 : ∀ r : List Int, (ext4 r).length ≤ 4 := fun r => by
              unfold ext4
              rw [List.length_map]
              exact Nat.le_trans (List.length_filter_le _ _) (by rw [rg_len]; exact Nat.le_refl _)
            have e3 : (((allD t).take i).map fun a => (ext4 a).length).sum ≤ (((allD t).take i).map fun a => (ext4 a).length).length * 4 := sum_le fun x hx => by
              obtain ⟨r, _, rfl⟩ := List.mem_map.mp hx
              exact e2 r
            rw [List.length_map, List.length_take] at e3
            have := sh.1
            omega
          refine ⟨m, z, _, _, rfl, rfl, hm2, hz, line_small (by rw [List.length_map, List.length_map]; omega), fun v nv => ?_⟩
          have sv := same_new (o := .lst ((qs.map fun p => V.ref p.1) ++ (us.map fun p => V.ref p.1))) nv
          refine ⟨v, qs ++ us, _, _, rfl, s2.trans (sC.trans sv), ⟨by rw [upd_same, List.map_append], fun q m => ?_⟩, ?_, sG.free (s2.free (sC.free nv)), fun q m => ?_⟩
          · rcases List.mem_append.mp m with m | m
            · exact sv _ _ (sC _ _ (RQ.2 q m))
            · exact sv _ _ (hu q m).1
          · show (qs ++ us).map (·.2) = _
            rw [List.map_append, show qs.map (·.2) = rws qs from rfl, eq, eu, List.take_add_one, ep2, List.flatMap_append]
            show _ ++ _ = _ ++ (ext4 p.2 ++ [])
            rw [List.append_nil]
            rfl
          · rcases List.mem_append.mp m with m | m
            · exact nq q m
            · exact (hu q m).2.1
      · obtain ⟨m, qs, y3, y4, rfl, s2, RQ, eq, nm, nq⟩ := hP
        have hpl : (ps.map fun p => V.ref p.1).length = ps.length := List.length_map ..
        rw [hpl, show ps.length = (allD t).length by rw [← er]; exact (List.length_map ..).symm, List.take_length] at eq
        exact ⟨_, rfl, m, qs, _, _, _, _, rfl, RQ, eq, nm, nq, sG.trans s2⟩
    · obtain ⟨l, ps, y1, y2, y3, y4, rfl, R, er, nl, np, sG⟩ := hP
      exact ⟨_, rfl, q l ps G R er nl np sG⟩
end
end Fo
namespace Fo
open PySem PySem.Spec PyProof.Rows L2
theorem eqv_nilI (a : List Int) : PyData.eqv (dL a) (dL []) = decide (a = []) := by
  cases a with
  | nil => rfl
  | cons x l =>
    rw [decide_eq_false (fun z => by cases z)]
    simp [dL, PyData.eqv, PyData.eqvAll]
theorem cut_takeR (xs : List V) (k : Nat) : cutV xs none (some (k : Int)) = xs.take k := by
  unfold cutV
  rw [HT.sIx_none, HT.sIx_nat, List.drop_zero, Nat.sub_zero]
  by_cases hh : k ≤ xs.length
  · rw [Nat.min_eq_left hh]
  · rw [Nat.min_eq_right (by omega), List.take_length, List.take_of_length_le (by omega)]
/-- the orders that the law holds of a desk -/
structure RO (H : Hp) (O : Addr) (w : Str) (n : Nat) (ps : List (Addr × List Int)) : Prop where
  hO : RP H O ps
  wy : IsWay w
  n1 : 1 ≤ n
  n8 : n ≤ 8
  ord : ∀ p ∈ ps, IsOrd n p.2
  le : ps.length ≤ 120
theorem RO.same {H H' : Hp} {O : Addr} {w : Str} {n : Nat} {ps : List (Addr × List Int)} (h : RO H O w n ps) (s : Same H H') : RO H' O w n ps := ⟨h.hO.same s, h.wy, h.n1, h.n8, h.ord, h.le⟩
theorem RO.keepT {H H' : Hp} {O : Addr} {w : Str} {n : Nat} {ps : List (Addr × List Int)} (h : RO H O w n ps) (s : KeepT H H') : RO H' O w n ps := ⟨s.rp h.hO, h.wy, h.n1, h.n8, h.ord, h.le⟩
theorem apF_perm {w : Str} {n : Nat} {rs qs : List (List Int)} (hp : rs.Perm qs) (ho : ∀ r ∈ rs, IsOrd n r) (hn : 1 ≤ n) (nd : rs.Nodup) : apF w rs = apF w qs := by
  have hm := prs_perm (w := w) hp ho hn nd
  unfold apF
  by_cases c : prs w rs rs.length = []
  · have c2 : prs w qs qs.length = [] := by
      cases e : prs w qs qs.length with
      | nil => rfl
      | cons y l =>
        have := (hm y).mpr (by rw [e]; exact List.mem_cons_self)
        rw [c] at this
        cases this
    rw [if_pos c, if_pos c2]
  · have c2 : prs w qs qs.length ≠ [] := fun z => by
      cases e : prs w rs rs.length with
      | nil => exact c e
      | cons y l =>
        have := (hm y).mp (by rw [e]; exact List.mem_cons_self)
        rw [z] at this
        cases this
    rw [if_neg c, if_neg c2]
    obtain ⟨m, m1, m2⟩ := leI_ex c
    rw [leI_of m1 m2, leI_of ((hm m).mp m1) (fun y hy => m2 y ((hm y).mpr hy))]
def spStd85 (CD CL Pt : Addr) : Sp := fun vs H Q _ => ∃ (b a e O : Addr) (X : List Addr) (w : Str) (n : Nat) (d : Int) (ss : List (List (List Int))) (ps : List (Addr × List Int)), vs = [.ref b, .str w, .ref O] ∧ DAt CD CL Pt H b a e X w n d (srt (rws ps)) ss ∧ RO H O w n ps ∧ (rws ps).Nodup ∧ ∀ H', KeepT H H' → Q (.bl true) H'
section
variable {P : Program} {w : World} {K : PySem.W.Frag} {mg : Str → Option Value} {base : Heap}
theorem scStd85 : FnScope ["desk", "way", "orders", "far", "k", "other"] ["desk", "way", "orders"] (defScope s_law_stands) := ⟨rfl, rfl, rfl, by decide +kernel, rfl, by decide +kernel, by decide +kernel⟩
set_option maxHeartbeats 4000000 in
theorem ok_std85 {f f1 f2 f3 C_Desk C_Lister Pt : Addr} {fd d1 d2 d3 : FuncData} {k : Nat} (T : Df K mg "_law_stands" s_law_stands ["desk", "way", "orders"] f fd) (T__law_far : Df K mg "_law_far" s_law_far ["way", "one", "other"] f1 d1) (T__law_said : Df K mg "_law_said" s_law_said ["desk", "row"] f2 d2) (T__law_list_written : Df K mg "_law_list_written" s_law_list_written ["orders"] f3 d3) (G__law_far : FnOk P w K mg base CX0 k f1 d1 ["way", "one", "other"] spFar) (G__law_said : FnOk P w K mg base CX0 k f2 d2 ["desk", "row"] (spSaidD C_Desk C_Lister Pt)) (G__law_list_written : FnOk P w K mg base CX0 k f3 d3 ["orders"] spWrL) (B : Bi mg) : FnOk P w K mg base CX0 (k + 1) f fd ["desk", "way", "orders"] (spStd85 C_Desk C_Lister Pt) := by
  refine T.F.ok scStd85 (fun vs H Q E h => ?_) (fun cdv A outer s H vs Q E hr h => ?_)
  · obtain ⟨b, a, e, O, X, w, n, d, ss, ps, rfl, _⟩ := h
    rfl
  · obtain ⟨b, a, e, O, X, wy, n, d, ss, ps, rfl, A0, S, nd, q⟩ := h
    refine ⟨_, 
      (pss_cons (ps_set (i := 3) scStd85.nd rfl (.inl rfl) (pe_lst pa_nil))
      (pss_cons (ps_for PassesOwn.never rfl (pi_range1 (by rfl) B.range (pa_cons (pe_callB call_len_seq (by rfl) B.len PySem.boot_len (pa_cons (pv 2) pa_nil)) pa_nil)) (pg_name (i := 4) scStd85.nd rfl (.inr rfl))
        (pss_one (ps_set (i := 3) scStd85.nd rfl (.inl rfl) (pe_op op_cat (pv 3) (pe_lc (own := [("other", 5)]) (g := (gName 5)) (tt := tYes) (te := (tCall spFar [] E0 (tCons (tVar 1) (tCons (tOp (rIxL K) (tVar 2) (tVar 4)) (tCons (tVar 5) tNil))))) rfl scStd85.nd (pi_list (pe_slice sl_list (pv 2) po_none (po_some (pv 4)))) (blkOk_by (N := ["desk", "way", "orders", "far", "k", "other"]) (sc := defScope s_law_stands) (by decide +kernel)) (fun _ _ _ _ _ => (pg_name (i := 5) scStd85.nd rfl (.inl rfl))) (fun _ _ _ _ _ => pts_nil) (fun _ _ _ _ _ => (pe_call G__law_far hr (by rfl) T__law_far.g T__law_far.F.kp T__law_far.b .nil pass0 (pa_cons (pv 1) (pa_cons (pe_ix ix_list (pv 2) (pv 4) (fun _ _ => rfl)) (pa_cons (pv 5) pa_nil))))))))))
      (pss_cons (ps_if (pt_cmpR op_ne (pe_call G__law_said hr (by rfl) T__law_said.g T__law_said.F.kp T__law_said.b .nil pass0 (pa_cons (pv 0) (pa_cons pe_str pa_nil))) (pe_ifExp (pt_cmpR (op_neD hr.units) (pv 3) (pe_lst pa_nil) (nomark _)) (pe_callTy call_str_int (by rfl) B.str (by decide +kernel) (pa_cons (pe_callB (cr_min rfl) (by rfl) B.min (by decide +kernel) (pa_cons (pv 3) pa_nil)) pa_nil)) pe_str) (nomark _))
        (pss_one (ps_ret pe_bl))
        pss_nil)
      (pss_one (ps_ret (pe_cmpR op_eq (pe_call G__law_said hr (by rfl) T__law_said.g T__law_said.F.kp T__law_said.b .nil pass0 (pa_cons (pv 0) (pa_cons pe_str pa_nil))) (pe_call G__law_list_written hr (by rfl) T__law_list_written.g T__law_list_written.F.kp T__law_list_written.b .nil pass0 (pa_cons (pe_callB (cr_sortedR hr.units) (by rfl) B.sorted (by decide +kernel) (pa_cons (pv 2) pa_nil)) pa_nil)) (nomark _))))))), ?_⟩
    refine ⟨line_small (by show 0 ≤ 16777216; decide), fun F nF => ?_⟩
    have sF := same_new (o := .lst []) nF
    have hF := @upd_same H F (.lst [])
    have SF := S.same sF
    generalize upd H F (.lst []) = G0 at sF hF SF ⊢
    have hpl : (ps.map fun p => V.ref p.1).length = ps.length := List.length_map ..
    have hle := S.le
    refine ⟨_, rfl, O, _, rfl, .inl (SqL.of SF.hO.1), _, rfl, by omega, by rw [hpl]; omega, ?_⟩
    rw [hpl, Int.toNat_natCast]
    refine for_range (n := ps.length) (fun i σ G => ∃ (F : Addr) (y7 y8 : Option V), σ = [some (.ref b), some (.str wy), some (.ref O), some (.ref F), y7, y8] ∧ G F = some (.lst ((prs wy (rws ps) i).map V.int)) ∧ Same H G)
      ⟨F, _, _, rfl, hF, sF⟩ (fun i σ G hi hP => ?_) (fun σ G hP => ?_)
    · obtain ⟨F, y7, y8, rfl, hF, sG⟩ := hP
      have SG := S.same sG
      rw [show (0 + (i : Int)) = (i : Int) by omega]
      obtain ⟨x, ex⟩ : ∃ x, ps[i]? = some x := ⟨_, List.getElem?_eq_getElem hi⟩
      have exr : (rws ps)[i]? = some x.2 := by
        show (ps.map (·.2))[i]? = _
        rw [List.getElem?_map, ex]
        rfl
      have mx := List.mem_of_getElem? ex
      refine ⟨_, rfl, _, rfl, _, rfl, (i : Int), rfl, O, _, rfl, SqL.of SG.hO.1, fun c nc => ?_⟩
      have sc := same_new (o := .lst (cutV (ps.map fun p => V.ref p.1) none (some (i : Int)))) nc
      have hc : (upd G c (.lst (cutV (ps.map fun p => V.ref p.1) none (some (i : Int))))) c = some (.lst ((ps.take i).map fun p => V.ref p.1)) := by
        rw [upd_same, cut_takeR, List.map_take]
      generalize upd G c (.lst (cutV (ps.map fun p => V.ref p.1) none (some (i : Int)))) = G1 at sc hc ⊢
      have S1 := SG.same sc
      refine ⟨c, rfl, ⟨_, SqL.of hc⟩, fun N nN => ?_⟩
      refine lc_list (K := K) (a := c) (xs := (ps.take i).map fun p => V.ref p.1) (fun m G2 => G2 N = some (.lst ((((rws (ps.take i)).take m).map (farW wy x.2)).map V.int)) ∧ Same G1 G2) ⟨upd_same, same_new nN⟩ (fun m G2 _ hP => SqL.of (hP.2 _ _ hc)) (fun m v G2 hv hP => ?_) (fun G2 hP => ?_)
      · obtain ⟨hN, s2⟩ := hP
        obtain ⟨z, ez, rfl⟩ : ∃ z, (ps.take i)[m]? = some z ∧ v = V.ref z.1 := by
          rw [List.getElem?_map] at hv
          cases h : (ps.take i)[m]? with
          | none => rw [h] at hv; cases hv
          | some z => rw [h] at hv; cases hv; exact ⟨z, rfl, rfl⟩
        have mz : z ∈ ps := List.mem_of_mem_take (List.mem_of_getElem? ez)
        have S2 := S1.same s2
        have ezr : (rws (ps.take i))[m]? = some z.2 := by
          show ((ps.take i).map (·.2))[m]? = _
          rw [List.getElem?_map, ez]
          rfl
        refine ⟨rfl, _, rfl, _, rfl, _, rfl, O, _, (i : Int), .ref x.1, rfl, rfl, SqL.of S2.hO.1, atI_nat (by rw [List.getElem?_map, ex]; rfl), _, rfl, wy, x.1, z.1, n, x.2, z.2, rfl, S.wy, S2.hO.2 x mx, S2.hO.2 z mz, S.ord x mx, S.ord z mz, S.n1, by have := S.n8; omega, fun G3 s3 => ?_⟩
        refine ⟨_, s3 _ _ hN, line_lt (by rw [List.length_map, List.length_map, List.length_take]; have : (rws (ps.take i)).length ≤ ps.length := (by show ((ps.take i).map (·.2)).length ≤ _; rw [List.length_map, List.length_take]; omega); omega), ?_, fun y o e => ?_⟩
        · rw [upd_same, List.take_add_one, ezr, List.map_append, List.map_append]
          rfl
        · rw [upd_ne (ne_of_none e nN)]
          exact s3 _ _ (s2 _ _ e)
      · obtain ⟨hN, s2⟩ := hP
        have er : rws (ps.take i) = (rws ps).take i := by
          show (ps.take i).map (·.2) = (ps.map (·.2)).take i
          rw [List.map_take]
        have hlr : (rws ps).length = ps.length := List.length_map ..
        have eN : (rws (ps.take i)).take (((ps.take i).map fun p => V.ref p.1).length) = (rws ps).take i := by
          rw [er, List.length_map]
          exact List.take_of_length_le (by rw [List.length_take, List.length_take, hlr]; omega)
        rw [eN] at hN
        have hF2 := s2 _ _ (sc _ _ hF)
        have hpr := prs_len (w := wy) (rs := rws ps) i
        have hii : i * i ≤ 120 * 120 := Nat.mul_le_mul (by omega) (by omega)
        refine ⟨F, N, _, _, rfl, rfl, hF2, hN, line_small (by rw [List.length_map, List.length_map, List.length_map, List.length_take, hlr]; omega), fun p np => ?_⟩
        refine ⟨p, _, _, rfl, ?_, (sG.trans sc).trans (s2.trans (same_new np))⟩
        rw [upd_same, prs_at exr, List.map_append]
    · obtain ⟨F, y7, y8, rfl, hF, sG⟩ := hP
      have A1 := A0.same sG
      have S1 := S.same sG
      refine ⟨_, rfl, b, a, e, X, wy, n, d, srt (rws ps), ss, .str "apart", .str "apart", rfl, A1.D, A1.L, A1.le, A1.ls, A1.nd, A1.T, .str _, (fun s e => by injection e with e; rw [← e]; decide), A1.aX, A1.bX, ?_⟩
      rw [show sayO wy n d (srt (rws ps)) ss (.str "apart") = .txt (apF wy (srt (rws ps))) from bare_say (by rfl)]
      intro G1 k1
      have S2 := S1.keepT k1
      have A2 := A1.keep k1
      have hF2 := k1.lst hF
      have hlr : (rws ps).length = ps.length := List.length_map ..
      have eo : apF wy (srt (rws ps)) = apF wy (rws ps) := (apF_perm (srt_perm _).symm (fun r hr => by
        obtain ⟨p, mp, rfl⟩ := List.mem_map.mp hr
        exact S.ord p mp) S.n1 nd).symm
      rw [eo]
      have kT : KeepT H G1 := (KeepT.of_same sG).trans k1
      refine ⟨_, rfl, line_small (by show 0 ≤ 16777216; decide), fun z nz => ?_⟩
      have sz := same_new (o := .lst []) nz
      refine ⟨dL (prs wy (rws ps) ps.length), dL [], .lst (SqL.of (sz _ _ hF2)) (dp_ints _), .lst (SqL.of upd_same) .nil, shaped_list _, rfl, _, rfl, ?_⟩
      rw [eqv_nilI]
      have kz := kT.trans (KeepT.of_same sz)
      have A3 := A2.same sz
      have S3 := S2.same sz
      have hF3 := sz _ _ hF2
      clear A0 A1 A2 S1 S2 hF hF2 sG k1 kT SF sF nz
      generalize upd G1 z (.lst []) = G3 at kz A3 S3 hF3 ⊢
      by_cases c : prs wy (rws ps) ps.length = []
      · rw [decide_eq_true c]
        refine iteF ?_
        have e0 : apF wy (rws ps) = "none" := by
          unfold apF
          rw [hlr, if_pos c]
        refine ⟨rfl, _, rfl, ?_⟩
        rw [e0, decide_eq_true rfl]
        refine iteF ?_
        refine ⟨_, rfl, b, a, e, X, wy, n, d, srt (rws ps), ss, .str "list", .str "list", rfl, A3.D, A3.L, A3.le, A3.ls, A3.nd, A3.T, .str _, (fun s e => by injection e with e; rw [← e]; decide), A3.aX, A3.bX, ?_⟩
        rw [say_list]
        intro G4 k4
        have S4 := S3.keepT k4
        refine ⟨_, rfl, O, ps, rfl, SqL.of S4.hO.1, fun p m => .lst (SqL.of (S4.hO.2 p m)) (dp_ints _), fun M nM => ?_⟩
        have sM := same_new (o := .lst ((rowsR ps).map fun p => V.ref p.1)) nM
        have RM : RP (upd G4 M (.lst ((rowsR ps).map fun p => V.ref p.1))) M (rowsR ps) := ⟨upd_same, fun p m => by
          have m' := (rowsR_perm ps).mem_iff.mp m
          exact sM _ _ (S4.hO.2 p m')⟩
        generalize upd G4 M (.lst ((rowsR ps).map fun p => V.ref p.1)) = G5 at sM RM ⊢
        have er : rws (rowsR ps) = srt (rws ps) := row_srt ps
        refine ⟨M, _, _, n, rfl, ⟨RM.two.1, RM.two.2, fun r hr => ?_, S.n1, by have := S.n8; omega⟩, ?_, fun G6 s6 => ?_⟩
        · rw [er] at hr
          obtain ⟨p, mp, rfl⟩ := List.mem_map.mp ((srt_perm _).mem_iff.mp hr)
          exact S.ord p mp
        · rw [er, (srt_perm _).length_eq, hlr]
          omega
        rw [er]
        refine ⟨rfl, ?_⟩
        rw [decide_eq_true rfl]
        exact q G6 ((kz.trans k4).trans (KeepT.of_same (sM.trans s6)))
      · rw [decide_eq_false c]
        refine iteT ⟨_, rfl, F, _, rfl, SqL.of hF3, List.length_pos_iff.mpr c, fun m m1 m2 => ⟨m, rfl, ?_, ?_⟩⟩
        · have h1 := prs_99 S.wy (fun r hr => by
            obtain ⟨p, mp, rfl⟩ := List.mem_map.mp hr
            exact S.ord p mp) S.n1 S.n8 m m1
          have h2 := prs_nn m m1
          exact log_big (by omega)
        have e0 : apF wy (rws ps) = decT m := by
          unfold apF
          rw [hlr, if_neg c, leI_of m1 m2]
        refine ⟨rfl, _, rfl, ?_⟩
        rw [e0, show (decide (V.str (decT m) = V.str (toString m))) = true from decide_eq_true rfl]
        refine iteF ?_
        refine ⟨_, rfl, b, a, e, X, wy, n, d, srt (rws ps), ss, .str "list", .str "list", rfl, A3.D, A3.L, A3.le, A3.ls, A3.nd, A3.T, .str _, (fun s e => by injection e with e; rw [← e]; decide), A3.aX, A3.bX, ?_⟩
        rw [say_list]
        intro G4 k4
        have S4 := S3.keepT k4
        refine ⟨_, rfl, O, ps, rfl, SqL.of S4.hO.1, fun p m => .lst (SqL.of (S4.hO.2 p m)) (dp_ints _), fun M nM => ?_⟩
        have sM := same_new (o := .lst ((rowsR ps).map fun p => V.ref p.1)) nM
        have RM : RP (upd G4 M (.lst ((rowsR ps).map fun p => V.ref p.1))) M (rowsR ps) := ⟨upd_same, fun p m => by
          have m' := (rowsR_perm ps).mem_iff.mp m
          exact sM _ _ (S4.hO.2 p m')⟩
        generalize upd G4 M (.lst ((rowsR ps).map fun p => V.ref p.1)) = G5 at sM RM ⊢
        have er : rws (rowsR ps) = srt (rws ps) := row_srt ps
        refine ⟨M, _, _, n, rfl, ⟨RM.two.1, RM.two.2, fun r hr => ?_, S.n1, by have := S.n8; omega⟩, ?_, fun G6 s6 => ?_⟩
        · rw [er] at hr
          obtain ⟨p, mp, rfl⟩ := List.mem_map.mp ((srt_perm _).mem_iff.mp hr)
          exact S.ord p mp
        · rw [er, (srt_perm _).length_eq, hlr]
          omega
        rw [er]
        refine ⟨rfl, ?_⟩
        rw [decide_eq_true rfl]
        exact q G6 ((kz.trans k4).trans (KeepT.of_same (sM.trans s6)))
end
end Fo
namespace Fo
open PySem PySem.Spec PyProof.Rows L2
/-- the lists ahead of one that came row by row -/
def back (ps : List (Addr × List Int)) : List (List (List Int)) := (List.range ps.length).map fun k => srt (rws (ps.take k))
theorem back_take {ps : List (Addr × List Int)} {m : Nat} (h : m < ps.length) : back (ps.take (m + 1)) = back (ps.take m) ++ [srt (rws (ps.take m))] := by
  unfold back
  have l1 : (ps.take (m + 1)).length = m + 1 := by rw [List.length_take]; omega
  have l2 : (ps.take m).length = m := by rw [List.length_take]; omega
  rw [l1, l2, List.range_succ, List.map_append]
  congr 1
  · refine List.map_congr_left fun k hk => ?_
    have := List.mem_range.mp hk
    rw [List.take_take, List.take_take, Nat.min_eq_left (by omega), Nat.min_eq_left (by omega)]
  · show [srt (rws ((ps.take (m + 1)).take m))] = _
    rw [List.take_take, Nat.min_eq_left (by omega)]
theorem back_nil : back [] = [] := rfl
/-- all but a Lister's own stays -/
def KR (a e : Addr) (H H' : Hp) : Prop := ∀ Hb, KeepT Hb H → Hb a = none → Hb e = none → KeepT Hb H'
theorem KR.refl {a e : Addr} (H : Hp) : KR a e H H := fun _ k _ _ => k
theorem KR.keepT {a e : Addr} {H G G' : Hp} (r : KR a e H G) (k : KeepT G G') : KR a e H G' := fun Hb h1 h2 h3 => (r Hb h1 h2 h3).trans k
theorem KR.kpl {a e : Addr} {H G G' : Hp} (r : KR a e H G) (k : KpL a e G G') : KR a e H G' := fun Hb h1 h2 h3 => (r Hb h1 h2 h3).kplD k h2 h3
theorem RO.kpl {H H' : Hp} {CD CL Pt O b a e : Addr} {X : List Addr} {w w' : Str} {n n' : Nat} {d' : Int} {ps : List (Addr × List Int)} {rs : List (List Int)} {ss : List (List (List Int))} (S : RO H O w n ps) (h : DAt CD CL Pt H b a e X w' n' d' rs ss) (k : KpL a e H H') (eO : e ≠ O) : RO H' O w n ps := by
  obtain ⟨dx, t, qs, sk, ha, he, _⟩ := h.L.ex
  have ka : ∀ {x : Addr} {xs : List V}, H x = some (.lst xs) → x ≠ a := fun hx z => by rw [z, ha] at hx; cases hx
  have ki : ∀ {x : Addr} {m : Nat} {xs : List Int}, H x = some (.lst (xs.map V.int)) → IsOrd m xs → 1 ≤ m → x ≠ e := fun {x m xs} hx o hm z => by
    rw [z, he] at hx
    injection hx with hx
    injection hx with hx
    have hl := o.len
    cases xs with
    | nil => simp at hl; omega
    | cons y ys =>
      cases sk with
      | nil => cases hx
      | cons q r => cases hx
  exact ⟨⟨k _ _ S.hO.1 (ka S.hO.1) eO.symm, fun p m => k _ _ (S.hO.2 p m) (ka (S.hO.2 p m)) (ki (S.hO.2 p m) (S.ord p m) S.n1)⟩, S.wy, S.n1, S.n8, S.ord, S.le⟩
def spGon (CD CL Pt : Addr) : Sp := fun vs H Q _ => ∃ (b a e O : Addr) (X : List Addr) (w : Str) (n : Nat) (ps : List (Addr × List Int)), vs = [.ref b, .ref O] ∧ DAt CD CL Pt H b a e X w n 1 (srt (rws ps)) (back ps) ∧ RO H O w n ps ∧ (rws ps).Nodup ∧ e ≠ O ∧ ∀ (H' : Hp) (rs : List (List Int)) (ss : List (List (List Int))), DAt CD CL Pt H' b a e X w n 1 rs ss → KR a e H H' → Q (.bl true) H'
section
variable {P : Program} {w : World} {K : PySem.W.Frag} {mg : Str → Option Value} {base : Heap}
theorem scGon : FnScope ["desk", "orders", "k", "left"] ["desk", "orders"] (defScope s_law_goes_on) := ⟨rfl, rfl, rfl, by decide +kernel, rfl, by decide +kernel, by decide +kernel⟩
set_option maxHeartbeats 4000000 in
theorem ok_gon85 {f f1 f2 f3 C_Desk C_Lister Pt : Addr} {fd d1 d2 d3 : FuncData} {k : Nat} (T : Df K mg "_law_goes_on" s_law_goes_on ["desk", "orders"] f fd) (T__law_said : Df K mg "_law_said" s_law_said ["desk", "row"] f1 d1) (T__law_list_written : Df K mg "_law_list_written" s_law_list_written ["orders"] f2 d2) (T__law_written : Df K mg "_law_written" s_law_written ["order"] f3 d3) (G__law_said : FnOk P w K mg base CX0 k f1 d1 ["desk", "row"] (spSaidD C_Desk C_Lister Pt)) (G__law_list_written : FnOk P w K mg base CX0 k f2 d2 ["orders"] spWrL) (G__law_written : FnOk P w K mg base CX0 k f3 d3 ["order"] spWr) (B : Bi mg) : FnOk P w K mg base CX0 (k + 1) f fd ["desk", "orders"] (spGon C_Desk C_Lister Pt) := by
  refine T.F.ok scGon (fun vs H Q E h => ?_) (fun cdv A outer s H vs Q E hr h => ?_)
  · obtain ⟨b, a, e, O, X, w, n, ps, rfl, _⟩ := h
    rfl
  · obtain ⟨b, a, e, O, X, wy, n, ps, rfl, A0, S0, nd, eO, q⟩ := h
    refine ⟨_, 
      (pss_cons (ps_for PassesOwn.never rfl (pi_range1 (by rfl) B.range (pa_cons (pe_callB call_len_seq (by rfl) B.len PySem.boot_len (pa_cons (pv 1) pa_nil)) pa_nil)) (pg_name (i := 2) scGon.nd rfl (.inl rfl))
        (pss_cons (ps_set (i := 3) scGon.nd rfl (.inl rfl) (pe_callB (cr_sortedR hr.units) (by rfl) B.sorted (by decide +kernel) (pa_cons (pe_slice sl_list (pv 1) po_none (po_some (pe_op op_sub (pe_op op_sub (pe_callB call_len_seq (by rfl) B.len PySem.boot_len (pa_cons (pv 1) pa_nil)) (pv 2)) pe_int))) pa_nil)))
        (pss_one (ps_if (PW.pt (pw_or (pt_cmpR op_ne (pe_call G__law_said hr (by rfl) T__law_said.g T__law_said.F.kp T__law_said.b .nil pass0 (pa_cons (pv 0) (pa_cons pe_str pa_nil))) pe_str (nomark _)) (pw_or1 (pt_cmpR op_ne (pe_call G__law_said hr (by rfl) T__law_said.g T__law_said.F.kp T__law_said.b .nil pass0 (pa_cons (pv 0) (pa_cons pe_str pa_nil))) (pe_call G__law_list_written hr (by rfl) T__law_list_written.g T__law_list_written.F.kp T__law_list_written.b .nil pass0 (pa_cons (pv 3) pa_nil)) (nomark _)))))
          (pss_one (ps_ret pe_bl))
          pss_nil))))
      (pss_cons (ps_if (pt_cmpR op_ne (pe_call G__law_said hr (by rfl) T__law_said.g T__law_said.F.kp T__law_said.b .nil pass0 (pa_cons (pv 0) (pa_cons pe_str pa_nil))) pe_str (nomark _))
        (pss_one (ps_ret pe_bl))
        pss_nil)
      (pss_one (ps_ret (pe_or (pe_cmpR (op_eqD hr.units) (pv 1) (pe_lst pa_nil) (nomark _)) (pe_one (pe_cmpR op_eq (pe_call G__law_said hr (by rfl) T__law_said.g T__law_said.F.kp T__law_said.b .nil pass0 (pa_cons (pv 0) (pa_cons (pe_op op_add_str pe_str (pe_call G__law_written hr (by rfl) T__law_written.g T__law_written.F.kp T__law_written.b .nil pass0 (pa_cons (pe_ix ix_list (pv 1) pe_int (fun _ _ => rfl)) pa_nil))) pa_nil))) pe_str (nomark _)))))))), ?_⟩
    have hpl : (ps.map fun p => V.ref p.1).length = ps.length := List.length_map ..
    have hle := S0.le
    refine ⟨_, rfl, O, _, rfl, .inl (SqL.of S0.hO.1), _, rfl, by omega, by rw [hpl]; omega, ?_⟩
    rw [hpl, Int.toNat_natCast]
    refine for_range (n := ps.length) (fun i σ G => ∃ (y2 y3 : Option V), σ = [some (.ref b), some (.ref O), y2, y3] ∧ DAt C_Desk C_Lister Pt G b a e X wy n 1 (srt (rws (ps.take (ps.length - i)))) (back (ps.take (ps.length - i))) ∧ RO G O wy n ps ∧ KR a e H G)
      ⟨_, _, rfl, by rw [Nat.sub_zero, List.take_length]; exact A0, S0, KR.refl H⟩ (fun i σ G hi hP => ?_) (fun σ G hP => ?_)
    · obtain ⟨y2, y3, rfl, A1, S1, k1⟩ := hP
      obtain ⟨m, hm⟩ : ∃ m, ps.length - i = m + 1 := ⟨ps.length - i - 1, by omega⟩
      have hm2 : ps.length - (i + 1) = m := by omega
      rw [hm] at A1
      rw [hm2]
      rw [back_take (by omega)] at A1
      refine ⟨_, rfl, _, rfl, O, _, rfl, .inl (SqL.of S1.hO.1), _, rfl, _, _, rfl, rfl, _, _, rfl, rfl, _, rfl, O, _, rfl, SqL.of S1.hO.1, fun c nc => ?_⟩
      have em : ((((ps.map fun p => V.ref p.1).length : Nat) : Int) - (0 + (i : Int)) - 1) = ((m : Nat) : Int) := by rw [hpl]; omega
      have ec : cutV (ps.map fun p => V.ref p.1) none (some ((((ps.map fun p => V.ref p.1).length : Nat) : Int) - (0 + (i : Int)) - 1)) = (ps.take m).map fun p => V.ref p.1 := by
        rw [em, cut_takeR, List.map_take]
      rw [ec]
      have sc := same_new (o := .lst ((ps.take m).map fun p => V.ref p.1)) nc
      have hc := @upd_same G c (.lst ((ps.take m).map fun p => V.ref p.1))
      have A2 := A1.same sc
      have S2 := S1.same sc
      have r2 := k1.keepT (KeepT.of_same sc)
      generalize upd G c (.lst ((ps.take m).map fun p => V.ref p.1)) = G2 at hc A2 S2 r2 ⊢
      clear A1 S1 k1 sc
      have mt : ∀ p ∈ ps.take m, p ∈ ps := fun p h => List.mem_of_mem_take h
      refine ⟨c, ps.take m, rfl, SqL.of hc, fun p h => .lst (SqL.of (S2.hO.2 p (mt p h))) (dp_ints _), fun M nM => ?_⟩
      have sM := same_new (o := .lst ((rowsR (ps.take m)).map fun p => V.ref p.1)) nM
      have RM : RP (upd G2 M (.lst ((rowsR (ps.take m)).map fun p => V.ref p.1))) M (rowsR (ps.take m)) := ⟨upd_same, fun p h => sM _ _ (S2.hO.2 p (mt p ((rowsR_perm (ps.take m)).mem_iff.mp h)))⟩
      have A3 := A2.same sM
      have S3 := S2.same sM
      have r3 := r2.keepT (KeepT.of_same sM)
      have nMe : M ≠ e := fun z => by
        obtain ⟨_, _, he⟩ := A2.ea
        rw [← z, nM] at he; cases he
      generalize upd G2 M (.lst ((rowsR (ps.take m)).map fun p => V.ref p.1)) = G3 at A3 S3 r3 RM ⊢
      clear A2 S2 r2 sM nM hc nc
      have er : rws (rowsR (ps.take m)) = srt (rws (ps.take m)) := row_srt (ps.take m)
      refine ⟨_, rfl, b, a, e, X, wy, n, 1, _, _, .str "undo", .str "undo", rfl, A3.D, A3.L, A3.le, A3.ls, A3.nd, A3.T, .str _, (fun s e => by injection e with e; rw [← e]; decide), A3.aX, A3.bX, ?_⟩
      rw [say_undo]
      intro G4 L4 k4
      have ltk : (ps.take m).length = m := by rw [List.length_take]; omega
      have nd4 : (rws (ps.take m)).Nodup := by
        have : rws (ps.take m) = (rws ps).take m := by show (ps.take m).map (·.2) = (ps.map (·.2)).take m; rw [List.map_take]
        rw [this]
        exact nd.sublist (List.take_sublist _ _)
      have A4 := A3.go L4 k4 (by rw [(srt_perm _).length_eq]; show ((ps.take m).map (·.2)).length ≤ 120; rw [List.length_map]; omega) (by unfold back; rw [List.length_map, List.length_range]; omega) ((srt_perm _).nodup_iff.mpr nd4)
      have R3 : RO G3 M wy n (rowsR (ps.take m)) := ⟨RM, S3.wy, S3.n1, S3.n8, fun p h => S3.ord p (mt p ((rowsR_perm (ps.take m)).mem_iff.mp h)), by rw [(rowsR_perm (ps.take m)).length_eq]; omega⟩
      have R4 := R3.kpl A3 k4 nMe.symm
      have S4 := S3.kpl A3 k4 eO
      have r4 := r3.kpl k4
      clear R3 S3 r3 RM A3 L4 k4
      refine ⟨rfl, _, rfl, ?_⟩
      refine iteF ?_
      refine ⟨_, rfl, b, a, e, X, wy, n, 1, _, _, .str "list", .str "list", rfl, A4.D, A4.L, A4.le, A4.ls, A4.nd, A4.T, .str _, (fun s e => by injection e with e; rw [← e]; decide), A4.aX, A4.bX, ?_⟩
      rw [say_list]
      intro G5 k5
      have R5 := R4.keepT k5
      refine ⟨_, rfl, M, _, _, n, rfl, ⟨R5.hO.two.1, R5.hO.two.2, fun r hr => ?_, R5.n1, by have := R5.n8; omega⟩, by rw [er, (srt_perm _).length_eq]; show ((ps.take m).map (·.2)).length ≤ 1000; rw [List.length_map]; omega, fun G6 s6 => ?_⟩
      · obtain ⟨p, mp, rfl⟩ := List.mem_map.mp hr
        exact R5.ord p mp
      rw [er]
      refine ⟨rfl, _, rfl, ?_⟩
      rw [show (!decide (V.str (wrL (srt (rws (ps.take m)))) = V.str (wrL (srt (rws (ps.take m)))))) = false by rw [decide_eq_true rfl]; rfl]
      refine iteF ?_
      have k6 := k5.trans (KeepT.of_same s6)
      exact ⟨_, _, rfl, A4.keep k6, S4.keepT k6, r4.keepT k6⟩
    · obtain ⟨y2, y3, rfl, A1, S1, k1⟩ := hP
      rw [Nat.sub_self, List.take_zero, back_nil] at A1
      have hr0 : srt (rws []) = [] := srt_nil
      rw [hr0] at A1
      refine ⟨_, rfl, b, a, e, X, wy, n, 1, [], [], .str "undo", .str "undo", rfl, A1.D, A1.L, A1.le, A1.ls, A1.nd, A1.T, .str _, (fun s e => by injection e with e; rw [← e]; decide), A1.aX, A1.bX, ?_⟩
      rw [say_undo0]
      intro G2 k2
      have A2 := A1.keep k2
      have S2 := S1.keepT k2
      have r2 := k1.keepT k2
      refine ⟨rfl, _, rfl, iteF ?_⟩
      refine ⟨_, rfl, line_small (by show 0 ≤ 16777216; decide), fun z nz => ?_⟩
      have sz := same_new (o := .lst []) nz
      have A3 := A2.same sz
      have S3 := S2.same sz
      have r3 := r2.keepT (KeepT.of_same sz)
      refine ⟨_, _, dp_lists (S3.hO.two.1) (S3.hO.two.2), .lst (SqL.of upd_same) .nil, shaped_lists _, shaped_lists [], ?_⟩
      rw [show PyData.list [] = dLL [] from rfl, eqv_nilD]
      refine ⟨_, rfl, ?_⟩
      have k3 : KeepT G (upd G2 z (.lst [])) := k2.trans (KeepT.of_same sz)
      by_cases c : rws ps = []
      · rw [decide_eq_true c]
        refine iteT ?_
        exact q _ _ _ A3 r3
      rw [decide_eq_false c]
      refine iteF ?_
      have pl : ps ≠ [] := fun z => c (by rw [z]; rfl)
      have p0 : 0 < ps.length := List.length_pos_iff.mpr pl
      have mp : ps[0] ∈ ps := List.getElem_mem p0
      have ep : atI (ps.map fun p => V.ref p.1) 0 = some (.ref ps[0].1) := atI_nat (j := 0) (by rw [List.getElem?_map, List.getElem?_eq_getElem p0]; rfl)
      have ox := S3.ord _ mp
      have hn8 := S3.n8
      have hn1 := S3.n1
      refine ⟨_, rfl, _, rfl, O, _, 0, .ref ps[0].1, rfl, rfl, SqL.of S3.hO.1, ep, ps[0].1, n, ps[0].2, rfl, S3.hO.2 _ mp, ox, hn1, by omega, fun G5 s5 => ?_⟩
      have A5 := A3.same s5
      have r5 := r3.keepT (KeepT.of_same s5)
      have lw := wr_len ox (by omega : n ≤ 12)
      refine ⟨"come ", _, rfl, rfl, line_small (by show 5 + _ ≤ _; omega), ?_⟩
      refine ⟨b, a, e, X, wy, n, 1, [], [], .str ("come " ++ wrT ps[0].2), .str ("come " ++ wrT ps[0].2), rfl, A5.D, A5.L, A5.le, A5.ls, A5.nd, A5.T, .str _, (fun s e => by injection e with e; rw [← e, app_len]; show 5 + _ ≤ _; omega), A5.aX, A5.bX, ?_⟩
      have say : sayO wy n 1 [] [] (.str (("come " : Str) ++ wrT ps[0].2)) = .go "ok" (srt ([] ++ [ps[0].2])) ([] ++ [[]]) := by
        rw [show (("come " : Str) ++ wrT ps[0].2) = "come" ++ " " ++ wrT ps[0].2 by rw [show (("come" : Str) ++ " ") = "come " by decide +kernel], come_row, rdF_some (rdP_wr86 ox hn1 (by omega))]
        show ordO wy n 1 [] [] 0 ps[0].2 = _
        unfold ordO
        rw [if_pos rfl, if_neg (fun z => z ox.len), if_neg (by decide), if_pos (show nearR wy ps[0].2 1 [] = [] from rfl)]
      rw [say]
      intro G6 L6 k6
      have A6 := A5.go L6 k6 (by rw [(srt_perm _).length_eq]; show 1 ≤ 120; decide) (by decide) ((srt_perm _).nodup_iff.mpr (by simp))
      refine ⟨rfl, ?_⟩
      rw [decide_eq_true rfl]
      exact q _ _ _ A6 (r5.kpl k6)
end
end Fo
namespace Fo
open PySem PySem.Spec PyProof.Rows L2
/-- all but some cells stays -/
def KX (Y : List Addr) (H H' : Hp) : Prop := ∀ Hb, KeepT Hb H → (∀ y ∈ Y, Hb y = none) → KeepT Hb H'
theorem KX.refl {Y : List Addr} (H : Hp) : KX Y H H := fun _ k _ => k
theorem KX.keepT {Y : List Addr} {H G G' : Hp} (r : KX Y H G) (k : KeepT G G') : KX Y H G' := fun Hb h1 h2 => (r Hb h1 h2).trans k
theorem KX.kpl {Y : List Addr} {H G G' : Hp} {a e : Addr} (r : KX Y H G) (k : KpL a e G G') (na : H a = none) (ne : H e = none) : KX Y H G' := fun Hb h1 h2 => (r Hb h1 h2).kplD k (h1.free na) (h1.free ne)
theorem KX.put {Y : List Addr} {H G G' : Hp} {y : Addr} (r : KX Y H G) (k : ∀ b o, G b = some o → b ≠ y → G' b = some o) (ny : y ∈ Y ∨ H y = none) : KX Y H G' := fun Hb h1 h2 => (r Hb h1 h2).kplD (a := y) (e := y) (fun b o h n _ => k b o h n) (ny.elim (h2 y) h1.free) (ny.elim (h2 y) h1.free)
theorem KX.free {Y : List Addr} {H G : Hp} (r : KX Y H G) {y : Addr} (n : G y = none) (nY : y ∉ Y) : H y = none := by
  by_cases c : H y = none
  · exact c
  obtain ⟨o, ho⟩ := Option.ne_none_iff_exists'.mp c
  have k := r (fun x => if x ∈ Y then none else H x) (KeepT.of_same fun b o' h => by
    have h : (if b ∈ Y then none else H b) = some o' := h
    split at h
    · cases h
    · exact h) (fun z hz => if_pos hz)
  exact absurd (k.free n) (by show (if y ∈ Y then none else H y) ≠ none; rw [if_neg nY]; exact c)
theorem DAt.kx {CD CL Pt : Addr} {H G : Hp} {b a e : Addr} {X Y : List Addr} {w : Str} {n : Nat} {d : Int} {rs : List (List Int)} {ss : List (List (List Int))} (h : DAt CD CL Pt H b a e X w n d rs ss) (K : KX Y H G) (hy : ∀ y ∈ Y, y ∈ X) (he : e ∉ Y) (tY : ∀ y ∈ Y, ∃ o, G y = some o ∧ ∀ p, o ≠ .tbl p) (tt : ∀ y ∈ Y, ∀ p, H y ≠ some (.tbl p)) : DAt CD CL Pt G b a e X w n d rs ss := by
  have h1 : DAt CD CL Pt (fun x => if x ∈ Y then G x else H x) b a e X w n d rs ss := h.outs (Y := Y) (fun x o hx nx => by show (if x ∈ Y then G x else H x) = some o; rw [if_neg nx]; exact hx) hy he (fun y m => (tY y m).imp fun o z => by show (if y ∈ Y then G y else H y) = some o; rw [if_pos m]; exact z.1) tt
  have k := K (fun x => if x ∈ Y then none else H x) (KeepT.of_same fun b o' h => by
    have h : (if b ∈ Y then none else H b) = some o' := h
    split at h
    · cases h
    · exact h) (fun z hz => if_pos hz)
  refine h1.keep ⟨fun x o hx nt => ?_, fun x p hx => ?_⟩
  · have hx : (if x ∈ Y then G x else H x) = some o := hx
    by_cases c : x ∈ Y
    · rw [if_pos c] at hx
      exact hx
    · rw [if_neg c] at hx
      exact k.1 x o (by show (if x ∈ Y then none else H x) = some o; rw [if_neg c]; exact hx) nt
  · have hx : (if x ∈ Y then G x else H x) = some (.tbl p) := hx
    by_cases c : x ∈ Y
    · rw [if_pos c] at hx
      obtain ⟨o, h1, h2⟩ := tY x c
      rw [h1] at hx
      exact absurd (Option.some.inj hx) (h2 p)
    · rw [if_neg c] at hx
      exact k.2 x p (by show (if x ∈ Y then none else H x) = some _; rw [if_neg c]; exact hx)
theorem RO.keepD {H H' : Hp} {O d : Addr} {w : Str} {n : Nat} {ps : List (Addr × List Int)} (h : RO H O w n ps) (k : KeepD d H H') (nO : O ≠ d) (np : ∀ p ∈ ps, p.1 ≠ d) : RO H' O w n ps := ⟨⟨k _ _ h.hO.1 nO, fun p m => k _ _ (h.hO.2 p m) (np p m)⟩, h.wy, h.n1, h.n8, h.ord, h.le⟩
theorem RO.ne {H : Hp} {O : Addr} {w : Str} {n : Nat} {ps : List (Addr × List Int)} (h : RO H O w n ps) {as : List Addr} {y : Addr} (hy : H y = some (.lst (as.map V.ref))) : ∀ p ∈ ps, p.1 ≠ y := fun p m z => by
  have h1 := h.hO.2 p m
  rw [z, hy] at h1
  injection h1 with h1
  injection h1 with h1
  have hl := (h.ord p m).len
  have hn := h.n1
  cases hx : p.2 with
  | nil => rw [hx] at hl; simp at hl; omega
  | cons x xs =>
    rw [hx] at h1
    cases as with
    | nil => cases h1
    | cons a as => cases h1
theorem RO.put {H : Hp} {O y : Addr} {xs : List V} {w : Str} {n : Nat} {ps : List (Addr × List Int)} (h : RO H O w n ps) (nO : O ≠ y) (np : ∀ p ∈ ps, p.1 ≠ y) : RO (upd H y (.lst xs)) O w n ps := ⟨⟨by rw [upd_ne nO]; exact h.hO.1, fun p m => by rw [upd_ne (np p m)]; exact h.hO.2 p m⟩, h.wy, h.n1, h.n8, h.ord, h.le⟩
theorem near_one {w : Str} {n : Nat} {xs : List Int} {rs : List (List Int)} (hw : IsWay w) (ox : IsOrd n xs) (n1 : 1 ≤ n) (ho : ∀ r ∈ rs, IsOrd n r) (h : xs ∉ rs) : nearR w xs 1 rs = [] := by
  refine List.filter_eq_nil_iff.mpr fun r hr z => ?_
  have z := of_decide_eq_true z
  have h0 := far_nn w xs r
  have : farW w xs r = 0 := by omega
  exact h (by rw [farW_zero hw ox (ho r hr) n1 this]; exact hr)
theorem back_snoc (ps : List (Addr × List Int)) (p : Addr × List Int) : back (ps ++ [p]) = back ps ++ [srt (rws ps)] := by
  have h := back_take (ps := ps ++ [p]) (m := ps.length) (by rw [List.length_append]; exact Nat.lt_succ_self _)
  rw [List.take_of_length_le (by rw [List.length_append]; exact Nat.le_refl _), List.take_left' rfl] at h
  exact h
abbrev bad7 : List Int := [6, 5, 4, 3, 2, 1, 0]
/-- a desk that is being filled -/
structure Md (CD CL Pt : Addr) (H G : Hp) (d b a e O L : Addr) (X : List Addr) (w : Str) (n : Nat) (i c : Nat) (ps qs : List (Addr × List Int)) : Prop where
  P : PoolAt G d
  A : DAt CD CL Pt G b a e X w n 1 (srt (rws ps)) (back ps)
  R : RO G O w n ps
  nd : (rws ps).Nodup
  bad : bad7 ∉ rws ps
  Lq : RO G L "swap" 4 qs
  lnd : (rws qs).Nodup
  dj : n = 4 → ∀ q ∈ qs, q.2 ∉ rws ps
  cnt : n = 4 → qs.length + c = 24 ∧ ps.length = i
  le : ps.length ≤ i
  ne : n = 3 → 0 < i → ps ≠ []
  pd : ∀ p ∈ ps, p.1 ≠ d
  qd : ∀ q ∈ qs, q.1 ≠ d
  kx : KX [d] H G
  OX : O ∈ X
  LX : L ∈ X
  dX : d ∈ X
  eO : e ≠ O
  eL : e ≠ L
  ed : e ≠ d
  OL : O ≠ L
  Od : O ≠ d
  Ld : L ≠ d
  na : H a = none
  nee : H e = none
  nO : H O = none
  nL : H L = none
section
variable {CD CL Pt : Addr} {H G G' : Hp} {d b a e O L : Addr} {X : List Addr} {w : Str} {n i c : Nat} {ps qs : List (Addr × List Int)}
theorem Md.keepT (h : Md CD CL Pt H G d b a e O L X w n i c ps qs) (k : KeepT G G') : Md CD CL Pt H G' d b a e O L X w n i c ps qs := by
  obtain ⟨x, y, z, eP⟩ := h.P
  exact ⟨⟨x, y, z, k.lst eP⟩, h.A.keep k, h.R.keepT k, h.nd, h.bad, h.Lq.keepT k, h.lnd, h.dj, h.cnt, h.le, h.ne, h.pd, h.qd, h.kx.keepT k, h.OX, h.LX, h.dX, h.eO, h.eL, h.ed, h.OL, h.Od, h.Ld, h.na, h.nee, h.nO, h.nL⟩
theorem Md.same (h : Md CD CL Pt H G d b a e O L X w n i c ps qs) (k : Same G G') : Md CD CL Pt H G' d b a e O L X w n i c ps qs := h.keepT (KeepT.of_same k)
theorem Md.keepD (h : Md CD CL Pt H G d b a e O L X w n i c ps qs) (P' : PoolAt G' d) (k : KeepD d G G') : Md CD CL Pt H G' d b a e O L X w n i c ps qs := by
  obtain ⟨x, y, z, eP⟩ := h.P
  obtain ⟨x', y', z', eP'⟩ := P'
  refine ⟨⟨x', y', z', eP'⟩, ?_, h.R.keepD k h.Od h.pd, h.nd, h.bad, h.Lq.keepD k h.Ld h.qd, h.lnd, h.dj, h.cnt, h.le, h.ne, h.pd, h.qd, h.kx.put k (.inl List.mem_cons_self), h.OX, h.LX, h.dX, h.eO, h.eL, h.ed, h.OL, h.Od, h.Ld, h.na, h.nee, h.nO, h.nL⟩
  exact h.A.outs (Y := [d]) (fun x o hx nx => k _ _ hx fun z => nx (by rw [z]; exact List.mem_cons_self)) (fun y m => by rw [List.mem_singleton.mp m]; exact h.dX) (fun z => h.ed (List.mem_singleton.mp z)) (fun y m => by rw [List.mem_singleton.mp m]; exact ⟨_, eP'⟩) (fun y m p z => by rw [List.mem_singleton.mp m, eP] at z; cases z)
theorem Md.eN (h : Md CD CL Pt H G d b a e O L X w n i c ps qs) : ∃ as : List Addr, G e = some (.lst (as.map V.ref)) := by
  obtain ⟨_, _, _, st, _, he, _⟩ := h.A.L.ex
  exact ⟨st.map (·.1), by rw [he, List.map_map]; rfl⟩
/-- one is taken out of the list of all -/
theorem Md.pop (h : Md CD CL Pt H G d b a e O L X w n i c ps qs) {j : Nat} {q : Addr × List Int} (hj : qs[j]? = some q) : Md CD CL Pt H (upd G L (.lst ((qs.eraseIdx j).map fun p => V.ref p.1))) d b a e O L X w n i (c + 1) ps (qs.eraseIdx j) := by
  have sub : ∀ p ∈ qs.eraseIdx j, p ∈ qs := fun p m => List.mem_of_mem_eraseIdx m
  have jl := (List.getElem?_eq_some_iff.mp hj).1
  obtain ⟨x, y, z, eP⟩ := h.P
  have k : ∀ b o, G b = some o → b ≠ L → (upd G L (.lst ((qs.eraseIdx j).map fun p => V.ref p.1))) b = some o := fun b o hb n => by rw [upd_ne n]; exact hb
  have hL : G L = some (.lst ((qs.map (·.1)).map V.ref)) := by rw [h.Lq.hO.1, List.map_map]; rfl
  have nL := h.Lq.ne hL
  have A2 : DAt CD CL Pt (upd G L (.lst ((qs.eraseIdx j).map fun p => V.ref p.1))) b a e X w n 1 (srt (rws ps)) (back ps) := h.A.put h.LX h.Lq.hO.1 h.eL
  have er : rws (qs.eraseIdx j) = (rws qs).eraseIdx j := (erase_map (fun p : Addr × List Int => p.2) qs j).symm
  refine ⟨⟨x, y, z, k _ _ eP h.Ld.symm⟩, A2, h.R.put h.OL (h.R.ne hL), h.nd, h.bad, ⟨⟨upd_same, fun p m => k _ _ (h.Lq.hO.2 p (sub p m)) (nL p (sub p m))⟩, h.Lq.wy, h.Lq.n1, h.Lq.n8, fun p m => h.Lq.ord p (sub p m), Nat.le_trans (List.length_eraseIdx_le _ _) h.Lq.le⟩, by rw [er]; exact h.lnd.sublist (List.eraseIdx_sublist _ _), fun c q m => h.dj c q (sub q m), fun c => ⟨by rw [List.length_eraseIdx_of_lt jl]; have := (h.cnt c).1; omega, (h.cnt c).2⟩, h.le, h.ne, h.pd, fun q m => h.qd q (sub q m), h.kx.put k (.inr h.nL), h.OX, h.LX, h.dX, h.eO, h.eL, h.ed, h.OL, h.Od, h.Ld, h.na, h.nee, h.nO, h.nL⟩
theorem pop_ne {j : Nat} {q : Addr × List Int} (nd : (rws qs).Nodup) (hj : qs[j]? = some q) : ∀ p ∈ qs.eraseIdx j, p.2 ≠ q.2 := fun p m e => by
  have er : rws (qs.eraseIdx j) = (rws qs).eraseIdx j := (erase_map (fun p : Addr × List Int => p.2) qs j).symm
  have jr : (rws qs)[j]? = some q.2 := by
    show (qs.map (·.2))[j]? = _
    rw [List.getElem?_map, hj]
    rfl
  have m2 : q.2 ∈ (rws qs).eraseIdx j := by
    rw [← er, ← e]
    exact List.mem_map_of_mem m
  rw [erase_filter nd jr] at m2
  have := (List.mem_filter.mp m2).2
  simp at this
theorem row_near (h : Md CD CL Pt H G d b a e O L X w n i c ps qs) {xs : List Int} (ox : IsOrd n xs) (hx : xs ∉ rws ps) : sayO w n 1 (srt (rws ps)) (back ps) (.str ("come" ++ " " ++ wrT xs)) = (if 120 ≤ ps.length then .no 5 else .go "ok" (srt (srt (rws ps) ++ [xs])) (back ps ++ [srt (rws ps)])) := by
  have n1 := h.R.n1
  have n8 := h.R.n8
  rw [come_row, rdF_some (rdP_wr86 ox n1 (by omega))]
  show ordO w n 1 (srt (rws ps)) (back ps) 0 xs = _
  unfold ordO
  have sl : (srt (rws ps)).length = ps.length := by rw [(srt_perm _).length_eq]; exact List.length_map ..
  rw [if_pos rfl, if_neg (fun z => z ox.len), sl]
  split
  · rfl
  · rw [if_pos (near_one h.R.wy ox n1 (fun r hr => by
      obtain ⟨p, mp, rfl⟩ := List.mem_map.mp ((srt_perm _).mem_iff.mp hr)
      exact h.R.ord p mp) (fun z => hx ((srt_perm _).mem_iff.mp z)))]
end
end Fo
namespace Fo
open PySem PySem.Spec PyProof.Rows L2
def spMd85 (CD CL Pt : Addr) : Sp := fun vs H Q _ => ∃ (d : Addr) (w : Str) (n many : Nat) (X0 : List Addr), vs = [.ref d, .str w, .int n, .int many] ∧ PoolAt H d ∧ IsWay w ∧ (n = 3 ∨ n = 4 ∨ n = 7) ∧ 1 ≤ many ∧ many ≤ 24 ∧ GxR.TabG H Pt ∧ (∀ x ∈ X0, ∃ o, H x = some o) ∧ d ∈ X0 ∧
  ∀ (tp b a e O : Addr) (X : List Addr) (ps : List (Addr × List Int)) (G : Hp), G tp = some (.tup [.ref b, .ref O]) → H tp = none → H b = none → H a = none → H e = none → H O = none → (∀ x ∈ X0, x ∈ X) → e ∉ X0 → DAt CD CL Pt G b a e X w n 1 (srt (rws ps)) (back ps) → RO G O w n ps → (rws ps).Nodup → bad7 ∉ rws ps → ps.length ≤ many → (n = 3 → ps ≠ []) → (n = 4 → ps.length = many) → e ≠ O → (∀ p ∈ ps, p.1 ≠ d) → PoolAt G d → KX [d] H G → Q (.ref tp) G
section
variable {P : Program} {w : World} {K : PySem.W.Frag} {mg : Str → Option Value} {base : Heap}
theorem scMd85 : FnScope ["pool", "way", "n", "many", "desk", "orders", "left", "turn", "order"] ["pool", "way", "n", "many"] (defScope s_law_made) := ⟨rfl, rfl, rfl, by decide +kernel, rfl, by decide +kernel, by decide +kernel⟩
set_option maxHeartbeats 8000000 in
theorem ok_made85 {f f1 f2 f3 f4 f5 fI C_Desk C_Lister Pt : Addr} {fd d1 d2 d3 d4 d5 dI : FuncData} {k : Nat} (T : Df K mg "_law_made" s_law_made ["pool", "way", "n", "many"] f fd) (T_Desk : TxD K mg C_Desk fI) (T_Desk_init : Dm K C_Desk "__init__" "Desk.__init__" s_Desk___init__ ["self"] fI dI) (T__law_said : Df K mg "_law_said" s_law_said ["desk", "row"] f1 d1) (T__law_all_of_four : Df K mg "_law_all_of_four" s_law_all_of_four [] f2 d2) (T__law_order : Df K mg "_law_order" s_law_order ["pool", "n"] f3 d3) (T__law_draw : Df K mg "_law_draw" s_law_draw ["pool", "many"] f4 d4) (T__law_written : Df K mg "_law_written" s_law_written ["order"] f5 d5)
    (G_Desk_init : FnOk P w K mg base CX0 k fI dI ["self"] (spDesk0 C_Desk C_Lister)) (G__law_said : FnOk P w K mg base CX0 (k + 1) f1 d1 ["desk", "row"] (spSaidD C_Desk C_Lister Pt)) (G__law_all_of_four : FnOk P w K mg base CX0 (k + 1) f2 d2 [] spAfo) (G__law_order : FnOk P w K mg base CX0 (k + 1) f3 d3 ["pool", "n"] spOrderP) (G__law_draw : FnOk P w K mg base CX0 (k + 1) f4 d4 ["pool", "many"] spDrawP) (G__law_written : FnOk P w K mg base CX0 (k + 1) f5 d5 ["order"] spWr)
    (B : Bi mg) : FnOk P w K mg base CX0 (k + 2) f fd ["pool", "way", "n", "many"] (spMd85 C_Desk C_Lister Pt) := by
  refine T.F.ok scMd85 (fun vs H Q E h => ?_) (fun cdv A outer s H vs Q E hr h => ?_)
  · obtain ⟨d, w, n, many, X0, rfl, _⟩ := h
    rfl
  · obtain ⟨d, wy, n, many, X0, rfl, P0, hw, hn, m1, m2, tab, tX, dX, q⟩ := h
    refine ⟨_, 
      (pss_cons (ps_set (i := 4) scMd85.nd rfl (.inl rfl) (pe_make0 T_Desk.mkx G_Desk_init hr (by rfl) T_Desk.g T_Desk_init.b .nil pass0))
      (pss_cons (ps_if (pt_cmpR op_ne (pe_call G__law_said hr (by rfl) T__law_said.g T__law_said.F.kp T__law_said.b .nil pass0 (pa_cons (pv 4) (pa_cons (pe_join pe_str (pe_lst (pa_cons pe_str (pa_cons (pv 1) (pa_cons (pe_callTy call_str_int (by rfl) B.str (by decide +kernel) (pa_cons (pv 2) pa_nil)) (pa_cons pe_str pa_nil)))))) pa_nil))) pe_str (nomark _))
        (pss_one (ps_ret (pe_tup (pa_cons (pv 4) (pa_cons pe_non pa_nil)))))
        pss_nil)
      (pss_cons (ps_set (i := 5) scMd85.nd rfl (.inl rfl) (pe_lst pa_nil))
      (pss_cons (ps_set (i := 6) scMd85.nd rfl (.inl rfl) (pe_call0 G__law_all_of_four hr (by rfl) T__law_all_of_four.g T__law_all_of_four.F.kp T__law_all_of_four.b .nil pass0))
      (pss_cons (ps_for PassesOwn.never rfl (pi_range1 (by rfl) B.range (pa_cons (pv 3) pa_nil)) (pg_name (i := 7) scMd85.nd rfl (.inl rfl))
        (pss_cons (ps_set (i := 8) scMd85.nd rfl (.inl rfl) (pe_call G__law_order hr (by rfl) T__law_order.g T__law_order.F.kp T__law_order.b .nil pass0 (pa_cons (pv 0) (pa_cons (pv 2) pa_nil))))
        (Evl.pss_cut (ps_if (pt_cmpR op_eq (pv 2) pe_int (nomark _))
          (pss_one (ps_set (i := 8) scMd85.nd rfl (.inl rfl) (pe_bm PySem.F.plainAttrs_list PySem.F.slot_list_pop PySem.F.type_list_pop mt_popAt (pv 6) (pa_cons (pe_call G__law_draw hr (by rfl) T__law_draw.g T__law_draw.F.kp T__law_draw.b .nil pass0 (pa_cons (pv 0) (pa_cons (pe_callB call_len_seq (by rfl) B.len PySem.boot_len (pa_cons (pv 6) pa_nil)) pa_nil))) pa_nil))))
          pss_nil)
        (pss_one (ps_if (pt_cmpR (op_notInD (units65 hr)) (pv 8) (pe_op op_cat (pv 5) (pe_lst (pa_cons (pe_lst (pa_cons pe_int (pa_cons pe_int (pa_cons pe_int (pa_cons pe_int (pa_cons pe_int (pa_cons pe_int (pa_cons pe_int pa_nil)))))))) pa_nil))) (by rfl))
          (pss_cons (ps_expr (pe_bm PySem.F.plainAttrs_list PySem.F.slot_list_append PySem.F.type_list_append mt_append (pv 5) (pa_cons (pv 8) pa_nil)))
          (pss_one (ps_if (pt_cmpR op_ne (pe_call G__law_said hr (by rfl) T__law_said.g T__law_said.F.kp T__law_said.b .nil pass0 (pa_cons (pv 4) (pa_cons (pe_op op_add_str pe_str (pe_call G__law_written hr (by rfl) T__law_written.g T__law_written.F.kp T__law_written.b .nil pass0 (pa_cons (pv 8) pa_nil))) pa_nil))) pe_str (nomark _))
            (pss_one (ps_ret (pe_tup (pa_cons (pv 4) (pa_cons pe_non pa_nil)))))
            pss_nil)))
          pss_nil)))))
      (pss_one (ps_ret (pe_tup (pa_cons (pv 4) (pa_cons (pv 5) pa_nil)))))))))), ?_⟩
    have hn18 : 1 ≤ n ∧ n ≤ 8 := by rcases hn with rfl | rfl | rfl <;> decide
    -- the desk
    refine fun b dxb nb ndb nbd => ⟨b, dxb, X0, rfl, upd_same, (fun x m => ?_), fun a e H7 na ne nae hDk hL k7 => ⟨rfl, ?_⟩⟩
    · obtain ⟨o, ho⟩ := tX x m
      exact ⟨o, by rw [upd_ne (ne_of_none ho nb), upd_ne (ne_of_none ho ndb)]; exact ho⟩
    have s7 : Same H H7 := fun y o hy => by
      have nyb : y ≠ b := ne_of_none hy nb
      exact k7 y o (by rw [upd_ne nyb, upd_ne (ne_of_none hy ndb)]; exact hy) nyb
    have eb : e ≠ b := fun z => by rw [z, upd_same] at ne; cases ne
    have kT7 := KeepT.of_same s7
    have na6 : ∀ {x : Addr}, upd (upd H dxb (.own b)) b (.ins C_Desk dxb []) x = none → x ∉ X0 := fun {x} h m => by
      obtain ⟨o, ho⟩ := tX x m
      rw [upd_ne (ne_of_none ho nb), upd_ne (ne_of_none ho ndb), ho] at h
      cases h
    have D7 : DAt C_Desk C_Lister Pt H7 b a e (e :: X0) "swap" 3 1 [] [] := ⟨hDk, hL, kT7.tab tab, by decide, by decide, by decide, fun m => (List.mem_cons.mp m).elim nae (na6 na), fun m => (List.mem_cons.mp m).elim (fun z => eb z.symm) fun m => by
      obtain ⟨o, ho⟩ := tX b m
      rw [nb] at ho
      cases ho⟩
    have P7 := P0.same s7
    have eX0 := na6 ne
    clear hDk hL k7 ndb nbd na ne nae na6 eb
    -- a new Lister
    have ln : ∀ k : Nat, k ≤ 99 → (decT (k : Int)).length ≤ 10 := by decide +kernel
    have e1 := ln n (by omega)
    have lw : wy.length ≤ 10 := by rcases hw with rfl | rfl | rfl <;> decide
    have hw10 : wy ∈ ways10 := by rcases hw with rfl | rfl | rfl <;> decide
    have j0 : (" " : Str).length = 1 := by decide
    have l0 : ("lister" : Str).length = 6 := by decide
    have l1 : ("1" : Str).length = 1 := by decide
    have d1' : decT ((1 : Nat) : Int) = "1" := by decide +kernel
    refine ⟨_, rfl, ⟨_, rfl⟩, _, rfl, _, rfl, n, rfl, log_big (by omega), line_small (by show 4 ≤ 16777216; decide), fun p6 n6 => ?_⟩
    refine ⟨" ", p6, ["lister", wy, decT (n : Int), "1"], rfl, rfl, .inl (SqL.of upd_same), ?_, ?_⟩
    · rw [j0]
      show ("lister" : Str).length + (wy.length + ((decT (n : Int)).length + (("1" : Str).length + 0))) + 4 * 1 ≤ _
      omega
    have s8 := same_new (o := .lst [.str "lister", .str wy, .str (decT (n : Int)), .str "1"]) n6
    have D8 := D7.same s8
    have P8 := P7.same s8
    have s08 := s7.trans s8
    clear D7 P7 s8 s7 kT7 n6
    generalize upd H7 p6 (.lst [.str "lister", .str wy, .str (decT (n : Int)), .str "1"]) = H8 at D8 P8 s08 ⊢
    have erow : Txt.join " " ["lister", wy, decT (n : Int), "1"] = rowN wy n 1 := by
      unfold rowN
      rw [d1']
    have rl : (rowN wy n 1).length ≤ 10000 := by
      unfold rowN
      rw [d1', TL.len_tl (Txt.join " " _), tl_joinT]
      refine Nat.le_trans (len_joinL _) ?_
      simp only [List.map_cons, List.map_nil, List.sum_cons, List.sum_nil, List.length_cons, List.length_nil, ← TL.len_tl]
      rw [j0, l0, l1]
      omega
    rw [erow]
    refine ⟨b, a, e, _, "swap", 3, 1, [], [], .str (rowN wy n 1), .str (rowN wy n 1), rfl, D8.D, D8.L, D8.le, D8.ls, D8.nd, D8.T, .str _, (fun s e => by injection e with e; rw [← e]; exact rl), D8.aX, D8.bX, ?_⟩
    rw [new_say hw10 (by omega) (by omega), if_pos (show wy = "swap" ∨ wy = "spot" ∨ wy = "shift" from hw), if_pos ⟨by omega, by omega, by omega⟩]
    intro a7 e7 H9 na ne nae hDk hL k9
    obtain ⟨dxb, hb8⟩ := D8.D
    have kx9 : KX [d] H H9 := (KX.refl H).keepT (KeepT.of_same s08) |>.put (fun b o h n => k9 b o h n) (.inr nb)
    have nl : ∀ {x : Addr} {xs : List V}, H8 x = some (.lst xs) → H9 x = some (.lst xs) := fun hx => k9 _ _ hx (D8.neL hx).2
    have inX : ∀ {x : Addr}, x ∈ (e :: X0) → ∃ o, H8 x = some o := fun {x} m => D8.L.tr x m
    have hr0 : rws [] = ([] : List (List Int)) := rfl
    have aX9 : a7 ∉ e7 :: (e :: X0) := fun m => (List.mem_cons.mp m).elim nae fun m => by
      obtain ⟨o, ho⟩ := inX m
      rw [na] at ho
      cases ho
    have bX9 : b ∉ e7 :: (e :: X0) := fun m => (List.mem_cons.mp m).elim (fun z => by rw [z, ne] at hb8; cases hb8) D8.bX
    have P9 : PoolAt H9 d := by
      obtain ⟨x, y, z, eP⟩ := P8
      exact ⟨x, y, z, nl eP⟩
    have ed7 : e7 ≠ d := fun z => by
      obtain ⟨_, _, _, eP⟩ := P8
      rw [z, eP] at ne; cases ne
    have naH : H a7 = none := s08.free na
    have neH : H e7 = none := s08.free ne
    have tabH : GxR.TabG H9 Pt := by
      obtain ⟨tp, htp, okt⟩ := D8.T
      exact ⟨tp, k9 _ _ htp (fun z => by rw [z, hb8] at htp; cases htp), okt⟩
    have D9 : DAt C_Desk C_Lister Pt H9 b a7 e7 (e7 :: (e :: X0)) wy n 1 (srt (rws [])) (back []) := ⟨hDk, by rw [hr0, srt_nil]; exact hL, tabH, by rw [hr0, srt_nil]; exact Nat.zero_le _, Nat.zero_lt_succ _, by rw [hr0, srt_nil]; exact List.nodup_nil, aX9, bX9⟩
    clear D8 P8 s08 hL hDk na nae k9 inX hb8 rl nl erow tabH aX9 bX9
    have eX07 : e7 ∉ X0 := fun m => by
      obtain ⟨o, ho⟩ := tX e7 m
      rw [neH] at ho
      cases ho
    refine ⟨rfl, _, rfl, iteF ?_⟩
    refine ⟨line_small (by show 0 ≤ 16777216; decide), fun O nO => ?_⟩
    have sO := same_new (o := .lst []) nO
    have hO := @upd_same H9 O (.lst [])
    have D10 := D9.grow sO nO ⟨_, hO⟩
    have P10 := P9.same sO
    have kx10 := kx9.keepT (KeepT.of_same sO)
    have Od := P9.ne nO
    have eO : e7 ≠ O := by
      obtain ⟨_, _, he⟩ := D9.ea
      exact ne_of_none he nO
    have nOH : H O = none := kx9.free nO (fun m => Od (List.mem_singleton.mp m))
    clear D9 P9 kx9 sO nO
    generalize upd H9 O (.lst []) = H10 at hO D10 P10 kx10 ⊢
    refine ⟨rfl, fun L qs G RL erq nL nq sL => ?_⟩
    have D11 := D10.growL (ys := [L]) sL (fun y m => by rw [List.mem_singleton.mp m]; exact ⟨nL, _, RL.1⟩)
    have eL : e7 ≠ L := by
      obtain ⟨_, _, he⟩ := D10.ea
      exact ne_of_none he nL
    have OL : O ≠ L := ne_of_none hO nL
    have Ld := P10.ne nL
    have nLH : H L = none := kx10.free nL (fun m => Ld (List.mem_singleton.mp m))
    have qd : ∀ q ∈ qs, q.1 ≠ d := fun q m => P10.ne (nq q m)
    have ql : qs.length = 24 := by
      have : (rws qs).length = qs.length := List.length_map ..
      rw [← this, erq]
      exact allD_len.1
    have M0 : Md C_Desk C_Lister Pt H G d b a7 e7 O L ([L] ++ (O :: (e7 :: (e :: X0)))) wy n 0 0 [] qs := ⟨P10.same sL, D11, ⟨⟨sL _ _ hO, fun _ m => absurd m List.not_mem_nil⟩, hw, hn18.1, hn18.2, (fun _ m => absurd m List.not_mem_nil), Nat.zero_le _⟩, List.nodup_nil, List.not_mem_nil, ⟨RL, .inl rfl, by decide, by decide, fun p m => allD_len.2.2 p.2 (by rw [← erq]; exact List.mem_map_of_mem m), by omega⟩, by rw [erq]; exact allD_len.2.1, fun _ _ _ => List.not_mem_nil, fun _ => ⟨by omega, rfl⟩, Nat.le_refl _, fun _ h => absurd h (Nat.lt_irrefl 0), (fun _ m => absurd m List.not_mem_nil), qd, kx10.keepT (KeepT.of_same sL), by simp, by simp, by simp [dX], eO, eL, ed7, OL, Od, Ld, naH, neH, nOH, nLH⟩
    clear D10 D11 P10 kx10 RL nL nq sL hO eO eL OL Ld qd ql erq Od
    refine ⟨_, rfl, _, rfl, by omega, by omega, ?_⟩
    rw [Int.toNat_natCast]
    refine for_range (n := many) (fun i σ G => ∃ (ps qs : List (Addr × List Int)) (y7 y8 : Option V), σ = [some (.ref d), some (.str wy), some (.int n), some (.int many), some (.ref b), some (.ref O), some (.ref L), y7, y8] ∧ Md C_Desk C_Lister Pt H G d b a7 e7 O L ([L] ++ (O :: (e7 :: (e :: X0)))) wy n i i ps qs)
      ⟨[], qs, _, _, rfl, M0⟩ (fun i σ G hi hP => ?_) (fun σ G hP => ?_)
    · clear M0
      obtain ⟨ps, qs, y7, y8, rfl, M1⟩ := hP
      refine ⟨_, rfl, _, rfl, d, n, rfl, M1.P, by omega, fun xs l G2 ox nl hl ld P2 k2 => ?_⟩
      have M2 := M1.keepD P2 k2
      have M1O := M1.R.hO.1
      have M1L := M1.Lq.hO.1
      obtain ⟨_, M1e⟩ := M1.eN
      clear M1 k2 P2
      have lO : l ≠ O := (ne_of_none M1O nl).symm
      have lL : l ≠ L := (ne_of_none M1L nl).symm
      have le : l ≠ e7 := (ne_of_none M1e nl).symm
      clear nl M1O M1L M1e
      refine ⟨fun σ' G' => ∃ (o : Addr) (ys : List Int) (c : Nat) (qs : List (Addr × List Int)), σ' = [some (.ref d), some (.str wy), some (.int n), some (.int many), some (.ref b), some (.ref O), some (.ref L), some (.int (0 + (i : Int))), some (.ref o)] ∧ Md C_Desk C_Lister Pt H G' d b a7 e7 O L ([L] ++ (O :: (e7 :: (e :: X0)))) wy n i c ps qs ∧ (n = 4 → c = i + 1) ∧ G' o = some (.lst (ys.map V.int)) ∧ IsOrd n ys ∧ o ≠ d ∧ o ≠ O ∧ o ≠ L ∧ o ≠ e7 ∧ (n = 4 → ys ∉ rws ps ∧ ∀ q ∈ qs, q.2 ≠ ys), ?_, fun σ' G' hM => ?_⟩
      · refine ⟨_, rfl, rfl, _, rfl, ite2 (fun c4 => ?_) (fun c4 => ?_)⟩
        · have n4 : n = 4 := by have := V.int.inj (of_decide_eq_true c4); omega
          have qpl : (qs.map fun p => V.ref p.1).length = qs.length := List.length_map ..
          have cq := (M2.cnt n4).1
          refine ⟨_, rfl, .inl ⟨rfl, _, SqL.of M2.Lq.hO.1⟩, _, rfl, _, rfl, L, _, rfl, .inl (SqL.of M2.Lq.hO.1), d, _, rfl, M2.P, by rw [qpl]; omega, by rw [qpl]; omega, fun v G3 v0 v1 P3 k3 => ?_⟩
          rw [qpl] at v1
          have M3 := M2.keepD P3 k3
          obtain ⟨j, rfl⟩ := Int.eq_ofNat_of_zero_le v0
          have hj : j < qs.length := by omega
          obtain ⟨q, eq⟩ : ∃ q, qs[j]? = some q := ⟨_, List.getElem?_eq_getElem hj⟩
          have mq := List.mem_of_getElem? eq
          obtain ⟨as, he⟩ := M3.eN
          have hL : G3 L = some (.lst ((qs.map (·.1)).map V.ref)) := by rw [M3.Lq.hO.1, List.map_map]; rfl
          have hO : G3 O = some (.lst ((ps.map (·.1)).map V.ref)) := by rw [M3.R.hO.1, List.map_map]; rfl
          refine ⟨L, _, _, j, .ref q.1, rfl, rfl, M3.Lq.hO.1, by omega, by omega, seq_ix rfl (by rw [qpl]; exact hj), by rw [List.getElem?_map, eq]; rfl, ?_⟩
          rw [erase_map]
          exact ⟨q.1, q.2, i + 1, qs.eraseIdx j, rfl, M3.pop eq, fun _ => rfl, by rw [upd_ne (M3.Lq.ne hL q mq)]; exact M3.Lq.hO.2 q mq, by rw [n4]; exact M3.Lq.ord q mq, M3.qd q mq, M3.Lq.ne hO q mq, M3.Lq.ne hL q mq, M3.Lq.ne he q mq, fun _ => ⟨M3.dj n4 q mq, pop_ne M3.lnd eq⟩⟩
        · have n4 : n ≠ 4 := fun z => c4 (decide_eq_true (by rw [z]; rfl))
          exact ⟨l, xs, i, qs, rfl, M2, fun z => absurd z n4, hl, ox, ld, lO, lL, le, fun z => absurd z n4⟩
      clear M2 lO lL le hl ox ld
      clear l xs qs
      obtain ⟨o, xs, c, qs, rfl, M3, hc, ho, ox, od, oO, oL, oe, h4⟩ := hM
      have hpl : (ps.map fun p => V.ref p.1).length = ps.length := List.length_map ..
      have lei := M3.le
      refine ⟨_, rfl, _, rfl, line_small (by show 7 ≤ 16777216; decide), fun p np => ⟨line_small (by show 1 ≤ 16777216; decide), fun p2 np2 => ?_⟩⟩
      have s4 := same_new (o := .lst [.int 6, .int 5, .int 4, .int 3, .int 2, .int 1, .int 0]) np
      have hp : (upd G' p (.lst [.int 6, .int 5, .int 4, .int 3, .int 2, .int 1, .int 0])) p = some (.lst (bad7.map V.int)) := upd_same
      have s5 := same_new (o := .lst [.ref p]) np2
      have hp2 := @upd_same (upd G' p (.lst [.int 6, .int 5, .int 4, .int 3, .int 2, .int 1, .int 0])) p2 (.lst [.ref p])
      have hp' := s5 _ _ hp
      have M5 := M3.same (s4.trans s5)
      have ho5 := s5 _ _ (s4 _ _ ho)
      clear M3 hp s4 s5 np np2 ho
      generalize upd (upd G' p (.lst [.int 6, .int 5, .int 4, .int 3, .int 2, .int 1, .int 0])) p2 (.lst [.ref p]) = G5 at hp2 hp' M5 ho5 ⊢
      refine ⟨O, p2, _, _, rfl, rfl, M5.R.hO.1, hp2, line_small (by rw [hpl]; show _ + 1 ≤ _; omega), fun z nz => ?_⟩
      have s6 := same_new (o := .lst ((ps.map fun p => V.ref p.1) ++ [.ref p])) nz
      have Rz : RP (upd G5 z (.lst ((ps.map fun p => V.ref p.1) ++ [.ref p]))) z (ps ++ [(p, bad7)]) := ⟨by rw [upd_same, List.map_append]; rfl, fun q m => by
        rcases List.mem_append.mp m with m | m
        · exact s6 _ _ (M5.R.hO.2 q m)
        · rw [List.mem_singleton.mp m]
          exact s6 _ _ hp'⟩
      have M6 := M5.same s6
      have ho6 := s6 _ _ ho5
      clear M5 ho5 s6 nz hp2 hp'
      generalize upd G5 z (.lst ((ps.map fun p => V.ref p.1) ++ [.ref p])) = G6 at Rz M6 ho6 ⊢
      refine ⟨_, _, .lst (SqL.of ho6) (dp_ints _), dp_lists Rz.two.1 Rz.two.2, shaped_list _, shaped_lists _, _, rfl, ?_⟩
      rw [any_row]
      have er : rws (ps ++ [(p, bad7)]) = rws ps ++ [bad7] := by
        show (ps ++ [(p, bad7)]).map (·.2) = _
        rw [List.map_append]
        rfl
      by_cases cin : xs ∈ rws (ps ++ [(p, bad7)])
      · rw [decide_eq_true cin]
        refine iteF ?_
        rw [er] at cin
        have n4 : n ≠ 4 := fun n4 => by
          rcases List.mem_append.mp cin with m | m
          · exact (h4 n4).1 m
          · have hl := ox.len
            rw [List.mem_singleton.mp m, n4] at hl
            cases hl
        refine ⟨ps, qs, _, _, rfl, ⟨M6.P, M6.A, M6.R, M6.nd, M6.bad, M6.Lq, M6.lnd, M6.dj, fun z => absurd z n4, by omega, fun n3 _ z => ?_, M6.pd, M6.qd, M6.kx, M6.OX, M6.LX, M6.dX, M6.eO, M6.eL, M6.ed, M6.OL, M6.Od, M6.Ld, M6.na, M6.nee, M6.nO, M6.nL⟩⟩
        rw [z] at cin
        have hl := ox.len
        rw [List.mem_singleton.mp cin, n3] at hl
        cases hl
      rw [decide_eq_false cin]
      refine iteT ?_
      rw [er] at cin
      have nin : xs ∉ rws ps := fun m => cin (List.mem_append_left _ m)
      have nbad : xs ≠ bad7 := fun m => cin (List.mem_append_right _ (by rw [m]; exact List.mem_cons_self))
      -- it comes
      refine ⟨_, rfl, .inl ⟨rfl, _, SqL.of M6.R.hO.1⟩, _, rfl, O, _, _, rfl, rfl, M6.R.hO.1, line_lt (by rw [hpl]; omega), ?_⟩
      have hO6 : G6 O = some (.lst ((ps.map (·.1)).map V.ref)) := by rw [M6.R.hO.1, List.map_map]; rfl
      have neO := M6.R.ne hO6
      have R7 : RO (upd G6 O (.lst ((ps.map fun p => V.ref p.1) ++ [.ref o]))) O wy n (ps ++ [(o, xs)]) := ⟨⟨by rw [upd_same, List.map_append]; rfl, fun q m => by
        rcases List.mem_append.mp m with m | m
        · rw [upd_ne (neO q m)]; exact M6.R.hO.2 q m
        · rw [List.mem_singleton.mp m, upd_ne oO]; exact ho6⟩, hw, hn18.1, hn18.2, fun q m => by
        rcases List.mem_append.mp m with m | m
        · exact M6.R.ord q m
        · rw [List.mem_singleton.mp m]; exact ox, by rw [List.length_append]; show ps.length + 1 ≤ _; omega⟩
      have Q7 := M6.Lq.put (y := O) (xs := (ps.map fun p => V.ref p.1) ++ [.ref o]) M6.OL.symm (M6.Lq.ne hO6)
      have A7 := M6.A.put (ys := (ps.map fun p => V.ref p.1) ++ [.ref o]) M6.OX M6.R.hO.1 M6.eO
      have P7 : PoolAt (upd G6 O (.lst ((ps.map fun p => V.ref p.1) ++ [.ref o]))) d := M6.P.upd M6.Od
      have kx7 : KX [d] H (upd G6 O (.lst ((ps.map fun p => V.ref p.1) ++ [.ref o]))) := M6.kx.put (fun b o' hb n => by rw [upd_ne n]; exact hb) (.inr M6.nO)
      have ho7 : (upd G6 O (.lst ((ps.map fun p => V.ref p.1) ++ [.ref o]))) o = some (.lst (xs.map V.int)) := by rw [upd_ne oO]; exact ho6
      generalize upd G6 O (.lst ((ps.map fun p => V.ref p.1) ++ [.ref o])) = G7 at R7 Q7 A7 P7 kx7 ho7 ⊢
      refine ⟨_, rfl, _, rfl, o, n, xs, rfl, ho7, ox, hn18.1, by omega, fun G8 s8 => ?_⟩
      have R8 := R7.same s8
      have Q8 := Q7.same s8
      have A8 := A7.same s8
      have P8 := P7.same s8
      have kx8 := kx7.keepT (KeepT.of_same s8)
      clear R7 Q7 A7 P7 kx7 ho7 s8 hO6 neO
      have lwx := wr_len ox (by omega : n ≤ 12)
      refine ⟨"come ", _, rfl, rfl, line_small (by show 5 + _ ≤ _; omega), ?_⟩
      refine ⟨b, a7, e7, _, wy, n, 1, srt (rws ps), back ps, .str ("come " ++ wrT xs), .str ("come " ++ wrT xs), rfl, A8.D, A8.L, A8.le, A8.ls, A8.nd, A8.T, .str _, (fun s e => by injection e with e; rw [← e, app_len]; show 5 + _ ≤ _; omega), A8.aX, A8.bX, ?_⟩
      rw [show (("come " : Str) ++ wrT xs) = "come" ++ " " ++ wrT xs by rw [show (("come" : Str) ++ " ") = "come " by decide +kernel], row_near M6 ox nin, if_neg (by omega)]
      intro G9 L9 k9
      have er2 : rws (ps ++ [(o, xs)]) = rws ps ++ [xs] := by
        show (ps ++ [(o, xs)]).map (·.2) = _
        rw [List.map_append]
        rfl
      have es : srt (srt (rws ps) ++ [xs]) = srt (rws (ps ++ [(o, xs)])) := by
        rw [er2]
        exact srt_eq ((srt_perm _).trans ((srt_perm _).append_right [xs])) (srt_sorted _)
      rw [es, ← back_snoc ps (o, xs)] at L9
      have nd9 : (rws (ps ++ [(o, xs)])).Nodup := by
        rw [er2]
        exact List.nodup_append.mpr ⟨M6.nd, by simp, fun u hu v hv e => nin (by rw [List.mem_singleton] at hv; rw [← hv, ← e]; exact hu)⟩
      have A9 := A8.go L9 k9 (by rw [(srt_perm _).length_eq, er2, List.length_append]; show (ps.map (·.2)).length + 1 ≤ 120; rw [List.length_map]; omega) (by rw [back_snoc, List.length_append]; unfold back; rw [List.length_map, List.length_range]; show ps.length + 1 < 1000; omega) ((srt_perm _).nodup_iff.mpr nd9)
      have R9 := R8.kpl A8 k9 M6.eO
      have Q9 := Q8.kpl A8 k9 M6.eL
      have P9 : PoolAt G9 d := by
        obtain ⟨x, y, z, eP⟩ := P8
        exact ⟨x, y, z, k9 _ _ eP (A8.neL eP).1 M6.ed.symm⟩
      have kx9 := kx8.kpl k9 M6.na M6.nee
      refine ⟨rfl, _, rfl, ?_⟩
      rw [show (!decide (V.str ("ok" : Str) = V.str "ok")) = false by rw [decide_eq_true rfl]; rfl]
      refine iteF ?_
      refine ⟨ps ++ [(o, xs)], qs, _, _, rfl, ⟨P9, A9, R9, nd9, ?_, Q9, M6.lnd, fun n4 q m z => ?_, fun n4 => ⟨by have := (M6.cnt n4).1; have := hc n4; omega, by rw [List.length_append]; have := (M6.cnt n4).2; show ps.length + 1 = _; omega⟩, by rw [List.length_append]; show ps.length + 1 ≤ _; omega, fun _ _ z => by simp at z, fun q m => ?_, M6.qd, kx9, M6.OX, M6.LX, M6.dX, M6.eO, M6.eL, M6.ed, M6.OL, M6.Od, M6.Ld, M6.na, M6.nee, M6.nO, M6.nL⟩⟩
      · rw [er2]
        intro m
        rcases List.mem_append.mp m with m | m
        · exact M6.bad m
        · exact nbad (List.mem_singleton.mp m).symm
      · rw [er2] at z
        rcases List.mem_append.mp z with z | z
        · exact M6.dj n4 q m z
        · exact (h4 n4).2 q m (List.mem_singleton.mp z)
      · rcases List.mem_append.mp m with m | m
        · exact M6.pd q m
        · rw [List.mem_singleton.mp m]; exact od
    · obtain ⟨ps, qs, y7, y8, rfl, M1⟩ := hP
      refine ⟨_, rfl, _, rfl, line_small (by show 2 ≤ 16777216; decide), fun tp nt => ?_⟩
      have M2 := M1.same (same_new (o := .tup [.ref b, .ref O]) nt)
      have htd := M1.P.ne nt
      exact q tp b a7 e7 O _ ps _ upd_same (M1.kx.free nt (fun m => htd (List.mem_singleton.mp m))) nb M2.na M2.nee M2.nO (fun x m => by simp [m]) eX07 M2.A M2.R M2.nd M2.bad (by have := M2.le; omega) (fun c => M2.ne c (by omega)) (fun c => (M2.cnt c).2) M2.eO M2.pd M2.P M2.kx
end
end Fo
namespace Fo
open PySem PySem.Spec PyProof.Rows L2
/-! k85: four desks beside each other -/
theorem KX.get {Y : List Addr} {H G : Hp} (K : KX Y H G) {x : Addr} {o : HO} (hx : H x = some o) (nx : x ∉ Y) (nt : ∀ p, o ≠ .tbl p) : G x = some o := by
  refine (K (fun z => if z ∈ Y then none else H z) (KeepT.of_same fun b o' h => ?_) (fun z hz => if_pos hz)).1 x o (by show (if x ∈ Y then none else H x) = some o; rw [if_neg nx]; exact hx) nt
  have h : (if b ∈ Y then none else H b) = some o' := h
  split at h
  · cases h
  · exact h
theorem KX.of_kr {a e : Addr} {H G : Hp} (r : KR a e H G) : KX [a, e] H G := fun Hb h1 h2 => r Hb h1 (h2 a List.mem_cons_self) (h2 e (List.mem_cons_of_mem _ List.mem_cons_self))
theorem RO.kx {Y : List Addr} {H G : Hp} {O : Addr} {w : Str} {n : Nat} {ps : List (Addr × List Int)} (h : RO H O w n ps) (K : KX Y H G) (nO : O ∉ Y) (np : ∀ p ∈ ps, p.1 ∉ Y) : RO G O w n ps :=
  ⟨⟨K.get h.hO.1 nO (fun p z => by cases z), fun p m => K.get (h.hO.2 p m) (np p m) (fun p z => by cases z)⟩, h.wy, h.n1, h.n8, h.ord, h.le⟩
/-- a desk with what the law holds of it -/
structure Rec where
  t : Addr
  b : Addr
  a : Addr
  e : Addr
  l : Addr
  X : List Addr
  w : Str
  n : Nat
  ps : List (Addr × List Int)
structure Gd (CD CL Pt : Addr) (G : Hp) (r : Rec) : Prop where
  A : DAt CD CL Pt G r.b r.a r.e r.X r.w r.n 1 (srt (rws r.ps)) (back r.ps)
  R : RO G r.l r.w r.n r.ps
  nd : (rws r.ps).Nodup
  el : r.e ≠ r.l
  t : G r.t = some (.tup [.ref r.b, .ref r.l])
/-- s stays when r changes -/
structure Ap (r s : Rec) : Prop where
  a : r.a ∈ s.X
  e : r.e ∈ s.X
  ee : s.e ≠ r.e
  le : s.l ≠ r.e
section
variable {CD CL Pt : Addr} {H G G' : Hp} {r s : Rec} {d : Addr}
theorem Gd.keepT (h : Gd CD CL Pt G r) (k : KeepT G G') : Gd CD CL Pt G' r := ⟨h.A.keep k, h.R.keepT k, h.nd, h.el, k.1 _ _ h.t (fun p z => by cases z)⟩
/-- a pool is drawn from, or a desk is made with it -/
theorem Gd.kd (h : Gd CD CL Pt H r) (K : KX [d] H G) (dX : d ∈ r.X) (ed : r.e ≠ d) (ld : r.l ≠ d) (pd : ∀ p ∈ r.ps, p.1 ≠ d) (P0 : PoolAt H d) (P : PoolAt G d) : Gd CD CL Pt G r := by
  obtain ⟨x, y, z, eP⟩ := P
  obtain ⟨x0, y0, z0, eP0⟩ := P0
  exact ⟨h.A.kx K (fun y m => by rw [List.mem_singleton.mp m]; exact dX) (fun z => ed (List.mem_singleton.mp z)) (fun y m => by rw [List.mem_singleton.mp m]; exact ⟨_, eP, fun p z => by cases z⟩) (fun y m p z => by rw [List.mem_singleton.mp m, eP0] at z; cases z), h.R.kx K (fun z => ld (List.mem_singleton.mp z)) (fun p m z => pd p m (List.mem_singleton.mp z)), h.nd, h.el, K.get h.t (fun z => by
    have := h.t
    rw [List.mem_singleton.mp z, eP0] at this
    cases this) (fun p z => by cases z)⟩
theorem Gd.grow {ys : List Addr} (h : Gd CD CL Pt H r) (s : Same H G) (ny : ∀ y ∈ ys, H y = none ∧ ∃ o, G y = some o) : Gd CD CL Pt G { r with X := ys ++ r.X } := ⟨h.A.growL s ny, h.R.same s, h.nd, h.el, s _ _ h.t⟩
theorem Gd.put {y : Addr} {xs ys : List V} (h : Gd CD CL Pt G r) (hy : y ∈ r.X) (hx : G y = some (.lst xs)) (ey : r.e ≠ y) (ly : r.l ≠ y) (py : ∀ p ∈ r.ps, p.1 ≠ y) : Gd CD CL Pt (upd G y (.lst ys)) r := ⟨h.A.put hy hx ey, h.R.put ly py, h.nd, h.el, by rw [upd_ne (fun z => by have := h.t; rw [z, hx] at this; cases this)]; exact h.t⟩
/-- another desk's Lister changes -/
theorem Gd.kr {rs : List (List Int)} {ss : List (List (List Int))} (h : Gd CD CL Pt G s) (hr : Gd CD CL Pt G r) (ap : Ap r s) (A' : DAt CD CL Pt G' r.b r.a r.e r.X r.w r.n 1 rs ss) (K : KR r.a r.e G G') : Gd CD CL Pt G' s := by
  obtain ⟨⟨dx, tt, ha⟩, xe, he⟩ := A'.ea
  obtain ⟨⟨dx0, tt0, ha0⟩, xe0, he0⟩ := hr.A.ea
  obtain ⟨_, _, _, st, _, hes, _⟩ := hr.A.L.ex
  obtain ⟨⟨dx1, tt1, ha1⟩, xe1, he1⟩ := h.A.ea
  have K2 := KX.of_kr K
  have hes2 : G r.e = some (.lst ((st.map (·.1)).map V.ref)) := by rw [hes, List.map_map]; rfl
  have np := h.R.ne hes2
  have nl : ∀ {x : Addr} {xs : List V}, G x = some (.lst xs) → x ≠ r.a := fun hx z => by rw [z, ha0] at hx; cases hx
  have in2 : ∀ {x : Addr}, x ≠ r.a → x ≠ r.e → x ∉ [r.a, r.e] := fun n1 n2 m => by
    simp only [List.mem_cons, List.not_mem_nil, or_false] at m
    exact m.elim n1 n2
  refine ⟨h.A.kx K2 (fun y m => ?_) (in2 (nl he1) ap.ee) (fun y m => ?_) (fun y m p z => ?_), h.R.kx K2 (in2 (nl h.R.hO.1) ap.le) (fun p m => in2 (nl (h.R.hO.2 p m)) (np p m)), h.nd, h.el, K2.get h.t (in2 (fun z => by have := h.t; rw [z, ha0] at this; cases this) (fun z => by have := h.t; rw [z, he0] at this; cases this)) (fun p z => by cases z)⟩
  · simp only [List.mem_cons, List.not_mem_nil, or_false] at m
    rcases m with rfl | rfl
    · exact ap.a
    · exact ap.e
  · simp only [List.mem_cons, List.not_mem_nil, or_false] at m
    rcases m with rfl | rfl
    · exact ⟨_, ha, fun p z => by cases z⟩
    · exact ⟨_, he, fun p z => by cases z⟩
  · simp only [List.mem_cons, List.not_mem_nil, or_false] at m
    rcases m with rfl | rfl
    · rw [ha0] at z; cases z
    · rw [he0] at z; cases z
end
/-- four desks, those from the k-th on as they were made -/
structure Four (CD CL Pt : Addr) (G : Hp) (m wl : Addr) (k : Nat) (R : List Rec) : Prop where
  len : R.length = 4
  hm : G m = some (.lst (R.map fun r => V.ref r.t))
  hw : G wl = some (.lst (R.map fun r => V.str r.w))
  me : ∀ r ∈ R, m ≠ r.e ∧ wl ≠ r.e
  g : ∀ (i : Nat) (r : Rec), k ≤ i → R[i]? = some r → Gd CD CL Pt G r
  ap : ∀ (i j : Nat) (r s : Rec), i < j → R[i]? = some r → R[j]? = some s → Ap r s
  cnd : ∀ (i : Nat) (r : Rec), R[i]? = some r → Cnd85 i r.w r.n (srt (rws r.ps)) (back r.ps)
section
variable {CD CL Pt : Addr} {G G' : Hp} {m wl : Addr} {k : Nat} {R : List Rec}
theorem Four.keepT (h : Four CD CL Pt G m wl k R) (s : KeepT G G') : Four CD CL Pt G' m wl k R := ⟨h.len, s.lst h.hm, s.lst h.hw, h.me, fun i r a b => (h.g i r a b).keepT s, h.ap, h.cnd⟩
theorem Four.same (h : Four CD CL Pt G m wl k R) (s : Same G G') : Four CD CL Pt G' m wl k R := h.keepT (KeepT.of_same s)
theorem Four.at (h : Four CD CL Pt G m wl k R) {v : Int} (h0 : 0 ≤ v) (h1 : v < 4) : ∃ (i : Nat) (r : Rec), v = (i : Int) ∧ R[i]? = some r ∧ r ∈ R ∧ atI (R.map fun r => V.ref r.t) v = some (.ref r.t) ∧ atI (R.map fun r => V.str r.w) v = some (.str r.w) := by
  obtain ⟨i, rfl⟩ := Int.eq_ofNat_of_zero_le h0
  have hi : i < R.length := by rw [h.len]; omega
  have e := List.getElem?_eq_getElem hi
  exact ⟨i, R[i], rfl, e, List.getElem_mem hi, atI_nat (by rw [List.getElem?_map, e]; rfl), atI_nat (by rw [List.getElem?_map, e]; rfl)⟩
/-- the k-th desk has gone on -/
theorem Four.next (h : Four CD CL Pt G m wl k R) {r : Rec} {rs : List (List Int)} {ss : List (List (List Int))} (hr : R[k]? = some r) (A' : DAt CD CL Pt G' r.b r.a r.e r.X r.w r.n 1 rs ss) (K : KR r.a r.e G G') : Four CD CL Pt G' m wl (k + 1) R := by
  have gr := h.g k r (Nat.le_refl k) hr
  obtain ⟨⟨dx0, tt0, ha0⟩, xe0, he0⟩ := gr.A.ea
  have me := h.me r (List.mem_of_getElem? hr)
  have K2 := KX.of_kr K
  have keep : ∀ {x : Addr} {xs : List V}, G x = some (.lst xs) → x ≠ r.e → G' x = some (.lst xs) := fun {x xs} hx n => K2.get hx (fun m => by
    simp only [List.mem_cons, List.not_mem_nil, or_false] at m
    rcases m with z | z
    · rw [z, ha0] at hx; cases hx
    · exact n z) (fun p z => by cases z)
  exact ⟨h.len, keep h.hm me.1, keep h.hw me.2, h.me, fun i s a b => (h.g i s (by omega) b).kr gr (h.ap k i r s (by omega) hr b) A' K, h.ap, h.cnd⟩
end
end Fo
namespace Fo
open PySem PySem.Spec PyProof.Rows L2
def spLaw (K : PySem.W.Frag) (Pt : Addr) : Sp := fun vs H Q _ => ∃ (a : Addr) (ns : List Int), vs = [.ref a] ∧ SqL K H a (ns.map V.int) ∧ ns.length ≤ 63 ∧ GxR.TabG H Pt ∧ ∀ H', Q (.bl true) H'
section
variable {P : Program} {w : World} {K : PySem.W.Frag} {mg : Str → Option Value} {base : Heap}
theorem scLaw : FnScope ["script", "pool", "ways", "made", "k", "at", "way", "due", "rows", "row", "desk", "orders"] ["script"] (defScope s_law) := ⟨rfl, rfl, rfl, by decide +kernel, rfl, by decide +kernel, by decide +kernel⟩
set_option maxHeartbeats 8000000 in
theorem ok_law {f f1 f2 f3 f4 f5 f6 f7 f8 f9 f10 f11 fI C_Desk C_Lister Pt : Addr} {fd d1 d2 d3 d4 d5 d6 d7 d8 d9 d10 d11 dI : FuncData} (T : Fun K "law" "law" s_law f fd) (T_Desk : TxD K mg C_Desk fI) (T_Desk_init : Dm K C_Desk "__init__" "Desk.__init__" s_Desk___init__ ["self"] fI dI) (T__law_pool : Df K mg "_law_pool" s_law_pool ["script", "k"] f1 d1) (T__law_draw : Df K mg "_law_draw" s_law_draw ["pool", "many"] f2 d2) (T__law_said : Df K mg "_law_said" s_law_said ["desk", "row"] f3 d3) (T__law_made : Df K mg "_law_made" s_law_made ["pool", "way", "n", "many"] f4 d4) (T__law_no_row : Df K mg "_law_no_row" s_law_no_row ["pool"] f5 d5) (T__law_no_way : Df K mg "_law_no_way" s_law_no_way ["pool"] f6 d6) (T__law_no_number : Df K mg "_law_no_number" s_law_no_number ["pool"] f7 d7) (T__law_no_text : Df K mg "_law_no_text" s_law_no_text ["pool"] f8 d8) (T__law_else : Df K mg "_law_else" s_law_else ["pool", "at"] f9 d9) (T__law_stands : Df K mg "_law_stands" s_law_stands ["desk", "way", "orders"] f10 d10) (T__law_goes_on : Df K mg "_law_goes_on" s_law_goes_on ["desk", "orders"] f11 d11)
    (G_Desk_init : FnOk P w K mg base CX0 38 fI dI ["self"] (spDesk0 C_Desk C_Lister)) (G__law_pool : FnOk P w K mg base CX0 39 f1 d1 ["script", "k"] (spPool K)) (G__law_draw : FnOk P w K mg base CX0 39 f2 d2 ["pool", "many"] spDrawP) (G__law_said : FnOk P w K mg base CX0 39 f3 d3 ["desk", "row"] (spSaidD C_Desk C_Lister Pt)) (G__law_made : FnOk P w K mg base CX0 39 f4 d4 ["pool", "way", "n", "many"] (spMd85 C_Desk C_Lister Pt)) (G__law_no_row : FnOk P w K mg base CX0 39 f5 d5 ["pool"] (spRef85 8)) (G__law_no_way : FnOk P w K mg base CX0 39 f6 d6 ["pool"] (spRef85 1)) (G__law_no_number : FnOk P w K mg base CX0 39 f7 d7 ["pool"] (spRef85 4)) (G__law_no_text : FnOk P w K mg base CX0 39 f8 d8 ["pool"] (spRef85 6)) (G__law_else : FnOk P w K mg base CX0 39 f9 d9 ["pool", "at"] spEls85) (G__law_stands : FnOk P w K mg base CX0 39 f10 d10 ["desk", "way", "orders"] (spStd85 C_Desk C_Lister Pt)) (G__law_goes_on : FnOk P w K mg base CX0 39 f11 d11 ["desk", "orders"] (spGon C_Desk C_Lister Pt))
    (B : Bi mg) : FnOk P w K mg base CX0 40 f fd ["script"] (spLaw K Pt) := by
  refine T.ok scLaw (fun vs H Q E h => ?_) (fun cdv A outer s H vs Q E hr h => ?_)
  · obtain ⟨a, ns, rfl, _⟩ := h
    rfl
  · obtain ⟨a0, ns, rfl, hS, hlen, tab, q⟩ := h
    refine ⟨_, 
      (pss_cons (ps_set (i := 1) scLaw.nd rfl (.inl rfl) (pe_call G__law_pool hr (by rfl) T__law_pool.g T__law_pool.F.kp T__law_pool.b .nil pass0 (pa_cons (pv 0) (pa_cons pe_int pa_nil))))
      (pss_cons (ps_set (i := 2) scLaw.nd rfl (.inl rfl) (pe_lst (pa_cons pe_str (pa_cons (pe_ix ix_list (pe_lst (pa_cons pe_str (pa_cons pe_str (pa_cons pe_str pa_nil)))) (pe_call G__law_draw hr (by rfl) T__law_draw.g T__law_draw.F.kp T__law_draw.b .nil pass0 (pa_cons (pv 1) (pa_cons pe_int pa_nil))) (fun _ _ => rfl)) (pa_cons pe_str (pa_cons pe_str pa_nil))))))
      (pss_cons (ps_set (i := 3) scLaw.nd rfl (.inl rfl) (pe_lst (pa_cons (pe_tup (pa_cons (pe_make0 T_Desk.mkx G_Desk_init hr (by rfl) T_Desk.g T_Desk_init.b .nil pass0) (pa_cons (pe_lst pa_nil) pa_nil))) (pa_cons (pe_call G__law_made hr (by rfl) T__law_made.g T__law_made.F.kp T__law_made.b .nil pass0 (pa_cons (pv 1) (pa_cons (pe_ix ix_list (pv 2) pe_int (fun _ _ => rfl)) (pa_cons pe_int (pa_cons (pe_op op_add pe_int (pe_call G__law_draw hr (by rfl) T__law_draw.g T__law_draw.F.kp T__law_draw.b .nil pass0 (pa_cons (pv 1) (pa_cons pe_int pa_nil)))) pa_nil))))) pa_nil))))
      (pss_cons (ps_set (i := 3) scLaw.nd rfl (.inl rfl) (pe_op op_cat (pv 3) (pe_lst (pa_cons (pe_call G__law_made hr (by rfl) T__law_made.g T__law_made.F.kp T__law_made.b .nil pass0 (pa_cons (pv 1) (pa_cons pe_str (pa_cons pe_int (pa_cons pe_int pa_nil))))) pa_nil))))
      (pss_cons (ps_expr (pe_bm PySem.F.plainAttrs_list PySem.F.slot_list_append PySem.F.type_list_append mt_append (pv 3) (pa_cons (pe_call G__law_made hr (by rfl) T__law_made.g T__law_made.F.kp T__law_made.b .nil pass0 (pa_cons (pv 1) (pa_cons pe_str (pa_cons pe_int (pa_cons (pe_op op_add pe_int (pe_call G__law_draw hr (by rfl) T__law_draw.g T__law_draw.F.kp T__law_draw.b .nil pass0 (pa_cons (pv 1) (pa_cons pe_int pa_nil)))) pa_nil))))) pa_nil)))
      (pss_cons (ps_if (PW.pt (pw_or (pt_cmpR (op_neD hr.units) (pe_lc (own := [("desk", 10), ("orders", 11)]) (g := (gTup K 2 (gCons (gName 10) (gCons (gName 11) gNil)))) (tt := (tTest (tOp rIsN (tVar 11) (tC .non)))) (te := (tVar 11)) rfl scLaw.nd (pi_list (pv 3)) (blkOk_by (N := ["script", "pool", "ways", "made", "k", "at", "way", "due", "rows", "row", "desk", "orders"]) (sc := defScope s_law) (by decide +kernel)) (fun _ _ _ _ _ => (pg_tup (by rfl) (pgs_cons (pg_name (i := 10) scLaw.nd rfl (.inl rfl)) (pgs_cons (pg_name (i := 11) scLaw.nd rfl (.inl rfl)) pgs_nil)))) (fun _ _ _ _ _ => (pts_one (pt_cmpR op_isN (pv 11) pe_non (nomark _)))) (fun _ _ _ _ _ => (pv 11))) (pe_lst pa_nil) (nomark _)) (pw_or1 (pt_cmpR (op_eqD hr.units) (pe_ix ix_tup (pe_ix ix_list (pv 3) pe_int (fun _ _ => rfl)) pe_int (fun _ _ => rfl)) (pe_lst pa_nil) (nomark _)))))
        (pss_one (ps_ret (pe_cmpR (op_eqD hr.units) (pe_ix ix_tup (pe_ix ix_list (pv 3) pe_int (fun _ _ => rfl)) pe_int (fun _ _ => rfl)) (pe_lst pa_nil) (nomark _))))
        pss_nil)
      (pss_cons (ps_for PassesOwn.never rfl (pi_range2 (by rfl) B.range (pa_cons pe_int (pa_cons (pe_callB (call_max2 rfl) (by rfl) B.max (by decide +kernel) (pa_cons pe_int (pa_cons (pe_callB (call_min2 rfl) (by rfl) B.min (by decide +kernel) (pa_cons pe_int (pa_cons (pe_callB call_len_seq (by rfl) B.len PySem.boot_len (pa_cons (pv 0) pa_nil)) pa_nil))) pa_nil))) pa_nil))) (pg_name (i := 4) scLaw.nd rfl (.inl rfl))
        (pss_cons (ps_set (i := 1) scLaw.nd rfl (.inl rfl) (pe_call G__law_pool hr (by rfl) T__law_pool.g T__law_pool.F.kp T__law_pool.b .nil pass0 (pa_cons (pv 0) (pa_cons (pv 4) pa_nil))))
        (pss_cons (ps_set (i := 5) scLaw.nd rfl (.inl rfl) (pe_call G__law_draw hr (by rfl) T__law_draw.g T__law_draw.F.kp T__law_draw.b .nil pass0 (pa_cons (pv 1) (pa_cons pe_int pa_nil))))
        (pss_cons (ps_set (i := 6) scLaw.nd rfl (.inl rfl) (pe_call G__law_draw hr (by rfl) T__law_draw.g T__law_draw.F.kp T__law_draw.b .nil pass0 (pa_cons (pv 1) (pa_cons pe_int pa_nil))))
        (pss_cons (ps_set (i := 7) scLaw.nd rfl (.inl rfl) (pe_ix ix_list (pe_lst (pa_cons pe_str (pa_cons pe_str (pa_cons pe_str (pa_cons pe_str (pa_cons pe_str (pa_cons pe_str (pa_cons pe_str (pa_cons pe_str pa_nil))))))))) (pv 6) (fun _ _ => rfl)))
        (pss_cons (ps_set (i := 8) scLaw.nd rfl (.inl rfl) (pe_lst (pa_cons (pe_call G__law_no_row hr (by rfl) T__law_no_row.g T__law_no_row.F.kp T__law_no_row.b .nil pass0 (pa_cons (pv 1) pa_nil)) (pa_cons (pe_call G__law_no_way hr (by rfl) T__law_no_way.g T__law_no_way.F.kp T__law_no_way.b .nil pass0 (pa_cons (pv 1) pa_nil)) (pa_cons (pe_call G__law_no_text hr (by rfl) T__law_no_text.g T__law_no_text.F.kp T__law_no_text.b .nil pass0 (pa_cons (pv 1) pa_nil)) (pa_cons (pe_call G__law_no_number hr (by rfl) T__law_no_number.g T__law_no_number.F.kp T__law_no_number.b .nil pass0 (pa_cons (pv 1) pa_nil)) pa_nil))))))
        (Evl.pss_cut (ps_if (pt_cmpR op_lt (pv 6) pe_int (nomark _))
          (pss_one (ps_set (i := 9) scLaw.nd rfl (.inl rfl) (pe_ix ix_list (pv 8) (pv 6) (fun _ _ => rfl))))
          (pss_one (ps_asg (pe_call G__law_else hr (by rfl) T__law_else.g T__law_else.F.kp T__law_else.b .nil pass0 (pa_cons (pv 1) (pa_cons (pv 5) pa_nil))) (pg_tup (by rfl) (pgs_cons (pg_name (i := 7) scLaw.nd rfl (.inl rfl)) (pgs_cons (pg_name (i := 9) scLaw.nd rfl (.inl rfl)) pgs_nil))))))
        (pss_cons (ps_if (pt_cmpR op_ne (pe_call G__law_said hr (by rfl) T__law_said.g T__law_said.F.kp T__law_said.b .nil pass0 (pa_cons (pe_ix ix_tup (pe_ix ix_list (pv 3) (pv 5) (fun _ _ => rfl)) pe_int (fun _ _ => rfl)) (pa_cons (pv 9) pa_nil))) (pv 7) (nomark _))
          (pss_one (ps_ret pe_bl))
          pss_nil)
        (pss_one (ps_if (PW.pt (pw_and (pt_cmpR op_eq (pe_call G__law_draw hr (by rfl) T__law_draw.g T__law_draw.F.kp T__law_draw.b .nil pass0 (pa_cons (pv 1) (pa_cons pe_int pa_nil))) pe_int (nomark _)) (pw_and1 (pt_not (pt_val (pe_call G__law_stands hr (by rfl) T__law_stands.g T__law_stands.F.kp T__law_stands.b .nil pass0 (pa_cons (pe_ix ix_tup (pe_ix ix_list (pv 3) (pv 5) (fun _ _ => rfl)) pe_int (fun _ _ => rfl)) (pa_cons (pe_ix ix_list (pv 2) (pv 5) (fun _ _ => rfl)) (pa_cons (pe_ix ix_tup (pe_ix ix_list (pv 3) (pv 5) (fun _ _ => rfl)) pe_int (fun _ _ => rfl)) pa_nil)))))))))
          (pss_one (ps_ret pe_bl))
          pss_nil))))))))))
      (pss_cons (ps_for PassesOwn.never rfl (pi_range1 (by rfl) B.range (pa_cons pe_int pa_nil)) (pg_name (i := 5) scLaw.nd rfl (.inl rfl))
        (pss_one (ps_if (PW.pt (pw_or (pt_not (pt_val (pe_call G__law_stands hr (by rfl) T__law_stands.g T__law_stands.F.kp T__law_stands.b .nil pass0 (pa_cons (pe_ix ix_tup (pe_ix ix_list (pv 3) (pv 5) (fun _ _ => rfl)) pe_int (fun _ _ => rfl)) (pa_cons (pe_ix ix_list (pv 2) (pv 5) (fun _ _ => rfl)) (pa_cons (pe_ix ix_tup (pe_ix ix_list (pv 3) (pv 5) (fun _ _ => rfl)) pe_int (fun _ _ => rfl)) pa_nil)))))) (pw_or1 (pt_not (pt_val (pe_call G__law_goes_on hr (by rfl) T__law_goes_on.g T__law_goes_on.F.kp T__law_goes_on.b .nil pass0 (pa_cons (pe_ix ix_tup (pe_ix ix_list (pv 3) (pv 5) (fun _ _ => rfl)) pe_int (fun _ _ => rfl)) (pa_cons (pe_ix ix_tup (pe_ix ix_list (pv 3) (pv 5) (fun _ _ => rfl)) pe_int (fun _ _ => rfl)) pa_nil))))))))
          (pss_one (ps_ret pe_bl))
          pss_nil)))
      (pss_one (ps_ret pe_bl)))))))))), ?_⟩
    refine ⟨_, rfl, a0, ns, 0, rfl, hS, fun d H1 nd P1 s1 => ?_⟩
    refine ⟨line_small (by show 3 ≤ 16777216; decide), fun p np => ?_⟩
    have hp := @upd_same H1 p (.lst ([.str "swap", .str "spot", .str "shift"] : List V))
    have sp := same_new (o := .lst ([.str "swap", .str "spot", .str "shift"] : List V)) np
    have P2 := P1.same sp
    have pd := P1.ne np
    have s2 := s1.trans sp
    generalize upd H1 p (.lst [.str "swap", .str "spot", .str "shift"]) = H2 at hp P2 s2 ⊢
    refine ⟨_, rfl, d, 3, rfl, P2, by decide, by decide, fun u H3 u0 u1 P3 k3 => ?_⟩
    have s3 := sameD nd s2 k3
    obtain ⟨w1, ew1, hw1⟩ : ∃ w1 : Str, atI [V.str "swap", .str "spot", .str "shift"] u = some (.str w1) ∧ IsWay w1 := by
      obtain ⟨j, rfl⟩ := Int.eq_ofNat_of_zero_le u0
      have : j < 3 := by omega
      match j, this with
      | 0, _ => exact ⟨_, rfl, .inl rfl⟩
      | 1, _ => exact ⟨_, rfl, .inr (.inl rfl)⟩
      | 2, _ => exact ⟨_, rfl, .inr (.inr rfl)⟩
    refine ⟨p, _, u, .str w1, rfl, rfl, SqL.of (k3 _ _ hp pd), ew1, line_small (by show 4 ≤ 16777216; decide), fun wl nwl => ?_⟩
    have hwl := @upd_same H3 wl (.lst [.str "swap", .str w1, .str "shift", .str "spot"])
    have s4 := s3.trans (same_new (o := .lst [.str "swap", .str w1, .str "shift", .str "spot"]) nwl)
    have P4 := P3.same (same_new (o := .lst [.str "swap", .str w1, .str "shift", .str "spot"]) nwl)
    have wld := P3.ne nwl
    clear hp sp np pd P1 P2 P3 s1 s2 s3 k3 u0 u1 ew1 nwl
    generalize upd H3 wl (.lst [.str "swap", .str w1, .str "shift", .str "spot"]) = H4 at hwl s4 P4 ⊢
    -- the first desk
    refine fun b dxb nb ndb nbd => ⟨b, dxb, [d], rfl, upd_same, (fun x m => ?_), fun a e H7 na ne nae hDk hL k7 => ⟨rfl, ?_⟩⟩
    · obtain ⟨_, _, _, eP⟩ := P4
      exact ⟨_, by rw [List.mem_singleton.mp m, upd_ne (ne_of_none eP nb), upd_ne (ne_of_none eP ndb)]; exact eP⟩
    -- GO
    have s7 : Same H4 H7 := fun y o hy => by
      have nyb : y ≠ b := ne_of_none hy nb
      exact k7 y o (by rw [upd_ne nyb, upd_ne (ne_of_none hy ndb)]; exact hy) nyb
    have eb : e ≠ b := fun z => by rw [z, upd_same] at ne; cases ne
    have ed : e ≠ d := fun z => by
      obtain ⟨_, _, _, eP⟩ := P4
      rw [z, upd_ne (ne_of_none eP nb), upd_ne (ne_of_none eP ndb), eP] at ne
      cases ne
    have ewl : e ≠ wl := fun z => by
      rw [z, upd_ne (ne_of_none hwl nb), upd_ne (ne_of_none hwl ndb), hwl] at ne
      cases ne
    have ad : a ≠ d := fun z => by
      obtain ⟨_, _, _, eP⟩ := P4
      rw [z, upd_ne (ne_of_none eP nb), upd_ne (ne_of_none eP ndb), eP] at na
      cases na
    have bd : b ≠ d := P4.ne nb
    have s07 := s4.trans s7
    have hr0 : rws [] = ([] : List (List Int)) := rfl
    have D7 : DAt C_Desk C_Lister Pt H7 b a e (e :: [d]) "swap" 3 1 (srt (rws [])) (back []) := ⟨hDk, by rw [hr0, srt_nil]; exact hL, (KeepT.of_same s07).tab tab, by rw [hr0, srt_nil]; exact Nat.zero_le _, Nat.zero_lt_succ _, by rw [hr0, srt_nil]; exact List.nodup_nil, fun m => (List.mem_cons.mp m).elim nae fun m => ad (List.mem_singleton.mp m), fun m => (List.mem_cons.mp m).elim (fun z => eb z.symm) fun m => bd (List.mem_singleton.mp m)⟩
    have hwl7 := s7 _ _ hwl
    have P7 := P4.same s7
    clear hDk hL k7 ndb nbd na ne nae s4 s7 hwl P4 nb eb ad bd
    refine ⟨line_small (by show 0 ≤ 16777216; decide), fun l0 nl0 => ⟨line_small (by show 2 ≤ 16777216; decide), fun t0 nt0 => ?_⟩⟩
    have sA := same_new (o := .lst []) nl0
    have hl0 := same_new (o := .tup [.ref b, .ref l0]) nt0 _ _ (@upd_same H7 l0 (.lst []))
    have sB := sA.trans (same_new (o := .tup [.ref b, .ref l0]) nt0)
    have ht0 := @upd_same (upd H7 l0 (.lst [])) t0 (.tup [.ref b, .ref l0])
    have el0 : e ≠ l0 := by
      obtain ⟨_, _, he⟩ := D7.ea
      exact ne_of_none he nl0
    have l0d := P7.ne nl0
    have D8 := D7.same sB
    have P8 := P7.same sB
    have hwl8 := sB _ _ hwl7
    have s08 := s07.trans sB
    clear D7 P7 hwl7 s07 sA sB nl0 nt0
    generalize upd (upd H7 l0 (.lst [])) t0 (.tup [.ref b, .ref l0]) = H8 at hl0 ht0 D8 P8 hwl8 s08 ⊢
    have G0 : Gd C_Desk C_Lister Pt H8 ⟨t0, b, a, e, l0, e :: [d], "swap", 3, []⟩ := ⟨D8, ⟨⟨hl0, fun _ m => absurd m List.not_mem_nil⟩, .inl rfl, (by show 1 ≤ 3; decide), (by show 3 ≤ 8; decide), fun _ m => absurd m List.not_mem_nil, Nat.zero_le _⟩, List.nodup_nil, el0, ht0⟩
    have tab8 : GxR.TabG H8 Pt := D8.T
    obtain ⟨⟨_, _, ha8⟩, _, he8⟩ := D8.ea
    -- the second desk
    refine ⟨_, rfl, _, rfl, wl, _, 1, .str w1, rfl, rfl, SqL.of hwl8, rfl, _, rfl, d, 4, rfl, P8, by decide, by decide, fun v H9 v0 v1 P9 k9 => ⟨_, _, rfl, rfl, ?_⟩⟩
    have K9 : KX [d] H8 H9 := (KX.refl H8).put (fun b o h n => k9 b o h n) (.inl List.mem_cons_self)
    have G0' := G0.kd K9 (by simp) ed l0d (fun _ m => absurd m List.not_mem_nil) P8 P9
    have hwl9 := k9 _ _ hwl8 wld
    have s09 := sameD nd s08 k9
    obtain ⟨⟨_, _, ha9⟩, _, he9⟩ := G0'.A.ea
    obtain ⟨x9, y9, z9, eP9⟩ := P9
    refine ⟨d, w1, 3, (1 + v).toNat, [d, a, e], by rw [Int.toNat_of_nonneg (by omega)]; rfl, ⟨x9, y9, z9, eP9⟩, hw1, .inl rfl, by omega, by omega, (KeepT.of_same s09).tab tab, fun x m => ?_, List.mem_cons_self, fun t1 b1 a1 e1 l1 X1 ps1 H10 ht1 nt1 nb1 na1 ne1 nl1 iX1 eX1 A1 R1 nd1 bd1 le1 n31 n41 el1 pd1 P10 K10 => ?_⟩
    · simp only [List.mem_cons, List.not_mem_nil, or_false] at m
      rcases m with rfl | rfl | rfl
      · exact ⟨_, eP9⟩
      · exact ⟨_, ha9⟩
      · exact ⟨_, he9⟩
    clear G0 K9 P8 s08 hwl8 tab8 ha8 he8 D8 hl0 ht0 v0 v1
    have hnd : ∀ {x : Addr}, x ≠ d → x ∉ [d] := fun n m => n (List.mem_singleton.mp m)
    have G0 := G0'.kd K10 (by simp) ed l0d (fun _ m => absurd m List.not_mem_nil) ⟨x9, y9, z9, eP9⟩ P10
    have G1 : Gd C_Desk C_Lister Pt H10 ⟨t1, b1, a1, e1, l1, X1, w1, 3, ps1⟩ := ⟨A1, R1, nd1, el1, ht1⟩
    have hwl10 := K10.get hwl9 (hnd wld) (fun p z => by cases z)
    have kT10 : KeepT H H10 := K10 H (KeepT.of_same s09) (fun y m => by rw [List.mem_singleton.mp m]; exact nd)
    have e10 : e1 ≠ e := fun z => eX1 (by rw [z]; simp)
    have l10 : l1 ≠ e := (ne_of_none he9 nl1).symm
    have aX10 : a ∈ X1 := iX1 a (by simp)
    have eX10 : e ∈ X1 := iX1 e (by simp)
    have dX1 : d ∈ X1 := iX1 d (by simp)
    have ed1 : e1 ≠ d := fun z => eX1 (by rw [z]; simp)
    have ld1 : l1 ≠ d := fun z => by rw [z, eP9] at nl1; cases nl1
    have ewl1 : e1 ≠ wl := fun z => by rw [z, hwl9] at ne1; cases ne1
    have ne1' : ps1 ≠ [] := n31 rfl
    clear G0' K10 eP9 s09 hwl9 ha9 he9 nt1 nb1 na1 ne1 nl1 iX1 eX1 A1 R1 el1 ht1 n31 n41
    refine ⟨line_small (by show 2 ≤ 16777216; decide), fun m0 nm0 => ?_⟩
    have sM := same_new (o := .lst [.ref t0, .ref t1]) nm0
    have hm0 := @upd_same H10 m0 (.lst [.ref t0, .ref t1])
    have G0 := G0.keepT (KeepT.of_same sM)
    have G1 := G1.keepT (KeepT.of_same sM)
    have hwl11 := sM _ _ hwl10
    have kT11 := kT10.trans (KeepT.of_same sM)
    have P11 := P10.same sM
    have m0d := P10.ne nm0
    clear sM hwl10 kT10 P10 nm0
    generalize upd H10 m0 (.lst [.ref t0, .ref t1]) = H11 at hm0 G0 G1 hwl11 kT11 P11 ⊢
    -- the third desk
    obtain ⟨⟨_, _, ha⟩, _, he⟩ := G0.A.ea
    obtain ⟨⟨_, _, ha1⟩, _, he1⟩ := G1.A.ea
    obtain ⟨x11, y11, z11, eP11⟩ := P11
    refine ⟨_, rfl, _, rfl, d, "shift", 7, 1, [d, a, e, a1, e1], rfl, ⟨x11, y11, z11, eP11⟩, .inr (.inr rfl), .inr (.inr rfl), by decide, by decide, kT11.tab tab, fun x m => ?_, List.mem_cons_self, fun t2 b2 a2 e2 l2 X2 ps2 H12 ht2 nt2 nb2 na2 ne2 nl2 iX2 eX2 A2 R2 nd2 bd2 le2 n32 n42 el2 pd2 P12 K12 => ?_⟩
    · simp only [List.mem_cons, List.not_mem_nil, or_false] at m
      rcases m with rfl | rfl | rfl | rfl | rfl
      · exact ⟨_, eP11⟩
      · exact ⟨_, ha⟩
      · exact ⟨_, he⟩
      · exact ⟨_, ha1⟩
      · exact ⟨_, he1⟩
    have G0' := G0.kd K12 (by simp) ed l0d (fun _ m => absurd m List.not_mem_nil) ⟨x11, y11, z11, eP11⟩ P12
    have G1' := G1.kd K12 dX1 ed1 ld1 pd1 ⟨x11, y11, z11, eP11⟩ P12
    have G2 : Gd C_Desk C_Lister Pt H12 ⟨t2, b2, a2, e2, l2, X2, "shift", 7, ps2⟩ := ⟨A2, R2, nd2, el2, ht2⟩
    have hwl12 := K12.get hwl11 (hnd wld) (fun p z => by cases z)
    have hm012 := K12.get hm0 (hnd m0d) (fun p z => by cases z)
    have kT12 : KeepT H H12 := K12 H kT11 (fun y m => by rw [List.mem_singleton.mp m]; exact nd)
    have e20 : e2 ≠ e := fun z => eX2 (by rw [z]; simp)
    have e21 : e2 ≠ e1 := fun z => eX2 (by rw [z]; simp)
    have l20 : l2 ≠ e := (ne_of_none he nl2).symm
    have l21 : l2 ≠ e1 := (ne_of_none he1 nl2).symm
    have aX20 : a ∈ X2 := iX2 a (by simp)
    have eX20 : e ∈ X2 := iX2 e (by simp)
    have aX21 : a1 ∈ X2 := iX2 a1 (by simp)
    have eX21 : e1 ∈ X2 := iX2 e1 (by simp)
    have dX2 : d ∈ X2 := iX2 d (by simp)
    have ed2 : e2 ≠ d := fun z => eX2 (by rw [z]; simp)
    have ld2 : l2 ≠ d := fun z => by rw [z, eP11] at nl2; cases nl2
    have ewl2 : e2 ≠ wl := fun z => by rw [z, hwl11] at ne2; cases ne2
    clear G0 G1 K12 eP11 kT11 hwl11 hm0 ha ha1 he he1 nt2 nb2 na2 ne2 nl2 iX2 eX2 A2 R2 el2 ht2 n32 n42
    -- the list of them
    refine ⟨line_small (by show 1 ≤ 16777216; decide), fun p np => ⟨m0, p, _, _, rfl, rfl, same_new (o := .lst [.ref t2]) np _ _ hm012, upd_same, line_small (by show 2 + 1 ≤ 16777216; decide), fun m nm => ?_⟩⟩
    have sM := (same_new (o := .lst [.ref t2]) np).trans (same_new (o := .lst ([.ref t0, .ref t1] ++ [.ref t2])) nm)
    have hm := @upd_same (upd H12 p (.lst [.ref t2])) m (.lst ([.ref t0, .ref t1] ++ [.ref t2]))
    have nmH : H12 m = none := (same_new (o := .lst [.ref t2]) np).free nm
    have md := P12.ne nmH
    have P13 := P12.same sM
    have mny : ∀ y ∈ [m], H12 y = none ∧ ∃ o, (upd (upd H12 p (.lst [.ref t2])) m (.lst ([.ref t0, .ref t1] ++ [.ref t2]))) y = some o := fun y h => by rw [List.mem_singleton.mp h]; exact ⟨nmH, _, hm⟩
    have G0 := G0'.grow sM mny
    have G1 := G1'.grow sM mny
    have G2 := G2.grow sM mny
    have hwl13 := sM _ _ hwl12
    have kT13 := kT12.trans (KeepT.of_same sM)
    have em0 : e ≠ m := by
      obtain ⟨_, _, he⟩ := G0'.A.ea
      exact ne_of_none he nmH
    have em1 : e1 ≠ m := by
      obtain ⟨_, _, he⟩ := G1'.A.ea
      exact ne_of_none he nmH
    have em2 : e2 ≠ m := by
      obtain ⟨_, _, he⟩ := (by assumption : Gd C_Desk C_Lister Pt H12 ⟨t2, b2, a2, e2, l2, X2, "shift", 7, ps2⟩).A.ea
      exact ne_of_none he nmH
    have lm0 : l0 ≠ m := ne_of_none G0'.R.hO.1 nmH
    have lm1 : l1 ≠ m := ne_of_none G1'.R.hO.1 nmH
    have lm2 : l2 ≠ m := ne_of_none (by assumption : Gd C_Desk C_Lister Pt H12 ⟨t2, b2, a2, e2, l2, X2, "shift", 7, ps2⟩).R.hO.1 nmH
    have pm1 : ∀ q ∈ ps1, q.1 ≠ m := fun q h => ne_of_none (G1'.R.hO.2 q h) nmH
    have pm2 : ∀ q ∈ ps2, q.1 ≠ m := fun q h => ne_of_none ((by assumption : Gd C_Desk C_Lister Pt H12 ⟨t2, b2, a2, e2, l2, X2, "shift", 7, ps2⟩).R.hO.2 q h) nmH
    have wlm : wl ≠ m := ne_of_none hwl12 nmH
    have nmHH : H m = none := kT12.free nmH
    clear G0' G1' mny nm np nmH sM hwl12 kT12 P12 hm012
    have hm : (upd (upd H12 p (.lst [.ref t2])) m (.lst ([.ref t0, .ref t1] ++ [.ref t2]))) m = some (.lst [.ref t0, .ref t1, .ref t2]) := hm
    clear el0
    generalize upd (upd H12 p (.lst [.ref t2])) m (.lst ([.ref t0, .ref t1] ++ [.ref t2])) = H13 at hm G0 G1 G2 hwl13 kT13 P13 ⊢
    -- the fourth desk
    refine ⟨_, rfl, .inl ⟨rfl, _, SqL.of hm⟩, _, rfl, _, rfl, d, 4, rfl, P13, by decide, by decide, fun v H14 v0 v1 P14 k14 => ⟨_, _, rfl, rfl, ?_⟩⟩
    have K14 : KX [d] H13 H14 := (KX.refl H13).put (fun b o h n => k14 b o h n) (.inl List.mem_cons_self)
    have G0' := G0.kd K14 (by simp) ed l0d (fun _ m => absurd m List.not_mem_nil) P13 P14
    have G1' := G1.kd K14 (List.mem_append_right _ dX1) ed1 ld1 pd1 P13 P14
    have G2' := G2.kd K14 (List.mem_append_right _ dX2) ed2 ld2 pd2 P13 P14
    have hwl14 := k14 _ _ hwl13 wld
    have hm14 := k14 _ _ hm md
    have kT14 : KeepT H H14 := K14 H kT13 (fun y h => by rw [List.mem_singleton.mp h]; exact nd)
    clear G0 G1 G2 K14 k14 P13 kT13 hwl13 hm
    obtain ⟨⟨_, _, ha⟩, _, he⟩ := G0'.A.ea
    obtain ⟨⟨_, _, ha1⟩, _, he1⟩ := G1'.A.ea
    obtain ⟨⟨_, _, ha2⟩, _, he2⟩ := G2'.A.ea
    obtain ⟨x14, y14, z14, eP14⟩ := P14
    refine ⟨d, "spot", 4, (21 + v).toNat, [d, m, a, e, a1, e1, a2, e2], by rw [Int.toNat_of_nonneg (by omega)]; rfl, ⟨x14, y14, z14, eP14⟩, .inr (.inl rfl), .inr (.inl rfl), by omega, by omega, kT14.tab tab, fun x m => ?_, List.mem_cons_self, fun t3 b3 a3 e3 l3 X3 ps3 H15 ht3 nt3 nb3 na3 ne3 nl3 iX3 eX3 A3 R3 nd3 bd3 le3 n33 n43 el3 pd3 P15 K15 => ?_⟩
    · simp only [List.mem_cons, List.not_mem_nil, or_false] at m
      rcases m with rfl | rfl | rfl | rfl | rfl | rfl | rfl | rfl
      · exact ⟨_, eP14⟩
      · exact ⟨_, hm14⟩
      · exact ⟨_, ha⟩
      · exact ⟨_, he⟩
      · exact ⟨_, ha1⟩
      · exact ⟨_, he1⟩
      · exact ⟨_, ha2⟩
      · exact ⟨_, he2⟩
    have G0 := G0'.kd K15 (by simp) ed l0d (fun _ m => absurd m List.not_mem_nil) ⟨x14, y14, z14, eP14⟩ P15
    have G1 := G1'.kd K15 (List.mem_append_right _ dX1) ed1 ld1 pd1 ⟨x14, y14, z14, eP14⟩ P15
    have G2 := G2'.kd K15 (List.mem_append_right _ dX2) ed2 ld2 pd2 ⟨x14, y14, z14, eP14⟩ P15
    have G3 : Gd C_Desk C_Lister Pt H15 ⟨t3, b3, a3, e3, l3, X3, "spot", 4, ps3⟩ := ⟨A3, R3, nd3, el3, ht3⟩
    have hwl15 := K15.get hwl14 (hnd wld) (fun p z => by cases z)
    have hm15 := K15.get hm14 (hnd md) (fun p z => by cases z)
    have kT15 : KeepT H H15 := K15 H kT14 (fun y m => by rw [List.mem_singleton.mp m]; exact nd)
    have e30 : e3 ≠ e := fun z => eX3 (by rw [z]; simp)
    have e31 : e3 ≠ e1 := fun z => eX3 (by rw [z]; simp)
    have e32 : e3 ≠ e2 := fun z => eX3 (by rw [z]; simp)
    have em3 : e3 ≠ m := fun z => eX3 (by rw [z]; simp)
    have l30 : l3 ≠ e := (ne_of_none he nl3).symm
    have l31 : l3 ≠ e1 := (ne_of_none he1 nl3).symm
    have l32 : l3 ≠ e2 := (ne_of_none he2 nl3).symm
    have lm3 : l3 ≠ m := (ne_of_none hm14 nl3).symm
    have aX30 : a ∈ X3 := iX3 a (by simp)
    have eX30 : e ∈ X3 := iX3 e (by simp)
    have aX31 : a1 ∈ X3 := iX3 a1 (by simp)
    have eX31 : e1 ∈ X3 := iX3 e1 (by simp)
    have aX32 : a2 ∈ X3 := iX3 a2 (by simp)
    have eX32 : e2 ∈ X3 := iX3 e2 (by simp)
    have mX3 : m ∈ X3 := iX3 m (by simp)
    have ewl3 : e3 ≠ wl := fun z => by rw [z, hwl14] at ne3; cases ne3
    have pm3 : ∀ q ∈ ps3, q.1 ≠ m := R3.ne (as := [t0, t1, t2]) hm15
    have l3n : ps3.length = (21 + v).toNat := n43 rfl
    clear G0' G1' G2' K15 eP14 kT14 hwl14 hm14 ha ha1 ha2 he he1 he2 nt3 nb3 na3 ne3 nl3 iX3 eX3 A3 R3 el3 ht3 n33 n43
    refine ⟨m, _, _, rfl, rfl, hm15, line_lt (by show 3 < 16777216; decide), ?_⟩
    have hm16 : (upd H15 m (.lst ([.ref t0, .ref t1, .ref t2] ++ [.ref t3]))) m = some (.lst [.ref t0, .ref t1, .ref t2, .ref t3]) := upd_same
    have G0 := G0.put (ys := [.ref t0, .ref t1, .ref t2] ++ [.ref t3]) (by simp) hm15 em0 lm0 (fun _ m => absurd m List.not_mem_nil)
    have G1 := G1.put (ys := [.ref t0, .ref t1, .ref t2] ++ [.ref t3]) (by simp) hm15 em1 lm1 pm1
    have G2 := G2.put (ys := [.ref t0, .ref t1, .ref t2] ++ [.ref t3]) (by simp) hm15 em2 lm2 pm2
    have G3 := G3.put (ys := [.ref t0, .ref t1, .ref t2] ++ [.ref t3]) mX3 hm15 em3 lm3 pm3
    have hwl16 : (upd H15 m (.lst ([.ref t0, .ref t1, .ref t2] ++ [.ref t3]))) wl = some (.lst [.str "swap", .str w1, .str "shift", .str "spot"]) := by rw [upd_ne wlm]; exact hwl15
    have kT16 : KeepT H (upd H15 m (.lst ([.ref t0, .ref t1, .ref t2] ++ [.ref t3]))) := kT15.kplD (a := m) (e := m) (fun x o hx n1 _ => by rw [upd_ne n1]; exact hx) nmHH nmHH
    have P16 : PoolAt (upd H15 m (.lst ([.ref t0, .ref t1, .ref t2] ++ [.ref t3]))) d := P15.upd md
    clear hm15 hwl15 kT15 P15
    generalize upd H15 m (.lst ([.ref t0, .ref t1, .ref t2] ++ [.ref t3])) = H16 at hm16 hwl16 G0 G1 G2 G3 kT16 P16 ⊢
    -- none is left out
    refine ⟨_, rfl, m, rfl, ⟨_, SqL.of hm16⟩, fun N nN => ?_⟩
    refine lc_list (K := K) (a := m) (xs := [.ref t0, .ref t1, .ref t2, .ref t3]) (fun _ G => G N = some (.lst []) ∧ Same H16 G) ⟨upd_same, same_new nN⟩ (fun i G _ hP => SqL.of (hP.2 _ _ hm16)) (fun i x G hx hP => ?_) (fun G hP => ?_)
    · obtain ⟨hN, sG⟩ := hP
      match i, hx with
      | 0, hx =>
        cases hx
        exact ⟨t0, _, rfl, .inl (.inl (sG _ _ G0.t)), rfl, _, _, rfl, _, _, rfl, rfl, rfl, _, rfl, rfl, _, rfl, iteF ⟨hN, sG⟩⟩
      | 1, hx =>
        cases hx
        exact ⟨t1, _, rfl, .inl (.inl (sG _ _ G1.t)), rfl, _, _, rfl, _, _, rfl, rfl, rfl, _, rfl, rfl, _, rfl, iteF ⟨hN, sG⟩⟩
      | 2, hx =>
        cases hx
        exact ⟨t2, _, rfl, .inl (.inl (sG _ _ G2.t)), rfl, _, _, rfl, _, _, rfl, rfl, rfl, _, rfl, rfl, _, rfl, iteF ⟨hN, sG⟩⟩
      | 3, hx =>
        cases hx
        exact ⟨t3, _, rfl, .inl (.inl (sG _ _ G3.t)), rfl, _, _, rfl, _, _, rfl, rfl, rfl, _, rfl, rfl, _, rfl, iteF ⟨hN, sG⟩⟩
      | i + 4, hx => cases hx
    obtain ⟨hN, sG⟩ := hP
    refine ⟨line_small (by show 0 ≤ 16777216; decide), fun z nz => ?_⟩
    have sz := same_new (o := .lst []) nz
    refine ⟨dLL [], dLL [], .lst (SqL.of (sz _ _ hN)) .nil, .lst (SqL.of upd_same) .nil, shaped_lists [], shaped_lists [], ?_⟩
    rw [show (!PyData.eqv (dLL []) (dLL [])) = false by decide +kernel]
    refine ⟨_, rfl, iteF ?_⟩
    have kz := KeepT.of_same (sG.trans sz)
    have hm := kz.lst hm16
    have hwl := kz.lst hwl16
    have G0 := G0.keepT kz
    have G1 := G1.keepT kz
    have G2 := G2.keepT kz
    have G3 := G3.keepT kz
    have kT := kT16.trans kz
    clear hm16 hwl16 kT16 P16 kz hN sG nz sz nN
    generalize upd G z (.lst []) = H17 at hm hwl G0 G1 G2 G3 kT ⊢
    clear G
    refine ⟨_, rfl, m, _, 2, .ref t2, rfl, rfl, SqL.of hm, rfl, t2, _, 1, .ref l2, rfl, rfl, .inl (.inl G2.t), rfl, line_small (by show 0 ≤ 16777216; decide), fun z nz => ?_⟩
    have sz := same_new (o := .lst []) nz
    have kz := KeepT.of_same sz
    have hz := @upd_same H17 z (.lst [])
    have hm := kz.lst hm
    have hwl := kz.lst hwl
    have G0 := G0.keepT kz
    have G1 := G1.keepT kz
    have G2 := G2.keepT kz
    have G3 := G3.keepT kz
    have kT := kT.trans kz
    clear kz nz sz
    generalize upd H17 z (.lst []) = H18 at hz hm hwl G0 G1 G2 G3 kT ⊢
    refine ⟨_, _, dp_lists G2.R.hO.two.1 G2.R.hO.two.2, .lst (SqL.of hz) .nil, shaped_lists _, shaped_lists [], ?_⟩
    rw [show PyData.list [] = dLL [] from rfl, eqv_nilD]
    refine ⟨_, rfl, ?_⟩
    by_cases c2 : rws ps2 = []
    · rw [decide_eq_true c2]
      refine iteT ?_
      refine ⟨_, rfl, m, _, 2, .ref t2, rfl, rfl, SqL.of hm, rfl, t2, _, 1, .ref l2, rfl, rfl, .inl (.inl G2.t), rfl, line_small (by show 0 ≤ 16777216; decide), fun z nz => ?_⟩
      have sz := same_new (o := .lst []) nz
      refine ⟨_, _, dp_lists (G2.R.same sz).hO.two.1 (G2.R.same sz).hO.two.2, .lst (SqL.of upd_same) .nil, shaped_lists _, shaped_lists [], ?_⟩
      rw [show PyData.list [] = dLL [] from rfl, eqv_nilD, decide_eq_true c2]
      exact q _
    rw [decide_eq_false c2]
    refine iteF ?_
    have F0 : Four C_Desk C_Lister Pt H18 m wl 0 [⟨t0, b, a, e, l0, [m] ++ (e :: [d]), "swap", 3, []⟩, ⟨t1, b1, a1, e1, l1, [m] ++ X1, w1, 3, ps1⟩, ⟨t2, b2, a2, e2, l2, [m] ++ X2, "shift", 7, ps2⟩, ⟨t3, b3, a3, e3, l3, X3, "spot", 4, ps3⟩] := by
      have rl : ∀ ps : List (Addr × List Int), (rws ps).length = ps.length := fun ps => List.length_map ..
      refine ⟨rfl, hm, hwl, fun r mr => ?_, fun i r _ hr => ?_, fun i j r s hij hr hs => ?_, fun i r hr => ?_⟩
      · simp only [List.mem_cons, List.not_mem_nil, or_false] at mr
        rcases mr with rfl | rfl | rfl | rfl
        · exact ⟨em0.symm, ewl.symm⟩
        · exact ⟨em1.symm, ewl1.symm⟩
        · exact ⟨em2.symm, ewl2.symm⟩
        · exact ⟨em3.symm, ewl3.symm⟩
      · match i, hr with
        | 0, hr => cases hr; exact G0
        | 1, hr => cases hr; exact G1
        | 2, hr => cases hr; exact G2
        | 3, hr => cases hr; exact G3
        | i + 4, hr => cases hr
      · match i, j, hij, hr, hs with
        | 0, 1, _, hr, hs => cases hr; cases hs; exact ⟨List.mem_append_right _ aX10, List.mem_append_right _ eX10, e10, l10⟩
        | 0, 2, _, hr, hs => cases hr; cases hs; exact ⟨List.mem_append_right _ aX20, List.mem_append_right _ eX20, e20, l20⟩
        | 0, 3, _, hr, hs => cases hr; cases hs; exact ⟨aX30, eX30, e30, l30⟩
        | 1, 2, _, hr, hs => cases hr; cases hs; exact ⟨List.mem_append_right _ aX21, List.mem_append_right _ eX21, e21, l21⟩
        | 1, 3, _, hr, hs => cases hr; cases hs; exact ⟨aX31, eX31, e31, l31⟩
        | 2, 3, _, hr, hs => cases hr; cases hs; exact ⟨aX32, eX32, e32, l32⟩
        | i, j + 4, _, _, hs => cases hs
        | i + 1, 0, h, _, _ => omega
        | i + 1, 1, h, _, _ => omega
        | i + 2, 2, h, _, _ => omega
        | i + 3, 3, h, _, _ => omega
      · have hn : ∀ {ps : List (Addr × List Int)}, ps ≠ [] → srt (rws ps) ≠ [] := fun {ps} h z => h (List.eq_nil_of_length_eq_zero (by
          have := (srt_perm (rws ps)).length_eq
          rw [z, rl] at this
          exact this.symm))
        match i, hr with
        | 0, hr => cases hr; exact ⟨rfl, rfl, srt_nil, rfl⟩
        | 1, hr =>
          cases hr
          exact ⟨rfl, hn ne1', fun r mr => by
            obtain ⟨p, mp, rfl⟩ := List.mem_map.mp ((srt_perm _).mem_iff.mp mr)
            exact G1.R.ord p mp⟩
        | 2, hr =>
          cases hr
          exact ⟨rfl, rfl, hn (fun z => c2 (by have z : ps2 = [] := z; rw [z]; rfl)), by rw [(srt_perm _).length_eq, rl]; show ps2.length ≤ 20; omega, fun z => bd2 ((srt_perm _).mem_iff.mp z)⟩
        | 3, hr =>
          cases hr
          exact ⟨rfl, by rw [(srt_perm _).length_eq, rl]; show 20 < ps3.length; omega, fun r mr => by
            obtain ⟨p, mp, rfl⟩ := List.mem_map.mp ((srt_perm _).mem_iff.mp mr)
            exact G3.R.ord p mp⟩
        | i + 4, hr => cases hr
    clear G0 G1 G2 G3 hm hwl em0 em1 em2 em3 ewl ewl1 ewl2 ewl3 aX10 eX10 e10 l10 aX20 eX20 e20 l20 aX30 eX30 e30 l30 aX21 eX21 e21 l21 aX31 eX31 e31 l31 aX32 eX32 e32 l32 ne1' c2 bd2 hz pm1 pm2 pm3 lm0 lm1 lm2 lm3 wlm mX3 md pd1 pd2 pd3 nd1 nd2 nd3 bd1 bd3 le1 le2 le3 l3n v0 v1 dX1 dX2 ed ed1 ed2 ld1 ld2 l0d wld m0d hr0
    generalize ([⟨t0, b, a, e, l0, [m] ++ (e :: [d]), "swap", 3, []⟩, ⟨t1, b1, a1, e1, l1, [m] ++ X1, w1, 3, ps1⟩, ⟨t2, b2, a2, e2, l2, [m] ++ X2, "shift", 7, ps2⟩, ⟨t3, b3, a3, e3, l3, X3, "spot", 4, ps3⟩] : List Rec) = R at F0
    refine ⟨_, rfl, a0, _, rfl, .inl (kT.seq hS), 40, _, rfl, 2, _, rfl, 1, _, rfl, ?_⟩
    obtain ⟨mm, em, hmm⟩ : ∃ m : Nat, (if (if ((ns.map V.int).length : Int) < 40 then ((ns.map V.int).length : Int) else 40) > 2 then (if ((ns.map V.int).length : Int) < 40 then ((ns.map V.int).length : Int) else 40) else 2) = (m : Int) ∧ m ≤ 40 := by
      by_cases c1 : ((ns.map V.int).length : Int) < 40
      · rw [if_pos c1]
        by_cases c2 : ((ns.map V.int).length : Int) > 2
        · exact ⟨(ns.map V.int).length, by rw [if_pos c2], by omega⟩
        · exact ⟨2, by rw [if_neg c2]; rfl, by omega⟩
      · rw [if_neg c1]
        exact ⟨40, rfl, by omega⟩
    rw [em]
    refine ⟨⟨by omega, by omega, by omega, by omega⟩, ?_⟩
    refine for_range (n := ((mm : Int) - 1).toNat) (fun k0 σ G => ∃ (y1 y4 y5 y6 y7 y8 y9 y10 y11 : Option V), σ = [some (.ref a0), y1, some (.ref wl), some (.ref m), y4, y5, y6, y7, y8, y9, y10, y11] ∧ Four C_Desk C_Lister Pt G m wl 0 R ∧ KeepT H G)
      ⟨_, _, _, _, _, _, _, _, _, rfl, F0, kT⟩ (fun k0 σ G hi hP => ?_) (fun σ G hP => ?_)
    · clear F0 kT
      obtain ⟨y1, y4, y5, y6, y7, y8, y9, y10, y11, rfl, F0, kT⟩ := hP
      refine ⟨_, rfl, _, rfl, a0, ns, k0 + 1, by rw [show (1 + (k0 : Int)) = ((k0 + 1 : Nat) : Int) by omega]; rfl, kT.seq hS, fun p G1 np P1 s1 => ?_⟩
      refine ⟨_, rfl, p, 4, rfl, P1, by decide, by decide, fun av G2 av0 av1 P2 k2 => ?_⟩
      have s2 := sameD np s1 k2
      refine ⟨_, rfl, p, 8, rfl, P2, by decide, by decide, fun wv G3 wv0 wv1 P3 k3 => ?_⟩
      have s3 := sameD np s2 k3
      refine ⟨line_small (by show 8 ≤ 16777216; decide), fun l nl => ?_⟩
      have hl := @upd_same G3 l (.lst [.str "	NoRow", .str "	NoWay", .str "	NoText", .str "	NoNumber", .str "", .str "", .str "", .str ""])
      have s4 := s3.trans (same_new (o := .lst [.str "	NoRow", .str "	NoWay", .str "	NoText", .str "	NoNumber", .str "", .str "", .str "", .str ""]) nl)
      have P4 := P3.same (same_new (o := .lst [.str "	NoRow", .str "	NoWay", .str "	NoText", .str "	NoNumber", .str "", .str "", .str "", .str ""]) nl)
      generalize upd G3 l (.lst [.str "	NoRow", .str "	NoWay", .str "	NoText", .str "	NoNumber", .str "", .str "", .str "", .str ""]) = G4 at hl s4 P4 ⊢
      obtain ⟨due, edue, hdue⟩ : ∃ due : Str, atI [V.str "	NoRow", .str "	NoWay", .str "	NoText", .str "	NoNumber", .str "", .str "", .str "", .str ""] wv = some (.str due) ∧ ((wv = 0 → due = "	" ++ nameD 8) ∧ (wv = 1 → due = "	" ++ nameD 1) ∧ (wv = 2 → due = "	" ++ nameD 6) ∧ (wv = 3 → due = "	" ++ nameD 4)) := by
        obtain ⟨j, rfl⟩ := Int.eq_ofNat_of_zero_le wv0
        have : j < 8 := by omega
        match j, this with
        | 0, _ => exact ⟨_, rfl, fun _ => by decide +kernel, fun z => by omega, fun z => by omega, fun z => by omega⟩
        | 1, _ => exact ⟨_, rfl, fun z => by omega, fun _ => by decide +kernel, fun z => by omega, fun z => by omega⟩
        | 2, _ => exact ⟨_, rfl, fun z => by omega, fun z => by omega, fun _ => by decide +kernel, fun z => by omega⟩
        | 3, _ => exact ⟨_, rfl, fun z => by omega, fun z => by omega, fun z => by omega, fun _ => by decide +kernel⟩
        | 4, _ => exact ⟨_, rfl, fun z => by omega, fun z => by omega, fun z => by omega, fun z => by omega⟩
        | 5, _ => exact ⟨_, rfl, fun z => by omega, fun z => by omega, fun z => by omega, fun z => by omega⟩
        | 6, _ => exact ⟨_, rfl, fun z => by omega, fun z => by omega, fun z => by omega, fun z => by omega⟩
        | 7, _ => exact ⟨_, rfl, fun z => by omega, fun z => by omega, fun z => by omega, fun z => by omega⟩
      refine ⟨_, rfl, l, _, wv, .str due, rfl, rfl, SqL.of hl, edue, ?_⟩
      clear hl edue nl s1 s2 s3 k2 k3 P1 P2 P3
      -- the rows
      refine ⟨_, rfl, p, rfl, P4, fun v0 G5 r0 P5 k5 => ?_⟩
      have s5 := sameD np s4 k5
      refine ⟨_, rfl, p, rfl, P5, fun v1 G6 r1 P6 k6 => ?_⟩
      have s6 := sameD np s5 k6
      refine ⟨_, rfl, p, rfl, P6, fun v2 G7 r2 P7 k7 => ?_⟩
      have s7 := sameD np s6 k7
      refine ⟨_, rfl, p, rfl, P7, fun v3 G8 r3 P8 k8 => ?_⟩
      have s8 := sameD np s7 k8
      have r0 := r0 G8 ((k6.trans k7).trans k8)
      have r1 := r1 G8 (k7.trans k8)
      have r2 := r2 G8 k8
      have r3 := r3 G8 (KeepD.of_same (Same.refl G8))
      clear s4 s5 s6 s7 k5 k6 k7 k8 P4 P5 P6 P7
      refine ⟨line_small (by show 4 ≤ 16777216; decide), fun rw_ nrw => ?_⟩
      have hrw := @upd_same G8 rw_ (.lst [v0, v1, v2, v3])
      have sr := same_new (o := .lst [v0, v1, v2, v3]) nrw
      have r0 := r0.same sr
      have r1 := r1.same sr
      have r2 := r2.same sr
      have r3 := r3.same sr
      have s9 := s8.trans sr
      have P9 := P8.same sr
      clear sr s8 P8 nrw
      generalize upd G8 rw_ (.lst [v0, v1, v2, v3]) = G9 at hrw r0 r1 r2 r3 s9 P9 ⊢
      obtain ⟨ia, r, ea, hr, mr, at1, at2⟩ := F0.at av0 av1
      have cnd := F0.cnd ia r hr
      refine ⟨fun σ' G' => ∃ (rv : V) (due : Str) (dat : PyData) (i : Nat) (y8 : Option V), σ' = [some (.ref a0), some (.ref p), some (.ref wl), some (.ref m), some (.int (1 + (k0 : Int))), some (.int av), some (.int wv), some (.str due), y8, some rv, y10, y11] ∧ Same G G' ∧ PoolAt G' p ∧ Dq G' rv dat ∧ (∀ s, dat = .str s → s.length ≤ 10000) ∧ sayO r.w r.n 1 (srt (rws r.ps)) (back r.ps) dat = .no i ∧ due = "	" ++ nameD i, ?_, fun σ' G' hM => ?_⟩
      · have fin : ∀ {v : V} {i : Nat}, RefAt G9 v i → due = "	" ++ nameD i → ∃ (rv : V) (due' : Str) (dat : PyData) (i : Nat) (y8 : Option V), [some (V.ref a0), some (.ref p), some (.ref wl), some (.ref m), some (.int (1 + (k0 : Int))), some (.int av), some (.int wv), some (.str due), some (.ref rw_), some v, y10, y11] = [some (V.ref a0), some (.ref p), some (.ref wl), some (.ref m), some (.int (1 + (k0 : Int))), some (.int av), some (.int wv), some (.str due'), y8, some rv, y10, y11] ∧ Same G G9 ∧ PoolAt G9 p ∧ Dq G9 rv dat ∧ (∀ s, dat = .str s → s.length ≤ 10000) ∧ sayO r.w r.n 1 (srt (rws r.ps)) (back r.ps) dat = .no i ∧ due' = "	" ++ nameD i := fun {v i} hv hd => by
          obtain ⟨dat, h1, h2, h3⟩ := hv
          exact ⟨v, due, dat, i, _, rfl, s9, P9, h1, h2, h3 _ _ _ _ _, hd⟩
        refine ⟨_, rfl, _, _, rfl, rfl, _, rfl, ite2 (fun cw => ?_) (fun cw => ?_)⟩
        · have hw4 : wv < 4 := by simpa using cw
          obtain ⟨j, rfl⟩ := Int.eq_ofNat_of_zero_le wv0
          have : j < 4 := by omega
          match j, this with
          | 0, _ => exact ⟨_, rfl, _, rfl, rw_, _, 0, v0, rfl, rfl, SqL.of hrw, rfl, fin r0 (hdue.1 rfl)⟩
          | 1, _ => exact ⟨_, rfl, _, rfl, rw_, _, 1, v1, rfl, rfl, SqL.of hrw, rfl, fin r1 (hdue.2.1 rfl)⟩
          | 2, _ => exact ⟨_, rfl, _, rfl, rw_, _, 2, v2, rfl, rfl, SqL.of hrw, rfl, fin r2 (hdue.2.2.1 rfl)⟩
          | 3, _ => exact ⟨_, rfl, _, rfl, rw_, _, 3, v3, rfl, rfl, SqL.of hrw, rfl, fin r3 (hdue.2.2.2 rfl)⟩
        · refine ⟨_, rfl, _, rfl, p, av, rfl, P9, av0, av1, fun tp due2 row G10 htp els P10 k10 => ?_⟩
          refine ⟨tp, _, rfl, .inl (.inl htp), rfl, _, _, rfl, _, _, rfl, rfl, ?_⟩
          obtain ⟨l1, l2, i, e1, e2⟩ := els
          exact ⟨.str row, "	" ++ due2, .str row, i, _, rfl, sameD np s9 k10, P10, .str row, (fun s e => by injection e with e; rw [← e]; exact l1), e2 _ _ _ _ _ (by rw [ea]; exact cnd), by rw [e1]⟩
      clear r0 r1 r2 r3 hrw s9 P9 hdue
      obtain ⟨rv, due, dat, i, y8, rfl, s10, P10, hd, hl, say, ed⟩ := hM
      have F1 := F0.same s10
      have gr := F1.g ia r (Nat.zero_le _) hr
      have A := gr.A
      have htr := gr.t
      refine ⟨_, rfl, _, rfl, m, _, av, .ref r.t, rfl, rfl, SqL.of F1.hm, at1, r.t, _, 0, .ref r.b, rfl, rfl, .inl (.inl htr), rfl, _, rfl, r.b, r.a, r.e, r.X, r.w, r.n, 1, _, _, rv, dat, rfl, A.D, A.L, A.le, A.ls, A.nd, A.T, hd, hl, A.aX, A.bX, ?_⟩
      rw [say]
      intro G11 k11
      have F2 := F1.keepT k11
      have kT2 := (kT.trans (KeepT.of_same s10)).trans k11
      have k02 : KeepT G G11 := (KeepT.of_same s10).trans k11
      obtain ⟨px, py, pz, eP⟩ := P10
      have P11 : PoolAt G11 p := ⟨px, py, pz, k11.lst eP⟩
      rw [ed]
      refine ⟨_, rfl, rfl, _, rfl, ?_⟩
      rw [show (!decide (V.str ("	" ++ nameD i) = V.str ("	" ++ nameD i))) = false by rw [decide_eq_true rfl]; rfl]
      refine iteF ?_
      refine ⟨_, rfl, p, 2, rfl, P11, by decide, by decide, fun v12 G12 v120 v121 P12 k12 => ?_⟩
      have k03 : KeepT G G12 := k02.kplD (a := p) (e := p) (fun x o hx n1 _ => k12 _ _ hx n1) np np
      have F3 := F0.keepT k03
      have kT3 := kT.trans k03
      refine ⟨rfl, _, rfl, ite2 (fun _ => ?_) (fun _ => ?_)⟩
      · have gr := F3.g ia r (Nat.zero_le _) hr
        refine ⟨_, rfl, _, rfl, m, _, av, .ref r.t, rfl, rfl, SqL.of F3.hm, at1, r.t, _, 0, .ref r.b, rfl, rfl, .inl (.inl gr.t), rfl, _, rfl, _, rfl, wl, _, av, .str r.w, rfl, rfl, SqL.of F3.hw, at2, _, rfl, _, rfl, m, _, av, .ref r.t, rfl, rfl, SqL.of F3.hm, at1, r.t, _, 1, .ref r.l, rfl, rfl, .inl (.inl gr.t), rfl, ?_⟩
        refine ⟨r.b, r.a, r.e, r.l, r.X, r.w, r.n, 1, _, r.ps, rfl, gr.A, gr.R, gr.nd, fun G13 k13 => ?_⟩
        exact ⟨_, rfl, iteF ⟨_, _, _, _, _, _, _, _, _, rfl, F3.keepT k13, kT3.trans k13⟩⟩
      · exact ⟨_, _, _, _, _, _, _, _, _, rfl, F3, kT3⟩
    · obtain ⟨y1, y4, y5, y6, y7, y8, y9, y10, y11, rfl, F1, kT1⟩ := hP
      refine ⟨4, rfl, by decide, by decide, ?_⟩
      refine for_range (n := 4) (fun k0 σ G => ∃ (y4 y5 y6 y7 y8 y9 y10 y11 : Option V), σ = [some (.ref a0), y1, some (.ref wl), some (.ref m), y4, y5, y6, y7, y8, y9, y10, y11] ∧ Four C_Desk C_Lister Pt G m wl k0 R)
        ⟨_, _, _, _, _, _, _, _, rfl, F1⟩ (fun k0 σ G hi hP => ?_) (fun σ G hP => q G)
      obtain ⟨y4, y5, y6, y7, y8, y9, y10, y11, rfl, F2⟩ := hP
      obtain ⟨ia, r, ea, hr, mr, at1, at2⟩ := F2.at (v := (0 : Int) + (k0 : Int)) (by omega) (by omega)
      obtain rfl : ia = k0 := by omega
      have gr := F2.g ia r (Nat.le_refl _) hr
      refine ⟨_, rfl, _, rfl, m, _, _, .ref r.t, rfl, rfl, SqL.of F2.hm, at1, r.t, _, 0, .ref r.b, rfl, rfl, .inl (.inl gr.t), rfl, _, rfl, _, rfl, wl, _, _, .str r.w, rfl, rfl, SqL.of F2.hw, at2, _, rfl, _, rfl, m, _, _, .ref r.t, rfl, rfl, SqL.of F2.hm, at1, r.t, _, 1, .ref r.l, rfl, rfl, .inl (.inl gr.t), rfl, ?_⟩
      refine ⟨r.b, r.a, r.e, r.l, r.X, r.w, r.n, 1, _, r.ps, rfl, gr.A, gr.R, gr.nd, fun G13 k13 => ?_⟩
      refine ⟨_, rfl, iteF ?_⟩
      have F3 := F2.keepT k13
      have gr := F3.g ia r (Nat.le_refl _) hr
      refine ⟨_, rfl, _, rfl, m, _, _, .ref r.t, rfl, rfl, SqL.of F3.hm, at1, r.t, _, 0, .ref r.b, rfl, rfl, .inl (.inl gr.t), rfl, _, rfl, _, rfl, m, _, _, .ref r.t, rfl, rfl, SqL.of F3.hm, at1, r.t, _, 1, .ref r.l, rfl, rfl, .inl (.inl gr.t), rfl, ?_⟩
      refine ⟨r.b, r.a, r.e, r.l, r.X, r.w, r.n, r.ps, rfl, gr.A, gr.R, gr.nd, gr.el, fun G14 rs ss A14 K14 => ?_⟩
      exact ⟨_, rfl, iteF ⟨_, _, _, _, _, _, _, _, rfl, F3.next hr A14 K14⟩⟩
end
end Fo
namespace Fo
open PySem PySem.Spec PyProof.Rows L2
/-! a dict of defs that the module's top has made, as it stands in the module's own objects -/
abbrev EntP := Int × Str × Tok × Addr
def ent (p : EntP) : DictEntry := ⟨p.1, .str p.2.1 p.2.2.1, .ref p.2.2.2⟩
theorem pairs_ent {P : Program} {w : World} : ∀ ps : List EntP, Pairs (mixKind P w) (ps.map ent) (ps.map fun p => ((.inr p.2.1 : Key), (.ref p.2.2.2 : Value)))
  | [] => .nil
  | p :: ps => .cons (by show Value.isStrOf p.2.1 (.str p.2.1 p.2.2.1) = true; simp [Value.isStrOf]) rfl (pairs_ent ps)
theorem kv_ent : ∀ ps : List EntP, KV (ps.map fun p => ((.inr p.2.1 : Key), (V.ref p.2.2.2))) (ps.map fun p => ((.inr p.2.1 : Key), (.ref p.2.2.2 : Value)))
  | [] => .nil
  | p :: ps => .cons ⟨rfl, rfl⟩ (kv_ent ps)
theorem dks_of {P : Program} {w : World} {K : PySem.W.Frag} {a : Addr} {n : Nat} {ps : List EntP} (l : K.lookup a = some ⟨.type "dict", none, .dict (ps.map ent).toArray n, #[]⟩) (s : (a == sysModules) = false) (z : ps.length ≤ sizeLine) (e : ∀ p ∈ ps, p.1 = hashStr w p.2.1) (nd : (ps.map (·.2.1)).Nodup) : DKs P w K a (ps.map fun p => ((.inr p.2.1 : Key), (V.ref p.2.2.2))) := by
  refine ⟨fun h X => ⟨by rw [List.length_map]; exact z, s, ps.map fun p => ((.inr p.2.1 : Key), (.ref p.2.2.2 : Value)), kv_ent ps, _, _, _, X _ _ l, ⟨rfl, rfl, rfl⟩, rfl, ?_, ?_, ?_⟩⟩
  · intro x hx
    obtain ⟨p, hp, rfl⟩ := List.mem_map.mp (List.mem_toArray.mp hx)
    exact ⟨.inr p.2.1, by show Value.isStrOf p.2.1 (.str p.2.1 p.2.2.1) = true; simp [Value.isStrOf], e p hp⟩
  · exact pairs_ent ps
  · rw [List.map_map]
    have h2 : ps.map ((fun x : Key × Value => x.1) ∘ fun p => ((.inr p.2.1 : Key), (.ref p.2.2.2 : Value))) = (ps.map (·.2.1)).map (Sum.inr : Str → Key) := by
      rw [List.map_map]
      rfl
    rw [h2]
    exact nd.map (Sum.inr : Str → Key) (fun x y h z => h (Sum.inr.inj z))
theorem dks7 {P : Program} {w : World} {K : PySem.W.Frag} {a : Addr} {n : Nat} {h0 h1 h2 h3 h4 h5 h6 : Int} {t0 t1 t2 t3 t4 t5 t6 : Tok} {f0 f1 f2 f3 f4 f5 f6 : Addr} (l : K.lookup a = some ⟨.type "dict", none, .dict #[⟨h0, .str "undo" t0, .ref f0⟩, ⟨h1, .str "list" t1, .ref f1⟩, ⟨h2, .str "apart" t2, .ref f2⟩, ⟨h3, .str "room" t3, .ref f3⟩, ⟨h4, .str "first" t4, .ref f4⟩, ⟨h5, .str "bounds" t5, .ref f5⟩, ⟨h6, .str "middle" t6, .ref f6⟩] n, #[]⟩) (s : (a == sysModules) = false)
    (e0 : h0 = hashStr w "undo") (e1 : h1 = hashStr w "list") (e2 : h2 = hashStr w "apart") (e3 : h3 = hashStr w "room") (e4 : h4 = hashStr w "first") (e5 : h5 = hashStr w "bounds") (e6 : h6 = hashStr w "middle") : DKs P w K a (kvB f0 f1 f2 f3 f4 f5 f6) := by
  refine dks_of (n := n) (ps := [(h0, "undo", t0, f0), (h1, "list", t1, f1), (h2, "apart", t2, f2), (h3, "room", t3, f3), (h4, "first", t4, f4), (h5, "bounds", t5, f5), (h6, "middle", t6, f6)]) l s (by show 7 ≤ sizeLine; decide) (fun p hp => ?_) ?_
  · simp only [List.mem_cons, List.not_mem_nil, or_false] at hp
    rcases hp with rfl | rfl | rfl | rfl | rfl | rfl | rfl <;> assumption
  · show (["undo", "list", "apart", "room", "first", "bounds", "middle"] : List Str).Nodup
    decide +kernel
theorem dks3 {P : Program} {w : World} {K : PySem.W.Frag} {a : Addr} {n : Nat} {h0 h1 h2 : Int} {t0 t1 t2 : Tok} {f0 f1 f2 : Addr} (l : K.lookup a = some ⟨.type "dict", none, .dict #[⟨h0, .str "come" t0, .ref f0⟩, ⟨h1, .str "drop" t1, .ref f1⟩, ⟨h2, .str "near" t2, .ref f2⟩] n, #[]⟩) (s : (a == sysModules) = false)
    (e0 : h0 = hashStr w "come") (e1 : h1 = hashStr w "drop") (e2 : h2 = hashStr w "near") : DKs P w K a (kvO f0 f1 f2) := by
  refine dks_of (n := n) (ps := [(h0, "come", t0, f0), (h1, "drop", t1, f1), (h2, "near", t2, f2)]) l s (by show 3 ≤ sizeLine; decide) (fun p hp => ?_) ?_
  · simp only [List.mem_cons, List.not_mem_nil, or_false] at hp
    rcases hp with rfl | rfl | rfl <;> assumption
  · show (["come", "drop", "near"] : List Str).Nodup
    decide +kernel
end Fo
namespace Fo
open PySem PySem.Spec PyProof.Rows L2
/-! the end of a law that reaches tables of code objects -/
theorem tab_code {K : PySem.W.Frag} {x : Str} {c P f : Addr} {oc : Value} {od : Option Addr} {fd : FuncData} {osl : Array (Option Value)} (t : PySem.W.tabIn K x = some (c, P)) (a : PySem.W.nsIn K mainGlobals x = some (some (.ref f))) (l : K.lookup f = some ⟨oc, od, .func fd, osl⟩) : fd.code = .ref c := by
  unfold PySem.W.tabIn at t
  rw [a] at t
  simp only [l] at t
  split at t
  · rename_i c' e
    rw [e]
    split at t
    · split at t
      · cases t
        rfl
      · cases t
    · cases t
  · cases t
theorem tab_mk {K : PySem.W.Frag} {x : Str} {c P f : Addr} {oc o2 cd : Value} {od d2 : Option Addr} {osl s2 : Array (Option Value)} {nm ql : Str} {ar : Arguments} {bd : List Stmt} {sc : Scope} {dV kV dc pm ct : Value} {an : Option Addr} {vs : Array Value}
    (a : PySem.W.nsIn K mainGlobals x = some (some (.ref f))) (l : K.lookup f = some ⟨oc, od, .func (PySem.W.fnOf nm ql ar bd sc dV kV dc pm an cd ct), osl⟩) (e : cd = .ref c) (u : K.lookup c = some ⟨o2, d2, .fields vs, s2⟩) (v : vs[11]? = some (.ref P)) : PySem.W.tabIn K x = some (c, P) := by
  subst e
  have hc : (PySem.W.fnOf nm ql ar bd sc dV kV dc pm an (.ref c) ct).code = .ref c := rfl
  unfold PySem.W.tabIn
  rw [a]
  simp only [l, hc, u, v]
def TabsOf (q : Program) (K : PySem.W.Frag) (h : Heap) : Prop := ∀ (y : Str) (c P : Addr), ((recsOf q).any fun e => e.name == y) = true → PySem.W.tabIn K y = some (c, P) → PySem.W.CodeHd h c P ∧ h.get? P = some { cls := .none, data := .fields #[] }
theorem walk_tab {l : PySem.W.OpenLaw} {n k : Nat} {q : Program} {loose : List Str} {XP : (Str → Option Value) → Heap → Prop} {YP : World → Heap → Prop} {d : DefRec} {K : Params → PySem.W.Frag} {CX : World → CXT} {x : Str}
    (hn : l.most = some n) (hn2 : n ≤ sizeLine) (hdf : d.params.defaults = []) (hr : Room k callerA) (hY : ∀ (w : World) (h : Heap), YP w h → (K w.params).In h)
    (F : ∀ (w : World) (mg : Str → Option Value) (fa : Addr) (h : Heap), (K w.params).In h → h.Ns mainGlobals mg → mg d.name = some (.ref fa) → TabsOf q (K w.params) h → LamX.LawAtS l w (K w.params) (CX w) k n x mg fa h)
    (hX : ∀ (w : World) (H : Hp) (s : Shared) (e : Value) (s' : Shared), CX w [] H s (fun _ _ _ => False) e s' → False) :
    PySem.W.WalkO q loose XP YP l.row.toRowW d [] (fun f vs => PySem.call f vs) := by
  refine Att.attach_callB hn hdf fun w sA sB mg mb fa o1 pm cd dc ad us ns G Y ho hd hcd hmg hob hin hle hbi hge => ?_
  have KX := hY w _ Y
  have tabs : TabsOf q (K w.params) sB.heap := fun y c P hy ht => by
    obtain ⟨e, he⟩ := Option.isSome_iff_exists.mp ((List.find?_isSome (p := fun e : DefRec => e.name == y) (xs := recsOf q)).mpr (by
      obtain ⟨z, z1, z2⟩ := List.any_eq_true.mp hy
      exact ⟨z, z1, z2⟩))
    exact PySem.W.tab_of G.T KX he ht
  obtain ⟨fd, cs, sp, hT, nT, C, hb, hsp, hF⟩ := F w mg fa _ KX G.T.g hmg tabs
  exact LamX.law_callTs KX G.T.g G.T.b G.T.builtins G.T.nolimit hge hT nT C G.T.bmain hob hin (Nat.le_trans hle hn2) hr hF hb (fun H hH hS => hsp H ad ns hle hbi hH hS) fun H e s' => hX w H sB e s'
end Fo
--LEVEL 40
--TABS is_far
--CLASSOBJ Lister way n d taken earlier
--CLASSOBJ Desk lister
--DICTK BARE_ROWS aB undo:undo_last list:tell_list apart:tell_apart room:tell_room first:tell_first bounds:tell_bounds middle:tell_middle
--DICTK ORDER_ROWS aO come:let_come drop:let_drop near:tell_near
--CLASSES OrderError NoOrder NoWay NoFit NoPlace NoNumber TooMany NoText NoName NoRow
--RAISED NoOrder NoWay NoFit NoNumber TooMany NoText NoRow
--KINDS NoOrder NoWay NoFit NoPlace NoNumber TooMany NoText NoName NoRow
--LAWCALL ok_law F_law T_Desk T_Desk_init T__law_pool T__law_draw T__law_said T__law_made T__law_no_row T__law_no_way T__law_no_number T__law_no_text T__law_else T__law_stands T__law_goes_on (ok_desk0 (k := 36) T_Desk_init T_Desk T_Lister T_Lister_init (ok_initL (k := 35) T_Lister_init T_Lister T_check_apart (ok_apart (k := 32) T_check_apart T_check_way T_check_size T_check_from T_is_whole m_WAYS B) m_MOST_KEPT)) (ok_pool (k := 38) T__law_pool B) (ok_drawP (k := 38) T__law_draw B) (ok_saidD (k := 38) (c := cls9 C_NoOrder C_NoWay C_NoFit C_NoPlace C_NoNumber C_TooMany C_NoText C_NoName C_NoRow) T__law_said T_Desk T_Desk_say (ok_say (k := 37) (c := cls9 C_NoOrder C_NoWay C_NoFit C_NoPlace C_NoNumber C_TooMany C_NoText C_NoName C_NoRow) T_Desk_say T_Desk T_Lister T_read_order T_Desk_say_with_numbers T_undo_last T_tell_list T_tell_apart T_tell_room T_tell_first T_tell_bounds T_tell_middle T_let_come T_let_drop T_tell_near (ok_readX (k := 36) T_read_order T_check_text T_number_in T_is_order (ok_txtX (k := 35) T_check_text X_NoText B) (ok_numD (k := 35) T_number_in B) (ok_isOrdD (k := 34) T_is_order T_is_whole B m_MOST_THINGS) X_NoText m_MOST_THINGS) (ok_swn (k := 35) (c := cls9 C_NoOrder C_NoWay C_NoFit C_NoPlace C_NoNumber C_TooMany C_NoText C_NoName C_NoRow) T_Desk_say_with_numbers T_Desk T_Lister T_Lister_init T_tell_sure T_read_number (fn_or (fn_up (ok_initL (k := 34) T_Lister_init T_Lister T_check_apart (ok_apart (k := 31) T_check_apart T_check_way T_check_size T_check_from T_is_whole m_WAYS B) m_MOST_KEPT)) (ok_initX (k := 34) T_Lister_init T_Lister T_check_apart (ok_apX (k := 33) T_check_apart T_check_way T_check_size T_check_from (ok_wayX (k := 32) T_check_way m_WAYS X_NoWay B) (ok_sizeX (k := 32) T_check_size T_is_whole (ok_wholeD (k := 31) T_is_whole B) X_NoNumber B) (ok_fromX (k := 32) T_check_from T_is_whole (ok_wholeD (k := 31) T_is_whole B) X_NoNumber B)) m_MOST_KEPT)) (ok_suT (k := 35) (c := cls9 C_NoOrder C_NoWay C_NoFit C_NoPlace C_NoNumber C_TooMany C_NoText C_NoName C_NoRow) T_tell_sure T_Lister T_Lister_orders T_not_sure (ok_ordersL (k := 34) T_Lister_orders T_Lister B) (ok_notR (k := 34) (c := cls9 C_NoOrder C_NoWay C_NoFit C_NoPlace C_NoNumber C_TooMany C_NoText C_NoName C_NoRow) T_not_sure T_check_sure T_all_orders T_those_within (ok_sureX (k := 33) (c := cls9 C_NoOrder C_NoWay C_NoFit C_NoPlace C_NoNumber C_TooMany C_NoText C_NoName C_NoRow) T_check_sure T_check_unlike_list T_check_way T_check_listed T_check_from (ok_cux (k := 32) T_check_unlike_list T_is_unlike_list (ok_unlD (k := 31) T_is_unlike_list T_is_order_list (ok_olD (k := 30) T_is_order_list T_is_order (ok_isOrdD (k := 28) T_is_order T_is_whole B m_MOST_THINGS) B) B) X_NoOrder B m_MOST_ORDERS) (ok_wayX (k := 32) T_check_way m_WAYS X_NoWay B) (ok_listX (k := 32) T_check_listed m_MOST_LISTED X_NoFit B) (ok_fromX (k := 32) T_check_from T_is_whole (ok_wholeD (k := 31) T_is_whole B) X_NoNumber B) B) B)) (ok_rdN (k := 35) T_read_number T_number_in (ok_numH (k := 34) T_number_in B) X_NoRow m_NUMBERS) X_NoRow B m_DONE) (ok_undT (k := 36) T_undo_last T_Lister T_Lister_undo (ok_undoL (k := 35) T_Lister_undo T_Lister X_NoNumber B) m_DONE) (ok_listT (k := 36) T_tell_list T_Lister T_Lister_orders T_show_orders (ok_ordersL (k := 35) T_Lister_orders T_Lister B) (ok_showL (k := 35) T_show_orders T_is_order_list T_written (ok_olst52 (k := 35) T_is_order_list (ok_olD (k := 34) T_is_order_list T_is_order (ok_isOrdD (k := 32) T_is_order T_is_whole B m_MOST_THINGS) B)) (ok_wr (k := 34) T_written B) B m_NO_ORDERS)) (ok_apT (k := 36) T_tell_apart T_Lister T_Lister_least_apart (ok_leastL (k := 35) T_Lister_least_apart T_Lister T_known_far (ok_known (k := 34) T_known_far T_far_by_swap T_far_by_spot T_far_by_shift (ok_swap (k := 33) T_far_by_swap T_seats_in (ok_seats (k := 31) T_seats_in T_places_in B) B) (ok_spot (k := 33) T_far_by_spot B) (ok_shift (k := 33) T_far_by_shift T_seats_in (ok_seats (k := 31) T_seats_in T_places_in B) B)) B) B m_NOTHING) (ok_roT (k := 36) T_tell_room T_Lister T_Lister_how_many_more (ok_moreR (k := 35) T_Lister_how_many_more T_Lister T_check_few (ok_fewX (k := 34) T_check_few X_TooMany) T_all_orders (ok_nv_all_orders (k := 34) T_all_orders) T_is_far (ok_nv_is_far (k := 34) T_is_far) B m_MOST_LISTED) B) (ok_fiT (k := 36) T_tell_first T_Lister T_Lister_first_more T_show_order (ok_firstR (k := 35) T_Lister_first_more T_Lister T_check_few (ok_fewX (k := 34) T_check_few X_TooMany) T_all_orders (ok_nv_all_orders (k := 34) T_all_orders) T_is_far (ok_nv_is_far (k := 34) T_is_far) B m_MOST_LISTED) (ok_show (k := 35) T_show_order T_check_order T_written (ok_check (k := 32) T_check_order T_is_order T_is_whole B m_MOST_THINGS) (ok_wr (k := 34) T_written B)) m_NOTHING) (ok_miT (k := 36) T_tell_middle T_Lister T_Lister_orders T_middle_of T_show_order (ok_ordersL (k := 35) T_Lister_orders T_Lister B) (ok_midR (k := 35) T_middle_of T_check_poll T_check_way T_check_few T_counts_ahead T_middle_by_pairs T_middle_by_all (ok_cpX (k := 34) T_check_poll T_is_order_list (ok_olD (k := 33) T_is_order_list T_is_order (ok_isOrdD (k := 31) T_is_order T_is_whole B m_MOST_THINGS) B) X_NoOrder B m_MOST_POLLED) (ok_wayX (k := 34) T_check_way m_WAYS X_NoWay B) (ok_fewY (k := 34) T_check_few X_TooMany) (ok_nv_counts_ahead (k := 34) T_counts_ahead) (ok_nv_middle_by_pairs (k := 34) T_middle_by_pairs) (ok_nv_middle_by_all (k := 34) T_middle_by_all) B m_MOST_BY_PAIRS m_MOST_LISTED) (ok_show (k := 35) T_show_order T_check_order T_written (ok_check (k := 32) T_check_order T_is_order T_is_whole B m_MOST_THINGS) (ok_wr (k := 34) T_written B))) (ok_coT (k := 36) T_let_come T_Lister T_Lister_come T_show_orders (fn_or (fn_up (ok_comeL (k := 35) T_Lister_come T_Lister T_check_order (ok_check (k := 32) T_check_order T_is_order T_is_whole B m_MOST_THINGS) T_check_many (ok_manyOk (k := 34) T_check_many m_MOST_ORDERS) T_known_far (ok_known (k := 34) T_known_far T_far_by_swap T_far_by_spot T_far_by_shift (ok_swap (k := 33) T_far_by_swap T_seats_in (ok_seats (k := 31) T_seats_in T_places_in B) B) (ok_spot (k := 33) T_far_by_spot B) (ok_shift (k := 33) T_far_by_shift T_seats_in (ok_seats (k := 31) T_seats_in T_places_in B) B)) T_Lister_change_to (ok_changeL (k := 34) T_Lister_change_to T_Lister) B)) (ok_comeR (k := 35) T_Lister_come T_Lister T_check_order (ok_chk (k := 34) T_check_order T_is_order (ok_isOrdD (k := 32) T_is_order T_is_whole B m_MOST_THINGS) X_NoOrder) T_check_many (ok_manyX (k := 34) T_check_many m_MOST_ORDERS X_TooMany) T_known_far (ok_known (k := 34) T_known_far T_far_by_swap T_far_by_spot T_far_by_shift (ok_swap (k := 33) T_far_by_swap T_seats_in (ok_seats (k := 31) T_seats_in T_places_in B) B) (ok_spot (k := 33) T_far_by_spot B) (ok_shift (k := 33) T_far_by_shift T_seats_in (ok_seats (k := 31) T_seats_in T_places_in B) B)) T_Lister_change_to (ok_changeL (k := 34) T_Lister_change_to T_Lister) X_NoFit B)) (ok_showL (k := 35) T_show_orders T_is_order_list T_written (ok_olst52 (k := 35) T_is_order_list (ok_olD (k := 34) T_is_order_list T_is_order (ok_isOrdD (k := 32) T_is_order T_is_whole B m_MOST_THINGS) B)) (ok_wr (k := 34) T_written B) B m_NO_ORDERS) B m_DONE) (ok_drT (k := 36) T_let_drop T_Lister T_Lister_drop (fn_or (fn_up (ok_dropL (k := 35) T_Lister_drop T_Lister T_check_order (ok_check (k := 32) T_check_order T_is_order T_is_whole B m_MOST_THINGS) T_Lister_change_to (ok_changeL (k := 34) T_Lister_change_to T_Lister) B)) (ok_dropR (k := 35) T_Lister_drop T_Lister T_check_order (ok_chk (k := 34) T_check_order T_is_order (ok_isOrdD (k := 32) T_is_order T_is_whole B m_MOST_THINGS) X_NoOrder) T_Lister_change_to (ok_changeL (k := 34) T_Lister_change_to T_Lister) X_NoFit B)) m_DONE) (ok_neT (k := 36) (c := cls9 C_NoOrder C_NoWay C_NoFit C_NoPlace C_NoNumber C_TooMany C_NoText C_NoName C_NoRow) T_tell_near T_Lister T_Lister_orders T_nearest_of T_show_orders (ok_ordersL (k := 35) T_Lister_orders T_Lister B) (ok_nearR (k := 35) (c := cls9 C_NoOrder C_NoWay C_NoFit C_NoPlace C_NoNumber C_TooMany C_NoText C_NoName C_NoRow) T_nearest_of T_check_led T_known_far T_those_within (ok_ledX (k := 34) (c := cls9 C_NoOrder C_NoWay C_NoFit C_NoPlace C_NoNumber C_TooMany C_NoText C_NoName C_NoRow) T_check_led T_check_order T_check_unlike_list T_check_way T_check_fit (ok_chk (k := 33) T_check_order T_is_order (ok_isOrdD (k := 31) T_is_order T_is_whole B m_MOST_THINGS) X_NoOrder) (ok_cux (k := 33) T_check_unlike_list T_is_unlike_list (ok_unlD (k := 32) T_is_unlike_list T_is_order_list (ok_olD (k := 31) T_is_order_list T_is_order (ok_isOrdD (k := 29) T_is_order T_is_whole B m_MOST_THINGS) B) B) X_NoOrder B m_MOST_ORDERS) (ok_wayX (k := 33) T_check_way m_WAYS X_NoWay B) (ok_fitX (k := 33) T_check_fit X_NoFit B) B) (ok_known (k := 34) T_known_far T_far_by_swap T_far_by_spot T_far_by_shift (ok_swap (k := 33) T_far_by_swap T_seats_in (ok_seats (k := 31) T_seats_in T_places_in B) B) (ok_spot (k := 33) T_far_by_spot B) (ok_shift (k := 33) T_far_by_shift T_seats_in (ok_seats (k := 31) T_seats_in T_places_in B) B)) (ok_nv_those_within (k := 34) T_those_within) B) (ok_showL (k := 35) T_show_orders T_is_order_list T_written (ok_olst52 (k := 35) T_is_order_list (ok_olD (k := 34) T_is_order_list T_is_order (ok_isOrdD (k := 32) T_is_order T_is_whole B m_MOST_THINGS) B)) (ok_wr (k := 34) T_written B) B m_NO_ORDERS)) X_NoRow B m_BARE_ROWS m_ORDER_ROWS D_BARE_ROWS D_ORDER_ROWS) (fun i hi => by rcases hi with rfl | rfl | rfl | rfl | rfl | rfl | rfl <;> first | exact kd_NoOrder | exact kd_NoWay | exact kd_NoFit | exact kd_NoNumber | exact kd_TooMany | exact kd_NoText | exact kd_NoRow) g_OrderError (fun i hi => by rcases hi with rfl | rfl | rfl | rfl | rfl | rfl | rfl <;> first | exact xm_NoOrder | exact xm_NoWay | exact xm_NoFit | exact xm_NoNumber | exact xm_TooMany | exact xm_NoText | exact xm_NoRow) g_NoOrder g_NoWay g_NoFit g_NoPlace g_NoNumber g_TooMany g_NoText g_NoName g_NoRow B) (ok_made85 (k := 37) T__law_made T_Desk T_Desk_init T__law_said T__law_all_of_four T__law_order T__law_draw T__law_written (ok_desk0 (k := 35) T_Desk_init T_Desk T_Lister T_Lister_init (ok_initL (k := 34) T_Lister_init T_Lister T_check_apart (ok_apart (k := 31) T_check_apart T_check_way T_check_size T_check_from T_is_whole m_WAYS B) m_MOST_KEPT)) (ok_saidD (k := 37) (c := cls9 C_NoOrder C_NoWay C_NoFit C_NoPlace C_NoNumber C_TooMany C_NoText C_NoName C_NoRow) T__law_said T_Desk T_Desk_say (ok_say (k := 36) (c := cls9 C_NoOrder C_NoWay C_NoFit C_NoPlace C_NoNumber C_TooMany C_NoText C_NoName C_NoRow) T_Desk_say T_Desk T_Lister T_read_order T_Desk_say_with_numbers T_undo_last T_tell_list T_tell_apart T_tell_room T_tell_first T_tell_bounds T_tell_middle T_let_come T_let_drop T_tell_near (ok_readX (k := 35) T_read_order T_check_text T_number_in T_is_order (ok_txtX (k := 34) T_check_text X_NoText B) (ok_numD (k := 34) T_number_in B) (ok_isOrdD (k := 33) T_is_order T_is_whole B m_MOST_THINGS) X_NoText m_MOST_THINGS) (ok_swn (k := 34) (c := cls9 C_NoOrder C_NoWay C_NoFit C_NoPlace C_NoNumber C_TooMany C_NoText C_NoName C_NoRow) T_Desk_say_with_numbers T_Desk T_Lister T_Lister_init T_tell_sure T_read_number (fn_or (fn_up (ok_initL (k := 33) T_Lister_init T_Lister T_check_apart (ok_apart (k := 30) T_check_apart T_check_way T_check_size T_check_from T_is_whole m_WAYS B) m_MOST_KEPT)) (ok_initX (k := 33) T_Lister_init T_Lister T_check_apart (ok_apX (k := 32) T_check_apart T_check_way T_check_size T_check_from (ok_wayX (k := 31) T_check_way m_WAYS X_NoWay B) (ok_sizeX (k := 31) T_check_size T_is_whole (ok_wholeD (k := 30) T_is_whole B) X_NoNumber B) (ok_fromX (k := 31) T_check_from T_is_whole (ok_wholeD (k := 30) T_is_whole B) X_NoNumber B)) m_MOST_KEPT)) (ok_suT (k := 34) (c := cls9 C_NoOrder C_NoWay C_NoFit C_NoPlace C_NoNumber C_TooMany C_NoText C_NoName C_NoRow) T_tell_sure T_Lister T_Lister_orders T_not_sure (ok_ordersL (k := 33) T_Lister_orders T_Lister B) (ok_notR (k := 33) (c := cls9 C_NoOrder C_NoWay C_NoFit C_NoPlace C_NoNumber C_TooMany C_NoText C_NoName C_NoRow) T_not_sure T_check_sure T_all_orders T_those_within (ok_sureX (k := 32) (c := cls9 C_NoOrder C_NoWay C_NoFit C_NoPlace C_NoNumber C_TooMany C_NoText C_NoName C_NoRow) T_check_sure T_check_unlike_list T_check_way T_check_listed T_check_from (ok_cux (k := 31) T_check_unlike_list T_is_unlike_list (ok_unlD (k := 30) T_is_unlike_list T_is_order_list (ok_olD (k := 29) T_is_order_list T_is_order (ok_isOrdD (k := 27) T_is_order T_is_whole B m_MOST_THINGS) B) B) X_NoOrder B m_MOST_ORDERS) (ok_wayX (k := 31) T_check_way m_WAYS X_NoWay B) (ok_listX (k := 31) T_check_listed m_MOST_LISTED X_NoFit B) (ok_fromX (k := 31) T_check_from T_is_whole (ok_wholeD (k := 30) T_is_whole B) X_NoNumber B) B) B)) (ok_rdN (k := 34) T_read_number T_number_in (ok_numH (k := 33) T_number_in B) X_NoRow m_NUMBERS) X_NoRow B m_DONE) (ok_undT (k := 35) T_undo_last T_Lister T_Lister_undo (ok_undoL (k := 34) T_Lister_undo T_Lister X_NoNumber B) m_DONE) (ok_listT (k := 35) T_tell_list T_Lister T_Lister_orders T_show_orders (ok_ordersL (k := 34) T_Lister_orders T_Lister B) (ok_showL (k := 34) T_show_orders T_is_order_list T_written (ok_olst52 (k := 34) T_is_order_list (ok_olD (k := 33) T_is_order_list T_is_order (ok_isOrdD (k := 31) T_is_order T_is_whole B m_MOST_THINGS) B)) (ok_wr (k := 33) T_written B) B m_NO_ORDERS)) (ok_apT (k := 35) T_tell_apart T_Lister T_Lister_least_apart (ok_leastL (k := 34) T_Lister_least_apart T_Lister T_known_far (ok_known (k := 33) T_known_far T_far_by_swap T_far_by_spot T_far_by_shift (ok_swap (k := 32) T_far_by_swap T_seats_in (ok_seats (k := 30) T_seats_in T_places_in B) B) (ok_spot (k := 32) T_far_by_spot B) (ok_shift (k := 32) T_far_by_shift T_seats_in (ok_seats (k := 30) T_seats_in T_places_in B) B)) B) B m_NOTHING) (ok_roT (k := 35) T_tell_room T_Lister T_Lister_how_many_more (ok_moreR (k := 34) T_Lister_how_many_more T_Lister T_check_few (ok_fewX (k := 33) T_check_few X_TooMany) T_all_orders (ok_nv_all_orders (k := 33) T_all_orders) T_is_far (ok_nv_is_far (k := 33) T_is_far) B m_MOST_LISTED) B) (ok_fiT (k := 35) T_tell_first T_Lister T_Lister_first_more T_show_order (ok_firstR (k := 34) T_Lister_first_more T_Lister T_check_few (ok_fewX (k := 33) T_check_few X_TooMany) T_all_orders (ok_nv_all_orders (k := 33) T_all_orders) T_is_far (ok_nv_is_far (k := 33) T_is_far) B m_MOST_LISTED) (ok_show (k := 34) T_show_order T_check_order T_written (ok_check (k := 31) T_check_order T_is_order T_is_whole B m_MOST_THINGS) (ok_wr (k := 33) T_written B)) m_NOTHING) (ok_miT (k := 35) T_tell_middle T_Lister T_Lister_orders T_middle_of T_show_order (ok_ordersL (k := 34) T_Lister_orders T_Lister B) (ok_midR (k := 34) T_middle_of T_check_poll T_check_way T_check_few T_counts_ahead T_middle_by_pairs T_middle_by_all (ok_cpX (k := 33) T_check_poll T_is_order_list (ok_olD (k := 32) T_is_order_list T_is_order (ok_isOrdD (k := 30) T_is_order T_is_whole B m_MOST_THINGS) B) X_NoOrder B m_MOST_POLLED) (ok_wayX (k := 33) T_check_way m_WAYS X_NoWay B) (ok_fewY (k := 33) T_check_few X_TooMany) (ok_nv_counts_ahead (k := 33) T_counts_ahead) (ok_nv_middle_by_pairs (k := 33) T_middle_by_pairs) (ok_nv_middle_by_all (k := 33) T_middle_by_all) B m_MOST_BY_PAIRS m_MOST_LISTED) (ok_show (k := 34) T_show_order T_check_order T_written (ok_check (k := 31) T_check_order T_is_order T_is_whole B m_MOST_THINGS) (ok_wr (k := 33) T_written B))) (ok_coT (k := 35) T_let_come T_Lister T_Lister_come T_show_orders (fn_or (fn_up (ok_comeL (k := 34) T_Lister_come T_Lister T_check_order (ok_check (k := 31) T_check_order T_is_order T_is_whole B m_MOST_THINGS) T_check_many (ok_manyOk (k := 33) T_check_many m_MOST_ORDERS) T_known_far (ok_known (k := 33) T_known_far T_far_by_swap T_far_by_spot T_far_by_shift (ok_swap (k := 32) T_far_by_swap T_seats_in (ok_seats (k := 30) T_seats_in T_places_in B) B) (ok_spot (k := 32) T_far_by_spot B) (ok_shift (k := 32) T_far_by_shift T_seats_in (ok_seats (k := 30) T_seats_in T_places_in B) B)) T_Lister_change_to (ok_changeL (k := 33) T_Lister_change_to T_Lister) B)) (ok_comeR (k := 34) T_Lister_come T_Lister T_check_order (ok_chk (k := 33) T_check_order T_is_order (ok_isOrdD (k := 31) T_is_order T_is_whole B m_MOST_THINGS) X_NoOrder) T_check_many (ok_manyX (k := 33) T_check_many m_MOST_ORDERS X_TooMany) T_known_far (ok_known (k := 33) T_known_far T_far_by_swap T_far_by_spot T_far_by_shift (ok_swap (k := 32) T_far_by_swap T_seats_in (ok_seats (k := 30) T_seats_in T_places_in B) B) (ok_spot (k := 32) T_far_by_spot B) (ok_shift (k := 32) T_far_by_shift T_seats_in (ok_seats (k := 30) T_seats_in T_places_in B) B)) T_Lister_change_to (ok_changeL (k := 33) T_Lister_change_to T_Lister) X_NoFit B)) (ok_showL (k := 34) T_show_orders T_is_order_list T_written (ok_olst52 (k := 34) T_is_order_list (ok_olD (k := 33) T_is_order_list T_is_order (ok_isOrdD (k := 31) T_is_order T_is_whole B m_MOST_THINGS) B)) (ok_wr (k := 33) T_written B) B m_NO_ORDERS) B m_DONE) (ok_drT (k := 35) T_let_drop T_Lister T_Lister_drop (fn_or (fn_up (ok_dropL (k := 34) T_Lister_drop T_Lister T_check_order (ok_check (k := 31) T_check_order T_is_order T_is_whole B m_MOST_THINGS) T_Lister_change_to (ok_changeL (k := 33) T_Lister_change_to T_Lister) B)) (ok_dropR (k := 34) T_Lister_drop T_Lister T_check_order (ok_chk (k := 33) T_check_order T_is_order (ok_isOrdD (k := 31) T_is_order T_is_whole B m_MOST_THINGS) X_NoOrder) T_Lister_change_to (ok_changeL (k := 33) T_Lister_change_to T_Lister) X_NoFit B)) m_DONE) (ok_neT (k := 35) (c := cls9 C_NoOrder C_NoWay C_NoFit C_NoPlace C_NoNumber C_TooMany C_NoText C_NoName C_NoRow) T_tell_near T_Lister T_Lister_orders T_nearest_of T_show_orders (ok_ordersL (k := 34) T_Lister_orders T_Lister B) (ok_nearR (k := 34) (c := cls9 C_NoOrder C_NoWay C_NoFit C_NoPlace C_NoNumber C_TooMany C_NoText C_NoName C_NoRow) T_nearest_of T_check_led T_known_far T_those_within (ok_ledX (k := 33) (c := cls9 C_NoOrder C_NoWay C_NoFit C_NoPlace C_NoNumber C_TooMany C_NoText C_NoName C_NoRow) T_check_led T_check_order T_check_unlike_list T_check_way T_check_fit (ok_chk (k := 32) T_check_order T_is_order (ok_isOrdD (k := 30) T_is_order T_is_whole B m_MOST_THINGS) X_NoOrder) (ok_cux (k := 32) T_check_unlike_list T_is_unlike_list (ok_unlD (k := 31) T_is_unlike_list T_is_order_list (ok_olD (k := 30) T_is_order_list T_is_order (ok_isOrdD (k := 28) T_is_order T_is_whole B m_MOST_THINGS) B) B) X_NoOrder B m_MOST_ORDERS) (ok_wayX (k := 32) T_check_way m_WAYS X_NoWay B) (ok_fitX (k := 32) T_check_fit X_NoFit B) B) (ok_known (k := 33) T_known_far T_far_by_swap T_far_by_spot T_far_by_shift (ok_swap (k := 32) T_far_by_swap T_seats_in (ok_seats (k := 30) T_seats_in T_places_in B) B) (ok_spot (k := 32) T_far_by_spot B) (ok_shift (k := 32) T_far_by_shift T_seats_in (ok_seats (k := 30) T_seats_in T_places_in B) B)) (ok_nv_those_within (k := 33) T_those_within) B) (ok_showL (k := 34) T_show_orders T_is_order_list T_written (ok_olst52 (k := 34) T_is_order_list (ok_olD (k := 33) T_is_order_list T_is_order (ok_isOrdD (k := 31) T_is_order T_is_whole B m_MOST_THINGS) B)) (ok_wr (k := 33) T_written B) B m_NO_ORDERS)) X_NoRow B m_BARE_ROWS m_ORDER_ROWS D_BARE_ROWS D_ORDER_ROWS) (fun i hi => by rcases hi with rfl | rfl | rfl | rfl | rfl | rfl | rfl <;> first | exact kd_NoOrder | exact kd_NoWay | exact kd_NoFit | exact kd_NoNumber | exact kd_TooMany | exact kd_NoText | exact kd_NoRow) g_OrderError (fun i hi => by rcases hi with rfl | rfl | rfl | rfl | rfl | rfl | rfl <;> first | exact xm_NoOrder | exact xm_NoWay | exact xm_NoFit | exact xm_NoNumber | exact xm_TooMany | exact xm_NoText | exact xm_NoRow) g_NoOrder g_NoWay g_NoFit g_NoPlace g_NoNumber g_TooMany g_NoText g_NoName g_NoRow B) (ok_afo85 (k := 37) T__law_all_of_four B) (ok_ordP (k := 37) T__law_order T__law_draw (ok_drawP (k := 36) T__law_draw B) B) (ok_drawP (k := 37) T__law_draw B) (ok_lwr (k := 37) T__law_written B) B) (ok_norow85 (k := 38) T__law_no_row T__law_draw (ok_drawP (k := 37) T__law_draw B) B) (ok_noway85 (k := 38) T__law_no_way T__law_draw (ok_drawP (k := 37) T__law_draw B) B) (ok_nonum85 (k := 38) T__law_no_number T__law_draw (ok_drawP (k := 37) T__law_draw B) B) (ok_notext85 (k := 38) T__law_no_text T__law_draw (ok_drawP (k := 37) T__law_draw B) B) (ok_els85 (k := 38) T__law_else T__law_draw (ok_drawP (k := 37) T__law_draw B) B) (ok_std85 (k := 38) T__law_stands T__law_far T__law_said T__law_list_written (ok_lfar82 (k := 37) T__law_far B) (ok_saidD (k := 37) (c := cls9 C_NoOrder C_NoWay C_NoFit C_NoPlace C_NoNumber C_TooMany C_NoText C_NoName C_NoRow) T__law_said T_Desk T_Desk_say (ok_say (k := 36) (c := cls9 C_NoOrder C_NoWay C_NoFit C_NoPlace C_NoNumber C_TooMany C_NoText C_NoName C_NoRow) T_Desk_say T_Desk T_Lister T_read_order T_Desk_say_with_numbers T_undo_last T_tell_list T_tell_apart T_tell_room T_tell_first T_tell_bounds T_tell_middle T_let_come T_let_drop T_tell_near (ok_readX (k := 35) T_read_order T_check_text T_number_in T_is_order (ok_txtX (k := 34) T_check_text X_NoText B) (ok_numD (k := 34) T_number_in B) (ok_isOrdD (k := 33) T_is_order T_is_whole B m_MOST_THINGS) X_NoText m_MOST_THINGS) (ok_swn (k := 34) (c := cls9 C_NoOrder C_NoWay C_NoFit C_NoPlace C_NoNumber C_TooMany C_NoText C_NoName C_NoRow) T_Desk_say_with_numbers T_Desk T_Lister T_Lister_init T_tell_sure T_read_number (fn_or (fn_up (ok_initL (k := 33) T_Lister_init T_Lister T_check_apart (ok_apart (k := 30) T_check_apart T_check_way T_check_size T_check_from T_is_whole m_WAYS B) m_MOST_KEPT)) (ok_initX (k := 33) T_Lister_init T_Lister T_check_apart (ok_apX (k := 32) T_check_apart T_check_way T_check_size T_check_from (ok_wayX (k := 31) T_check_way m_WAYS X_NoWay B) (ok_sizeX (k := 31) T_check_size T_is_whole (ok_wholeD (k := 30) T_is_whole B) X_NoNumber B) (ok_fromX (k := 31) T_check_from T_is_whole (ok_wholeD (k := 30) T_is_whole B) X_NoNumber B)) m_MOST_KEPT)) (ok_suT (k := 34) (c := cls9 C_NoOrder C_NoWay C_NoFit C_NoPlace C_NoNumber C_TooMany C_NoText C_NoName C_NoRow) T_tell_sure T_Lister T_Lister_orders T_not_sure (ok_ordersL (k := 33) T_Lister_orders T_Lister B) (ok_notR (k := 33) (c := cls9 C_NoOrder C_NoWay C_NoFit C_NoPlace C_NoNumber C_TooMany C_NoText C_NoName C_NoRow) T_not_sure T_check_sure T_all_orders T_those_within (ok_sureX (k := 32) (c := cls9 C_NoOrder C_NoWay C_NoFit C_NoPlace C_NoNumber C_TooMany C_NoText C_NoName C_NoRow) T_check_sure T_check_unlike_list T_check_way T_check_listed T_check_from (ok_cux (k := 31) T_check_unlike_list T_is_unlike_list (ok_unlD (k := 30) T_is_unlike_list T_is_order_list (ok_olD (k := 29) T_is_order_list T_is_order (ok_isOrdD (k := 27) T_is_order T_is_whole B m_MOST_THINGS) B) B) X_NoOrder B m_MOST_ORDERS) (ok_wayX (k := 31) T_check_way m_WAYS X_NoWay B) (ok_listX (k := 31) T_check_listed m_MOST_LISTED X_NoFit B) (ok_fromX (k := 31) T_check_from T_is_whole (ok_wholeD (k := 30) T_is_whole B) X_NoNumber B) B) B)) (ok_rdN (k := 34) T_read_number T_number_in (ok_numH (k := 33) T_number_in B) X_NoRow m_NUMBERS) X_NoRow B m_DONE) (ok_undT (k := 35) T_undo_last T_Lister T_Lister_undo (ok_undoL (k := 34) T_Lister_undo T_Lister X_NoNumber B) m_DONE) (ok_listT (k := 35) T_tell_list T_Lister T_Lister_orders T_show_orders (ok_ordersL (k := 34) T_Lister_orders T_Lister B) (ok_showL (k := 34) T_show_orders T_is_order_list T_written (ok_olst52 (k := 34) T_is_order_list (ok_olD (k := 33) T_is_order_list T_is_order (ok_isOrdD (k := 31) T_is_order T_is_whole B m_MOST_THINGS) B)) (ok_wr (k := 33) T_written B) B m_NO_ORDERS)) (ok_apT (k := 35) T_tell_apart T_Lister T_Lister_least_apart (ok_leastL (k := 34) T_Lister_least_apart T_Lister T_known_far (ok_known (k := 33) T_known_far T_far_by_swap T_far_by_spot T_far_by_shift (ok_swap (k := 32) T_far_by_swap T_seats_in (ok_seats (k := 30) T_seats_in T_places_in B) B) (ok_spot (k := 32) T_far_by_spot B) (ok_shift (k := 32) T_far_by_shift T_seats_in (ok_seats (k := 30) T_seats_in T_places_in B) B)) B) B m_NOTHING) (ok_roT (k := 35) T_tell_room T_Lister T_Lister_how_many_more (ok_moreR (k := 34) T_Lister_how_many_more T_Lister T_check_few (ok_fewX (k := 33) T_check_few X_TooMany) T_all_orders (ok_nv_all_orders (k := 33) T_all_orders) T_is_far (ok_nv_is_far (k := 33) T_is_far) B m_MOST_LISTED) B) (ok_fiT (k := 35) T_tell_first T_Lister T_Lister_first_more T_show_order (ok_firstR (k := 34) T_Lister_first_more T_Lister T_check_few (ok_fewX (k := 33) T_check_few X_TooMany) T_all_orders (ok_nv_all_orders (k := 33) T_all_orders) T_is_far (ok_nv_is_far (k := 33) T_is_far) B m_MOST_LISTED) (ok_show (k := 34) T_show_order T_check_order T_written (ok_check (k := 31) T_check_order T_is_order T_is_whole B m_MOST_THINGS) (ok_wr (k := 33) T_written B)) m_NOTHING) (ok_miT (k := 35) T_tell_middle T_Lister T_Lister_orders T_middle_of T_show_order (ok_ordersL (k := 34) T_Lister_orders T_Lister B) (ok_midR (k := 34) T_middle_of T_check_poll T_check_way T_check_few T_counts_ahead T_middle_by_pairs T_middle_by_all (ok_cpX (k := 33) T_check_poll T_is_order_list (ok_olD (k := 32) T_is_order_list T_is_order (ok_isOrdD (k := 30) T_is_order T_is_whole B m_MOST_THINGS) B) X_NoOrder B m_MOST_POLLED) (ok_wayX (k := 33) T_check_way m_WAYS X_NoWay B) (ok_fewY (k := 33) T_check_few X_TooMany) (ok_nv_counts_ahead (k := 33) T_counts_ahead) (ok_nv_middle_by_pairs (k := 33) T_middle_by_pairs) (ok_nv_middle_by_all (k := 33) T_middle_by_all) B m_MOST_BY_PAIRS m_MOST_LISTED) (ok_show (k := 34) T_show_order T_check_order T_written (ok_check (k := 31) T_check_order T_is_order T_is_whole B m_MOST_THINGS) (ok_wr (k := 33) T_written B))) (ok_coT (k := 35) T_let_come T_Lister T_Lister_come T_show_orders (fn_or (fn_up (ok_comeL (k := 34) T_Lister_come T_Lister T_check_order (ok_check (k := 31) T_check_order T_is_order T_is_whole B m_MOST_THINGS) T_check_many (ok_manyOk (k := 33) T_check_many m_MOST_ORDERS) T_known_far (ok_known (k := 33) T_known_far T_far_by_swap T_far_by_spot T_far_by_shift (ok_swap (k := 32) T_far_by_swap T_seats_in (ok_seats (k := 30) T_seats_in T_places_in B) B) (ok_spot (k := 32) T_far_by_spot B) (ok_shift (k := 32) T_far_by_shift T_seats_in (ok_seats (k := 30) T_seats_in T_places_in B) B)) T_Lister_change_to (ok_changeL (k := 33) T_Lister_change_to T_Lister) B)) (ok_comeR (k := 34) T_Lister_come T_Lister T_check_order (ok_chk (k := 33) T_check_order T_is_order (ok_isOrdD (k := 31) T_is_order T_is_whole B m_MOST_THINGS) X_NoOrder) T_check_many (ok_manyX (k := 33) T_check_many m_MOST_ORDERS X_TooMany) T_known_far (ok_known (k := 33) T_known_far T_far_by_swap T_far_by_spot T_far_by_shift (ok_swap (k := 32) T_far_by_swap T_seats_in (ok_seats (k := 30) T_seats_in T_places_in B) B) (ok_spot (k := 32) T_far_by_spot B) (ok_shift (k := 32) T_far_by_shift T_seats_in (ok_seats (k := 30) T_seats_in T_places_in B) B)) T_Lister_change_to (ok_changeL (k := 33) T_Lister_change_to T_Lister) X_NoFit B)) (ok_showL (k := 34) T_show_orders T_is_order_list T_written (ok_olst52 (k := 34) T_is_order_list (ok_olD (k := 33) T_is_order_list T_is_order (ok_isOrdD (k := 31) T_is_order T_is_whole B m_MOST_THINGS) B)) (ok_wr (k := 33) T_written B) B m_NO_ORDERS) B m_DONE) (ok_drT (k := 35) T_let_drop T_Lister T_Lister_drop (fn_or (fn_up (ok_dropL (k := 34) T_Lister_drop T_Lister T_check_order (ok_check (k := 31) T_check_order T_is_order T_is_whole B m_MOST_THINGS) T_Lister_change_to (ok_changeL (k := 33) T_Lister_change_to T_Lister) B)) (ok_dropR (k := 34) T_Lister_drop T_Lister T_check_order (ok_chk (k := 33) T_check_order T_is_order (ok_isOrdD (k := 31) T_is_order T_is_whole B m_MOST_THINGS) X_NoOrder) T_Lister_change_to (ok_changeL (k := 33) T_Lister_change_to T_Lister) X_NoFit B)) m_DONE) (ok_neT (k := 35) (c := cls9 C_NoOrder C_NoWay C_NoFit C_NoPlace C_NoNumber C_TooMany C_NoText C_NoName C_NoRow) T_tell_near T_Lister T_Lister_orders T_nearest_of T_show_orders (ok_ordersL (k := 34) T_Lister_orders T_Lister B) (ok_nearR (k := 34) (c := cls9 C_NoOrder C_NoWay C_NoFit C_NoPlace C_NoNumber C_TooMany C_NoText C_NoName C_NoRow) T_nearest_of T_check_led T_known_far T_those_within (ok_ledX (k := 33) (c := cls9 C_NoOrder C_NoWay C_NoFit C_NoPlace C_NoNumber C_TooMany C_NoText C_NoName C_NoRow) T_check_led T_check_order T_check_unlike_list T_check_way T_check_fit (ok_chk (k := 32) T_check_order T_is_order (ok_isOrdD (k := 30) T_is_order T_is_whole B m_MOST_THINGS) X_NoOrder) (ok_cux (k := 32) T_check_unlike_list T_is_unlike_list (ok_unlD (k := 31) T_is_unlike_list T_is_order_list (ok_olD (k := 30) T_is_order_list T_is_order (ok_isOrdD (k := 28) T_is_order T_is_whole B m_MOST_THINGS) B) B) X_NoOrder B m_MOST_ORDERS) (ok_wayX (k := 32) T_check_way m_WAYS X_NoWay B) (ok_fitX (k := 32) T_check_fit X_NoFit B) B) (ok_known (k := 33) T_known_far T_far_by_swap T_far_by_spot T_far_by_shift (ok_swap (k := 32) T_far_by_swap T_seats_in (ok_seats (k := 30) T_seats_in T_places_in B) B) (ok_spot (k := 32) T_far_by_spot B) (ok_shift (k := 32) T_far_by_shift T_seats_in (ok_seats (k := 30) T_seats_in T_places_in B) B)) (ok_nv_those_within (k := 33) T_those_within) B) (ok_showL (k := 34) T_show_orders T_is_order_list T_written (ok_olst52 (k := 34) T_is_order_list (ok_olD (k := 33) T_is_order_list T_is_order (ok_isOrdD (k := 31) T_is_order T_is_whole B m_MOST_THINGS) B)) (ok_wr (k := 33) T_written B) B m_NO_ORDERS)) X_NoRow B m_BARE_ROWS m_ORDER_ROWS D_BARE_ROWS D_ORDER_ROWS) (fun i hi => by rcases hi with rfl | rfl | rfl | rfl | rfl | rfl | rfl <;> first | exact kd_NoOrder | exact kd_NoWay | exact kd_NoFit | exact kd_NoNumber | exact kd_TooMany | exact kd_NoText | exact kd_NoRow) g_OrderError (fun i hi => by rcases hi with rfl | rfl | rfl | rfl | rfl | rfl | rfl <;> first | exact xm_NoOrder | exact xm_NoWay | exact xm_NoFit | exact xm_NoNumber | exact xm_TooMany | exact xm_NoText | exact xm_NoRow) g_NoOrder g_NoWay g_NoFit g_NoPlace g_NoNumber g_TooMany g_NoText g_NoName g_NoRow B) (ok_lwrL (k := 37) T__law_list_written T__law_written (ok_lwr (k := 36) T__law_written B) B) B) (ok_gon85 (k := 38) T__law_goes_on T__law_said T__law_list_written T__law_written (ok_saidD (k := 37) (c := cls9 C_NoOrder C_NoWay C_NoFit C_NoPlace C_NoNumber C_TooMany C_NoText C_NoName C_NoRow) T__law_said T_Desk T_Desk_say (ok_say (k := 36) (c := cls9 C_NoOrder C_NoWay C_NoFit C_NoPlace C_NoNumber C_TooMany C_NoText C_NoName C_NoRow) T_Desk_say T_Desk T_Lister T_read_order T_Desk_say_with_numbers T_undo_last T_tell_list T_tell_apart T_tell_room T_tell_first T_tell_bounds T_tell_middle T_let_come T_let_drop T_tell_near (ok_readX (k := 35) T_read_order T_check_text T_number_in T_is_order (ok_txtX (k := 34) T_check_text X_NoText B) (ok_numD (k := 34) T_number_in B) (ok_isOrdD (k := 33) T_is_order T_is_whole B m_MOST_THINGS) X_NoText m_MOST_THINGS) (ok_swn (k := 34) (c := cls9 C_NoOrder C_NoWay C_NoFit C_NoPlace C_NoNumber C_TooMany C_NoText C_NoName C_NoRow) T_Desk_say_with_numbers T_Desk T_Lister T_Lister_init T_tell_sure T_read_number (fn_or (fn_up (ok_initL (k := 33) T_Lister_init T_Lister T_check_apart (ok_apart (k := 30) T_check_apart T_check_way T_check_size T_check_from T_is_whole m_WAYS B) m_MOST_KEPT)) (ok_initX (k := 33) T_Lister_init T_Lister T_check_apart (ok_apX (k := 32) T_check_apart T_check_way T_check_size T_check_from (ok_wayX (k := 31) T_check_way m_WAYS X_NoWay B) (ok_sizeX (k := 31) T_check_size T_is_whole (ok_wholeD (k := 30) T_is_whole B) X_NoNumber B) (ok_fromX (k := 31) T_check_from T_is_whole (ok_wholeD (k := 30) T_is_whole B) X_NoNumber B)) m_MOST_KEPT)) (ok_suT (k := 34) (c := cls9 C_NoOrder C_NoWay C_NoFit C_NoPlace C_NoNumber C_TooMany C_NoText C_NoName C_NoRow) T_tell_sure T_Lister T_Lister_orders T_not_sure (ok_ordersL (k := 33) T_Lister_orders T_Lister B) (ok_notR (k := 33) (c := cls9 C_NoOrder C_NoWay C_NoFit C_NoPlace C_NoNumber C_TooMany C_NoText C_NoName C_NoRow) T_not_sure T_check_sure T_all_orders T_those_within (ok_sureX (k := 32) (c := cls9 C_NoOrder C_NoWay C_NoFit C_NoPlace C_NoNumber C_TooMany C_NoText C_NoName C_NoRow) T_check_sure T_check_unlike_list T_check_way T_check_listed T_check_from (ok_cux (k := 31) T_check_unlike_list T_is_unlike_list (ok_unlD (k := 30) T_is_unlike_list T_is_order_list (ok_olD (k := 29) T_is_order_list T_is_order (ok_isOrdD (k := 27) T_is_order T_is_whole B m_MOST_THINGS) B) B) X_NoOrder B m_MOST_ORDERS) (ok_wayX (k := 31) T_check_way m_WAYS X_NoWay B) (ok_listX (k := 31) T_check_listed m_MOST_LISTED X_NoFit B) (ok_fromX (k := 31) T_check_from T_is_whole (ok_wholeD (k := 30) T_is_whole B) X_NoNumber B) B) B)) (ok_rdN (k := 34) T_read_number T_number_in (ok_numH (k := 33) T_number_in B) X_NoRow m_NUMBERS) X_NoRow B m_DONE) (ok_undT (k := 35) T_undo_last T_Lister T_Lister_undo (ok_undoL (k := 34) T_Lister_undo T_Lister X_NoNumber B) m_DONE) (ok_listT (k := 35) T_tell_list T_Lister T_Lister_orders T_show_orders (ok_ordersL (k := 34) T_Lister_orders T_Lister B) (ok_showL (k := 34) T_show_orders T_is_order_list T_written (ok_olst52 (k := 34) T_is_order_list (ok_olD (k := 33) T_is_order_list T_is_order (ok_isOrdD (k := 31) T_is_order T_is_whole B m_MOST_THINGS) B)) (ok_wr (k := 33) T_written B) B m_NO_ORDERS)) (ok_apT (k := 35) T_tell_apart T_Lister T_Lister_least_apart (ok_leastL (k := 34) T_Lister_least_apart T_Lister T_known_far (ok_known (k := 33) T_known_far T_far_by_swap T_far_by_spot T_far_by_shift (ok_swap (k := 32) T_far_by_swap T_seats_in (ok_seats (k := 30) T_seats_in T_places_in B) B) (ok_spot (k := 32) T_far_by_spot B) (ok_shift (k := 32) T_far_by_shift T_seats_in (ok_seats (k := 30) T_seats_in T_places_in B) B)) B) B m_NOTHING) (ok_roT (k := 35) T_tell_room T_Lister T_Lister_how_many_more (ok_moreR (k := 34) T_Lister_how_many_more T_Lister T_check_few (ok_fewX (k := 33) T_check_few X_TooMany) T_all_orders (ok_nv_all_orders (k := 33) T_all_orders) T_is_far (ok_nv_is_far (k := 33) T_is_far) B m_MOST_LISTED) B) (ok_fiT (k := 35) T_tell_first T_Lister T_Lister_first_more T_show_order (ok_firstR (k := 34) T_Lister_first_more T_Lister T_check_few (ok_fewX (k := 33) T_check_few X_TooMany) T_all_orders (ok_nv_all_orders (k := 33) T_all_orders) T_is_far (ok_nv_is_far (k := 33) T_is_far) B m_MOST_LISTED) (ok_show (k := 34) T_show_order T_check_order T_written (ok_check (k := 31) T_check_order T_is_order T_is_whole B m_MOST_THINGS) (ok_wr (k := 33) T_written B)) m_NOTHING) (ok_miT (k := 35) T_tell_middle T_Lister T_Lister_orders T_middle_of T_show_order (ok_ordersL (k := 34) T_Lister_orders T_Lister B) (ok_midR (k := 34) T_middle_of T_check_poll T_check_way T_check_few T_counts_ahead T_middle_by_pairs T_middle_by_all (ok_cpX (k := 33) T_check_poll T_is_order_list (ok_olD (k := 32) T_is_order_list T_is_order (ok_isOrdD (k := 30) T_is_order T_is_whole B m_MOST_THINGS) B) X_NoOrder B m_MOST_POLLED) (ok_wayX (k := 33) T_check_way m_WAYS X_NoWay B) (ok_fewY (k := 33) T_check_few X_TooMany) (ok_nv_counts_ahead (k := 33) T_counts_ahead) (ok_nv_middle_by_pairs (k := 33) T_middle_by_pairs) (ok_nv_middle_by_all (k := 33) T_middle_by_all) B m_MOST_BY_PAIRS m_MOST_LISTED) (ok_show (k := 34) T_show_order T_check_order T_written (ok_check (k := 31) T_check_order T_is_order T_is_whole B m_MOST_THINGS) (ok_wr (k := 33) T_written B))) (ok_coT (k := 35) T_let_come T_Lister T_Lister_come T_show_orders (fn_or (fn_up (ok_comeL (k := 34) T_Lister_come T_Lister T_check_order (ok_check (k := 31) T_check_order T_is_order T_is_whole B m_MOST_THINGS) T_check_many (ok_manyOk (k := 33) T_check_many m_MOST_ORDERS) T_known_far (ok_known (k := 33) T_known_far T_far_by_swap T_far_by_spot T_far_by_shift (ok_swap (k := 32) T_far_by_swap T_seats_in (ok_seats (k := 30) T_seats_in T_places_in B) B) (ok_spot (k := 32) T_far_by_spot B) (ok_shift (k := 32) T_far_by_shift T_seats_in (ok_seats (k := 30) T_seats_in T_places_in B) B)) T_Lister_change_to (ok_changeL (k := 33) T_Lister_change_to T_Lister) B)) (ok_comeR (k := 34) T_Lister_come T_Lister T_check_order (ok_chk (k := 33) T_check_order T_is_order (ok_isOrdD (k := 31) T_is_order T_is_whole B m_MOST_THINGS) X_NoOrder) T_check_many (ok_manyX (k := 33) T_check_many m_MOST_ORDERS X_TooMany) T_known_far (ok_known (k := 33) T_known_far T_far_by_swap T_far_by_spot T_far_by_shift (ok_swap (k := 32) T_far_by_swap T_seats_in (ok_seats (k := 30) T_seats_in T_places_in B) B) (ok_spot (k := 32) T_far_by_spot B) (ok_shift (k := 32) T_far_by_shift T_seats_in (ok_seats (k := 30) T_seats_in T_places_in B) B)) T_Lister_change_to (ok_changeL (k := 33) T_Lister_change_to T_Lister) X_NoFit B)) (ok_showL (k := 34) T_show_orders T_is_order_list T_written (ok_olst52 (k := 34) T_is_order_list (ok_olD (k := 33) T_is_order_list T_is_order (ok_isOrdD (k := 31) T_is_order T_is_whole B m_MOST_THINGS) B)) (ok_wr (k := 33) T_written B) B m_NO_ORDERS) B m_DONE) (ok_drT (k := 35) T_let_drop T_Lister T_Lister_drop (fn_or (fn_up (ok_dropL (k := 34) T_Lister_drop T_Lister T_check_order (ok_check (k := 31) T_check_order T_is_order T_is_whole B m_MOST_THINGS) T_Lister_change_to (ok_changeL (k := 33) T_Lister_change_to T_Lister) B)) (ok_dropR (k := 34) T_Lister_drop T_Lister T_check_order (ok_chk (k := 33) T_check_order T_is_order (ok_isOrdD (k := 31) T_is_order T_is_whole B m_MOST_THINGS) X_NoOrder) T_Lister_change_to (ok_changeL (k := 33) T_Lister_change_to T_Lister) X_NoFit B)) m_DONE) (ok_neT (k := 35) (c := cls9 C_NoOrder C_NoWay C_NoFit C_NoPlace C_NoNumber C_TooMany C_NoText C_NoName C_NoRow) T_tell_near T_Lister T_Lister_orders T_nearest_of T_show_orders (ok_ordersL (k := 34) T_Lister_orders T_Lister B) (ok_nearR (k := 34) (c := cls9 C_NoOrder C_NoWay C_NoFit C_NoPlace C_NoNumber C_TooMany C_NoText C_NoName C_NoRow) T_nearest_of T_check_led T_known_far T_those_within (ok_ledX (k := 33) (c := cls9 C_NoOrder C_NoWay C_NoFit C_NoPlace C_NoNumber C_TooMany C_NoText C_NoName C_NoRow) T_check_led T_check_order T_check_unlike_list T_check_way T_check_fit (ok_chk (k := 32) T_check_order T_is_order (ok_isOrdD (k := 30) T_is_order T_is_whole B m_MOST_THINGS) X_NoOrder) (ok_cux (k := 32) T_check_unlike_list T_is_unlike_list (ok_unlD (k := 31) T_is_unlike_list T_is_order_list (ok_olD (k := 30) T_is_order_list T_is_order (ok_isOrdD (k := 28) T_is_order T_is_whole B m_MOST_THINGS) B) B) X_NoOrder B m_MOST_ORDERS) (ok_wayX (k := 32) T_check_way m_WAYS X_NoWay B) (ok_fitX (k := 32) T_check_fit X_NoFit B) B) (ok_known (k := 33) T_known_far T_far_by_swap T_far_by_spot T_far_by_shift (ok_swap (k := 32) T_far_by_swap T_seats_in (ok_seats (k := 30) T_seats_in T_places_in B) B) (ok_spot (k := 32) T_far_by_spot B) (ok_shift (k := 32) T_far_by_shift T_seats_in (ok_seats (k := 30) T_seats_in T_places_in B) B)) (ok_nv_those_within (k := 33) T_those_within) B) (ok_showL (k := 34) T_show_orders T_is_order_list T_written (ok_olst52 (k := 34) T_is_order_list (ok_olD (k := 33) T_is_order_list T_is_order (ok_isOrdD (k := 31) T_is_order T_is_whole B m_MOST_THINGS) B)) (ok_wr (k := 33) T_written B) B m_NO_ORDERS)) X_NoRow B m_BARE_ROWS m_ORDER_ROWS D_BARE_ROWS D_ORDER_ROWS) (fun i hi => by rcases hi with rfl | rfl | rfl | rfl | rfl | rfl | rfl <;> first | exact kd_NoOrder | exact kd_NoWay | exact kd_NoFit | exact kd_NoNumber | exact kd_TooMany | exact kd_NoText | exact kd_NoRow) g_OrderError (fun i hi => by rcases hi with rfl | rfl | rfl | rfl | rfl | rfl | rfl <;> first | exact xm_NoOrder | exact xm_NoWay | exact xm_NoFit | exact xm_NoNumber | exact xm_TooMany | exact xm_NoText | exact xm_NoRow) g_NoOrder g_NoWay g_NoFit g_NoPlace g_NoNumber g_TooMany g_NoText g_NoName g_NoRow B) (ok_lwrL (k := 37) T__law_list_written T__law_written (ok_lwr (k := 36) T__law_written B) B) (ok_lwr (k := 37) T__law_written B) B) B
namespace Fo
open PySem PySem.Spec PyProof.Rows L2
theorem us_0 {α : Type} {P : List α → Prop} (h : P []) : ∀ us : List α, us.length = 0 → P us := fun us e => by
  rw [List.eq_nil_of_length_eq_zero e]
  exact h
theorem us_1 {α : Type} {P : List α → Prop} (h : ∀ a0 : α, P [a0]) : ∀ us : List α, us.length = 1 → P us := fun us e => by
  cases us with
  | nil => cases e
  | cons a us => exact us_0 (P := fun us => P (a :: us)) (h a) us (Nat.succ.inj e)
theorem us_2 {α : Type} {P : List α → Prop} (h : ∀ a0 a1 : α, P [a0, a1]) : ∀ us : List α, us.length = 2 → P us := fun us e => by
  cases us with
  | nil => cases e
  | cons a us => exact us_1 (P := fun us => P (a :: us)) (fun b0 => h a b0) us (Nat.succ.inj e)
theorem us_3 {α : Type} {P : List α → Prop} (h : ∀ a0 a1 a2 : α, P [a0, a1, a2]) : ∀ us : List α, us.length = 3 → P us := fun us e => by
  cases us with
  | nil => cases e
  | cons a us => exact us_2 (P := fun us => P (a :: us)) (fun b0 b1 => h a b0 b1) us (Nat.succ.inj e)
theorem us_4 {α : Type} {P : List α → Prop} (h : ∀ a0 a1 a2 a3 : α, P [a0, a1, a2, a3]) : ∀ us : List α, us.length = 4 → P us := fun us e => by
  cases us with
  | nil => cases e
  | cons a us => exact us_3 (P := fun us => P (a :: us)) (fun b0 b1 b2 => h a b0 b1 b2) us (Nat.succ.inj e)
set_option maxHeartbeats 8000000 in
theorem all_mk {l : PySem.W.OpenLaw} {w : World} {K : PySem.W.Frag} {h : Heap} {mg : Str → Option Value} {fa : Addr} (X : K.In h) (G : h.Ns mainGlobals mg) (hfa : mg "law" = some (.ref fa)) {aW : Addr} {ddW : Option Addr} {nW : Nat} {tW1 tW2 tW3 : Tok} {slW : Array (Option Value)} {C_Lister fm0 fm1 fm2 fm3 fm4 fm5 fm6 fm7 fm8 : Addr} {odm0 anm0 odm1 anm1 odm2 anm2 odm3 anm3 odm4 anm4 odm5 anm5 odm6 anm6 odm7 anm7 odm8 anm8 : Option Addr} {slm0 slm1 slm2 slm3 slm4 slm5 slm6 slm7 slm8 : Array (Option Value)} {ocm0 kVm0 dcm0 pmm0 cdm0 ctm0 ocm1 kVm1 dcm1 pmm1 cdm1 ctm1 ocm2 kVm2 dcm2 pmm2 cdm2 ctm2 ocm3 kVm3 dcm3 pmm3 cdm3 ctm3 ocm4 kVm4 dcm4 pmm4 cdm4 ctm4 ocm5 kVm5 dcm5 pmm5 cdm5 ctm5 ocm6 kVm6 dcm6 pmm6 cdm6 ctm6 ocm7 kVm7 dcm7 pmm7 cdm7 ctm7 ocm8 kVm8 dcm8 pmm8 cdm8 ctm8 : Value} {C_Desk fc1_m0 fc1_m1 fc1_m2 : Addr} {odc1_m0 anc1_m0 odc1_m1 anc1_m1 odc1_m2 anc1_m2 : Option Addr} {slc1_m0 slc1_m1 slc1_m2 : Array (Option Value)} {occ1_m0 kVc1_m0 dcc1_m0 pmc1_m0 cdc1_m0 ctc1_m0 occ1_m1 kVc1_m1 dcc1_m1 pmc1_m1 cdc1_m1 ctc1_m1 occ1_m2 kVc1_m2 dcc1_m2 pmc1_m2 cdc1_m2 ctc1_m2 : Value} {aB : Addr} {nD0 : Nat} {hD0_0 hD0_1 hD0_2 hD0_3 hD0_4 hD0_5 hD0_6 : Int} {tD0_0 tD0_1 tD0_2 tD0_3 tD0_4 tD0_5 tD0_6 : Tok} {aO : Addr} {nD1 : Nat} {hD1_0 hD1_1 hD1_2 : Int} {tD1_0 tD1_1 tD1_2 : Tok} {C_OrderError C_NoOrder C_NoWay C_NoFit C_NoPlace C_NoNumber C_TooMany C_NoText C_NoName C_NoRow : Addr}
    {f0 f1 f2 f3 f4 f5 f6 f7 f8 f9 f10 f11 f12 f13 f14 f15 f16 f17 f18 f19 f20 f21 f22 f23 f24 f25 f26 f27 f28 f29 f30 f31 f32 f33 f34 f35 f36 f37 f38 f39 f40 f41 f42 f43 f44 f45 f46 f47 f48 f49 f50 f51 f52 f53 f54 f55 f56 f57 f58 f59 f60 f61 f62 f63 f64 f65 f66 f67 f68 f69 f70 f71 f72 f73 f74 f75 f76 f77 f78 f79 f80 f81 f82 : Addr} {od0 an0 od1 an1 od2 an2 od3 an3 od4 an4 od5 an5 od6 an6 od7 an7 od8 an8 od9 an9 od10 an10 od11 an11 od12 an12 od13 an13 od14 an14 od15 an15 od16 an16 od17 an17 od18 an18 od19 an19 od20 an20 od21 an21 od22 an22 od23 an23 od24 an24 od25 an25 od26 an26 od27 an27 od28 an28 od29 an29 od30 an30 od31 an31 od32 an32 od33 an33 od34 an34 od35 an35 od36 an36 od37 an37 od38 an38 od39 an39 od40 an40 od41 an41 od42 an42 od43 an43 od44 an44 od45 an45 od46 an46 od47 an47 od48 an48 od49 an49 od50 an50 od51 an51 od52 an52 od53 an53 od54 an54 od55 an55 od56 an56 od57 an57 od58 an58 od59 an59 od60 an60 od61 an61 od62 an62 od63 an63 od64 an64 od65 an65 od66 an66 od67 an67 od68 an68 od69 an69 od70 an70 od71 an71 od72 an72 od73 an73 od74 an74 od75 an75 od76 an76 od77 an77 od78 an78 od79 an79 od80 an80 od81 an81 od82 an82 : Option Addr} {sl0 sl1 sl2 sl3 sl4 sl5 sl6 sl7 sl8 sl9 sl10 sl11 sl12 sl13 sl14 sl15 sl16 sl17 sl18 sl19 sl20 sl21 sl22 sl23 sl24 sl25 sl26 sl27 sl28 sl29 sl30 sl31 sl32 sl33 sl34 sl35 sl36 sl37 sl38 sl39 sl40 sl41 sl42 sl43 sl44 sl45 sl46 sl47 sl48 sl49 sl50 sl51 sl52 sl53 sl54 sl55 sl56 sl57 sl58 sl59 sl60 sl61 sl62 sl63 sl64 sl65 sl66 sl67 sl68 sl69 sl70 sl71 sl72 sl73 sl74 sl75 sl76 sl77 sl78 sl79 sl80 sl81 sl82 : Array (Option Value)} {oc0 kV0 dc0 pm0 cd0 ct0 oc1 kV1 dc1 pm1 cd1 ct1 oc2 kV2 dc2 pm2 cd2 ct2 oc3 kV3 dc3 pm3 cd3 ct3 oc4 kV4 dc4 pm4 cd4 ct4 oc5 kV5 dc5 pm5 cd5 ct5 oc6 kV6 dc6 pm6 cd6 ct6 oc7 kV7 dc7 pm7 cd7 ct7 oc8 kV8 dc8 pm8 cd8 ct8 oc9 kV9 dc9 pm9 cd9 ct9 oc10 kV10 dc10 pm10 cd10 ct10 oc11 kV11 dc11 pm11 cd11 ct11 oc12 kV12 dc12 pm12 cd12 ct12 oc13 kV13 dc13 pm13 cd13 ct13 oc14 kV14 dc14 pm14 cd14 ct14 oc15 kV15 dc15 pm15 cd15 ct15 oc16 kV16 dc16 pm16 cd16 ct16 oc17 kV17 dc17 pm17 cd17 ct17 oc18 kV18 dc18 pm18 cd18 ct18 oc19 kV19 dc19 pm19 cd19 ct19 oc20 kV20 dc20 pm20 cd20 ct20 oc21 kV21 dc21 pm21 cd21 ct21 oc22 kV22 dc22 pm22 cd22 ct22 oc23 kV23 dc23 pm23 cd23 ct23 oc24 kV24 dc24 pm24 cd24 ct24 oc25 kV25 dc25 pm25 cd25 ct25 oc26 kV26 dc26 pm26 cd26 ct26 oc27 kV27 dc27 pm27 cd27 ct27 oc28 kV28 dc28 pm28 cd28 ct28 oc29 kV29 dc29 pm29 cd29 ct29 oc30 kV30 dc30 pm30 cd30 ct30 oc31 kV31 dc31 pm31 cd31 ct31 oc32 kV32 dc32 pm32 cd32 ct32 oc33 kV33 dc33 pm33 cd33 ct33 oc34 kV34 dc34 pm34 cd34 ct34 oc35 kV35 dc35 pm35 cd35 ct35 oc36 kV36 dc36 pm36 cd36 ct36 oc37 kV37 dc37 pm37 cd37 ct37 oc38 kV38 dc38 pm38 cd38 ct38 oc39 kV39 dc39 pm39 cd39 ct39 oc40 kV40 dc40 pm40 cd40 ct40 oc41 kV41 dc41 pm41 cd41 ct41 oc42 kV42 dc42 pm42 cd42 ct42 oc43 kV43 dc43 pm43 cd43 ct43 oc44 kV44 dc44 pm44 cd44 ct44 oc45 kV45 dc45 pm45 cd45 ct45 oc46 kV46 dc46 pm46 cd46 ct46 oc47 kV47 dc47 pm47 cd47 ct47 oc48 kV48 dc48 pm48 cd48 ct48 oc49 kV49 dc49 pm49 cd49 ct49 oc50 kV50 dc50 pm50 cd50 ct50 oc51 kV51 dc51 pm51 cd51 ct51 oc52 kV52 dc52 pm52 cd52 ct52 oc53 kV53 dc53 pm53 cd53 ct53 oc54 kV54 dc54 pm54 cd54 ct54 oc55 kV55 dc55 pm55 cd55 ct55 oc56 kV56 dc56 pm56 cd56 ct56 oc57 kV57 dc57 pm57 cd57 ct57 oc58 kV58 dc58 pm58 cd58 ct58 oc59 kV59 dc59 pm59 cd59 ct59 oc60 kV60 dc60 pm60 cd60 ct60 oc61 kV61 dc61 pm61 cd61 ct61 oc62 kV62 dc62 pm62 cd62 ct62 oc63 kV63 dc63 pm63 cd63 ct63 oc64 kV64 dc64 pm64 cd64 ct64 oc65 kV65 dc65 pm65 cd65 ct65 oc66 kV66 dc66 pm66 cd66 ct66 oc67 kV67 dc67 pm67 cd67 ct67 oc68 kV68 dc68 pm68 cd68 ct68 oc69 kV69 dc69 pm69 cd69 ct69 oc70 kV70 dc70 pm70 cd70 ct70 oc71 kV71 dc71 pm71 cd71 ct71 oc72 kV72 dc72 pm72 cd72 ct72 oc73 kV73 dc73 pm73 cd73 ct73 oc74 kV74 dc74 pm74 cd74 ct74 oc75 kV75 dc75 pm75 cd75 ct75 oc76 kV76 dc76 pm76 cd76 ct76 oc77 kV77 dc77 pm77 cd77 ct77 oc78 kV78 dc78 pm78 cd78 ct78 oc79 kV79 dc79 pm79 cd79 ct79 oc80 kV80 dc80 pm80 cd80 ct80 oc81 kV81 dc81 pm81 cd81 ct81 oc82 kV82 dc82 pm82 cd82 ct82 : Value} {tk_MOST_THINGS tk_MOST_LISTED tk_MOST_ORDERS tk_MOST_KEPT tk_MOST_POLLED tk_MOST_BY_PAIRS tk_NO_ORDERS tk_DONE tk_NOTHING tk_NUMBERS : Tok}
    (a0 : PySem.W.nsIn K mainGlobals "is_whole" = some (some (.ref f0))) (l0 : K.lookup f0 = some ⟨oc0, od0, .func (PySem.W.fnOf "is_whole" "is_whole" (defArgs s_is_whole) (defBody s_is_whole) (defScope s_is_whole) .none kV0 dc0 pm0 an0 cd0 ct0), sl0⟩) (c0 : PySem.W.codeIn K cd0 "is_whole" = true) (k0 : PySem.W.keepIn K (.ref f0) = true)
    (a1 : PySem.W.nsIn K mainGlobals "check_way" = some (some (.ref f1))) (l1 : K.lookup f1 = some ⟨oc1, od1, .func (PySem.W.fnOf "check_way" "check_way" (defArgs s_check_way) (defBody s_check_way) (defScope s_check_way) .none kV1 dc1 pm1 an1 cd1 ct1), sl1⟩) (c1 : PySem.W.codeIn K cd1 "check_way" = true) (k1 : PySem.W.keepIn K (.ref f1) = true)
    (a2 : PySem.W.nsIn K mainGlobals "check_from" = some (some (.ref f2))) (l2 : K.lookup f2 = some ⟨oc2, od2, .func (PySem.W.fnOf "check_from" "check_from" (defArgs s_check_from) (defBody s_check_from) (defScope s_check_from) .none kV2 dc2 pm2 an2 cd2 ct2), sl2⟩) (c2 : PySem.W.codeIn K cd2 "check_from" = true) (k2 : PySem.W.keepIn K (.ref f2) = true)
    (a3 : PySem.W.nsIn K mainGlobals "check_size" = some (some (.ref f3))) (l3 : K.lookup f3 = some ⟨oc3, od3, .func (PySem.W.fnOf "check_size" "check_size" (defArgs s_check_size) (defBody s_check_size) (defScope s_check_size) .none kV3 dc3 pm3 an3 cd3 ct3), sl3⟩) (c3 : PySem.W.codeIn K cd3 "check_size" = true) (k3 : PySem.W.keepIn K (.ref f3) = true)
    (a4 : PySem.W.nsIn K mainGlobals "check_few" = some (some (.ref f4))) (l4 : K.lookup f4 = some ⟨oc4, od4, .func (PySem.W.fnOf "check_few" "check_few" (defArgs s_check_few) (defBody s_check_few) (defScope s_check_few) .none kV4 dc4 pm4 an4 cd4 ct4), sl4⟩) (c4 : PySem.W.codeIn K cd4 "check_few" = true) (k4 : PySem.W.keepIn K (.ref f4) = true)
    (a5 : PySem.W.nsIn K mainGlobals "check_apart" = some (some (.ref f5))) (l5 : K.lookup f5 = some ⟨oc5, od5, .func (PySem.W.fnOf "check_apart" "check_apart" (defArgs s_check_apart) (defBody s_check_apart) (defScope s_check_apart) .none kV5 dc5 pm5 an5 cd5 ct5), sl5⟩) (c5 : PySem.W.codeIn K cd5 "check_apart" = true) (k5 : PySem.W.keepIn K (.ref f5) = true)
    (a6 : PySem.W.nsIn K mainGlobals "is_order" = some (some (.ref f6))) (l6 : K.lookup f6 = some ⟨oc6, od6, .func (PySem.W.fnOf "is_order" "is_order" (defArgs s_is_order) (defBody s_is_order) (defScope s_is_order) .none kV6 dc6 pm6 an6 cd6 ct6), sl6⟩) (c6 : PySem.W.codeIn K cd6 "is_order" = true) (k6 : PySem.W.keepIn K (.ref f6) = true)
    (a7 : PySem.W.nsIn K mainGlobals "check_order" = some (some (.ref f7))) (l7 : K.lookup f7 = some ⟨oc7, od7, .func (PySem.W.fnOf "check_order" "check_order" (defArgs s_check_order) (defBody s_check_order) (defScope s_check_order) .none kV7 dc7 pm7 an7 cd7 ct7), sl7⟩) (c7 : PySem.W.codeIn K cd7 "check_order" = true) (k7 : PySem.W.keepIn K (.ref f7) = true)
    (a8 : PySem.W.nsIn K mainGlobals "check_fit" = some (some (.ref f8))) (l8 : K.lookup f8 = some ⟨oc8, od8, .func (PySem.W.fnOf "check_fit" "check_fit" (defArgs s_check_fit) (defBody s_check_fit) (defScope s_check_fit) .none kV8 dc8 pm8 an8 cd8 ct8), sl8⟩) (c8 : PySem.W.codeIn K cd8 "check_fit" = true) (k8 : PySem.W.keepIn K (.ref f8) = true)
    (a9 : PySem.W.nsIn K mainGlobals "check_listed" = some (some (.ref f9))) (l9 : K.lookup f9 = some ⟨oc9, od9, .func (PySem.W.fnOf "check_listed" "check_listed" (defArgs s_check_listed) (defBody s_check_listed) (defScope s_check_listed) .none kV9 dc9 pm9 an9 cd9 ct9), sl9⟩) (c9 : PySem.W.codeIn K cd9 "check_listed" = true) (k9 : PySem.W.keepIn K (.ref f9) = true)
    (a10 : PySem.W.nsIn K mainGlobals "is_order_list" = some (some (.ref f10))) (l10 : K.lookup f10 = some ⟨oc10, od10, .func (PySem.W.fnOf "is_order_list" "is_order_list" (defArgs s_is_order_list) (defBody s_is_order_list) (defScope s_is_order_list) .none kV10 dc10 pm10 an10 cd10 ct10), sl10⟩) (c10 : PySem.W.codeIn K cd10 "is_order_list" = true) (k10 : PySem.W.keepIn K (.ref f10) = true)
    (a11 : PySem.W.nsIn K mainGlobals "is_unlike_list" = some (some (.ref f11))) (l11 : K.lookup f11 = some ⟨oc11, od11, .func (PySem.W.fnOf "is_unlike_list" "is_unlike_list" (defArgs s_is_unlike_list) (defBody s_is_unlike_list) (defScope s_is_unlike_list) .none kV11 dc11 pm11 an11 cd11 ct11), sl11⟩) (c11 : PySem.W.codeIn K cd11 "is_unlike_list" = true) (k11 : PySem.W.keepIn K (.ref f11) = true)
    (a12 : PySem.W.nsIn K mainGlobals "places_in" = some (some (.ref f12))) (l12 : K.lookup f12 = some ⟨oc12, od12, .func (PySem.W.fnOf "places_in" "places_in" (defArgs s_places_in) (defBody s_places_in) (defScope s_places_in) .none kV12 dc12 pm12 an12 cd12 ct12), sl12⟩) (c12 : PySem.W.codeIn K cd12 "places_in" = true) (k12 : PySem.W.keepIn K (.ref f12) = true)
    (a13 : PySem.W.nsIn K mainGlobals "seats_in" = some (some (.ref f13))) (l13 : K.lookup f13 = some ⟨oc13, od13, .func (PySem.W.fnOf "seats_in" "seats_in" (defArgs s_seats_in) (defBody s_seats_in) (defScope s_seats_in) .none kV13 dc13 pm13 an13 cd13 ct13), sl13⟩) (c13 : PySem.W.codeIn K cd13 "seats_in" = true) (k13 : PySem.W.keepIn K (.ref f13) = true)
    (a14 : PySem.W.nsIn K mainGlobals "known_far" = some (some (.ref f14))) (l14 : K.lookup f14 = some ⟨oc14, od14, .func (PySem.W.fnOf "known_far" "known_far" (defArgs s_known_far) (defBody s_known_far) (defScope s_known_far) .none kV14 dc14 pm14 an14 cd14 ct14), sl14⟩) (c14 : PySem.W.codeIn K cd14 "known_far" = true) (k14 : PySem.W.keepIn K (.ref f14) = true)
    (a15 : PySem.W.nsIn K mainGlobals "far_by_swap" = some (some (.ref f15))) (l15 : K.lookup f15 = some ⟨oc15, od15, .func (PySem.W.fnOf "far_by_swap" "far_by_swap" (defArgs s_far_by_swap) (defBody s_far_by_swap) (defScope s_far_by_swap) .none kV15 dc15 pm15 an15 cd15 ct15), sl15⟩) (c15 : PySem.W.codeIn K cd15 "far_by_swap" = true) (k15 : PySem.W.keepIn K (.ref f15) = true)
    (a16 : PySem.W.nsIn K mainGlobals "far_by_spot" = some (some (.ref f16))) (l16 : K.lookup f16 = some ⟨oc16, od16, .func (PySem.W.fnOf "far_by_spot" "far_by_spot" (defArgs s_far_by_spot) (defBody s_far_by_spot) (defScope s_far_by_spot) .none kV16 dc16 pm16 an16 cd16 ct16), sl16⟩) (c16 : PySem.W.codeIn K cd16 "far_by_spot" = true) (k16 : PySem.W.keepIn K (.ref f16) = true)
    (a17 : PySem.W.nsIn K mainGlobals "far_by_shift" = some (some (.ref f17))) (l17 : K.lookup f17 = some ⟨oc17, od17, .func (PySem.W.fnOf "far_by_shift" "far_by_shift" (defArgs s_far_by_shift) (defBody s_far_by_shift) (defScope s_far_by_shift) .none kV17 dc17 pm17 an17 cd17 ct17), sl17⟩) (c17 : PySem.W.codeIn K cd17 "far_by_shift" = true) (k17 : PySem.W.keepIn K (.ref f17) = true)
    (a18 : PySem.W.nsIn K mainGlobals "all_orders" = some (some (.ref f18))) (l18 : K.lookup f18 = some ⟨oc18, od18, .func (PySem.W.fnOf "all_orders" "all_orders" (defArgs s_all_orders) (defBody s_all_orders) (defScope s_all_orders) .none kV18 dc18 pm18 an18 cd18 ct18), sl18⟩) (c18 : PySem.W.codeIn K cd18 "all_orders" = true) (k18 : PySem.W.keepIn K (.ref f18) = true)
    (a19 : PySem.W.nsIn K mainGlobals "orders_with" = some (some (.ref f19))) (l19 : K.lookup f19 = some ⟨oc19, od19, .func (PySem.W.fnOf "orders_with" "orders_with" (defArgs s_orders_with) (defBody s_orders_with) (defScope s_orders_with) .none kV19 dc19 pm19 an19 cd19 ct19), sl19⟩) (c19 : PySem.W.codeIn K cd19 "orders_with" = true) (k19 : PySem.W.keepIn K (.ref f19) = true)
    (a20 : PySem.W.nsIn K mainGlobals "count_orders" = some (some (.ref f20))) (l20 : K.lookup f20 = some ⟨oc20, od20, .func (PySem.W.fnOf "count_orders" "count_orders" (defArgs s_count_orders) (defBody s_count_orders) (defScope s_count_orders) .none kV20 dc20 pm20 an20 cd20 ct20), sl20⟩) (c20 : PySem.W.codeIn K cd20 "count_orders" = true) (k20 : PySem.W.keepIn K (.ref f20) = true)
    (a21 : PySem.W.nsIn K mainGlobals "is_far" = some (some (.ref f21))) (l21 : K.lookup f21 = some ⟨oc21, od21, .func (PySem.W.fnOf "is_far" "is_far" (defArgs s_is_far) (defBody s_is_far) (defScope s_is_far) .none kV21 dc21 pm21 an21 cd21 ct21), sl21⟩) (c21 : PySem.W.codeIn K cd21 "is_far" = true) (k21 : PySem.W.keepIn K (.ref f21) = true)
    (a22 : PySem.W.nsIn K mainGlobals "known_within" = some (some (.ref f22))) (l22 : K.lookup f22 = some ⟨oc22, od22, .func (PySem.W.fnOf "known_within" "known_within" (defArgs s_known_within) (defBody s_known_within) (defScope s_known_within) .none kV22 dc22 pm22 an22 cd22 ct22), sl22⟩) (c22 : PySem.W.codeIn K cd22 "known_within" = true) (k22 : PySem.W.keepIn K (.ref f22) = true)
    (a23 : PySem.W.nsIn K mainGlobals "swap_counts" = some (some (.ref f23))) (l23 : K.lookup f23 = some ⟨oc23, od23, .func (PySem.W.fnOf "swap_counts" "swap_counts" (defArgs s_swap_counts) (defBody s_swap_counts) (defScope s_swap_counts) .none kV23 dc23 pm23 an23 cd23 ct23), sl23⟩) (c23 : PySem.W.codeIn K cd23 "swap_counts" = true) (k23 : PySem.W.keepIn K (.ref f23) = true)
    (a24 : PySem.W.nsIn K mainGlobals "swap_counts_with_one_more" = some (some (.ref f24))) (l24 : K.lookup f24 = some ⟨oc24, od24, .func (PySem.W.fnOf "swap_counts_with_one_more" "swap_counts_with_one_more" (defArgs s_swap_counts_with_one_more) (defBody s_swap_counts_with_one_more) (defScope s_swap_counts_with_one_more) .none kV24 dc24 pm24 an24 cd24 ct24), sl24⟩) (c24 : PySem.W.codeIn K cd24 "swap_counts_with_one_more" = true) (k24 : PySem.W.keepIn K (.ref f24) = true)
    (a25 : PySem.W.nsIn K mainGlobals "spot_counts" = some (some (.ref f25))) (l25 : K.lookup f25 = some ⟨oc25, od25, .func (PySem.W.fnOf "spot_counts" "spot_counts" (defArgs s_spot_counts) (defBody s_spot_counts) (defScope s_spot_counts) .none kV25 dc25 pm25 an25 cd25 ct25), sl25⟩) (c25 : PySem.W.codeIn K cd25 "spot_counts" = true) (k25 : PySem.W.keepIn K (.ref f25) = true)
    (a26 : PySem.W.nsIn K mainGlobals "count_all_moved" = some (some (.ref f26))) (l26 : K.lookup f26 = some ⟨oc26, od26, .func (PySem.W.fnOf "count_all_moved" "count_all_moved" (defArgs s_count_all_moved) (defBody s_count_all_moved) (defScope s_count_all_moved) .none kV26 dc26 pm26 an26 cd26 ct26), sl26⟩) (c26 : PySem.W.codeIn K cd26 "count_all_moved" = true) (k26 : PySem.W.keepIn K (.ref f26) = true)
    (a27 : PySem.W.nsIn K mainGlobals "shift_within" = some (some (.ref f27))) (l27 : K.lookup f27 = some ⟨oc27, od27, .func (PySem.W.fnOf "shift_within" "shift_within" (defArgs s_shift_within) (defBody s_shift_within) (defScope s_shift_within) .none kV27 dc27 pm27 an27 cd27 ct27), sl27⟩) (c27 : PySem.W.codeIn K cd27 "shift_within" = true) (k27 : PySem.W.keepIn K (.ref f27) = true)
    (a28 : PySem.W.nsIn K mainGlobals "things_near" = some (some (.ref f28))) (l28 : K.lookup f28 = some ⟨oc28, od28, .func (PySem.W.fnOf "things_near" "things_near" (defArgs s_things_near) (defBody s_things_near) (defScope s_things_near) .none kV28 dc28 pm28 an28 cd28 ct28), sl28⟩) (c28 : PySem.W.codeIn K cd28 "things_near" = true) (k28 : PySem.W.keepIn K (.ref f28) = true)
    (a29 : PySem.W.nsIn K mainGlobals "one_place_further" = some (some (.ref f29))) (l29 : K.lookup f29 = some ⟨oc29, od29, .func (PySem.W.fnOf "one_place_further" "one_place_further" (defArgs s_one_place_further) (defBody s_one_place_further) (defScope s_one_place_further) .none kV29 dc29 pm29 an29 cd29 ct29), sl29⟩) (c29 : PySem.W.codeIn K cd29 "one_place_further" = true) (k29 : PySem.W.keepIn K (.ref f29) = true)
    (a30 : PySem.W.nsIn K mainGlobals "bounds_by_rounds" = some (some (.ref f30))) (l30 : K.lookup f30 = some ⟨oc30, od30, .func (PySem.W.fnOf "bounds_by_rounds" "bounds_by_rounds" (defArgs s_bounds_by_rounds) (defBody s_bounds_by_rounds) (defScope s_bounds_by_rounds) .none kV30 dc30 pm30 an30 cd30 ct30), sl30⟩) (c30 : PySem.W.codeIn K cd30 "bounds_by_rounds" = true) (k30 : PySem.W.keepIn K (.ref f30) = true)
    (a31 : PySem.W.nsIn K mainGlobals "check_many" = some (some (.ref f31))) (l31 : K.lookup f31 = some ⟨oc31, od31, .func (PySem.W.fnOf "check_many" "check_many" (defArgs s_check_many) (defBody s_check_many) (defScope s_check_many) .none kV31 dc31 pm31 an31 cd31 ct31), sl31⟩) (c31 : PySem.W.codeIn K cd31 "check_many" = true) (k31 : PySem.W.keepIn K (.ref f31) = true)
    (a32 : PySem.W.nsIn K mainGlobals "check_poll" = some (some (.ref f32))) (l32 : K.lookup f32 = some ⟨oc32, od32, .func (PySem.W.fnOf "check_poll" "check_poll" (defArgs s_check_poll) (defBody s_check_poll) (defScope s_check_poll) .none kV32 dc32 pm32 an32 cd32 ct32), sl32⟩) (c32 : PySem.W.codeIn K cd32 "check_poll" = true) (k32 : PySem.W.keepIn K (.ref f32) = true)
    (a33 : PySem.W.nsIn K mainGlobals "known_sum" = some (some (.ref f33))) (l33 : K.lookup f33 = some ⟨oc33, od33, .func (PySem.W.fnOf "known_sum" "known_sum" (defArgs s_known_sum) (defBody s_known_sum) (defScope s_known_sum) .none kV33 dc33 pm33 an33 cd33 ct33), sl33⟩) (c33 : PySem.W.codeIn K cd33 "known_sum" = true) (k33 : PySem.W.keepIn K (.ref f33) = true)
    (a34 : PySem.W.nsIn K mainGlobals "middle_of" = some (some (.ref f34))) (l34 : K.lookup f34 = some ⟨oc34, od34, .func (PySem.W.fnOf "middle_of" "middle_of" (defArgs s_middle_of) (defBody s_middle_of) (defScope s_middle_of) .none kV34 dc34 pm34 an34 cd34 ct34), sl34⟩) (c34 : PySem.W.codeIn K cd34 "middle_of" = true) (k34 : PySem.W.keepIn K (.ref f34) = true)
    (a35 : PySem.W.nsIn K mainGlobals "middle_by_all" = some (some (.ref f35))) (l35 : K.lookup f35 = some ⟨oc35, od35, .func (PySem.W.fnOf "middle_by_all" "middle_by_all" (defArgs s_middle_by_all) (defBody s_middle_by_all) (defScope s_middle_by_all) .none kV35 dc35 pm35 an35 cd35 ct35), sl35⟩) (c35 : PySem.W.codeIn K cd35 "middle_by_all" = true) (k35 : PySem.W.keepIn K (.ref f35) = true)
    (a36 : PySem.W.nsIn K mainGlobals "middle_by_pairs" = some (some (.ref f36))) (l36 : K.lookup f36 = some ⟨oc36, od36, .func (PySem.W.fnOf "middle_by_pairs" "middle_by_pairs" (defArgs s_middle_by_pairs) (defBody s_middle_by_pairs) (defScope s_middle_by_pairs) .none kV36 dc36 pm36 an36 cd36 ct36), sl36⟩) (c36 : PySem.W.codeIn K cd36 "middle_by_pairs" = true) (k36 : PySem.W.keepIn K (.ref f36) = true)
    (a37 : PySem.W.nsIn K mainGlobals "best_first" = some (some (.ref f37))) (l37 : K.lookup f37 = some ⟨oc37, od37, .func (PySem.W.fnOf "best_first" "best_first" (defArgs s_best_first) (defBody s_best_first) (defScope s_best_first) .none kV37 dc37 pm37 an37 cd37 ct37), sl37⟩) (c37 : PySem.W.codeIn K cd37 "best_first" = true) (k37 : PySem.W.keepIn K (.ref f37) = true)
    (a38 : PySem.W.nsIn K mainGlobals "least_sums" = some (some (.ref f38))) (l38 : K.lookup f38 = some ⟨oc38, od38, .func (PySem.W.fnOf "least_sums" "least_sums" (defArgs s_least_sums) (defBody s_least_sums) (defScope s_least_sums) .none kV38 dc38 pm38 an38 cd38 ct38), sl38⟩) (c38 : PySem.W.codeIn K cd38 "least_sums" = true) (k38 : PySem.W.keepIn K (.ref f38) = true)
    (a39 : PySem.W.nsIn K mainGlobals "sum_with_first" = some (some (.ref f39))) (l39 : K.lookup f39 = some ⟨oc39, od39, .func (PySem.W.fnOf "sum_with_first" "sum_with_first" (defArgs s_sum_with_first) (defBody s_sum_with_first) (defScope s_sum_with_first) .none kV39 dc39 pm39 an39 cd39 ct39), sl39⟩) (c39 : PySem.W.codeIn K cd39 "sum_with_first" = true) (k39 : PySem.W.keepIn K (.ref f39) = true)
    (a40 : PySem.W.nsIn K mainGlobals "things_in" = some (some (.ref f40))) (l40 : K.lookup f40 = some ⟨oc40, od40, .func (PySem.W.fnOf "things_in" "things_in" (defArgs s_things_in) (defBody s_things_in) (defScope s_things_in) .none kV40 dc40 pm40 an40 cd40 ct40), sl40⟩) (c40 : PySem.W.codeIn K cd40 "things_in" = true) (k40 : PySem.W.keepIn K (.ref f40) = true)
    (a41 : PySem.W.nsIn K mainGlobals "counts_ahead" = some (some (.ref f41))) (l41 : K.lookup f41 = some ⟨oc41, od41, .func (PySem.W.fnOf "counts_ahead" "counts_ahead" (defArgs s_counts_ahead) (defBody s_counts_ahead) (defScope s_counts_ahead) .none kV41 dc41 pm41 an41 cd41 ct41), sl41⟩) (c41 : PySem.W.codeIn K cd41 "counts_ahead" = true) (k41 : PySem.W.keepIn K (.ref f41) = true)
    (a42 : PySem.W.nsIn K mainGlobals "nearest_of" = some (some (.ref f42))) (l42 : K.lookup f42 = some ⟨oc42, od42, .func (PySem.W.fnOf "nearest_of" "nearest_of" (defArgs s_nearest_of) (defBody s_nearest_of) (defScope s_nearest_of) .none kV42 dc42 pm42 an42 cd42 ct42), sl42⟩) (c42 : PySem.W.codeIn K cd42 "nearest_of" = true) (k42 : PySem.W.keepIn K (.ref f42) = true)
    (a43 : PySem.W.nsIn K mainGlobals "check_led" = some (some (.ref f43))) (l43 : K.lookup f43 = some ⟨oc43, od43, .func (PySem.W.fnOf "check_led" "check_led" (defArgs s_check_led) (defBody s_check_led) (defScope s_check_led) .none kV43 dc43 pm43 an43 cd43 ct43), sl43⟩) (c43 : PySem.W.codeIn K cd43 "check_led" = true) (k43 : PySem.W.keepIn K (.ref f43) = true)
    (a44 : PySem.W.nsIn K mainGlobals "check_unlike_list" = some (some (.ref f44))) (l44 : K.lookup f44 = some ⟨oc44, od44, .func (PySem.W.fnOf "check_unlike_list" "check_unlike_list" (defArgs s_check_unlike_list) (defBody s_check_unlike_list) (defScope s_check_unlike_list) .none kV44 dc44 pm44 an44 cd44 ct44), sl44⟩) (c44 : PySem.W.codeIn K cd44 "check_unlike_list" = true) (k44 : PySem.W.keepIn K (.ref f44) = true)
    (a45 : PySem.W.nsIn K mainGlobals "those_within" = some (some (.ref f45))) (l45 : K.lookup f45 = some ⟨oc45, od45, .func (PySem.W.fnOf "those_within" "those_within" (defArgs s_those_within) (defBody s_those_within) (defScope s_those_within) .none kV45 dc45 pm45 an45 cd45 ct45), sl45⟩) (c45 : PySem.W.codeIn K cd45 "those_within" = true) (k45 : PySem.W.keepIn K (.ref f45) = true)
    (a46 : PySem.W.nsIn K mainGlobals "not_sure" = some (some (.ref f46))) (l46 : K.lookup f46 = some ⟨oc46, od46, .func (PySem.W.fnOf "not_sure" "not_sure" (defArgs s_not_sure) (defBody s_not_sure) (defScope s_not_sure) .none kV46 dc46 pm46 an46 cd46 ct46), sl46⟩) (c46 : PySem.W.codeIn K cd46 "not_sure" = true) (k46 : PySem.W.keepIn K (.ref f46) = true)
    (a47 : PySem.W.nsIn K mainGlobals "check_sure" = some (some (.ref f47))) (l47 : K.lookup f47 = some ⟨oc47, od47, .func (PySem.W.fnOf "check_sure" "check_sure" (defArgs s_check_sure) (defBody s_check_sure) (defScope s_check_sure) .none kV47 dc47 pm47 an47 cd47 ct47), sl47⟩) (c47 : PySem.W.codeIn K cd47 "check_sure" = true) (k47 : PySem.W.keepIn K (.ref f47) = true)
    (a48 : PySem.W.nsIn K mainGlobals "show_order" = some (some (.ref f48))) (l48 : K.lookup f48 = some ⟨oc48, od48, .func (PySem.W.fnOf "show_order" "show_order" (defArgs s_show_order) (defBody s_show_order) (defScope s_show_order) .none kV48 dc48 pm48 an48 cd48 ct48), sl48⟩) (c48 : PySem.W.codeIn K cd48 "show_order" = true) (k48 : PySem.W.keepIn K (.ref f48) = true)
    (a49 : PySem.W.nsIn K mainGlobals "written" = some (some (.ref f49))) (l49 : K.lookup f49 = some ⟨oc49, od49, .func (PySem.W.fnOf "written" "written" (defArgs s_written) (defBody s_written) (defScope s_written) .none kV49 dc49 pm49 an49 cd49 ct49), sl49⟩) (c49 : PySem.W.codeIn K cd49 "written" = true) (k49 : PySem.W.keepIn K (.ref f49) = true)
    (a50 : PySem.W.nsIn K mainGlobals "show_orders" = some (some (.ref f50))) (l50 : K.lookup f50 = some ⟨oc50, od50, .func (PySem.W.fnOf "show_orders" "show_orders" (defArgs s_show_orders) (defBody s_show_orders) (defScope s_show_orders) .none kV50 dc50 pm50 an50 cd50 ct50), sl50⟩) (c50 : PySem.W.codeIn K cd50 "show_orders" = true) (k50 : PySem.W.keepIn K (.ref f50) = true)
    (a51 : PySem.W.nsIn K mainGlobals "read_order" = some (some (.ref f51))) (l51 : K.lookup f51 = some ⟨oc51, od51, .func (PySem.W.fnOf "read_order" "read_order" (defArgs s_read_order) (defBody s_read_order) (defScope s_read_order) .none kV51 dc51 pm51 an51 cd51 ct51), sl51⟩) (c51 : PySem.W.codeIn K cd51 "read_order" = true) (k51 : PySem.W.keepIn K (.ref f51) = true)
    (a52 : PySem.W.nsIn K mainGlobals "check_text" = some (some (.ref f52))) (l52 : K.lookup f52 = some ⟨oc52, od52, .func (PySem.W.fnOf "check_text" "check_text" (defArgs s_check_text) (defBody s_check_text) (defScope s_check_text) .none kV52 dc52 pm52 an52 cd52 ct52), sl52⟩) (c52 : PySem.W.codeIn K cd52 "check_text" = true) (k52 : PySem.W.keepIn K (.ref f52) = true)
    (a53 : PySem.W.nsIn K mainGlobals "number_in" = some (some (.ref f53))) (l53 : K.lookup f53 = some ⟨oc53, od53, .func (PySem.W.fnOf "number_in" "number_in" (defArgs s_number_in) (defBody s_number_in) (defScope s_number_in) .none kV53 dc53 pm53 an53 cd53 ct53), sl53⟩) (c53 : PySem.W.codeIn K cd53 "number_in" = true) (k53 : PySem.W.keepIn K (.ref f53) = true)
    (a54 : PySem.W.nsIn K mainGlobals "undo_last" = some (some (.ref f54))) (l54 : K.lookup f54 = some ⟨oc54, od54, .func (PySem.W.fnOf "undo_last" "undo_last" (defArgs s_undo_last) (defBody s_undo_last) (defScope s_undo_last) .none kV54 dc54 pm54 an54 cd54 ct54), sl54⟩) (c54 : PySem.W.codeIn K cd54 "undo_last" = true) (k54 : PySem.W.keepIn K (.ref f54) = true)
    (a55 : PySem.W.nsIn K mainGlobals "tell_list" = some (some (.ref f55))) (l55 : K.lookup f55 = some ⟨oc55, od55, .func (PySem.W.fnOf "tell_list" "tell_list" (defArgs s_tell_list) (defBody s_tell_list) (defScope s_tell_list) .none kV55 dc55 pm55 an55 cd55 ct55), sl55⟩) (c55 : PySem.W.codeIn K cd55 "tell_list" = true) (k55 : PySem.W.keepIn K (.ref f55) = true)
    (a56 : PySem.W.nsIn K mainGlobals "tell_apart" = some (some (.ref f56))) (l56 : K.lookup f56 = some ⟨oc56, od56, .func (PySem.W.fnOf "tell_apart" "tell_apart" (defArgs s_tell_apart) (defBody s_tell_apart) (defScope s_tell_apart) .none kV56 dc56 pm56 an56 cd56 ct56), sl56⟩) (c56 : PySem.W.codeIn K cd56 "tell_apart" = true) (k56 : PySem.W.keepIn K (.ref f56) = true)
    (a57 : PySem.W.nsIn K mainGlobals "tell_room" = some (some (.ref f57))) (l57 : K.lookup f57 = some ⟨oc57, od57, .func (PySem.W.fnOf "tell_room" "tell_room" (defArgs s_tell_room) (defBody s_tell_room) (defScope s_tell_room) .none kV57 dc57 pm57 an57 cd57 ct57), sl57⟩) (c57 : PySem.W.codeIn K cd57 "tell_room" = true) (k57 : PySem.W.keepIn K (.ref f57) = true)
    (a58 : PySem.W.nsIn K mainGlobals "tell_first" = some (some (.ref f58))) (l58 : K.lookup f58 = some ⟨oc58, od58, .func (PySem.W.fnOf "tell_first" "tell_first" (defArgs s_tell_first) (defBody s_tell_first) (defScope s_tell_first) .none kV58 dc58 pm58 an58 cd58 ct58), sl58⟩) (c58 : PySem.W.codeIn K cd58 "tell_first" = true) (k58 : PySem.W.keepIn K (.ref f58) = true)
    (a59 : PySem.W.nsIn K mainGlobals "tell_bounds" = some (some (.ref f59))) (l59 : K.lookup f59 = some ⟨oc59, od59, .func (PySem.W.fnOf "tell_bounds" "tell_bounds" (defArgs s_tell_bounds) (defBody s_tell_bounds) (defScope s_tell_bounds) .none kV59 dc59 pm59 an59 cd59 ct59), sl59⟩) (c59 : PySem.W.codeIn K cd59 "tell_bounds" = true) (k59 : PySem.W.keepIn K (.ref f59) = true)
    (a60 : PySem.W.nsIn K mainGlobals "tell_middle" = some (some (.ref f60))) (l60 : K.lookup f60 = some ⟨oc60, od60, .func (PySem.W.fnOf "tell_middle" "tell_middle" (defArgs s_tell_middle) (defBody s_tell_middle) (defScope s_tell_middle) .none kV60 dc60 pm60 an60 cd60 ct60), sl60⟩) (c60 : PySem.W.codeIn K cd60 "tell_middle" = true) (k60 : PySem.W.keepIn K (.ref f60) = true)
    (a61 : PySem.W.nsIn K mainGlobals "let_come" = some (some (.ref f61))) (l61 : K.lookup f61 = some ⟨oc61, od61, .func (PySem.W.fnOf "let_come" "let_come" (defArgs s_let_come) (defBody s_let_come) (defScope s_let_come) .none kV61 dc61 pm61 an61 cd61 ct61), sl61⟩) (c61 : PySem.W.codeIn K cd61 "let_come" = true) (k61 : PySem.W.keepIn K (.ref f61) = true)
    (a62 : PySem.W.nsIn K mainGlobals "let_drop" = some (some (.ref f62))) (l62 : K.lookup f62 = some ⟨oc62, od62, .func (PySem.W.fnOf "let_drop" "let_drop" (defArgs s_let_drop) (defBody s_let_drop) (defScope s_let_drop) .none kV62 dc62 pm62 an62 cd62 ct62), sl62⟩) (c62 : PySem.W.codeIn K cd62 "let_drop" = true) (k62 : PySem.W.keepIn K (.ref f62) = true)
    (a63 : PySem.W.nsIn K mainGlobals "tell_near" = some (some (.ref f63))) (l63 : K.lookup f63 = some ⟨oc63, od63, .func (PySem.W.fnOf "tell_near" "tell_near" (defArgs s_tell_near) (defBody s_tell_near) (defScope s_tell_near) .none kV63 dc63 pm63 an63 cd63 ct63), sl63⟩) (c63 : PySem.W.codeIn K cd63 "tell_near" = true) (k63 : PySem.W.keepIn K (.ref f63) = true)
    (a64 : PySem.W.nsIn K mainGlobals "tell_sure" = some (some (.ref f64))) (l64 : K.lookup f64 = some ⟨oc64, od64, .func (PySem.W.fnOf "tell_sure" "tell_sure" (defArgs s_tell_sure) (defBody s_tell_sure) (defScope s_tell_sure) .none kV64 dc64 pm64 an64 cd64 ct64), sl64⟩) (c64 : PySem.W.codeIn K cd64 "tell_sure" = true) (k64 : PySem.W.keepIn K (.ref f64) = true)
    (a65 : PySem.W.nsIn K mainGlobals "read_number" = some (some (.ref f65))) (l65 : K.lookup f65 = some ⟨oc65, od65, .func (PySem.W.fnOf "read_number" "read_number" (defArgs s_read_number) (defBody s_read_number) (defScope s_read_number) .none kV65 dc65 pm65 an65 cd65 ct65), sl65⟩) (c65 : PySem.W.codeIn K cd65 "read_number" = true) (k65 : PySem.W.keepIn K (.ref f65) = true)
    (a66 : PySem.W.nsIn K mainGlobals "_law_pool" = some (some (.ref f66))) (l66 : K.lookup f66 = some ⟨oc66, od66, .func (PySem.W.fnOf "_law_pool" "_law_pool" (defArgs s_law_pool) (defBody s_law_pool) (defScope s_law_pool) .none kV66 dc66 pm66 an66 cd66 ct66), sl66⟩) (c66 : PySem.W.codeIn K cd66 "_law_pool" = true) (k66 : PySem.W.keepIn K (.ref f66) = true)
    (a67 : PySem.W.nsIn K mainGlobals "_law_draw" = some (some (.ref f67))) (l67 : K.lookup f67 = some ⟨oc67, od67, .func (PySem.W.fnOf "_law_draw" "_law_draw" (defArgs s_law_draw) (defBody s_law_draw) (defScope s_law_draw) .none kV67 dc67 pm67 an67 cd67 ct67), sl67⟩) (c67 : PySem.W.codeIn K cd67 "_law_draw" = true) (k67 : PySem.W.keepIn K (.ref f67) = true)
    (a68 : PySem.W.nsIn K mainGlobals "_law_order" = some (some (.ref f68))) (l68 : K.lookup f68 = some ⟨oc68, od68, .func (PySem.W.fnOf "_law_order" "_law_order" (defArgs s_law_order) (defBody s_law_order) (defScope s_law_order) .none kV68 dc68 pm68 an68 cd68 ct68), sl68⟩) (c68 : PySem.W.codeIn K cd68 "_law_order" = true) (k68 : PySem.W.keepIn K (.ref f68) = true)
    (a69 : PySem.W.nsIn K mainGlobals "_law_far" = some (some (.ref f69))) (l69 : K.lookup f69 = some ⟨oc69, od69, .func (PySem.W.fnOf "_law_far" "_law_far" (defArgs s_law_far) (defBody s_law_far) (defScope s_law_far) .none kV69 dc69 pm69 an69 cd69 ct69), sl69⟩) (c69 : PySem.W.codeIn K cd69 "_law_far" = true) (k69 : PySem.W.keepIn K (.ref f69) = true)
    (a70 : PySem.W.nsIn K mainGlobals "_law_written" = some (some (.ref f70))) (l70 : K.lookup f70 = some ⟨oc70, od70, .func (PySem.W.fnOf "_law_written" "_law_written" (defArgs s_law_written) (defBody s_law_written) (defScope s_law_written) .none kV70 dc70 pm70 an70 cd70 ct70), sl70⟩) (c70 : PySem.W.codeIn K cd70 "_law_written" = true) (k70 : PySem.W.keepIn K (.ref f70) = true)
    (a71 : PySem.W.nsIn K mainGlobals "_law_list_written" = some (some (.ref f71))) (l71 : K.lookup f71 = some ⟨oc71, od71, .func (PySem.W.fnOf "_law_list_written" "_law_list_written" (defArgs s_law_list_written) (defBody s_law_list_written) (defScope s_law_list_written) .none kV71 dc71 pm71 an71 cd71 ct71), sl71⟩) (c71 : PySem.W.codeIn K cd71 "_law_list_written" = true) (k71 : PySem.W.keepIn K (.ref f71) = true)
    (a72 : PySem.W.nsIn K mainGlobals "_law_said" = some (some (.ref f72))) (l72 : K.lookup f72 = some ⟨oc72, od72, .func (PySem.W.fnOf "_law_said" "_law_said" (defArgs s_law_said) (defBody s_law_said) (defScope s_law_said) .none kV72 dc72 pm72 an72 cd72 ct72), sl72⟩) (c72 : PySem.W.codeIn K cd72 "_law_said" = true) (k72 : PySem.W.keepIn K (.ref f72) = true)
    (a73 : PySem.W.nsIn K mainGlobals "_law_no_row" = some (some (.ref f73))) (l73 : K.lookup f73 = some ⟨oc73, od73, .func (PySem.W.fnOf "_law_no_row" "_law_no_row" (defArgs s_law_no_row) (defBody s_law_no_row) (defScope s_law_no_row) .none kV73 dc73 pm73 an73 cd73 ct73), sl73⟩) (c73 : PySem.W.codeIn K cd73 "_law_no_row" = true) (k73 : PySem.W.keepIn K (.ref f73) = true)
    (a74 : PySem.W.nsIn K mainGlobals "_law_no_way" = some (some (.ref f74))) (l74 : K.lookup f74 = some ⟨oc74, od74, .func (PySem.W.fnOf "_law_no_way" "_law_no_way" (defArgs s_law_no_way) (defBody s_law_no_way) (defScope s_law_no_way) .none kV74 dc74 pm74 an74 cd74 ct74), sl74⟩) (c74 : PySem.W.codeIn K cd74 "_law_no_way" = true) (k74 : PySem.W.keepIn K (.ref f74) = true)
    (a75 : PySem.W.nsIn K mainGlobals "_law_no_number" = some (some (.ref f75))) (l75 : K.lookup f75 = some ⟨oc75, od75, .func (PySem.W.fnOf "_law_no_number" "_law_no_number" (defArgs s_law_no_number) (defBody s_law_no_number) (defScope s_law_no_number) .none kV75 dc75 pm75 an75 cd75 ct75), sl75⟩) (c75 : PySem.W.codeIn K cd75 "_law_no_number" = true) (k75 : PySem.W.keepIn K (.ref f75) = true)
    (a76 : PySem.W.nsIn K mainGlobals "_law_no_text" = some (some (.ref f76))) (l76 : K.lookup f76 = some ⟨oc76, od76, .func (PySem.W.fnOf "_law_no_text" "_law_no_text" (defArgs s_law_no_text) (defBody s_law_no_text) (defScope s_law_no_text) .none kV76 dc76 pm76 an76 cd76 ct76), sl76⟩) (c76 : PySem.W.codeIn K cd76 "_law_no_text" = true) (k76 : PySem.W.keepIn K (.ref f76) = true)
    (a77 : PySem.W.nsIn K mainGlobals "_law_else" = some (some (.ref f77))) (l77 : K.lookup f77 = some ⟨oc77, od77, .func (PySem.W.fnOf "_law_else" "_law_else" (defArgs s_law_else) (defBody s_law_else) (defScope s_law_else) .none kV77 dc77 pm77 an77 cd77 ct77), sl77⟩) (c77 : PySem.W.codeIn K cd77 "_law_else" = true) (k77 : PySem.W.keepIn K (.ref f77) = true)
    (a78 : PySem.W.nsIn K mainGlobals "_law_all_of_four" = some (some (.ref f78))) (l78 : K.lookup f78 = some ⟨oc78, od78, .func (PySem.W.fnOf "_law_all_of_four" "_law_all_of_four" (defArgs s_law_all_of_four) (defBody s_law_all_of_four) (defScope s_law_all_of_four) .none kV78 dc78 pm78 an78 cd78 ct78), sl78⟩) (c78 : PySem.W.codeIn K cd78 "_law_all_of_four" = true) (k78 : PySem.W.keepIn K (.ref f78) = true)
    (a79 : PySem.W.nsIn K mainGlobals "_law_made" = some (some (.ref f79))) (l79 : K.lookup f79 = some ⟨oc79, od79, .func (PySem.W.fnOf "_law_made" "_law_made" (defArgs s_law_made) (defBody s_law_made) (defScope s_law_made) .none kV79 dc79 pm79 an79 cd79 ct79), sl79⟩) (c79 : PySem.W.codeIn K cd79 "_law_made" = true) (k79 : PySem.W.keepIn K (.ref f79) = true)
    (a80 : PySem.W.nsIn K mainGlobals "_law_stands" = some (some (.ref f80))) (l80 : K.lookup f80 = some ⟨oc80, od80, .func (PySem.W.fnOf "_law_stands" "_law_stands" (defArgs s_law_stands) (defBody s_law_stands) (defScope s_law_stands) .none kV80 dc80 pm80 an80 cd80 ct80), sl80⟩) (c80 : PySem.W.codeIn K cd80 "_law_stands" = true) (k80 : PySem.W.keepIn K (.ref f80) = true)
    (a81 : PySem.W.nsIn K mainGlobals "_law_goes_on" = some (some (.ref f81))) (l81 : K.lookup f81 = some ⟨oc81, od81, .func (PySem.W.fnOf "_law_goes_on" "_law_goes_on" (defArgs s_law_goes_on) (defBody s_law_goes_on) (defScope s_law_goes_on) .none kV81 dc81 pm81 an81 cd81 ct81), sl81⟩) (c81 : PySem.W.codeIn K cd81 "_law_goes_on" = true) (k81 : PySem.W.keepIn K (.ref f81) = true)
    (a82 : PySem.W.nsIn K mainGlobals "law" = some (some (.ref f82))) (l82 : K.lookup f82 = some ⟨oc82, od82, .func (PySem.W.fnOf "law" "law" (defArgs s_law) (defBody s_law) (defScope s_law) .none kV82 dc82 pm82 an82 cd82 ct82), sl82⟩) (c82 : PySem.W.codeIn K cd82 "law" = true) (k82 : PySem.W.keepIn K (.ref f82) = true)
    (g_MOST_THINGS : PySem.W.nsIn K mainGlobals "MOST_THINGS" = some (some (.int 12 tk_MOST_THINGS)))
    (g_MOST_LISTED : PySem.W.nsIn K mainGlobals "MOST_LISTED" = some (some (.int 6 tk_MOST_LISTED)))
    (g_MOST_ORDERS : PySem.W.nsIn K mainGlobals "MOST_ORDERS" = some (some (.int 120 tk_MOST_ORDERS)))
    (g_MOST_KEPT : PySem.W.nsIn K mainGlobals "MOST_KEPT" = some (some (.int 8 tk_MOST_KEPT)))
    (g_MOST_POLLED : PySem.W.nsIn K mainGlobals "MOST_POLLED" = some (some (.int 20 tk_MOST_POLLED)))
    (g_MOST_BY_PAIRS : PySem.W.nsIn K mainGlobals "MOST_BY_PAIRS" = some (some (.int 9 tk_MOST_BY_PAIRS)))
    (g_NO_ORDERS : PySem.W.nsIn K mainGlobals "NO_ORDERS" = some (some (.str "-" tk_NO_ORDERS)))
    (g_DONE : PySem.W.nsIn K mainGlobals "DONE" = some (some (.str "ok" tk_DONE)))
    (g_NOTHING : PySem.W.nsIn K mainGlobals "NOTHING" = some (some (.str "none" tk_NOTHING)))
    (g_NUMBERS : PySem.W.nsIn K mainGlobals "NUMBERS" = some (some (.int 100 tk_NUMBERS)))
    (g_WAYS : PySem.W.nsIn K mainGlobals "WAYS" = some (some (.ref aW))) (l_WAYS : K.lookup aW = some ⟨.type "tuple", ddW, .seq #[.str "swap" tW1, .str "spot" tW2, .str "shift" tW3] nW, slW⟩)
    (aC_Lister : PySem.W.nsIn K mainGlobals "Lister" = some (some (.ref C_Lister)))
    (am0 : PySem.W.findIn K (.ref C_Lister) "__init__" = some (some (.ref fm0))) (im0 : PySem.W.isFn K (.ref fm0) = true) (lm0 : K.lookup fm0 = some ⟨ocm0, odm0, .func (PySem.W.fnOf "__init__" "Lister.__init__" (defArgs s_Lister___init__) (defBody s_Lister___init__) (defScope s_Lister___init__) .none kVm0 dcm0 pmm0 anm0 cdm0 ctm0), slm0⟩) (cm0 : PySem.W.codeIn K cdm0 "Lister.__init__" = true) (km0 : PySem.W.keepIn K (.ref fm0) = true)
    (am1 : PySem.W.findIn K (.ref C_Lister) "come" = some (some (.ref fm1))) (im1 : PySem.W.isFn K (.ref fm1) = true) (lm1 : K.lookup fm1 = some ⟨ocm1, odm1, .func (PySem.W.fnOf "come" "Lister.come" (defArgs s_Lister_come) (defBody s_Lister_come) (defScope s_Lister_come) .none kVm1 dcm1 pmm1 anm1 cdm1 ctm1), slm1⟩) (cm1 : PySem.W.codeIn K cdm1 "Lister.come" = true) (km1 : PySem.W.keepIn K (.ref fm1) = true)
    (am2 : PySem.W.findIn K (.ref C_Lister) "drop" = some (some (.ref fm2))) (im2 : PySem.W.isFn K (.ref fm2) = true) (lm2 : K.lookup fm2 = some ⟨ocm2, odm2, .func (PySem.W.fnOf "drop" "Lister.drop" (defArgs s_Lister_drop) (defBody s_Lister_drop) (defScope s_Lister_drop) .none kVm2 dcm2 pmm2 anm2 cdm2 ctm2), slm2⟩) (cm2 : PySem.W.codeIn K cdm2 "Lister.drop" = true) (km2 : PySem.W.keepIn K (.ref fm2) = true)
    (am3 : PySem.W.findIn K (.ref C_Lister) "change_to" = some (some (.ref fm3))) (im3 : PySem.W.isFn K (.ref fm3) = true) (lm3 : K.lookup fm3 = some ⟨ocm3, odm3, .func (PySem.W.fnOf "change_to" "Lister.change_to" (defArgs s_Lister_change_to) (defBody s_Lister_change_to) (defScope s_Lister_change_to) .none kVm3 dcm3 pmm3 anm3 cdm3 ctm3), slm3⟩) (cm3 : PySem.W.codeIn K cdm3 "Lister.change_to" = true) (km3 : PySem.W.keepIn K (.ref fm3) = true)
    (am4 : PySem.W.findIn K (.ref C_Lister) "undo" = some (some (.ref fm4))) (im4 : PySem.W.isFn K (.ref fm4) = true) (lm4 : K.lookup fm4 = some ⟨ocm4, odm4, .func (PySem.W.fnOf "undo" "Lister.undo" (defArgs s_Lister_undo) (defBody s_Lister_undo) (defScope s_Lister_undo) .none kVm4 dcm4 pmm4 anm4 cdm4 ctm4), slm4⟩) (cm4 : PySem.W.codeIn K cdm4 "Lister.undo" = true) (km4 : PySem.W.keepIn K (.ref fm4) = true)
    (am5 : PySem.W.findIn K (.ref C_Lister) "orders" = some (some (.ref fm5))) (im5 : PySem.W.isFn K (.ref fm5) = true) (lm5 : K.lookup fm5 = some ⟨ocm5, odm5, .func (PySem.W.fnOf "orders" "Lister.orders" (defArgs s_Lister_orders) (defBody s_Lister_orders) (defScope s_Lister_orders) .none kVm5 dcm5 pmm5 anm5 cdm5 ctm5), slm5⟩) (cm5 : PySem.W.codeIn K cdm5 "Lister.orders" = true) (km5 : PySem.W.keepIn K (.ref fm5) = true)
    (am6 : PySem.W.findIn K (.ref C_Lister) "least_apart" = some (some (.ref fm6))) (im6 : PySem.W.isFn K (.ref fm6) = true) (lm6 : K.lookup fm6 = some ⟨ocm6, odm6, .func (PySem.W.fnOf "least_apart" "Lister.least_apart" (defArgs s_Lister_least_apart) (defBody s_Lister_least_apart) (defScope s_Lister_least_apart) .none kVm6 dcm6 pmm6 anm6 cdm6 ctm6), slm6⟩) (cm6 : PySem.W.codeIn K cdm6 "Lister.least_apart" = true) (km6 : PySem.W.keepIn K (.ref fm6) = true)
    (am7 : PySem.W.findIn K (.ref C_Lister) "first_more" = some (some (.ref fm7))) (im7 : PySem.W.isFn K (.ref fm7) = true) (lm7 : K.lookup fm7 = some ⟨ocm7, odm7, .func (PySem.W.fnOf "first_more" "Lister.first_more" (defArgs s_Lister_first_more) (defBody s_Lister_first_more) (defScope s_Lister_first_more) .none kVm7 dcm7 pmm7 anm7 cdm7 ctm7), slm7⟩) (cm7 : PySem.W.codeIn K cdm7 "Lister.first_more" = true) (km7 : PySem.W.keepIn K (.ref fm7) = true)
    (am8 : PySem.W.findIn K (.ref C_Lister) "how_many_more" = some (some (.ref fm8))) (im8 : PySem.W.isFn K (.ref fm8) = true) (lm8 : K.lookup fm8 = some ⟨ocm8, odm8, .func (PySem.W.fnOf "how_many_more" "Lister.how_many_more" (defArgs s_Lister_how_many_more) (defBody s_Lister_how_many_more) (defScope s_Lister_how_many_more) .none kVm8 dcm8 pmm8 anm8 cdm8 ctm8), slm8⟩) (cm8 : PySem.W.codeIn K cdm8 "Lister.how_many_more" = true) (km8 : PySem.W.keepIn K (.ref fm8) = true)
    (pgC : PySem.W.plainGet K C_Lister Str.empty = true) (hdC : PySem.W.hasDictIn K C_Lister = true) (poC : PySem.W.plainOver K C_Lister = true) (saC : PySem.W.findIn K (.ref C_Lister) "__setattr__" = some (some (.builtin "object.__setattr__"))) (mkC : PySem.W.makesIn K C_Lister = true) (kcC : PySem.W.keepIn K (.ref C_Lister) = true)
    (nf_way : PySem.W.findIn K (.ref C_Lister) "way" = some none)
    (nf_n : PySem.W.findIn K (.ref C_Lister) "n" = some none)
    (nf_d : PySem.W.findIn K (.ref C_Lister) "d" = some none)
    (nf_taken : PySem.W.findIn K (.ref C_Lister) "taken" = some none)
    (nf_earlier : PySem.W.findIn K (.ref C_Lister) "earlier" = some none)
    (aC_Desk : PySem.W.nsIn K mainGlobals "Desk" = some (some (.ref C_Desk)))
    (ac1_m0 : PySem.W.findIn K (.ref C_Desk) "__init__" = some (some (.ref fc1_m0))) (ic1_m0 : PySem.W.isFn K (.ref fc1_m0) = true) (lc1_m0 : K.lookup fc1_m0 = some ⟨occ1_m0, odc1_m0, .func (PySem.W.fnOf "__init__" "Desk.__init__" (defArgs s_Desk___init__) (defBody s_Desk___init__) (defScope s_Desk___init__) .none kVc1_m0 dcc1_m0 pmc1_m0 anc1_m0 cdc1_m0 ctc1_m0), slc1_m0⟩) (cc1_m0 : PySem.W.codeIn K cdc1_m0 "Desk.__init__" = true) (kc1_m0 : PySem.W.keepIn K (.ref fc1_m0) = true)
    (ac1_m1 : PySem.W.findIn K (.ref C_Desk) "say" = some (some (.ref fc1_m1))) (ic1_m1 : PySem.W.isFn K (.ref fc1_m1) = true) (lc1_m1 : K.lookup fc1_m1 = some ⟨occ1_m1, odc1_m1, .func (PySem.W.fnOf "say" "Desk.say" (defArgs s_Desk_say) (defBody s_Desk_say) (defScope s_Desk_say) .none kVc1_m1 dcc1_m1 pmc1_m1 anc1_m1 cdc1_m1 ctc1_m1), slc1_m1⟩) (cc1_m1 : PySem.W.codeIn K cdc1_m1 "Desk.say" = true) (kc1_m1 : PySem.W.keepIn K (.ref fc1_m1) = true)
    (ac1_m2 : PySem.W.findIn K (.ref C_Desk) "say_with_numbers" = some (some (.ref fc1_m2))) (ic1_m2 : PySem.W.isFn K (.ref fc1_m2) = true) (lc1_m2 : K.lookup fc1_m2 = some ⟨occ1_m2, odc1_m2, .func (PySem.W.fnOf "say_with_numbers" "Desk.say_with_numbers" (defArgs s_Desk_say_with_numbers) (defBody s_Desk_say_with_numbers) (defScope s_Desk_say_with_numbers) .none kVc1_m2 dcc1_m2 pmc1_m2 anc1_m2 cdc1_m2 ctc1_m2), slc1_m2⟩) (cc1_m2 : PySem.W.codeIn K cdc1_m2 "Desk.say_with_numbers" = true) (kc1_m2 : PySem.W.keepIn K (.ref fc1_m2) = true)
    (pgCc1_ : PySem.W.plainGet K C_Desk Str.empty = true) (hdCc1_ : PySem.W.hasDictIn K C_Desk = true) (poCc1_ : PySem.W.plainOver K C_Desk = true) (saCc1_ : PySem.W.findIn K (.ref C_Desk) "__setattr__" = some (some (.builtin "object.__setattr__"))) (mkCc1_ : PySem.W.makesIn K C_Desk = true) (kcCc1_ : PySem.W.keepIn K (.ref C_Desk) = true)
    (nfc1__lister : PySem.W.findIn K (.ref C_Desk) "lister" = some none)
    (gD0 : PySem.W.nsIn K mainGlobals "BARE_ROWS" = some (some (.ref aB))) (lD0 : K.lookup aB = some ⟨.type "dict", none, .dict #[⟨hD0_0, .str "undo" tD0_0, .ref f54⟩, ⟨hD0_1, .str "list" tD0_1, .ref f55⟩, ⟨hD0_2, .str "apart" tD0_2, .ref f56⟩, ⟨hD0_3, .str "room" tD0_3, .ref f57⟩, ⟨hD0_4, .str "first" tD0_4, .ref f58⟩, ⟨hD0_5, .str "bounds" tD0_5, .ref f59⟩, ⟨hD0_6, .str "middle" tD0_6, .ref f60⟩] nD0, #[]⟩)
    (gD1 : PySem.W.nsIn K mainGlobals "ORDER_ROWS" = some (some (.ref aO))) (lD1 : K.lookup aO = some ⟨.type "dict", none, .dict #[⟨hD1_0, .str "come" tD1_0, .ref f61⟩, ⟨hD1_1, .str "drop" tD1_1, .ref f62⟩, ⟨hD1_2, .str "near" tD1_2, .ref f63⟩] nD1, #[]⟩)
    (sD0 : (aB == sysModules) = false)
    (eD0_0 : hD0_0 = hashStr w "undo")
    (eD0_1 : hD0_1 = hashStr w "list")
    (eD0_2 : hD0_2 = hashStr w "apart")
    (eD0_3 : hD0_3 = hashStr w "room")
    (eD0_4 : hD0_4 = hashStr w "first")
    (eD0_5 : hD0_5 = hashStr w "bounds")
    (eD0_6 : hD0_6 = hashStr w "middle")
    (sD1 : (aO == sysModules) = false)
    (eD1_0 : hD1_0 = hashStr w "come")
    (eD1_1 : hD1_1 = hashStr w "drop")
    (eD1_2 : hD1_2 = hashStr w "near")
    (gc_OrderError : PySem.W.nsIn K mainGlobals "OrderError" = some (some (.ref C_OrderError)))
    (gc_NoOrder : PySem.W.nsIn K mainGlobals "NoOrder" = some (some (.ref C_NoOrder)))
    (gc_NoWay : PySem.W.nsIn K mainGlobals "NoWay" = some (some (.ref C_NoWay)))
    (gc_NoFit : PySem.W.nsIn K mainGlobals "NoFit" = some (some (.ref C_NoFit)))
    (gc_NoPlace : PySem.W.nsIn K mainGlobals "NoPlace" = some (some (.ref C_NoPlace)))
    (gc_NoNumber : PySem.W.nsIn K mainGlobals "NoNumber" = some (some (.ref C_NoNumber)))
    (gc_TooMany : PySem.W.nsIn K mainGlobals "TooMany" = some (some (.ref C_TooMany)))
    (gc_NoText : PySem.W.nsIn K mainGlobals "NoText" = some (some (.ref C_NoText)))
    (gc_NoName : PySem.W.nsIn K mainGlobals "NoName" = some (some (.ref C_NoName)))
    (gc_NoRow : PySem.W.nsIn K mainGlobals "NoRow" = some (some (.ref C_NoRow)))
    (xq_NoOrder : PySem.W.excIn K C_NoOrder [.type "ValueError", .type "Exception", .type "BaseException", .type "object"] "ValueError.__new__" = true) (xk_NoOrder : PySem.W.keepIn K (.ref C_NoOrder) = true) (xt_NoOrder : PySem.W.typeIn K (.ref C_NoOrder) = some (.type "type")) (xm_NoOrder : PySem.W.exmOne K (.ref C_NoOrder) (.ref C_OrderError) = some true) (xv_NoOrder : PySem.W.kitOne K (.ref C_NoOrder) (.type "ValueError") = some true)
    (xehg_NoOrder : PySem.W.findIn K (.ref C_NoOrder) "__getattribute__" = some (some (.builtin "BaseException.__getattribute__")))
    (xehk_NoOrder : PySem.W.findIn K (.ref C_NoOrder) "__getattr__" = some none)
    (xehs_NoOrder : PySem.W.subIn K (.ref C_NoOrder) (.type "BaseException") = some true)
    (xehd_NoOrder : PySem.W.hasDictIn K C_NoOrder = true)
    (xeha_NoOrder : PySem.W.findIn K (.ref C_NoOrder) "__class__" = some (some (.builtin "object.__class__")))
    (xehn_NoOrder : PySem.W.specialIn K (.builtin "object.__class__") "__get__" = some (some (.builtin "getset_descriptor.__get__")))
    (xeht_NoOrder : PySem.W.takesIn K (.builtin "object.__class__") = some true)
    (xehm_NoOrder : PySem.W.mroIn K C_NoOrder (.type "object") = some true)
    (xy_NoOrder_NoOrder : PySem.W.kitOne K (.ref C_NoOrder) (.ref C_NoOrder) = some true)
    (xy_NoOrder_NoWay : PySem.W.kitOne K (.ref C_NoOrder) (.ref C_NoWay) = some false)
    (xy_NoOrder_NoFit : PySem.W.kitOne K (.ref C_NoOrder) (.ref C_NoFit) = some false)
    (xy_NoOrder_NoPlace : PySem.W.kitOne K (.ref C_NoOrder) (.ref C_NoPlace) = some false)
    (xy_NoOrder_NoNumber : PySem.W.kitOne K (.ref C_NoOrder) (.ref C_NoNumber) = some false)
    (xy_NoOrder_TooMany : PySem.W.kitOne K (.ref C_NoOrder) (.ref C_TooMany) = some false)
    (xy_NoOrder_NoText : PySem.W.kitOne K (.ref C_NoOrder) (.ref C_NoText) = some false)
    (xy_NoOrder_NoName : PySem.W.kitOne K (.ref C_NoOrder) (.ref C_NoName) = some false)
    (xy_NoOrder_NoRow : PySem.W.kitOne K (.ref C_NoOrder) (.ref C_NoRow) = some false)
    (xq_NoWay : PySem.W.excIn K C_NoWay [.type "ValueError", .type "Exception", .type "BaseException", .type "object"] "ValueError.__new__" = true) (xk_NoWay : PySem.W.keepIn K (.ref C_NoWay) = true) (xt_NoWay : PySem.W.typeIn K (.ref C_NoWay) = some (.type "type")) (xm_NoWay : PySem.W.exmOne K (.ref C_NoWay) (.ref C_OrderError) = some true) (xv_NoWay : PySem.W.kitOne K (.ref C_NoWay) (.type "ValueError") = some true)
    (xehg_NoWay : PySem.W.findIn K (.ref C_NoWay) "__getattribute__" = some (some (.builtin "BaseException.__getattribute__")))
    (xehk_NoWay : PySem.W.findIn K (.ref C_NoWay) "__getattr__" = some none)
    (xehs_NoWay : PySem.W.subIn K (.ref C_NoWay) (.type "BaseException") = some true)
    (xehd_NoWay : PySem.W.hasDictIn K C_NoWay = true)
    (xeha_NoWay : PySem.W.findIn K (.ref C_NoWay) "__class__" = some (some (.builtin "object.__class__")))
    (xehn_NoWay : PySem.W.specialIn K (.builtin "object.__class__") "__get__" = some (some (.builtin "getset_descriptor.__get__")))
    (xeht_NoWay : PySem.W.takesIn K (.builtin "object.__class__") = some true)
    (xehm_NoWay : PySem.W.mroIn K C_NoWay (.type "object") = some true)
    (xy_NoWay_NoOrder : PySem.W.kitOne K (.ref C_NoWay) (.ref C_NoOrder) = some false)
    (xy_NoWay_NoWay : PySem.W.kitOne K (.ref C_NoWay) (.ref C_NoWay) = some true)
    (xy_NoWay_NoFit : PySem.W.kitOne K (.ref C_NoWay) (.ref C_NoFit) = some false)
    (xy_NoWay_NoPlace : PySem.W.kitOne K (.ref C_NoWay) (.ref C_NoPlace) = some false)
    (xy_NoWay_NoNumber : PySem.W.kitOne K (.ref C_NoWay) (.ref C_NoNumber) = some false)
    (xy_NoWay_TooMany : PySem.W.kitOne K (.ref C_NoWay) (.ref C_TooMany) = some false)
    (xy_NoWay_NoText : PySem.W.kitOne K (.ref C_NoWay) (.ref C_NoText) = some false)
    (xy_NoWay_NoName : PySem.W.kitOne K (.ref C_NoWay) (.ref C_NoName) = some false)
    (xy_NoWay_NoRow : PySem.W.kitOne K (.ref C_NoWay) (.ref C_NoRow) = some false)
    (xq_NoFit : PySem.W.excIn K C_NoFit [.type "ValueError", .type "Exception", .type "BaseException", .type "object"] "ValueError.__new__" = true) (xk_NoFit : PySem.W.keepIn K (.ref C_NoFit) = true) (xt_NoFit : PySem.W.typeIn K (.ref C_NoFit) = some (.type "type")) (xm_NoFit : PySem.W.exmOne K (.ref C_NoFit) (.ref C_OrderError) = some true) (xv_NoFit : PySem.W.kitOne K (.ref C_NoFit) (.type "ValueError") = some true)
    (xehg_NoFit : PySem.W.findIn K (.ref C_NoFit) "__getattribute__" = some (some (.builtin "BaseException.__getattribute__")))
    (xehk_NoFit : PySem.W.findIn K (.ref C_NoFit) "__getattr__" = some none)
    (xehs_NoFit : PySem.W.subIn K (.ref C_NoFit) (.type "BaseException") = some true)
    (xehd_NoFit : PySem.W.hasDictIn K C_NoFit = true)
    (xeha_NoFit : PySem.W.findIn K (.ref C_NoFit) "__class__" = some (some (.builtin "object.__class__")))
    (xehn_NoFit : PySem.W.specialIn K (.builtin "object.__class__") "__get__" = some (some (.builtin "getset_descriptor.__get__")))
    (xeht_NoFit : PySem.W.takesIn K (.builtin "object.__class__") = some true)
    (xehm_NoFit : PySem.W.mroIn K C_NoFit (.type "object") = some true)
    (xy_NoFit_NoOrder : PySem.W.kitOne K (.ref C_NoFit) (.ref C_NoOrder) = some false)
    (xy_NoFit_NoWay : PySem.W.kitOne K (.ref C_NoFit) (.ref C_NoWay) = some false)
    (xy_NoFit_NoFit : PySem.W.kitOne K (.ref C_NoFit) (.ref C_NoFit) = some true)
    (xy_NoFit_NoPlace : PySem.W.kitOne K (.ref C_NoFit) (.ref C_NoPlace) = some false)
    (xy_NoFit_NoNumber : PySem.W.kitOne K (.ref C_NoFit) (.ref C_NoNumber) = some false)
    (xy_NoFit_TooMany : PySem.W.kitOne K (.ref C_NoFit) (.ref C_TooMany) = some false)
    (xy_NoFit_NoText : PySem.W.kitOne K (.ref C_NoFit) (.ref C_NoText) = some false)
    (xy_NoFit_NoName : PySem.W.kitOne K (.ref C_NoFit) (.ref C_NoName) = some false)
    (xy_NoFit_NoRow : PySem.W.kitOne K (.ref C_NoFit) (.ref C_NoRow) = some false)
    (xq_NoNumber : PySem.W.excIn K C_NoNumber [.type "ValueError", .type "Exception", .type "BaseException", .type "object"] "ValueError.__new__" = true) (xk_NoNumber : PySem.W.keepIn K (.ref C_NoNumber) = true) (xt_NoNumber : PySem.W.typeIn K (.ref C_NoNumber) = some (.type "type")) (xm_NoNumber : PySem.W.exmOne K (.ref C_NoNumber) (.ref C_OrderError) = some true) (xv_NoNumber : PySem.W.kitOne K (.ref C_NoNumber) (.type "ValueError") = some true)
    (xehg_NoNumber : PySem.W.findIn K (.ref C_NoNumber) "__getattribute__" = some (some (.builtin "BaseException.__getattribute__")))
    (xehk_NoNumber : PySem.W.findIn K (.ref C_NoNumber) "__getattr__" = some none)
    (xehs_NoNumber : PySem.W.subIn K (.ref C_NoNumber) (.type "BaseException") = some true)
    (xehd_NoNumber : PySem.W.hasDictIn K C_NoNumber = true)
    (xeha_NoNumber : PySem.W.findIn K (.ref C_NoNumber) "__class__" = some (some (.builtin "object.__class__")))
    (xehn_NoNumber : PySem.W.specialIn K (.builtin "object.__class__") "__get__" = some (some (.builtin "getset_descriptor.__get__")))
    (xeht_NoNumber : PySem.W.takesIn K (.builtin "object.__class__") = some true)
    (xehm_NoNumber : PySem.W.mroIn K C_NoNumber (.type "object") = some true)
    (xy_NoNumber_NoOrder : PySem.W.kitOne K (.ref C_NoNumber) (.ref C_NoOrder) = some false)
    (xy_NoNumber_NoWay : PySem.W.kitOne K (.ref C_NoNumber) (.ref C_NoWay) = some false)
    (xy_NoNumber_NoFit : PySem.W.kitOne K (.ref C_NoNumber) (.ref C_NoFit) = some false)
    (xy_NoNumber_NoPlace : PySem.W.kitOne K (.ref C_NoNumber) (.ref C_NoPlace) = some false)
    (xy_NoNumber_NoNumber : PySem.W.kitOne K (.ref C_NoNumber) (.ref C_NoNumber) = some true)
    (xy_NoNumber_TooMany : PySem.W.kitOne K (.ref C_NoNumber) (.ref C_TooMany) = some false)
    (xy_NoNumber_NoText : PySem.W.kitOne K (.ref C_NoNumber) (.ref C_NoText) = some false)
    (xy_NoNumber_NoName : PySem.W.kitOne K (.ref C_NoNumber) (.ref C_NoName) = some false)
    (xy_NoNumber_NoRow : PySem.W.kitOne K (.ref C_NoNumber) (.ref C_NoRow) = some false)
    (xq_TooMany : PySem.W.excIn K C_TooMany [.type "ValueError", .type "Exception", .type "BaseException", .type "object"] "ValueError.__new__" = true) (xk_TooMany : PySem.W.keepIn K (.ref C_TooMany) = true) (xt_TooMany : PySem.W.typeIn K (.ref C_TooMany) = some (.type "type")) (xm_TooMany : PySem.W.exmOne K (.ref C_TooMany) (.ref C_OrderError) = some true) (xv_TooMany : PySem.W.kitOne K (.ref C_TooMany) (.type "ValueError") = some true)
    (xehg_TooMany : PySem.W.findIn K (.ref C_TooMany) "__getattribute__" = some (some (.builtin "BaseException.__getattribute__")))
    (xehk_TooMany : PySem.W.findIn K (.ref C_TooMany) "__getattr__" = some none)
    (xehs_TooMany : PySem.W.subIn K (.ref C_TooMany) (.type "BaseException") = some true)
    (xehd_TooMany : PySem.W.hasDictIn K C_TooMany = true)
    (xeha_TooMany : PySem.W.findIn K (.ref C_TooMany) "__class__" = some (some (.builtin "object.__class__")))
    (xehn_TooMany : PySem.W.specialIn K (.builtin "object.__class__") "__get__" = some (some (.builtin "getset_descriptor.__get__")))
    (xeht_TooMany : PySem.W.takesIn K (.builtin "object.__class__") = some true)
    (xehm_TooMany : PySem.W.mroIn K C_TooMany (.type "object") = some true)
    (xy_TooMany_NoOrder : PySem.W.kitOne K (.ref C_TooMany) (.ref C_NoOrder) = some false)
    (xy_TooMany_NoWay : PySem.W.kitOne K (.ref C_TooMany) (.ref C_NoWay) = some false)
    (xy_TooMany_NoFit : PySem.W.kitOne K (.ref C_TooMany) (.ref C_NoFit) = some false)
    (xy_TooMany_NoPlace : PySem.W.kitOne K (.ref C_TooMany) (.ref C_NoPlace) = some false)
    (xy_TooMany_NoNumber : PySem.W.kitOne K (.ref C_TooMany) (.ref C_NoNumber) = some false)
    (xy_TooMany_TooMany : PySem.W.kitOne K (.ref C_TooMany) (.ref C_TooMany) = some true)
    (xy_TooMany_NoText : PySem.W.kitOne K (.ref C_TooMany) (.ref C_NoText) = some false)
    (xy_TooMany_NoName : PySem.W.kitOne K (.ref C_TooMany) (.ref C_NoName) = some false)
    (xy_TooMany_NoRow : PySem.W.kitOne K (.ref C_TooMany) (.ref C_NoRow) = some false)
    (xq_NoText : PySem.W.excIn K C_NoText [.type "ValueError", .type "Exception", .type "BaseException", .type "object"] "ValueError.__new__" = true) (xk_NoText : PySem.W.keepIn K (.ref C_NoText) = true) (xt_NoText : PySem.W.typeIn K (.ref C_NoText) = some (.type "type")) (xm_NoText : PySem.W.exmOne K (.ref C_NoText) (.ref C_OrderError) = some true) (xv_NoText : PySem.W.kitOne K (.ref C_NoText) (.type "ValueError") = some true)
    (xehg_NoText : PySem.W.findIn K (.ref C_NoText) "__getattribute__" = some (some (.builtin "BaseException.__getattribute__")))
    (xehk_NoText : PySem.W.findIn K (.ref C_NoText) "__getattr__" = some none)
    (xehs_NoText : PySem.W.subIn K (.ref C_NoText) (.type "BaseException") = some true)
    (xehd_NoText : PySem.W.hasDictIn K C_NoText = true)
    (xeha_NoText : PySem.W.findIn K (.ref C_NoText) "__class__" = some (some (.builtin "object.__class__")))
    (xehn_NoText : PySem.W.specialIn K (.builtin "object.__class__") "__get__" = some (some (.builtin "getset_descriptor.__get__")))
    (xeht_NoText : PySem.W.takesIn K (.builtin "object.__class__") = some true)
    (xehm_NoText : PySem.W.mroIn K C_NoText (.type "object") = some true)
    (xy_NoText_NoOrder : PySem.W.kitOne K (.ref C_NoText) (.ref C_NoOrder) = some false)
    (xy_NoText_NoWay : PySem.W.kitOne K (.ref C_NoText) (.ref C_NoWay) = some false)
    (xy_NoText_NoFit : PySem.W.kitOne K (.ref C_NoText) (.ref C_NoFit) = some false)
    (xy_NoText_NoPlace : PySem.W.kitOne K (.ref C_NoText) (.ref C_NoPlace) = some false)
    (xy_NoText_NoNumber : PySem.W.kitOne K (.ref C_NoText) (.ref C_NoNumber) = some false)
    (xy_NoText_TooMany : PySem.W.kitOne K (.ref C_NoText) (.ref C_TooMany) = some false)
    (xy_NoText_NoText : PySem.W.kitOne K (.ref C_NoText) (.ref C_NoText) = some true)
    (xy_NoText_NoName : PySem.W.kitOne K (.ref C_NoText) (.ref C_NoName) = some false)
    (xy_NoText_NoRow : PySem.W.kitOne K (.ref C_NoText) (.ref C_NoRow) = some false)
    (xq_NoRow : PySem.W.excIn K C_NoRow [.type "ValueError", .type "Exception", .type "BaseException", .type "object"] "ValueError.__new__" = true) (xk_NoRow : PySem.W.keepIn K (.ref C_NoRow) = true) (xt_NoRow : PySem.W.typeIn K (.ref C_NoRow) = some (.type "type")) (xm_NoRow : PySem.W.exmOne K (.ref C_NoRow) (.ref C_OrderError) = some true) (xv_NoRow : PySem.W.kitOne K (.ref C_NoRow) (.type "ValueError") = some true)
    (xehg_NoRow : PySem.W.findIn K (.ref C_NoRow) "__getattribute__" = some (some (.builtin "BaseException.__getattribute__")))
    (xehk_NoRow : PySem.W.findIn K (.ref C_NoRow) "__getattr__" = some none)
    (xehs_NoRow : PySem.W.subIn K (.ref C_NoRow) (.type "BaseException") = some true)
    (xehd_NoRow : PySem.W.hasDictIn K C_NoRow = true)
    (xeha_NoRow : PySem.W.findIn K (.ref C_NoRow) "__class__" = some (some (.builtin "object.__class__")))
    (xehn_NoRow : PySem.W.specialIn K (.builtin "object.__class__") "__get__" = some (some (.builtin "getset_descriptor.__get__")))
    (xeht_NoRow : PySem.W.takesIn K (.builtin "object.__class__") = some true)
    (xehm_NoRow : PySem.W.mroIn K C_NoRow (.type "object") = some true)
    (xy_NoRow_NoOrder : PySem.W.kitOne K (.ref C_NoRow) (.ref C_NoOrder) = some false)
    (xy_NoRow_NoWay : PySem.W.kitOne K (.ref C_NoRow) (.ref C_NoWay) = some false)
    (xy_NoRow_NoFit : PySem.W.kitOne K (.ref C_NoRow) (.ref C_NoFit) = some false)
    (xy_NoRow_NoPlace : PySem.W.kitOne K (.ref C_NoRow) (.ref C_NoPlace) = some false)
    (xy_NoRow_NoNumber : PySem.W.kitOne K (.ref C_NoRow) (.ref C_NoNumber) = some false)
    (xy_NoRow_TooMany : PySem.W.kitOne K (.ref C_NoRow) (.ref C_TooMany) = some false)
    (xy_NoRow_NoText : PySem.W.kitOne K (.ref C_NoRow) (.ref C_NoText) = some false)
    (xy_NoRow_NoName : PySem.W.kitOne K (.ref C_NoRow) (.ref C_NoName) = some false)
    (xy_NoRow_NoRow : PySem.W.kitOne K (.ref C_NoRow) (.ref C_NoRow) = some true)
    (z_ValueError : PySem.W.nsIn K mainGlobals "ValueError" = some none)
    (z_abs : PySem.W.nsIn K mainGlobals "abs" = some none)
    (z_all : PySem.W.nsIn K mainGlobals "all" = some none)
    (z_bool : PySem.W.nsIn K mainGlobals "bool" = some none)
    (z_enumerate : PySem.W.nsIn K mainGlobals "enumerate" = some none)
    (z_int : PySem.W.nsIn K mainGlobals "int" = some none)
    (z_isinstance : PySem.W.nsIn K mainGlobals "isinstance" = some none)
    (z_len : PySem.W.nsIn K mainGlobals "len" = some none)
    (z_list : PySem.W.nsIn K mainGlobals "list" = some none)
    (z_max : PySem.W.nsIn K mainGlobals "max" = some none)
    (z_min : PySem.W.nsIn K mainGlobals "min" = some none)
    (z_range : PySem.W.nsIn K mainGlobals "range" = some none)
    (z_sorted : PySem.W.nsIn K mainGlobals "sorted" = some none)
    (z_str : PySem.W.nsIn K mainGlobals "str" = some none)
    (z_sum : PySem.W.nsIn K mainGlobals "sum" = some none)
    (z_tuple : PySem.W.nsIn K mainGlobals "tuple" = some none)
    (z_zip : PySem.W.nsIn K mainGlobals "zip" = some none)
    {tc_is_far tp_is_far : Addr} {to_is_far : Value} {td_is_far : Option Addr} {tv_is_far : Array Value} {ts_is_far : Array (Option Value)}
    (e_is_far : cd21 = .ref tc_is_far) (u_is_far : K.lookup tc_is_far = some ⟨to_is_far, td_is_far, .fields tv_is_far, ts_is_far⟩) (v_is_far : tv_is_far[11]? = some (.ref tp_is_far)) (n_is_far : K.lookup tp_is_far = none)
    (tabs : ∀ y ∈ ["is_far"], ∀ c P, PySem.W.tabIn K y = some (c, P) → PySem.W.CodeHd h c P ∧ h.get? P = some { cls := .none, data := .fields #[] })
    : LamX.LawAtS l w K CX0 40 63 "script" mg fa h := by
  have e := hfa.symm.trans (PySem.W.mg_of X G a82)
  cases e
  have t_is_far := tab_mk a21 l21 e_is_far u_is_far v_is_far
  have F0 := fun_mk (st := s_is_whole) l0 c0 k0
  have F1 := fun_mk (st := s_check_way) l1 c1 k1
  have F2 := fun_mk (st := s_check_from) l2 c2 k2
  have F3 := fun_mk (st := s_check_size) l3 c3 k3
  have F4 := fun_mk (st := s_check_few) l4 c4 k4
  have F5 := fun_mk (st := s_check_apart) l5 c5 k5
  have F6 := fun_mk (st := s_is_order) l6 c6 k6
  have F7 := fun_mk (st := s_check_order) l7 c7 k7
  have F8 := fun_mk (st := s_check_fit) l8 c8 k8
  have F9 := fun_mk (st := s_check_listed) l9 c9 k9
  have F10 := fun_mk (st := s_is_order_list) l10 c10 k10
  have F11 := fun_mk (st := s_is_unlike_list) l11 c11 k11
  have F12 := fun_mk (st := s_places_in) l12 c12 k12
  have F13 := fun_mk (st := s_seats_in) l13 c13 k13
  have F14 := fun_mk (st := s_known_far) l14 c14 k14
  have F15 := fun_mk (st := s_far_by_swap) l15 c15 k15
  have F16 := fun_mk (st := s_far_by_spot) l16 c16 k16
  have F17 := fun_mk (st := s_far_by_shift) l17 c17 k17
  have F18 := fun_mk (st := s_all_orders) l18 c18 k18
  have F19 := fun_mk (st := s_orders_with) l19 c19 k19
  have F20 := fun_mk (st := s_count_orders) l20 c20 k20
  have F21 := fun_mk (st := s_is_far) l21 c21 k21
  have F22 := fun_mk (st := s_known_within) l22 c22 k22
  have F23 := fun_mk (st := s_swap_counts) l23 c23 k23
  have F24 := fun_mk (st := s_swap_counts_with_one_more) l24 c24 k24
  have F25 := fun_mk (st := s_spot_counts) l25 c25 k25
  have F26 := fun_mk (st := s_count_all_moved) l26 c26 k26
  have F27 := fun_mk (st := s_shift_within) l27 c27 k27
  have F28 := fun_mk (st := s_things_near) l28 c28 k28
  have F29 := fun_mk (st := s_one_place_further) l29 c29 k29
  have F30 := fun_mk (st := s_bounds_by_rounds) l30 c30 k30
  have F31 := fun_mk (st := s_check_many) l31 c31 k31
  have F32 := fun_mk (st := s_check_poll) l32 c32 k32
  have F33 := fun_mk (st := s_known_sum) l33 c33 k33
  have F34 := fun_mk (st := s_middle_of) l34 c34 k34
  have F35 := fun_mk (st := s_middle_by_all) l35 c35 k35
  have F36 := fun_mk (st := s_middle_by_pairs) l36 c36 k36
  have F37 := fun_mk (st := s_best_first) l37 c37 k37
  have F38 := fun_mk (st := s_least_sums) l38 c38 k38
  have F39 := fun_mk (st := s_sum_with_first) l39 c39 k39
  have F40 := fun_mk (st := s_things_in) l40 c40 k40
  have F41 := fun_mk (st := s_counts_ahead) l41 c41 k41
  have F42 := fun_mk (st := s_nearest_of) l42 c42 k42
  have F43 := fun_mk (st := s_check_led) l43 c43 k43
  have F44 := fun_mk (st := s_check_unlike_list) l44 c44 k44
  have F45 := fun_mk (st := s_those_within) l45 c45 k45
  have F46 := fun_mk (st := s_not_sure) l46 c46 k46
  have F47 := fun_mk (st := s_check_sure) l47 c47 k47
  have F48 := fun_mk (st := s_show_order) l48 c48 k48
  have F49 := fun_mk (st := s_written) l49 c49 k49
  have F50 := fun_mk (st := s_show_orders) l50 c50 k50
  have F51 := fun_mk (st := s_read_order) l51 c51 k51
  have F52 := fun_mk (st := s_check_text) l52 c52 k52
  have F53 := fun_mk (st := s_number_in) l53 c53 k53
  have F54 := fun_mk (st := s_undo_last) l54 c54 k54
  have F55 := fun_mk (st := s_tell_list) l55 c55 k55
  have F56 := fun_mk (st := s_tell_apart) l56 c56 k56
  have F57 := fun_mk (st := s_tell_room) l57 c57 k57
  have F58 := fun_mk (st := s_tell_first) l58 c58 k58
  have F59 := fun_mk (st := s_tell_bounds) l59 c59 k59
  have F60 := fun_mk (st := s_tell_middle) l60 c60 k60
  have F61 := fun_mk (st := s_let_come) l61 c61 k61
  have F62 := fun_mk (st := s_let_drop) l62 c62 k62
  have F63 := fun_mk (st := s_tell_near) l63 c63 k63
  have F64 := fun_mk (st := s_tell_sure) l64 c64 k64
  have F65 := fun_mk (st := s_read_number) l65 c65 k65
  have F66 := fun_mk (st := s_law_pool) l66 c66 k66
  have F67 := fun_mk (st := s_law_draw) l67 c67 k67
  have F68 := fun_mk (st := s_law_order) l68 c68 k68
  have F69 := fun_mk (st := s_law_far) l69 c69 k69
  have F70 := fun_mk (st := s_law_written) l70 c70 k70
  have F71 := fun_mk (st := s_law_list_written) l71 c71 k71
  have F72 := fun_mk (st := s_law_said) l72 c72 k72
  have F73 := fun_mk (st := s_law_no_row) l73 c73 k73
  have F74 := fun_mk (st := s_law_no_way) l74 c74 k74
  have F75 := fun_mk (st := s_law_no_number) l75 c75 k75
  have F76 := fun_mk (st := s_law_no_text) l76 c76 k76
  have F77 := fun_mk (st := s_law_else) l77 c77 k77
  have F78 := fun_mk (st := s_law_all_of_four) l78 c78 k78
  have F79 := fun_mk (st := s_law_made) l79 c79 k79
  have F80 := fun_mk (st := s_law_stands) l80 c80 k80
  have F81 := fun_mk (st := s_law_goes_on) l81 c81 k81
  have F82 := fun_mk (st := s_law) l82 c82 k82
  have T_is_whole : Df K mg "is_whole" s_is_whole ["thing"] f0 _ := ⟨F0, F0.binds (ps := ["thing"]) (fun _ _ _ _ _ _ => us_1 (fun _ => rfl)), PySem.W.mg_of X G a0⟩
  have T_check_way : Df K mg "check_way" s_check_way ["thing"] f1 _ := ⟨F1, F1.binds (ps := ["thing"]) (fun _ _ _ _ _ _ => us_1 (fun _ => rfl)), PySem.W.mg_of X G a1⟩
  have T_check_from : Df K mg "check_from" s_check_from ["thing", "least"] f2 _ := ⟨F2, F2.binds (ps := ["thing", "least"]) (fun _ _ _ _ _ _ => us_2 (fun _ _ => rfl)), PySem.W.mg_of X G a2⟩
  have T_check_size : Df K mg "check_size" s_check_size ["thing", "most"] f3 _ := ⟨F3, F3.binds (ps := ["thing", "most"]) (fun _ _ _ _ _ _ => us_2 (fun _ _ => rfl)), PySem.W.mg_of X G a3⟩
  have T_check_few : Df K mg "check_few" s_check_few ["n", "most"] f4 _ := ⟨F4, F4.binds (ps := ["n", "most"]) (fun _ _ _ _ _ _ => us_2 (fun _ _ => rfl)), PySem.W.mg_of X G a4⟩
  have T_check_apart : Df K mg "check_apart" s_check_apart ["way", "n", "most", "d"] f5 _ := ⟨F5, F5.binds (ps := ["way", "n", "most", "d"]) (fun _ _ _ _ _ _ => us_4 (fun _ _ _ _ => rfl)), PySem.W.mg_of X G a5⟩
  have T_is_order : Df K mg "is_order" s_is_order ["thing"] f6 _ := ⟨F6, F6.binds (ps := ["thing"]) (fun _ _ _ _ _ _ => us_1 (fun _ => rfl)), PySem.W.mg_of X G a6⟩
  have T_check_order : Df K mg "check_order" s_check_order ["thing"] f7 _ := ⟨F7, F7.binds (ps := ["thing"]) (fun _ _ _ _ _ _ => us_1 (fun _ => rfl)), PySem.W.mg_of X G a7⟩
  have T_check_fit : Df K mg "check_fit" s_check_fit ["one", "other"] f8 _ := ⟨F8, F8.binds (ps := ["one", "other"]) (fun _ _ _ _ _ _ => us_2 (fun _ _ => rfl)), PySem.W.mg_of X G a8⟩
  have T_check_listed : Df K mg "check_listed" s_check_listed ["order"] f9 _ := ⟨F9, F9.binds (ps := ["order"]) (fun _ _ _ _ _ _ => us_1 (fun _ => rfl)), PySem.W.mg_of X G a9⟩
  have T_is_order_list : Df K mg "is_order_list" s_is_order_list ["thing"] f10 _ := ⟨F10, F10.binds (ps := ["thing"]) (fun _ _ _ _ _ _ => us_1 (fun _ => rfl)), PySem.W.mg_of X G a10⟩
  have T_is_unlike_list : Df K mg "is_unlike_list" s_is_unlike_list ["thing"] f11 _ := ⟨F11, F11.binds (ps := ["thing"]) (fun _ _ _ _ _ _ => us_1 (fun _ => rfl)), PySem.W.mg_of X G a11⟩
  have T_places_in : Df K mg "places_in" s_places_in ["order"] f12 _ := ⟨F12, F12.binds (ps := ["order"]) (fun _ _ _ _ _ _ => us_1 (fun _ => rfl)), PySem.W.mg_of X G a12⟩
  have T_seats_in : Df K mg "seats_in" s_seats_in ["one", "other"] f13 _ := ⟨F13, F13.binds (ps := ["one", "other"]) (fun _ _ _ _ _ _ => us_2 (fun _ _ => rfl)), PySem.W.mg_of X G a13⟩
  have T_known_far : Df K mg "known_far" s_known_far ["way", "one", "other"] f14 _ := ⟨F14, F14.binds (ps := ["way", "one", "other"]) (fun _ _ _ _ _ _ => us_3 (fun _ _ _ => rfl)), PySem.W.mg_of X G a14⟩
  have T_far_by_swap : Df K mg "far_by_swap" s_far_by_swap ["one", "other"] f15 _ := ⟨F15, F15.binds (ps := ["one", "other"]) (fun _ _ _ _ _ _ => us_2 (fun _ _ => rfl)), PySem.W.mg_of X G a15⟩
  have T_far_by_spot : Df K mg "far_by_spot" s_far_by_spot ["one", "other"] f16 _ := ⟨F16, F16.binds (ps := ["one", "other"]) (fun _ _ _ _ _ _ => us_2 (fun _ _ => rfl)), PySem.W.mg_of X G a16⟩
  have T_far_by_shift : Df K mg "far_by_shift" s_far_by_shift ["one", "other"] f17 _ := ⟨F17, F17.binds (ps := ["one", "other"]) (fun _ _ _ _ _ _ => us_2 (fun _ _ => rfl)), PySem.W.mg_of X G a17⟩
  have T_all_orders : Df K mg "all_orders" s_all_orders ["n"] f18 _ := ⟨F18, F18.binds (ps := ["n"]) (fun _ _ _ _ _ _ => us_1 (fun _ => rfl)), PySem.W.mg_of X G a18⟩
  have T_orders_with : Df K mg "orders_with" s_orders_with ["choices"] f19 _ := ⟨F19, F19.binds (ps := ["choices"]) (fun _ _ _ _ _ _ => us_1 (fun _ => rfl)), PySem.W.mg_of X G a19⟩
  have T_count_orders : Df K mg "count_orders" s_count_orders ["n"] f20 _ := ⟨F20, F20.binds (ps := ["n"]) (fun _ _ _ _ _ _ => us_1 (fun _ => rfl)), PySem.W.mg_of X G a20⟩
  have T_is_far : DfC K mg "is_far" s_is_far ["way", "d", "order", "others"] f21 _ tc_is_far := ⟨F21, F21.binds (ps := ["way", "d", "order", "others"]) (fun _ _ _ _ _ _ => us_4 (fun _ _ _ _ => rfl)), PySem.W.mg_of X G a21, tab_code t_is_far a21 l21⟩
  have T_known_within : Df K mg "known_within" s_known_within ["way", "n", "r"] f22 _ := ⟨F22, F22.binds (ps := ["way", "n", "r"]) (fun _ _ _ _ _ _ => us_3 (fun _ _ _ => rfl)), PySem.W.mg_of X G a22⟩
  have T_swap_counts : Df K mg "swap_counts" s_swap_counts ["n"] f23 _ := ⟨F23, F23.binds (ps := ["n"]) (fun _ _ _ _ _ _ => us_1 (fun _ => rfl)), PySem.W.mg_of X G a23⟩
  have T_swap_counts_with_one_more : Df K mg "swap_counts_with_one_more" s_swap_counts_with_one_more ["counts", "behind"] f24 _ := ⟨F24, F24.binds (ps := ["counts", "behind"]) (fun _ _ _ _ _ _ => us_2 (fun _ _ => rfl)), PySem.W.mg_of X G a24⟩
  have T_spot_counts : Df K mg "spot_counts" s_spot_counts ["n"] f25 _ := ⟨F25, F25.binds (ps := ["n"]) (fun _ _ _ _ _ _ => us_1 (fun _ => rfl)), PySem.W.mg_of X G a25⟩
  have T_count_all_moved : Df K mg "count_all_moved" s_count_all_moved ["n"] f26 _ := ⟨F26, F26.binds (ps := ["n"]) (fun _ _ _ _ _ _ => us_1 (fun _ => rfl)), PySem.W.mg_of X G a26⟩
  have T_shift_within : Df K mg "shift_within" s_shift_within ["n", "r"] f27 _ := ⟨F27, F27.binds (ps := ["n", "r"]) (fun _ _ _ _ _ _ => us_2 (fun _ _ => rfl)), PySem.W.mg_of X G a27⟩
  have T_things_near : Df K mg "things_near" s_things_near ["place", "n", "r"] f28 _ := ⟨F28, F28.binds (ps := ["place", "n", "r"]) (fun _ _ _ _ _ _ => us_3 (fun _ _ _ => rfl)), PySem.W.mg_of X G a28⟩
  have T_one_place_further : Df K mg "one_place_further" s_one_place_further ["beginnings", "near"] f29 _ := ⟨F29, F29.binds (ps := ["beginnings", "near"]) (fun _ _ _ _ _ _ => us_2 (fun _ _ => rfl)), PySem.W.mg_of X G a29⟩
  have T_bounds_by_rounds : Df K mg "bounds_by_rounds" s_bounds_by_rounds ["way", "n", "d"] f30 _ := ⟨F30, F30.binds (ps := ["way", "n", "d"]) (fun _ _ _ _ _ _ => us_3 (fun _ _ _ => rfl)), PySem.W.mg_of X G a30⟩
  have T_check_many : Df K mg "check_many" s_check_many ["many"] f31 _ := ⟨F31, F31.binds (ps := ["many"]) (fun _ _ _ _ _ _ => us_1 (fun _ => rfl)), PySem.W.mg_of X G a31⟩
  have T_check_poll : Df K mg "check_poll" s_check_poll ["thing"] f32 _ := ⟨F32, F32.binds (ps := ["thing"]) (fun _ _ _ _ _ _ => us_1 (fun _ => rfl)), PySem.W.mg_of X G a32⟩
  have T_known_sum : Df K mg "known_sum" s_known_sum ["way", "poll", "order"] f33 _ := ⟨F33, F33.binds (ps := ["way", "poll", "order"]) (fun _ _ _ _ _ _ => us_3 (fun _ _ _ => rfl)), PySem.W.mg_of X G a33⟩
  have T_middle_of : Df K mg "middle_of" s_middle_of ["way", "poll"] f34 _ := ⟨F34, F34.binds (ps := ["way", "poll"]) (fun _ _ _ _ _ _ => us_2 (fun _ _ => rfl)), PySem.W.mg_of X G a34⟩
  have T_middle_by_all : Df K mg "middle_by_all" s_middle_by_all ["way", "poll", "n"] f35 _ := ⟨F35, F35.binds (ps := ["way", "poll", "n"]) (fun _ _ _ _ _ _ => us_3 (fun _ _ _ => rfl)), PySem.W.mg_of X G a35⟩
  have T_middle_by_pairs : Df K mg "middle_by_pairs" s_middle_by_pairs ["ahead"] f36 _ := ⟨F36, F36.binds (ps := ["ahead"]) (fun _ _ _ _ _ _ => us_1 (fun _ => rfl)), PySem.W.mg_of X G a36⟩
  have T_best_first : Df K mg "best_first" s_best_first ["left", "ahead", "sums"] f37 _ := ⟨F37, F37.binds (ps := ["left", "ahead", "sums"]) (fun _ _ _ _ _ _ => us_3 (fun _ _ _ => rfl)), PySem.W.mg_of X G a37⟩
  have T_least_sums : Df K mg "least_sums" s_least_sums ["ahead"] f38 _ := ⟨F38, F38.binds (ps := ["ahead"]) (fun _ _ _ _ _ _ => us_1 (fun _ => rfl)), PySem.W.mg_of X G a38⟩
  have T_sum_with_first : Df K mg "sum_with_first" s_sum_with_first ["thing", "left", "ahead", "sums"] f39 _ := ⟨F39, F39.binds (ps := ["thing", "left", "ahead", "sums"]) (fun _ _ _ _ _ _ => us_4 (fun _ _ _ _ => rfl)), PySem.W.mg_of X G a39⟩
  have T_things_in : Df K mg "things_in" s_things_in ["left", "ahead"] f40 _ := ⟨F40, F40.binds (ps := ["left", "ahead"]) (fun _ _ _ _ _ _ => us_2 (fun _ _ => rfl)), PySem.W.mg_of X G a40⟩
  have T_counts_ahead : Df K mg "counts_ahead" s_counts_ahead ["poll"] f41 _ := ⟨F41, F41.binds (ps := ["poll"]) (fun _ _ _ _ _ _ => us_1 (fun _ => rfl)), PySem.W.mg_of X G a41⟩
  have T_nearest_of : Df K mg "nearest_of" s_nearest_of ["way", "order", "orders"] f42 _ := ⟨F42, F42.binds (ps := ["way", "order", "orders"]) (fun _ _ _ _ _ _ => us_3 (fun _ _ _ => rfl)), PySem.W.mg_of X G a42⟩
  have T_check_led : Df K mg "check_led" s_check_led ["way", "order", "orders"] f43 _ := ⟨F43, F43.binds (ps := ["way", "order", "orders"]) (fun _ _ _ _ _ _ => us_3 (fun _ _ _ => rfl)), PySem.W.mg_of X G a43⟩
  have T_check_unlike_list : Df K mg "check_unlike_list" s_check_unlike_list ["thing"] f44 _ := ⟨F44, F44.binds (ps := ["thing"]) (fun _ _ _ _ _ _ => us_1 (fun _ => rfl)), PySem.W.mg_of X G a44⟩
  have T_those_within : Df K mg "those_within" s_those_within ["way", "order", "orders", "r"] f45 _ := ⟨F45, F45.binds (ps := ["way", "order", "orders", "r"]) (fun _ _ _ _ _ _ => us_4 (fun _ _ _ _ => rfl)), PySem.W.mg_of X G a45⟩
  have T_not_sure : Df K mg "not_sure" s_not_sure ["way", "orders", "e"] f46 _ := ⟨F46, F46.binds (ps := ["way", "orders", "e"]) (fun _ _ _ _ _ _ => us_3 (fun _ _ _ => rfl)), PySem.W.mg_of X G a46⟩
  have T_check_sure : Df K mg "check_sure" s_check_sure ["way", "orders", "e"] f47 _ := ⟨F47, F47.binds (ps := ["way", "orders", "e"]) (fun _ _ _ _ _ _ => us_3 (fun _ _ _ => rfl)), PySem.W.mg_of X G a47⟩
  have T_show_order : Df K mg "show_order" s_show_order ["order"] f48 _ := ⟨F48, F48.binds (ps := ["order"]) (fun _ _ _ _ _ _ => us_1 (fun _ => rfl)), PySem.W.mg_of X G a48⟩
  have T_written : Df K mg "written" s_written ["order"] f49 _ := ⟨F49, F49.binds (ps := ["order"]) (fun _ _ _ _ _ _ => us_1 (fun _ => rfl)), PySem.W.mg_of X G a49⟩
  have T_show_orders : Df K mg "show_orders" s_show_orders ["orders"] f50 _ := ⟨F50, F50.binds (ps := ["orders"]) (fun _ _ _ _ _ _ => us_1 (fun _ => rfl)), PySem.W.mg_of X G a50⟩
  have T_read_order : Df K mg "read_order" s_read_order ["text"] f51 _ := ⟨F51, F51.binds (ps := ["text"]) (fun _ _ _ _ _ _ => us_1 (fun _ => rfl)), PySem.W.mg_of X G a51⟩
  have T_check_text : Df K mg "check_text" s_check_text ["thing"] f52 _ := ⟨F52, F52.binds (ps := ["thing"]) (fun _ _ _ _ _ _ => us_1 (fun _ => rfl)), PySem.W.mg_of X G a52⟩
  have T_number_in : Df K mg "number_in" s_number_in ["word", "many"] f53 _ := ⟨F53, F53.binds (ps := ["word", "many"]) (fun _ _ _ _ _ _ => us_2 (fun _ _ => rfl)), PySem.W.mg_of X G a53⟩
  have T_undo_last : Df K mg "undo_last" s_undo_last ["lister"] f54 _ := ⟨F54, F54.binds (ps := ["lister"]) (fun _ _ _ _ _ _ => us_1 (fun _ => rfl)), PySem.W.mg_of X G a54⟩
  have T_tell_list : Df K mg "tell_list" s_tell_list ["lister"] f55 _ := ⟨F55, F55.binds (ps := ["lister"]) (fun _ _ _ _ _ _ => us_1 (fun _ => rfl)), PySem.W.mg_of X G a55⟩
  have T_tell_apart : Df K mg "tell_apart" s_tell_apart ["lister"] f56 _ := ⟨F56, F56.binds (ps := ["lister"]) (fun _ _ _ _ _ _ => us_1 (fun _ => rfl)), PySem.W.mg_of X G a56⟩
  have T_tell_room : Df K mg "tell_room" s_tell_room ["lister"] f57 _ := ⟨F57, F57.binds (ps := ["lister"]) (fun _ _ _ _ _ _ => us_1 (fun _ => rfl)), PySem.W.mg_of X G a57⟩
  have T_tell_first : Df K mg "tell_first" s_tell_first ["lister"] f58 _ := ⟨F58, F58.binds (ps := ["lister"]) (fun _ _ _ _ _ _ => us_1 (fun _ => rfl)), PySem.W.mg_of X G a58⟩
  have T_tell_bounds : Df K mg "tell_bounds" s_tell_bounds ["lister"] f59 _ := ⟨F59, F59.binds (ps := ["lister"]) (fun _ _ _ _ _ _ => us_1 (fun _ => rfl)), PySem.W.mg_of X G a59⟩
  have T_tell_middle : Df K mg "tell_middle" s_tell_middle ["lister"] f60 _ := ⟨F60, F60.binds (ps := ["lister"]) (fun _ _ _ _ _ _ => us_1 (fun _ => rfl)), PySem.W.mg_of X G a60⟩
  have T_let_come : Df K mg "let_come" s_let_come ["lister", "order"] f61 _ := ⟨F61, F61.binds (ps := ["lister", "order"]) (fun _ _ _ _ _ _ => us_2 (fun _ _ => rfl)), PySem.W.mg_of X G a61⟩
  have T_let_drop : Df K mg "let_drop" s_let_drop ["lister", "order"] f62 _ := ⟨F62, F62.binds (ps := ["lister", "order"]) (fun _ _ _ _ _ _ => us_2 (fun _ _ => rfl)), PySem.W.mg_of X G a62⟩
  have T_tell_near : Df K mg "tell_near" s_tell_near ["lister", "order"] f63 _ := ⟨F63, F63.binds (ps := ["lister", "order"]) (fun _ _ _ _ _ _ => us_2 (fun _ _ => rfl)), PySem.W.mg_of X G a63⟩
  have T_tell_sure : Df K mg "tell_sure" s_tell_sure ["lister", "e"] f64 _ := ⟨F64, F64.binds (ps := ["lister", "e"]) (fun _ _ _ _ _ _ => us_2 (fun _ _ => rfl)), PySem.W.mg_of X G a64⟩
  have T_read_number : Df K mg "read_number" s_read_number ["word"] f65 _ := ⟨F65, F65.binds (ps := ["word"]) (fun _ _ _ _ _ _ => us_1 (fun _ => rfl)), PySem.W.mg_of X G a65⟩
  have T__law_pool : Df K mg "_law_pool" s_law_pool ["script", "k"] f66 _ := ⟨F66, F66.binds (ps := ["script", "k"]) (fun _ _ _ _ _ _ => us_2 (fun _ _ => rfl)), PySem.W.mg_of X G a66⟩
  have T__law_draw : Df K mg "_law_draw" s_law_draw ["pool", "many"] f67 _ := ⟨F67, F67.binds (ps := ["pool", "many"]) (fun _ _ _ _ _ _ => us_2 (fun _ _ => rfl)), PySem.W.mg_of X G a67⟩
  have T__law_order : Df K mg "_law_order" s_law_order ["pool", "n"] f68 _ := ⟨F68, F68.binds (ps := ["pool", "n"]) (fun _ _ _ _ _ _ => us_2 (fun _ _ => rfl)), PySem.W.mg_of X G a68⟩
  have T__law_far : Df K mg "_law_far" s_law_far ["way", "one", "other"] f69 _ := ⟨F69, F69.binds (ps := ["way", "one", "other"]) (fun _ _ _ _ _ _ => us_3 (fun _ _ _ => rfl)), PySem.W.mg_of X G a69⟩
  have T__law_written : Df K mg "_law_written" s_law_written ["order"] f70 _ := ⟨F70, F70.binds (ps := ["order"]) (fun _ _ _ _ _ _ => us_1 (fun _ => rfl)), PySem.W.mg_of X G a70⟩
  have T__law_list_written : Df K mg "_law_list_written" s_law_list_written ["orders"] f71 _ := ⟨F71, F71.binds (ps := ["orders"]) (fun _ _ _ _ _ _ => us_1 (fun _ => rfl)), PySem.W.mg_of X G a71⟩
  have T__law_said : Df K mg "_law_said" s_law_said ["desk", "row"] f72 _ := ⟨F72, F72.binds (ps := ["desk", "row"]) (fun _ _ _ _ _ _ => us_2 (fun _ _ => rfl)), PySem.W.mg_of X G a72⟩
  have T__law_no_row : Df K mg "_law_no_row" s_law_no_row ["pool"] f73 _ := ⟨F73, F73.binds (ps := ["pool"]) (fun _ _ _ _ _ _ => us_1 (fun _ => rfl)), PySem.W.mg_of X G a73⟩
  have T__law_no_way : Df K mg "_law_no_way" s_law_no_way ["pool"] f74 _ := ⟨F74, F74.binds (ps := ["pool"]) (fun _ _ _ _ _ _ => us_1 (fun _ => rfl)), PySem.W.mg_of X G a74⟩
  have T__law_no_number : Df K mg "_law_no_number" s_law_no_number ["pool"] f75 _ := ⟨F75, F75.binds (ps := ["pool"]) (fun _ _ _ _ _ _ => us_1 (fun _ => rfl)), PySem.W.mg_of X G a75⟩
  have T__law_no_text : Df K mg "_law_no_text" s_law_no_text ["pool"] f76 _ := ⟨F76, F76.binds (ps := ["pool"]) (fun _ _ _ _ _ _ => us_1 (fun _ => rfl)), PySem.W.mg_of X G a76⟩
  have T__law_else : Df K mg "_law_else" s_law_else ["pool", "at"] f77 _ := ⟨F77, F77.binds (ps := ["pool", "at"]) (fun _ _ _ _ _ _ => us_2 (fun _ _ => rfl)), PySem.W.mg_of X G a77⟩
  have T__law_all_of_four : Df K mg "_law_all_of_four" s_law_all_of_four [] f78 _ := ⟨F78, F78.binds (ps := []) (fun _ _ _ _ _ _ => us_0 rfl), PySem.W.mg_of X G a78⟩
  have T__law_made : Df K mg "_law_made" s_law_made ["pool", "way", "n", "many"] f79 _ := ⟨F79, F79.binds (ps := ["pool", "way", "n", "many"]) (fun _ _ _ _ _ _ => us_4 (fun _ _ _ _ => rfl)), PySem.W.mg_of X G a79⟩
  have T__law_stands : Df K mg "_law_stands" s_law_stands ["desk", "way", "orders"] f80 _ := ⟨F80, F80.binds (ps := ["desk", "way", "orders"]) (fun _ _ _ _ _ _ => us_3 (fun _ _ _ => rfl)), PySem.W.mg_of X G a80⟩
  have T__law_goes_on : Df K mg "_law_goes_on" s_law_goes_on ["desk", "orders"] f81 _ := ⟨F81, F81.binds (ps := ["desk", "orders"]) (fun _ _ _ _ _ _ => us_2 (fun _ _ => rfl)), PySem.W.mg_of X G a81⟩
  have Fm0 := fun_mk (st := s_Lister___init__) lm0 cm0 km0
  have T_Lister_init : Dm K C_Lister "__init__" "Lister.__init__" s_Lister___init__ ["self", "way", "n", "d"] fm0 _ := ⟨Fm0, Fm0.binds (ps := ["self", "way", "n", "d"]) (fun _ _ _ _ _ _ => us_4 (fun _ _ _ _ => rfl)), am0, im0⟩
  have Fm1 := fun_mk (st := s_Lister_come) lm1 cm1 km1
  have T_Lister_come : Dm K C_Lister "come" "Lister.come" s_Lister_come ["self", "order"] fm1 _ := ⟨Fm1, Fm1.binds (ps := ["self", "order"]) (fun _ _ _ _ _ _ => us_2 (fun _ _ => rfl)), am1, im1⟩
  have Fm2 := fun_mk (st := s_Lister_drop) lm2 cm2 km2
  have T_Lister_drop : Dm K C_Lister "drop" "Lister.drop" s_Lister_drop ["self", "order"] fm2 _ := ⟨Fm2, Fm2.binds (ps := ["self", "order"]) (fun _ _ _ _ _ _ => us_2 (fun _ _ => rfl)), am2, im2⟩
  have Fm3 := fun_mk (st := s_Lister_change_to) lm3 cm3 km3
  have T_Lister_change_to : Dm K C_Lister "change_to" "Lister.change_to" s_Lister_change_to ["self", "orders"] fm3 _ := ⟨Fm3, Fm3.binds (ps := ["self", "orders"]) (fun _ _ _ _ _ _ => us_2 (fun _ _ => rfl)), am3, im3⟩
  have Fm4 := fun_mk (st := s_Lister_undo) lm4 cm4 km4
  have T_Lister_undo : Dm K C_Lister "undo" "Lister.undo" s_Lister_undo ["self"] fm4 _ := ⟨Fm4, Fm4.binds (ps := ["self"]) (fun _ _ _ _ _ _ => us_1 (fun _ => rfl)), am4, im4⟩
  have Fm5 := fun_mk (st := s_Lister_orders) lm5 cm5 km5
  have T_Lister_orders : Dm K C_Lister "orders" "Lister.orders" s_Lister_orders ["self"] fm5 _ := ⟨Fm5, Fm5.binds (ps := ["self"]) (fun _ _ _ _ _ _ => us_1 (fun _ => rfl)), am5, im5⟩
  have Fm6 := fun_mk (st := s_Lister_least_apart) lm6 cm6 km6
  have T_Lister_least_apart : Dm K C_Lister "least_apart" "Lister.least_apart" s_Lister_least_apart ["self"] fm6 _ := ⟨Fm6, Fm6.binds (ps := ["self"]) (fun _ _ _ _ _ _ => us_1 (fun _ => rfl)), am6, im6⟩
  have Fm7 := fun_mk (st := s_Lister_first_more) lm7 cm7 km7
  have T_Lister_first_more : Dm K C_Lister "first_more" "Lister.first_more" s_Lister_first_more ["self"] fm7 _ := ⟨Fm7, Fm7.binds (ps := ["self"]) (fun _ _ _ _ _ _ => us_1 (fun _ => rfl)), am7, im7⟩
  have Fm8 := fun_mk (st := s_Lister_how_many_more) lm8 cm8 km8
  have T_Lister_how_many_more : Dm K C_Lister "how_many_more" "Lister.how_many_more" s_Lister_how_many_more ["self"] fm8 _ := ⟨Fm8, Fm8.binds (ps := ["self"]) (fun _ _ _ _ _ _ => us_1 (fun _ => rfl)), am8, im8⟩
  have T_Lister : TxL K mg C_Lister fm0 := ⟨⟨pgC, hdC, poC, saC⟩, ⟨mkC, am0, im0, kcC⟩, PySem.W.mg_of X G aC_Lister, nf_way, nf_n, nf_d, nf_taken, nf_earlier⟩
  have Fc1_m0 := fun_mk (st := s_Desk___init__) lc1_m0 cc1_m0 kc1_m0
  have T_Desk_init : Dm K C_Desk "__init__" "Desk.__init__" s_Desk___init__ ["self"] fc1_m0 _ := ⟨Fc1_m0, Fc1_m0.binds (ps := ["self"]) (fun _ _ _ _ _ _ => us_1 (fun _ => rfl)), ac1_m0, ic1_m0⟩
  have Fc1_m1 := fun_mk (st := s_Desk_say) lc1_m1 cc1_m1 kc1_m1
  have T_Desk_say : Dm K C_Desk "say" "Desk.say" s_Desk_say ["self", "row"] fc1_m1 _ := ⟨Fc1_m1, Fc1_m1.binds (ps := ["self", "row"]) (fun _ _ _ _ _ _ => us_2 (fun _ _ => rfl)), ac1_m1, ic1_m1⟩
  have Fc1_m2 := fun_mk (st := s_Desk_say_with_numbers) lc1_m2 cc1_m2 kc1_m2
  have T_Desk_say_with_numbers : Dm K C_Desk "say_with_numbers" "Desk.say_with_numbers" s_Desk_say_with_numbers ["self", "words"] fc1_m2 _ := ⟨Fc1_m2, Fc1_m2.binds (ps := ["self", "words"]) (fun _ _ _ _ _ _ => us_2 (fun _ _ => rfl)), ac1_m2, ic1_m2⟩
  have T_Desk : TxD K mg C_Desk fc1_m0 := ⟨⟨pgCc1_, hdCc1_, poCc1_, saCc1_⟩, ⟨mkCc1_, ac1_m0, ic1_m0, kcCc1_⟩, PySem.W.mg_of X G aC_Desk, nfc1__lister⟩
  have m_BARE_ROWS := PySem.W.mg_of X G gD0
  have D_BARE_ROWS := dks7 (P := l.prog) (w := w) lD0 sD0 eD0_0 eD0_1 eD0_2 eD0_3 eD0_4 eD0_5 eD0_6
  have m_ORDER_ROWS := PySem.W.mg_of X G gD1
  have D_ORDER_ROWS := dks3 (P := l.prog) (w := w) lD1 sD1 eD1_0 eD1_1 eD1_2
  have B : Bi mg := ⟨PySem.W.mg_none_of X G z_ValueError, PySem.W.mg_none_of X G z_abs, PySem.W.mg_none_of X G z_all, PySem.W.mg_none_of X G z_bool, PySem.W.mg_none_of X G z_enumerate, PySem.W.mg_none_of X G z_int, PySem.W.mg_none_of X G z_isinstance, PySem.W.mg_none_of X G z_len, PySem.W.mg_none_of X G z_list, PySem.W.mg_none_of X G z_max, PySem.W.mg_none_of X G z_min, PySem.W.mg_none_of X G z_range, PySem.W.mg_none_of X G z_sorted, PySem.W.mg_none_of X G z_str, PySem.W.mg_none_of X G z_sum, PySem.W.mg_none_of X G z_tuple, PySem.W.mg_none_of X G z_zip⟩
  have m_WAYS := wy_mk (PySem.W.mg_of X G g_WAYS) l_WAYS
  have m_MOST_THINGS := PySem.W.mg_of X G g_MOST_THINGS
  have m_MOST_LISTED := PySem.W.mg_of X G g_MOST_LISTED
  have m_MOST_ORDERS := PySem.W.mg_of X G g_MOST_ORDERS
  have m_MOST_KEPT := PySem.W.mg_of X G g_MOST_KEPT
  have m_MOST_POLLED := PySem.W.mg_of X G g_MOST_POLLED
  have m_MOST_BY_PAIRS := PySem.W.mg_of X G g_MOST_BY_PAIRS
  have m_NO_ORDERS := PySem.W.mg_of X G g_NO_ORDERS
  have m_DONE := PySem.W.mg_of X G g_DONE
  have m_NOTHING := PySem.W.mg_of X G g_NOTHING
  have m_NUMBERS := PySem.W.mg_of X G g_NUMBERS
  have g_OrderError := PySem.W.mg_of X G gc_OrderError
  have g_NoOrder := PySem.W.mg_of X G gc_NoOrder
  have g_NoWay := PySem.W.mg_of X G gc_NoWay
  have g_NoFit := PySem.W.mg_of X G gc_NoFit
  have g_NoPlace := PySem.W.mg_of X G gc_NoPlace
  have g_NoNumber := PySem.W.mg_of X G gc_NoNumber
  have g_TooMany := PySem.W.mg_of X G gc_TooMany
  have g_NoText := PySem.W.mg_of X G gc_NoText
  have g_NoName := PySem.W.mg_of X G gc_NoName
  have g_NoRow := PySem.W.mg_of X G gc_NoRow
  have ec_NoOrder : ExcC K C_NoOrder := ⟨xehg_NoOrder, xehk_NoOrder, xehs_NoOrder, xehd_NoOrder, xeha_NoOrder, xehn_NoOrder, xeht_NoOrder, xehm_NoOrder⟩
  have X_NoOrder : ExK K mg "NoOrder" C_NoOrder := ⟨g_NoOrder, xq_NoOrder, xk_NoOrder, xehs_NoOrder, xt_NoOrder, ec_NoOrder⟩
  have kd_NoOrder := kd_mk9 (i := 0) ec_NoOrder xy_NoOrder_NoOrder xy_NoOrder_NoWay xy_NoOrder_NoFit xy_NoOrder_NoPlace xy_NoOrder_NoNumber xy_NoOrder_TooMany xy_NoOrder_NoText xy_NoOrder_NoName xy_NoOrder_NoRow xv_NoOrder (by decide)
  have ec_NoWay : ExcC K C_NoWay := ⟨xehg_NoWay, xehk_NoWay, xehs_NoWay, xehd_NoWay, xeha_NoWay, xehn_NoWay, xeht_NoWay, xehm_NoWay⟩
  have X_NoWay : ExK K mg "NoWay" C_NoWay := ⟨g_NoWay, xq_NoWay, xk_NoWay, xehs_NoWay, xt_NoWay, ec_NoWay⟩
  have kd_NoWay := kd_mk9 (i := 1) ec_NoWay xy_NoWay_NoOrder xy_NoWay_NoWay xy_NoWay_NoFit xy_NoWay_NoPlace xy_NoWay_NoNumber xy_NoWay_TooMany xy_NoWay_NoText xy_NoWay_NoName xy_NoWay_NoRow xv_NoWay (by decide)
  have ec_NoFit : ExcC K C_NoFit := ⟨xehg_NoFit, xehk_NoFit, xehs_NoFit, xehd_NoFit, xeha_NoFit, xehn_NoFit, xeht_NoFit, xehm_NoFit⟩
  have X_NoFit : ExK K mg "NoFit" C_NoFit := ⟨g_NoFit, xq_NoFit, xk_NoFit, xehs_NoFit, xt_NoFit, ec_NoFit⟩
  have kd_NoFit := kd_mk9 (i := 2) ec_NoFit xy_NoFit_NoOrder xy_NoFit_NoWay xy_NoFit_NoFit xy_NoFit_NoPlace xy_NoFit_NoNumber xy_NoFit_TooMany xy_NoFit_NoText xy_NoFit_NoName xy_NoFit_NoRow xv_NoFit (by decide)
  have ec_NoNumber : ExcC K C_NoNumber := ⟨xehg_NoNumber, xehk_NoNumber, xehs_NoNumber, xehd_NoNumber, xeha_NoNumber, xehn_NoNumber, xeht_NoNumber, xehm_NoNumber⟩
  have X_NoNumber : ExK K mg "NoNumber" C_NoNumber := ⟨g_NoNumber, xq_NoNumber, xk_NoNumber, xehs_NoNumber, xt_NoNumber, ec_NoNumber⟩
  have kd_NoNumber := kd_mk9 (i := 4) ec_NoNumber xy_NoNumber_NoOrder xy_NoNumber_NoWay xy_NoNumber_NoFit xy_NoNumber_NoPlace xy_NoNumber_NoNumber xy_NoNumber_TooMany xy_NoNumber_NoText xy_NoNumber_NoName xy_NoNumber_NoRow xv_NoNumber (by decide)
  have ec_TooMany : ExcC K C_TooMany := ⟨xehg_TooMany, xehk_TooMany, xehs_TooMany, xehd_TooMany, xeha_TooMany, xehn_TooMany, xeht_TooMany, xehm_TooMany⟩
  have X_TooMany : ExK K mg "TooMany" C_TooMany := ⟨g_TooMany, xq_TooMany, xk_TooMany, xehs_TooMany, xt_TooMany, ec_TooMany⟩
  have kd_TooMany := kd_mk9 (i := 5) ec_TooMany xy_TooMany_NoOrder xy_TooMany_NoWay xy_TooMany_NoFit xy_TooMany_NoPlace xy_TooMany_NoNumber xy_TooMany_TooMany xy_TooMany_NoText xy_TooMany_NoName xy_TooMany_NoRow xv_TooMany (by decide)
  have ec_NoText : ExcC K C_NoText := ⟨xehg_NoText, xehk_NoText, xehs_NoText, xehd_NoText, xeha_NoText, xehn_NoText, xeht_NoText, xehm_NoText⟩
  have X_NoText : ExK K mg "NoText" C_NoText := ⟨g_NoText, xq_NoText, xk_NoText, xehs_NoText, xt_NoText, ec_NoText⟩
  have kd_NoText := kd_mk9 (i := 6) ec_NoText xy_NoText_NoOrder xy_NoText_NoWay xy_NoText_NoFit xy_NoText_NoPlace xy_NoText_NoNumber xy_NoText_TooMany xy_NoText_NoText xy_NoText_NoName xy_NoText_NoRow xv_NoText (by decide)
  have ec_NoRow : ExcC K C_NoRow := ⟨xehg_NoRow, xehk_NoRow, xehs_NoRow, xehd_NoRow, xeha_NoRow, xehn_NoRow, xeht_NoRow, xehm_NoRow⟩
  have X_NoRow : ExK K mg "NoRow" C_NoRow := ⟨g_NoRow, xq_NoRow, xk_NoRow, xehs_NoRow, xt_NoRow, ec_NoRow⟩
  have kd_NoRow := kd_mk9 (i := 8) ec_NoRow xy_NoRow_NoOrder xy_NoRow_NoWay xy_NoRow_NoFit xy_NoRow_NoPlace xy_NoRow_NoNumber xy_NoRow_TooMany xy_NoRow_NoText xy_NoRow_NoName xy_NoRow_NoRow xv_NoRow (by decide)
  refine ⟨PySem.W.fnOf "law" "law" (defArgs s_law) (defBody s_law) (defScope s_law) .none kV82 dc82 pm82 an82 cd82 ct82, [(tc_is_far, tp_is_far)], spLaw K tp_is_far, ?_, ?_, ?_, fun s v => .of_eq rfl, fun H a ns hl _ hT hS => ⟨a, ns, rfl, hS, hl, ⟨#[], hT (tc_is_far, tp_is_far) (by simp), trivial⟩, fun _ => rfl⟩, fun base _ _ TBs => ?_⟩
  · rintro p hp
    simp only [List.mem_cons, List.not_mem_nil, or_false] at hp
    rcases hp with rfl
    · exact (tabs "is_far" (by simp) _ _ t_is_far).2
  · rintro p hp
    simp only [List.mem_cons, List.not_mem_nil, or_false] at hp
    rcases hp with rfl
    · exact n_is_far
  · rintro p hp
    simp only [List.mem_cons, List.not_mem_nil, or_false] at hp
    rcases hp with rfl
    · exact (tabs "is_far" (by simp) _ _ t_is_far).1
  have TB_is_far := TBs (tc_is_far, tp_is_far) (by simp)
  exact ok_law F82 T_Desk T_Desk_init T__law_pool T__law_draw T__law_said T__law_made T__law_no_row T__law_no_way T__law_no_number T__law_no_text T__law_else T__law_stands T__law_goes_on (ok_desk0 (k := 36) T_Desk_init T_Desk T_Lister T_Lister_init (ok_initL (k := 35) T_Lister_init T_Lister T_check_apart (ok_apart (k := 32) T_check_apart T_check_way T_check_size T_check_from T_is_whole m_WAYS B) m_MOST_KEPT)) (ok_pool (k := 38) T__law_pool B) (ok_drawP (k := 38) T__law_draw B) (ok_saidD (k := 38) (c := cls9 C_NoOrder C_NoWay C_NoFit C_NoPlace C_NoNumber C_TooMany C_NoText C_NoName C_NoRow) T__law_said T_Desk T_Desk_say (ok_say (k := 37) (c := cls9 C_NoOrder C_NoWay C_NoFit C_NoPlace C_NoNumber C_TooMany C_NoText C_NoName C_NoRow) T_Desk_say T_Desk T_Lister T_read_order T_Desk_say_with_numbers T_undo_last T_tell_list T_tell_apart T_tell_room T_tell_first T_tell_bounds T_tell_middle T_let_come T_let_drop T_tell_near (ok_readX (k := 36) T_read_order T_check_text T_number_in T_is_order (ok_txtX (k := 35) T_check_text X_NoText B) (ok_numD (k := 35) T_number_in B) (ok_isOrdD (k := 34) T_is_order T_is_whole B m_MOST_THINGS) X_NoText m_MOST_THINGS) (ok_swn (k := 35) (c := cls9 C_NoOrder C_NoWay C_NoFit C_NoPlace C_NoNumber C_TooMany C_NoText C_NoName C_NoRow) T_Desk_say_with_numbers T_Desk T_Lister T_Lister_init T_tell_sure T_read_number (fn_or (fn_up (ok_initL (k := 34) T_Lister_init T_Lister T_check_apart (ok_apart (k := 31) T_check_apart T_check_way T_check_size T_check_from T_is_whole m_WAYS B) m_MOST_KEPT)) (ok_initX (k := 34) T_Lister_init T_Lister T_check_apart (ok_apX (k := 33) T_check_apart T_check_way T_check_size T_check_from (ok_wayX (k := 32) T_check_way m_WAYS X_NoWay B) (ok_sizeX (k := 32) T_check_size T_is_whole (ok_wholeD (k := 31) T_is_whole B) X_NoNumber B) (ok_fromX (k := 32) T_check_from T_is_whole (ok_wholeD (k := 31) T_is_whole B) X_NoNumber B)) m_MOST_KEPT)) (ok_suT (k := 35) (c := cls9 C_NoOrder C_NoWay C_NoFit C_NoPlace C_NoNumber C_TooMany C_NoText C_NoName C_NoRow) T_tell_sure T_Lister T_Lister_orders T_not_sure (ok_ordersL (k := 34) T_Lister_orders T_Lister B) (ok_notR (k := 34) (c := cls9 C_NoOrder C_NoWay C_NoFit C_NoPlace C_NoNumber C_TooMany C_NoText C_NoName C_NoRow) T_not_sure T_check_sure T_all_orders T_those_within (ok_sureX (k := 33) (c := cls9 C_NoOrder C_NoWay C_NoFit C_NoPlace C_NoNumber C_TooMany C_NoText C_NoName C_NoRow) T_check_sure T_check_unlike_list T_check_way T_check_listed T_check_from (ok_cux (k := 32) T_check_unlike_list T_is_unlike_list (ok_unlD (k := 31) T_is_unlike_list T_is_order_list (ok_olD (k := 30) T_is_order_list T_is_order (ok_isOrdD (k := 28) T_is_order T_is_whole B m_MOST_THINGS) B) B) X_NoOrder B m_MOST_ORDERS) (ok_wayX (k := 32) T_check_way m_WAYS X_NoWay B) (ok_listX (k := 32) T_check_listed m_MOST_LISTED X_NoFit B) (ok_fromX (k := 32) T_check_from T_is_whole (ok_wholeD (k := 31) T_is_whole B) X_NoNumber B) B) B)) (ok_rdN (k := 35) T_read_number T_number_in (ok_numH (k := 34) T_number_in B) X_NoRow m_NUMBERS) X_NoRow B m_DONE) (ok_undT (k := 36) T_undo_last T_Lister T_Lister_undo (ok_undoL (k := 35) T_Lister_undo T_Lister X_NoNumber B) m_DONE) (ok_listT (k := 36) T_tell_list T_Lister T_Lister_orders T_show_orders (ok_ordersL (k := 35) T_Lister_orders T_Lister B) (ok_showL (k := 35) T_show_orders T_is_order_list T_written (ok_olst52 (k := 35) T_is_order_list (ok_olD (k := 34) T_is_order_list T_is_order (ok_isOrdD (k := 32) T_is_order T_is_whole B m_MOST_THINGS) B)) (ok_wr (k := 34) T_written B) B m_NO_ORDERS)) (ok_apT (k := 36) T_tell_apart T_Lister T_Lister_least_apart (ok_leastL (k := 35) T_Lister_least_apart T_Lister T_known_far (ok_known (k := 34) T_known_far T_far_by_swap T_far_by_spot T_far_by_shift (ok_swap (k := 33) T_far_by_swap T_seats_in (ok_seats (k := 31) T_seats_in T_places_in B) B) (ok_spot (k := 33) T_far_by_spot B) (ok_shift (k := 33) T_far_by_shift T_seats_in (ok_seats (k := 31) T_seats_in T_places_in B) B)) B) B m_NOTHING) (ok_roT (k := 36) T_tell_room T_Lister T_Lister_how_many_more (ok_moreR (k := 35) T_Lister_how_many_more T_Lister T_check_few (ok_fewX (k := 34) T_check_few X_TooMany) T_all_orders (ok_nv_all_orders (k := 34) T_all_orders) T_is_far (ok_nv_is_far (k := 34) T_is_far) B m_MOST_LISTED) B) (ok_fiT (k := 36) T_tell_first T_Lister T_Lister_first_more T_show_order (ok_firstR (k := 35) T_Lister_first_more T_Lister T_check_few (ok_fewX (k := 34) T_check_few X_TooMany) T_all_orders (ok_nv_all_orders (k := 34) T_all_orders) T_is_far (ok_nv_is_far (k := 34) T_is_far) B m_MOST_LISTED) (ok_show (k := 35) T_show_order T_check_order T_written (ok_check (k := 32) T_check_order T_is_order T_is_whole B m_MOST_THINGS) (ok_wr (k := 34) T_written B)) m_NOTHING) (ok_miT (k := 36) T_tell_middle T_Lister T_Lister_orders T_middle_of T_show_order (ok_ordersL (k := 35) T_Lister_orders T_Lister B) (ok_midR (k := 35) T_middle_of T_check_poll T_check_way T_check_few T_counts_ahead T_middle_by_pairs T_middle_by_all (ok_cpX (k := 34) T_check_poll T_is_order_list (ok_olD (k := 33) T_is_order_list T_is_order (ok_isOrdD (k := 31) T_is_order T_is_whole B m_MOST_THINGS) B) X_NoOrder B m_MOST_POLLED) (ok_wayX (k := 34) T_check_way m_WAYS X_NoWay B) (ok_fewY (k := 34) T_check_few X_TooMany) (ok_nv_counts_ahead (k := 34) T_counts_ahead) (ok_nv_middle_by_pairs (k := 34) T_middle_by_pairs) (ok_nv_middle_by_all (k := 34) T_middle_by_all) B m_MOST_BY_PAIRS m_MOST_LISTED) (ok_show (k := 35) T_show_order T_check_order T_written (ok_check (k := 32) T_check_order T_is_order T_is_whole B m_MOST_THINGS) (ok_wr (k := 34) T_written B))) (ok_coT (k := 36) T_let_come T_Lister T_Lister_come T_show_orders (fn_or (fn_up (ok_comeL (k := 35) T_Lister_come T_Lister T_check_order (ok_check (k := 32) T_check_order T_is_order T_is_whole B m_MOST_THINGS) T_check_many (ok_manyOk (k := 34) T_check_many m_MOST_ORDERS) T_known_far (ok_known (k := 34) T_known_far T_far_by_swap T_far_by_spot T_far_by_shift (ok_swap (k := 33) T_far_by_swap T_seats_in (ok_seats (k := 31) T_seats_in T_places_in B) B) (ok_spot (k := 33) T_far_by_spot B) (ok_shift (k := 33) T_far_by_shift T_seats_in (ok_seats (k := 31) T_seats_in T_places_in B) B)) T_Lister_change_to (ok_changeL (k := 34) T_Lister_change_to T_Lister) B)) (ok_comeR (k := 35) T_Lister_come T_Lister T_check_order (ok_chk (k := 34) T_check_order T_is_order (ok_isOrdD (k := 32) T_is_order T_is_whole B m_MOST_THINGS) X_NoOrder) T_check_many (ok_manyX (k := 34) T_check_many m_MOST_ORDERS X_TooMany) T_known_far (ok_known (k := 34) T_known_far T_far_by_swap T_far_by_spot T_far_by_shift (ok_swap (k := 33) T_far_by_swap T_seats_in (ok_seats (k := 31) T_seats_in T_places_in B) B) (ok_spot (k := 33) T_far_by_spot B) (ok_shift (k := 33) T_far_by_shift T_seats_in (ok_seats (k := 31) T_seats_in T_places_in B) B)) T_Lister_change_to (ok_changeL (k := 34) T_Lister_change_to T_Lister) X_NoFit B)) (ok_showL (k := 35) T_show_orders T_is_order_list T_written (ok_olst52 (k := 35) T_is_order_list (ok_olD (k := 34) T_is_order_list T_is_order (ok_isOrdD (k := 32) T_is_order T_is_whole B m_MOST_THINGS) B)) (ok_wr (k := 34) T_written B) B m_NO_ORDERS) B m_DONE) (ok_drT (k := 36) T_let_drop T_Lister T_Lister_drop (fn_or (fn_up (ok_dropL (k := 35) T_Lister_drop T_Lister T_check_order (ok_check (k := 32) T_check_order T_is_order T_is_whole B m_MOST_THINGS) T_Lister_change_to (ok_changeL (k := 34) T_Lister_change_to T_Lister) B)) (ok_dropR (k := 35) T_Lister_drop T_Lister T_check_order (ok_chk (k := 34) T_check_order T_is_order (ok_isOrdD (k := 32) T_is_order T_is_whole B m_MOST_THINGS) X_NoOrder) T_Lister_change_to (ok_changeL (k := 34) T_Lister_change_to T_Lister) X_NoFit B)) m_DONE) (ok_neT (k := 36) (c := cls9 C_NoOrder C_NoWay C_NoFit C_NoPlace C_NoNumber C_TooMany C_NoText C_NoName C_NoRow) T_tell_near T_Lister T_Lister_orders T_nearest_of T_show_orders (ok_ordersL (k := 35) T_Lister_orders T_Lister B) (ok_nearR (k := 35) (c := cls9 C_NoOrder C_NoWay C_NoFit C_NoPlace C_NoNumber C_TooMany C_NoText C_NoName C_NoRow) T_nearest_of T_check_led T_known_far T_those_within (ok_ledX (k := 34) (c := cls9 C_NoOrder C_NoWay C_NoFit C_NoPlace C_NoNumber C_TooMany C_NoText C_NoName C_NoRow) T_check_led T_check_order T_check_unlike_list T_check_way T_check_fit (ok_chk (k := 33) T_check_order T_is_order (ok_isOrdD (k := 31) T_is_order T_is_whole B m_MOST_THINGS) X_NoOrder) (ok_cux (k := 33) T_check_unlike_list T_is_unlike_list (ok_unlD (k := 32) T_is_unlike_list T_is_order_list (ok_olD (k := 31) T_is_order_list T_is_order (ok_isOrdD (k := 29) T_is_order T_is_whole B m_MOST_THINGS) B) B) X_NoOrder B m_MOST_ORDERS) (ok_wayX (k := 33) T_check_way m_WAYS X_NoWay B) (ok_fitX (k := 33) T_check_fit X_NoFit B) B) (ok_known (k := 34) T_known_far T_far_by_swap T_far_by_spot T_far_by_shift (ok_swap (k := 33) T_far_by_swap T_seats_in (ok_seats (k := 31) T_seats_in T_places_in B) B) (ok_spot (k := 33) T_far_by_spot B) (ok_shift (k := 33) T_far_by_shift T_seats_in (ok_seats (k := 31) T_seats_in T_places_in B) B)) (ok_nv_those_within (k := 34) T_those_within) B) (ok_showL (k := 35) T_show_orders T_is_order_list T_written (ok_olst52 (k := 35) T_is_order_list (ok_olD (k := 34) T_is_order_list T_is_order (ok_isOrdD (k := 32) T_is_order T_is_whole B m_MOST_THINGS) B)) (ok_wr (k := 34) T_written B) B m_NO_ORDERS)) X_NoRow B m_BARE_ROWS m_ORDER_ROWS D_BARE_ROWS D_ORDER_ROWS) (fun i hi => by rcases hi with rfl | rfl | rfl | rfl | rfl | rfl | rfl <;> first | exact kd_NoOrder | exact kd_NoWay | exact kd_NoFit | exact kd_NoNumber | exact kd_TooMany | exact kd_NoText | exact kd_NoRow) g_OrderError (fun i hi => by rcases hi with rfl | rfl | rfl | rfl | rfl | rfl | rfl <;> first | exact xm_NoOrder | exact xm_NoWay | exact xm_NoFit | exact xm_NoNumber | exact xm_TooMany | exact xm_NoText | exact xm_NoRow) g_NoOrder g_NoWay g_NoFit g_NoPlace g_NoNumber g_TooMany g_NoText g_NoName g_NoRow B) (ok_made85 (k := 37) T__law_made T_Desk T_Desk_init T__law_said T__law_all_of_four T__law_order T__law_draw T__law_written (ok_desk0 (k := 35) T_Desk_init T_Desk T_Lister T_Lister_init (ok_initL (k := 34) T_Lister_init T_Lister T_check_apart (ok_apart (k := 31) T_check_apart T_check_way T_check_size T_check_from T_is_whole m_WAYS B) m_MOST_KEPT)) (ok_saidD (k := 37) (c := cls9 C_NoOrder C_NoWay C_NoFit C_NoPlace C_NoNumber C_TooMany C_NoText C_NoName C_NoRow) T__law_said T_Desk T_Desk_say (ok_say (k := 36) (c := cls9 C_NoOrder C_NoWay C_NoFit C_NoPlace C_NoNumber C_TooMany C_NoText C_NoName C_NoRow) T_Desk_say T_Desk T_Lister T_read_order T_Desk_say_with_numbers T_undo_last T_tell_list T_tell_apart T_tell_room T_tell_first T_tell_bounds T_tell_middle T_let_come T_let_drop T_tell_near (ok_readX (k := 35) T_read_order T_check_text T_number_in T_is_order (ok_txtX (k := 34) T_check_text X_NoText B) (ok_numD (k := 34) T_number_in B) (ok_isOrdD (k := 33) T_is_order T_is_whole B m_MOST_THINGS) X_NoText m_MOST_THINGS) (ok_swn (k := 34) (c := cls9 C_NoOrder C_NoWay C_NoFit C_NoPlace C_NoNumber C_TooMany C_NoText C_NoName C_NoRow) T_Desk_say_with_numbers T_Desk T_Lister T_Lister_init T_tell_sure T_read_number (fn_or (fn_up (ok_initL (k := 33) T_Lister_init T_Lister T_check_apart (ok_apart (k := 30) T_check_apart T_check_way T_check_size T_check_from T_is_whole m_WAYS B) m_MOST_KEPT)) (ok_initX (k := 33) T_Lister_init T_Lister T_check_apart (ok_apX (k := 32) T_check_apart T_check_way T_check_size T_check_from (ok_wayX (k := 31) T_check_way m_WAYS X_NoWay B) (ok_sizeX (k := 31) T_check_size T_is_whole (ok_wholeD (k := 30) T_is_whole B) X_NoNumber B) (ok_fromX (k := 31) T_check_from T_is_whole (ok_wholeD (k := 30) T_is_whole B) X_NoNumber B)) m_MOST_KEPT)) (ok_suT (k := 34) (c := cls9 C_NoOrder C_NoWay C_NoFit C_NoPlace C_NoNumber C_TooMany C_NoText C_NoName C_NoRow) T_tell_sure T_Lister T_Lister_orders T_not_sure (ok_ordersL (k := 33) T_Lister_orders T_Lister B) (ok_notR (k := 33) (c := cls9 C_NoOrder C_NoWay C_NoFit C_NoPlace C_NoNumber C_TooMany C_NoText C_NoName C_NoRow) T_not_sure T_check_sure T_all_orders T_those_within (ok_sureX (k := 32) (c := cls9 C_NoOrder C_NoWay C_NoFit C_NoPlace C_NoNumber C_TooMany C_NoText C_NoName C_NoRow) T_check_sure T_check_unlike_list T_check_way T_check_listed T_check_from (ok_cux (k := 31) T_check_unlike_list T_is_unlike_list (ok_unlD (k := 30) T_is_unlike_list T_is_order_list (ok_olD (k := 29) T_is_order_list T_is_order (ok_isOrdD (k := 27) T_is_order T_is_whole B m_MOST_THINGS) B) B) X_NoOrder B m_MOST_ORDERS) (ok_wayX (k := 31) T_check_way m_WAYS X_NoWay B) (ok_listX (k := 31) T_check_listed m_MOST_LISTED X_NoFit B) (ok_fromX (k := 31) T_check_from T_is_whole (ok_wholeD (k := 30) T_is_whole B) X_NoNumber B) B) B)) (ok_rdN (k := 34) T_read_number T_number_in (ok_numH (k := 33) T_number_in B) X_NoRow m_NUMBERS) X_NoRow B m_DONE) (ok_undT (k := 35) T_undo_last T_Lister T_Lister_undo (ok_undoL (k := 34) T_Lister_undo T_Lister X_NoNumber B) m_DONE) (ok_listT (k := 35) T_tell_list T_Lister T_Lister_orders T_show_orders (ok_ordersL (k := 34) T_Lister_orders T_Lister B) (ok_showL (k := 34) T_show_orders T_is_order_list T_written (ok_olst52 (k := 34) T_is_order_list (ok_olD (k := 33) T_is_order_list T_is_order (ok_isOrdD (k := 31) T_is_order T_is_whole B m_MOST_THINGS) B)) (ok_wr (k := 33) T_written B) B m_NO_ORDERS)) (ok_apT (k := 35) T_tell_apart T_Lister T_Lister_least_apart (ok_leastL (k := 34) T_Lister_least_apart T_Lister T_known_far (ok_known (k := 33) T_known_far T_far_by_swap T_far_by_spot T_far_by_shift (ok_swap (k := 32) T_far_by_swap T_seats_in (ok_seats (k := 30) T_seats_in T_places_in B) B) (ok_spot (k := 32) T_far_by_spot B) (ok_shift (k := 32) T_far_by_shift T_seats_in (ok_seats (k := 30) T_seats_in T_places_in B) B)) B) B m_NOTHING) (ok_roT (k := 35) T_tell_room T_Lister T_Lister_how_many_more (ok_moreR (k := 34) T_Lister_how_many_more T_Lister T_check_few (ok_fewX (k := 33) T_check_few X_TooMany) T_all_orders (ok_nv_all_orders (k := 33) T_all_orders) T_is_far (ok_nv_is_far (k := 33) T_is_far) B m_MOST_LISTED) B) (ok_fiT (k := 35) T_tell_first T_Lister T_Lister_first_more T_show_order (ok_firstR (k := 34) T_Lister_first_more T_Lister T_check_few (ok_fewX (k := 33) T_check_few X_TooMany) T_all_orders (ok_nv_all_orders (k := 33) T_all_orders) T_is_far (ok_nv_is_far (k := 33) T_is_far) B m_MOST_LISTED) (ok_show (k := 34) T_show_order T_check_order T_written (ok_check (k := 31) T_check_order T_is_order T_is_whole B m_MOST_THINGS) (ok_wr (k := 33) T_written B)) m_NOTHING) (ok_miT (k := 35) T_tell_middle T_Lister T_Lister_orders T_middle_of T_show_order (ok_ordersL (k := 34) T_Lister_orders T_Lister B) (ok_midR (k := 34) T_middle_of T_check_poll T_check_way T_check_few T_counts_ahead T_middle_by_pairs T_middle_by_all (ok_cpX (k := 33) T_check_poll T_is_order_list (ok_olD (k := 32) T_is_order_list T_is_order (ok_isOrdD (k := 30) T_is_order T_is_whole B m_MOST_THINGS) B) X_NoOrder B m_MOST_POLLED) (ok_wayX (k := 33) T_check_way m_WAYS X_NoWay B) (ok_fewY (k := 33) T_check_few X_TooMany) (ok_nv_counts_ahead (k := 33) T_counts_ahead) (ok_nv_middle_by_pairs (k := 33) T_middle_by_pairs) (ok_nv_middle_by_all (k := 33) T_middle_by_all) B m_MOST_BY_PAIRS m_MOST_LISTED) (ok_show (k := 34) T_show_order T_check_order T_written (ok_check (k := 31) T_check_order T_is_order T_is_whole B m_MOST_THINGS) (ok_wr (k := 33) T_written B))) (ok_coT (k := 35) T_let_come T_Lister T_Lister_come T_show_orders (fn_or (fn_up (ok_comeL (k := 34) T_Lister_come T_Lister T_check_order (ok_check (k := 31) T_check_order T_is_order T_is_whole B m_MOST_THINGS) T_check_many (ok_manyOk (k := 33) T_check_many m_MOST_ORDERS) T_known_far (ok_known (k := 33) T_known_far T_far_by_swap T_far_by_spot T_far_by_shift (ok_swap (k := 32) T_far_by_swap T_seats_in (ok_seats (k := 30) T_seats_in T_places_in B) B) (ok_spot (k := 32) T_far_by_spot B) (ok_shift (k := 32) T_far_by_shift T_seats_in (ok_seats (k := 30) T_seats_in T_places_in B) B)) T_Lister_change_to (ok_changeL (k := 33) T_Lister_change_to T_Lister) B)) (ok_comeR (k := 34) T_Lister_come T_Lister T_check_order (ok_chk (k := 33) T_check_order T_is_order (ok_isOrdD (k := 31) T_is_order T_is_whole B m_MOST_THINGS) X_NoOrder) T_check_many (ok_manyX (k := 33) T_check_many m_MOST_ORDERS X_TooMany) T_known_far (ok_known (k := 33) T_known_far T_far_by_swap T_far_by_spot T_far_by_shift (ok_swap (k := 32) T_far_by_swap T_seats_in (ok_seats (k := 30) T_seats_in T_places_in B) B) (ok_spot (k := 32) T_far_by_spot B) (ok_shift (k := 32) T_far_by_shift T_seats_in (ok_seats (k := 30) T_seats_in T_places_in B) B)) T_Lister_change_to (ok_changeL (k := 33) T_Lister_change_to T_Lister) X_NoFit B)) (ok_showL (k := 34) T_show_orders T_is_order_list T_written (ok_olst52 (k := 34) T_is_order_list (ok_olD (k := 33) T_is_order_list T_is_order (ok_isOrdD (k := 31) T_is_order T_is_whole B m_MOST_THINGS) B)) (ok_wr (k := 33) T_written B) B m_NO_ORDERS) B m_DONE) (ok_drT (k := 35) T_let_drop T_Lister T_Lister_drop (fn_or (fn_up (ok_dropL (k := 34) T_Lister_drop T_Lister T_check_order (ok_check (k := 31) T_check_order T_is_order T_is_whole B m_MOST_THINGS) T_Lister_change_to (ok_changeL (k := 33) T_Lister_change_to T_Lister) B)) (ok_dropR (k := 34) T_Lister_drop T_Lister T_check_order (ok_chk (k := 33) T_check_order T_is_order (ok_isOrdD (k := 31) T_is_order T_is_whole B m_MOST_THINGS) X_NoOrder) T_Lister_change_to (ok_changeL (k := 33) T_Lister_change_to T_Lister) X_NoFit B)) m_DONE) (ok_neT (k := 35) (c := cls9 C_NoOrder C_NoWay C_NoFit C_NoPlace C_NoNumber C_TooMany C_NoText C_NoName C_NoRow) T_tell_near T_Lister T_Lister_orders T_nearest_of T_show_orders (ok_ordersL (k := 34) T_Lister_orders T_Lister B) (ok_nearR (k := 34) (c := cls9 C_NoOrder C_NoWay C_NoFit C_NoPlace C_NoNumber C_TooMany C_NoText C_NoName C_NoRow) T_nearest_of T_check_led T_known_far T_those_within (ok_ledX (k := 33) (c := cls9 C_NoOrder C_NoWay C_NoFit C_NoPlace C_NoNumber C_TooMany C_NoText C_NoName C_NoRow) T_check_led T_check_order T_check_unlike_list T_check_way T_check_fit (ok_chk (k := 32) T_check_order T_is_order (ok_isOrdD (k := 30) T_is_order T_is_whole B m_MOST_THINGS) X_NoOrder) (ok_cux (k := 32) T_check_unlike_list T_is_unlike_list (ok_unlD (k := 31) T_is_unlike_list T_is_order_list (ok_olD (k := 30) T_is_order_list T_is_order (ok_isOrdD (k := 28) T_is_order T_is_whole B m_MOST_THINGS) B) B) X_NoOrder B m_MOST_ORDERS) (ok_wayX (k := 32) T_check_way m_WAYS X_NoWay B) (ok_fitX (k := 32) T_check_fit X_NoFit B) B) (ok_known (k := 33) T_known_far T_far_by_swap T_far_by_spot T_far_by_shift (ok_swap (k := 32) T_far_by_swap T_seats_in (ok_seats (k := 30) T_seats_in T_places_in B) B) (ok_spot (k := 32) T_far_by_spot B) (ok_shift (k := 32) T_far_by_shift T_seats_in (ok_seats (k := 30) T_seats_in T_places_in B) B)) (ok_nv_those_within (k := 33) T_those_within) B) (ok_showL (k := 34) T_show_orders T_is_order_list T_written (ok_olst52 (k := 34) T_is_order_list (ok_olD (k := 33) T_is_order_list T_is_order (ok_isOrdD (k := 31) T_is_order T_is_whole B m_MOST_THINGS) B)) (ok_wr (k := 33) T_written B) B m_NO_ORDERS)) X_NoRow B m_BARE_ROWS m_ORDER_ROWS D_BARE_ROWS D_ORDER_ROWS) (fun i hi => by rcases hi with rfl | rfl | rfl | rfl | rfl | rfl | rfl <;> first | exact kd_NoOrder | exact kd_NoWay | exact kd_NoFit | exact kd_NoNumber | exact kd_TooMany | exact kd_NoText | exact kd_NoRow) g_OrderError (fun i hi => by rcases hi with rfl | rfl | rfl | rfl | rfl | rfl | rfl <;> first | exact xm_NoOrder | exact xm_NoWay | exact xm_NoFit | exact xm_NoNumber | exact xm_TooMany | exact xm_NoText | exact xm_NoRow) g_NoOrder g_NoWay g_NoFit g_NoPlace g_NoNumber g_TooMany g_NoText g_NoName g_NoRow B) (ok_afo85 (k := 37) T__law_all_of_four B) (ok_ordP (k := 37) T__law_order T__law_draw (ok_drawP (k := 36) T__law_draw B) B) (ok_drawP (k := 37) T__law_draw B) (ok_lwr (k := 37) T__law_written B) B) (ok_norow85 (k := 38) T__law_no_row T__law_draw (ok_drawP (k := 37) T__law_draw B) B) (ok_noway85 (k := 38) T__law_no_way T__law_draw (ok_drawP (k := 37) T__law_draw B) B) (ok_nonum85 (k := 38) T__law_no_number T__law_draw (ok_drawP (k := 37) T__law_draw B) B) (ok_notext85 (k := 38) T__law_no_text T__law_draw (ok_drawP (k := 37) T__law_draw B) B) (ok_els85 (k := 38) T__law_else T__law_draw (ok_drawP (k := 37) T__law_draw B) B) (ok_std85 (k := 38) T__law_stands T__law_far T__law_said T__law_list_written (ok_lfar82 (k := 37) T__law_far B) (ok_saidD (k := 37) (c := cls9 C_NoOrder C_NoWay C_NoFit C_NoPlace C_NoNumber C_TooMany C_NoText C_NoName C_NoRow) T__law_said T_Desk T_Desk_say (ok_say (k := 36) (c := cls9 C_NoOrder C_NoWay C_NoFit C_NoPlace C_NoNumber C_TooMany C_NoText C_NoName C_NoRow) T_Desk_say T_Desk T_Lister T_read_order T_Desk_say_with_numbers T_undo_last T_tell_list T_tell_apart T_tell_room T_tell_first T_tell_bounds T_tell_middle T_let_come T_let_drop T_tell_near (ok_readX (k := 35) T_read_order T_check_text T_number_in T_is_order (ok_txtX (k := 34) T_check_text X_NoText B) (ok_numD (k := 34) T_number_in B) (ok_isOrdD (k := 33) T_is_order T_is_whole B m_MOST_THINGS) X_NoText m_MOST_THINGS) (ok_swn (k := 34) (c := cls9 C_NoOrder C_NoWay C_NoFit C_NoPlace C_NoNumber C_TooMany C_NoText C_NoName C_NoRow) T_Desk_say_with_numbers T_Desk T_Lister T_Lister_init T_tell_sure T_read_number (fn_or (fn_up (ok_initL (k := 33) T_Lister_init T_Lister T_check_apart (ok_apart (k := 30) T_check_apart T_check_way T_check_size T_check_from T_is_whole m_WAYS B) m_MOST_KEPT)) (ok_initX (k := 33) T_Lister_init T_Lister T_check_apart (ok_apX (k := 32) T_check_apart T_check_way T_check_size T_check_from (ok_wayX (k := 31) T_check_way m_WAYS X_NoWay B) (ok_sizeX (k := 31) T_check_size T_is_whole (ok_wholeD (k := 30) T_is_whole B) X_NoNumber B) (ok_fromX (k := 31) T_check_from T_is_whole (ok_wholeD (k := 30) T_is_whole B) X_NoNumber B)) m_MOST_KEPT)) (ok_suT (k := 34) (c := cls9 C_NoOrder C_NoWay C_NoFit C_NoPlace C_NoNumber C_TooMany C_NoText C_NoName C_NoRow) T_tell_sure T_Lister T_Lister_orders T_not_sure (ok_ordersL (k := 33) T_Lister_orders T_Lister B) (ok_notR (k := 33) (c := cls9 C_NoOrder C_NoWay C_NoFit C_NoPlace C_NoNumber C_TooMany C_NoText C_NoName C_NoRow) T_not_sure T_check_sure T_all_orders T_those_within (ok_sureX (k := 32) (c := cls9 C_NoOrder C_NoWay C_NoFit C_NoPlace C_NoNumber C_TooMany C_NoText C_NoName C_NoRow) T_check_sure T_check_unlike_list T_check_way T_check_listed T_check_from (ok_cux (k := 31) T_check_unlike_list T_is_unlike_list (ok_unlD (k := 30) T_is_unlike_list T_is_order_list (ok_olD (k := 29) T_is_order_list T_is_order (ok_isOrdD (k := 27) T_is_order T_is_whole B m_MOST_THINGS) B) B) X_NoOrder B m_MOST_ORDERS) (ok_wayX (k := 31) T_check_way m_WAYS X_NoWay B) (ok_listX (k := 31) T_check_listed m_MOST_LISTED X_NoFit B) (ok_fromX (k := 31) T_check_from T_is_whole (ok_wholeD (k := 30) T_is_whole B) X_NoNumber B) B) B)) (ok_rdN (k := 34) T_read_number T_number_in (ok_numH (k := 33) T_number_in B) X_NoRow m_NUMBERS) X_NoRow B m_DONE) (ok_undT (k := 35) T_undo_last T_Lister T_Lister_undo (ok_undoL (k := 34) T_Lister_undo T_Lister X_NoNumber B) m_DONE) (ok_listT (k := 35) T_tell_list T_Lister T_Lister_orders T_show_orders (ok_ordersL (k := 34) T_Lister_orders T_Lister B) (ok_showL (k := 34) T_show_orders T_is_order_list T_written (ok_olst52 (k := 34) T_is_order_list (ok_olD (k := 33) T_is_order_list T_is_order (ok_isOrdD (k := 31) T_is_order T_is_whole B m_MOST_THINGS) B)) (ok_wr (k := 33) T_written B) B m_NO_ORDERS)) (ok_apT (k := 35) T_tell_apart T_Lister T_Lister_least_apart (ok_leastL (k := 34) T_Lister_least_apart T_Lister T_known_far (ok_known (k := 33) T_known_far T_far_by_swap T_far_by_spot T_far_by_shift (ok_swap (k := 32) T_far_by_swap T_seats_in (ok_seats (k := 30) T_seats_in T_places_in B) B) (ok_spot (k := 32) T_far_by_spot B) (ok_shift (k := 32) T_far_by_shift T_seats_in (ok_seats (k := 30) T_seats_in T_places_in B) B)) B) B m_NOTHING) (ok_roT (k := 35) T_tell_room T_Lister T_Lister_how_many_more (ok_moreR (k := 34) T_Lister_how_many_more T_Lister T_check_few (ok_fewX (k := 33) T_check_few X_TooMany) T_all_orders (ok_nv_all_orders (k := 33) T_all_orders) T_is_far (ok_nv_is_far (k := 33) T_is_far) B m_MOST_LISTED) B) (ok_fiT (k := 35) T_tell_first T_Lister T_Lister_first_more T_show_order (ok_firstR (k := 34) T_Lister_first_more T_Lister T_check_few (ok_fewX (k := 33) T_check_few X_TooMany) T_all_orders (ok_nv_all_orders (k := 33) T_all_orders) T_is_far (ok_nv_is_far (k := 33) T_is_far) B m_MOST_LISTED) (ok_show (k := 34) T_show_order T_check_order T_written (ok_check (k := 31) T_check_order T_is_order T_is_whole B m_MOST_THINGS) (ok_wr (k := 33) T_written B)) m_NOTHING) (ok_miT (k := 35) T_tell_middle T_Lister T_Lister_orders T_middle_of T_show_order (ok_ordersL (k := 34) T_Lister_orders T_Lister B) (ok_midR (k := 34) T_middle_of T_check_poll T_check_way T_check_few T_counts_ahead T_middle_by_pairs T_middle_by_all (ok_cpX (k := 33) T_check_poll T_is_order_list (ok_olD (k := 32) T_is_order_list T_is_order (ok_isOrdD (k := 30) T_is_order T_is_whole B m_MOST_THINGS) B) X_NoOrder B m_MOST_POLLED) (ok_wayX (k := 33) T_check_way m_WAYS X_NoWay B) (ok_fewY (k := 33) T_check_few X_TooMany) (ok_nv_counts_ahead (k := 33) T_counts_ahead) (ok_nv_middle_by_pairs (k := 33) T_middle_by_pairs) (ok_nv_middle_by_all (k := 33) T_middle_by_all) B m_MOST_BY_PAIRS m_MOST_LISTED) (ok_show (k := 34) T_show_order T_check_order T_written (ok_check (k := 31) T_check_order T_is_order T_is_whole B m_MOST_THINGS) (ok_wr (k := 33) T_written B))) (ok_coT (k := 35) T_let_come T_Lister T_Lister_come T_show_orders (fn_or (fn_up (ok_comeL (k := 34) T_Lister_come T_Lister T_check_order (ok_check (k := 31) T_check_order T_is_order T_is_whole B m_MOST_THINGS) T_check_many (ok_manyOk (k := 33) T_check_many m_MOST_ORDERS) T_known_far (ok_known (k := 33) T_known_far T_far_by_swap T_far_by_spot T_far_by_shift (ok_swap (k := 32) T_far_by_swap T_seats_in (ok_seats (k := 30) T_seats_in T_places_in B) B) (ok_spot (k := 32) T_far_by_spot B) (ok_shift (k := 32) T_far_by_shift T_seats_in (ok_seats (k := 30) T_seats_in T_places_in B) B)) T_Lister_change_to (ok_changeL (k := 33) T_Lister_change_to T_Lister) B)) (ok_comeR (k := 34) T_Lister_come T_Lister T_check_order (ok_chk (k := 33) T_check_order T_is_order (ok_isOrdD (k := 31) T_is_order T_is_whole B m_MOST_THINGS) X_NoOrder) T_check_many (ok_manyX (k := 33) T_check_many m_MOST_ORDERS X_TooMany) T_known_far (ok_known (k := 33) T_known_far T_far_by_swap T_far_by_spot T_far_by_shift (ok_swap (k := 32) T_far_by_swap T_seats_in (ok_seats (k := 30) T_seats_in T_places_in B) B) (ok_spot (k := 32) T_far_by_spot B) (ok_shift (k := 32) T_far_by_shift T_seats_in (ok_seats (k := 30) T_seats_in T_places_in B) B)) T_Lister_change_to (ok_changeL (k := 33) T_Lister_change_to T_Lister) X_NoFit B)) (ok_showL (k := 34) T_show_orders T_is_order_list T_written (ok_olst52 (k := 34) T_is_order_list (ok_olD (k := 33) T_is_order_list T_is_order (ok_isOrdD (k := 31) T_is_order T_is_whole B m_MOST_THINGS) B)) (ok_wr (k := 33) T_written B) B m_NO_ORDERS) B m_DONE) (ok_drT (k := 35) T_let_drop T_Lister T_Lister_drop (fn_or (fn_up (ok_dropL (k := 34) T_Lister_drop T_Lister T_check_order (ok_check (k := 31) T_check_order T_is_order T_is_whole B m_MOST_THINGS) T_Lister_change_to (ok_changeL (k := 33) T_Lister_change_to T_Lister) B)) (ok_dropR (k := 34) T_Lister_drop T_Lister T_check_order (ok_chk (k := 33) T_check_order T_is_order (ok_isOrdD (k := 31) T_is_order T_is_whole B m_MOST_THINGS) X_NoOrder) T_Lister_change_to (ok_changeL (k := 33) T_Lister_change_to T_Lister) X_NoFit B)) m_DONE) (ok_neT (k := 35) (c := cls9 C_NoOrder C_NoWay C_NoFit C_NoPlace C_NoNumber C_TooMany C_NoText C_NoName C_NoRow) T_tell_near T_Lister T_Lister_orders T_nearest_of T_show_orders (ok_ordersL (k := 34) T_Lister_orders T_Lister B) (ok_nearR (k := 34) (c := cls9 C_NoOrder C_NoWay C_NoFit C_NoPlace C_NoNumber C_TooMany C_NoText C_NoName C_NoRow) T_nearest_of T_check_led T_known_far T_those_within (ok_ledX (k := 33) (c := cls9 C_NoOrder C_NoWay C_NoFit C_NoPlace C_NoNumber C_TooMany C_NoText C_NoName C_NoRow) T_check_led T_check_order T_check_unlike_list T_check_way T_check_fit (ok_chk (k := 32) T_check_order T_is_order (ok_isOrdD (k := 30) T_is_order T_is_whole B m_MOST_THINGS) X_NoOrder) (ok_cux (k := 32) T_check_unlike_list T_is_unlike_list (ok_unlD (k := 31) T_is_unlike_list T_is_order_list (ok_olD (k := 30) T_is_order_list T_is_order (ok_isOrdD (k := 28) T_is_order T_is_whole B m_MOST_THINGS) B) B) X_NoOrder B m_MOST_ORDERS) (ok_wayX (k := 32) T_check_way m_WAYS X_NoWay B) (ok_fitX (k := 32) T_check_fit X_NoFit B) B) (ok_known (k := 33) T_known_far T_far_by_swap T_far_by_spot T_far_by_shift (ok_swap (k := 32) T_far_by_swap T_seats_in (ok_seats (k := 30) T_seats_in T_places_in B) B) (ok_spot (k := 32) T_far_by_spot B) (ok_shift (k := 32) T_far_by_shift T_seats_in (ok_seats (k := 30) T_seats_in T_places_in B) B)) (ok_nv_those_within (k := 33) T_those_within) B) (ok_showL (k := 34) T_show_orders T_is_order_list T_written (ok_olst52 (k := 34) T_is_order_list (ok_olD (k := 33) T_is_order_list T_is_order (ok_isOrdD (k := 31) T_is_order T_is_whole B m_MOST_THINGS) B)) (ok_wr (k := 33) T_written B) B m_NO_ORDERS)) X_NoRow B m_BARE_ROWS m_ORDER_ROWS D_BARE_ROWS D_ORDER_ROWS) (fun i hi => by rcases hi with rfl | rfl | rfl | rfl | rfl | rfl | rfl <;> first | exact kd_NoOrder | exact kd_NoWay | exact kd_NoFit | exact kd_NoNumber | exact kd_TooMany | exact kd_NoText | exact kd_NoRow) g_OrderError (fun i hi => by rcases hi with rfl | rfl | rfl | rfl | rfl | rfl | rfl <;> first | exact xm_NoOrder | exact xm_NoWay | exact xm_NoFit | exact xm_NoNumber | exact xm_TooMany | exact xm_NoText | exact xm_NoRow) g_NoOrder g_NoWay g_NoFit g_NoPlace g_NoNumber g_TooMany g_NoText g_NoName g_NoRow B) (ok_lwrL (k := 37) T__law_list_written T__law_written (ok_lwr (k := 36) T__law_written B) B) B) (ok_gon85 (k := 38) T__law_goes_on T__law_said T__law_list_written T__law_written (ok_saidD (k := 37) (c := cls9 C_NoOrder C_NoWay C_NoFit C_NoPlace C_NoNumber C_TooMany C_NoText C_NoName C_NoRow) T__law_said T_Desk T_Desk_say (ok_say (k := 36) (c := cls9 C_NoOrder C_NoWay C_NoFit C_NoPlace C_NoNumber C_TooMany C_NoText C_NoName C_NoRow) T_Desk_say T_Desk T_Lister T_read_order T_Desk_say_with_numbers T_undo_last T_tell_list T_tell_apart T_tell_room T_tell_first T_tell_bounds T_tell_middle T_let_come T_let_drop T_tell_near (ok_readX (k := 35) T_read_order T_check_text T_number_in T_is_order (ok_txtX (k := 34) T_check_text X_NoText B) (ok_numD (k := 34) T_number_in B) (ok_isOrdD (k := 33) T_is_order T_is_whole B m_MOST_THINGS) X_NoText m_MOST_THINGS) (ok_swn (k := 34) (c := cls9 C_NoOrder C_NoWay C_NoFit C_NoPlace C_NoNumber C_TooMany C_NoText C_NoName C_NoRow) T_Desk_say_with_numbers T_Desk T_Lister T_Lister_init T_tell_sure T_read_number (fn_or (fn_up (ok_initL (k := 33) T_Lister_init T_Lister T_check_apart (ok_apart (k := 30) T_check_apart T_check_way T_check_size T_check_from T_is_whole m_WAYS B) m_MOST_KEPT)) (ok_initX (k := 33) T_Lister_init T_Lister T_check_apart (ok_apX (k := 32) T_check_apart T_check_way T_check_size T_check_from (ok_wayX (k := 31) T_check_way m_WAYS X_NoWay B) (ok_sizeX (k := 31) T_check_size T_is_whole (ok_wholeD (k := 30) T_is_whole B) X_NoNumber B) (ok_fromX (k := 31) T_check_from T_is_whole (ok_wholeD (k := 30) T_is_whole B) X_NoNumber B)) m_MOST_KEPT)) (ok_suT (k := 34) (c := cls9 C_NoOrder C_NoWay C_NoFit C_NoPlace C_NoNumber C_TooMany C_NoText C_NoName C_NoRow) T_tell_sure T_Lister T_Lister_orders T_not_sure (ok_ordersL (k := 33) T_Lister_orders T_Lister B) (ok_notR (k := 33) (c := cls9 C_NoOrder C_NoWay C_NoFit C_NoPlace C_NoNumber C_TooMany C_NoText C_NoName C_NoRow) T_not_sure T_check_sure T_all_orders T_those_within (ok_sureX (k := 32) (c := cls9 C_NoOrder C_NoWay C_NoFit C_NoPlace C_NoNumber C_TooMany C_NoText C_NoName C_NoRow) T_check_sure T_check_unlike_list T_check_way T_check_listed T_check_from (ok_cux (k := 31) T_check_unlike_list T_is_unlike_list (ok_unlD (k := 30) T_is_unlike_list T_is_order_list (ok_olD (k := 29) T_is_order_list T_is_order (ok_isOrdD (k := 27) T_is_order T_is_whole B m_MOST_THINGS) B) B) X_NoOrder B m_MOST_ORDERS) (ok_wayX (k := 31) T_check_way m_WAYS X_NoWay B) (ok_listX (k := 31) T_check_listed m_MOST_LISTED X_NoFit B) (ok_fromX (k := 31) T_check_from T_is_whole (ok_wholeD (k := 30) T_is_whole B) X_NoNumber B) B) B)) (ok_rdN (k := 34) T_read_number T_number_in (ok_numH (k := 33) T_number_in B) X_NoRow m_NUMBERS) X_NoRow B m_DONE) (ok_undT (k := 35) T_undo_last T_Lister T_Lister_undo (ok_undoL (k := 34) T_Lister_undo T_Lister X_NoNumber B) m_DONE) (ok_listT (k := 35) T_tell_list T_Lister T_Lister_orders T_show_orders (ok_ordersL (k := 34) T_Lister_orders T_Lister B) (ok_showL (k := 34) T_show_orders T_is_order_list T_written (ok_olst52 (k := 34) T_is_order_list (ok_olD (k := 33) T_is_order_list T_is_order (ok_isOrdD (k := 31) T_is_order T_is_whole B m_MOST_THINGS) B)) (ok_wr (k := 33) T_written B) B m_NO_ORDERS)) (ok_apT (k := 35) T_tell_apart T_Lister T_Lister_least_apart (ok_leastL (k := 34) T_Lister_least_apart T_Lister T_known_far (ok_known (k := 33) T_known_far T_far_by_swap T_far_by_spot T_far_by_shift (ok_swap (k := 32) T_far_by_swap T_seats_in (ok_seats (k := 30) T_seats_in T_places_in B) B) (ok_spot (k := 32) T_far_by_spot B) (ok_shift (k := 32) T_far_by_shift T_seats_in (ok_seats (k := 30) T_seats_in T_places_in B) B)) B) B m_NOTHING) (ok_roT (k := 35) T_tell_room T_Lister T_Lister_how_many_more (ok_moreR (k := 34) T_Lister_how_many_more T_Lister T_check_few (ok_fewX (k := 33) T_check_few X_TooMany) T_all_orders (ok_nv_all_orders (k := 33) T_all_orders) T_is_far (ok_nv_is_far (k := 33) T_is_far) B m_MOST_LISTED) B) (ok_fiT (k := 35) T_tell_first T_Lister T_Lister_first_more T_show_order (ok_firstR (k := 34) T_Lister_first_more T_Lister T_check_few (ok_fewX (k := 33) T_check_few X_TooMany) T_all_orders (ok_nv_all_orders (k := 33) T_all_orders) T_is_far (ok_nv_is_far (k := 33) T_is_far) B m_MOST_LISTED) (ok_show (k := 34) T_show_order T_check_order T_written (ok_check (k := 31) T_check_order T_is_order T_is_whole B m_MOST_THINGS) (ok_wr (k := 33) T_written B)) m_NOTHING) (ok_miT (k := 35) T_tell_middle T_Lister T_Lister_orders T_middle_of T_show_order (ok_ordersL (k := 34) T_Lister_orders T_Lister B) (ok_midR (k := 34) T_middle_of T_check_poll T_check_way T_check_few T_counts_ahead T_middle_by_pairs T_middle_by_all (ok_cpX (k := 33) T_check_poll T_is_order_list (ok_olD (k := 32) T_is_order_list T_is_order (ok_isOrdD (k := 30) T_is_order T_is_whole B m_MOST_THINGS) B) X_NoOrder B m_MOST_POLLED) (ok_wayX (k := 33) T_check_way m_WAYS X_NoWay B) (ok_fewY (k := 33) T_check_few X_TooMany) (ok_nv_counts_ahead (k := 33) T_counts_ahead) (ok_nv_middle_by_pairs (k := 33) T_middle_by_pairs) (ok_nv_middle_by_all (k := 33) T_middle_by_all) B m_MOST_BY_PAIRS m_MOST_LISTED) (ok_show (k := 34) T_show_order T_check_order T_written (ok_check (k := 31) T_check_order T_is_order T_is_whole B m_MOST_THINGS) (ok_wr (k := 33) T_written B))) (ok_coT (k := 35) T_let_come T_Lister T_Lister_come T_show_orders (fn_or (fn_up (ok_comeL (k := 34) T_Lister_come T_Lister T_check_order (ok_check (k := 31) T_check_order T_is_order T_is_whole B m_MOST_THINGS) T_check_many (ok_manyOk (k := 33) T_check_many m_MOST_ORDERS) T_known_far (ok_known (k := 33) T_known_far T_far_by_swap T_far_by_spot T_far_by_shift (ok_swap (k := 32) T_far_by_swap T_seats_in (ok_seats (k := 30) T_seats_in T_places_in B) B) (ok_spot (k := 32) T_far_by_spot B) (ok_shift (k := 32) T_far_by_shift T_seats_in (ok_seats (k := 30) T_seats_in T_places_in B) B)) T_Lister_change_to (ok_changeL (k := 33) T_Lister_change_to T_Lister) B)) (ok_comeR (k := 34) T_Lister_come T_Lister T_check_order (ok_chk (k := 33) T_check_order T_is_order (ok_isOrdD (k := 31) T_is_order T_is_whole B m_MOST_THINGS) X_NoOrder) T_check_many (ok_manyX (k := 33) T_check_many m_MOST_ORDERS X_TooMany) T_known_far (ok_known (k := 33) T_known_far T_far_by_swap T_far_by_spot T_far_by_shift (ok_swap (k := 32) T_far_by_swap T_seats_in (ok_seats (k := 30) T_seats_in T_places_in B) B) (ok_spot (k := 32) T_far_by_spot B) (ok_shift (k := 32) T_far_by_shift T_seats_in (ok_seats (k := 30) T_seats_in T_places_in B) B)) T_Lister_change_to (ok_changeL (k := 33) T_Lister_change_to T_Lister) X_NoFit B)) (ok_showL (k := 34) T_show_orders T_is_order_list T_written (ok_olst52 (k := 34) T_is_order_list (ok_olD (k := 33) T_is_order_list T_is_order (ok_isOrdD (k := 31) T_is_order T_is_whole B m_MOST_THINGS) B)) (ok_wr (k := 33) T_written B) B m_NO_ORDERS) B m_DONE) (ok_drT (k := 35) T_let_drop T_Lister T_Lister_drop (fn_or (fn_up (ok_dropL (k := 34) T_Lister_drop T_Lister T_check_order (ok_check (k := 31) T_check_order T_is_order T_is_whole B m_MOST_THINGS) T_Lister_change_to (ok_changeL (k := 33) T_Lister_change_to T_Lister) B)) (ok_dropR (k := 34) T_Lister_drop T_Lister T_check_order (ok_chk (k := 33) T_check_order T_is_order (ok_isOrdD (k := 31) T_is_order T_is_whole B m_MOST_THINGS) X_NoOrder) T_Lister_change_to (ok_changeL (k := 33) T_Lister_change_to T_Lister) X_NoFit B)) m_DONE) (ok_neT (k := 35) (c := cls9 C_NoOrder C_NoWay C_NoFit C_NoPlace C_NoNumber C_TooMany C_NoText C_NoName C_NoRow) T_tell_near T_Lister T_Lister_orders T_nearest_of T_show_orders (ok_ordersL (k := 34) T_Lister_orders T_Lister B) (ok_nearR (k := 34) (c := cls9 C_NoOrder C_NoWay C_NoFit C_NoPlace C_NoNumber C_TooMany C_NoText C_NoName C_NoRow) T_nearest_of T_check_led T_known_far T_those_within (ok_ledX (k := 33) (c := cls9 C_NoOrder C_NoWay C_NoFit C_NoPlace C_NoNumber C_TooMany C_NoText C_NoName C_NoRow) T_check_led T_check_order T_check_unlike_list T_check_way T_check_fit (ok_chk (k := 32) T_check_order T_is_order (ok_isOrdD (k := 30) T_is_order T_is_whole B m_MOST_THINGS) X_NoOrder) (ok_cux (k := 32) T_check_unlike_list T_is_unlike_list (ok_unlD (k := 31) T_is_unlike_list T_is_order_list (ok_olD (k := 30) T_is_order_list T_is_order (ok_isOrdD (k := 28) T_is_order T_is_whole B m_MOST_THINGS) B) B) X_NoOrder B m_MOST_ORDERS) (ok_wayX (k := 32) T_check_way m_WAYS X_NoWay B) (ok_fitX (k := 32) T_check_fit X_NoFit B) B) (ok_known (k := 33) T_known_far T_far_by_swap T_far_by_spot T_far_by_shift (ok_swap (k := 32) T_far_by_swap T_seats_in (ok_seats (k := 30) T_seats_in T_places_in B) B) (ok_spot (k := 32) T_far_by_spot B) (ok_shift (k := 32) T_far_by_shift T_seats_in (ok_seats (k := 30) T_seats_in T_places_in B) B)) (ok_nv_those_within (k := 33) T_those_within) B) (ok_showL (k := 34) T_show_orders T_is_order_list T_written (ok_olst52 (k := 34) T_is_order_list (ok_olD (k := 33) T_is_order_list T_is_order (ok_isOrdD (k := 31) T_is_order T_is_whole B m_MOST_THINGS) B)) (ok_wr (k := 33) T_written B) B m_NO_ORDERS)) X_NoRow B m_BARE_ROWS m_ORDER_ROWS D_BARE_ROWS D_ORDER_ROWS) (fun i hi => by rcases hi with rfl | rfl | rfl | rfl | rfl | rfl | rfl <;> first | exact kd_NoOrder | exact kd_NoWay | exact kd_NoFit | exact kd_NoNumber | exact kd_TooMany | exact kd_NoText | exact kd_NoRow) g_OrderError (fun i hi => by rcases hi with rfl | rfl | rfl | rfl | rfl | rfl | rfl <;> first | exact xm_NoOrder | exact xm_NoWay | exact xm_NoFit | exact xm_NoNumber | exact xm_TooMany | exact xm_NoText | exact xm_NoRow) g_NoOrder g_NoWay g_NoFit g_NoPlace g_NoNumber g_TooMany g_NoText g_NoName g_NoRow B) (ok_lwrL (k := 37) T__law_list_written T__law_written (ok_lwr (k := 36) T__law_written B) B) (ok_lwr (k := 37) T__law_written B) B) B
end Fo
open PySem PySem.W PyProof.Rows
set_option maxRecDepth 100000 in
set_option maxHeartbeats 0 in
theorem PySem.Challenge.cw_farorders_k85_refused_in_order_holds : PySem.Challenge.rw_farorders_k85_refused_in_order.Holds := by
  w_on; o_law; k_head; (case hw => w_witness2)
  k_fill
  refine Fo.walk_tab (l := PySem.Challenge.rw_farorders_k85_refused_in_order) (n := 63) (k := 40) (x := "script") (CX := fun _ => L2.CX0) rfl (by decide) rfl ⟨rfl, by decide, by decide⟩ (fun w h Y => PySem.W.kIn_of Y) ?F (fun _ _ _ _ _ h => h)
  case F =>
    intro w mg fa h KX G hmg tabs
    replace hmg : mg "law" = some (Value.ref fa) := hmg
    refine' Fo.all_mk KX G hmg ?a0 ?l0 ?c0 ?k0 ?a1 ?l1 ?c1 ?k1 ?a2 ?l2 ?c2 ?k2 ?a3 ?l3 ?c3 ?k3 ?a4 ?l4 ?c4 ?k4 ?a5 ?l5 ?c5 ?k5 ?a6 ?l6 ?c6 ?k6 ?a7 ?l7 ?c7 ?k7 ?a8 ?l8 ?c8 ?k8 ?a9 ?l9 ?c9 ?k9 ?a10 ?l10 ?c10 ?k10 ?a11 ?l11 ?c11 ?k11 ?a12 ?l12 ?c12 ?k12 ?a13 ?l13 ?c13 ?k13 ?a14 ?l14 ?c14 ?k14 ?a15 ?l15 ?c15 ?k15 ?a16 ?l16 ?c16 ?k16 ?a17 ?l17 ?c17 ?k17 ?a18 ?l18 ?c18 ?k18 ?a19 ?l19 ?c19 ?k19 ?a20 ?l20 ?c20 ?k20 ?a21 ?l21 ?c21 ?k21 ?a22 ?l22 ?c22 ?k22 ?a23 ?l23 ?c23 ?k23 ?a24 ?l24 ?c24 ?k24 ?a25 ?l25 ?c25 ?k25 ?a26 ?l26 ?c26 ?k26 ?a27 ?l27 ?c27 ?k27 ?a28 ?l28 ?c28 ?k28 ?a29 ?l29 ?c29 ?k29 ?a30 ?l30 ?c30 ?k30 ?a31 ?l31 ?c31 ?k31 ?a32 ?l32 ?c32 ?k32 ?a33 ?l33 ?c33 ?k33 ?a34 ?l34 ?c34 ?k34 ?a35 ?l35 ?c35 ?k35 ?a36 ?l36 ?c36 ?k36 ?a37 ?l37 ?c37 ?k37 ?a38 ?l38 ?c38 ?k38 ?a39 ?l39 ?c39 ?k39 ?a40 ?l40 ?c40 ?k40 ?a41 ?l41 ?c41 ?k41 ?a42 ?l42 ?c42 ?k42 ?a43 ?l43 ?c43 ?k43 ?a44 ?l44 ?c44 ?k44 ?a45 ?l45 ?c45 ?k45 ?a46 ?l46 ?c46 ?k46 ?a47 ?l47 ?c47 ?k47 ?a48 ?l48 ?c48 ?k48 ?a49 ?l49 ?c49 ?k49 ?a50 ?l50 ?c50 ?k50 ?a51 ?l51 ?c51 ?k51 ?a52 ?l52 ?c52 ?k52 ?a53 ?l53 ?c53 ?k53 ?a54 ?l54 ?c54 ?k54 ?a55 ?l55 ?c55 ?k55 ?a56 ?l56 ?c56 ?k56 ?a57 ?l57 ?c57 ?k57 ?a58 ?l58 ?c58 ?k58 ?a59 ?l59 ?c59 ?k59 ?a60 ?l60 ?c60 ?k60 ?a61 ?l61 ?c61 ?k61 ?a62 ?l62 ?c62 ?k62 ?a63 ?l63 ?c63 ?k63 ?a64 ?l64 ?c64 ?k64 ?a65 ?l65 ?c65 ?k65 ?a66 ?l66 ?c66 ?k66 ?a67 ?l67 ?c67 ?k67 ?a68 ?l68 ?c68 ?k68 ?a69 ?l69 ?c69 ?k69 ?a70 ?l70 ?c70 ?k70 ?a71 ?l71 ?c71 ?k71 ?a72 ?l72 ?c72 ?k72 ?a73 ?l73 ?c73 ?k73 ?a74 ?l74 ?c74 ?k74 ?a75 ?l75 ?c75 ?k75 ?a76 ?l76 ?c76 ?k76 ?a77 ?l77 ?c77 ?k77 ?a78 ?l78 ?c78 ?k78 ?a79 ?l79 ?c79 ?k79 ?a80 ?l80 ?c80 ?k80 ?a81 ?l81 ?c81 ?k81 ?a82 ?l82 ?c82 ?k82 ?g_MOST_THINGS ?g_MOST_LISTED ?g_MOST_ORDERS ?g_MOST_KEPT ?g_MOST_POLLED ?g_MOST_BY_PAIRS ?g_NO_ORDERS ?g_DONE ?g_NOTHING ?g_NUMBERS ?g_WAYS ?l_WAYS ?aC_Lister ?am0 ?im0 ?lm0 ?cm0 ?km0 ?am1 ?im1 ?lm1 ?cm1 ?km1 ?am2 ?im2 ?lm2 ?cm2 ?km2 ?am3 ?im3 ?lm3 ?cm3 ?km3 ?am4 ?im4 ?lm4 ?cm4 ?km4 ?am5 ?im5 ?lm5 ?cm5 ?km5 ?am6 ?im6 ?lm6 ?cm6 ?km6 ?am7 ?im7 ?lm7 ?cm7 ?km7 ?am8 ?im8 ?lm8 ?cm8 ?km8 ?pgC ?hdC ?poC ?saC ?mkC ?kcC ?nf_way ?nf_n ?nf_d ?nf_taken ?nf_earlier ?aC_Desk ?ac1_m0 ?ic1_m0 ?lc1_m0 ?cc1_m0 ?kc1_m0 ?ac1_m1 ?ic1_m1 ?lc1_m1 ?cc1_m1 ?kc1_m1 ?ac1_m2 ?ic1_m2 ?lc1_m2 ?cc1_m2 ?kc1_m2 ?pgCc1_ ?hdCc1_ ?poCc1_ ?saCc1_ ?mkCc1_ ?kcCc1_ ?nfc1__lister ?gD0 ?lD0 ?gD1 ?lD1 ?sD0 ?eD0_0 ?eD0_1 ?eD0_2 ?eD0_3 ?eD0_4 ?eD0_5 ?eD0_6 ?sD1 ?eD1_0 ?eD1_1 ?eD1_2 ?gc_OrderError ?gc_NoOrder ?gc_NoWay ?gc_NoFit ?gc_NoPlace ?gc_NoNumber ?gc_TooMany ?gc_NoText ?gc_NoName ?gc_NoRow ?xq_NoOrder ?xk_NoOrder ?xt_NoOrder ?xm_NoOrder ?xv_NoOrder ?xehg_NoOrder ?xehk_NoOrder ?xehs_NoOrder ?xehd_NoOrder ?xeha_NoOrder ?xehn_NoOrder ?xeht_NoOrder ?xehm_NoOrder ?xy_NoOrder_NoOrder ?xy_NoOrder_NoWay ?xy_NoOrder_NoFit ?xy_NoOrder_NoPlace ?xy_NoOrder_NoNumber ?xy_NoOrder_TooMany ?xy_NoOrder_NoText ?xy_NoOrder_NoName ?xy_NoOrder_NoRow ?xq_NoWay ?xk_NoWay ?xt_NoWay ?xm_NoWay ?xv_NoWay ?xehg_NoWay ?xehk_NoWay ?xehs_NoWay ?xehd_NoWay ?xeha_NoWay ?xehn_NoWay ?xeht_NoWay ?xehm_NoWay ?xy_NoWay_NoOrder ?xy_NoWay_NoWay ?xy_NoWay_NoFit ?xy_NoWay_NoPlace ?xy_NoWay_NoNumber ?xy_NoWay_TooMany ?xy_NoWay_NoText ?xy_NoWay_NoName ?xy_NoWay_NoRow ?xq_NoFit ?xk_NoFit ?xt_NoFit ?xm_NoFit ?xv_NoFit ?xehg_NoFit ?xehk_NoFit ?xehs_NoFit ?xehd_NoFit ?xeha_NoFit ?xehn_NoFit ?xeht_NoFit ?xehm_NoFit ?xy_NoFit_NoOrder ?xy_NoFit_NoWay ?xy_NoFit_NoFit ?xy_NoFit_NoPlace ?xy_NoFit_NoNumber ?xy_NoFit_TooMany ?xy_NoFit_NoText ?xy_NoFit_NoName ?xy_NoFit_NoRow ?xq_NoNumber ?xk_NoNumber ?xt_NoNumber ?xm_NoNumber ?xv_NoNumber ?xehg_NoNumber ?xehk_NoNumber ?xehs_NoNumber ?xehd_NoNumber ?xeha_NoNumber ?xehn_NoNumber ?xeht_NoNumber ?xehm_NoNumber ?xy_NoNumber_NoOrder ?xy_NoNumber_NoWay ?xy_NoNumber_NoFit ?xy_NoNumber_NoPlace ?xy_NoNumber_NoNumber ?xy_NoNumber_TooMany ?xy_NoNumber_NoText ?xy_NoNumber_NoName ?xy_NoNumber_NoRow ?xq_TooMany ?xk_TooMany ?xt_TooMany ?xm_TooMany ?xv_TooMany ?xehg_TooMany ?xehk_TooMany ?xehs_TooMany ?xehd_TooMany ?xeha_TooMany ?xehn_TooMany ?xeht_TooMany ?xehm_TooMany ?xy_TooMany_NoOrder ?xy_TooMany_NoWay ?xy_TooMany_NoFit ?xy_TooMany_NoPlace ?xy_TooMany_NoNumber ?xy_TooMany_TooMany ?xy_TooMany_NoText ?xy_TooMany_NoName ?xy_TooMany_NoRow ?xq_NoText ?xk_NoText ?xt_NoText ?xm_NoText ?xv_NoText ?xehg_NoText ?xehk_NoText ?xehs_NoText ?xehd_NoText ?xeha_NoText ?xehn_NoText ?xeht_NoText ?xehm_NoText ?xy_NoText_NoOrder ?xy_NoText_NoWay ?xy_NoText_NoFit ?xy_NoText_NoPlace ?xy_NoText_NoNumber ?xy_NoText_TooMany ?xy_NoText_NoText ?xy_NoText_NoName ?xy_NoText_NoRow ?xq_NoRow ?xk_NoRow ?xt_NoRow ?xm_NoRow ?xv_NoRow ?xehg_NoRow ?xehk_NoRow ?xehs_NoRow ?xehd_NoRow ?xeha_NoRow ?xehn_NoRow ?xeht_NoRow ?xehm_NoRow ?xy_NoRow_NoOrder ?xy_NoRow_NoWay ?xy_NoRow_NoFit ?xy_NoRow_NoPlace ?xy_NoRow_NoNumber ?xy_NoRow_TooMany ?xy_NoRow_NoText ?xy_NoRow_NoName ?xy_NoRow_NoRow ?z_ValueError ?z_abs ?z_all ?z_bool ?z_enumerate ?z_int ?z_isinstance ?z_len ?z_list ?z_max ?z_min ?z_range ?z_sorted ?z_str ?z_sum ?z_tuple ?z_zip ?e_is_far ?u_is_far ?v_is_far ?n_is_far (fun y hy c P ht => tabs y c P ?tabn ht)
    (case a0 => k_is); (case l0 => k_is); (case c0 => k_is); (case k0 => k_is); (case a1 => k_is); (case l1 => k_is); (case c1 => k_is); (case k1 => k_is); (case a2 => k_is); (case l2 => k_is); (case c2 => k_is); (case k2 => k_is); (case a3 => k_is); (case l3 => k_is); (case c3 => k_is); (case k3 => k_is); (case a4 => k_is); (case l4 => k_is); (case c4 => k_is); (case k4 => k_is); (case a5 => k_is); (case l5 => k_is); (case c5 => k_is); (case k5 => k_is); (case a6 => k_is); (case l6 => k_is); (case c6 => k_is); (case k6 => k_is); (case a7 => k_is); (case l7 => k_is); (case c7 => k_is); (case k7 => k_is); (case a8 => k_is); (case l8 => k_is); (case c8 => k_is); (case k8 => k_is); (case a9 => k_is); (case l9 => k_is); (case c9 => k_is); (case k9 => k_is); (case a10 => k_is); (case l10 => k_is); (case c10 => k_is); (case k10 => k_is); (case a11 => k_is); (case l11 => k_is); (case c11 => k_is); (case k11 => k_is); (case a12 => k_is); (case l12 => k_is); (case c12 => k_is); (case k12 => k_is); (case a13 => k_is); (case l13 => k_is); (case c13 => k_is); (case k13 => k_is); (case a14 => k_is); (case l14 => k_is); (case c14 => k_is); (case k14 => k_is); (case a15 => k_is); (case l15 => k_is); (case c15 => k_is); (case k15 => k_is); (case a16 => k_is); (case l16 => k_is); (case c16 => k_is); (case k16 => k_is); (case a17 => k_is); (case l17 => k_is); (case c17 => k_is); (case k17 => k_is); (case a18 => k_is); (case l18 => k_is); (case c18 => k_is); (case k18 => k_is); (case a19 => k_is); (case l19 => k_is); (case c19 => k_is); (case k19 => k_is); (case a20 => k_is); (case l20 => k_is); (case c20 => k_is); (case k20 => k_is); (case a21 => k_is); (case l21 => k_is); (case c21 => k_is); (case k21 => k_is); (case a22 => k_is); (case l22 => k_is); (case c22 => k_is); (case k22 => k_is); (case a23 => k_is); (case l23 => k_is); (case c23 => k_is); (case k23 => k_is); (case a24 => k_is); (case l24 => k_is); (case c24 => k_is); (case k24 => k_is); (case a25 => k_is); (case l25 => k_is); (case c25 => k_is); (case k25 => k_is); (case a26 => k_is); (case l26 => k_is); (case c26 => k_is); (case k26 => k_is); (case a27 => k_is); (case l27 => k_is); (case c27 => k_is); (case k27 => k_is); (case a28 => k_is); (case l28 => k_is); (case c28 => k_is); (case k28 => k_is); (case a29 => k_is); (case l29 => k_is); (case c29 => k_is); (case k29 => k_is); (case a30 => k_is); (case l30 => k_is); (case c30 => k_is); (case k30 => k_is); (case a31 => k_is); (case l31 => k_is); (case c31 => k_is); (case k31 => k_is); (case a32 => k_is); (case l32 => k_is); (case c32 => k_is); (case k32 => k_is); (case a33 => k_is); (case l33 => k_is); (case c33 => k_is); (case k33 => k_is); (case a34 => k_is); (case l34 => k_is); (case c34 => k_is); (case k34 => k_is); (case a35 => k_is); (case l35 => k_is); (case c35 => k_is); (case k35 => k_is); (case a36 => k_is); (case l36 => k_is); (case c36 => k_is); (case k36 => k_is); (case a37 => k_is); (case l37 => k_is); (case c37 => k_is); (case k37 => k_is); (case a38 => k_is); (case l38 => k_is); (case c38 => k_is); (case k38 => k_is); (case a39 => k_is); (case l39 => k_is); (case c39 => k_is); (case k39 => k_is); (case a40 => k_is); (case l40 => k_is); (case c40 => k_is); (case k40 => k_is); (case a41 => k_is); (case l41 => k_is); (case c41 => k_is); (case k41 => k_is); (case a42 => k_is); (case l42 => k_is); (case c42 => k_is); (case k42 => k_is); (case a43 => k_is); (case l43 => k_is); (case c43 => k_is); (case k43 => k_is); (case a44 => k_is); (case l44 => k_is); (case c44 => k_is); (case k44 => k_is); (case a45 => k_is); (case l45 => k_is); (case c45 => k_is); (case k45 => k_is); (case a46 => k_is); (case l46 => k_is); (case c46 => k_is); (case k46 => k_is); (case a47 => k_is); (case l47 => k_is); (case c47 => k_is); (case k47 => k_is); (case a48 => k_is); (case l48 => k_is); (case c48 => k_is); (case k48 => k_is); (case a49 => k_is); (case l49 => k_is); (case c49 => k_is); (case k49 => k_is); (case a50 => k_is); (case l50 => k_is); (case c50 => k_is); (case k50 => k_is); (case a51 => k_is); (case l51 => k_is); (case c51 => k_is); (case k51 => k_is); (case a52 => k_is); (case l52 => k_is); (case c52 => k_is); (case k52 => k_is); (case a53 => k_is); (case l53 => k_is); (case c53 => k_is); (case k53 => k_is); (case a54 => k_is); (case l54 => k_is); (case c54 => k_is); (case k54 => k_is); (case a55 => k_is); (case l55 => k_is); (case c55 => k_is); (case k55 => k_is); (case a56 => k_is); (case l56 => k_is); (case c56 => k_is); (case k56 => k_is); (case a57 => k_is); (case l57 => k_is); (case c57 => k_is); (case k57 => k_is); (case a58 => k_is); (case l58 => k_is); (case c58 => k_is); (case k58 => k_is); (case a59 => k_is); (case l59 => k_is); (case c59 => k_is); (case k59 => k_is); (case a60 => k_is); (case l60 => k_is); (case c60 => k_is); (case k60 => k_is); (case a61 => k_is); (case l61 => k_is); (case c61 => k_is); (case k61 => k_is); (case a62 => k_is); (case l62 => k_is); (case c62 => k_is); (case k62 => k_is); (case a63 => k_is); (case l63 => k_is); (case c63 => k_is); (case k63 => k_is); (case a64 => k_is); (case l64 => k_is); (case c64 => k_is); (case k64 => k_is); (case a65 => k_is); (case l65 => k_is); (case c65 => k_is); (case k65 => k_is); (case a66 => k_is); (case l66 => k_is); (case c66 => k_is); (case k66 => k_is); (case a67 => k_is); (case l67 => k_is); (case c67 => k_is); (case k67 => k_is); (case a68 => k_is); (case l68 => k_is); (case c68 => k_is); (case k68 => k_is); (case a69 => k_is); (case l69 => k_is); (case c69 => k_is); (case k69 => k_is); (case a70 => k_is); (case l70 => k_is); (case c70 => k_is); (case k70 => k_is); (case a71 => k_is); (case l71 => k_is); (case c71 => k_is); (case k71 => k_is); (case a72 => k_is); (case l72 => k_is); (case c72 => k_is); (case k72 => k_is); (case a73 => k_is); (case l73 => k_is); (case c73 => k_is); (case k73 => k_is); (case a74 => k_is); (case l74 => k_is); (case c74 => k_is); (case k74 => k_is); (case a75 => k_is); (case l75 => k_is); (case c75 => k_is); (case k75 => k_is); (case a76 => k_is); (case l76 => k_is); (case c76 => k_is); (case k76 => k_is); (case a77 => k_is); (case l77 => k_is); (case c77 => k_is); (case k77 => k_is); (case a78 => k_is); (case l78 => k_is); (case c78 => k_is); (case k78 => k_is); (case a79 => k_is); (case l79 => k_is); (case c79 => k_is); (case k79 => k_is); (case a80 => k_is); (case l80 => k_is); (case c80 => k_is); (case k80 => k_is); (case a81 => k_is); (case l81 => k_is); (case c81 => k_is); (case k81 => k_is); (case a82 => k_is); (case l82 => k_is); (case c82 => k_is); (case k82 => k_is); (case g_MOST_THINGS => k_is); (case g_MOST_LISTED => k_is); (case g_MOST_ORDERS => k_is); (case g_MOST_KEPT => k_is); (case g_MOST_POLLED => k_is); (case g_MOST_BY_PAIRS => k_is); (case g_NO_ORDERS => k_is); (case g_DONE => k_is); (case g_NOTHING => k_is); (case g_NUMBERS => k_is); (case g_WAYS => k_is); (case l_WAYS => k_is); (case aC_Lister => k_is); (case am0 => k_is); (case im0 => k_is); (case lm0 => k_is); (case cm0 => k_is); (case km0 => k_is); (case am1 => k_is); (case im1 => k_is); (case lm1 => k_is); (case cm1 => k_is); (case km1 => k_is); (case am2 => k_is); (case im2 => k_is); (case lm2 => k_is); (case cm2 => k_is); (case km2 => k_is); (case am3 => k_is); (case im3 => k_is); (case lm3 => k_is); (case cm3 => k_is); (case km3 => k_is); (case am4 => k_is); (case im4 => k_is); (case lm4 => k_is); (case cm4 => k_is); (case km4 => k_is); (case am5 => k_is); (case im5 => k_is); (case lm5 => k_is); (case cm5 => k_is); (case km5 => k_is); (case am6 => k_is); (case im6 => k_is); (case lm6 => k_is); (case cm6 => k_is); (case km6 => k_is); (case am7 => k_is); (case im7 => k_is); (case lm7 => k_is); (case cm7 => k_is); (case km7 => k_is); (case am8 => k_is); (case im8 => k_is); (case lm8 => k_is); (case cm8 => k_is); (case km8 => k_is); (case pgC => k_is); (case hdC => k_is); (case poC => k_is); (case saC => k_is); (case mkC => k_is); (case kcC => k_is); (case nf_way => k_is); (case nf_n => k_is); (case nf_d => k_is); (case nf_taken => k_is); (case nf_earlier => k_is); (case aC_Desk => k_is); (case ac1_m0 => k_is); (case ic1_m0 => k_is); (case lc1_m0 => k_is); (case cc1_m0 => k_is); (case kc1_m0 => k_is); (case ac1_m1 => k_is); (case ic1_m1 => k_is); (case lc1_m1 => k_is); (case cc1_m1 => k_is); (case kc1_m1 => k_is); (case ac1_m2 => k_is); (case ic1_m2 => k_is); (case lc1_m2 => k_is); (case cc1_m2 => k_is); (case kc1_m2 => k_is); (case pgCc1_ => k_is); (case hdCc1_ => k_is); (case poCc1_ => k_is); (case saCc1_ => k_is); (case mkCc1_ => k_is); (case kcCc1_ => k_is); (case nfc1__lister => k_is); (case gD0 => k_is); (case lD0 => k_is); (case gD1 => k_is); (case lD1 => k_is); (case z_ValueError => k_is); (case z_abs => k_is); (case z_all => k_is); (case z_bool => k_is); (case z_enumerate => k_is); (case z_int => k_is); (case z_isinstance => k_is); (case z_len => k_is); (case z_list => k_is); (case z_max => k_is); (case z_min => k_is); (case z_range => k_is); (case z_sorted => k_is); (case z_str => k_is); (case z_sum => k_is); (case z_tuple => k_is); (case z_zip => k_is)
    (case sD0 => first | k_is | rfl | kernel_rfl); (case eD0_0 => first | k_is | rfl | kernel_rfl); (case eD0_1 => first | k_is | rfl | kernel_rfl); (case eD0_2 => first | k_is | rfl | kernel_rfl); (case eD0_3 => first | k_is | rfl | kernel_rfl); (case eD0_4 => first | k_is | rfl | kernel_rfl); (case eD0_5 => first | k_is | rfl | kernel_rfl); (case eD0_6 => first | k_is | rfl | kernel_rfl); (case sD1 => first | k_is | rfl | kernel_rfl); (case eD1_0 => first | k_is | rfl | kernel_rfl); (case eD1_1 => first | k_is | rfl | kernel_rfl); (case eD1_2 => first | k_is | rfl | kernel_rfl); (case gc_OrderError => first | k_is | rfl | kernel_rfl); (case gc_NoOrder => first | k_is | rfl | kernel_rfl); (case gc_NoWay => first | k_is | rfl | kernel_rfl); (case gc_NoFit => first | k_is | rfl | kernel_rfl); (case gc_NoPlace => first | k_is | rfl | kernel_rfl); (case gc_NoNumber => first | k_is | rfl | kernel_rfl); (case gc_TooMany => first | k_is | rfl | kernel_rfl); (case gc_NoText => first | k_is | rfl | kernel_rfl); (case gc_NoName => first | k_is | rfl | kernel_rfl); (case gc_NoRow => first | k_is | rfl | kernel_rfl); (case xq_NoOrder => first | k_is | rfl | kernel_rfl); (case xk_NoOrder => first | k_is | rfl | kernel_rfl); (case xt_NoOrder => first | k_is | rfl | kernel_rfl); (case xm_NoOrder => first | k_is | rfl | kernel_rfl); (case xv_NoOrder => first | k_is | rfl | kernel_rfl); (case xehg_NoOrder => first | k_is | rfl | kernel_rfl); (case xehk_NoOrder => first | k_is | rfl | kernel_rfl); (case xehs_NoOrder => first | k_is | rfl | kernel_rfl); (case xehd_NoOrder => first | k_is | rfl | kernel_rfl); (case xeha_NoOrder => first | k_is | rfl | kernel_rfl); (case xehn_NoOrder => first | k_is | rfl | kernel_rfl); (case xeht_NoOrder => first | k_is | rfl | kernel_rfl); (case xehm_NoOrder => first | k_is | rfl | kernel_rfl); (case xy_NoOrder_NoOrder => first | k_is | rfl | kernel_rfl); (case xy_NoOrder_NoWay => first | k_is | rfl | kernel_rfl); (case xy_NoOrder_NoFit => first | k_is | rfl | kernel_rfl); (case xy_NoOrder_NoPlace => first | k_is | rfl | kernel_rfl); (case xy_NoOrder_NoNumber => first | k_is | rfl | kernel_rfl); (case xy_NoOrder_TooMany => first | k_is | rfl | kernel_rfl); (case xy_NoOrder_NoText => first | k_is | rfl | kernel_rfl); (case xy_NoOrder_NoName => first | k_is | rfl | kernel_rfl); (case xy_NoOrder_NoRow => first | k_is | rfl | kernel_rfl); (case xq_NoWay => first | k_is | rfl | kernel_rfl); (case xk_NoWay => first | k_is | rfl | kernel_rfl); (case xt_NoWay => first | k_is | rfl | kernel_rfl); (case xm_NoWay => first | k_is | rfl | kernel_rfl); (case xv_NoWay => first | k_is | rfl | kernel_rfl); (case xehg_NoWay => first | k_is | rfl | kernel_rfl); (case xehk_NoWay => first | k_is | rfl | kernel_rfl); (case xehs_NoWay => first | k_is | rfl | kernel_rfl); (case xehd_NoWay => first | k_is | rfl | kernel_rfl); (case xeha_NoWay => first | k_is | rfl | kernel_rfl); (case xehn_NoWay => first | k_is | rfl | kernel_rfl); (case xeht_NoWay => first | k_is | rfl | kernel_rfl); (case xehm_NoWay => first | k_is | rfl | kernel_rfl); (case xy_NoWay_NoOrder => first | k_is | rfl | kernel_rfl); (case xy_NoWay_NoWay => first | k_is | rfl | kernel_rfl); (case xy_NoWay_NoFit => first | k_is | rfl | kernel_rfl); (case xy_NoWay_NoPlace => first | k_is | rfl | kernel_rfl); (case xy_NoWay_NoNumber => first | k_is | rfl | kernel_rfl); (case xy_NoWay_TooMany => first | k_is | rfl | kernel_rfl); (case xy_NoWay_NoText => first | k_is | rfl | kernel_rfl); (case xy_NoWay_NoName => first | k_is | rfl | kernel_rfl); (case xy_NoWay_NoRow => first | k_is | rfl | kernel_rfl); (case xq_NoFit => first | k_is | rfl | kernel_rfl); (case xk_NoFit => first | k_is | rfl | kernel_rfl); (case xt_NoFit => first | k_is | rfl | kernel_rfl); (case xm_NoFit => first | k_is | rfl | kernel_rfl); (case xv_NoFit => first | k_is | rfl | kernel_rfl); (case xehg_NoFit => first | k_is | rfl | kernel_rfl); (case xehk_NoFit => first | k_is | rfl | kernel_rfl); (case xehs_NoFit => first | k_is | rfl | kernel_rfl); (case xehd_NoFit => first | k_is | rfl | kernel_rfl); (case xeha_NoFit => first | k_is | rfl | kernel_rfl); (case xehn_NoFit => first | k_is | rfl | kernel_rfl); (case xeht_NoFit => first | k_is | rfl | kernel_rfl); (case xehm_NoFit => first | k_is | rfl | kernel_rfl); (case xy_NoFit_NoOrder => first | k_is | rfl | kernel_rfl); (case xy_NoFit_NoWay => first | k_is | rfl | kernel_rfl); (case xy_NoFit_NoFit => first | k_is | rfl | kernel_rfl); (case xy_NoFit_NoPlace => first | k_is | rfl | kernel_rfl); (case xy_NoFit_NoNumber => first | k_is | rfl | kernel_rfl); (case xy_NoFit_TooMany => first | k_is | rfl | kernel_rfl); (case xy_NoFit_NoText => first | k_is | rfl | kernel_rfl); (case xy_NoFit_NoName => first | k_is | rfl | kernel_rfl); (case xy_NoFit_NoRow => first | k_is | rfl | kernel_rfl); (case xq_NoNumber => first | k_is | rfl | kernel_rfl); (case xk_NoNumber => first | k_is | rfl | kernel_rfl); (case xt_NoNumber => first | k_is | rfl | kernel_rfl); (case xm_NoNumber => first | k_is | rfl | kernel_rfl); (case xv_NoNumber => first | k_is | rfl | kernel_rfl); (case xehg_NoNumber => first | k_is | rfl | kernel_rfl); (case xehk_NoNumber => first | k_is | rfl | kernel_rfl); (case xehs_NoNumber => first | k_is | rfl | kernel_rfl); (case xehd_NoNumber => first | k_is | rfl | kernel_rfl); (case xeha_NoNumber => first | k_is | rfl | kernel_rfl); (case xehn_NoNumber => first | k_is | rfl | kernel_rfl); (case xeht_NoNumber => first | k_is | rfl | kernel_rfl); (case xehm_NoNumber => first | k_is | rfl | kernel_rfl); (case xy_NoNumber_NoOrder => first | k_is | rfl | kernel_rfl); (case xy_NoNumber_NoWay => first | k_is | rfl | kernel_rfl); (case xy_NoNumber_NoFit => first | k_is | rfl | kernel_rfl); (case xy_NoNumber_NoPlace => first | k_is | rfl | kernel_rfl); (case xy_NoNumber_NoNumber => first | k_is | rfl | kernel_rfl); (case xy_NoNumber_TooMany => first | k_is | rfl | kernel_rfl); (case xy_NoNumber_NoText => first | k_is | rfl | kernel_rfl); (case xy_NoNumber_NoName => first | k_is | rfl | kernel_rfl); (case xy_NoNumber_NoRow => first | k_is | rfl | kernel_rfl); (case xq_TooMany => first | k_is | rfl | kernel_rfl); (case xk_TooMany => first | k_is | rfl | kernel_rfl); (case xt_TooMany => first | k_is | rfl | kernel_rfl); (case xm_TooMany => first | k_is | rfl | kernel_rfl); (case xv_TooMany => first | k_is | rfl | kernel_rfl); (case xehg_TooMany => first | k_is | rfl | kernel_rfl); (case xehk_TooMany => first | k_is | rfl | kernel_rfl); (case xehs_TooMany => first | k_is | rfl | kernel_rfl); (case xehd_TooMany => first | k_is | rfl | kernel_rfl); (case xeha_TooMany => first | k_is | rfl | kernel_rfl); (case xehn_TooMany => first | k_is | rfl | kernel_rfl); (case xeht_TooMany => first | k_is | rfl | kernel_rfl); (case xehm_TooMany => first | k_is | rfl | kernel_rfl); (case xy_TooMany_NoOrder => first | k_is | rfl | kernel_rfl); (case xy_TooMany_NoWay => first | k_is | rfl | kernel_rfl); (case xy_TooMany_NoFit => first | k_is | rfl | kernel_rfl); (case xy_TooMany_NoPlace => first | k_is | rfl | kernel_rfl); (case xy_TooMany_NoNumber => first | k_is | rfl | kernel_rfl); (case xy_TooMany_TooMany => first | k_is | rfl | kernel_rfl); (case xy_TooMany_NoText => first | k_is | rfl | kernel_rfl); (case xy_TooMany_NoName => first | k_is | rfl | kernel_rfl); (case xy_TooMany_NoRow => first | k_is | rfl | kernel_rfl); (case xq_NoText => first | k_is | rfl | kernel_rfl); (case xk_NoText => first | k_is | rfl | kernel_rfl); (case xt_NoText => first | k_is | rfl | kernel_rfl); (case xm_NoText => first | k_is | rfl | kernel_rfl); (case xv_NoText => first | k_is | rfl | kernel_rfl); (case xehg_NoText => first | k_is | rfl | kernel_rfl); (case xehk_NoText => first | k_is | rfl | kernel_rfl); (case xehs_NoText => first | k_is | rfl | kernel_rfl); (case xehd_NoText => first | k_is | rfl | kernel_rfl); (case xeha_NoText => first | k_is | rfl | kernel_rfl); (case xehn_NoText => first | k_is | rfl | kernel_rfl); (case xeht_NoText => first | k_is | rfl | kernel_rfl); (case xehm_NoText => first | k_is | rfl | kernel_rfl); (case xy_NoText_NoOrder => first | k_is | rfl | kernel_rfl); (case xy_NoText_NoWay => first | k_is | rfl | kernel_rfl); (case xy_NoText_NoFit => first | k_is | rfl | kernel_rfl); (case xy_NoText_NoPlace => first | k_is | rfl | kernel_rfl); (case xy_NoText_NoNumber => first | k_is | rfl | kernel_rfl); (case xy_NoText_TooMany => first | k_is | rfl | kernel_rfl); (case xy_NoText_NoText => first | k_is | rfl | kernel_rfl); (case xy_NoText_NoName => first | k_is | rfl | kernel_rfl); (case xy_NoText_NoRow => first | k_is | rfl | kernel_rfl); (case xq_NoRow => first | k_is | rfl | kernel_rfl); (case xk_NoRow => first | k_is | rfl | kernel_rfl); (case xt_NoRow => first | k_is | rfl | kernel_rfl); (case xm_NoRow => first | k_is | rfl | kernel_rfl); (case xv_NoRow => first | k_is | rfl | kernel_rfl); (case xehg_NoRow => first | k_is | rfl | kernel_rfl); (case xehk_NoRow => first | k_is | rfl | kernel_rfl); (case xehs_NoRow => first | k_is | rfl | kernel_rfl); (case xehd_NoRow => first | k_is | rfl | kernel_rfl); (case xeha_NoRow => first | k_is | rfl | kernel_rfl); (case xehn_NoRow => first | k_is | rfl | kernel_rfl); (case xeht_NoRow => first | k_is | rfl | kernel_rfl); (case xehm_NoRow => first | k_is | rfl | kernel_rfl); (case xy_NoRow_NoOrder => first | k_is | rfl | kernel_rfl); (case xy_NoRow_NoWay => first | k_is | rfl | kernel_rfl); (case xy_NoRow_NoFit => first | k_is | rfl | kernel_rfl); (case xy_NoRow_NoPlace => first | k_is | rfl | kernel_rfl); (case xy_NoRow_NoNumber => first | k_is | rfl | kernel_rfl); (case xy_NoRow_TooMany => first | k_is | rfl | kernel_rfl); (case xy_NoRow_NoText => first | k_is | rfl | kernel_rfl); (case xy_NoRow_NoName => first | k_is | rfl | kernel_rfl); (case xy_NoRow_NoRow => first | k_is | rfl | kernel_rfl)
    (case e_is_far => exact rfl); (case u_is_far => k_is); (case v_is_far => exact rfl); (case n_is_far => kernel_rfl)
    case tabn =>
      simp only [List.mem_cons, List.not_mem_nil, or_false] at hy
      rcases hy with rfl <;> decide +kernel
