import PyProof.Rows.All
import Wide.All
import OpenK.AllK
import Wide.FinOn
import HandS.ForMost
import HandS.More
import HandS.Style
import HandS.Evl
import HandS.Walk
import PySem.Challenge.RW_maskedlevels_k07_words_and_moves
set_option Elab.async false
set_option maxRecDepth 100000
set_option maxHeartbeats 4000000
namespace M
open PySem L2
def top (i : Nat) : Stmt := PySem.Challenge.pw_maskedlevels_k07_words_and_moves.main.body.getD i (.Pass ⟨0, 0, 0, 0⟩)
abbrev s_is_word : Stmt := top 2
abbrev s_is_move : Stmt := top 4
abbrev s__law_numbers : Stmt := top 6
abbrev s__law_pool : Stmt := top 7
abbrev s__law_draw : Stmt := top 8
abbrev s__law_pick : Stmt := top 9
abbrev s__law_opened : Stmt := top 10
abbrev s__law_text : Stmt := top 11
abbrev s__law_is : Stmt := top 12
abbrev s_law : Stmt := top 13
/-- what the top has left: the built-ins are themselves, the constant -/
structure Txt (mg : Str → Option Value) : Prop where
  max : mg "max" = none
  min : mg "min" = none
  int : mg "int" = none
  str : mg "str" = none
  tuple : mg "tuple" = none
  type : mg "type" = none
  len : mg "len" = none
  all : mg "all" = none
  range : mg "range" = none
  lw : ∃ u, mg "LONGEST_WORD" = some (.int 8 u)
abbrev Ex := Evl.Ex
/-- all but what stands at p stays -/
def ExP (p : Addr) (H H' : Hp) : Prop := ∀ a o, a ≠ p → H a = some o → H' a = some o
def PoolAt (H : Hp) (p : Addr) : Prop := ∃ (q : Addr) (ns : List Int) (n : Int), H p = some (.lst [.ref q, .int n]) ∧ H q = some (.lst (ns.map V.int)) ∧ 0 ≤ n ∧ q ≠ p
def spNumbers (K : PySem.W.Frag) : Sp := fun vs H Q _ => ∃ (c s : Int) (a : Addr) (zs : List Int), vs = [.int c, .int s, .ref a] ∧ SqL K H a (zs.map V.int) ∧ zs.length ≤ 1000 ∧ 0 ≤ s ∧ s ≤ 1000 ∧ (∀ z ∈ zs, 0 < z ∧ z < 1000) ∧
  ∀ (p : Addr) (ns : List Int) (H' : Hp), H p = none → Ex H H' → H' p = some (.lst (ns.map V.int)) → Q (.ref p) H'
def spDraw : Sp := fun vs H Q _ => ∃ (p : Addr) (m : Int), vs = [.ref p, .int m] ∧ 0 < m ∧ PoolAt H p ∧
  ∀ (r : Int) (H' : Hp), 0 ≤ r → r < m → PoolAt H' p → ExP p H H' → Q (.int r) H'
theorem atI_int {α : Type} {xs : List α} {i : Int} {v : α} (h0 : 0 ≤ i) (h : xs[i.toNat]? = some v) : atI xs i = some v := by
  have e : ((i.toNat : Nat) : Int) = i := by omega
  have z := atI_nat h
  rwa [e] at z
section
variable {P : Program} {w : World} {K : PySem.W.Frag} {mg : Str → Option Value} {base : Heap}
theorem sc__law_draw : FnScope ["_law_pool_here", "_law_many", "_law_at"] ["_law_pool_here", "_law_many"] (defScope s__law_draw) := ⟨rfl, rfl, rfl, by decide +kernel, rfl, by decide +kernel, by decide +kernel⟩
theorem ok_draw {f : Addr} {fd : FuncData} (F : Fun K "_law_draw" "_law_draw" s__law_draw f fd) (T : Txt mg) : FnOk P w K mg base CX0 1 f fd ["_law_pool_here", "_law_many"] spDraw := by
  have nd := sc__law_draw.nd
  refine F.ok sc__law_draw (fun vs H Q E h => ?_) (fun cdv A outer s H vs Q E hr h => ?_)
  · obtain ⟨p, m, rfl, _⟩ := h
    rfl
  · obtain ⟨p, m, rfl, hm, ⟨q, ns, n, hp, hq, hn, hne⟩, k⟩ := h
    refine ⟨_, (pss_cons (ps_set (i := 2) nd rfl (Or.inl rfl) (pe_ix ix_list (pv 0) pe_int (fun _ _ => rfl)))
      (pss_cons (ps_asg (pe_op op_add (pv 2) pe_int) (pg_sub (pv 0) pe_int set_list))
      (pss_one (ps_ret (pe_ifExp (pt_cmpR op_lt (pv 2) (pe_callB call_len_seq (by rfl) T.len (by decide +kernel) (pa_cons (pe_ix ix_list (pv 0) pe_int (fun _ _ => rfl)) pa_nil)) (nomark _)) (pe_op op_mod (pe_callTy call_int1 (by rfl) T.int (by decide +kernel) (pa_cons (pe_ix ix_list (pe_ix ix_list (pv 0) pe_int (fun _ _ => rfl)) (pv 2) (fun _ _ => rfl)) pa_nil)) (pv 1)) pe_int))))), ?_⟩
    have hs : SqL K H p [.ref q, .int n] := SqL.of hp
    refine ⟨_, rfl, p, _, 1, _, rfl, rfl, hs, rfl, _, rfl, n, 1, rfl, rfl, _, rfl, p, _, 1, 1, rfl, rfl, hp, rfl, _, rfl, ?_⟩
    have h1 : (upd H p (.lst [.ref q, .int (n + 1)])) p = some (.lst [.ref q, .int (n + 1)]) := upd_same
    have h2 : (upd H p (.lst [.ref q, .int (n + 1)])) q = some (.lst (ns.map V.int)) := (upd_ne hne).trans hq
    have hE : ExP p H (upd H p (.lst [.ref q, .int (n + 1)])) := fun a o ha ho => (upd_ne ha).trans ho
    have hP : PoolAt (upd H p (.lst [.ref q, .int (n + 1)])) p := ⟨q, ns, n + 1, h1, h2, by omega, hne⟩
    refine ⟨_, rfl, p, _, 0, _, rfl, rfl, SqL.of h1, rfl, q, _, rfl, Or.inl (SqL.of h2), n, ((ns.map V.int).length : Int), rfl, rfl, _, rfl, ?_⟩
    refine ite2 (fun hlt => ?_) (fun _ => k 0 _ (by omega) hm hP hE)
    have hlt' : n < (ns.length : Int) := by simpa using hlt
    have hn' : n.toNat < ns.length := by omega
    have hat : atI (ns.map V.int) n = some (.int (ns[n.toNat]'hn')) := atI_int hn (by simp [hn'])
    refine ⟨_, rfl, p, _, 0, _, rfl, rfl, SqL.of h1, rfl, _, rfl, q, _, n, _, rfl, rfl, SqL.of h2, hat, Or.inl ⟨_, rfl, _, rfl, _, _, rfl, rfl, hm, ?_⟩⟩
    exact k _ _ (Int.emod_nonneg _ (by omega)) (Int.emod_lt_of_pos _ hm) hP hE
theorem sc__law_numbers : FnScope ["_law_cell", "_law_salt", "_law_sizes", "_law_whole", "_law_left", "_law_result", "_law_k", "_law_one"] ["_law_cell", "_law_salt", "_law_sizes"] (defScope s__law_numbers) := ⟨rfl, rfl, rfl, by decide +kernel, rfl, by decide +kernel, by decide +kernel⟩
def NumW (H : Hp) (c sl wh : Int) (a l : Addr) (i : Nat) (σ : L2.St) (H' : Hp) : Prop := ∃ (left : Int) (kk one : Option V) (ns : List Int), σ = [some (.int c), some (.int sl), some (.ref a), some (.int wh), some (.int left), some (.ref l), kk, one] ∧ Ex H H' ∧ H' l = some (.lst (ns.map V.int)) ∧ ns.length = i
theorem NumW.last {H H1 : Hp} {c sl wh left : Int} {a l : Addr} {i : Nat} {kk one : Option V} {ns : List Int} (hl : H l = none) (e1 : Ex H H1) (h1 : H1 l = some (.lst (ns.map V.int))) (hn : ns.length = i) (v : Int) :
    NumW H c sl wh a l (i + 1) [some (.int c), some (.int sl), some (.ref a), some (.int wh), some (.int left), some (.ref l), kk, one] (upd H1 l (.lst (ns.map V.int ++ [.int v]))) :=
  ⟨left, kk, one, ns ++ [v], rfl, Evl.Ex.mut e1 hl, by rw [upd_same, List.map_append]; rfl, by rw [List.length_append, hn]; rfl⟩
theorem pow_lt {a b : Int} (h0 : -b < a) (h1 : a < b) (hb : b ≤ 4294967296) : a.natAbs < 2 ^ 64 := by omega
theorem ok_numbers {f : Addr} {fd : FuncData} (F : Fun K "_law_numbers" "_law_numbers" s__law_numbers f fd) (T : Txt mg) : FnOk P w K mg base CX0 1 f fd ["_law_cell", "_law_salt", "_law_sizes"] (spNumbers K) := by
  have nd := sc__law_numbers.nd
  refine F.ok sc__law_numbers (fun vs H Q E h => ?_) (fun cdv A outer s H vs Q E hr h => ?_)
  · obtain ⟨c, s, a, zs, rfl, _⟩ := h
    rfl
  · obtain ⟨c, sl, a, zs, rfl, hzs, hlen, hs0, hs1, hz, k⟩ := h
    refine ⟨_, (pss_cons (ps_set (i := 3) nd rfl (Or.inl rfl) (pe_callB (call_max2 rfl) (by rfl) T.max (by decide +kernel) (pa_cons (pe_callTy call_int1 (by rfl) T.int (by decide +kernel) (pa_cons (pv 0) pa_nil)) (pa_cons (pe_callTy call_int1 (by rfl) T.int (by decide +kernel) (pa_cons (pe_op op_sub (pe_un un_neg pe_int) (pv 0)) pa_nil)) pa_nil))))
      (pss_cons (ps_set (i := 4) nd rfl (Or.inl rfl) (pv 3))
      (pss_cons (ps_set (i := 5) nd rfl (Or.inl rfl) (pe_lst pa_nil))
      (pss_cons (ps_for PassesOwn.never rfl (pi_range1 (by rfl) T.range (pa_cons (pe_callB call_len_seq (by rfl) T.len (by decide +kernel) (pa_cons (pv 2) pa_nil)) pa_nil)) (pg_name (i := 6) nd rfl (Or.inl rfl))
        (pss_one (ps_if (PW.pt (pw_and (pt_cmpR op_ge (pv 3) (pe_op op_pow pe_int pe_int) (nomark _)) (pw_and1 (pt_cmpR op_gt (pv 4) pe_int (nomark _)))))
          (pss_cons (ps_expr (pe_bm PySem.F.plainAttrs_list PySem.F.slot_list_append PySem.F.type_list_append mt_append (pv 5) (pa_cons (pe_op op_mod (pe_callTy call_int1 (by rfl) T.int (by decide +kernel) (pa_cons (pv 4) pa_nil)) (pe_ix ix_list (pv 2) (pv 6) (fun _ _ => rfl))) pa_nil)))
          (pss_one (ps_set (i := 4) nd rfl (Or.inl rfl) (pe_op op_fdiv (pv 4) (pe_ix ix_list (pv 2) (pv 6) (fun _ _ => rfl))))))
          (pss_cons (ps_set (i := 7) nd rfl (Or.inl rfl) (pe_op op_pow (pe_op op_add (pe_op op_add (pe_op op_mod (pe_callTy call_int1 (by rfl) T.int (by decide +kernel) (pa_cons (pv 3) pa_nil)) pe_int) (pe_op op_mul pe_int (pv 1))) pe_int) pe_int))
          (pss_cons (ps_set (i := 7) nd rfl (Or.inl rfl) (pe_op op_mul (pe_op op_add (pe_op op_mod (pe_callTy call_int1 (by rfl) T.int (by decide +kernel) (pa_cons (pv 7) pa_nil)) pe_int) (pe_op op_mul pe_int (pe_op op_add (pv 6) pe_int))) (pe_op op_add (pv 6) pe_int)))
          (pss_cons (ps_set (i := 7) nd rfl (Or.inl rfl) (pe_op op_mod (pe_callTy call_int1 (by rfl) T.int (by decide +kernel) (pa_cons (pv 7) pa_nil)) pe_int))
          (pss_cons (ps_set (i := 7) nd rfl (Or.inl rfl) (pe_op op_mul (pe_op op_mod (pe_callTy call_int1 (by rfl) T.int (by decide +kernel) (pa_cons (pe_op op_pow (pv 7) pe_int) pa_nil)) pe_int) pe_int))
          (pss_cons (ps_set (i := 7) nd rfl (Or.inl rfl) (pe_op op_mod (pe_callTy call_int1 (by rfl) T.int (by decide +kernel) (pa_cons (pv 7) pa_nil)) pe_int))
          (pss_one (ps_expr (pe_bm PySem.F.plainAttrs_list PySem.F.slot_list_append PySem.F.type_list_append mt_append (pv 5) (pa_cons (pe_op op_mod (pe_callTy call_int1 (by rfl) T.int (by decide +kernel) (pa_cons (pe_op op_fdiv (pv 7) pe_int) pa_nil)) (pe_ix ix_list (pv 2) (pv 6) (fun _ _ => rfl))) pa_nil))))))))))))
      (pss_one (ps_ret (pv 5))))))), ?_⟩
    refine ⟨_, rfl, Or.inl ⟨_, rfl, _, rfl, _, rfl, _, _, rfl, rfl, Or.inl ⟨_, rfl, _, _, rfl, ?_⟩⟩⟩
    generalize (if (-1 - c : Int) > c then (-1 - c : Int) else c) = wh
    refine ⟨_, rfl, by show 0 ≤ sizeLine; decide, fun l hl => ?_⟩
    have e0 : Ex H (upd H l (.lst [])) := Evl.Ex.new hl
    have hzs0 := Evl.ex_l e0 hzs
    refine ⟨_, rfl, _, _, rfl, Or.inl hzs0, _, rfl, by rw [List.length_map]; omega, by rw [List.length_map]; omega, ?_⟩
    have hN : ((((zs.map V.int).length : Nat) : Int)).toNat = zs.length := by rw [List.length_map]; omega
    rw [hN]
    refine for_range (lo := 0) (n := zs.length) (NumW H c sl wh a l) ⟨wh, none, none, [], rfl, e0, upd_same, rfl⟩ ?_ ?_
    · rintro i σ H1 hi ⟨left, kk, one, ns, rfl, e1, h1, hn⟩
      have hk0 : (0 : Int) + (i : Int) = (i : Int) := Int.zero_add _
      rw [hk0]
      have hz1 : SqL K H1 a (zs.map V.int) := Evl.ex_l e1 hzs
      obtain ⟨z, hzi⟩ : ∃ z, zs[i]? = some z := ⟨zs[i], List.getElem?_eq_getElem hi⟩
      have hat : atI (zs.map V.int) (i : Int) = some (.int z) := atI_nat (by rw [List.getElem?_map, hzi]; rfl)
      have hzp := hz z (List.mem_of_getElem? hzi)
      have hnl : (ns.map V.int).length < sizeLine := by rw [List.length_map]; exact small1000 (by omega)
      have hsl : SqL K H1 l (ns.map V.int) := SqL.of h1
      refine ⟨_, rfl, _, _, rfl, rfl, ⟨by decide, by decide, by decide⟩, _, _, rfl, rfl, _, rfl, ?_⟩
      refine ite2 (fun _ => ⟨_, rfl, _, _, rfl, rfl, _, rfl, ite2 (fun _ => ?hA) (fun _ => ?hB)⟩) (fun _ => iteF ?hC)
      case hA =>
        refine ⟨_, rfl, Or.inl ⟨rfl, _, hsl⟩, _, rfl, Or.inl ⟨_, rfl, _, rfl, _, rfl, _, _, _, _, rfl, rfl, hz1, hat, _, _, rfl, rfl, hzp.1, _, _, _, rfl, rfl, h1, hnl, ?_⟩⟩
        have e2 : Ex H (upd H1 l (.lst (ns.map V.int ++ [.int (left % z)]))) := Evl.Ex.mut e1 hl
        refine ⟨_, rfl, _, rfl, _, rfl, _, _, _, _, rfl, rfl, Evl.ex_l e2 hzs, hat, _, _, rfl, rfl, ⟨hzp.1, by omega⟩, ?_⟩
        exact NumW.last hl e1 h1 hn _
      all_goals
        refine ⟨_, rfl, Or.inl ⟨_, rfl, _, _, rfl, rfl, (by show (0:Int) < 2147483629; decide), _, rfl, _, _, rfl, rfl, Or.inl ⟨by decide, by decide⟩, _, _, rfl, rfl, _, _, rfl, rfl, _, _, rfl, rfl, ⟨by decide, by decide, ?pw⟩, ?_⟩⟩
        case pw =>
          have h1 := Int.emod_nonneg wh (show (2147483629 : Int) ≠ 0 by decide)
          have h2 := Int.emod_lt_of_pos wh (show (0 : Int) < 2147483629 by decide)
          omega
        refine ⟨_, rfl, Or.inl ⟨_, rfl, _, _, rfl, rfl, (by show (0:Int) < 2147483647; decide), _, rfl, _, _, rfl, rfl, _, _, rfl, rfl, Or.inl ⟨by decide, by decide⟩, _, _, rfl, rfl, _, rfl, _, _, rfl, rfl, _, _, rfl, rfl, Or.inr ⟨by omega, by omega⟩, ?_⟩⟩
        refine ⟨_, rfl, Or.inl ⟨_, rfl, _, _, rfl, rfl, (by show (0:Int) < 2147483629; decide), ?_⟩⟩
        refine ⟨_, rfl, _, _, rfl, rfl, ⟨by decide, by decide, ?pw⟩, Or.inl ⟨_, rfl, _, _, rfl, rfl, (by show (0:Int) < 2147483647; decide), _, _, rfl, rfl, Or.inr ⟨by decide, by decide⟩, ?_⟩⟩
        case pw =>
          have h2 := Int.emod_nonneg (((wh % 2147483629 + 7919 * sl + 1) ^ (Int.toNat 3) % 2147483647 + 104729 * ((i : Int) + 1)) * ((i : Int) + 3)) (show (2147483629 : Int) ≠ 0 by decide)
          have h3 := Int.emod_lt_of_pos (((wh % 2147483629 + 7919 * sl + 1) ^ (Int.toNat 3) % 2147483647 + 104729 * ((i : Int) + 1)) * ((i : Int) + 3)) (show (0 : Int) < 2147483629 by decide)
          omega
        refine ⟨_, rfl, Or.inl ⟨_, rfl, _, _, rfl, rfl, (by show (0:Int) < 2147483629; decide), ?_⟩⟩
        refine ⟨_, rfl, Or.inl ⟨rfl, _, hsl⟩, _, rfl, _, _, rfl, rfl, ⟨by decide, by decide⟩, Or.inl ⟨_, rfl, _, rfl, _, rfl, _, _, _, _, rfl, rfl, hz1, hat, _, _, rfl, rfl, hzp.1, _, _, _, rfl, rfl, h1, hnl, ?_⟩⟩
        exact NumW.last hl e1 h1 hn _
    · rintro σ H1 ⟨left, kk, one, ns, rfl, e1, h1, hn⟩
      exact ⟨_, rfl, k l ns H1 hl e1 h1⟩
end
end M
namespace M
open PySem L2
/-- a def of the text is there and keeps its promise -/
structure Has (P : Program) (w : World) (K : PySem.W.Frag) (mg : Str → Option Value) (base : Heap) (k : Nat) (x : Str) (ps : List Str) (sp : Sp) : Prop where
  ex : ∃ (f : Addr) (fd : FuncData), FnOk P w K mg base CX0 k f fd ps sp ∧ mg x = some (.ref f) ∧ PySem.W.keepIn K (.ref f) = true ∧ Binds K fd ps []
def spPool : Sp := fun vs H Q _ => ∃ (c s m : Int), vs = [.int c, .int s, .int m] ∧ 0 ≤ s ∧ s ≤ 1000 ∧ 0 ≤ m ∧ m ≤ 1000 ∧ ∀ (p : Addr) (H' : Hp), H p = none → Ex H H' → PoolAt H' p → Q (.ref p) H'
def spOpened (K : PySem.W.Frag) : Sp := fun vs H Q _ => ∃ (a : Addr) (ns : List Int) (i m : Int), vs = [.ref a, .int i, .int m] ∧ SqL K H a (ns.map V.int) ∧ 0 ≤ i ∧ i ≤ 1000 ∧ (ns ≠ [] → i < ns.length) ∧ 0 ≤ m ∧ m ≤ 1000 ∧
  ∀ (p : Addr) (H' : Hp), H p = none → Ex H H' → PoolAt H' p → Q (.ref p) H'
def spPick (K : PySem.W.Frag) : Sp := fun vs H Q _ => ∃ (p a : Addr) (xs : List V), vs = [.ref p, .ref a] ∧ SqL K H a xs ∧ xs ≠ [] ∧ a ≠ p ∧ PoolAt H p ∧
  ∀ (x : V) (H' : Hp), x ∈ xs → PoolAt H' p → ExP p H H' → Q x H'
theorem replicate_map (n : Nat) (v : Int) : (List.replicate n [V.int v]).flatten = (List.replicate n v).map V.int := by
  induction n with
  | zero => rfl
  | succ n ih => rw [List.replicate_succ, List.flatten_cons, ih]; rfl
theorem dpall_ints {K : PySem.W.Frag} {H : Hp} : ∀ ns : List Int, DpAll K H (ns.map V.int) (ns.map PyData.int)
  | [] => .nil
  | n :: ns => .cons (.int n) (dpall_ints ns)
theorem shaped_ints (ns : List Int) : SeqAt.shaped (.list (ns.map PyData.int)) = true := by
  have h1 : ∀ ns : List Int, PyData.canLayAll0 (ns.map PyData.int) = true := fun ns => by
    induction ns with
    | nil => rfl
    | cons n ns ih => simp [PyData.canLayAll0, PyData.canLay0, ih]
  have h2 : ∀ ns : List Int, PyData.depthAll (ns.map PyData.int) ≤ 1 := fun ns => by
    induction ns with
    | nil => simp [PyData.depthAll]
    | cons n ns ih => simp [PyData.depthAll, PyData.depth]; omega
  have h3 := h2 ns
  unfold SeqAt.shaped
  simp [PyData.canLay0, h1, PyData.depth]
  omega
theorem eqv_nil (ns : List Int) : PyData.eqv (.list (ns.map PyData.int)) (.list []) = decide (ns = []) := by
  cases ns <;> simp [PyData.eqv, PyData.eqvAll]
section
variable {P : Program} {w : World} {K : PySem.W.Frag} {mg : Str → Option Value} {base : Heap}
theorem sc__law_pool : FnScope ["_law_cell", "_law_salt", "_law_many"] ["_law_cell", "_law_salt", "_law_many"] (defScope s__law_pool) := ⟨rfl, rfl, rfl, by decide +kernel, rfl, by decide +kernel, by decide +kernel⟩
theorem ok_pool {f : Addr} {fd : FuncData} (F : Fun K "_law_pool" "_law_pool" s__law_pool f fd) (hnum : Has P w K mg base 1 "_law_numbers" ["_law_cell", "_law_salt", "_law_sizes"] (spNumbers K)) : FnOk P w K mg base CX0 2 f fd ["_law_cell", "_law_salt", "_law_many"] spPool := by
  have nd := sc__law_pool.nd
  obtain ⟨fn, fdn, G, mgn, kpn, bn⟩ := hnum.ex
  refine F.ok sc__law_pool (fun vs H Q E h => ?_) (fun cdv A outer s H vs Q E hr h => ?_)
  · obtain ⟨c, s, m, rfl, _⟩ := h
    rfl
  · obtain ⟨c, sl, m, rfl, hs0, hs1, hm0, hm1, k⟩ := h
    refine ⟨_, (pss_one (ps_ret (pe_lst (pa_cons (pe_call G hr rfl mgn kpn bn .nil pass0 (pa_cons (pv 0) (pa_cons (pv 1) (pa_cons (pe_op op_rep (pe_lst (pa_cons pe_int pa_nil)) (pv 2)) pa_nil)))) (pa_cons pe_int pa_nil))))), ?_⟩
    refine ⟨_, rfl, _, rfl, by show 1 ≤ sizeLine; decide, fun l1 hl1 => ⟨_, rfl, l1, m, _, rfl, rfl, upd_same, by omega, by omega, ?_, fun l2 hl2 => ?_⟩⟩
    · rw [sizeLine_eq]; show 1 * m.toNat ≤ _; omega
    have e1 : Ex H (upd H l1 (.lst [.int 420])) := Evl.Ex.new hl1
    have e2 : Ex H (upd (upd H l1 (.lst [.int 420])) l2 (.lst (List.replicate m.toNat [V.int 420]).flatten)) := e1.trans (Evl.Ex.new hl2)
    refine ⟨c, sl, l2, List.replicate m.toNat 420, rfl, ?_, ?_, hs0, hs1, ?_, fun q ns H1 hq e3 h1 => ?_⟩
    · rw [replicate_map]; exact SqL.of upd_same
    · rw [List.length_replicate]; omega
    · intro z hz
      rw [List.mem_replicate] at hz
      omega
    refine ⟨by show 2 ≤ sizeLine; decide, fun p hp => ?_⟩
    have e4 : Ex H (upd H1 p (.lst [.ref q, .int 0])) := (e2.trans e3).trans (Evl.Ex.new hp)
    refine k p _ (Evl.fresh_back (e2.trans e3) hp) e4 ⟨q, ns, 0, upd_same, ?_, Int.le_refl _, ne_of_none h1 hp⟩
    rw [upd_ne (ne_of_none h1 hp)]
    exact h1
theorem sc__law_pick : FnScope ["_law_pool_here", "_law_some"] ["_law_pool_here", "_law_some"] (defScope s__law_pick) := ⟨rfl, rfl, rfl, by decide +kernel, rfl, by decide +kernel, by decide +kernel⟩
theorem exp_l {p a : Addr} {H H' : Hp} {xs : List V} (e : ExP p H H') (ha : a ≠ p) (h : SqL K H a xs) : SqL K H' a xs := by
  rcases h with (h | ⟨o, h⟩) | h
  · exact .inl (.inl (e _ _ ha h))
  · exact .inl (.inr ⟨o, e _ _ ha h⟩)
  · exact .inr h
theorem ok_pick {f : Addr} {fd : FuncData} (F : Fun K "_law_pick" "_law_pick" s__law_pick f fd) (T : Txt mg) (hdraw : Has P w K mg base 1 "_law_draw" ["_law_pool_here", "_law_many"] spDraw) : FnOk P w K mg base CX0 2 f fd ["_law_pool_here", "_law_some"] (spPick K) := by
  have nd := sc__law_pick.nd
  obtain ⟨fn, fdn, G, mgn, kpn, bn⟩ := hdraw.ex
  refine F.ok sc__law_pick (fun vs H Q E h => ?_) (fun cdv A outer s H vs Q E hr h => ?_)
  · obtain ⟨c, s, m, rfl, _⟩ := h
    rfl
  · obtain ⟨p, a, xs, rfl, hx, hne, hap, hP, k⟩ := h
    have hl : 0 < xs.length := List.length_pos_iff.mpr hne
    refine ⟨_, (pss_one (ps_ret (pe_ix ix_list (pv 1) (pe_call G hr rfl mgn kpn bn .nil pass0 (pa_cons (pv 0) (pa_cons (pe_callB call_len_seq (by rfl) T.len (by decide +kernel) (pa_cons (pv 1) pa_nil)) pa_nil))) (fun _ _ => rfl)))), ?_⟩
    refine ⟨_, rfl, _, rfl, _, rfl, _, _, rfl, Or.inl hx, p, (xs.length : Int), rfl, by omega, hP, fun r H' h0 h1 hP' e => ?_⟩
    have hr' : r.toNat < xs.length := by omega
    exact ⟨a, xs, r, xs[r.toNat], rfl, rfl, exp_l e hap hx, atI_int h0 (List.getElem?_eq_getElem hr'), k _ _ (List.getElem_mem hr') hP' e⟩
theorem sc__law_opened : FnScope ["_law_script", "_law_k", "_law_many", "_law_cell"] ["_law_script", "_law_k", "_law_many"] (defScope s__law_opened) := ⟨rfl, rfl, rfl, by decide +kernel, rfl, by decide +kernel, by decide +kernel⟩
theorem ok_opened {f : Addr} {fd : FuncData} (F : Fun K "_law_opened" "_law_opened" s__law_opened f fd) (hpool : Has P w K mg base 2 "_law_pool" ["_law_cell", "_law_salt", "_law_many"] spPool) : FnOk P w K mg base CX0 3 f fd ["_law_script", "_law_k", "_law_many"] (spOpened K) := by
  have nd := sc__law_opened.nd
  obtain ⟨fn, fdn, G, mgn, kpn, bn⟩ := hpool.ex
  refine F.ok sc__law_opened (fun vs H Q E h => ?_) (fun cdv A outer s H vs Q E hr h => ?_)
  · obtain ⟨a, ns, i, m, rfl, _⟩ := h
    rfl
  · obtain ⟨a, ns, i, m, rfl, hS, hi0, hi1, hi, hm0, hm1, k⟩ := h
    refine ⟨_, (pss_cons (ps_set (i := 3) nd rfl (Or.inl rfl) (pe_ifExp (pt_cmpR (op_neD hr.units) (pv 0) (pe_lst pa_nil) (nomark _)) (pe_ix ix_list (pv 0) (pv 1) (fun _ _ => rfl)) pe_int))
      (pss_one (ps_ret (pe_call G hr rfl mgn kpn bn .nil pass0 (pa_cons (pv 3) (pa_cons (pv 1) (pa_cons (pv 2) pa_nil))))))), ?_⟩
    refine ⟨_, rfl, by show 0 ≤ sizeLine; decide, fun l hl => ?_⟩
    have e1 : Ex H (upd H l (.lst [])) := Evl.Ex.new hl
    have hS1 := Evl.ex_l e1 hS
    refine ⟨.list (ns.map PyData.int), .list [], .lst hS1 (dpall_ints ns), .lst (SqL.of upd_same) .nil, shaped_ints ns, by rfl, _, rfl, ?_⟩
    rw [eqv_nil]
    refine ite2 (fun h => ?_) (fun _ => ?_)
    · have hne : ns ≠ [] := by simpa using h
      have hlt := hi hne
      have hit : i.toNat < ns.length := by omega
      refine ⟨_, rfl, _, rfl, a, _, i, .int ns[i.toNat], rfl, rfl, hS1, atI_int hi0 (by rw [List.getElem?_map, List.getElem?_eq_getElem hit]; rfl), _, rfl, _, rfl, _, rfl, _, i, m, rfl, hi0, hi1, hm0, hm1, fun p H' hp e hP => k p H' (Evl.fresh_back e1 hp) (e1.trans e) hP⟩
    · exact ⟨_, rfl, _, rfl, _, rfl, _, i, m, rfl, hi0, hi1, hm0, hm1, fun p H' hp e hP => k p H' (Evl.fresh_back e1 hp) (e1.trans e) hP⟩
end
end M
namespace M
open PySem L2
/-- what is_word tells of a text -/
def isWord (z : Str) : Bool := (decide (1 ≤ z.length) && decide (z.length ≤ 8)) && z.cps.toList.all fun c => decide (97 ≤ c) && decide (c ≤ 122)
/-- the type of a value, a dict's too -/
def tyN (x : V) (H : Hp) (n : String) : Prop := zTyV x H = some n ∨ ∃ p kvs, x = .ref p ∧ H p = some (.dK kvs) ∧ n = "dict"
def kTypD (x : V) (H : Hp) (Q : VK) : Prop := ∃ n, tyN x H n ∧ Q (.ty n) H
section
variable {X : Cx}
theorem rl_typeD (pins : List (Addr × Obj)) (s : Shared) (σ : L2.St) (H : Hp) (x : V) (v : Value) (Q : VK) (I : Inv X pins σ H s) (r : RelV x v) (h : kTypD x H Q) :
    wpAny (model X.prog X.w) X.A (call (.type "type") [v]) (EP X pins σ Q) X.xe s := by
  obtain ⟨n, e | ⟨p, kvs, rfl, hp, rfl⟩, q⟩ := h
  · exact rl_type pins s σ H x v Q I r ⟨n, e, q⟩
  · cases (show v = Value.ref p from r)
    obtain ⟨_, _, vs, _, o, es, ep, g, c, _⟩ := I.hok p _ hp
    exact call_type_of (Tx := "dict") ⟨o, g, c.1⟩ (by decide +kernel) ⟨.ty "dict", H, I, rfl, q⟩
theorem pe_typeOfD {p pos : Pos} {a : Expr} {ta : TE} (hg : Gl X "type") (hm : X.mg "type" = none) (ha : PE X a ta) (na : starEach [a] X.env = (false, eval a X.env) :: starEach [] X.env := by rfl) :
    PE X (.Call (.Name "type" p) [a] [] pos) (tThenZ ta kTypD) := pe_callTy (call_r1 rl_typeD) hg hm (by decide +kernel) (pa_cons ha pa_nil na) (he := na)
end
/-- a comprehension over a text whose element gives f of the sign's number -/
theorem lc_text {z : Str} {te : TE} {j : Nat} {vs : List Nat} {σ : L2.St} {H1 : Hp} {D : Addr} {Qd : Hp → Prop} (f : Nat → V) (hD : H1 D = none) (hz : z.cps.size ≤ 100000) (hw : ∀ x, wipe ((wipe σ vs).set j (some x)) vs = wipe σ vs)
    (hs : ∀ (c : Nat) H (Q : VK), Q (f c) H → te ((wipe σ vs).set j (some (.str ⟨#[c]⟩))) H Q) (hd : ∀ H, Ex H1 H → H D = some (.lst (z.cps.toList.map f)) → Qd H) :
    ∃ W : Nat → Nat → Hp → Prop, (∃ m, W 0 m (upd H1 D (.lst []))) ∧ ∀ i m H, W i m H →
      ((Its z).stop i H ∧ Qd H) ∨ ((Its z).go i H ∧ ∃ Nx : Hp → Prop, (∀ H', Nx H' → ∃ m', m' < m ∧ W (i + 1) m' H') ∧ ∀ x H', (Its z).yld i H x H' → gName j x (wipe σ vs) H' fun σ2 H2 => wipe σ2 vs = wipe σ vs ∧ tYes σ2 H2 fun b H3 =>
        if b = true then te σ2 H3 fun y H4 => ∃ acc, H4 D = some (.lst acc) ∧ acc.length < sizeLine ∧ Nx (upd H4 D (.lst (acc ++ [y]))) else Nx H3) := by
  refine lc_it walk_str (fun i H => Ex H1 H ∧ H D = some (.lst ((z.cps.toList.take i).map f))) ⟨Evl.Ex.new hD, by rw [upd_same]; rfl⟩ (fun _ _ _ _ => trivial) ?_ ?_
  · rintro i x H H' hi ⟨e, hx⟩ ⟨rfl, c, hc, rfl⟩
    refine ⟨hw _, ?_⟩
    show te ((wipe σ vs).set j (some (.str ⟨#[c]⟩))) H' _
    refine hs c H' _ ⟨_, hx, ?_, Evl.Ex.mut e hD, ?_⟩
    · have : ((z.cps.toList.take i).map f).length ≤ i := by simp; omega
      rw [sizeLine_eq]
      omega
    · rw [upd_same]
      have h2 : z.cps.toList[i]? = some c := by simpa using hc
      have h3 : z.cps.toList.take (i + 1) = z.cps.toList.take i ++ [c] := by rw [List.take_succ, h2]; rfl
      rw [h3, List.map_append]
      rfl
  · rintro H ⟨e, hx⟩
    refine hd H e ?_
    rw [hx]
    have : z.cps.size = z.cps.toList.length := by simp
    rw [this, List.take_length]
theorem lt_one (a b : Nat) : decide (([a] : List Nat) < [b]) = decide (a < b) := by
  by_cases h : a < b
  · rw [decide_eq_true h, decide_eq_true (List.cons_lt_cons_iff.mpr (Or.inl h))]
  · rw [decide_eq_false h]
    refine decide_eq_false fun q => ?_
    rcases List.cons_lt_cons_iff.mp q with q | ⟨_, q⟩
    · exact h q
    · exact absurd q (by decide)
theorem le_one (a b : Nat) : (!decide (([a] : List Nat) < [b])) = decide (b ≤ a) := by
  rw [lt_one]
  by_cases h : a < b
  · rw [decide_eq_true h, decide_eq_false (by omega)]; rfl
  · rw [decide_eq_false h, decide_eq_true (by omega)]; rfl
theorem iteB {b : Bool} {A B : Prop} (h1 : b = true → A) (h2 : b = false → B) : if b = true then A else B := by
  cases b with
  | true => exact iteT (h1 rfl)
  | false => exact iteF (h2 rfl)
def signOk (c : Nat) : Bool := decide (97 ≤ c) && decide (c ≤ 122)
def spIsWord : Sp := fun vs H Q _ => ∃ v, vs = [v] ∧ ((∃ z, v = .str z ∧ z.length ≤ 100000 ∧ ∀ H', Ex H H' → Q (.bl (isWord z)) H') ∨ (∃ n, tyN v H n ∧ n ≠ "str" ∧ Q (.bl false) H))
def spLawIs : Sp := fun vs H Q _ => ∃ z, vs = [.str z] ∧ z.length ≤ 100000 ∧ ∀ H', Ex H H' → Q (.bl (isWord z)) H'
section
variable {P : Program} {w : World} {K : PySem.W.Frag} {mg : Str → Option Value} {base : Heap}
theorem sc_is_word : FnScope ["value", "sign"] ["value"] (defScope s_is_word) := ⟨rfl, rfl, rfl, by decide +kernel, rfl, by decide +kernel, by decide +kernel⟩
theorem ok_is_word {f : Addr} {fd : FuncData} (F : Fun K "is_word" "is_word" s_is_word f fd) (T : Txt mg) : FnOk P w K mg base CX0 1 f fd ["value"] spIsWord := by
  have nd := sc_is_word.nd
  obtain ⟨u8, h8⟩ := T.lw
  refine F.ok sc_is_word (fun vs H Q E h => ?_) (fun cdv A outer s H vs Q E hr h => ?_)
  · obtain ⟨v, rfl, _⟩ := h
    rfl
  · obtain ⟨v, rfl, h⟩ := h
    refine ⟨_, (pss_cons (ps_if (PW.pt (pw_or (pt_cmpR op_isNotTy (pe_typeOfD (by rfl) T.type (pv 0)) (pe_bltn (v := .ty "str") (by rfl) T.str (by decide +kernel) rfl) (nomark _)) (pw_or1 (pt_not (pt_chain op_le op_le pe_int (pe_callB call_len_str (by rfl) T.len (by decide +kernel) (pa_cons (pv 0) pa_nil)) (pe_glob (v := .int 8) rfl h8 ⟨_, rfl⟩))))))
        (pss_one (ps_ret pe_bl))
        pss_nil)
      (pss_one (ps_ret (pe_callB (cr_all rfl) (by rfl) T.all (by decide +kernel) (pa_cons (pe_lc (own := [("sign", 1)]) (g := gName 1) (tt := tYes) rfl nd (pi_str (pv 0)) (blkOk_by (N := ["value", "sign"]) (sc := defScope s_is_word) (by decide +kernel)) (fun _ _ _ _ _ => (pg_name (i := 1) nd rfl (Or.inl rfl))) (fun _ _ _ _ _ => pts_nil) (fun _ _ _ _ _ => (pe_chain op_le_str op_le_str pe_str (pv 1) pe_str))) pa_nil))))), ?_⟩
    rcases h with ⟨z, rfl, hz, k⟩ | ⟨n, hn, hne, k⟩
    · refine ⟨_, rfl, "str", Or.inl rfl, _, _, rfl, rfl, _, rfl, ?_⟩
      refine iteF ⟨_, rfl, _, rfl, by rw [sizeLine_eq]; omega, _, _, rfl, rfl, _, rfl, ?_⟩
      have hsz : z.cps.size = z.length := rfl
      refine iteB (fun h1 => ⟨_, _, rfl, rfl, _, rfl, iteB (fun h3 => ?_) (fun h3 => ?_)⟩) (fun h1 => ⟨_, rfl, iteB (fun h3 => ?_) (fun h3 => ?_)⟩)
      · have e : isWord z = false := by
          have : ¬ z.length ≤ 8 := by
            intro q
            rw [decide_eq_true (by omega : (z.length : Int) ≤ 8)] at h3
            exact absurd h3 (by decide)
          unfold isWord
          rw [decide_eq_false this, Bool.and_false]
          rfl
        have q := k H (Evl.Ex.refl H)
        rw [e] at q
        exact q
      · have e : isWord z = z.cps.toList.all signOk := by
          have l1 : (1 : Int) ≤ (z.length : Int) := of_decide_eq_true h1
          have l2 : (z.length : Int) ≤ 8 := by
            refine Decidable.byContradiction fun q => ?_
            rw [decide_eq_false q] at h3
            exact absurd h3 (by decide)
          unfold isWord
          rw [decide_eq_true (show 1 ≤ z.length by omega), decide_eq_true (show z.length ≤ 8 by omega)]
          rfl
        refine ⟨_, rfl, z, rfl, fun D hD => lc_text (fun c => .bl (signOk c)) hD (by omega) (fun x => rfl) (fun c H2 Q2 q2 => ?_) (fun H2 e2 h2 => ?_)⟩
        · refine ⟨_, rfl, _, _, rfl, rfl, _, rfl, ?_⟩
          have ea : ("a" : Str).cps.toList = [97] := by decide +kernel
          have ez : ("z" : Str).cps.toList = [122] := by decide +kernel
          have e1 : (!decide ((⟨#[c]⟩ : Str).cps.toList < ("a" : Str).cps.toList)) = decide (97 ≤ c) := by rw [ea]; exact le_one c 97
          have e2 : (!decide (("z" : Str).cps.toList < (⟨#[c]⟩ : Str).cps.toList)) = decide (c ≤ 122) := by rw [ez]; exact le_one 122 c
          refine iteB (fun g1 => ⟨_, _, rfl, rfl, ?_⟩) (fun g1 => ?_)
          · have e : (signOk c) = (!decide (("z" : Str).cps.toList < (⟨#[c]⟩ : Str).cps.toList)) := by
              rw [e2]; unfold signOk; rw [← e1, g1]; rfl
            rw [e] at q2
            exact q2
          · have e : (signOk c) = false := by
              unfold signOk; rw [← e1, g1]; rfl
            rw [e] at q2
            exact q2
        · refine ⟨D, z.cps.toList.map signOk, rfl, SqL.of (by rw [h2, List.map_map]; rfl), ?_⟩
          rw [List.all_map]
          have q := k H2 e2
          rw [e] at q
          exact q
      · have e : isWord z = false := by
          have : ¬ 1 ≤ z.length := by
            intro q
            rw [decide_eq_true (by omega : (1 : Int) ≤ (z.length : Int))] at h1
            exact absurd h1 (by decide)
          unfold isWord
          rw [decide_eq_false this, Bool.false_and]
          rfl
        have q := k H (Evl.Ex.refl H)
        rw [e] at q
        exact q
      · exact absurd h3 (by decide)
    · refine ⟨_, rfl, n, hn, _, _, rfl, rfl, _, rfl, iteB (fun _ => k) (fun h => ?_)⟩
      simp [hne] at h
theorem sc__law_is : FnScope ["_law_text_here", "_law_sign"] ["_law_text_here"] (defScope s__law_is) := ⟨rfl, rfl, rfl, by decide +kernel, rfl, by decide +kernel, by decide +kernel⟩
def abc : List Nat := [97,98,99,100,101,102,103,104,105,106,107,108,109,110,111,112,113,114,115,116,117,118,119,120,121,122]
theorem abc_eq : ("abcdefghijklmnopqrstuvwxyz" : Str).cps.toList = abc := by decide +kernel
theorem mem_abc (c : Nat) : decide (c ∈ abc) = signOk c := by
  by_cases h : c ∈ abc
  · rw [decide_eq_true h]
    simp only [abc, List.mem_cons, List.not_mem_nil, or_false] at h
    unfold signOk
    rw [decide_eq_true (show 97 ≤ c by omega), decide_eq_true (show c ≤ 122 by omega)]
    rfl
  · rw [decide_eq_false h]
    simp only [abc, List.mem_cons, List.not_mem_nil, or_false] at h
    unfold signOk
    by_cases h1 : 97 ≤ c
    · rw [decide_eq_false (show ¬ c ≤ 122 by omega), Bool.and_false]
    · rw [decide_eq_false h1, Bool.false_and]
theorem ok_law_is {f : Addr} {fd : FuncData} (F : Fun K "_law_is" "_law_is" s__law_is f fd) (T : Txt mg) : FnOk P w K mg base CX0 1 f fd ["_law_text_here"] spLawIs := by
  have nd := sc__law_is.nd
  refine F.ok sc__law_is (fun vs H Q E h => ?_) (fun cdv A outer s H vs Q E hr h => ?_)
  · obtain ⟨v, rfl, _⟩ := h
    rfl
  · obtain ⟨z, rfl, hz, k⟩ := h
    have hsz : z.cps.size = z.length := rfl
    refine ⟨_, (pss_one (ps_ret (pe_and (pe_chain op_le op_le pe_int (pe_callB call_len_str (by rfl) T.len (by decide +kernel) (pa_cons (pv 0) pa_nil)) pe_int) (pe_one (pe_cmpR op_notIn_seq pe_bl (pe_lc (own := [("_law_sign", 1)]) (g := gName 1) (tt := tYes) rfl nd (pi_str (pv 0)) (blkOk_by (N := ["_law_text_here", "_law_sign"]) (sc := defScope s__law_is) (by decide +kernel)) (fun _ _ _ _ _ => (pg_name (i := 1) nd rfl (Or.inl rfl))) (fun _ _ _ _ _ => pts_nil) (fun _ _ _ _ _ => (pe_cmpR op_in_sign (pv 1) pe_str rfl))) (by rfl)))))), ?_⟩
    refine ⟨_, rfl, _, rfl, by rw [sizeLine_eq]; omega, _, _, rfl, rfl, _, rfl, ?_⟩
    have hno : ∀ b : Bool, (decide (1 ≤ z.length) && decide (z.length ≤ 8)) = b → b = false → Q (.bl false) H := fun b hb hf => by
      have e : isWord z = false := by
        unfold isWord
        rw [hb, hf]
        rfl
      have q := k H (Evl.Ex.refl H)
      rw [e] at q
      exact q
    have c1 : decide ((1 : Int) ≤ (z.length : Int)) = decide (1 ≤ z.length) := decide_eq_decide.mpr (by omega)
    have c2 : decide ((z.length : Int) ≤ 8) = decide (z.length ≤ 8) := decide_eq_decide.mpr (by omega)
    refine iteB (fun h1 => ⟨_, _, rfl, rfl, _, rfl, iteB (fun h3 => ?_) (fun h3 => ?_)⟩) (fun h1 => ⟨_, rfl, iteF ?_⟩)
    · have e : isWord z = z.cps.toList.all signOk := by
        unfold isWord
        rw [← c1, ← c2, h1, h3]
        rfl
      refine ⟨_, rfl, z, rfl, fun D hD => lc_text (fun c => .bl (signOk c)) hD (by omega) (fun x => rfl) (fun c H2 Q2 q2 => ?_) (fun H2 e2 h2 => ?_)⟩
      · refine ⟨_, rfl, c, _, rfl, rfl, ?_⟩
        rw [abc_eq, mem_abc]
        exact q2
      · refine ⟨D, _, rfl, Or.inl (SqL.of h2), rfl, ?_, ?_⟩
        · rw [List.all_map]
          exact List.all_eq_true.mpr fun x _ => rfl
        · have q := k H2 e2
          have e3 : isWord z = !inV (.bl false) (z.cps.toList.map fun c => V.bl (signOk c)) := by
            rw [e]
            unfold inV
            rw [List.any_map]
            generalize z.cps.toList = l
            induction l with
            | nil => rfl
            | cons c l ih =>
              rw [List.all_cons, ih, List.any_cons, Bool.not_or]
              congr 1
              show signOk c = !eqV (.bl (signOk c)) (.bl false)
              cases signOk c <;> rfl
          rw [e3] at q
          exact q
    · exact hno _ (by rw [← c1, ← c2, h1, h3]; rfl) rfl
    · exact hno _ (by rw [← c1, h1]; rfl) rfl
end
end M
namespace M
open PySem L2
def moveV (H : Hp) (a b : V) (r : Bool) : Prop :=
  (∃ n, tyN a H n ∧ n ≠ "str" ∧ r = false) ∨
  (a = .str "serve" ∧ ((∃ z, b = .str z ∧ z.length ≤ 100000 ∧ r = isWord z) ∨ (∃ n, tyN b H n ∧ n ≠ "str" ∧ r = false))) ∨
  (∃ t, a = .str t ∧ t ≠ "serve" ∧ ∃ n, tyN b H n ∧ r = (decide (t = "row") && decide (n = "int")))
def isMoveV (H : Hp) (v : V) (r : Bool) : Prop :=
  (∃ n, tyN v H n ∧ n ≠ "tuple" ∧ r = false) ∨ (∃ p xs, v = .ref p ∧ H p = some (.tup xs) ∧ ((xs.length ≠ 2 ∧ r = false) ∨ ∃ a b, xs = [a, b] ∧ moveV H a b r))
def spIsMove : Sp := fun vs H Q _ => ∃ v r, vs = [v] ∧ isMoveV H v r ∧ ∀ H', Ex H H' → Q (.bl r) H'
section
variable {P : Program} {w : World} {K : PySem.W.Frag} {mg : Str → Option Value} {base : Heap}
theorem sc_is_move : FnScope ["value", "kind", "what"] ["value"] (defScope s_is_move) := ⟨rfl, rfl, rfl, by decide +kernel, rfl, by decide +kernel, by decide +kernel⟩
theorem ok_is_move {f : Addr} {fd : FuncData} (F : Fun K "is_move" "is_move" s_is_move f fd) (T : Txt mg) (hw : Has P w K mg base 1 "is_word" ["value"] spIsWord) : FnOk P w K mg base CX0 2 f fd ["value"] spIsMove := by
  have nd := sc_is_move.nd
  obtain ⟨fw, fdw, G, mgw, kpw, bw⟩ := hw.ex
  refine F.ok sc_is_move (fun vs H Q E h => ?_) (fun cdv A outer s H vs Q E hr h => ?_)
  · obtain ⟨v, r, rfl, _⟩ := h
    rfl
  · obtain ⟨v, r, rfl, h, k⟩ := h
    have kk := k H (Evl.Ex.refl H)
    refine ⟨_, (pss_cons (ps_if (PW.pt (pw_or (pt_cmpR op_isNotTy (pe_typeOfD (by rfl) T.type (pv 0)) (pe_bltn (v := .ty "tuple") (by rfl) T.tuple (by decide +kernel) rfl) (nomark _)) (pw_or1 (pt_cmpR op_ne (pe_callB call_len_seq (by rfl) T.len (by decide +kernel) (pa_cons (pv 0) pa_nil)) pe_int (nomark _)))))
        (pss_one (ps_ret pe_bl))
        pss_nil)
      (pss_cons (ps_asg (pv 0) (pg_tup (by rfl) (pgs_cons (pg_name (i := 1) nd rfl (Or.inl rfl)) (pgs_cons (pg_name (i := 2) nd rfl (Or.inl rfl)) pgs_nil))))
      (pss_cons (ps_if (pt_cmpR op_isNotTy (pe_typeOfD (by rfl) T.type (pv 1)) (pe_bltn (v := .ty "str") (by rfl) T.str (by decide +kernel) rfl) (nomark _))
        (pss_one (ps_ret pe_bl))
        pss_nil)
      (pss_cons (ps_if (pt_cmpR op_eq (pv 1) pe_str (nomark _))
        (pss_one (ps_ret (pe_call G hr rfl mgw kpw bw .nil pass0 (pa_cons (pv 2) pa_nil))))
        pss_nil)
      (pss_one (ps_ret (pe_and (pe_cmpR op_eq (pv 1) pe_str (nomark _)) (pe_one (pe_cmpR op_isTy (pe_typeOfD (by rfl) T.type (pv 2)) (pe_bltn (v := .ty "int") (by rfl) T.int (by decide +kernel) rfl) (nomark _)))))))))), ?_⟩
    rcases h with ⟨n, hn, hne, rfl⟩ | ⟨p, xs, rfl, hp, h⟩
    · refine ⟨_, rfl, n, hn, _, _, rfl, rfl, _, rfl, iteB (fun _ => kk) (fun h => ?_)⟩
      simp [hne] at h
    have ht : tyN (.ref p) H "tuple" := Or.inl (by simp [zTyV, hp])
    refine ⟨_, rfl, _, ht, _, _, rfl, rfl, _, rfl, iteF ⟨_, rfl, p, xs, rfl, Or.inr (SqT.of hp), rfl, _, rfl, ?_⟩⟩
    rcases h with ⟨hl, rfl⟩ | ⟨a, b, rfl, h⟩
    · refine iteB (fun _ => kk) (fun h => ?_)
      exfalso
      simp at h
      omega
    refine iteF ⟨_, rfl, p, _, rfl, SqT.of hp, rfl, _, _, rfl, _, _, rfl, rfl, ?_⟩
    rcases h with ⟨n, hn, hne, rfl⟩ | ⟨rfl, h⟩ | ⟨t, rfl, hts, n, hn, rfl⟩
    · refine ⟨_, rfl, n, hn, _, _, rfl, rfl, _, rfl, iteB (fun _ => kk) (fun h => ?_)⟩
      simp [hne] at h
    · refine ⟨_, rfl, "str", Or.inl rfl, _, _, rfl, rfl, _, rfl, iteF ⟨_, rfl, rfl, _, rfl, ?_⟩⟩
      rw [decide_eq_true rfl]
      refine iteT ⟨_, rfl, b, rfl, ?_⟩
      rcases h with ⟨z, rfl, hz, rfl⟩ | ⟨n, hn, hne, rfl⟩
      · exact Or.inl ⟨z, rfl, hz, k⟩
      · exact Or.inr ⟨n, hn, hne, kk⟩
    · refine ⟨_, rfl, "str", Or.inl rfl, _, _, rfl, rfl, _, rfl, iteF ⟨_, rfl, rfl, _, rfl, ?_⟩⟩
      rw [decide_eq_false (fun e => hts (V.str.inj e))]
      refine iteF ⟨_, rfl, rfl, _, rfl, ?_⟩
      refine iteB (fun h1 => ?_) (fun h1 => ?_)
      · refine ⟨_, rfl, n, hn, _, _, rfl, rfl, ?_⟩
        have e : t = "row" := V.str.inj (of_decide_eq_true h1)
        rw [decide_eq_true e, Bool.true_and] at kk
        exact kk
      · have e : ¬ t = "row" := fun e => by
          rw [decide_eq_true (congrArg V.str e)] at h1
          exact absurd h1 (by decide)
        rw [decide_eq_false e, Bool.false_and] at kk
        exact kk
end
end M
namespace M
open PySem L2
def spText : Sp := fun vs H Q _ => ∃ p, vs = [.ref p] ∧ PoolAt H p ∧ ∀ (z : Str) (H' : Hp), z.length ≤ 10 → PoolAt H' p → ExP p H H' → Q (.str z) H'
theorem ExP.refl (p : Addr) (H : Hp) : ExP p H H := fun _ _ _ h => h
theorem ExP.trans {p : Addr} {H H1 H2 : Hp} (a : ExP p H H1) (b : ExP p H1 H2) : ExP p H H2 := fun x o hx h => b x o hx (a x o hx h)
theorem ExP.of {p : Addr} {H H1 : Hp} (a : Ex H H1) : ExP p H H1 := fun x o _ h => a x o h
theorem PoolAt.ex {p : Addr} {H H1 : Hp} (h : PoolAt H p) (e : Ex H H1) : PoolAt H1 p := by
  obtain ⟨q, ns, n, h1, h2, h3, h4⟩ := h
  exact ⟨q, ns, n, e _ _ h1, e _ _ h2, h3, h4⟩
theorem PoolAt.ne {p q : Addr} {H : Hp} (h : PoolAt H p) (hq : H q = none) : q ≠ p := by
  obtain ⟨_, _, _, h1, _⟩ := h
  exact fun e => by rw [e, h1] at hq; cases hq
def signs : List V := [.str "a", .str "b", .str "z", .str "m", .str "a", .str "b", .str "A", .str "0", .str " ", .str "_", .str "-"]
theorem signs_one : ∀ x ∈ signs, ∃ z : Str, x = .str z ∧ z.length = 1 := by
  intro x hx
  simp only [signs, List.mem_cons, List.not_mem_nil, or_false] at hx
  rcases hx with h | h | h | h | h | h | h | h | h | h | h <;> exact ⟨_, h, by decide +kernel⟩
theorem str_app (a b : Str) : (a ++ b).length = a.length + b.length := by
  show (a.cps ++ b.cps).size = a.cps.size + b.cps.size
  simp
section
variable {P : Program} {w : World} {K : PySem.W.Frag} {mg : Str → Option Value} {base : Heap}
theorem sc__law_text : FnScope ["_law_pool_here", "_law_found", "_law_turn", "_law_signs"] ["_law_pool_here"] (defScope s__law_text) := ⟨rfl, rfl, rfl, by decide +kernel, rfl, by decide +kernel, by decide +kernel⟩
theorem ok_text {f : Addr} {fd : FuncData} (F : Fun K "_law_text" "_law_text" s__law_text f fd) (T : Txt mg) (hdraw : Has P w K mg base 1 "_law_draw" ["_law_pool_here", "_law_many"] spDraw) (hpick : Has P w K mg base 2 "_law_pick" ["_law_pool_here", "_law_some"] (spPick K)) : FnOk P w K mg base CX0 3 f fd ["_law_pool_here"] spText := by
  have nd := sc__law_text.nd
  obtain ⟨f1, fd1, G1, mg1, kp1, b1⟩ := hdraw.ex
  obtain ⟨f2, fd2, G2, mg2, kp2, b2⟩ := hpick.ex
  refine F.ok sc__law_text (fun vs H Q E h => ?_) (fun cdv A outer s H vs Q E hr h => ?_)
  · obtain ⟨v, rfl, _⟩ := h
    rfl
  · obtain ⟨p, rfl, hP, k⟩ := h
    have hr1 : Room 1 _ := hr.mono (by decide)
    refine ⟨_, (pss_cons (ps_set (i := 1) nd rfl (Or.inl rfl) pe_str)
      (pss_cons (ps_for PassesOwn.never rfl (pi_range1 (by rfl) T.range (pa_cons (pe_call G1 hr1 rfl mg1 kp1 b1 .nil pass0 (pa_cons (pv 0) (pa_cons pe_int pa_nil))) pa_nil)) (pg_name (i := 2) nd rfl (Or.inl rfl))
        (pss_cons (ps_set (i := 3) nd rfl (Or.inl rfl) (pe_lst (pa_cons pe_str (pa_cons pe_str (pa_cons pe_str (pa_cons pe_str (pa_cons pe_str (pa_cons pe_str (pa_cons pe_str (pa_cons pe_str (pa_cons pe_str (pa_cons pe_str (pa_cons pe_str pa_nil)))))))))))))
        (pss_one (ps_set (i := 1) nd rfl (Or.inl rfl) (pe_op op_add_str (pv 1) (pe_call G2 hr rfl mg2 kp2 b2 .nil pass0 (pa_cons (pv 0) (pa_cons (pe_slice sl_list (pv 3) po_none (po_some (pe_op op_add pe_int (pe_op op_mul pe_int (pe_call G1 hr1 rfl mg1 kp1 b1 .nil pass0 (pa_cons (pv 0) (pa_cons pe_int pa_nil))))))) pa_nil))))))))
      (pss_one (ps_ret (pv 1))))), ?_⟩
    refine ⟨_, rfl, p, 11, rfl, by decide, hP, fun n H1 hn0 hn1 hP1 e1 => ?_⟩
    refine ⟨n, rfl, by omega, by omega, for_range (lo := 0) (n := n.toNat) (fun i σ H' => ∃ (z : Str) (t g : Option V), σ = [some (.ref p), some (.str z), t, g] ∧ z.length ≤ i ∧ PoolAt H' p ∧ ExP p H H') ⟨_, none, none, rfl, Nat.le_refl _, hP1, e1⟩ ?_ ?_⟩
    · rintro i σ H2 hi ⟨z, t, g, rfl, hz, hP2, e2⟩
      refine ⟨by show 11 ≤ sizeLine; decide, fun l hl => ?_⟩
      have e3 : Ex H2 (upd H2 l (.lst signs)) := Evl.Ex.new hl
      have hP3 := hP2.ex e3
      refine ⟨_, rfl, _, rfl, _, rfl, _, rfl, p, 2, rfl, by decide, hP3, fun r H4 h0 h1 hP4 e4 => ?_⟩
      have hnl : l ≠ p := hP2.ne hl
      have hl4 : H4 l = some (.lst signs) := e4 l _ hnl upd_same
      refine ⟨_, _, rfl, rfl, Or.inl ⟨by decide, by decide⟩, _, _, rfl, rfl, _, rfl, l, signs, rfl, SqL.of hl4, fun q hq => ?_⟩
      have e5 : Ex H4 (upd H4 q (.lst (cutV signs none (some (5 + 6 * r))))) := Evl.Ex.new hq
      have hne : cutV signs none (some (5 + 6 * r)) ≠ [] := by
        rcases (by omega : r = 0 ∨ r = 1) with rfl | rfl <;> simp [cutV, HT.sIx, signs]
      refine ⟨p, q, _, rfl, SqL.of upd_same, hne, hP4.ne hq, hP4.ex e5, fun x H6 hx hP6 e6 => ?_⟩
      have hx' : x ∈ signs := List.mem_of_mem_drop (List.mem_of_mem_take hx)
      obtain ⟨y, rfl, hy⟩ := signs_one x hx'
      refine ⟨_, _, rfl, rfl, by rw [sizeLine_eq]; omega, ?_⟩
      refine ⟨z ++ y, _, _, rfl, by rw [str_app]; omega, hP6, ?_⟩
      exact ((e2.trans (.of e3)).trans e4).trans ((ExP.of e5).trans e6)
    · rintro σ H2 ⟨z, t, g, rfl, hz, hP2, e2⟩
      exact ⟨_, rfl, k z H2 (by omega) hP2 e2⟩
end
end M
namespace M
open PySem L2
def spLaw (K : PySem.W.Frag) : Sp := fun vs H Q _ => ∃ (a : Addr) (ns : List Int), vs = [.ref a] ∧ SqL K H a (ns.map V.int) ∧ ns.length ≤ 63 ∧ ∀ H', Q (.bl true) H'
theorem tyN_ex {x : V} {H H' : Hp} {n : String} (e : Ex H H') (h : tyN x H n) : tyN x H' n := by
  rcases h with h | ⟨p, kvs, rfl, hp, rfl⟩
  · refine Or.inl ?_
    cases x with
    | ref p =>
      simp only [zTyV] at h ⊢
      cases ho : H p with
      | none => rw [ho] at h; cases h
      | some o => rw [ho] at h; rw [e p o ho]; exact h
    | _ => exact h
  · exact Or.inr ⟨p, kvs, rfl, e _ _ hp, rfl⟩
theorem moveV_ex {a b : V} {H H' : Hp} {r : Bool} (e : Ex H H') (h : moveV H a b r) : moveV H' a b r := by
  rcases h with ⟨n, h1, h2⟩ | ⟨h0, ⟨z, h1⟩ | ⟨n, h1, h2⟩⟩ | ⟨t, h1, h2, n, h3, h4⟩
  · exact Or.inl ⟨n, tyN_ex e h1, h2⟩
  · exact Or.inr (Or.inl ⟨h0, Or.inl ⟨z, h1⟩⟩)
  · exact Or.inr (Or.inl ⟨h0, Or.inr ⟨n, tyN_ex e h1, h2⟩⟩)
  · exact Or.inr (Or.inr ⟨t, h1, h2, n, tyN_ex e h3, h4⟩)
theorem isMoveV_ex {v : V} {H H' : Hp} {r : Bool} (e : Ex H H') (h : isMoveV H v r) : isMoveV H' v r := by
  rcases h with ⟨n, h1, h2⟩ | ⟨p, xs, h1, h2, h3 | ⟨a, b, h3, h4⟩⟩
  · exact Or.inl ⟨n, tyN_ex e h1, h2⟩
  · exact Or.inr ⟨p, xs, h1, e _ _ h2, Or.inl h3⟩
  · exact Or.inr ⟨p, xs, h1, e _ _ h2, Or.inr ⟨a, b, h3, moveV_ex e h4⟩⟩
theorem mv_pair {H : Hp} {p : Addr} {a b : V} {r : Bool} (h : H p = some (.tup [a, b])) (m : moveV H a b r) : isMoveV H (.ref p) r := Or.inr ⟨p, _, rfl, h, Or.inr ⟨a, b, rfl, m⟩⟩
theorem mv_odd {H : Hp} {p : Addr} {xs : List V} (h : H p = some (.tup xs)) (hl : xs.length ≠ 2) : isMoveV H (.ref p) false := Or.inr ⟨p, _, rfl, h, Or.inl ⟨hl, rfl⟩⟩
theorem mv_no {H : Hp} {v : V} {n : String} (h : tyN v H n) (hn : n ≠ "tuple") : isMoveV H v false := Or.inl ⟨n, h, hn, rfl⟩
theorem ty_lst {H : Hp} {p : Addr} {xs : List V} (h : H p = some (.lst xs)) : tyN (.ref p) H "list" := Or.inl (by simp [zTyV, h])
theorem ty_tup {H : Hp} {p : Addr} {xs : List V} (h : H p = some (.tup xs)) : tyN (.ref p) H "tuple" := Or.inl (by simp [zTyV, h])
theorem row_ne : ¬ (("row" : Str) = "serve") := by decide +kernel
theorem mv_row {H : Hp} {b : V} {n : String} (h : tyN b H n) : moveV H (.str "row") b (decide (n = "int")) := Or.inr (Or.inr ⟨_, rfl, row_ne, n, h, by rw [decide_eq_true rfl, Bool.true_and]⟩)
/-- neither a word nor a move, nor what a move serves -/
def Odd (H : Hp) (x : V) : Prop := (∃ n, tyN x H n ∧ n ≠ "str") ∧ isMoveV H x false
theorem Odd.ex {x : V} {H H' : Hp} (e : Ex H H') (h : Odd H x) : Odd H' x := ⟨let ⟨n, h1, h2⟩ := h.1; ⟨n, tyN_ex e h1, h2⟩, isMoveV_ex e h.2⟩
theorem exp_new {p : Addr} {H0 H H' : Hp} (h0 : H0 p = none) (a : Ex H0 H) (b : ExP p H H') : Ex H0 H' := fun x o hx => b x o (ne_of_none hx h0) (a x o hx)
theorem ne_self (b : Bool) : (!decide (V.bl b = V.bl b)) = false := by simp
theorem ne_str (z : Str) : (!decide (V.bl (decide (z = "row")) = V.bl (decide (V.str z = V.str "row")))) = false := by
  by_cases h : z = "row"
  · rw [decide_eq_true h, decide_eq_true (congrArg V.str h)]; rfl
  · rw [decide_eq_false h, decide_eq_false (fun e => h (V.str.inj e))]; rfl
theorem mv_row_int {H : Hp} {i : Int} : moveV H (.str "row") (.int i) true := by
  have h := mv_row (H := H) (b := .int i) (n := "int") (Or.inl rfl)
  simpa using h
theorem mv_row_str {H : Hp} {x : Str} : moveV H (.str "row") (.str x) false := by
  have h := mv_row (H := H) (b := .str x) (n := "str") (Or.inl rfl)
  simpa using h
theorem mv_text {H : Hp} {z : Str} {i : Int} : moveV H (.str z) (.int i) (decide (z = "row")) := by
  by_cases h : z = "serve"
  · subst h
    have e : ¬ (("serve" : Str) = "row") := fun e => row_ne e.symm
    rw [decide_eq_false e]
    exact Or.inr (Or.inl ⟨rfl, Or.inr ⟨"int", Or.inl rfl, by decide, rfl⟩⟩)
  · exact Or.inr (Or.inr ⟨z, rfl, h, "int", Or.inl rfl, by simp⟩)
theorem elseB {b : Bool} {A B : Prop} (hb : b = false) (h : B) : if b = true then A else B := by
  rw [hb]
  exact iteF h
def items1 (l1 l2 l3 : Addr) : List V := [V.non, V.int 5, V.bl true, V.ref l1, V.ref l2, V.ref l3, V.int (10 ^ (Int.toNat 30))]
theorem odds1 {H2 : Hp} {l1 l2 l3 l : Addr} (hl1 : H2 l1 = none) (hl2 : upd H2 l1 (.lst [V.str "a"]) l2 = none) (hl3 : upd (upd H2 l1 (.lst [V.str "a"])) l2 (.tup [V.str "a"]) l3 = none)
    (hl : upd (upd (upd H2 l1 (.lst [V.str "a"])) l2 (.tup [V.str "a"])) l3 (.dK []) l = none) :
    Ex H2 (upd (upd (upd (upd H2 l1 (.lst [V.str "a"])) l2 (.tup [V.str "a"])) l3 (.dK [])) l (.lst (items1 l1 l2 l3))) ∧
    ∀ x ∈ items1 l1 l2 l3, Odd (upd (upd (upd (upd H2 l1 (.lst [V.str "a"])) l2 (.tup [V.str "a"])) l3 (.dK [])) l (.lst (items1 l1 l2 l3))) x := by
  have g1 := Evl.Ex.new (o := HO.lst [V.str "a"]) hl1
  have g2 := Evl.Ex.new (o := HO.tup [V.str "a"]) hl2
  have g3 := Evl.Ex.new (o := HO.dK []) hl3
  have g4 := Evl.Ex.new (o := HO.lst (items1 l1 l2 l3)) hl
  have q1 := (g2.trans (g3.trans g4)) l1 _ upd_same
  have q2 := (g3.trans g4) l2 _ upd_same
  have q3 := g4 l3 _ upd_same
  refine ⟨g1.trans (g2.trans (g3.trans g4)), ?_⟩
  intro x hx
  simp only [items1, List.mem_cons, List.not_mem_nil, or_false] at hx
  rcases hx with rfl | rfl | rfl | rfl | rfl | rfl | rfl
  · exact ⟨⟨"NoneType", Or.inl rfl, by decide⟩, mv_no (n := "NoneType") (Or.inl rfl) (by decide)⟩
  · exact ⟨⟨"int", Or.inl rfl, by decide⟩, mv_no (n := "int") (Or.inl rfl) (by decide)⟩
  · exact ⟨⟨"bool", Or.inl rfl, by decide⟩, mv_no (n := "bool") (Or.inl rfl) (by decide)⟩
  · exact ⟨⟨"list", ty_lst q1, by decide⟩, mv_no (ty_lst q1) (by decide)⟩
  · exact ⟨⟨"tuple", ty_tup q2, by decide⟩, mv_odd q2 (by decide)⟩
  · exact ⟨⟨"dict", Or.inr ⟨_, _, rfl, q3, rfl⟩, by decide⟩, mv_no (Or.inr ⟨_, _, rfl, q3, rfl⟩) (by decide)⟩
  · exact ⟨⟨"int", Or.inl rfl, by decide⟩, mv_no (n := "int") (Or.inl rfl) (by decide)⟩
theorem odds2 {H3 : Hp} {u1 u2 u3 u4 u5 u6 u7 u : Addr} (n1 : H3 u1 = none)
    (n2 : upd H3 u1 (.tup [V.str "row"]) u2 = none)
    (n3 : upd (upd H3 u1 (.tup [V.str "row"])) u2 (.tup [V.str "row", V.int 0, V.int 0]) u3 = none)
    (n4 : upd (upd (upd H3 u1 (.tup [V.str "row"])) u2 (.tup [V.str "row", V.int 0, V.int 0])) u3 (.tup []) u4 = none)
    (n5 : upd (upd (upd (upd H3 u1 (.tup [V.str "row"])) u2 (.tup [V.str "row", V.int 0, V.int 0])) u3 (.tup [])) u4 (.tup [V.str "row", V.bl true]) u5 = none)
    (n6 : upd (upd (upd (upd (upd H3 u1 (.tup [V.str "row"])) u2 (.tup [V.str "row", V.int 0, V.int 0])) u3 (.tup [])) u4 (.tup [V.str "row", V.bl true])) u5 (.tup [V.str "row", V.non]) u6 = none)
    (n7 : upd (upd (upd (upd (upd (upd H3 u1 (.tup [V.str "row"])) u2 (.tup [V.str "row", V.int 0, V.int 0])) u3 (.tup [])) u4 (.tup [V.str "row", V.bl true])) u5 (.tup [V.str "row", V.non])) u6 (.tup [V.int 0, V.str "row"]) u7 = none)
    (n8 : upd (upd (upd (upd (upd (upd (upd H3 u1 (.tup [V.str "row"])) u2 (.tup [V.str "row", V.int 0, V.int 0])) u3 (.tup [])) u4 (.tup [V.str "row", V.bl true])) u5 (.tup [V.str "row", V.non])) u6 (.tup [V.int 0, V.str "row"])) u7 (.tup [V.str "serve", V.str "a", V.str "b"]) u = none) :
    Ex H3 (upd (upd (upd (upd (upd (upd (upd (upd H3 u1 (.tup [V.str "row"])) u2 (.tup [V.str "row", V.int 0, V.int 0])) u3 (.tup [])) u4 (.tup [V.str "row", V.bl true])) u5 (.tup [V.str "row", V.non])) u6 (.tup [V.int 0, V.str "row"])) u7 (.tup [V.str "serve", V.str "a", V.str "b"])) u (.lst [V.ref u1, V.ref u2, V.ref u3, V.ref u4, V.ref u5, V.ref u6, V.ref u7])) ∧ ∀ x ∈ [V.ref u1, V.ref u2, V.ref u3, V.ref u4, V.ref u5, V.ref u6, V.ref u7], isMoveV (upd (upd (upd (upd (upd (upd (upd (upd H3 u1 (.tup [V.str "row"])) u2 (.tup [V.str "row", V.int 0, V.int 0])) u3 (.tup [])) u4 (.tup [V.str "row", V.bl true])) u5 (.tup [V.str "row", V.non])) u6 (.tup [V.int 0, V.str "row"])) u7 (.tup [V.str "serve", V.str "a", V.str "b"])) u (.lst [V.ref u1, V.ref u2, V.ref u3, V.ref u4, V.ref u5, V.ref u6, V.ref u7])) x false := by
  have g1 := Evl.Ex.new (o := HO.tup [V.str "row"]) n1
  have g2 := Evl.Ex.new (o := HO.tup [V.str "row", V.int 0, V.int 0]) n2
  have g3 := Evl.Ex.new (o := HO.tup []) n3
  have g4 := Evl.Ex.new (o := HO.tup [V.str "row", V.bl true]) n4
  have g5 := Evl.Ex.new (o := HO.tup [V.str "row", V.non]) n5
  have g6 := Evl.Ex.new (o := HO.tup [V.int 0, V.str "row"]) n6
  have g7 := Evl.Ex.new (o := HO.tup [V.str "serve", V.str "a", V.str "b"]) n7
  have g8 := Evl.Ex.new (o := HO.lst [V.ref u1, V.ref u2, V.ref u3, V.ref u4, V.ref u5, V.ref u6, V.ref u7]) n8
  have c8 := g8
  have c7 := g7.trans c8
  have c6 := g6.trans c7
  have c5 := g5.trans c6
  have c4 := g4.trans c5
  have c3 := g3.trans c4
  have c2 := g2.trans c3
  have c1 := g1.trans c2
  have q1 := c2 u1 _ upd_same
  have q2 := c3 u2 _ upd_same
  have q3 := c4 u3 _ upd_same
  have q4 := c5 u4 _ upd_same
  have q5 := c6 u5 _ upd_same
  have q6 := c7 u6 _ upd_same
  have q7 := c8 u7 _ upd_same
  refine ⟨c1, ?_⟩
  intro x hx
  simp only [List.mem_cons, List.not_mem_nil, or_false] at hx
  rcases hx with rfl | rfl | rfl | rfl | rfl | rfl | rfl
  · exact mv_odd q1 (by decide)
  · exact mv_odd q2 (by decide)
  · exact mv_odd q3 (by decide)
  · exact mv_pair q4 (by have h := mv_row (H := H3) (b := .bl true) (n := "bool") (Or.inl rfl); exact mv_row (b := .bl true) (n := "bool") (Or.inl rfl))
  · exact mv_pair q5 (mv_row (b := .non) (n := "NoneType") (Or.inl rfl))
  · exact mv_pair q6 (Or.inl ⟨"int", Or.inl rfl, by decide, rfl⟩)
  · exact mv_odd q7 (by decide)
section
variable {P : Program} {w : World} {K : PySem.W.Frag} {mg : Str → Option Value} {base : Heap}
theorem sc_law : FnScope ["_law_script", "_law_k", "_law_pool_here", "_law_turn", "_law_odd", "_law_text_here", "_law_number"] ["_law_script"] (defScope s_law) := ⟨rfl, rfl, rfl, by decide +kernel, rfl, by decide +kernel, by decide +kernel⟩
theorem ok_law {f : Addr} {fd : FuncData} (F : Fun K "law" "law" s_law f fd) (T : Txt mg) (hdraw : Has P w K mg base 1 "_law_draw" ["_law_pool_here", "_law_many"] spDraw) (hopened : Has P w K mg base 3 "_law_opened" ["_law_script", "_law_k", "_law_many"] (spOpened K))
    (htext : Has P w K mg base 3 "_law_text" ["_law_pool_here"] spText) (hword : Has P w K mg base 1 "is_word" ["value"] spIsWord) (hmove : Has P w K mg base 2 "is_move" ["value"] spIsMove) (hlis : Has P w K mg base 1 "_law_is" ["_law_text_here"] spLawIs) :
    FnOk P w K mg base CX0 4 f fd ["_law_script"] (spLaw K) := by
  have nd := sc_law.nd
  obtain ⟨_, _, G1, mg1, kp1, b1⟩ := hdraw.ex
  obtain ⟨_, _, G2, mg2, kp2, b2⟩ := hopened.ex
  obtain ⟨_, _, G3, mg3, kp3, b3⟩ := htext.ex
  obtain ⟨_, _, G4, mg4, kp4, b4⟩ := hword.ex
  obtain ⟨_, _, G5, mg5, kp5, b5⟩ := hmove.ex
  obtain ⟨_, _, G6, mg6, kp6, b6⟩ := hlis.ex
  refine F.ok sc_law (fun vs H Q E h => ?_) (fun cdv A outer s H vs Q E hr h => ?_)
  · obtain ⟨v, ns, rfl, _⟩ := h
    rfl
  · obtain ⟨a, ns, rfl, hS, hlen, k⟩ := h
    have r1 : Room 1 _ := hr.mono (by decide)
    have r2 : Room 2 _ := hr.mono (by decide)
    refine ⟨_, (pss_cons (ps_for PassesOwn.never rfl (pi_range1 (by rfl) T.range (pa_cons (pe_callB (call_max2 rfl) (by rfl) T.max (by decide +kernel) (pa_cons pe_int (pa_cons (pe_callB (call_min2 rfl) (by rfl) T.min (by decide +kernel) (pa_cons pe_int (pa_cons (pe_callB call_len_seq (by rfl) T.len (by decide +kernel) (pa_cons (pv 0) pa_nil)) pa_nil))) pa_nil))) pa_nil)) (pg_name (i := 1) nd rfl (Or.inl rfl))
        (pss_cons (ps_set (i := 2) nd rfl (Or.inl rfl) (pe_call G2 hr rfl mg2 kp2 b2 .nil pass0 (pa_cons (pv 0) (pa_cons (pv 1) (pa_cons pe_int pa_nil)))))
        (pss_cons (ps_for PassesOwn.never rfl (pi_range1 (by rfl) T.range (pa_cons pe_int pa_nil)) (pg_name (i := 3) nd rfl (Or.inl rfl))
          (pss_cons (ps_set (i := 5) nd rfl (Or.inl rfl) (pe_call G3 hr rfl mg3 kp3 b3 .nil pass0 (pa_cons (pv 2) pa_nil)))
          (pss_cons (ps_if (PW.pt (pw_or (pt_cmpR op_ne (pe_call G4 r1 rfl mg4 kp4 b4 .nil pass0 (pa_cons (pv 5) pa_nil)) (pe_call G6 r1 rfl mg6 kp6 b6 .nil pass0 (pa_cons (pv 5) pa_nil)) (nomark _)) (pw_or1 (pt_cmpR op_ne (pe_call G5 r2 rfl mg5 kp5 b5 .nil pass0 (pa_cons (pe_tup (pa_cons pe_str (pa_cons (pv 5) pa_nil))) pa_nil)) (pe_call G6 r1 rfl mg6 kp6 b6 .nil pass0 (pa_cons (pv 5) pa_nil)) (nomark _)))))
            (pss_one (ps_ret pe_bl))
            pss_nil)
          (pss_cons (ps_set (i := 6) nd rfl (Or.inl rfl) (pe_op op_sub (pe_call G1 r1 rfl mg1 kp1 b1 .nil pass0 (pa_cons (pv 2) (pa_cons pe_int pa_nil))) pe_int))
          (pss_cons (ps_if (PW.pt (pw_or (pt_cmpR op_notBl (pe_call G5 r2 rfl mg5 kp5 b5 .nil pass0 (pa_cons (pe_tup (pa_cons pe_str (pa_cons (pv 6) pa_nil))) pa_nil)) pe_bl (nomark _)) (pw_or1 (pt_cmpR op_notBl (pe_call G5 r2 rfl mg5 kp5 b5 .nil pass0 (pa_cons (pe_tup (pa_cons pe_str (pa_cons (pe_callTy call_str_int (by rfl) T.str (by decide +kernel) (pa_cons (pv 6) pa_nil)) pa_nil))) pa_nil)) pe_bl (nomark _)))))
            (pss_one (ps_ret pe_bl))
            pss_nil)
          (pss_one (ps_if (PW.pt (pw_or (pt_cmpR op_ne (pe_call G5 r2 rfl mg5 kp5 b5 .nil pass0 (pa_cons (pe_tup (pa_cons (pv 5) (pa_cons (pv 6) pa_nil))) pa_nil)) (pe_cmpR op_eq (pv 5) pe_str (nomark _)) (nomark _)) (pw_or1 (pt_cmpR op_notBl (pe_call G5 r2 rfl mg5 kp5 b5 .nil pass0 (pa_cons (pe_lst (pa_cons pe_str (pa_cons (pv 6) pa_nil))) pa_nil)) pe_bl (nomark _)))))
            (pss_one (ps_ret pe_bl))
            pss_nil)))))))
        (pss_cons (ps_for PassesOwn.never rfl (pi_list (pe_lst (pa_cons pe_non (pa_cons pe_int (pa_cons pe_bl (pa_cons (pe_lst (pa_cons pe_str pa_nil)) (pa_cons (pe_tup (pa_cons pe_str pa_nil)) (pa_cons pe_dnewK (pa_cons (pe_op op_pow pe_int pe_int) pa_nil))))))))) (pg_name (i := 4) nd rfl (Or.inl rfl))
          (pss_one (ps_if (PW.pt (pw_or (pt_cmpR op_notBl (pe_call G4 r1 rfl mg4 kp4 b4 .nil pass0 (pa_cons (pv 4) pa_nil)) pe_bl (nomark _)) (pw_or (pt_cmpR op_notBl (pe_call G5 r2 rfl mg5 kp5 b5 .nil pass0 (pa_cons (pv 4) pa_nil)) pe_bl (nomark _)) (pw_or1 (pt_cmpR op_notBl (pe_call G5 r2 rfl mg5 kp5 b5 .nil pass0 (pa_cons (pe_tup (pa_cons pe_str (pa_cons (pv 4) pa_nil))) pa_nil)) pe_bl (nomark _))))))
            (pss_one (ps_ret pe_bl))
            pss_nil)))
        (pss_one (ps_for PassesOwn.never rfl (pi_list (pe_lst (pa_cons (pe_tup (pa_cons pe_str pa_nil)) (pa_cons (pe_tup (pa_cons pe_str (pa_cons pe_int (pa_cons pe_int pa_nil)))) (pa_cons (pe_tup pa_nil) (pa_cons (pe_tup (pa_cons pe_str (pa_cons pe_bl pa_nil))) (pa_cons (pe_tup (pa_cons pe_str (pa_cons pe_non pa_nil))) (pa_cons (pe_tup (pa_cons pe_int (pa_cons pe_str pa_nil))) (pa_cons (pe_tup (pa_cons pe_str (pa_cons pe_str (pa_cons pe_str pa_nil)))) pa_nil))))))))) (pg_name (i := 4) nd rfl (Or.inl rfl))
          (pss_one (ps_if (pt_cmpR op_notBl (pe_call G5 r2 rfl mg5 kp5 b5 .nil pass0 (pa_cons (pv 4) pa_nil)) pe_bl (nomark _))
            (pss_one (ps_ret pe_bl))
            pss_nil))))))))
      (pss_one (ps_ret pe_bl))), ?_⟩
    refine ⟨_, rfl, _, _, rfl, Or.inl hS, _, _, rfl, _, _, rfl, ?_⟩
    have hm : ∃ m : Nat, (if (if ((ns.map V.int).length : Int) < 8 then ((ns.map V.int).length : Int) else 8) > 1 then (if ((ns.map V.int).length : Int) < 8 then ((ns.map V.int).length : Int) else 8) else 1) = (m : Int) ∧ m ≤ 8 ∧ (ns ≠ [] → m ≤ ns.length) := by
      rw [List.length_map]
      by_cases h8 : ((ns.length : Int)) < 8
      · rw [if_pos h8]
        by_cases h1 : (ns.length : Int) > 1
        · rw [if_pos h1]; exact ⟨ns.length, rfl, by omega, fun _ => Nat.le_refl _⟩
        · rw [if_neg h1]; exact ⟨1, rfl, by decide, fun h => List.length_pos_iff.mpr h⟩
      · rw [if_neg h8]
        rw [if_pos (by decide)]
        exact ⟨8, rfl, by decide, fun _ => by omega⟩
    obtain ⟨m, em, hm8, hmn⟩ := hm
    rw [em]
    refine ⟨(m : Int), rfl, by omega, by omega, for_range (lo := 0) (n := ((m : Int)).toNat) (fun i σ H' => ∃ (s1 s2 s3 s4 s5 s6 : Option V), σ = [some (.ref a), s1, s2, s3, s4, s5, s6] ∧ Ex H H') ⟨_, _, _, _, _, _, rfl, Evl.Ex.refl H⟩ ?_ ?_⟩
    · rintro i σ H0 hi ⟨s1, s2, s3, s4, s5, s6, rfl, e0⟩
      have hk0 : (0 : Int) + (i : Int) = (i : Int) := Int.zero_add _
      rw [hk0]
      refine ⟨_, rfl, _, rfl, a, ns, (i : Int), 300, rfl, Evl.ex_l e0 hS, by omega, by omega, fun h => by have := hmn h; omega, by decide, by decide, fun p H1 hp e1 hP1 => ?_⟩
      have hpH : H p = none := Evl.fresh_back e0 hp
      refine ⟨12, rfl, by decide, by decide, for_range (lo := 0) (n := 12) (fun _ σ H' => ∃ (t3 t4 t5 t6 : Option V), σ = [some (.ref a), some (.int (i : Int)), some (.ref p), t3, t4, t5, t6] ∧ PoolAt H' p ∧ Ex H H') ⟨_, _, _, _, rfl, hP1, e0.trans e1⟩ ?_ ?_⟩
      · -- one text, one number
        rintro j σ H2 hj ⟨t3, t4, t5, t6, rfl, hP2, e2⟩
        refine ⟨_, rfl, p, rfl, hP2, fun z H3 hz hP3 e3 => ?_⟩
        have x3 : Ex H H3 := exp_new hpH e2 e3
        refine ⟨_, rfl, _, rfl, Or.inl ⟨z, rfl, by omega, fun H4 e4 => ?_⟩⟩
        refine ⟨_, rfl, z, rfl, by omega, fun H5 e5 => ⟨rfl, _, rfl, elseB (ne_self _) ?_⟩⟩
        refine ⟨_, rfl, by show 2 ≤ sizeLine; decide, fun t ht => ⟨.ref t, isWord z, rfl, mv_pair upd_same (Or.inr (Or.inl ⟨rfl, Or.inl ⟨z, rfl, by omega, rfl⟩⟩)), fun H6 e6 => ?_⟩⟩
        refine ⟨_, rfl, z, rfl, by omega, fun H7 e7 => ⟨rfl, _, rfl, elseB (ne_self _) ?_⟩⟩
        have y7 : Ex H3 H7 := (((Evl.Ex.trans e4 e5).trans (Evl.Ex.new ht)).trans e6).trans e7
        have x7 : Ex H H7 := x3.trans y7
        refine ⟨_, rfl, p, 400, rfl, by decide, hP3.ex y7, fun r H8 h0 h1 hP8 e8 => ⟨_, _, rfl, rfl, ?_⟩⟩
        have x8 : Ex H H8 := exp_new hpH x7 e8
        have hlog : (r - 200).natAbs.log2 < 1920 := by
          have := Nat.log2_le_self (r - 200).natAbs
          omega
        refine ⟨_, rfl, by show 2 ≤ sizeLine; decide, fun t1 ht1 => ⟨.ref t1, true, rfl, mv_pair upd_same mv_row_int, fun H9 e9 => ⟨_, _, rfl, rfl, _, rfl, iteF ?_⟩⟩⟩
        refine ⟨_, rfl, _, rfl, hlog, by show 2 ≤ sizeLine; decide, fun t2 ht2 => ⟨.ref t2, false, rfl, mv_pair upd_same mv_row_str, fun H10 e10 => ⟨_, _, rfl, rfl, _, rfl, iteF ?_⟩⟩⟩
        refine ⟨_, rfl, _, rfl, by show 2 ≤ sizeLine; decide, fun t3 ht3 => ⟨.ref t3, _, rfl, mv_pair upd_same mv_text, fun H11 e11 => ?_⟩⟩
        refine ⟨_, rfl, rfl, rfl, _, rfl, elseB (ne_str z) ?_⟩
        refine ⟨_, rfl, by show 2 ≤ sizeLine; decide, fun t4 ht4 => ⟨.ref t4, false, rfl, mv_no (ty_lst upd_same) (by decide), fun H12 e12 => ⟨_, _, rfl, rfl, _, rfl, iteF ?_⟩⟩⟩
        have y12 : Ex H8 H12 := ((((((Evl.Ex.new ht1).trans e9).trans (Evl.Ex.new ht2)).trans e10).trans (Evl.Ex.new ht3)).trans e11).trans ((Evl.Ex.new ht4).trans e12)
        exact ⟨_, _, _, _, rfl, hP8.ex y12, x8.trans y12⟩
      · rintro σ H2 ⟨t3, t4, t5, t6, rfl, hP2, e2⟩
        -- [None, 5, True, ['a'], ('a',), {}, 10 ** 30]
        refine ⟨by show 1 ≤ sizeLine; decide, fun l1 hl1 => ⟨by show 1 ≤ sizeLine; decide, fun l2 hl2 => fun l3 hl3 => ⟨_, _, rfl, rfl, ⟨by decide, by decide, by decide⟩, by show 7 ≤ sizeLine; decide, fun l hl => ?_⟩⟩⟩
        have hx := odds1 hl1 hl2 hl3 hl
        revert hx
        generalize hHo : upd (upd (upd (upd H2 l1 (.lst [V.str "a"])) l2 (.tup [V.str "a"])) l3 (.dK [])) l (.lst (items1 l1 l2 l3)) = Ho
        rintro ⟨x4, hodd⟩
        have hlo : Ho l = some (.lst (items1 l1 l2 l3)) := by rw [← hHo]; exact upd_same
        refine ⟨l, rfl, ⟨_, SqL.of (hHo ▸ hlo)⟩, ?_⟩
        have y4 : Ex H Ho := e2.trans x4
        refine for_list (K := K) (a := l) (xs := items1 l1 l2 l3) (fun _ σ H' => ∃ (t3 t4 t5 t6 : Option V), σ = [some (.ref a), some (.int (i : Int)), some (.ref p), t3, t4, t5, t6] ∧ Ex Ho H') ⟨_, _, _, _, rfl, hHo ▸ Evl.Ex.refl _⟩ (fun _ _ _ _ ⟨_, _, _, _, _, e⟩ => SqL.of (e _ _ hlo)) ?_ ?_
        · rintro j x σ H3 hx ⟨t3, t4, t5, t6, rfl, e3⟩
          have ho := (hodd x (List.mem_of_getElem? hx)).ex e3
          obtain ⟨⟨n, hn, hne⟩, hmv⟩ := id ho
          refine ⟨_, rfl, x, rfl, Or.inr ⟨n, hn, hne, _, _, rfl, rfl, _, rfl, iteF ?_⟩⟩
          refine ⟨_, rfl, x, false, rfl, hmv, fun H4 e4 => ⟨_, _, rfl, rfl, _, rfl, iteF ?_⟩⟩
          refine ⟨_, rfl, by show 2 ≤ sizeLine; decide, fun t ht => ⟨.ref t, false, rfl, mv_pair upd_same (Or.inr (Or.inl ⟨rfl, Or.inr ⟨n, tyN_ex (e4.trans (Evl.Ex.new ht)) hn, hne, rfl⟩⟩)), fun H5 e5 => ⟨_, _, rfl, rfl, _, rfl, iteF ?_⟩⟩⟩
          exact ⟨_, _, _, _, rfl, e3.trans ((e4.trans (Evl.Ex.new ht)).trans e5)⟩
        · rintro σ H3 ⟨t3, t4, t5, t6, rfl, e3⟩
          -- the tuples that are no moves
          refine ⟨by show 1 ≤ sizeLine; decide, fun u1 n1 => ⟨by show 3 ≤ sizeLine; decide, fun u2 n2 => ⟨by show 0 ≤ sizeLine; decide, fun u3 n3 => ⟨by show 2 ≤ sizeLine; decide, fun u4 n4 => ⟨by show 2 ≤ sizeLine; decide, fun u5 n5 => ⟨by show 2 ≤ sizeLine; decide, fun u6 n6 => ⟨by show 3 ≤ sizeLine; decide, fun u7 n7 => ⟨by show 7 ≤ sizeLine; decide, fun u nu => ?_⟩⟩⟩⟩⟩⟩⟩⟩
          have hx := odds2 n1 n2 n3 n4 n5 n6 n7 nu
          revert hx
          generalize hHp : upd (upd (upd (upd (upd (upd (upd (upd H3 u1 (.tup [V.str "row"])) u2 (.tup [V.str "row", V.int 0, V.int 0])) u3 (.tup [])) u4 (.tup [V.str "row", V.bl true])) u5 (.tup [V.str "row", V.non])) u6 (.tup [V.int 0, V.str "row"])) u7 (.tup [V.str "serve", V.str "a", V.str "b"])) u (.lst [V.ref u1, V.ref u2, V.ref u3, V.ref u4, V.ref u5, V.ref u6, V.ref u7]) = Hq
          rintro ⟨x5, hno⟩
          have huo : Hq u = some (.lst [V.ref u1, V.ref u2, V.ref u3, V.ref u4, V.ref u5, V.ref u6, V.ref u7]) := by rw [← hHp]; exact upd_same
          refine ⟨u, rfl, ⟨_, SqL.of huo⟩, ?_⟩
          have y5 : Ex H Hq := (y4.trans e3).trans x5
          refine for_list (K := K) (a := u) (xs := [V.ref u1, V.ref u2, V.ref u3, V.ref u4, V.ref u5, V.ref u6, V.ref u7]) (fun _ σ H' => ∃ (t3 t4 t5 t6 : Option V), σ = [some (.ref a), some (.int (i : Int)), some (.ref p), t3, t4, t5, t6] ∧ Ex Hq H') ⟨_, _, _, _, rfl, Evl.Ex.refl _⟩ (fun _ _ _ _ ⟨_, _, _, _, _, e⟩ => SqL.of (e _ _ huo)) ?_ ?_
          · rintro j x σ H4 hx ⟨t3, t4, t5, t6, rfl, e4⟩
            refine ⟨_, rfl, x, false, rfl, isMoveV_ex e4 (hno x (List.mem_of_getElem? hx)), fun H5 e5 => ⟨_, _, rfl, rfl, _, rfl, iteF ?_⟩⟩
            exact ⟨_, _, _, _, rfl, e4.trans e5⟩
          · rintro σ H4 ⟨t3, t4, t5, t6, rfl, e4⟩
            exact ⟨_, _, _, _, _, _, rfl, y5.trans e4⟩
    · rintro σ H2 ⟨s1, s2, s3, s4, s5, s6, rfl, e0⟩
      exact k H2
end
end M
namespace M
open PySem L2
theorem all_mk {l : PySem.W.OpenLaw} {w : World} {K : PySem.W.Frag} {h : Heap} {mg : Str → Option Value} {fa f0 f1 f2 f3 f4 f5 f6 f7 f8 f9 : Addr} (X : K.In h) (G : h.Ns mainGlobals mg) (hfa : mg "law" = some (.ref fa))
    {od0 an0 od1 an1 od2 an2 od3 an3 od4 an4 od5 an5 od6 an6 od7 an7 od8 an8 od9 an9 : Option Addr} {sl0 sl1 sl2 sl3 sl4 sl5 sl6 sl7 sl8 sl9 : Array (Option Value)} {oc0 kV0 dc0 pm0 cd0 ct0 oc1 kV1 dc1 pm1 cd1 ct1 oc2 kV2 dc2 pm2 cd2 ct2 oc3 kV3 dc3 pm3 cd3 ct3 oc4 kV4 dc4 pm4 cd4 ct4 oc5 kV5 dc5 pm5 cd5 ct5 oc6 kV6 dc6 pm6 cd6 ct6 oc7 kV7 dc7 pm7 cd7 ct7 oc8 kV8 dc8 pm8 cd8 ct8 oc9 kV9 dc9 pm9 cd9 ct9 : Value} {u_LONGEST_WORD : Tok}
    (a0 : PySem.W.nsIn K mainGlobals "_law_numbers" = some (some (.ref f0))) (l0 : K.lookup f0 = some ⟨oc0, od0, .func (PySem.W.fnOf "_law_numbers" "_law_numbers" (defArgs s__law_numbers) (defBody s__law_numbers) (defScope s__law_numbers) .none kV0 dc0 pm0 an0 cd0 ct0), sl0⟩) (c0 : PySem.W.codeIn K cd0 "_law_numbers" = true) (k0 : PySem.W.keepIn K (.ref f0) = true)
    (a1 : PySem.W.nsIn K mainGlobals "_law_pool" = some (some (.ref f1))) (l1 : K.lookup f1 = some ⟨oc1, od1, .func (PySem.W.fnOf "_law_pool" "_law_pool" (defArgs s__law_pool) (defBody s__law_pool) (defScope s__law_pool) .none kV1 dc1 pm1 an1 cd1 ct1), sl1⟩) (c1 : PySem.W.codeIn K cd1 "_law_pool" = true) (k1 : PySem.W.keepIn K (.ref f1) = true)
    (a2 : PySem.W.nsIn K mainGlobals "_law_draw" = some (some (.ref f2))) (l2 : K.lookup f2 = some ⟨oc2, od2, .func (PySem.W.fnOf "_law_draw" "_law_draw" (defArgs s__law_draw) (defBody s__law_draw) (defScope s__law_draw) .none kV2 dc2 pm2 an2 cd2 ct2), sl2⟩) (c2 : PySem.W.codeIn K cd2 "_law_draw" = true) (k2 : PySem.W.keepIn K (.ref f2) = true)
    (a3 : PySem.W.nsIn K mainGlobals "_law_pick" = some (some (.ref f3))) (l3 : K.lookup f3 = some ⟨oc3, od3, .func (PySem.W.fnOf "_law_pick" "_law_pick" (defArgs s__law_pick) (defBody s__law_pick) (defScope s__law_pick) .none kV3 dc3 pm3 an3 cd3 ct3), sl3⟩) (c3 : PySem.W.codeIn K cd3 "_law_pick" = true) (k3 : PySem.W.keepIn K (.ref f3) = true)
    (a4 : PySem.W.nsIn K mainGlobals "_law_opened" = some (some (.ref f4))) (l4 : K.lookup f4 = some ⟨oc4, od4, .func (PySem.W.fnOf "_law_opened" "_law_opened" (defArgs s__law_opened) (defBody s__law_opened) (defScope s__law_opened) .none kV4 dc4 pm4 an4 cd4 ct4), sl4⟩) (c4 : PySem.W.codeIn K cd4 "_law_opened" = true) (k4 : PySem.W.keepIn K (.ref f4) = true)
    (a5 : PySem.W.nsIn K mainGlobals "_law_text" = some (some (.ref f5))) (l5 : K.lookup f5 = some ⟨oc5, od5, .func (PySem.W.fnOf "_law_text" "_law_text" (defArgs s__law_text) (defBody s__law_text) (defScope s__law_text) .none kV5 dc5 pm5 an5 cd5 ct5), sl5⟩) (c5 : PySem.W.codeIn K cd5 "_law_text" = true) (k5 : PySem.W.keepIn K (.ref f5) = true)
    (a6 : PySem.W.nsIn K mainGlobals "_law_is" = some (some (.ref f6))) (l6 : K.lookup f6 = some ⟨oc6, od6, .func (PySem.W.fnOf "_law_is" "_law_is" (defArgs s__law_is) (defBody s__law_is) (defScope s__law_is) .none kV6 dc6 pm6 an6 cd6 ct6), sl6⟩) (c6 : PySem.W.codeIn K cd6 "_law_is" = true) (k6 : PySem.W.keepIn K (.ref f6) = true)
    (a7 : PySem.W.nsIn K mainGlobals "is_word" = some (some (.ref f7))) (l7 : K.lookup f7 = some ⟨oc7, od7, .func (PySem.W.fnOf "is_word" "is_word" (defArgs s_is_word) (defBody s_is_word) (defScope s_is_word) .none kV7 dc7 pm7 an7 cd7 ct7), sl7⟩) (c7 : PySem.W.codeIn K cd7 "is_word" = true) (k7 : PySem.W.keepIn K (.ref f7) = true)
    (a8 : PySem.W.nsIn K mainGlobals "is_move" = some (some (.ref f8))) (l8 : K.lookup f8 = some ⟨oc8, od8, .func (PySem.W.fnOf "is_move" "is_move" (defArgs s_is_move) (defBody s_is_move) (defScope s_is_move) .none kV8 dc8 pm8 an8 cd8 ct8), sl8⟩) (c8 : PySem.W.codeIn K cd8 "is_move" = true) (k8 : PySem.W.keepIn K (.ref f8) = true)
    (a9 : PySem.W.nsIn K mainGlobals "law" = some (some (.ref f9))) (l9 : K.lookup f9 = some ⟨oc9, od9, .func (PySem.W.fnOf "law" "law" (defArgs s_law) (defBody s_law) (defScope s_law) .none kV9 dc9 pm9 an9 cd9 ct9), sl9⟩) (c9 : PySem.W.codeIn K cd9 "law" = true) (k9 : PySem.W.keepIn K (.ref f9) = true)
    (z_max : PySem.W.nsIn K mainGlobals "max" = some none)
    (z_min : PySem.W.nsIn K mainGlobals "min" = some none)
    (z_int : PySem.W.nsIn K mainGlobals "int" = some none)
    (z_str : PySem.W.nsIn K mainGlobals "str" = some none)
    (z_tuple : PySem.W.nsIn K mainGlobals "tuple" = some none)
    (z_type : PySem.W.nsIn K mainGlobals "type" = some none)
    (z_len : PySem.W.nsIn K mainGlobals "len" = some none)
    (z_all : PySem.W.nsIn K mainGlobals "all" = some none)
    (z_range : PySem.W.nsIn K mainGlobals "range" = some none)
    (z_LONGEST_WORD : PySem.W.nsIn K mainGlobals "LONGEST_WORD" = some (some (.int 8 u_LONGEST_WORD)))
    : ∃ fd : FuncData, (∀ (s : Shared) (v : Value), BindsTo s fd ⟨[v], []⟩ [("_law_script", v)]) ∧ ∀ base : Heap, K.In base → base.Ns mainGlobals mg → FnOk l.prog w K mg base CX0 4 fa fd ["_law_script"] (spLaw K) := by
  have e := hfa.symm.trans (PySem.W.mg_of X G a9)
  cases e
  have m_max := PySem.W.mg_none_of X G z_max
  have m_min := PySem.W.mg_none_of X G z_min
  have m_int := PySem.W.mg_none_of X G z_int
  have m_str := PySem.W.mg_none_of X G z_str
  have m_tuple := PySem.W.mg_none_of X G z_tuple
  have m_type := PySem.W.mg_none_of X G z_type
  have m_len := PySem.W.mg_none_of X G z_len
  have m_all := PySem.W.mg_none_of X G z_all
  have m_range := PySem.W.mg_none_of X G z_range
  have m_LONGEST_WORD := PySem.W.mg_of X G z_LONGEST_WORD
  have F0 := fun_mk (st := s__law_numbers) l0 c0 k0
  have b0 := F0.binds (ps := ["_law_cell", "_law_salt", "_law_sizes"]) fun _ _ _ _ _ _ us hl => match us, hl with | [_, _, _], _ => rfl
  have g0 := PySem.W.mg_of X G a0
  have F1 := fun_mk (st := s__law_pool) l1 c1 k1
  have b1 := F1.binds (ps := ["_law_cell", "_law_salt", "_law_many"]) fun _ _ _ _ _ _ us hl => match us, hl with | [_, _, _], _ => rfl
  have g1 := PySem.W.mg_of X G a1
  have F2 := fun_mk (st := s__law_draw) l2 c2 k2
  have b2 := F2.binds (ps := ["_law_pool_here", "_law_many"]) fun _ _ _ _ _ _ us hl => match us, hl with | [_, _], _ => rfl
  have g2 := PySem.W.mg_of X G a2
  have F3 := fun_mk (st := s__law_pick) l3 c3 k3
  have b3 := F3.binds (ps := ["_law_pool_here", "_law_some"]) fun _ _ _ _ _ _ us hl => match us, hl with | [_, _], _ => rfl
  have g3 := PySem.W.mg_of X G a3
  have F4 := fun_mk (st := s__law_opened) l4 c4 k4
  have b4 := F4.binds (ps := ["_law_script", "_law_k", "_law_many"]) fun _ _ _ _ _ _ us hl => match us, hl with | [_, _, _], _ => rfl
  have g4 := PySem.W.mg_of X G a4
  have F5 := fun_mk (st := s__law_text) l5 c5 k5
  have b5 := F5.binds (ps := ["_law_pool_here"]) fun _ _ _ _ _ _ us hl => match us, hl with | [_], _ => rfl
  have g5 := PySem.W.mg_of X G a5
  have F6 := fun_mk (st := s__law_is) l6 c6 k6
  have b6 := F6.binds (ps := ["_law_text_here"]) fun _ _ _ _ _ _ us hl => match us, hl with | [_], _ => rfl
  have g6 := PySem.W.mg_of X G a6
  have F7 := fun_mk (st := s_is_word) l7 c7 k7
  have b7 := F7.binds (ps := ["value"]) fun _ _ _ _ _ _ us hl => match us, hl with | [_], _ => rfl
  have g7 := PySem.W.mg_of X G a7
  have F8 := fun_mk (st := s_is_move) l8 c8 k8
  have b8 := F8.binds (ps := ["value"]) fun _ _ _ _ _ _ us hl => match us, hl with | [_], _ => rfl
  have g8 := PySem.W.mg_of X G a8
  have F9 := fun_mk (st := s_law) l9 c9 k9
  have T : Txt mg := ⟨m_max, m_min, m_int, m_str, m_tuple, m_type, m_len, m_all, m_range, ⟨_, m_LONGEST_WORD⟩⟩
  refine ⟨PySem.W.fnOf "law" "law" (defArgs s_law) (defBody s_law) (defScope s_law) .none kV9 dc9 pm9 an9 cd9 ct9, fun s v => .of_eq rfl, fun base _ _ => ?_⟩
  have H0 : Has l.prog w K mg base 1 "_law_numbers" _ (spNumbers K) := ⟨_, _, ok_numbers F0 T, g0, k0, b0⟩
  have H1 : Has l.prog w K mg base 2 "_law_pool" _ spPool := ⟨_, _, ok_pool F1 H0, g1, k1, b1⟩
  have H2 : Has l.prog w K mg base 1 "_law_draw" _ spDraw := ⟨_, _, ok_draw F2 T, g2, k2, b2⟩
  have H3 : Has l.prog w K mg base 2 "_law_pick" _ (spPick K) := ⟨_, _, ok_pick F3 T H2, g3, k3, b3⟩
  have H4 : Has l.prog w K mg base 3 "_law_opened" _ (spOpened K) := ⟨_, _, ok_opened F4 H1, g4, k4, b4⟩
  have H5 : Has l.prog w K mg base 3 "_law_text" _ spText := ⟨_, _, ok_text F5 T H2 H3, g5, k5, b5⟩
  have H6 : Has l.prog w K mg base 1 "_law_is" _ spLawIs := ⟨_, _, ok_law_is F6 T, g6, k6, b6⟩
  have H7 : Has l.prog w K mg base 1 "is_word" _ spIsWord := ⟨_, _, ok_is_word F7 T, g7, k7, b7⟩
  have H8 : Has l.prog w K mg base 2 "is_move" _ spIsMove := ⟨_, _, ok_is_move F8 T H7, g8, k8, b8⟩
  exact ok_law F9 T H2 H4 H5 H7 H8 H6
theorem walk {l : PySem.W.OpenLaw} {q : Program} {loose : List Str} {XP : (Str → Option Value) → Heap → Prop} {YP : World → Heap → Prop} {d : DefRec} {K : Params → PySem.W.Frag} (hn : l.most = some 63) (hdf : d.params.defaults = [])
    (hY : ∀ (w : World) (h : Heap), YP w h → (K w.params).In h)
    (F : ∀ (w : World) (mg : Str → Option Value) (fa : Addr) (h : Heap), (K w.params).In h → h.Ns mainGlobals mg → mg d.name = some (.ref fa) →
      ∃ fd : FuncData, (∀ (s : Shared) (u : Value), BindsTo s fd ⟨[u], []⟩ [("_law_script", u)]) ∧ ∀ base : Heap, (K w.params).In base → base.Ns mainGlobals mg → FnOk l.prog w (K w.params) mg base CX0 4 fa fd ["_law_script"] (spLaw (K w.params))) :
    PySem.W.WalkO q loose XP YP l.row.toRowW d [] (fun f vs => PySem.call f vs) :=
  L2.walk_of (n := 63) (k := 4) (x := "_law_script") (CX := fun _ => CX0) (sp := fun w => spLaw (K w.params)) hn (by decide) hdf ⟨rfl, by decide, by decide⟩ hY F (fun _ _ a ns hl _ hS => ⟨a, ns, rfl, hS, hl, fun _ => rfl⟩) fun _ _ _ _ _ z => z
end M
open PySem PySem.W PyProof.Rows
set_option maxRecDepth 100000 in
set_option maxHeartbeats 0 in
theorem PySem.Challenge.cw_maskedlevels_k07_words_and_moves_holds : PySem.Challenge.rw_maskedlevels_k07_words_and_moves.Holds := by
  w_on; o_law; k_head; (case hw => w_witness2)
  k_fill
  refine M.walk (l := PySem.Challenge.rw_maskedlevels_k07_words_and_moves) rfl rfl (fun w h Y => PySem.W.kIn_of Y) ?F
  case F =>
    intro w mg fa h KX G hmg
    refine' M.all_mk KX G hmg ?a0 ?l0 ?c0 ?k0 ?a1 ?l1 ?c1 ?k1 ?a2 ?l2 ?c2 ?k2 ?a3 ?l3 ?c3 ?k3 ?a4 ?l4 ?c4 ?k4 ?a5 ?l5 ?c5 ?k5 ?a6 ?l6 ?c6 ?k6 ?a7 ?l7 ?c7 ?k7 ?a8 ?l8 ?c8 ?k8 ?a9 ?l9 ?c9 ?k9 ?z_max ?z_min ?z_int ?z_str ?z_tuple ?z_type ?z_len ?z_all ?z_range ?z_LONGEST_WORD
    (case a0 => k_is)
    (case l0 => k_is)
    (case c0 => k_is)
    (case k0 => k_is)
    (case a1 => k_is)
    (case l1 => k_is)
    (case c1 => k_is)
    (case k1 => k_is)
    (case a2 => k_is)
    (case l2 => k_is)
    (case c2 => k_is)
    (case k2 => k_is)
    (case a3 => k_is)
    (case l3 => k_is)
    (case c3 => k_is)
    (case k3 => k_is)
    (case a4 => k_is)
    (case l4 => k_is)
    (case c4 => k_is)
    (case k4 => k_is)
    (case a5 => k_is)
    (case l5 => k_is)
    (case c5 => k_is)
    (case k5 => k_is)
    (case a6 => k_is)
    (case l6 => k_is)
    (case c6 => k_is)
    (case k6 => k_is)
    (case a7 => k_is)
    (case l7 => k_is)
    (case c7 => k_is)
    (case k7 => k_is)
    (case a8 => k_is)
    (case l8 => k_is)
    (case c8 => k_is)
    (case k8 => k_is)
    (case a9 => k_is)
    (case l9 => k_is)
    (case c9 => k_is)
    (case k9 => k_is)
    (case z_max => k_is)
    (case z_min => k_is)
    (case z_int => k_is)
    (case z_str => k_is)
    (case z_tuple => k_is)
    (case z_type => k_is)
    (case z_len => k_is)
    (case z_all => k_is)
    (case z_range => k_is)
    (case z_LONGEST_WORD => k_is)
