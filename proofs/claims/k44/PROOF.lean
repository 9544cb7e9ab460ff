import PyProof.Rows.All
import Wide.All
import OpenK.AllK
import Wide.FinOn
import KE.KExcInit
import KE.KExcIs
import HandS.ForMost
import HandS.More
import HandS.Style
import HandS.Evl
import HandS.Exc
import HandS.ExcInit
import HandS.IsInst
import KE.KExcMake
import HandS.Defaults
import HandS.ExcField
import HandS.TryMany
import HandS.WordsExc
import HandS.Walk
import HandS.Iter
import HandS.ExcIs
import HandS.Zip
import KE.KExcLine
import PySem.Challenge.RW_maskedlevels_k44_classes_of_errors
set_option Elab.async false
set_option maxRecDepth 100000
set_option maxHeartbeats 4000000
/-! Errors of a class of one's own, any number of own classes between it and Exception: made, their field stored and read, isinstance asked of them, as values. -/
namespace PySem
namespace ErrX
open PySem.W PySem.Calls PyProof.Rows
abbrev tail3 : List Value := [.type "Exception", .type "BaseException", .type "object"]
section
variable {prog : Program} {w : World} {A : Around} {R : Result → Shared → Prop} {hp : Heap} {g : Array GenState} {d : Drawn} {t : Nat} {os : OsState}
/-- the first field of a fresh error: its dict is made -/
theorem first_field {K : Frag} {x C t1 : Addr} {f : Str} {tk : Tok} {v : Value} (X : K.In hp) (hx : hp.get? x = some (excObj C t1 none .none)) (ho : excOver K C tail3 = true) (hd : hasDictIn K C = true) (ht : takerIn K C f = some none)
    (hq : ∀ h' tk' dx, (∀ b o, b ≠ x → hp.get? b = some o → h'.get? b = some o) → hp.objs.size ≤ dx → dx ≠ x → h'.get? x = some (excObj C t1 (some dx) .none) → h'.Ns1 dx (fun y => if y = f then some v else none) → R (.ok (.ret .none)) ⟨h', g, d, tk', os⟩) :
    codeAny (model prog w) A (.call (.builtin "object.__setattr__") ⟨[.ref x, .str f tk, v], []⟩) R ⟨hp, g, d, t, os⟩ := by
  have hne : x ≠ hp.objs.size := Nat.ne_of_lt (Heap.lt_size hx)
  obtain ⟨cd, hcd, hdct⟩ := any_some hd
  refine osa_openX (s := ⟨hp, g, d, t, os⟩) (r := none) (od := none) PySem.F.store_Exception X ⟨hx, rfl, rfl, trivial⟩ ho ht fun b => ?_
  refine wpAny_bind (wpAny_pure ?_)
  refine wpAny_bind (instanceDict_exc (s := ⟨hp, g, d, t, os⟩) hx (looks_clsIn X hcd) hdct ?_)
  refine HandSPX.store_in_new (dx := hp.objs.size) ?_ fun h' tk' hn hs => ?_
  · exact ⟨_, #[], _, (Heap.get?_update_ne _ _ _ _ hne.symm).trans (Heap.get?_push_at rfl rfl), rfl, fun e he => absurd he (by simp), fun _ => rfl⟩
  · have e1 : (hp.push (dictOf [] 0)).get? x = some (excObj C t1 none .none) := Heap.get?_push_of_some _ hx
    refine hq h' tk' hp.objs.size (fun b o hb hbo => ?_) (Nat.le_refl _) hne.symm ?_ hn
    · have e2 := Heap.get?_push_of_some (dictOf [] 0) hbo
      exact (hs.2 b (Nat.ne_of_lt (Heap.lt_size hbo))).trans ((Heap.get?_update_ne _ _ _ _ hb).trans e2)
    · exact (hs.2 x hne).trans (Heap.get?_update_self _ e1 rfl)
end
end ErrX
end PySem
namespace L2
open PySem PySem.Spec PyProof.Rows
/-- what the written part says of an error class at C -/
structure ErrC (K : PySem.W.Frag) (C : Addr) : Prop where
  ini : PySem.W.excInitIn K C PySem.ErrX.tail3 "Exception.__new__" = true
  ovr : PySem.W.excOver K C PySem.ErrX.tail3 = true
  hd : PySem.W.hasDictIn K C = true
  sa : PySem.W.findIn K (.ref C) "__setattr__" = some (some (.builtin "object.__setattr__"))
  ga : PySem.W.findIn K (.ref C) "__getattribute__" = some (some (.builtin "BaseException.__getattribute__"))
  gg : PySem.W.findIn K (.ref C) "__getattr__" = some none
  exC : PySem.W.subIn K (.ref C) (.type "BaseException") = some true
  kC : PySem.W.keepIn K (.ref C) = true
section
variable {X : Cx} {pins : List (Addr × Obj)} {σ : L2.St} {H : Hp} {s : Shared} {a C dx : Addr} {f : Str} {y : V} {u : Value} {Q : Unit → Shared → Prop} {E : Value → Shared → Prop} {A : Around}
theorem est_new (T : ErrC X.K C) (I : Inv X pins σ H s) (e : H a = some (exo a C none)) (hno : PySem.W.findIn X.K (.ref C) f = some none) (ry : RelV y u)
    (h : ∀ dx s', H dx = none → dx ≠ a → Inv X pins σ (upd (upd H dx (exd dx [(f, y)])) a (exo a C (some dx))) s' → Q () s') : wpAny (model X.prog X.w) A (setAttr (.ref a) f u) Q E s := by
  obtain ⟨t1, ho⟩ := exo_at I.hok e
  have hs : s = ⟨s.heap, s.gens, s.drawn, s.toks, s.os⟩ := rfl
  refine PySem.W.set_plain I.kIn (ox := PySem.W.excObj C t1 none .none) (od := none) ⟨ho, rfl, rfl, trivial⟩ T.sa ?_
  refine PySem.ErrX.first_field (hp := s.heap) (g := s.gens) (d := s.drawn) (os := s.os) I.kIn ho T.ovr T.hd (NoAttr.taker hno) (fun h' tk' dx k dn dne hx hn => ?_)
  -- ahead of the object's own change: the dict alone is new
  have hk : ∃ h1 : Heap, (∀ b, b ≠ a → h1.get? b = h'.get? b) ∧ h1.get? a = s.heap.get? a ∧ h1.objs.size = h'.objs.size := by
    refine ⟨h'.update a fun _ => PySem.W.excObj C t1 none .none, fun b hb => ?_, ?_, ?_⟩
    · exact Heap.get?_update_other _ _ (Ne.symm hb)
    · rw [ho]; exact Heap.get?_update_self _ hx rfl
    · simp
  obtain ⟨h1, k1, k2, k3⟩ := hk
  have k4 : ∀ b o, s.heap.get? b = some o → h1.get? b = some o := fun b o q => by
    by_cases hb : b = a
    · rw [hb, k2, ← hb]; exact q
    · rw [k1 b hb]; exact k b o hb q
  have hnd : H dx = none := I.hok.fresh dn
  have hn1 : h1.Ns1 dx (fun y => if y = f then some u else none) := hn.at fun o q => (k1 dx dne).trans q
  have J : Inv X pins σ (upd H dx (exd dx [(f, y)])) { s with heap := h1, toks := tk' } := I.laid (a := dx) (o := exd dx [(f, y)]) k4 dn (exd_ok hn1 (relO_put (fs := []) ry fun g => True.intro))
  have ea : (upd H dx (exd dx [(f, y)])) a = some (exo a C none) := (upd_ne dne.symm).trans e
  refine h dx _ hnd dne ?_
  have W := J.write (t' := tk') (x := a) (e := a) (o := exo a C (some dx)) (h' := h') (by rw [ea]; exact True.intro) (.inl rfl) (fun b o hb q => (k1 b hb).symm.trans q) ⟨_, hx⟩ (exo_ok hx)
  exact W
end
end L2
namespace PySem
namespace ErrX
open PySem.W PySem.Calls PyProof.Rows
section
variable {M : Model} {prog : Program} {w : World} {A : Around} {R : Result → Shared → Prop} {E : Value → Shared → Prop} {h : Heap} {g : Array GenState} {d : Drawn} {t : Nat} {os : OsState}
variable {nm q : Str} {C N : Addr} {bs bm : List Value} {hdct : Bool} {sn : List Str} {sub : List Value} {ab : Bool} {col : Option Bool} {dd : Option Addr} {k0 k1 k2 k3 k5 : Option Value} {f : Str} {v : Value}
abbrev eN : String := "Exception.__new__"
theorem kw_check (hT : ∀ X : String, bm.contains (.type X) = tail3.contains (.type X)) {Q : Unit → Shared → Prop} (hC : h.get? C = some (excClassObj nm q C N bs bm hdct sn sub ab col dd k0 k1 k2 k3 k5 eN)) (z : Q () ⟨h, g, d, t, os⟩) :
    wpAny M A (checkBuiltinCall eN ⟨[.ref C], [(f, v)]⟩) Q E ⟨h, g, d, t, os⟩ := by
  have F := PySem.F.excBase_Exception
  have c1 : (Value.ref C :: bm).contains (.type "Exception") = true := by rw [List.contains_cons, hT, show tail3.contains (.type "Exception") = true by decide +kernel, Bool.or_true]
  have c2 := F.noStar
  simp only [checkBuiltinCall, F.newKind, F.newSplit, F.newRow]
  repeat (first | refine wpAny_loadPart_at hC ?_ | (refine wpAny_isSubtype_exc hC ?_; rw [c1]) | refine wpAny_staticBase_exc hC ?_ | refine wpAny_madeBy_exc hC ?_ | simp only [bne_self_eq_false, Bool.false_eq_true, if_false] | wp_step)
  exact z
theorem kw_new (hT : ∀ X : String, bm.contains (.type X) = tail3.contains (.type X)) (hC : h.get? C = some (excClassObj nm q C N bs bm hdct sn sub ab col dd k0 k1 k2 k3 k5 eN))
    (z : R (.ok (.ret (.ref (h.objs.size + 1)))) ⟨(h.push (kdv_tup [])).push (HandSPX.excO C h.objs.size), g, d, t, os⟩) :
    codeAny (model prog w) A (.builtin eN ⟨[.ref C], [(f, v)]⟩) R ⟨h, g, d, t, os⟩ := by
  have F := PySem.F.excBase_Exception
  have c0 := F.ends
  have c1 : (Value.ref C :: bm).contains (.type "Exception") = true := by rw [List.contains_cons, hT, show tail3.contains (.type "Exception") = true by decide +kernel, Bool.or_true]
  have c2 : (Value.ref C :: bm).contains (.type "AttributeError") = false := by rw [List.contains_cons, hT, show tail3.contains (.type "AttributeError") = false by decide +kernel]; rfl
  have c3 : (Value.ref C :: bm).contains (.type "NameError") = false := by rw [List.contains_cons, hT, show tail3.contains (.type "NameError") = false by decide +kernel]; rfl
  refine codeAny_builtinAt F.entry ?_
  unfold Builtin.«BaseException.__new__»
  refine wpAt_bind ?_
  show wpAt _ _ _ (stack >>= _) _ _ _
  refine wpAt_bind (wpAt_stack fun p below => wpAt_of_wpAny ?_)
  wp_walk
  refine wpAt_of_wpAny ?_
  rw [F.owner]
  repeat (first | with_reducible refine wpAny_madeHere_exc F.canon hC ?_ | with_reducible refine wpAny_loadPart_at hC ?_ | (with_reducible refine wpAny_isSubtype_exc hC ?_; first | rw [c1] | rw [c2] | rw [c3]) | wp_step)
  show R _ _
  rw [Heap.size_push]
  exact z
theorem kw_type {fI : Addr} {Q : Fin → Shared → Prop} (hT : ∀ X : String, bm.contains (.type X) = tail3.contains (.type X)) (hC : h.get? C = some (excClassObj nm q C N bs bm hdct sn sub ab col dd k0 k1 k2 k3 k5 eN))
    (hi : Looks (model prog w) h (typeLookup (.ref C) "__init__") (some (.ref fI))) (hb : ∀ self, Looks (model prog w) h (bindSpecial (.ref fI) self) (.ref fI, [self]))
    (z : codeAny (model prog w) A (.call (.ref fI) ⟨[.ref (h.objs.size + 1)], [(f, v)]⟩)
      (fun r s' => match r with | .ok (.ret u) => u = .none ∧ Q (.done (.ret (.ref (h.objs.size + 1)))) s' | .ok _ => False | .error e => E e s')
      ⟨(h.push (kdv_tup [])).push (HandSPX.excO C h.objs.size), g, d, t, os⟩) :
    wpAny (model prog w) A (Builtin.«type.__call__» ⟨[.ref C], [(f, v)]⟩) Q E ⟨h, g, d, t, os⟩ := by
  have F := PySem.F.excBase_Exception
  have kk : ∀ b o, h.get? b = some o → ((h.push (kdv_tup [])).push (HandSPX.excO C h.objs.size)).get? b = some o := fun b o e => Heap.get?_push_of_some _ (Heap.get?_push_of_some _ e)
  have hC1 := kk _ _ hC
  have hnew : ((h.push (kdv_tup [])).push (HandSPX.excO C h.objs.size)).get? (h.objs.size + 1) = some (HandSPX.excO C h.objs.size) := by heap_get
  have cC : (Value.ref C :: bm).contains (.ref C) = true := by simp
  have i1 := hi.keeps kk
  have b1 := (hb (.ref (h.objs.size + 1))).keeps kk
  repeat (first | with_reducible refine wpAny_loadPart_at hC ?_ | with_reducible refine wpAny_madeBy_exc hC ?_ | wp_step)
  refine codeAny_call_builtin_code (Code.quiet_builtin _ F.quiet) (kw_check hT hC ?_)
  refine kw_new hT hC ?_
  show wpAny _ _ _ _ _ _
  unfold isInstance
  repeat (first | with_reducible refine wpAny_loadPart_at hnew ?_ | (with_reducible refine wpAny_isSubtype_exc hC1 ?_; rw [cC]) | wp_step)
  show wpAny _ _ (typeLookup (.ref C) _) _ _ _
  refine i1.at ?_
  refine wpAny_holding (wpAny_bind (b1.at ?_))
  refine wpAny_bind (wpAny_call (codeAny_mono z fun r s' y => ?_))
  rcases r with e | (u | _ | _ | _) <;> first | exact y | exact y.elim | skip
  obtain ⟨rfl, y⟩ := y
  first
    | exact wpAny_pure (wpAny_pure y)
    | (wp_walk; exact y)
theorem kw_own {fI : Addr} (hT : ∀ X : String, bm.contains (.type X) = tail3.contains (.type X)) (hC : h.get? C = some (excClassObj nm q C N bs bm hdct sn sub ab col dd k0 k1 k2 k3 k5 eN))
    (hi : Looks (model prog w) h (typeLookup (.ref C) "__init__") (some (.ref fI))) (hb : ∀ self, Looks (model prog w) h (bindSpecial (.ref fI) self) (.ref fI, [self]))
    (z : codeAny (model prog w) (A.under (.builtin "type.__call__" ⟨[.ref C], [(f, v)]⟩)) (.call (.ref fI) ⟨[.ref (h.objs.size + 1)], [(f, v)]⟩) (InitBack (h.objs.size + 1) R)
      ⟨(h.push (kdv_tup [])).push (HandSPX.excO C h.objs.size), g, d, t, os⟩) :
    codeAny (model prog w) A (.call (.ref C) ⟨[], [(f, v)]⟩) R ⟨h, g, d, t, os⟩ := by
  have f1 := tc_lookup
  have f2 := tc_bind (.ref C)
  have hTy : (⟨h, g, d, t, os⟩ : Shared).TypeIs (.ref C) "type" := ⟨_, hC, rfl⟩
  refine codeAny_of_tree ?_
  show wpAny _ _ (callAny (.ref C) _) _ _ _
  repeat (any_goals (first | assumption | with_reducible refine wpAny_loadPart_at hC ?_ | wp_step))
  refine ⟨rfl, ?_⟩
  refine codeAny_call_builtin_at (Code.quiet_builtin _ (by decide +kernel)) entry_typeCall (wpAny_check_type_call_sub hC (kw_type hT hC hi hb ?_))
  refine codeAny_mono z fun r s' y => ?_
  cases r with
  | error e => exact y
  | ok fl => cases fl <;> exact y
end
end ErrX
end PySem
namespace L2
open PySem PySem.Spec PyProof.Rows
/-- an error of the class at C stands at a, its fields fs -/
def ErrAt (H : Hp) (a C : Addr) (fs : List (Str × V)) : Prop := (fs = [] ∧ H a = some (exo a C none)) ∨ ∃ dx, H a = some (exo a C (some dx)) ∧ H dx = some (exd dx fs)
/-- self.f = e, in the __init__ of an error -/
def tEst (K : PySem.W.Frag) (f : Str) (to te : TE) : TS := fun D σ H => te σ H fun y H1 => to σ H1 fun x H2 => ∃ a C : Addr, x = .ref a ∧ ErrC K C ∧ PySem.W.findIn K (.ref C) f = some none ∧ H2 a = some (exo a C none) ∧
  ∀ dx, H2 dx = none → dx ≠ a → D.nx σ (upd (upd H2 dx (exd dx [(f, y)])) a (exo a C (some dx)))
def spErr (K : PySem.W.Frag) (f : Str) : Sp := fun vs H Q _ => ∃ (a C : Addr) (v : V), vs = [.ref a, v] ∧ ErrC K C ∧ PySem.W.findIn K (.ref C) f = some none ∧ H a = some (exo a C none) ∧
  ∀ dx, H dx = none → dx ≠ a → Q .non (upd (upd H dx (exd dx [(f, v)])) a (exo a C (some dx)))
/-- C(e), C(f = e): a new error -/
def tErr (C : Addr) (f : Str) (t : TA) : TE := fun σ H Q => t σ H fun vs H1 => ∃ v, vs = [v] ∧ ∀ a dx, H1 a = none → H1 dx = none → dx ≠ a → Q (.ref a) (upd (upd H1 dx (exd dx [(f, v)])) a (exo a C (some dx)))
def tErr0 (C : Addr) : TE := fun _ H Q => ∀ a, H a = none → Q (.ref a) (upd H a (exo a C none))
theorem upd_three {H : Hp} {a b : Addr} {x y z : HO} (h : b ≠ a) : upd (upd (upd H a x) b y) a z = upd (upd H b y) a z := by
  funext c
  by_cases h1 : c = a
  · subst h1
    rw [upd_same, upd_same]
  · rw [upd_ne h1, upd_ne h1]
    by_cases h2 : c = b
    · subst h2
      rw [upd_same, upd_same]
    · rw [upd_ne h2, upd_ne h2, upd_ne h1]
/-- all that is needed of an error class with a field: its __init__ keeps its promise -/
structure ErrM (P : Program) (w : World) (K : PySem.W.Frag) (mg : Str → Option Value) (base : Heap) (C : Addr) (f : Str) : Prop where
  c : ErrC K C
  no : PySem.W.findIn K (.ref C) f = some none
  ex : ∃ (fI : Addr) (fd : FuncData), PySem.W.findIn K (.ref C) "__init__" = some (some (.ref fI)) ∧ PySem.W.typeIn K (.ref fI) = some (.type "function") ∧ FnOk P w K mg base CX0 1 fI fd ["self", f] (spErr K f) ∧ Binds K fd ["self", f] [] ∧
    ∀ (s : Shared) (x v : Value), BindsTo s fd ⟨[x], [(f, v)]⟩ [("self", x), (f, v)]
section
variable {X : Cx} {o e : Expr} {to te : TE} {t : TA} {f x : Str} {C : Addr} {p p' pos : Pos}
theorem ps_est (ho : PE X o to) (he : PE X e te) (hs : swapsWith e (some (.Attribute o f p')) pos.line X.env = pure false := by rfl) : PS X (.Assign [.Attribute o f p'] e pos) (tEst X.K f to te) := by
  refine ⟨fun pins s σ H D I h => ?_⟩
  refine plainObj_wpAny_Assign_Attribute (thn (he.run pins s σ H _ I h) fun v s1 ⟨y, H1, I1, r1, q1⟩ => ?_) hs
  refine thn (ho.run pins s1 σ H1 _ I1 q1) fun u s2 ⟨z, H2, I2, r2, a, C, ez, T, hno, ea, q⟩ => ?_
  subst ez
  obtain rfl : u = Value.ref a := r2
  exact est_new T I2 ea hno r1 fun dx s' n ne J => ⟨σ, _, J, q dx n ne⟩
/-- the end of both ways of making one -/
theorem err_end {pins : List (Addr × Obj)} {σ : L2.St} {H1 : Hp} {Q : VK} {s1 : Shared} {us : List Value} {v : V} {r : Result} {s' : Shared} (I1 : Inv X pins σ H1 s1)
    (k : ∀ a dx, H1 a = none → H1 dx = none → dx ≠ a → Q (.ref a) (upd (upd H1 dx (exd dx [(f, v)])) a (exo a C (some dx))))
    (h : CR CX0 X.stack X.prog X.w (upd H1 (s1.heap.objs.size + 1) (exo (s1.heap.objs.size + 1) C none)) { s1 with heap := (s1.heap.push (PySem.W.kdv_tup us)).push (PySem.HandSPX.excO C s1.heap.objs.size) }
      (fun z H2 => z = .non ∧ Q (.ref (s1.heap.objs.size + 1)) H2) (fun _ _ _ => False) r s') :
    PySem.W.InitBack (s1.heap.objs.size + 1) (fun r s' => match r with | .ok (.ret u) => EP X pins σ Q u s' | .ok _ => False | .error e => X.xe e s') r s' := by
  have hsz : s1.heap.objs.size ≤ s1.heap.objs.size + 1 := Nat.le_succ _
  have kk : ∀ b o, s1.heap.get? b = some o → ((s1.heap.push (PySem.W.kdv_tup us)).push (PySem.HandSPX.excO C s1.heap.objs.size)).get? b = some o := fun b o z => Heap.get?_push_of_some _ (Heap.get?_push_of_some _ z)
  have hget : ((s1.heap.push (PySem.W.kdv_tup us)).push (PySem.HandSPX.excO C s1.heap.objs.size)).get? (s1.heap.objs.size + 1) = some (PySem.HandSPX.excO C s1.heap.objs.size) := by heap_get
  have I2 := I1.laid (t' := s1.toks) (a := s1.heap.objs.size + 1) (o := exo (s1.heap.objs.size + 1) C none) kk hsz (exo_ok hget)
  cases r with
  | error er => exact False.elim h
  | ok fl =>
    cases fl with
    | ret u =>
      obtain ⟨z, H3, I3, rz, ez, q⟩ := I2.after h
      subst ez
      exact ⟨rz, ⟨V.ref (s1.heap.objs.size + 1), H3, I3, rfl, q⟩⟩
    | next => exact False.elim h
    | brk => exact False.elim h
    | cont => exact False.elim h
theorem err_sp {a : Addr} {H : Hp} {v : V} {Q : VK} {E : XK} (M : ErrM X.prog X.w X.K X.mg X.base C f) (ha : H a = none) (k : ∀ a dx, H a = none → H dx = none → dx ≠ a → Q (.ref a) (upd (upd H dx (exd dx [(f, v)])) a (exo a C (some dx)))) :
    spErr X.K f [.ref a, v] (upd H a (exo a C none)) (fun z H2 => z = .non ∧ Q (.ref a) H2) E := by
  refine ⟨a, C, v, rfl, M.c, M.no, upd_same, fun dx hdx hne => ⟨rfl, ?_⟩⟩
  rw [upd_three hne]
  rw [upd_ne hne] at hdx
  exact k a dx ha hdx hne
theorem run_err {pins : List (Addr × Obj)} {σ : L2.St} {H : Hp} {Q : VK} {s : Shared} {us : List Value} {kw : List (Str × Value)} {v : V} {u : Value} (M : ErrM X.prog X.w X.K X.mg X.base C f) (hr : Room 2 X.A) (I : Inv X pins σ H s) (rv : RelV v u)
    (hu : (us = [u] ∧ kw = []) ∨ (us = [] ∧ kw = [(f, u)])) (k : ∀ a dx, H a = none → H dx = none → dx ≠ a → Q (.ref a) (upd (upd H dx (exd dx [(f, v)])) a (exo a C (some dx)))) :
    wpAny (model X.prog X.w) X.A (call (.ref C) us kw) (EP X pins σ Q) X.xe s := by
  obtain ⟨fI, fd, iC, tI, F1, hb, hk⟩ := M.ex
  obtain ⟨nm, N, qn, bs, bm, hdct, sn, sub, ab, col, dd, k0, k1, k2, k3, k5, hC, hT⟩ := PySem.W.excInit_of I.kIn M.c.ini
  have hsz : s.heap.objs.size ≤ s.heap.objs.size + 1 := Nat.le_succ _
  have hn : H (s.heap.objs.size + 1) = none := I.hok.fresh hsz
  have hq := err_sp (E := fun _ _ _ => False) M hn k
  have mk : ∀ us' : List Value, Env0 X.prog X.w X.K X.mg X.base X.A X.stack { s with heap := (s.heap.push (PySem.W.kdv_tup us')).push (PySem.HandSPX.excO C s.heap.objs.size) } (upd H (s.heap.objs.size + 1) (exo (s.heap.objs.size + 1) C none)) ∧
      X.K.In ((s.heap.push (PySem.W.kdv_tup us')).push (PySem.HandSPX.excO C s.heap.objs.size)) := fun us' => by
    have kk : ∀ b o, s.heap.get? b = some o → ((s.heap.push (PySem.W.kdv_tup us')).push (PySem.HandSPX.excO C s.heap.objs.size)).get? b = some o := fun b o z => Heap.get?_push_of_some _ (Heap.get?_push_of_some _ z)
    have hget : ((s.heap.push (PySem.W.kdv_tup us')).push (PySem.HandSPX.excO C s.heap.objs.size)).get? (s.heap.objs.size + 1) = some (PySem.HandSPX.excO C s.heap.objs.size) := by heap_get
    have I2 := I.laid (t' := s.toks) (a := s.heap.objs.size + 1) (o := exo (s.heap.objs.size + 1) C none) kk hsz (exo_ok hget)
    exact ⟨I2.env0, I2.kIn⟩
  have li := PySem.W.looks_findIn (M := model X.prog X.w) I.kIn iC
  have lb : ∀ self, PySem.W.Looks (model X.prog X.w) s.heap (bindSpecial (.ref fI) self) (.ref fI, [self]) := fun self => PySem.W.bind_fn I.kIn self tI
  rcases hu with ⟨rfl, rfl⟩ | ⟨rfl, rfl⟩
  · obtain ⟨E2, K2⟩ := mk [u]
    refine wpAny_call (PySem.HandSPX.call_own PySem.F.excBase_Exception hT hC li lb (by show 1 ≤ sizeLine; decide) (codeAny_mono (F1.run _ X.stack _ _ ⟨[.ref (s.heap.objs.size + 1), u], []⟩ [.ref (s.heap.objs.size + 1), u] [.ref (s.heap.objs.size + 1), v] _ _ (hr.make C [u] []) (E2.make C [u] [])
      (hb _ [.ref (s.heap.objs.size + 1), u] K2 rfl) (.cons rfl (.cons rv .nil)) hq) fun r s' hq' => ?_))
    exact err_end (us := [u]) I k hq'
  · obtain ⟨E2, K2⟩ := mk []
    refine wpAny_call (PySem.ErrX.kw_own hT hC li lb (codeAny_mono (F1.run _ X.stack _ _ ⟨[.ref (s.heap.objs.size + 1)], [(f, u)]⟩ [.ref (s.heap.objs.size + 1), u] [.ref (s.heap.objs.size + 1), v] _ _ (hr.make C [] [(f, u)]) (E2.make C [] [(f, u)])
      (hk _ _ _) (.cons rfl (.cons rv .nil)) hq) fun r s' hq' => ?_))
    exact err_end (us := []) I k hq'
theorem pe_err (M : ErrM X.prog X.w X.K X.mg X.base C f) (hr : Room 2 X.A) (hg : Gl X x) (hm : X.mg x = some (.ref C)) (ha : PA X [e] t) (hdb : (x == ("__debug__" : Str)) = false := by decide)
    (he : starEach [e] X.env = (false, eval e X.env) :: starEach [] X.env := by rfl) (hpl : (backTo pos (starEach [] X.env)).any (·.1) = false := by rfl) : PE X (.Call (.Name x p) [e] [] pos) (tErr C f t) := by
  refine ⟨fun pins s σ H Q I h => ?_⟩
  refine wpAny_Call_Name_kw (ld_glob I hg hm ?_ hdb)
  refine PySem.W.callWith_K (h₀ := X.base) I.ok.mod.kin M.c.kC (thn (ha.run pos pins s σ H _ I h) fun us s1 ⟨vs, H1, I1, r, v, ev, q⟩ => ⟨I1.kIn, ?_⟩) he hpl
  subst ev
  cases r with
  | cons rv rn =>
    cases rn
    exact run_err M hr I1 rv (Or.inl ⟨rfl, rfl⟩) q
theorem pe_errK {kp : Pos} (M : ErrM X.prog X.w X.K X.mg X.base C f) (hr : Room 2 X.A) (hg : Gl X x) (hm : X.mg x = some (.ref C)) (ha : PK X [⟨some f, e, kp⟩] t) (hdb : (x == ("__debug__" : Str)) = false := by decide)
    (hall : (backToKw pos (keywordEach [⟨some f, e, kp⟩] X.env)).all (·.1.isSome) = true := by rfl) (hks : (backToKw pos (keywordEach [⟨some f, e, kp⟩] X.env)).filterMap (·.1) = [f] := by rfl)
    (hpl : ((backTo pos (starEach [] X.env)).any (·.1) || (backToKw pos (keywordEach [⟨some f, e, kp⟩] X.env)).any (·.1.isNone)) = false := by rfl) : PE X (.Call (.Name x p) [] [⟨some f, e, kp⟩] pos) (tErr C f t) := by
  refine ⟨fun pins s σ H Q I h => ?_⟩
  refine wpAny_Call_Name_kw (ld_glob I hg hm ?_ hdb)
  refine PySem.W.callWith_KW0 (h₀ := X.base) I.ok.mod.kin M.c.kC hall ?_ hpl
  refine thn (ha.run pos pins s σ H _ I h) fun us s1 ⟨vs, H1, I1, r, v, ev, q⟩ => ⟨I1.kIn, ?_⟩
  rw [hks]
  subst ev
  cases r with
  | cons rv rn =>
    cases rn
    exact run_err M hr I1 rv (Or.inr ⟨rfl, rfl⟩) q
end
end L2
namespace L2
open PySem PySem.Spec PyProof.Rows
/-- an error class without an __init__ of its own -/
structure Err0 (K : PySem.W.Frag) (C : Addr) : Prop where
  c : ErrC K C
  ini : PySem.W.findIn K (.ref C) "__init__" = some (some (.builtin "Exception.__init__"))
/-- what isinstance asks of an error class: its mro -/
structure ErrI (K : PySem.W.Frag) (C D : Addr) : Prop where
  c : ErrC K C
  cls : ∃ cd, PySem.W.clsIn K C = some cd ∧ cd.mro = .ref C :: .ref D :: PySem.ErrX.tail3
  ty : PySem.W.typeIn K (.ref C) = some (.type "type")
  cl : PySem.W.findIn K (.ref C) "__class__" = some (some (.builtin "object.__class__"))
  sp : PySem.W.specialIn K (.builtin "object.__class__") "__get__" = some (some (.builtin "getset_descriptor.__get__"))
  tk : PySem.W.takesIn K (.builtin "object.__class__") = some true
theorem ErrI.mro {K : PySem.W.Frag} {C D : Addr} (T : ErrI K C D) (b : Value) : PySem.W.mroIn K C b = some ((Value.ref C :: .ref D :: PySem.ErrX.tail3).contains b) := by
  obtain ⟨cd, h1, h2⟩ := T.cls
  unfold PySem.W.mroIn
  rw [h1, Option.bind_some, h2]
  rfl
/-- whether an error of the class C is one of the class C' -/
theorem ErrI.kit {K : PySem.W.Frag} {C D C' : Addr} (T : ErrI K C D) (T' : ErrI K C' D) (h : C' ≠ D) : PySem.W.kitOne K (.ref C) (.ref C') = some (decide (C = C')) := by
  unfold PySem.W.kitOne
  by_cases e : C = C'
  · subst e
    rw [if_pos (by simp), decide_eq_true rfl]
  · rw [if_neg (by simpa using e), decide_eq_false e]
    obtain ⟨cd, h1, h2⟩ := T'.cls
    unfold PySem.W.kitCls
    dsimp only
    rw [h1, T'.ty]
    show PySem.W.mroIn K C (.ref C') = some false
    rw [T.mro]
    have e1 : (Value.ref C' == Value.ref C) = false := by simpa using fun z => e z.symm
    have e2 : (Value.ref C' == Value.ref D) = false := by simpa using h
    simp
    exact ⟨fun z => e z.symm, h⟩
section
variable {X : Cx} {o e : Expr} {to te : TE} {t : TA} {f x n : Str} {C : Addr} {p p' pos : Pos}
theorem pe_err0 (M : Err0 X.K C) (hg : Gl X x) (hm : X.mg x = some (.ref C)) (hdb : (x == ("__debug__" : Str)) = false := by decide) : PE X (.Call (.Name x p) [] [] pos) (tErr0 C) := by
  refine ⟨fun pins s σ H Q I h => ?_⟩
  refine wpAny_Call_Name_kw (ld_glob I hg hm ?_ hdb)
  obtain ⟨nm, N, qn, bs, bm, hdct, sn, sub, ab, col, dd, k0, k1, k2, k3, k5, hC, hT⟩ := PySem.W.excInit_of I.kIn M.c.ini
  have li := PySem.W.looks_findIn (M := model X.prog X.w) I.kIn M.ini
  refine PySem.W.callWith_K0 I.kIn M.c.kC ?_
  show wpAny _ _ (call (.ref C) []) _ _ _
  refine PySem.W.call_B PySem.F.excBase_Exception hT hC li (by show 0 ≤ sizeLine; decide) fun h' k he ht => ?_
  have hsz : s.heap.objs.size ≤ s.heap.objs.size + 1 := Nat.le_succ _
  have I2 := I.laid (t' := s.toks) (a := s.heap.objs.size + 1) (o := exo (s.heap.objs.size + 1) C none) k hsz (exo_ok he)
  exact ⟨.ref (s.heap.objs.size + 1), _, I2, rfl, h _ (I.hok.fresh hsz)⟩
/-- o.f of an error -/
def tFldE (K : PySem.W.Frag) (f : Str) (te : TE) : TE := fun σ H Q => te σ H fun x H1 => ∃ (a C dx : Addr) (fs : List (Str × V)) (v : V), x = .ref a ∧ ErrC K C ∧ PySem.W.findIn K (.ref C) f = some none ∧ H1 a = some (exo a C (some dx)) ∧ H1 dx = some (exd dx fs) ∧ fs.lookup f = some v ∧ Q v H1
theorem pe_fldE (he : PE X o te) (hb : attributeBase o f X.env (eval o X.env) = eval o X.env := by rfl) : PE X (.Attribute o f pos) (tFldE X.K f te) := by
  refine ⟨fun pins s σ H Q I h => ?_⟩
  refine attr_of hb (thn (he.run pins s σ H _ I h) fun u s1 ⟨x, H1, I1, rx, a, C, dx, fs, v, ex, T, hno, ea, ed, l, q⟩ => ?_)
  subst ex
  obtain rfl : u = Value.ref a := rx
  obtain ⟨t1, ha⟩ := exo_at I1.hok ea
  obtain ⟨mA, hns, hr⟩ := exd_at I1.hok ed
  obtain ⟨od, ho, hl⟩ := lookIn_ns hns
  obtain ⟨u, hu, ru⟩ := RelO.some_of (v := v) (o := mA f) (by rw [← l]; exact hr f)
  have J : PySem.W.InstAt s1.heap a _ C (some od) := ⟨ha, rfl, rfl, ho⟩
  exact HandSPX.exc_get I1.kIn J T.ga T.gg T.exC (PySem.W.findObj_own T.hd hno rfl (by rw [hl, hu])) (handed_of ru) ⟨v, H1, I1.tok _, ru, q⟩
/-- isinstance(e, C'): e an error -/
def rIsErr (K : PySem.W.Frag) : List V → Hp → VK → Prop := fun xs H Q => ∃ (a C D C' : Addr) (b : Bool) (fs : List (Str × V)), xs = [.ref a, .ref C'] ∧ ErrI K C D ∧ ErrAt H a C fs ∧ PySem.W.kitOne K (.ref C) (.ref C') = some b ∧ Q (.bl b) H
theorem call_isErr : CallR X (.builtin "isinstance") (rIsErr X.K) := by
  intro pins s σ H xs us Q I r h
  obtain ⟨a, C, D, C', b, fs, rfl, T, e, hk, q⟩ := h
  obtain ⟨u1, u2, rfl, r1, r2⟩ := vals2 r
  obtain rfl : u1 = Value.ref a := r1
  obtain rfl : u2 = Value.ref C' := r2
  have hcl : (PySem.W.clsIn X.K C).isSome = true := by
    obtain ⟨cd, h1, _⟩ := T.cls
    rw [h1]; rfl
  have hob : PySem.W.mroIn X.K C (.type "object") = some true := by
    rw [T.mro]
    simp [List.contains_cons, PySem.ErrX.tail3]
  have fin : ∀ tk, EP X pins σ Q (.bool b) { s with toks := tk } := fun tk => ⟨.bl b, H, I.tok tk, rfl, q⟩
  rcases e with ⟨_, ea⟩ | ⟨dx, ea, ed⟩
  · obtain ⟨t1, ha⟩ := exo_at I.hok ea
    have J : PySem.W.InstAt s.heap a _ C none := ⟨ha, rfl, rfl, trivial⟩
    exact PySem.W.kia_one (PySem.W.kitx_exc hcl T.c.ga T.c.gg T.c.exC T.cl T.sp T.tk hob) I.kIn J hk (fun z => nomatch z) fin
  · obtain ⟨t1, ha⟩ := exo_at I.hok ea
    obtain ⟨mA, hns, hr⟩ := exd_at I.hok ed
    obtain ⟨od, ho, hl⟩ := lookIn_ns hns
    have J : PySem.W.InstAt s.heap a _ C (some od) := ⟨ha, rfl, rfl, ho⟩
    exact PySem.W.kia_one (PySem.W.kitx_exc hcl T.c.ga T.c.gg T.c.exC T.cl T.sp T.tk hob) I.kIn J hk (fun z => nomatch z) fin
end
end L2
/-! A try with several clauses, each with a name; an error of one's own raised. -/
namespace L2
open PySem PySem.Spec PyProof.Rows
abbrev Clause := Value × Nat × (Addr → Value → Option Addr → TS)
/-- the clauses' wishes, one behind the other -/
def wAsL (K : PySem.W.Frag) (Wout : WX) (D : Ends) : List Clause → WX
  | [] => Wout
  | (c, i, ts) :: r => wAs K c i ts (wAsL K Wout D r) D
inductive HdsAs (X : Cx) : List ExceptHandler → List Clause → Prop
  | nil : HdsAs X [] []
  | cons {x n : Str} {c : Value} {i : Nat} {ts : Addr → Value → Option Addr → TS} {b₀ : Stmt} {suite : List Stmt} {np pos' : Pos} {hds : List ExceptHandler} {l : List Clause} (hi : X.N[i]? = some n) (hl : X.env.kindOf n = some .local) (hc : Names X x c)
      (hsu : ∀ (a : Addr) (oe : Obj) (cls : Value) (d : Option Addr) (pn : List (Addr × Obj)), Zc cls d oe → (∃ vs, oe.data = .fields vs) → PSs (X.suite a ((a, oe) :: pn)) (b₀ :: suite) (ts a cls d)) (r : HdsAs X hds l) :
      HdsAs X (.ExceptHandler (some (.Name x np)) (some n) (b₀ :: suite) pos' :: hds) ((c, i, ts) :: l)
/-- an exception that has landed in X's frame -/
structure Lnd (X : Cx) (pins : List (Addr × Obj)) (σ : St) (H : Hp) (cls : Value) (d : Option Addr) (a : Addr) (B : Heap) (s : Shared) : Prop where
  fl : HandSPX.FlyingZ B (X.env :: X.outer) a (Zc cls d) s.heap
  was : ∃ sI : Shared, Inv X pins σ H sI ∧ (∀ b o, sI.heap.get? b = some o → b ∉ frs X.stack → B.get? b = some o) ∧ sI.heap.UpToSlots s.heap ∧ s.os = sI.os
  ag : AllBare s.gens
  na : H a = none
section
variable {X : Cx} {pins : List (Addr × Obj)} {σ : St} {H : Hp} {cls : Value} {d : Option Addr} {a : Addr} {B : Heap} {s : Shared}
theorem Lnd.inv (L : Lnd X pins σ H cls d a B s) : Inv X pins σ H s := by
  obtain ⟨sI, J, nb, up, os⟩ := L.was
  exact J.landed nb L.fl.1 up os L.ag
theorem Lnd.off (L : Lnd X pins σ H cls d a B s) (hf : X.env.frame = some X.env.locals) : a ∉ frs (X.env :: X.outer) := fun hm => by
  obtain ⟨oe, vs, h1, _, h3⟩ := L.fl.there
  obtain ⟨_, o, h4, h5⟩ := L.fl.2.2.1.mem hm
  rw [h1] at h4
  cases h4
  exact h5 _ h3
theorem Lnd.in_suite (L : Lnd X pins σ H cls d a B s) (hf : X.env.frame = some X.env.locals) : ∃ oe vs, s.heap.get? a = some oe ∧ Zc cls d oe ∧ oe.data = .fields vs ∧ Inv (X.suite a ((a, oe) :: (X.pn ++ pins))) [] σ H s := by
  obtain ⟨oe, vs, h1, h2, h3⟩ := L.fl.there
  have off := L.off hf
  refine ⟨oe, vs, h1, h2, h3, L.inv.suite h1 h3 L.na (fun z => off ?_) fun hm => off ?_⟩
  · exact List.mem_filterMap.mpr ⟨X.env, List.mem_cons_self, by rw [hf, z]⟩
  · obtain ⟨e, he, q⟩ := List.mem_filterMap.mp hm
    exact List.mem_filterMap.mpr ⟨e, List.mem_cons_of_mem _ he, q⟩
theorem Lnd.handled {hds : List ExceptHandler} {l : List Clause} {Wout : WX} {D : Ends} (L : Lnd X pins σ H cls d a B s) (hs : X.stack = X.env :: X.outer) (hf : X.env.frame = some X.env.locals) (hN : X.N.Nodup) (tk : Takes X Wout) (hk : HdsAs X hds l)
    (w : wAsL X.K Wout D l cls d σ H) : wpAny (model X.prog X.w) X.A (handleBy (.ref a) X.env hds) (SP X pins D) X.xe s := by
  induction hk with
  | nil =>
    refine wpAny_handleBy_nil ?_
    obtain ⟨sI, J, nb, up, os⟩ := L.was
    obtain ⟨_, _, _, oe, vs, T, oT, ts', he, hz, hd, h1, hr⟩ := id L.fl
    have out : wpAny (model X.prog X.w) X.A (setFlight (.ref a) X.env.frame) (fun _ s4 => wpAny (model X.prog X.w) X.A (throw (.ref a) : Sem Flow) (SP X pins D) X.xe s4) X.xe s := by
      rw [hf]
      refine HandSPX.setFlight_upZ L.fl fun h4 held up4 => wpAny_throw (tk _ _ ?_)
      have sky : Sky B X.stack a (Zc cls d) X.env.locals h4 := Or.inr (Or.inr (by rw [hs]; exact held))
      exact ⟨a, B, sI, pins, σ, H, cls, d, rfl, J, nb, up.trans up4, sky, L.na, os, L.ag, w⟩
    unfold PySem.passOn
    refine wpAny_bind (wpAny_field he hd h1 ?_)
    rw [if_neg (show ¬ ((Value.ref T == Value.none) = true) by simp)]
    first
      | exact wpAny_bind out
      | exact wpAny_bind (wpAny_pure (wpAny_bind out))
  | @cons x n c i ts b₀ suite np pos' hds2 l2 hi hln hc hsu r ih =>
    obtain ⟨b, hb1, yes, no⟩ := w
    obtain ⟨oe, vs, he, hz, hd, S⟩ := L.in_suite hf
    have LT : PySem.W.Looks (model X.prog X.w) s.heap (typeOf (.ref a)) cls := fun A' Q' E' s' k q => wpAny_typeOf_ref (k _ _ he) (by rw [hz.1]; exact q)
    have LM := PySem.W.exm_one (M := model X.prog X.w) L.inv.kIn LT hb1
    have ask : ∀ {Q : Value → Shared → Prop} {E : Value → Shared → Prop}, Q c s → wpAny (model X.prog X.w) (X.A.mark (some (.ref a))) (eval (.Name x np) X.env) Q E s := fun {Q E} q => by
      obtain ⟨hg, hdbg, hm | ⟨hm, hv, hnn⟩⟩ := hc
      · exact ld_glob (X := X.suite a ((a, oe) :: (X.pn ++ pins))) S hg hm q hdbg
      · exact ld_blt (X := X.suite a ((a, oe) :: (X.pn ++ pins))) S hg hm hv q hnn hdbg
    refine wpAny_handleBy_cons (codeAny_handlers_test ?_) (by intro q; cases q)
    refine ask (LM.here ?_)
    cases b with
    | false =>
      show wpAny _ X.A (handleBy (.ref a) X.env hds2) _ _ _
      exact ih (no rfl)
    | true =>
      have hloc : Loc X.env.scope n := .inl hln
      refine codeAny_handlers_suite_as ?_
      refine HandSPX.lands_againZ L.fl fun h4 fl4 up4 => ?_
      have L4 : Lnd X pins σ H cls d a B { s with heap := h4 } := by
        obtain ⟨sI, J, nb, up, os⟩ := L.was
        exact ⟨fl4, ⟨sI, J, nb, up.trans up4, os⟩, L.ag, L.na⟩
      obtain ⟨oe4, vs4, he4, hz4, hd4, S4⟩ := L4.in_suite hf
      refine store_ok (X := X.suite a ((a, oe4) :: (X.pn ++ pins))) (v := .ref a) S4 hN hi hloc rfl (fun s5 S5 => ?_) (.inr hln)
      have J := L.inv.ok
      refine wpAny_mono ((hsu a oe4 cls d (X.pn ++ pins) hz4 ⟨_, hd4⟩).run [] s5 _ H _ S5 (yes rfl a L.na)) (fun f s6 hsp => ?_) (fun _ _ z => False.elim z)
      have gone : ∀ {σ6 : St} {H6 : Hp} {Q : Shared → Prop}, Inv (X.suite a ((a, oe4) :: (X.pn ++ pins))) [] σ6 H6 s6 → (∀ s7, Inv X pins (σ6.set i none) H6 s7 → Q s7) →
          wpAny (model X.prog X.w) X.A (do bindName X.env n .none; unbindBehindTheSuite X.env n pos') (fun _ s7 => Q s7) X.xe s6 := fun S6 hq => gone_ok (S6.unsuite J) hN hi hln hq
      cases f with
      | ret u =>
        obtain ⟨v6, σ6, H6, S6, r6, q6⟩ := hsp
        exact gone S6 fun s7 J7 => ⟨_, _, _, J7, r6, q6⟩
      | next =>
        obtain ⟨σ6, H6, S6, q6⟩ := hsp
        exact gone S6 fun s7 J7 => ⟨_, _, J7, q6⟩
      | brk =>
        obtain ⟨σ6, H6, S6, q6⟩ := hsp
        exact gone S6 fun s7 J7 => ⟨_, _, J7, q6⟩
      | cont =>
        obtain ⟨σ6, H6, S6, q6⟩ := hsp
        exact gone S6 fun s7 J7 => ⟨_, _, J7, q6⟩
end
section
variable {X : Cx} {body : List Stmt} {h₀ : ExceptHandler} {hds : List ExceptHandler} {l : List Clause} {pos : Pos} {tb : WX → TS} {Wout : WX}
theorem ps_try_asL (hs : X.stack = X.env :: X.outer) (hf : X.env.frame = some X.env.locals) (hN : X.N.Nodup) (tk : Takes X Wout)
    (hb : ∀ (W : WX) (pn : List (Addr × Obj)) (xe : Value → Shared → Prop), Takes (X.tr pn xe) W → PassesOwn (model X.prog X.w) X.A X.env xe → PSs (X.tr pn xe) body (tb W))
    (hk : HdsAs X (h₀ :: hds) l) : PS X (.Try body (h₀ :: hds) [] [] pos) (fun D σ H => tb (wAsL X.K Wout D l) D σ H) := by
  refine ⟨fun pins s σ H D I h => ?_⟩
  have ok := I.ok
  have run := (hb (wAsL X.K Wout D l) (X.pn ++ pins) (fun e s1 => wpAny (model X.prog X.w) X.A (noteFrame e X.env) (fun _ s2 => wpAny (model X.prog X.w) X.A (setFlight e none)
    (fun _ s3 => wpAny (model X.prog X.w) X.A (handleBy e X.env (h₀ :: hds)) (SP X pins D) X.xe s3) X.xe s2) X.xe s1) (fun u s' air => ?_) PassesOwn.looking).run [] s σ H D (I.toTry _) h
  · refine wpAny_Try_except (wpAny_mono run (fun f s1 hsp => ?_) fun e s1 he => he)
    cases f with
    | ret u =>
      obtain ⟨v, σ', H', J, r, q⟩ := hsp
      exact ⟨v, σ', H', J.ofTry ok, r, q⟩
    | next =>
      obtain ⟨σ', H', J, q⟩ := hsp
      exact wpAny_execs_nil ⟨σ', H', J.ofTry ok, q⟩
    | brk =>
      obtain ⟨σ', H', J, q⟩ := hsp
      exact ⟨σ', H', J.ofTry ok, q⟩
    | cont =>
      obtain ⟨σ', H', J, q⟩ := hsp
      exact ⟨σ', H', J.ofTry ok, q⟩
  · obtain ⟨a, B, sI, pins', σ', H', cls, d, rfl, J', nb, up, sky, na, os, ag, w⟩ := air
    have frm : X.A.frames = some (X.env :: X.outer) := by rw [ok.frames, hs]
    have sky' : Sky B (X.env :: X.outer) a (Zc cls d) X.env.locals s'.heap := by rw [← hs]; exact sky
    show wpAny (model X.prog X.w) X.A (noteFrame (.ref a) X.env) _ _ _
    refine Sky.land Zc.steady frm hf sky' fun h3 fl3 up3 => ?_
    have L : Lnd X pins σ' H' cls d a B { s' with heap := h3 } := ⟨fl3, ⟨sI, J'.ofTry ok, nb, up.trans up3, os⟩, ag, na⟩
    exact L.handled hs hf hN tk hk w
end
end L2
namespace L2
open PySem PySem.Spec PyProof.Rows
/-- C(e) as what is raised -/
def tMkErr (C : Addr) (f : Str) (t : TA) : St → Hp → XK → Prop := fun σ H Q => t σ H fun vs H1 => ∃ v, vs = [v] ∧ ∀ d, H1 d = none → Q (.ref C) (some d) (upd H1 d (.xd [(f, v)]))
section
variable {X : Cx} {e : Expr} {t : TA} {f x : Str} {C : Addr} {p pos : Pos}
theorem del_two {H : Hp} {a d : Addr} {x y z : HO} (hn : H a = none) (h : d ≠ a) : upd (L2.del (upd (upd H d x) a y) a) d z = upd H d z := by
  funext c
  by_cases h1 : c = d
  · subst h1
    rw [upd_same, upd_same]
  · rw [upd_ne h1, upd_ne h1]
    by_cases h2 : c = a
    · subst h2
      rw [L2.del_same, hn]
    · rw [L2.del_ne h2, upd_ne h2, upd_ne h1]
theorem pmk_err (M : ErrM X.prog X.w X.K X.mg X.base C f) (ty : PySem.W.typeIn X.K (.ref C) = some (.type "type")) (hr : Room 2 X.A) (hg : Gl X x) (hm : X.mg x = some (.ref C)) (ha : PA X [e] t) (hdb : (x == ("__debug__" : Str)) = false := by decide)
    (he : starEach [e] X.env = (false, eval e X.env) :: starEach [] X.env := by rfl) (hpl : (backTo pos (starEach [] X.env)).any (·.1) = false := by rfl) : PMk X (.Call (.Name x p) [e] [] pos) (tMkErr C f t) := by
  intro pins s σ H Q I h
  refine wpAny_Call_Name_kw (ld_glob I hg hm ?_ hdb)
  refine PySem.W.callWith_K (h₀ := X.base) I.ok.mod.kin M.c.kC (thn (ha.run pos pins s σ H _ I h) fun us s1 ⟨vs, H1, I1, r, v, ev, q⟩ => ⟨I1.kIn, ?_⟩) he hpl
  subst ev
  cases r with
  | @cons _ u _ _ rv rn =>
    cases rn
    obtain ⟨fI, fd, iC, tI, F1, hb, hk⟩ := M.ex
    obtain ⟨nm, N, qn, bs, bm, hdct, sn, sub, ab, col, dd, k0, k1, k2, k3, k5, hC, hT⟩ := PySem.W.excInit_of I1.kIn M.c.ini
    have hsz : s1.heap.objs.size ≤ s1.heap.objs.size + 1 := Nat.le_succ _
    have hn : H1 (s1.heap.objs.size + 1) = none := I1.hok.fresh hsz
    have kk : ∀ b o, s1.heap.get? b = some o → ((s1.heap.push (PySem.W.kdv_tup [u])).push (PySem.HandSPX.excO C s1.heap.objs.size)).get? b = some o := fun b o z => Heap.get?_push_of_some _ (Heap.get?_push_of_some _ z)
    have hget : ((s1.heap.push (PySem.W.kdv_tup [u])).push (PySem.HandSPX.excO C s1.heap.objs.size)).get? (s1.heap.objs.size + 1) = some (PySem.HandSPX.excO C s1.heap.objs.size) := by heap_get
    have I2 := I1.laid (t' := s1.toks) (a := s1.heap.objs.size + 1) (o := exo (s1.heap.objs.size + 1) C none) kk hsz (exo_ok hget)
    have hq : spErr X.K f [.ref (s1.heap.objs.size + 1), v] (upd H1 (s1.heap.objs.size + 1) (exo (s1.heap.objs.size + 1) C none))
        (fun z H2 => z = .non ∧ ∃ dx, H2 (s1.heap.objs.size + 1) = some (exo (s1.heap.objs.size + 1) C (some dx)) ∧ H2 dx = some (exd dx [(f, v)]) ∧ H1 dx = none ∧ Q (.ref C) (some dx) (upd (L2.del H2 (s1.heap.objs.size + 1)) dx (.xd [(f, v)]))) (fun _ _ _ => False) := by
      refine ⟨_, C, v, rfl, M.c, M.no, upd_same, fun dx hdx hne => ⟨rfl, dx, upd_same, (upd_ne hne).trans upd_same, ?_, ?_⟩⟩
      · rw [upd_ne hne] at hdx
        exact hdx
      · rw [upd_three hne, del_two hn hne]
        rw [upd_ne hne] at hdx
        exact q dx hdx
    have li := PySem.W.looks_findIn (M := model X.prog X.w) I1.kIn iC
    have lb : ∀ self, PySem.W.Looks (model X.prog X.w) s1.heap (bindSpecial (.ref fI) self) (.ref fI, [self]) := fun self => PySem.W.bind_fn I1.kIn self tI
    refine wpAny_call (PySem.HandSPX.call_own PySem.F.excBase_Exception hT hC li lb (by show 1 ≤ sizeLine; decide) (codeAny_mono (F1.run _ X.stack _ _ ⟨[.ref (s1.heap.objs.size + 1), u], []⟩ [.ref (s1.heap.objs.size + 1), u] [.ref (s1.heap.objs.size + 1), v] _ _ (hr.make C [u] []) (I2.env0.make C [u] [])
      (hb _ [.ref (s1.heap.objs.size + 1), u] I2.kIn rfl) (.cons rfl (.cons rv .nil)) hq) fun r s' hq' => ?_))
    cases r with
    | error er => exact False.elim hq'
    | ok fl =>
      cases fl with
      | ret u =>
        obtain ⟨z, H3, os3, bare3, un3, hok3, rz, ez, dx, ea, ed, hd1, q3⟩ := hq'
        subst ez
        exact ⟨rz, mk_end (raises_own M.c.exC ty) I1 hsz kk un3 hok3 os3 bare3 ea ed hd1 q3⟩
      | next => exact False.elim hq'
      | brk => exact False.elim hq'
      | cont => exact False.elim hq'
end
end L2
namespace E
open PySem L2
def top (i : Nat) : Stmt := PySem.Challenge.pw_maskedlevels_k44_classes_of_errors.main.body.getD i (.Pass ⟨0, 0, 0, 0⟩)
abbrev s_BadArgument_init : Stmt := inClass (top 2) 0
abbrev s_BadProgram_init : Stmt := inClass (top 3) 0
abbrev s_BadProcedure_init : Stmt := inClass (top 4) 0
abbrev s_BadPoint_init : Stmt := inClass (top 5) 0
abbrev s_BadLine_init : Stmt := inClass (top 6) 0
abbrev s_BadStore_init : Stmt := inClass (top 7) 0
abbrev s_BadMask_init : Stmt := inClass (top 8) 0
abbrev s_BadGuards_init : Stmt := inClass (top 9) 0
abbrev s_BadMove_init : Stmt := inClass (top 10) 0
abbrev s_BadScript_init : Stmt := inClass (top 11) 0
abbrev s_BadNumber_init : Stmt := inClass (top 12) 0
abbrev s_BadCell_init : Stmt := inClass (top 13) 0
abbrev s_BadSection_init : Stmt := inClass (top 14) 0
abbrev s_BadChange_init : Stmt := inClass (top 15) 0
abbrev s_BadWish_init : Stmt := inClass (top 16) 0
abbrev s_BadText_init : Stmt := inClass (top 17) 0
abbrev s_TooMany_init : Stmt := inClass (top 18) 0
abbrev s_Broken_init : Stmt := inClass (top 19) 0
abbrev s_NoRow_init : Stmt := inClass (top 20) 0
abbrev s__law_numbers : Stmt := top 24
abbrev s__law_pool : Stmt := top 25
abbrev s__law_draw : Stmt := top 26
abbrev s__law_opened : Stmt := top 27
abbrev s__law_objects : Stmt := top 28
abbrev s__law_classes : Stmt := top 29
abbrev s__law_fields : Stmt := top 30
abbrev s__law_caught : Stmt := top 31
abbrev s_law : Stmt := top 32
/-- what the top has left: the built-ins are themselves, the constants -/
structure Txt (mg : Str → Option Value) : Prop where
  enumerate : mg "enumerate" = none
  int : mg "int" = none
  isinstance : mg "isinstance" = none
  len : mg "len" = none
  max : mg "max" = none
  min : mg "min" = none
  range : mg "range" = none
  str : mg "str" = none
abbrev Ex := Evl.Ex
/-- all but what stands at p stays -/
def ExP (p : Addr) (H H' : Hp) : Prop := ∀ a o, a ≠ p → H a = some o → H' a = some o
def PoolAt (H : Hp) (p : Addr) : Prop := ∃ (q : Addr) (ns : List Int) (n : Int), H p = some (.lst [.ref q, .int n]) ∧ H q = some (.lst (ns.map V.int)) ∧ 0 ≤ n ∧ q ≠ p
def spNumbers (K : PySem.W.Frag) : Sp := fun vs H Q _ => ∃ (c s : Int) (a : Addr) (zs : List Int), vs = [.int c, .int s, .ref a] ∧ SqL K H a (zs.map V.int) ∧ zs.length ≤ 1000 ∧ 0 ≤ s ∧ s ≤ 1000 ∧ (∀ z ∈ zs, 0 < z ∧ z < 1000) ∧
  ∀ (p : Addr) (ns : List Int) (H' : Hp), H p = none → Ex H H' → H' p = some (.lst (ns.map V.int)) → Q (.ref p) H'
def spDraw : Sp := fun vs H Q _ => ∃ (p : Addr) (m : Int), vs = [.ref p, .int m] ∧ 0 < m ∧ PoolAt H p ∧
  ∀ (r : Int) (H' : Hp), 0 ≤ r → r < m → PoolAt H' p → ExP p H H' → Q (.int r) H'
theorem atI_int {α : Type} {xs : List α} {i : Int} {v : α} (h0 : 0 ≤ i) (h : xs[i.toNat]? = some v) : atI xs i = some v := by
  have e : ((i.toNat : Nat) : Int) = i := by omega
  have z := atI_nat h
  rwa [e] at z
section
variable {P : Program} {w : World} {K : PySem.W.Frag} {mg : Str → Option Value} {base : Heap}
theorem sc__law_draw : FnScope ["_law_pool_here", "_law_many", "_law_at"] ["_law_pool_here", "_law_many"] (defScope s__law_draw) := ⟨rfl, rfl, rfl, by decide +kernel, rfl, by decide +kernel, by decide +kernel⟩
theorem ok_draw {f : Addr} {fd : FuncData} (F : Fun K "_law_draw" "_law_draw" s__law_draw f fd) (T : Txt mg) : FnOk P w K mg base CX0 1 f fd ["_law_pool_here", "_law_many"] spDraw := by
  have nd := sc__law_draw.nd
  refine F.ok sc__law_draw (fun vs H Q E h => ?_) (fun cdv A outer s H vs Q E hr h => ?_)
  · obtain ⟨p, m, rfl, _⟩ := h
    rfl
  · obtain ⟨p, m, rfl, hm, ⟨q, ns, n, hp, hq, hn, hne⟩, k⟩ := h
    refine ⟨_, (pss_cons (ps_set (i := 2) nd rfl (Or.inl rfl) (pe_ix ix_list (pv 0) pe_int (fun _ _ => rfl)))
      (pss_cons (ps_asg (pe_op op_add (pv 2) pe_int) (pg_sub (pv 0) pe_int set_list))
      (pss_one (ps_ret (pe_ifExp (pt_cmpR op_lt (pv 2) (pe_callB call_len_seq (by rfl) T.len (by decide +kernel) (pa_cons (pe_ix ix_list (pv 0) pe_int (fun _ _ => rfl)) pa_nil)) (nomark _)) (pe_op op_mod (pe_callTy call_int1 (by rfl) T.int (by decide +kernel) (pa_cons (pe_ix ix_list (pe_ix ix_list (pv 0) pe_int (fun _ _ => rfl)) (pv 2) (fun _ _ => rfl)) pa_nil)) (pv 1)) pe_int))))), ?_⟩
    have hs : SqL K H p [.ref q, .int n] := SqL.of hp
    refine ⟨_, rfl, p, _, 1, _, rfl, rfl, hs, rfl, _, rfl, n, 1, rfl, rfl, _, rfl, p, _, 1, 1, rfl, rfl, hp, rfl, _, rfl, ?_⟩
    have h1 : (upd H p (.lst [.ref q, .int (n + 1)])) p = some (.lst [.ref q, .int (n + 1)]) := upd_same
    have h2 : (upd H p (.lst [.ref q, .int (n + 1)])) q = some (.lst (ns.map V.int)) := (upd_ne hne).trans hq
    have hE : ExP p H (upd H p (.lst [.ref q, .int (n + 1)])) := fun a o ha ho => (upd_ne ha).trans ho
    have hP : PoolAt (upd H p (.lst [.ref q, .int (n + 1)])) p := ⟨q, ns, n + 1, h1, h2, by omega, hne⟩
    refine ⟨_, rfl, p, _, 0, _, rfl, rfl, SqL.of h1, rfl, q, _, rfl, Or.inl (SqL.of h2), n, ((ns.map V.int).length : Int), rfl, rfl, _, rfl, ?_⟩
    refine ite2 (fun hlt => ?_) (fun _ => k 0 _ (by omega) hm hP hE)
    have hlt' : n < (ns.length : Int) := by simpa using hlt
    have hn' : n.toNat < ns.length := by omega
    have hat : atI (ns.map V.int) n = some (.int (ns[n.toNat]'hn')) := atI_int hn (by simp [hn'])
    refine ⟨_, rfl, p, _, 0, _, rfl, rfl, SqL.of h1, rfl, _, rfl, q, _, n, _, rfl, rfl, SqL.of h2, hat, Or.inl ⟨_, rfl, _, rfl, _, _, rfl, rfl, hm, ?_⟩⟩
    exact k _ _ (Int.emod_nonneg _ (by omega)) (Int.emod_lt_of_pos _ hm) hP hE
theorem sc__law_numbers : FnScope ["_law_cell", "_law_salt", "_law_sizes", "_law_whole", "_law_left", "_law_result", "_law_k", "_law_one"] ["_law_cell", "_law_salt", "_law_sizes"] (defScope s__law_numbers) := ⟨rfl, rfl, rfl, by decide +kernel, rfl, by decide +kernel, by decide +kernel⟩
def NumW (H : Hp) (c sl wh : Int) (a l : Addr) (i : Nat) (σ : L2.St) (H' : Hp) : Prop := ∃ (left : Int) (kk one : Option V) (ns : List Int), σ = [some (.int c), some (.int sl), some (.ref a), some (.int wh), some (.int left), some (.ref l), kk, one] ∧ Ex H H' ∧ H' l = some (.lst (ns.map V.int)) ∧ ns.length = i
theorem NumW.last {H H1 : Hp} {c sl wh left : Int} {a l : Addr} {i : Nat} {kk one : Option V} {ns : List Int} (hl : H l = none) (e1 : Ex H H1) (h1 : H1 l = some (.lst (ns.map V.int))) (hn : ns.length = i) (v : Int) :
    NumW H c sl wh a l (i + 1) [some (.int c), some (.int sl), some (.ref a), some (.int wh), some (.int left), some (.ref l), kk, one] (upd H1 l (.lst (ns.map V.int ++ [.int v]))) :=
  ⟨left, kk, one, ns ++ [v], rfl, Evl.Ex.mut e1 hl, by rw [upd_same, List.map_append]; rfl, by rw [List.length_append, hn]; rfl⟩
theorem pow_lt {a b : Int} (h0 : -b < a) (h1 : a < b) (hb : b ≤ 4294967296) : a.natAbs < 2 ^ 64 := by omega
theorem ok_numbers {f : Addr} {fd : FuncData} (F : Fun K "_law_numbers" "_law_numbers" s__law_numbers f fd) (T : Txt mg) : FnOk P w K mg base CX0 1 f fd ["_law_cell", "_law_salt", "_law_sizes"] (spNumbers K) := by
  have nd := sc__law_numbers.nd
  refine F.ok sc__law_numbers (fun vs H Q E h => ?_) (fun cdv A outer s H vs Q E hr h => ?_)
  · obtain ⟨c, s, a, zs, rfl, _⟩ := h
    rfl
  · obtain ⟨c, sl, a, zs, rfl, hzs, hlen, hs0, hs1, hz, k⟩ := h
    refine ⟨_, (pss_cons (ps_set (i := 3) nd rfl (Or.inl rfl) (pe_callB (call_max2 rfl) (by rfl) T.max (by decide +kernel) (pa_cons (pe_callTy call_int1 (by rfl) T.int (by decide +kernel) (pa_cons (pv 0) pa_nil)) (pa_cons (pe_callTy call_int1 (by rfl) T.int (by decide +kernel) (pa_cons (pe_op op_sub (pe_un un_neg pe_int) (pv 0)) pa_nil)) pa_nil))))
      (pss_cons (ps_set (i := 4) nd rfl (Or.inl rfl) (pv 3))
      (pss_cons (ps_set (i := 5) nd rfl (Or.inl rfl) (pe_lst pa_nil))
      (pss_cons (ps_for PassesOwn.never rfl (pi_range1 (by rfl) T.range (pa_cons (pe_callB call_len_seq (by rfl) T.len (by decide +kernel) (pa_cons (pv 2) pa_nil)) pa_nil)) (pg_name (i := 6) nd rfl (Or.inl rfl))
        (pss_one (ps_if (PW.pt (pw_and (pt_cmpR op_ge (pv 3) (pe_op op_pow pe_int pe_int) (nomark _)) (pw_and1 (pt_cmpR op_gt (pv 4) pe_int (nomark _)))))
          (pss_cons (ps_expr (pe_bm PySem.F.plainAttrs_list PySem.F.slot_list_append PySem.F.type_list_append mt_append (pv 5) (pa_cons (pe_op op_mod (pe_callTy call_int1 (by rfl) T.int (by decide +kernel) (pa_cons (pv 4) pa_nil)) (pe_ix ix_list (pv 2) (pv 6) (fun _ _ => rfl))) pa_nil)))
          (pss_one (ps_set (i := 4) nd rfl (Or.inl rfl) (pe_op op_fdiv (pv 4) (pe_ix ix_list (pv 2) (pv 6) (fun _ _ => rfl))))))
          (pss_cons (ps_set (i := 7) nd rfl (Or.inl rfl) (pe_op op_pow (pe_op op_add (pe_op op_add (pe_op op_mod (pe_callTy call_int1 (by rfl) T.int (by decide +kernel) (pa_cons (pv 3) pa_nil)) pe_int) (pe_op op_mul pe_int (pv 1))) pe_int) pe_int))
          (pss_cons (ps_set (i := 7) nd rfl (Or.inl rfl) (pe_op op_mul (pe_op op_add (pe_op op_mod (pe_callTy call_int1 (by rfl) T.int (by decide +kernel) (pa_cons (pv 7) pa_nil)) pe_int) (pe_op op_mul pe_int (pe_op op_add (pv 6) pe_int))) (pe_op op_add (pv 6) pe_int)))
          (pss_cons (ps_set (i := 7) nd rfl (Or.inl rfl) (pe_op op_mod (pe_callTy call_int1 (by rfl) T.int (by decide +kernel) (pa_cons (pv 7) pa_nil)) pe_int))
          (pss_cons (ps_set (i := 7) nd rfl (Or.inl rfl) (pe_op op_mul (pe_op op_mod (pe_callTy call_int1 (by rfl) T.int (by decide +kernel) (pa_cons (pe_op op_pow (pv 7) pe_int) pa_nil)) pe_int) pe_int))
          (pss_cons (ps_set (i := 7) nd rfl (Or.inl rfl) (pe_op op_mod (pe_callTy call_int1 (by rfl) T.int (by decide +kernel) (pa_cons (pv 7) pa_nil)) pe_int))
          (pss_one (ps_expr (pe_bm PySem.F.plainAttrs_list PySem.F.slot_list_append PySem.F.type_list_append mt_append (pv 5) (pa_cons (pe_op op_mod (pe_callTy call_int1 (by rfl) T.int (by decide +kernel) (pa_cons (pe_op op_fdiv (pv 7) pe_int) pa_nil)) (pe_ix ix_list (pv 2) (pv 6) (fun _ _ => rfl))) pa_nil))))))))))))
      (pss_one (ps_ret (pv 5))))))), ?_⟩
    refine ⟨_, rfl, Or.inl ⟨_, rfl, _, rfl, _, rfl, _, _, rfl, rfl, Or.inl ⟨_, rfl, _, _, rfl, ?_⟩⟩⟩
    generalize (if (-1 - c : Int) > c then (-1 - c : Int) else c) = wh
    refine ⟨_, rfl, by show 0 ≤ sizeLine; decide, fun l hl => ?_⟩
    have e0 : Ex H (upd H l (.lst [])) := Evl.Ex.new hl
    have hzs0 := Evl.ex_l e0 hzs
    refine ⟨_, rfl, _, _, rfl, Or.inl hzs0, _, rfl, by rw [List.length_map]; omega, by rw [List.length_map]; omega, ?_⟩
    have hN : ((((zs.map V.int).length : Nat) : Int)).toNat = zs.length := by rw [List.length_map]; omega
    rw [hN]
    refine for_range (lo := 0) (n := zs.length) (NumW H c sl wh a l) ⟨wh, none, none, [], rfl, e0, upd_same, rfl⟩ ?_ ?_
    · rintro i σ H1 hi ⟨left, kk, one, ns, rfl, e1, h1, hn⟩
      have hk0 : (0 : Int) + (i : Int) = (i : Int) := Int.zero_add _
      rw [hk0]
      have hz1 : SqL K H1 a (zs.map V.int) := Evl.ex_l e1 hzs
      obtain ⟨z, hzi⟩ : ∃ z, zs[i]? = some z := ⟨zs[i], List.getElem?_eq_getElem hi⟩
      have hat : atI (zs.map V.int) (i : Int) = some (.int z) := atI_nat (by rw [List.getElem?_map, hzi]; rfl)
      have hzp := hz z (List.mem_of_getElem? hzi)
      have hnl : (ns.map V.int).length < sizeLine := by rw [List.length_map]; exact small1000 (by omega)
      have hsl : SqL K H1 l (ns.map V.int) := SqL.of h1
      refine ⟨_, rfl, _, _, rfl, rfl, ⟨by decide, by decide, by decide⟩, _, _, rfl, rfl, _, rfl, ?_⟩
      refine ite2 (fun _ => ⟨_, rfl, _, _, rfl, rfl, _, rfl, ite2 (fun _ => ?hA) (fun _ => ?hB)⟩) (fun _ => iteF ?hC)
      case hA =>
        refine ⟨_, rfl, Or.inl ⟨rfl, _, hsl⟩, _, rfl, Or.inl ⟨_, rfl, _, rfl, _, rfl, _, _, _, _, rfl, rfl, hz1, hat, _, _, rfl, rfl, hzp.1, _, _, _, rfl, rfl, h1, hnl, ?_⟩⟩
        have e2 : Ex H (upd H1 l (.lst (ns.map V.int ++ [.int (left % z)]))) := Evl.Ex.mut e1 hl
        refine ⟨_, rfl, _, rfl, _, rfl, _, _, _, _, rfl, rfl, Evl.ex_l e2 hzs, hat, _, _, rfl, rfl, ⟨hzp.1, by omega⟩, ?_⟩
        exact NumW.last hl e1 h1 hn _
      all_goals
        refine ⟨_, rfl, Or.inl ⟨_, rfl, _, _, rfl, rfl, (by show (0:Int) < 2147483629; decide), _, rfl, _, _, rfl, rfl, Or.inl ⟨by decide, by decide⟩, _, _, rfl, rfl, _, _, rfl, rfl, _, _, rfl, rfl, ⟨by decide, by decide, ?pw⟩, ?_⟩⟩
        case pw =>
          have h1 := Int.emod_nonneg wh (show (2147483629 : Int) ≠ 0 by decide)
          have h2 := Int.emod_lt_of_pos wh (show (0 : Int) < 2147483629 by decide)
          omega
        refine ⟨_, rfl, Or.inl ⟨_, rfl, _, _, rfl, rfl, (by show (0:Int) < 2147483647; decide), _, rfl, _, _, rfl, rfl, _, _, rfl, rfl, Or.inl ⟨by decide, by decide⟩, _, _, rfl, rfl, _, rfl, _, _, rfl, rfl, _, _, rfl, rfl, Or.inr ⟨by omega, by omega⟩, ?_⟩⟩
        refine ⟨_, rfl, Or.inl ⟨_, rfl, _, _, rfl, rfl, (by show (0:Int) < 2147483629; decide), ?_⟩⟩
        refine ⟨_, rfl, _, _, rfl, rfl, ⟨by decide, by decide, ?pw⟩, Or.inl ⟨_, rfl, _, _, rfl, rfl, (by show (0:Int) < 2147483647; decide), _, _, rfl, rfl, Or.inr ⟨by decide, by decide⟩, ?_⟩⟩
        case pw =>
          have h2 := Int.emod_nonneg (((wh % 2147483629 + 7919 * sl + 1) ^ (Int.toNat 3) % 2147483647 + 104729 * ((i : Int) + 1)) * ((i : Int) + 3)) (show (2147483629 : Int) ≠ 0 by decide)
          have h3 := Int.emod_lt_of_pos (((wh % 2147483629 + 7919 * sl + 1) ^ (Int.toNat 3) % 2147483647 + 104729 * ((i : Int) + 1)) * ((i : Int) + 3)) (show (0 : Int) < 2147483629 by decide)
          omega
        refine ⟨_, rfl, Or.inl ⟨_, rfl, _, _, rfl, rfl, (by show (0:Int) < 2147483629; decide), ?_⟩⟩
        refine ⟨_, rfl, Or.inl ⟨rfl, _, hsl⟩, _, rfl, _, _, rfl, rfl, ⟨by decide, by decide⟩, Or.inl ⟨_, rfl, _, rfl, _, rfl, _, _, _, _, rfl, rfl, hz1, hat, _, _, rfl, rfl, hzp.1, _, _, _, rfl, rfl, h1, hnl, ?_⟩⟩
        exact NumW.last hl e1 h1 hn _
    · rintro σ H1 ⟨left, kk, one, ns, rfl, e1, h1, hn⟩
      exact ⟨_, rfl, k l ns H1 hl e1 h1⟩
end
/-- a def of the text is there and keeps its promise -/
structure Has (P : Program) (w : World) (K : PySem.W.Frag) (mg : Str → Option Value) (base : Heap) (k : Nat) (x : Str) (ps : List Str) (sp : Sp) : Prop where
  ex : ∃ (f : Addr) (fd : FuncData), FnOk P w K mg base CX0 k f fd ps sp ∧ mg x = some (.ref f) ∧ PySem.W.keepIn K (.ref f) = true ∧ Binds K fd ps []
def spPool : Sp := fun vs H Q _ => ∃ (c s m : Int), vs = [.int c, .int s, .int m] ∧ 0 ≤ s ∧ s ≤ 1000 ∧ 0 ≤ m ∧ m ≤ 1000 ∧ ∀ (p : Addr) (H' : Hp), H p = none → Ex H H' → PoolAt H' p → Q (.ref p) H'
def spOpened (K : PySem.W.Frag) : Sp := fun vs H Q _ => ∃ (a : Addr) (ns : List Int) (i m : Int), vs = [.ref a, .int i, .int m] ∧ SqL K H a (ns.map V.int) ∧ 0 ≤ i ∧ i ≤ 1000 ∧ (ns ≠ [] → i < ns.length) ∧ 0 ≤ m ∧ m ≤ 1000 ∧
  ∀ (p : Addr) (H' : Hp), H p = none → Ex H H' → PoolAt H' p → Q (.ref p) H'
def spPick (K : PySem.W.Frag) : Sp := fun vs H Q _ => ∃ (p a : Addr) (xs : List V), vs = [.ref p, .ref a] ∧ SqL K H a xs ∧ xs ≠ [] ∧ a ≠ p ∧ PoolAt H p ∧
  ∀ (x : V) (H' : Hp), x ∈ xs → PoolAt H' p → ExP p H H' → Q x H'
theorem replicate_map (n : Nat) (v : Int) : (List.replicate n [V.int v]).flatten = (List.replicate n v).map V.int := by
  induction n with
  | zero => rfl
  | succ n ih => rw [List.replicate_succ, List.flatten_cons, ih]; rfl
theorem dpall_ints {K : PySem.W.Frag} {H : Hp} : ∀ ns : List Int, DpAll K H (ns.map V.int) (ns.map PyData.int)
  | [] => .nil
  | n :: ns => .cons (.int n) (dpall_ints ns)
theorem shaped_ints (ns : List Int) : SeqAt.shaped (.list (ns.map PyData.int)) = true := by
  have h1 : ∀ ns : List Int, PyData.canLayAll0 (ns.map PyData.int) = true := fun ns => by
    induction ns with
    | nil => rfl
    | cons n ns ih => simp [PyData.canLayAll0, PyData.canLay0, ih]
  have h2 : ∀ ns : List Int, PyData.depthAll (ns.map PyData.int) ≤ 1 := fun ns => by
    induction ns with
    | nil => simp [PyData.depthAll]
    | cons n ns ih => simp [PyData.depthAll, PyData.depth]; omega
  have h3 := h2 ns
  unfold SeqAt.shaped
  simp [PyData.canLay0, h1, PyData.depth]
  omega
theorem eqv_nil (ns : List Int) : PyData.eqv (.list (ns.map PyData.int)) (.list []) = decide (ns = []) := by
  cases ns <;> simp [PyData.eqv, PyData.eqvAll]
section
variable {P : Program} {w : World} {K : PySem.W.Frag} {mg : Str → Option Value} {base : Heap}
theorem sc__law_pool : FnScope ["_law_cell", "_law_salt", "_law_many"] ["_law_cell", "_law_salt", "_law_many"] (defScope s__law_pool) := ⟨rfl, rfl, rfl, by decide +kernel, rfl, by decide +kernel, by decide +kernel⟩
theorem ok_pool {f : Addr} {fd : FuncData} (F : Fun K "_law_pool" "_law_pool" s__law_pool f fd) (hnum : Has P w K mg base 1 "_law_numbers" ["_law_cell", "_law_salt", "_law_sizes"] (spNumbers K)) : FnOk P w K mg base CX0 2 f fd ["_law_cell", "_law_salt", "_law_many"] spPool := by
  have nd := sc__law_pool.nd
  obtain ⟨fn, fdn, G, mgn, kpn, bn⟩ := hnum.ex
  refine F.ok sc__law_pool (fun vs H Q E h => ?_) (fun cdv A outer s H vs Q E hr h => ?_)
  · obtain ⟨c, s, m, rfl, _⟩ := h
    rfl
  · obtain ⟨c, sl, m, rfl, hs0, hs1, hm0, hm1, k⟩ := h
    refine ⟨_, (pss_one (ps_ret (pe_lst (pa_cons (pe_call G hr rfl mgn kpn bn .nil pass0 (pa_cons (pv 0) (pa_cons (pv 1) (pa_cons (pe_op op_rep (pe_lst (pa_cons pe_int pa_nil)) (pv 2)) pa_nil)))) (pa_cons pe_int pa_nil))))), ?_⟩
    refine ⟨_, rfl, _, rfl, by show 1 ≤ sizeLine; decide, fun l1 hl1 => ⟨_, rfl, l1, m, _, rfl, rfl, upd_same, by omega, by omega, ?_, fun l2 hl2 => ?_⟩⟩
    · rw [sizeLine_eq]; show 1 * m.toNat ≤ _; omega
    have e1 : Ex H (upd H l1 (.lst [.int 420])) := Evl.Ex.new hl1
    have e2 : Ex H (upd (upd H l1 (.lst [.int 420])) l2 (.lst (List.replicate m.toNat [V.int 420]).flatten)) := e1.trans (Evl.Ex.new hl2)
    refine ⟨c, sl, l2, List.replicate m.toNat 420, rfl, ?_, ?_, hs0, hs1, ?_, fun q ns H1 hq e3 h1 => ?_⟩
    · rw [replicate_map]; exact SqL.of upd_same
    · rw [List.length_replicate]; omega
    · intro z hz
      rw [List.mem_replicate] at hz
      omega
    refine ⟨by show 2 ≤ sizeLine; decide, fun p hp => ?_⟩
    have e4 : Ex H (upd H1 p (.lst [.ref q, .int 0])) := (e2.trans e3).trans (Evl.Ex.new hp)
    refine k p _ (Evl.fresh_back (e2.trans e3) hp) e4 ⟨q, ns, 0, upd_same, ?_, Int.le_refl _, ne_of_none h1 hp⟩
    rw [upd_ne (ne_of_none h1 hp)]
    exact h1
theorem sc__law_opened : FnScope ["_law_script", "_law_k", "_law_many", "_law_cell"] ["_law_script", "_law_k", "_law_many"] (defScope s__law_opened) := ⟨rfl, rfl, rfl, by decide +kernel, rfl, by decide +kernel, by decide +kernel⟩
theorem ok_opened {f : Addr} {fd : FuncData} (F : Fun K "_law_opened" "_law_opened" s__law_opened f fd) (hpool : Has P w K mg base 2 "_law_pool" ["_law_cell", "_law_salt", "_law_many"] spPool) : FnOk P w K mg base CX0 3 f fd ["_law_script", "_law_k", "_law_many"] (spOpened K) := by
  have nd := sc__law_opened.nd
  obtain ⟨fn, fdn, G, mgn, kpn, bn⟩ := hpool.ex
  refine F.ok sc__law_opened (fun vs H Q E h => ?_) (fun cdv A outer s H vs Q E hr h => ?_)
  · obtain ⟨a, ns, i, m, rfl, _⟩ := h
    rfl
  · obtain ⟨a, ns, i, m, rfl, hS, hi0, hi1, hi, hm0, hm1, k⟩ := h
    refine ⟨_, (pss_cons (ps_set (i := 3) nd rfl (Or.inl rfl) (pe_ifExp (pt_cmpR (op_neD hr.units) (pv 0) (pe_lst pa_nil) (nomark _)) (pe_ix ix_list (pv 0) (pv 1) (fun _ _ => rfl)) pe_int))
      (pss_one (ps_ret (pe_call G hr rfl mgn kpn bn .nil pass0 (pa_cons (pv 3) (pa_cons (pv 1) (pa_cons (pv 2) pa_nil))))))), ?_⟩
    refine ⟨_, rfl, by show 0 ≤ sizeLine; decide, fun l hl => ?_⟩
    have e1 : Ex H (upd H l (.lst [])) := Evl.Ex.new hl
    have hS1 := Evl.ex_l e1 hS
    refine ⟨.list (ns.map PyData.int), .list [], .lst hS1 (dpall_ints ns), .lst (SqL.of upd_same) .nil, shaped_ints ns, by rfl, _, rfl, ?_⟩
    rw [eqv_nil]
    refine ite2 (fun h => ?_) (fun _ => ?_)
    · have hne : ns ≠ [] := by simpa using h
      have hlt := hi hne
      have hit : i.toNat < ns.length := by omega
      refine ⟨_, rfl, _, rfl, a, _, i, .int ns[i.toNat], rfl, rfl, hS1, atI_int hi0 (by rw [List.getElem?_map, List.getElem?_eq_getElem hit]; rfl), _, rfl, _, rfl, _, rfl, _, i, m, rfl, hi0, hi1, hm0, hm1, fun p H' hp e hP => k p H' (Evl.fresh_back e1 hp) (e1.trans e) hP⟩
    · exact ⟨_, rfl, _, rfl, _, rfl, _, i, m, rfl, hi0, hi1, hm0, hm1, fun p H' hp e hP => k p H' (Evl.fresh_back e1 hp) (e1.trans e) hP⟩
end
theorem ExP.refl (p : Addr) (H : Hp) : ExP p H H := fun _ _ _ h => h
theorem ExP.trans {p : Addr} {H H1 H2 : Hp} (a : ExP p H H1) (b : ExP p H1 H2) : ExP p H H2 := fun x o hx h => b x o hx (a x o hx h)
theorem ExP.of {p : Addr} {H H1 : Hp} (a : Ex H H1) : ExP p H H1 := fun x o _ h => a x o h
theorem PoolAt.ex {p : Addr} {H H1 : Hp} (h : PoolAt H p) (e : Ex H H1) : PoolAt H1 p := by
  obtain ⟨q, ns, n, h1, h2, h3, h4⟩ := h
  exact ⟨q, ns, n, e _ _ h1, e _ _ h2, h3, h4⟩
theorem PoolAt.ne {p q : Addr} {H : Hp} (h : PoolAt H p) (hq : H q = none) : q ≠ p := by
  obtain ⟨_, _, _, h1, _⟩ := h
  exact fun e => by rw [e, h1] at hq; cases hq

end E
namespace E
open PySem L2
/-! ### what evaluates to what, for errors -/
def EvP (te : TE) (σ : L2.St) (H : Hp) (P : V → Hp → Prop) : Prop := ∀ H1, Ex H H1 → ∀ Q : VK, (∀ v H2, Ex H1 H2 → P v H2 → Q v H2) → te σ H1 Q
def EaP (ta : TA) (σ : L2.St) (H : Hp) (P : List V → Hp → Prop) : Prop := ∀ H1, Ex H H1 → ∀ Q : List V → Hp → Prop, (∀ vs H2, Ex H1 H2 → P vs H2 → Q vs H2) → ta σ H1 Q
theorem ErrAt.ex {H H' : Hp} {a C : Addr} {fs : List (Str × V)} (e : Ex H H') (h : ErrAt H a C fs) : ErrAt H' a C fs := by
  rcases h with ⟨h1, h2⟩ | ⟨dx, h1, h2⟩
  · exact Or.inl ⟨h1, e _ _ h2⟩
  · exact Or.inr ⟨dx, e _ _ h1, e _ _ h2⟩
/-- xs are errors of the classes cs, one by one -/
def Objs (H : Hp) : List Addr → List V → Prop
  | [], [] => True
  | C :: cs, x :: xs => (∃ a fs, x = .ref a ∧ ErrAt H a C fs) ∧ Objs H cs xs
  | _, _ => False
theorem Objs.ex {H H' : Hp} (e : Ex H H') : ∀ {cs : List Addr} {xs : List V}, Objs H cs xs → Objs H' cs xs
  | [], [], _ => trivial
  | _ :: _, _ :: _, h => ⟨let ⟨a, fs, h1, h2⟩ := h.1; ⟨a, fs, h1, ErrAt.ex e h2⟩, Objs.ex e h.2⟩
  | [], _ :: _, h => h.elim
  | _ :: _, [], h => h.elim
theorem Objs.app {H : Hp} : ∀ {cs cs' : List Addr} {xs ys : List V}, Objs H cs xs → Objs H cs' ys → Objs H (cs ++ cs') (xs ++ ys)
  | [], _, [], _, _, h => h
  | _ :: _, _, _ :: _, _, h, h' => ⟨h.1, Objs.app h.2 h'⟩
  | [], _, _ :: _, _, h, _ => h.elim
  | _ :: _, _, [], _, h, _ => h.elim
theorem Objs.len {H : Hp} : ∀ {cs : List Addr} {xs : List V}, Objs H cs xs → xs.length = cs.length
  | [], [], _ => rfl
  | _ :: _, _ :: _, h => congrArg Nat.succ (Objs.len h.2)
  | [], _ :: _, h => h.elim
  | _ :: _, [], h => h.elim
theorem Objs.at {H : Hp} : ∀ {cs : List Addr} {xs : List V} {i : Nat} {x : V}, Objs H cs xs → xs[i]? = some x → ∃ C a fs, cs[i]? = some C ∧ x = .ref a ∧ ErrAt H a C fs
  | C :: cs, x :: xs, 0, y, h, e => by
    have e' : x = y := by simpa using e
    subst e'
    obtain ⟨a, fs, h1, h2⟩ := h.1
    exact ⟨C, a, fs, rfl, h1, h2⟩
  | C :: cs, x :: xs, i + 1, y, h, e => by
    obtain ⟨C', a, fs, h1, h2, h3⟩ := Objs.at (i := i) h.2 (by simpa using e)
    exact ⟨C', a, fs, by simpa using h1, h2, h3⟩
  | [], [], _, _, _, e => by simp at e
  | [], _ :: _, _, _, h, _ => h.elim
  | _ :: _, [], _, _, h, _ => h.elim
section
variable {P : Program} {w : World} {K : PySem.W.Frag} {mg : Str → Option Value} {base : Heap} {C : Addr} {f : Str} {σ : L2.St} {H : Hp} {te : TE} {ta : TA} {v : V}
theorem ev_errF (M : ErrM P w K mg base C f) (h : Evl.EvA ta σ H [v]) : Evl.Ev (tFldE K f (tErr C f ta)) σ H v := fun H1 e Q q =>
  h H1 e _ fun H2 e2 => ⟨v, rfl, fun a dx ha hd hne => by
    have hne' : a ≠ dx := fun z => hne z.symm
    have e3 : Ex H2 (upd (upd H2 dx (exd dx [(f, v)])) a (exo a C (some dx))) := (Evl.Ex.new hd).trans (Evl.Ex.new (by rw [upd_ne hne']; exact ha))
    refine ⟨a, C, dx, [(f, v)], v, rfl, M.c, M.no, upd_same, (upd_ne hne).trans upd_same, by simp [List.lookup], q _ (e2.trans e3)⟩⟩
theorem ep_err (M : ErrM P w K mg base C f) (h : Evl.EvA ta σ H [v]) : EvP (tErr C f ta) σ H (fun x H' => ∃ a fs, x = .ref a ∧ ErrAt H' a C fs) := fun H1 e Q q =>
  h H1 e _ fun H2 e2 => ⟨v, rfl, fun a dx ha hd hne => by
    have hne' : a ≠ dx := fun z => hne z.symm
    have e3 : Ex H2 (upd (upd H2 dx (exd dx [(f, v)])) a (exo a C (some dx))) := (Evl.Ex.new hd).trans (Evl.Ex.new (by rw [upd_ne hne']; exact ha))
    exact q _ _ (e2.trans e3) ⟨a, _, rfl, Or.inr ⟨dx, upd_same, (upd_ne hne).trans upd_same⟩⟩⟩
theorem ep_err0 : EvP (tErr0 C) σ H (fun x H' => ∃ a fs, x = .ref a ∧ ErrAt H' a C fs) := fun H1 _ Q q a ha => q _ _ (Evl.Ex.new ha) ⟨a, [], rfl, Or.inl ⟨rfl, upd_same⟩⟩
theorem eo_nil : EaP tNil σ H (fun vs H' => Objs H' [] vs) := fun H1 _ Q q => q [] H1 (Evl.Ex.refl H1) trivial
theorem eo_cons {cs : List Addr} (h : EvP te σ H (fun x H' => ∃ a fs, x = .ref a ∧ ErrAt H' a C fs)) (hr : EaP ta σ H (fun vs H' => Objs H' cs vs)) : EaP (tCons te ta) σ H (fun vs H' => Objs H' (C :: cs) vs) := fun H1 e Q q =>
  h H1 e _ fun x H2 e2 ⟨a, fs, h1, h2⟩ => hr H2 (e.trans e2) _ fun xs H3 e3 ho => q _ H3 (e2.trans e3) ⟨⟨a, fs, h1, ErrAt.ex e3 h2⟩, ho⟩
/-- a new list of such errors -/
def ListP (cs : List Addr) (x : V) (H' : Hp) : Prop := ∃ p xs, x = .ref p ∧ H' p = some (.lst xs) ∧ Objs H' cs xs
theorem ep_lst {cs : List Addr} (h : EaP ta σ H (fun vs H' => Objs H' cs vs)) (hl : cs.length ≤ 1000) : EvP (tLst ta) σ H (ListP cs) := fun H1 e Q q =>
  h H1 e _ fun vs H2 e2 ho => ⟨by rw [ho.len, sizeLine_eq]; omega, fun p hp => q _ _ (e2.trans (Evl.Ex.new hp)) ⟨p, vs, rfl, upd_same, ho.ex (Evl.Ex.new hp)⟩⟩
theorem ListP.ex {cs : List Addr} {x : V} {H' : Hp} (e : Ex H H') (h : ListP cs x H) : ListP cs x H' := by
  obtain ⟨p, xs, h1, h2, h3⟩ := h
  exact ⟨p, xs, h1, e _ _ h2, h3.ex e⟩
theorem ep_cat {cs cs' : List Addr} {tb : TE} (hx : ListP cs v H) (ha : Evl.Ev te σ H v) (hb : EvP tb σ H (ListP cs')) (hl : cs.length + cs'.length ≤ 1000) : EvP (tOp rCat te tb) σ H (ListP (cs ++ cs')) := fun H1 e Q q =>
  ha H1 e _ fun H2 e2 => hb H2 (e.trans e2) _ fun y H3 e3 hy => by
    obtain ⟨p, xs, rfl, h2, h3⟩ := hx.ex ((e.trans e2).trans e3)
    obtain ⟨p', ys, rfl, h2', h3'⟩ := hy
    refine ⟨p, p', xs, ys, rfl, rfl, h2, h2', by rw [h3.len, h3'.len, sizeLine_eq]; omega, fun l hl => ?_⟩
    have e4 : Ex H3 (upd H3 l (.lst (xs ++ ys))) := Evl.Ex.new hl
    exact q _ _ ((e2.trans e3).trans e4) ⟨l, xs ++ ys, rfl, upd_same, (h3.ex e4).app (h3'.ex e4)⟩
theorem EvP.qasg {i : Nat} {tz : TS} {D : Ends} {R : V → Hp → Prop} (h : EvP te σ H R) (k : ∀ x H1, Ex H H1 → R x H1 → tz D (σ.set i (some x)) H1) : tSeq (tAsg te (gName i)) tz D σ H := h H (Evl.Ex.refl H) _ fun x H1 e p => k x H1 e p
theorem EvP.ret {D : Ends} {R : V → Hp → Prop} (h : EvP te σ H R) (k : ∀ x H1, Ex H H1 → R x H1 → D.rt x H1) : tRet te D σ H := h H (Evl.Ex.refl H) _ fun x H1 e p => k x H1 e p
/-- two lists put together, their items known -/
theorem el_cat {xs ys : List V} {l : Addr} {tb : TE} (hx : H l = some (.lst xs)) (ha : Evl.Ev te σ H (.ref l)) (hb : Evl.EvL tb σ H ys) (hl : xs.length + ys.length ≤ 1000) : Evl.EvL (tOp rCat te tb) σ H (xs ++ ys) := fun H1 e Q q =>
  ha H1 e _ fun H2 e2 => hb H2 (e.trans e2) _ fun p H3 hp e3 h3 => ⟨l, p, xs, ys, rfl, rfl, ((e.trans e2).trans e3) _ _ hx, h3, by rw [sizeLine_eq]; omega, fun n hn => q n _ (Evl.fresh_back (e2.trans e3) hn) ((e2.trans e3).trans (Evl.Ex.new hn)) upd_same⟩
end

/-- the classes of errors, where they stand -/
structure Errs (P : Program) (w : World) (K : PySem.W.Frag) (mg : Str → Option Value) (base : Heap) (D C0 C1 C2 C3 C4 C5 C6 C7 C8 C9 C10 C11 C12 C13 C14 C15 C16 C17 C18 C19 C20 : Addr) : Prop where
  gD : mg "LevelError" = some (.ref D)
  g0 : mg "BadArgument" = some (.ref C0)
  g1 : mg "BadProgram" = some (.ref C1)
  g2 : mg "BadProcedure" = some (.ref C2)
  g3 : mg "BadPoint" = some (.ref C3)
  g4 : mg "BadLine" = some (.ref C4)
  g5 : mg "BadStore" = some (.ref C5)
  g6 : mg "BadMask" = some (.ref C6)
  g7 : mg "BadGuards" = some (.ref C7)
  g8 : mg "BadMove" = some (.ref C8)
  g9 : mg "BadScript" = some (.ref C9)
  g10 : mg "BadNumber" = some (.ref C10)
  g11 : mg "BadCell" = some (.ref C11)
  g12 : mg "BadSection" = some (.ref C12)
  g13 : mg "BadChange" = some (.ref C13)
  g14 : mg "BadWish" = some (.ref C14)
  g15 : mg "BadText" = some (.ref C15)
  g16 : mg "TooMany" = some (.ref C16)
  g17 : mg "Broken" = some (.ref C17)
  g18 : mg "NoRow" = some (.ref C18)
  g19 : mg "AtRest" = some (.ref C19)
  g20 : mg "NothingLeft" = some (.ref C20)
  M0 : ErrM P w K mg base C0 "value"
  M1 : ErrM P w K mg base C1 "part"
  M2 : ErrM P w K mg base C2 "value"
  M3 : ErrM P w K mg base C3 "value"
  M4 : ErrM P w K mg base C4 "value"
  M5 : ErrM P w K mg base C5 "value"
  M6 : ErrM P w K mg base C6 "value"
  M7 : ErrM P w K mg base C7 "value"
  M8 : ErrM P w K mg base C8 "value"
  M9 : ErrM P w K mg base C9 "at"
  M10 : ErrM P w K mg base C10 "value"
  M11 : ErrM P w K mg base C11 "value"
  M12 : ErrM P w K mg base C12 "value"
  M13 : ErrM P w K mg base C13 "value"
  M14 : ErrM P w K mg base C14 "value"
  M15 : ErrM P w K mg base C15 "at"
  M16 : ErrM P w K mg base C16 "number"
  M17 : ErrM P w K mg base C17 "claim"
  M18 : ErrM P w K mg base C18 "row"
  M19 : Err0 K C19
  M20 : Err0 K C20
  I0 : ErrI K C0 D
  I1 : ErrI K C1 D
  I2 : ErrI K C2 D
  I3 : ErrI K C3 D
  I4 : ErrI K C4 D
  I5 : ErrI K C5 D
  I6 : ErrI K C6 D
  I7 : ErrI K C7 D
  I8 : ErrI K C8 D
  I9 : ErrI K C9 D
  I10 : ErrI K C10 D
  I11 : ErrI K C11 D
  I12 : ErrI K C12 D
  I13 : ErrI K C13 D
  I14 : ErrI K C14 D
  I15 : ErrI K C15 D
  I16 : ErrI K C16 D
  I17 : ErrI K C17 D
  I18 : ErrI K C18 D
  I19 : ErrI K C19 D
  I20 : ErrI K C20 D
  tyD : PySem.W.typeIn K (.ref D) = some (.type "type")
  exD : PySem.W.subIn K (.ref D) (.type "BaseException") = some true
  hdD : PySem.W.hasDictIn K D = true
  nd : [D, C0, C1, C2, C3, C4, C5, C6, C7, C8, C9, C10, C11, C12, C13, C14, C15, C16, C17, C18, C19, C20].Nodup
section
variable {P : Program} {w : World} {K : PySem.W.Frag} {mg : Str → Option Value} {base : Heap} {D C0 C1 C2 C3 C4 C5 C6 C7 C8 C9 C10 C11 C12 C13 C14 C15 C16 C17 C18 C19 C20 : Addr}
def spFields : Sp := fun vs H Q _ => ∃ v, vs = [v] ∧ ∀ (p : Addr) (H' : Hp), H p = none → Ex H H' → H' p = some (.lst (List.replicate 19 v)) → Q (.ref p) H'
theorem sc_fields : FnScope ["_law_thing", "_law_found"] ["_law_thing"] (defScope s__law_fields) := ⟨rfl, rfl, rfl, by decide +kernel, rfl, by decide +kernel, by decide +kernel⟩
theorem ok_fields {f : Addr} {fd : FuncData} (F : Fun K "_law_fields" "_law_fields" s__law_fields f fd) (S : Errs P w K mg base D C0 C1 C2 C3 C4 C5 C6 C7 C8 C9 C10 C11 C12 C13 C14 C15 C16 C17 C18 C19 C20) : FnOk P w K mg base CX0 3 f fd ["_law_thing"] spFields := by
  have nd := sc_fields.nd
  refine F.ok sc_fields (fun vs H Q E h => ?_) (fun cdv A outer s H vs Q E hr h => ?_)
  · obtain ⟨v, rfl, _⟩ := h
    rfl
  · obtain ⟨v, rfl, k⟩ := h
    refine ⟨_, (pss_cons (ps_set (i := 1) nd rfl (Or.inl rfl) (pe_lst (pa_cons (pe_fldE (pe_errK S.M0 hr rfl S.g0 (pk_cons (pv 0) pk_nil))) (pa_cons (pe_fldE (pe_errK S.M1 hr rfl S.g1 (pk_cons (pv 0) pk_nil))) (pa_cons (pe_fldE (pe_errK S.M2 hr rfl S.g2 (pk_cons (pv 0) pk_nil))) pa_nil)))))
      (pss_cons (ps_set (i := 1) nd rfl (Or.inl rfl) (pe_op op_cat (pv 1) (pe_lst (pa_cons (pe_fldE (pe_errK S.M3 hr rfl S.g3 (pk_cons (pv 0) pk_nil))) (pa_cons (pe_fldE (pe_errK S.M4 hr rfl S.g4 (pk_cons (pv 0) pk_nil))) (pa_cons (pe_fldE (pe_errK S.M5 hr rfl S.g5 (pk_cons (pv 0) pk_nil))) pa_nil))))))
      (pss_cons (ps_set (i := 1) nd rfl (Or.inl rfl) (pe_op op_cat (pv 1) (pe_lst (pa_cons (pe_fldE (pe_errK S.M6 hr rfl S.g6 (pk_cons (pv 0) pk_nil))) (pa_cons (pe_fldE (pe_errK S.M7 hr rfl S.g7 (pk_cons (pv 0) pk_nil))) (pa_cons (pe_fldE (pe_errK S.M8 hr rfl S.g8 (pk_cons (pv 0) pk_nil))) pa_nil))))))
      (pss_cons (ps_set (i := 1) nd rfl (Or.inl rfl) (pe_op op_cat (pv 1) (pe_lst (pa_cons (pe_fldE (pe_err S.M9 hr rfl S.g9 (pa_cons (pv 0) pa_nil))) (pa_cons (pe_fldE (pe_errK S.M10 hr rfl S.g10 (pk_cons (pv 0) pk_nil))) (pa_cons (pe_fldE (pe_errK S.M11 hr rfl S.g11 (pk_cons (pv 0) pk_nil))) pa_nil))))))
      (pss_cons (ps_set (i := 1) nd rfl (Or.inl rfl) (pe_op op_cat (pv 1) (pe_lst (pa_cons (pe_fldE (pe_errK S.M12 hr rfl S.g12 (pk_cons (pv 0) pk_nil))) (pa_cons (pe_fldE (pe_errK S.M13 hr rfl S.g13 (pk_cons (pv 0) pk_nil))) (pa_cons (pe_fldE (pe_errK S.M14 hr rfl S.g14 (pk_cons (pv 0) pk_nil))) pa_nil))))))
      (pss_one (ps_ret (pe_op op_cat (pv 1) (pe_lst (pa_cons (pe_fldE (pe_err S.M15 hr rfl S.g15 (pa_cons (pv 0) pa_nil))) (pa_cons (pe_fldE (pe_errK S.M16 hr rfl S.g16 (pk_cons (pv 0) pk_nil))) (pa_cons (pe_fldE (pe_errK S.M17 hr rfl S.g17 (pk_cons (pv 0) pk_nil))) (pa_cons (pe_fldE (pe_errK S.M18 hr rfl S.g18 (pk_cons (pv 0) pk_nil))) pa_nil))))))))))))), ?_⟩
    refine Evl.q_asgL (Evl.el_lst (Evl.ea_cons (ev_errF S.M0 (Evl.ea_cons (Evl.ev_var rfl) Evl.ea_nil)) (Evl.ea_cons (ev_errF S.M1 (Evl.ea_cons (Evl.ev_var rfl) Evl.ea_nil)) (Evl.ea_cons (ev_errF S.M2 (Evl.ea_cons (Evl.ev_var rfl) Evl.ea_nil)) Evl.ea_nil))) (by simp)) fun p0 H0 hp0 e0 h0 => ?_
    refine Evl.q_asgL (el_cat h0 (Evl.ev_var rfl) (Evl.el_lst (Evl.ea_cons (ev_errF S.M3 (Evl.ea_cons (Evl.ev_var rfl) Evl.ea_nil)) (Evl.ea_cons (ev_errF S.M4 (Evl.ea_cons (Evl.ev_var rfl) Evl.ea_nil)) (Evl.ea_cons (ev_errF S.M5 (Evl.ea_cons (Evl.ev_var rfl) Evl.ea_nil)) Evl.ea_nil))) (by simp)) (by simp)) fun p1 H1 hp1 e1 h1 => ?_
    refine Evl.q_asgL (el_cat h1 (Evl.ev_var rfl) (Evl.el_lst (Evl.ea_cons (ev_errF S.M6 (Evl.ea_cons (Evl.ev_var rfl) Evl.ea_nil)) (Evl.ea_cons (ev_errF S.M7 (Evl.ea_cons (Evl.ev_var rfl) Evl.ea_nil)) (Evl.ea_cons (ev_errF S.M8 (Evl.ea_cons (Evl.ev_var rfl) Evl.ea_nil)) Evl.ea_nil))) (by simp)) (by simp)) fun p2 H2 hp2 e2 h2 => ?_
    refine Evl.q_asgL (el_cat h2 (Evl.ev_var rfl) (Evl.el_lst (Evl.ea_cons (ev_errF S.M9 (Evl.ea_cons (Evl.ev_var rfl) Evl.ea_nil)) (Evl.ea_cons (ev_errF S.M10 (Evl.ea_cons (Evl.ev_var rfl) Evl.ea_nil)) (Evl.ea_cons (ev_errF S.M11 (Evl.ea_cons (Evl.ev_var rfl) Evl.ea_nil)) Evl.ea_nil))) (by simp)) (by simp)) fun p3 H3 hp3 e3 h3 => ?_
    refine Evl.q_asgL (el_cat h3 (Evl.ev_var rfl) (Evl.el_lst (Evl.ea_cons (ev_errF S.M12 (Evl.ea_cons (Evl.ev_var rfl) Evl.ea_nil)) (Evl.ea_cons (ev_errF S.M13 (Evl.ea_cons (Evl.ev_var rfl) Evl.ea_nil)) (Evl.ea_cons (ev_errF S.M14 (Evl.ea_cons (Evl.ev_var rfl) Evl.ea_nil)) Evl.ea_nil))) (by simp)) (by simp)) fun p4 H4 hp4 e4 h4 => ?_
    refine Evl.s_retL (el_cat h4 (Evl.ev_var rfl) (Evl.el_lst (Evl.ea_cons (ev_errF S.M15 (Evl.ea_cons (Evl.ev_var rfl) Evl.ea_nil)) (Evl.ea_cons (ev_errF S.M16 (Evl.ea_cons (Evl.ev_var rfl) Evl.ea_nil)) (Evl.ea_cons (ev_errF S.M17 (Evl.ea_cons (Evl.ev_var rfl) Evl.ea_nil)) (Evl.ea_cons (ev_errF S.M18 (Evl.ea_cons (Evl.ev_var rfl) Evl.ea_nil)) Evl.ea_nil)))) (by simp)) (by simp)) fun p5 H5 hp5 e5 h5 => ?_
    exact k p5 H5 (Evl.fresh_back ((((e0.trans e1).trans e2).trans e3).trans e4) hp5) (((((e0.trans e1).trans e2).trans e3).trans e4).trans e5) h5
def spObjects (cs : List Addr) : Sp := fun vs H Q _ => ∃ v, vs = [v] ∧ ∀ (x : V) (H' : Hp), Ex H H' → ListP cs x H' → Q x H'
theorem sc_objects : FnScope ["_law_thing", "_law_found"] ["_law_thing"] (defScope s__law_objects) := ⟨rfl, rfl, rfl, by decide +kernel, rfl, by decide +kernel, by decide +kernel⟩
theorem ok_objects {f : Addr} {fd : FuncData} (F : Fun K "_law_objects" "_law_objects" s__law_objects f fd) (S : Errs P w K mg base D C0 C1 C2 C3 C4 C5 C6 C7 C8 C9 C10 C11 C12 C13 C14 C15 C16 C17 C18 C19 C20) : FnOk P w K mg base CX0 3 f fd ["_law_thing"] (spObjects [C0, C1, C2, C3, C4, C5, C6, C7, C8, C9, C10, C11, C12, C13, C14, C15, C16, C17, C18, C19, C20]) := by
  have nd := sc_objects.nd
  refine F.ok sc_objects (fun vs H Q E h => ?_) (fun cdv A outer s H vs Q E hr h => ?_)
  · obtain ⟨v, rfl, _⟩ := h
    rfl
  · obtain ⟨v, rfl, k⟩ := h
    refine ⟨_, (pss_cons (ps_set (i := 1) nd rfl (Or.inl rfl) (pe_lst (pa_cons (pe_err S.M0 hr rfl S.g0 (pa_cons (pv 0) pa_nil)) (pa_cons (pe_err S.M1 hr rfl S.g1 (pa_cons (pv 0) pa_nil)) (pa_cons (pe_err S.M2 hr rfl S.g2 (pa_cons (pv 0) pa_nil)) (pa_cons (pe_err S.M3 hr rfl S.g3 (pa_cons (pv 0) pa_nil)) (pa_cons (pe_err S.M4 hr rfl S.g4 (pa_cons (pv 0) pa_nil)) (pa_cons (pe_err S.M5 hr rfl S.g5 (pa_cons (pv 0) pa_nil)) pa_nil))))))))
      (pss_cons (ps_set (i := 1) nd rfl (Or.inl rfl) (pe_op op_cat (pv 1) (pe_lst (pa_cons (pe_err S.M6 hr rfl S.g6 (pa_cons (pv 0) pa_nil)) (pa_cons (pe_err S.M7 hr rfl S.g7 (pa_cons (pv 0) pa_nil)) (pa_cons (pe_err S.M8 hr rfl S.g8 (pa_cons (pv 0) pa_nil)) (pa_cons (pe_err S.M9 hr rfl S.g9 (pa_cons (pv 0) pa_nil)) (pa_cons (pe_err S.M10 hr rfl S.g10 (pa_cons (pv 0) pa_nil)) (pa_cons (pe_err S.M11 hr rfl S.g11 (pa_cons (pv 0) pa_nil)) pa_nil)))))))))
      (pss_cons (ps_set (i := 1) nd rfl (Or.inl rfl) (pe_op op_cat (pv 1) (pe_lst (pa_cons (pe_err S.M12 hr rfl S.g12 (pa_cons (pv 0) pa_nil)) (pa_cons (pe_err S.M13 hr rfl S.g13 (pa_cons (pv 0) pa_nil)) (pa_cons (pe_err S.M14 hr rfl S.g14 (pa_cons (pv 0) pa_nil)) (pa_cons (pe_err S.M15 hr rfl S.g15 (pa_cons (pv 0) pa_nil)) (pa_cons (pe_err S.M16 hr rfl S.g16 (pa_cons (pv 0) pa_nil)) (pa_cons (pe_err S.M17 hr rfl S.g17 (pa_cons (pv 0) pa_nil)) pa_nil)))))))))
      (pss_one (ps_ret (pe_op op_cat (pv 1) (pe_lst (pa_cons (pe_err S.M18 hr rfl S.g18 (pa_cons (pv 0) pa_nil)) (pa_cons (pe_err0 S.M19 rfl S.g19) (pa_cons (pe_err0 S.M20 rfl S.g20) pa_nil)))))))))), ?_⟩
    refine EvP.qasg (ep_lst (eo_cons (ep_err S.M0 (Evl.ea_cons (Evl.ev_var rfl) Evl.ea_nil)) (eo_cons (ep_err S.M1 (Evl.ea_cons (Evl.ev_var rfl) Evl.ea_nil)) (eo_cons (ep_err S.M2 (Evl.ea_cons (Evl.ev_var rfl) Evl.ea_nil)) (eo_cons (ep_err S.M3 (Evl.ea_cons (Evl.ev_var rfl) Evl.ea_nil)) (eo_cons (ep_err S.M4 (Evl.ea_cons (Evl.ev_var rfl) Evl.ea_nil)) (eo_cons (ep_err S.M5 (Evl.ea_cons (Evl.ev_var rfl) Evl.ea_nil)) eo_nil)))))) (by simp)) fun x0 H0 e0 h0 => ?_
    refine EvP.qasg (ep_cat h0 (Evl.ev_var rfl) (ep_lst (eo_cons (ep_err S.M6 (Evl.ea_cons (Evl.ev_var rfl) Evl.ea_nil)) (eo_cons (ep_err S.M7 (Evl.ea_cons (Evl.ev_var rfl) Evl.ea_nil)) (eo_cons (ep_err S.M8 (Evl.ea_cons (Evl.ev_var rfl) Evl.ea_nil)) (eo_cons (ep_err S.M9 (Evl.ea_cons (Evl.ev_var rfl) Evl.ea_nil)) (eo_cons (ep_err S.M10 (Evl.ea_cons (Evl.ev_var rfl) Evl.ea_nil)) (eo_cons (ep_err S.M11 (Evl.ea_cons (Evl.ev_var rfl) Evl.ea_nil)) eo_nil)))))) (by simp)) (by simp)) fun x1 H1 e1 h1 => ?_
    refine EvP.qasg (ep_cat h1 (Evl.ev_var rfl) (ep_lst (eo_cons (ep_err S.M12 (Evl.ea_cons (Evl.ev_var rfl) Evl.ea_nil)) (eo_cons (ep_err S.M13 (Evl.ea_cons (Evl.ev_var rfl) Evl.ea_nil)) (eo_cons (ep_err S.M14 (Evl.ea_cons (Evl.ev_var rfl) Evl.ea_nil)) (eo_cons (ep_err S.M15 (Evl.ea_cons (Evl.ev_var rfl) Evl.ea_nil)) (eo_cons (ep_err S.M16 (Evl.ea_cons (Evl.ev_var rfl) Evl.ea_nil)) (eo_cons (ep_err S.M17 (Evl.ea_cons (Evl.ev_var rfl) Evl.ea_nil)) eo_nil)))))) (by simp)) (by simp)) fun x2 H2 e2 h2 => ?_
    refine EvP.ret (ep_cat h2 (Evl.ev_var rfl) (ep_lst (eo_cons (ep_err S.M18 (Evl.ea_cons (Evl.ev_var rfl) Evl.ea_nil)) (eo_cons ep_err0 (eo_cons ep_err0 eo_nil))) (by simp)) (by simp)) fun x3 H3 e3 h3 => ?_
    exact k x3 H3 (((e0.trans e1).trans e2).trans e3) h3
theorem Errs.all (S : Errs P w K mg base D C0 C1 C2 C3 C4 C5 C6 C7 C8 C9 C10 C11 C12 C13 C14 C15 C16 C17 C18 C19 C20) : ∀ C ∈ [C0, C1, C2, C3, C4, C5, C6, C7, C8, C9, C10, C11, C12, C13, C14, C15, C16, C17, C18, C19, C20], ErrI K C D := by
  intro C hC
  simp only [List.mem_cons, List.not_mem_nil, or_false] at hC
  rcases hC with rfl | rfl | rfl | rfl | rfl | rfl | rfl | rfl | rfl | rfl | rfl | rfl | rfl | rfl | rfl | rfl | rfl | rfl | rfl | rfl | rfl
  · exact S.I0
  · exact S.I1
  · exact S.I2
  · exact S.I3
  · exact S.I4
  · exact S.I5
  · exact S.I6
  · exact S.I7
  · exact S.I8
  · exact S.I9
  · exact S.I10
  · exact S.I11
  · exact S.I12
  · exact S.I13
  · exact S.I14
  · exact S.I15
  · exact S.I16
  · exact S.I17
  · exact S.I18
  · exact S.I19
  · exact S.I20
theorem Errs.n0 (S : Errs P w K mg base D C0 C1 C2 C3 C4 C5 C6 C7 C8 C9 C10 C11 C12 C13 C14 C15 C16 C17 C18 C19 C20) : C0 ≠ D := fun e => by
  have h := S.nd
  rw [List.nodup_cons] at h
  exact h.1 (by rw [← e]; simp)
theorem Errs.n1 (S : Errs P w K mg base D C0 C1 C2 C3 C4 C5 C6 C7 C8 C9 C10 C11 C12 C13 C14 C15 C16 C17 C18 C19 C20) : C1 ≠ D := fun e => by
  have h := S.nd
  rw [List.nodup_cons] at h
  exact h.1 (by rw [← e]; simp)
theorem Errs.n2 (S : Errs P w K mg base D C0 C1 C2 C3 C4 C5 C6 C7 C8 C9 C10 C11 C12 C13 C14 C15 C16 C17 C18 C19 C20) : C2 ≠ D := fun e => by
  have h := S.nd
  rw [List.nodup_cons] at h
  exact h.1 (by rw [← e]; simp)
theorem Errs.n3 (S : Errs P w K mg base D C0 C1 C2 C3 C4 C5 C6 C7 C8 C9 C10 C11 C12 C13 C14 C15 C16 C17 C18 C19 C20) : C3 ≠ D := fun e => by
  have h := S.nd
  rw [List.nodup_cons] at h
  exact h.1 (by rw [← e]; simp)
theorem Errs.n4 (S : Errs P w K mg base D C0 C1 C2 C3 C4 C5 C6 C7 C8 C9 C10 C11 C12 C13 C14 C15 C16 C17 C18 C19 C20) : C4 ≠ D := fun e => by
  have h := S.nd
  rw [List.nodup_cons] at h
  exact h.1 (by rw [← e]; simp)
theorem Errs.n5 (S : Errs P w K mg base D C0 C1 C2 C3 C4 C5 C6 C7 C8 C9 C10 C11 C12 C13 C14 C15 C16 C17 C18 C19 C20) : C5 ≠ D := fun e => by
  have h := S.nd
  rw [List.nodup_cons] at h
  exact h.1 (by rw [← e]; simp)
theorem Errs.n6 (S : Errs P w K mg base D C0 C1 C2 C3 C4 C5 C6 C7 C8 C9 C10 C11 C12 C13 C14 C15 C16 C17 C18 C19 C20) : C6 ≠ D := fun e => by
  have h := S.nd
  rw [List.nodup_cons] at h
  exact h.1 (by rw [← e]; simp)
theorem Errs.n7 (S : Errs P w K mg base D C0 C1 C2 C3 C4 C5 C6 C7 C8 C9 C10 C11 C12 C13 C14 C15 C16 C17 C18 C19 C20) : C7 ≠ D := fun e => by
  have h := S.nd
  rw [List.nodup_cons] at h
  exact h.1 (by rw [← e]; simp)
theorem Errs.n8 (S : Errs P w K mg base D C0 C1 C2 C3 C4 C5 C6 C7 C8 C9 C10 C11 C12 C13 C14 C15 C16 C17 C18 C19 C20) : C8 ≠ D := fun e => by
  have h := S.nd
  rw [List.nodup_cons] at h
  exact h.1 (by rw [← e]; simp)
theorem Errs.n9 (S : Errs P w K mg base D C0 C1 C2 C3 C4 C5 C6 C7 C8 C9 C10 C11 C12 C13 C14 C15 C16 C17 C18 C19 C20) : C9 ≠ D := fun e => by
  have h := S.nd
  rw [List.nodup_cons] at h
  exact h.1 (by rw [← e]; simp)
theorem Errs.n10 (S : Errs P w K mg base D C0 C1 C2 C3 C4 C5 C6 C7 C8 C9 C10 C11 C12 C13 C14 C15 C16 C17 C18 C19 C20) : C10 ≠ D := fun e => by
  have h := S.nd
  rw [List.nodup_cons] at h
  exact h.1 (by rw [← e]; simp)
theorem Errs.n11 (S : Errs P w K mg base D C0 C1 C2 C3 C4 C5 C6 C7 C8 C9 C10 C11 C12 C13 C14 C15 C16 C17 C18 C19 C20) : C11 ≠ D := fun e => by
  have h := S.nd
  rw [List.nodup_cons] at h
  exact h.1 (by rw [← e]; simp)
theorem Errs.n12 (S : Errs P w K mg base D C0 C1 C2 C3 C4 C5 C6 C7 C8 C9 C10 C11 C12 C13 C14 C15 C16 C17 C18 C19 C20) : C12 ≠ D := fun e => by
  have h := S.nd
  rw [List.nodup_cons] at h
  exact h.1 (by rw [← e]; simp)
theorem Errs.n13 (S : Errs P w K mg base D C0 C1 C2 C3 C4 C5 C6 C7 C8 C9 C10 C11 C12 C13 C14 C15 C16 C17 C18 C19 C20) : C13 ≠ D := fun e => by
  have h := S.nd
  rw [List.nodup_cons] at h
  exact h.1 (by rw [← e]; simp)
theorem Errs.n14 (S : Errs P w K mg base D C0 C1 C2 C3 C4 C5 C6 C7 C8 C9 C10 C11 C12 C13 C14 C15 C16 C17 C18 C19 C20) : C14 ≠ D := fun e => by
  have h := S.nd
  rw [List.nodup_cons] at h
  exact h.1 (by rw [← e]; simp)
theorem Errs.n15 (S : Errs P w K mg base D C0 C1 C2 C3 C4 C5 C6 C7 C8 C9 C10 C11 C12 C13 C14 C15 C16 C17 C18 C19 C20) : C15 ≠ D := fun e => by
  have h := S.nd
  rw [List.nodup_cons] at h
  exact h.1 (by rw [← e]; simp)
theorem Errs.n16 (S : Errs P w K mg base D C0 C1 C2 C3 C4 C5 C6 C7 C8 C9 C10 C11 C12 C13 C14 C15 C16 C17 C18 C19 C20) : C16 ≠ D := fun e => by
  have h := S.nd
  rw [List.nodup_cons] at h
  exact h.1 (by rw [← e]; simp)
theorem Errs.n17 (S : Errs P w K mg base D C0 C1 C2 C3 C4 C5 C6 C7 C8 C9 C10 C11 C12 C13 C14 C15 C16 C17 C18 C19 C20) : C17 ≠ D := fun e => by
  have h := S.nd
  rw [List.nodup_cons] at h
  exact h.1 (by rw [← e]; simp)
theorem Errs.n18 (S : Errs P w K mg base D C0 C1 C2 C3 C4 C5 C6 C7 C8 C9 C10 C11 C12 C13 C14 C15 C16 C17 C18 C19 C20) : C18 ≠ D := fun e => by
  have h := S.nd
  rw [List.nodup_cons] at h
  exact h.1 (by rw [← e]; simp)
theorem Errs.n19 (S : Errs P w K mg base D C0 C1 C2 C3 C4 C5 C6 C7 C8 C9 C10 C11 C12 C13 C14 C15 C16 C17 C18 C19 C20) : C19 ≠ D := fun e => by
  have h := S.nd
  rw [List.nodup_cons] at h
  exact h.1 (by rw [← e]; simp)
theorem Errs.n20 (S : Errs P w K mg base D C0 C1 C2 C3 C4 C5 C6 C7 C8 C9 C10 C11 C12 C13 C14 C15 C16 C17 C18 C19 C20) : C20 ≠ D := fun e => by
  have h := S.nd
  rw [List.nodup_cons] at h
  exact h.1 (by rw [← e]; simp)
theorem ev_isE {σ : L2.St} {H : Hp} {ta : TE} {a C C' : Addr} {fs : List (Str × V)} (h : Evl.Ev ta σ H (.ref a)) (he : ErrAt H a C fs) (T : ErrI K C D) (T' : ErrI K C' D) (hn : C' ≠ D) :
    Evl.Ev (tCB (rIsErr K) (tCons ta (tCons (tC (.ref C')) tNil))) σ H (.bl (decide (C = C'))) := fun H1 e Q q =>
  h H1 e _ fun H2 e2 => ⟨a, C, D, C', _, fs, rfl, T, ErrAt.ex (e.trans e2) he, T.kit T' hn, q H2 e2⟩
def boolsOf (C : Addr) (cs : List Addr) : List V := cs.map fun C' => .bl (decide (C = C'))
def spClasses (cs : List Addr) : Sp := fun vs H Q _ => ∃ (a C : Addr) (fs : List (Str × V)), vs = [.ref a] ∧ C ∈ cs ∧ ErrAt H a C fs ∧ ∀ (p : Addr) (H' : Hp), H p = none → Ex H H' → H' p = some (.lst (boolsOf C cs)) → Q (.ref p) H'
theorem sc_classes : FnScope ["_law_one", "_law_found"] ["_law_one"] (defScope s__law_classes) := ⟨rfl, rfl, rfl, by decide +kernel, rfl, by decide +kernel, by decide +kernel⟩
theorem ok_classes {f : Addr} {fd : FuncData} (F : Fun K "_law_classes" "_law_classes" s__law_classes f fd) (T : Txt mg) (S : Errs P w K mg base D C0 C1 C2 C3 C4 C5 C6 C7 C8 C9 C10 C11 C12 C13 C14 C15 C16 C17 C18 C19 C20) : FnOk P w K mg base CX0 1 f fd ["_law_one"] (spClasses [C0, C1, C2, C3, C4, C5, C6, C7, C8, C9, C10, C11, C12, C13, C14, C15, C16, C17, C18, C19, C20]) := by
  have nd := sc_classes.nd
  refine F.ok sc_classes (fun vs H Q E h => ?_) (fun cdv A outer s H vs Q E hr h => ?_)
  · obtain ⟨a, C, fs, rfl, _⟩ := h
    rfl
  · obtain ⟨a, C, fs, rfl, hC, he, k⟩ := h
    have TC := S.all C hC
    refine ⟨_, (pss_cons (ps_set (i := 1) nd rfl (Or.inl rfl) (pe_lst (pa_cons (pe_callB call_isErr (by rfl) T.isinstance (by decide +kernel) (pa_cons (pv 0) (pa_cons (pe_glob (v := .ref C0) rfl S.g0 rfl) pa_nil))) (pa_cons (pe_callB call_isErr (by rfl) T.isinstance (by decide +kernel) (pa_cons (pv 0) (pa_cons (pe_glob (v := .ref C1) rfl S.g1 rfl) pa_nil))) (pa_cons (pe_callB call_isErr (by rfl) T.isinstance (by decide +kernel) (pa_cons (pv 0) (pa_cons (pe_glob (v := .ref C2) rfl S.g2 rfl) pa_nil))) pa_nil)))))
      (pss_cons (ps_set (i := 1) nd rfl (Or.inl rfl) (pe_op op_cat (pv 1) (pe_lst (pa_cons (pe_callB call_isErr (by rfl) T.isinstance (by decide +kernel) (pa_cons (pv 0) (pa_cons (pe_glob (v := .ref C3) rfl S.g3 rfl) pa_nil))) (pa_cons (pe_callB call_isErr (by rfl) T.isinstance (by decide +kernel) (pa_cons (pv 0) (pa_cons (pe_glob (v := .ref C4) rfl S.g4 rfl) pa_nil))) (pa_cons (pe_callB call_isErr (by rfl) T.isinstance (by decide +kernel) (pa_cons (pv 0) (pa_cons (pe_glob (v := .ref C5) rfl S.g5 rfl) pa_nil))) pa_nil))))))
      (pss_cons (ps_set (i := 1) nd rfl (Or.inl rfl) (pe_op op_cat (pv 1) (pe_lst (pa_cons (pe_callB call_isErr (by rfl) T.isinstance (by decide +kernel) (pa_cons (pv 0) (pa_cons (pe_glob (v := .ref C6) rfl S.g6 rfl) pa_nil))) (pa_cons (pe_callB call_isErr (by rfl) T.isinstance (by decide +kernel) (pa_cons (pv 0) (pa_cons (pe_glob (v := .ref C7) rfl S.g7 rfl) pa_nil))) (pa_cons (pe_callB call_isErr (by rfl) T.isinstance (by decide +kernel) (pa_cons (pv 0) (pa_cons (pe_glob (v := .ref C8) rfl S.g8 rfl) pa_nil))) pa_nil))))))
      (pss_cons (ps_set (i := 1) nd rfl (Or.inl rfl) (pe_op op_cat (pv 1) (pe_lst (pa_cons (pe_callB call_isErr (by rfl) T.isinstance (by decide +kernel) (pa_cons (pv 0) (pa_cons (pe_glob (v := .ref C9) rfl S.g9 rfl) pa_nil))) (pa_cons (pe_callB call_isErr (by rfl) T.isinstance (by decide +kernel) (pa_cons (pv 0) (pa_cons (pe_glob (v := .ref C10) rfl S.g10 rfl) pa_nil))) (pa_cons (pe_callB call_isErr (by rfl) T.isinstance (by decide +kernel) (pa_cons (pv 0) (pa_cons (pe_glob (v := .ref C11) rfl S.g11 rfl) pa_nil))) pa_nil))))))
      (pss_cons (ps_set (i := 1) nd rfl (Or.inl rfl) (pe_op op_cat (pv 1) (pe_lst (pa_cons (pe_callB call_isErr (by rfl) T.isinstance (by decide +kernel) (pa_cons (pv 0) (pa_cons (pe_glob (v := .ref C12) rfl S.g12 rfl) pa_nil))) (pa_cons (pe_callB call_isErr (by rfl) T.isinstance (by decide +kernel) (pa_cons (pv 0) (pa_cons (pe_glob (v := .ref C13) rfl S.g13 rfl) pa_nil))) (pa_cons (pe_callB call_isErr (by rfl) T.isinstance (by decide +kernel) (pa_cons (pv 0) (pa_cons (pe_glob (v := .ref C14) rfl S.g14 rfl) pa_nil))) pa_nil))))))
      (pss_cons (ps_set (i := 1) nd rfl (Or.inl rfl) (pe_op op_cat (pv 1) (pe_lst (pa_cons (pe_callB call_isErr (by rfl) T.isinstance (by decide +kernel) (pa_cons (pv 0) (pa_cons (pe_glob (v := .ref C15) rfl S.g15 rfl) pa_nil))) (pa_cons (pe_callB call_isErr (by rfl) T.isinstance (by decide +kernel) (pa_cons (pv 0) (pa_cons (pe_glob (v := .ref C16) rfl S.g16 rfl) pa_nil))) (pa_cons (pe_callB call_isErr (by rfl) T.isinstance (by decide +kernel) (pa_cons (pv 0) (pa_cons (pe_glob (v := .ref C17) rfl S.g17 rfl) pa_nil))) pa_nil))))))
      (pss_one (ps_ret (pe_op op_cat (pv 1) (pe_lst (pa_cons (pe_callB call_isErr (by rfl) T.isinstance (by decide +kernel) (pa_cons (pv 0) (pa_cons (pe_glob (v := .ref C18) rfl S.g18 rfl) pa_nil))) (pa_cons (pe_callB call_isErr (by rfl) T.isinstance (by decide +kernel) (pa_cons (pv 0) (pa_cons (pe_glob (v := .ref C19) rfl S.g19 rfl) pa_nil))) (pa_cons (pe_callB call_isErr (by rfl) T.isinstance (by decide +kernel) (pa_cons (pv 0) (pa_cons (pe_glob (v := .ref C20) rfl S.g20 rfl) pa_nil))) pa_nil))))))))))))), ?_⟩
    refine Evl.q_asgL (Evl.el_lst (Evl.ea_cons (ev_isE (Evl.ev_var rfl) he TC S.I0 S.n0) (Evl.ea_cons (ev_isE (Evl.ev_var rfl) he TC S.I1 S.n1) (Evl.ea_cons (ev_isE (Evl.ev_var rfl) he TC S.I2 S.n2) Evl.ea_nil))) (by simp)) fun p0 H0 hp0 e0 h0 => ?_
    refine Evl.q_asgL (el_cat h0 (Evl.ev_var rfl) (Evl.el_lst (Evl.ea_cons (ev_isE (Evl.ev_var rfl) (ErrAt.ex e0 he) TC S.I3 S.n3) (Evl.ea_cons (ev_isE (Evl.ev_var rfl) (ErrAt.ex e0 he) TC S.I4 S.n4) (Evl.ea_cons (ev_isE (Evl.ev_var rfl) (ErrAt.ex e0 he) TC S.I5 S.n5) Evl.ea_nil))) (by simp)) (by simp)) fun p1 H1 hp1 e1 h1 => ?_
    refine Evl.q_asgL (el_cat h1 (Evl.ev_var rfl) (Evl.el_lst (Evl.ea_cons (ev_isE (Evl.ev_var rfl) (ErrAt.ex (e0.trans e1) he) TC S.I6 S.n6) (Evl.ea_cons (ev_isE (Evl.ev_var rfl) (ErrAt.ex (e0.trans e1) he) TC S.I7 S.n7) (Evl.ea_cons (ev_isE (Evl.ev_var rfl) (ErrAt.ex (e0.trans e1) he) TC S.I8 S.n8) Evl.ea_nil))) (by simp)) (by simp)) fun p2 H2 hp2 e2 h2 => ?_
    refine Evl.q_asgL (el_cat h2 (Evl.ev_var rfl) (Evl.el_lst (Evl.ea_cons (ev_isE (Evl.ev_var rfl) (ErrAt.ex ((e0.trans e1).trans e2) he) TC S.I9 S.n9) (Evl.ea_cons (ev_isE (Evl.ev_var rfl) (ErrAt.ex ((e0.trans e1).trans e2) he) TC S.I10 S.n10) (Evl.ea_cons (ev_isE (Evl.ev_var rfl) (ErrAt.ex ((e0.trans e1).trans e2) he) TC S.I11 S.n11) Evl.ea_nil))) (by simp)) (by simp)) fun p3 H3 hp3 e3 h3 => ?_
    refine Evl.q_asgL (el_cat h3 (Evl.ev_var rfl) (Evl.el_lst (Evl.ea_cons (ev_isE (Evl.ev_var rfl) (ErrAt.ex (((e0.trans e1).trans e2).trans e3) he) TC S.I12 S.n12) (Evl.ea_cons (ev_isE (Evl.ev_var rfl) (ErrAt.ex (((e0.trans e1).trans e2).trans e3) he) TC S.I13 S.n13) (Evl.ea_cons (ev_isE (Evl.ev_var rfl) (ErrAt.ex (((e0.trans e1).trans e2).trans e3) he) TC S.I14 S.n14) Evl.ea_nil))) (by simp)) (by simp)) fun p4 H4 hp4 e4 h4 => ?_
    refine Evl.q_asgL (el_cat h4 (Evl.ev_var rfl) (Evl.el_lst (Evl.ea_cons (ev_isE (Evl.ev_var rfl) (ErrAt.ex ((((e0.trans e1).trans e2).trans e3).trans e4) he) TC S.I15 S.n15) (Evl.ea_cons (ev_isE (Evl.ev_var rfl) (ErrAt.ex ((((e0.trans e1).trans e2).trans e3).trans e4) he) TC S.I16 S.n16) (Evl.ea_cons (ev_isE (Evl.ev_var rfl) (ErrAt.ex ((((e0.trans e1).trans e2).trans e3).trans e4) he) TC S.I17 S.n17) Evl.ea_nil))) (by simp)) (by simp)) fun p5 H5 hp5 e5 h5 => ?_
    refine Evl.s_retL (el_cat h5 (Evl.ev_var rfl) (Evl.el_lst (Evl.ea_cons (ev_isE (Evl.ev_var rfl) (ErrAt.ex (((((e0.trans e1).trans e2).trans e3).trans e4).trans e5) he) TC S.I18 S.n18) (Evl.ea_cons (ev_isE (Evl.ev_var rfl) (ErrAt.ex (((((e0.trans e1).trans e2).trans e3).trans e4).trans e5) he) TC S.I19 S.n19) (Evl.ea_cons (ev_isE (Evl.ev_var rfl) (ErrAt.ex (((((e0.trans e1).trans e2).trans e3).trans e4).trans e5) he) TC S.I20 S.n20) Evl.ea_nil))) (by simp)) (by simp)) fun p6 H6 hp6 e6 h6 => ?_
    exact k p6 H6 (Evl.fresh_back (((((e0.trans e1).trans e2).trans e3).trans e4).trans e5) hp6) ((((((e0.trans e1).trans e2).trans e3).trans e4).trans e5).trans e6) h6
def spCaught : Sp := fun vs H Q _ => ∃ v, vs = [v] ∧ ∀ H', Ex H H' → Q (.str "level") H'
theorem sc_caught : FnScope ["_law_thing", "e"] ["_law_thing"] (defScope s__law_caught) := ⟨rfl, rfl, rfl, by decide +kernel, rfl, by decide +kernel, by decide +kernel⟩
theorem ok_caught {f : Addr} {fd : FuncData} (F : Fun K "_law_caught" "_law_caught" s__law_caught f fd) (S : Errs P w K mg base D C0 C1 C2 C3 C4 C5 C6 C7 C8 C9 C10 C11 C12 C13 C14 C15 C16 C17 C18 C19 C20) : FnOk P w K mg base CX0 3 f fd ["_law_thing"] spCaught := by
  have nd := sc_caught.nd
  refine F.ok sc_caught (fun vs H Q E h => ?_) (fun cdv A outer s H vs Q E hr h => ?_)
  · obtain ⟨v, rfl, _⟩ := h
    rfl
  · obtain ⟨v, rfl, k⟩ := h
    refine ⟨_, (pss_one (ps_try_asL rfl rfl nd takes0 (fun W pn xe tk _ => pss_one (ps_raise rfl tk (pmk_err S.M5 S.I5.ty hr rfl S.g5 (pa_cons (pv 0) pa_nil))))
      (.cons (i := 1) rfl rfl ⟨rfl, by decide, .inl S.g6⟩ (fun a oe cls d pn hz hf => pss_one (ps_ret pe_str)) (.cons (i := 1) rfl rfl ⟨rfl, by decide, .inl S.gD⟩ (fun a oe cls d pn hz hf => pss_one (ps_ret pe_str)) .nil)))), ?_⟩
    have m6 : PySem.W.exmOne K (.ref C5) (.ref C6) = some false := PySem.W.exm_ref S.I6.c.exC S.I6.c.hd S.I6.ty (by
      show PySem.W.mroIn K C5 (.ref C6) = some false
      rw [S.I5.mro]
      have h1 : C6 ≠ C5 := fun e => by
        have h := S.nd
        simp [e] at h
      have h2 := S.n6
      simp [h1, h2])
    have mD : PySem.W.exmOne K (.ref C5) (.ref D) = some true := PySem.W.exm_ref S.exD S.hdD S.tyD (by
      show PySem.W.mroIn K C5 (.ref D) = some true
      rw [S.I5.mro]
      simp)
    refine ⟨_, rfl, v, rfl, fun d hd => ⟨false, m6, fun z => Bool.noConfusion z, fun _ => ⟨true, mD, fun _ a ha => ?_, fun z => Bool.noConfusion z⟩⟩⟩
    exact k _ (Evl.Ex.new hd)
end
end E
namespace E
open PySem L2
def spLaw (K : PySem.W.Frag) : Sp := fun vs H Q _ => ∃ (a : Addr) (ns : List Int), vs = [.ref a] ∧ SqL K H a (ns.map V.int) ∧ ns.length ≤ 63 ∧ ∀ H', Q (.bl true) H'
theorem ok_of (s : String) : PyData.canLay0 (.str (Str.ofString s)) = true := by
  rw [Str.ofString_eq_toList]
  simp only [PyData.canLay0, PyData.strOk]
  rw [List.all_toArray]
  rw [List.all_eq_true]
  intro c hc
  obtain ⟨x, hx, rfl⟩ := List.mem_map.mp hc
  have h : x.val.toNat < 0xd800 ∨ 0xdfff < x.val.toNat ∧ x.val.toNat < 0x110000 := x.valid
  exact decide_eq_true (show x.val.toNat < 1114112 by omega)
theorem nodup_inj {α : Type} {l : List α} (h : l.Nodup) {i j : Nat} {x : α} (h1 : l[i]? = some x) (h2 : l[j]? = some x) : i = j := by
  induction l generalizing i j with
  | nil => simp at h1
  | cons a l ih =>
    rw [List.nodup_cons] at h
    cases i with
    | zero =>
      cases j with
      | zero => rfl
      | succ j =>
        simp at h1 h2
        subst h1
        exact absurd (List.mem_of_getElem? h2) h.1
    | succ i =>
      cases j with
      | zero =>
        simp at h1 h2
        subst h2
        exact absurd (List.mem_of_getElem? h1) h.1
      | succ j =>
        simp at h1 h2
        rw [ih h.2 h1 h2]
/-- what is thrown: a number, a text, a list of a number, nothing -/
def Thing (H : Hp) (v : V) : Prop := (∃ n, v = .int n) ∨ (∃ s : String, v = .str (Str.ofString s)) ∨ (∃ l n, v = .ref l ∧ H l = some (.lst [.int n])) ∨ v = .non
theorem Thing.ex {H H' : Hp} {v : V} (e : Ex H H') (h : Thing H v) : Thing H' v := by
  rcases h with h | h | ⟨l, n, h1, h2⟩ | h
  · exact Or.inl h
  · exact Or.inr (Or.inl h)
  · exact Or.inr (Or.inr (Or.inl ⟨l, n, h1, e _ _ h2⟩))
  · exact Or.inr (Or.inr (Or.inr h))
theorem Thing.data {K : PySem.W.Frag} {H : Hp} {v : V} (h : Thing H v) : ∃ d, (∀ H', Ex H H' → Dp K H' v d) ∧ d.canLay0 = true ∧ d.depth ≤ 2 := by
  rcases h with ⟨n, rfl⟩ | ⟨z, rfl⟩ | ⟨l, n, rfl, h⟩ | rfl
  · exact ⟨.int n, fun _ _ => .int n, rfl, by simp [PyData.depth]⟩
  · exact ⟨.str (Str.ofString z), fun _ _ => .str _, ok_of z, by simp [PyData.depth]⟩
  · exact ⟨.list [.int n], fun H' e => .lst (SqL.of (e _ _ h)) (.cons (.int n) .nil), rfl, by simp [PyData.depth, PyData.depthAll]⟩
  · exact ⟨.none, fun _ _ => .non, rfl, by simp [PyData.depth]⟩
theorem dp_rep {K : PySem.W.Frag} {H : Hp} {v : V} {d : PyData} (h : Dp K H v d) : ∀ n, DpAll K H (List.replicate n v) (List.replicate n d)
  | 0 => .nil
  | n + 1 => .cons h (dp_rep h n)
theorem shaped_rep {d : PyData} (h1 : d.canLay0 = true) (h2 : d.depth ≤ 2) (n : Nat) : SeqAt.shaped (.list (List.replicate n d)) = true := by
  have a : PyData.canLayAll0 (List.replicate n d) = true := by
    induction n with
    | zero => rfl
    | succ n ih => simp [List.replicate_succ, PyData.canLayAll0, h1, ih]
  have b : PyData.depthAll (List.replicate n d) ≤ 2 := by
    clear a
    induction n with
    | zero => simp [PyData.depthAll]
    | succ n ih => rw [List.replicate_succ, PyData.depthAll]; exact Nat.max_le.mpr ⟨h2, ih⟩
  unfold SeqAt.shaped
  simp [PyData.canLay0, a, PyData.depth]
  omega
theorem dp_bools {K : PySem.W.Frag} {H : Hp} : ∀ bs : List Bool, DpAll K H (bs.map V.bl) (bs.map PyData.bool)
  | [] => .nil
  | b :: bs => .cons (.bl b) (dp_bools bs)
theorem shaped_bools (bs : List Bool) : SeqAt.shaped (.list (bs.map PyData.bool)) = true := by
  have a : ∀ bs : List Bool, PyData.canLayAll0 (bs.map PyData.bool) = true := fun bs => by
    induction bs with
    | nil => rfl
    | cons n ns ih => simp [PyData.canLayAll0, PyData.canLay0, ih]
  have b : ∀ bs : List Bool, PyData.depthAll (bs.map PyData.bool) ≤ 1 := fun bs => by
    induction bs with
    | nil => simp [PyData.depthAll]
    | cons n ns ih => simp [PyData.depthAll, PyData.depth]; omega
  have h := b bs
  unfold SeqAt.shaped
  simp [PyData.canLay0, a, PyData.depth]
  omega
theorem eqv_self {d : PyData} (h : SeqAt.shaped d = true) : (!PyData.eqv d d) = false := by
  rw [SeqAt.eqv_refl d (SeqAt.canLay_of_shaped h)]
  rfl
theorem rep_flat (n : Nat) (v : V) : (List.replicate n [v]).flatten = List.replicate n v := by
  induction n with
  | zero => rfl
  | succ n ih => rw [List.replicate_succ, List.flatten_cons, ih]; rfl
theorem iteB {b : Bool} {A B : Prop} (h1 : b = true → A) (h2 : b = false → B) : if b = true then A else B := by
  cases b with
  | true => exact iteT (h1 rfl)
  | false => exact iteF (h2 rfl)
theorem elseB {b : Bool} {A B : Prop} (hb : b = false) (h : B) : if b = true then A else B := by
  rw [hb]
  exact iteF h
theorem exp_new {p : Addr} {H0 H H' : Hp} (h0 : H0 p = none) (a : Ex H0 H) (b : ExP p H H') : Ex H0 H' := fun x o hx => b x o (ne_of_none hx h0) (a x o hx)
section
variable {P : Program} {w : World} {K : PySem.W.Frag} {mg : Str → Option Value} {base : Heap} {D : Addr} {cs : List Addr}
/-- the classes told by isinstance are those of the place -/
theorem bools_at {C : Addr} {i : Nat} (hn : cs.Nodup) (hc : cs[i]? = some C) : boolsOf C cs = (List.range cs.length).map fun j => V.bl (decide (i = j)) := by
  refine List.ext_getElem (by simp [boolsOf]) fun j h1 h2 => ?_
  have hj : j < cs.length := by simpa [boolsOf] using h1
  obtain ⟨hi, ei⟩ := List.getElem?_eq_some_iff.mp hc
  simp only [boolsOf, List.getElem_map, List.getElem_range]
  congr 1
  refine decide_eq_decide.mpr ⟨fun e => ?_, fun e => ?_⟩
  · refine nodup_inj hn hc ?_
    rw [List.getElem?_eq_getElem hj, e]
  · subst e
    exact ei.symm
theorem sc_law : FnScope ["_law_script", "_law_k", "_law_pool_here", "_law_amount", "_law_thing", "_law_place", "_law_one", "_law_j"] ["_law_script"] (defScope s_law) := ⟨rfl, rfl, rfl, by decide +kernel, rfl, by decide +kernel, by decide +kernel⟩
structure Ctx (P : Program) (w : World) (K : PySem.W.Frag) (mg : Str → Option Value) (base : Heap) (D : Addr) (cs : List Addr) : Prop where
  gD : mg "LevelError" = some (.ref D)
  I : ∀ C ∈ cs, ErrI K C D
  nd : cs.Nodup
  len : cs.length = 21
  tyD : PySem.W.typeIn K (.ref D) = some (.type "type")
  clD : (PySem.W.clsIn K D).isSome = true
theorem ok_law {f : Addr} {fd : FuncData} (F : Fun K "law" "law" s_law f fd) (T : Txt mg) (S : Ctx P w K mg base D cs) (hdraw : Has P w K mg base 1 "_law_draw" ["_law_pool_here", "_law_many"] spDraw) (hopened : Has P w K mg base 3 "_law_opened" ["_law_script", "_law_k", "_law_many"] (spOpened K))
    (hfields : Has P w K mg base 3 "_law_fields" ["_law_thing"] spFields) (hcaught : Has P w K mg base 3 "_law_caught" ["_law_thing"] spCaught) (hobjects : Has P w K mg base 3 "_law_objects" ["_law_thing"] (spObjects cs)) (hclasses : Has P w K mg base 1 "_law_classes" ["_law_one"] (spClasses cs)) :
    FnOk P w K mg base CX0 4 f fd ["_law_script"] (spLaw K) := by
  have nd := sc_law.nd
  obtain ⟨_, _, G1, mg1, kp1, b1⟩ := hdraw.ex
  obtain ⟨_, _, G2, mg2, kp2, b2⟩ := hopened.ex
  obtain ⟨_, _, G3, mg3, kp3, b3⟩ := hfields.ex
  obtain ⟨_, _, G4, mg4, kp4, b4⟩ := hcaught.ex
  obtain ⟨_, _, G5, mg5, kp5, b5⟩ := hobjects.ex
  obtain ⟨_, _, G6, mg6, kp6, b6⟩ := hclasses.ex
  refine F.ok sc_law (fun vs H Q E h => ?_) (fun cdv A outer s H vs Q E hr h => ?_)
  · obtain ⟨v, ns, rfl, _⟩ := h
    rfl
  · obtain ⟨a, ns, rfl, hS, hlen, k⟩ := h
    have r1 : Room 1 _ := hr.mono (by decide)
    refine ⟨_, (pss_cons (ps_for PassesOwn.never rfl (pi_range1 (by rfl) T.range (pa_cons (pe_callB (call_max2 rfl) (by rfl) T.max (by decide +kernel) (pa_cons pe_int (pa_cons (pe_callB (call_min2 rfl) (by rfl) T.min (by decide +kernel) (pa_cons (pe_callB call_len_seq (by rfl) T.len (by decide +kernel) (pa_cons (pv 0) pa_nil)) (pa_cons pe_int pa_nil))) pa_nil))) pa_nil)) (pg_name (i := 1) nd rfl (Or.inl rfl))
        (pss_cons (ps_set (i := 2) nd rfl (Or.inl rfl) (pe_call G2 hr rfl mg2 kp2 b2 .nil pass0 (pa_cons (pv 0) (pa_cons (pv 1) (pa_cons pe_int pa_nil)))))
        (pss_cons (ps_set (i := 3) nd rfl (Or.inl rfl) (pe_call G1 r1 rfl mg1 kp1 b1 .nil pass0 (pa_cons (pv 2) (pa_cons pe_int pa_nil))))
        (pss_one (ps_for PassesOwn.never rfl (pi_list (pe_lst (pa_cons (pv 3) (pa_cons (pe_callTy call_str_int (by rfl) T.str (by decide +kernel) (pa_cons (pv 3) pa_nil)) (pa_cons (pe_lst (pa_cons (pv 3) pa_nil)) (pa_cons pe_non pa_nil)))))) (pg_name (i := 4) nd rfl (Or.inl rfl))
          (pss_cons (ps_if (PW.pt (pw_or (pt_cmpR (op_neD hr.units) (pe_call G3 hr rfl mg3 kp3 b3 .nil pass0 (pa_cons (pv 4) pa_nil)) (pe_op op_rep (pe_lst (pa_cons (pv 4) pa_nil)) pe_int) (nomark _)) (pw_or1 (pt_cmpR op_ne (pe_call G4 hr rfl mg4 kp4 b4 .nil pass0 (pa_cons (pv 4) pa_nil)) pe_str (nomark _)))))
            (pss_one (ps_ret pe_bl))
            pss_nil)
          (pss_one (ps_for PassesOwn.never rfl (pi_enum (by rfl) T.enumerate (pa_cons (pe_call G5 hr rfl mg5 kp5 b5 .nil pass0 (pa_cons (pv 4) pa_nil)) pa_nil)) (pg_tup (by rfl) (pgs_cons (pg_name (i := 5) nd rfl (Or.inr rfl)) (pgs_cons (pg_name (i := 6) nd rfl (Or.inl rfl)) pgs_nil)))
            (pss_cons (ps_if (pt_cmpR (op_neD hr.units) (pe_call G6 r1 rfl mg6 kp6 b6 .nil pass0 (pa_cons (pv 6) pa_nil)) (pe_lc (own := [("_law_j", 7)]) (g := gName 7) (tt := tYes) rfl nd (pi_range1 (by rfl) T.range (pa_cons pe_int pa_nil)) (blkOk_by (N := ["_law_script", "_law_k", "_law_pool_here", "_law_amount", "_law_thing", "_law_place", "_law_one", "_law_j"]) (sc := defScope s_law) (by decide +kernel)) (fun _ _ _ _ _ => (pg_name (i := 7) nd rfl (Or.inl rfl))) (fun _ _ _ _ _ => pts_nil) (fun _ _ _ _ _ => (pe_cmpR op_eq (pv 5) (pv 7) (nomark _)))) (by rfl))
              (pss_one (ps_ret pe_bl))
              pss_nil)
            (pss_one (ps_if (pt_not (pt_val (pe_callB call_isErr (by rfl) T.isinstance (by decide +kernel) (pa_cons (pv 6) (pa_cons (pe_glob (v := .ref D) rfl S.gD rfl) pa_nil)))))
              (pss_one (ps_ret pe_bl))
              pss_nil)))))))))))
      (pss_one (ps_ret pe_bl))), ?_⟩
    refine ⟨_, rfl, _, _, rfl, Or.inl hS, _, _, rfl, _, _, rfl, ?_⟩
    have hm : ∃ m : Nat, (if (if (6 : Int) < ((ns.map V.int).length : Int) then 6 else ((ns.map V.int).length : Int)) > 1 then (if (6 : Int) < ((ns.map V.int).length : Int) then 6 else ((ns.map V.int).length : Int)) else 1) = (m : Int) ∧ m ≤ 6 ∧ (ns ≠ [] → m ≤ ns.length) := by
      rw [List.length_map]
      by_cases h8 : (6 : Int) < (ns.length : Int)
      · rw [if_pos h8, if_pos (by decide)]
        exact ⟨6, rfl, by decide, fun _ => by omega⟩
      · rw [if_neg h8]
        by_cases h1 : (ns.length : Int) > 1
        · rw [if_pos h1]; exact ⟨ns.length, rfl, by omega, fun _ => Nat.le_refl _⟩
        · rw [if_neg h1]; exact ⟨1, rfl, by decide, fun h => List.length_pos_iff.mpr h⟩
    obtain ⟨m, em, hm8, hmn⟩ := hm
    rw [em]
    refine ⟨(m : Int), rfl, by omega, by omega, for_range (lo := 0) (n := ((m : Int)).toNat) (fun i σ H' => ∃ (s1 s2 s3 s4 s5 s6 s7 : Option V), σ = [some (.ref a), s1, s2, s3, s4, s5, s6, s7] ∧ Ex H H') ⟨_, _, _, _, _, _, _, rfl, Evl.Ex.refl H⟩ ?_ ?_⟩
    · rintro i σ H0 hi ⟨s1, s2, s3, s4, s5, s6, s7, rfl, e0⟩
      have hk0 : (0 : Int) + (i : Int) = (i : Int) := Int.zero_add _
      rw [hk0]
      refine ⟨_, rfl, _, rfl, a, ns, (i : Int), 4, rfl, Evl.ex_l e0 hS, by omega, by omega, fun h => by have := hmn h; omega, by decide, by decide, fun p H1 hp e1 hP1 => ?_⟩
      have hpH : H p = none := Evl.fresh_back e0 hp
      refine ⟨_, rfl, p, 400, rfl, by decide, hP1, fun r H2 h0 h1 hP2 e2 => ?_⟩
      have x2 : Ex H H2 := exp_new hpH (e0.trans e1) e2
      have hlog : r.natAbs.log2 < 1920 := by
        have := Nat.log2_le_self r.natAbs
        omega
      refine ⟨_, rfl, _, rfl, _, rfl, hlog, _, rfl, by show 1 ≤ sizeLine; decide, fun l1 hl1 => ⟨by show 4 ≤ sizeLine; decide, fun l hl => ?_⟩⟩
      have g1 := Evl.Ex.new (o := HO.lst [V.int r]) hl1
      have g2 := Evl.Ex.new (o := HO.lst [V.int r, V.str (toString r), V.ref l1, V.non]) hl
      have hx1 := g2 l1 _ upd_same
      have hl0 := upd_same (H := upd H2 l1 (.lst [V.int r])) (a := l) (o := HO.lst [V.int r, V.str (toString r), V.ref l1, V.non])
      have xo := x2.trans (g1.trans g2)
      revert hx1 hl0 xo
      generalize upd (upd H2 l1 (.lst [V.int r])) l (.lst [V.int r, V.str (toString r), V.ref l1, V.non]) = Ho
      intro hx1 hl0 xo
      have hth : ∀ x ∈ [V.int r, V.str (toString r), V.ref l1, V.non], Thing Ho x := by
        intro x hx
        simp only [List.mem_cons, List.not_mem_nil, or_false] at hx
        rcases hx with rfl | rfl | rfl | rfl
        · exact Or.inl ⟨r, rfl⟩
        · exact Or.inr (Or.inl ⟨toString r, rfl⟩)
        · exact Or.inr (Or.inr (Or.inl ⟨l1, r, rfl, hx1⟩))
        · exact Or.inr (Or.inr (Or.inr rfl))
      refine ⟨l, rfl, ⟨_, SqL.of hl0⟩, for_list (K := K) (a := l) (xs := [V.int r, V.str (toString r), V.ref l1, V.non]) (fun _ σ H' => ∃ (t4 t5 t6 t7 : Option V), σ = [some (.ref a), some (.int (i : Int)), some (.ref p), some (.int r), t4, t5, t6, t7] ∧ Ex Ho H')
        ⟨_, _, _, _, rfl, Evl.Ex.refl _⟩ (fun _ _ _ _ ⟨_, _, _, _, _, e⟩ => SqL.of (e _ _ hl0)) ?_ ?_⟩
      · rintro j x σ H3 hx ⟨t4, t5, t6, t7, rfl, e3⟩
        have th := (hth x (List.mem_of_getElem? hx)).ex e3
        obtain ⟨d, hdp, hcl, hde⟩ := th.data (K := K)
        refine ⟨_, rfl, x, rfl, fun p1 H4 hp1 e4 h4 => ?_⟩
        refine ⟨_, rfl, by show 1 ≤ sizeLine; decide, fun q hq => ⟨q, 19, _, rfl, rfl, upd_same, by decide, by decide, by show 1 * 19 ≤ sizeLine; decide, fun q2 hq2 => ?_⟩⟩
        have f1 := Evl.Ex.new (o := HO.lst [x]) hq
        have f2 := Evl.Ex.new (o := HO.lst (List.replicate (Int.toNat 19) [x]).flatten) hq2
        have e5 := e4.trans (f1.trans f2)
        have h5 := (f1.trans f2) p1 _ h4
        have h6 := upd_same (H := upd H4 q (.lst [x])) (a := q2) (o := HO.lst (List.replicate (Int.toNat 19) [x]).flatten)
        rw [rep_flat] at h6 h5 e5
        rw [rep_flat]
        revert e5 h5 h6
        generalize upd (upd H4 q (.lst [x])) q2 (.lst (List.replicate (Int.toNat 19) x)) = H5
        intro e5 h5 h6
        have sh := shaped_rep hcl hde 19
        refine ⟨.list (List.replicate 19 d), .list (List.replicate 19 d), .lst (SqL.of h5) (dp_rep (hdp _ e5) 19), .lst (SqL.of h6) (dp_rep (hdp _ e5) 19), sh, sh, _, rfl, elseB (eqv_self sh) ?_⟩
        refine ⟨_, rfl, x, rfl, fun H6 e6 => ⟨rfl, _, rfl, elseB (by simp) ?_⟩⟩
        refine ⟨_, rfl, x, rfl, fun y H7 e7 hy => ?_⟩
        obtain ⟨qo, xs, rfl, hqo, ho⟩ := hy
        have x7 : Ex Ho H7 := ((e3.trans e5).trans e6).trans e7
        refine ⟨qo, xs, rfl, SqL.of hqo, for_it walk_enum (fun _ σ H' => ∃ (t5 t6 t7 : Option V), σ = [some (.ref a), some (.int (i : Int)), some (.ref p), some (.int r), some x, t5, t6, t7] ∧ Ex H7 H') ⟨_, _, _, rfl, Evl.Ex.refl _⟩ (fun _ _ _ _ ⟨_, _, _, _, e⟩ => SqL.of (e _ _ hqo)) ?_ ?_⟩
        · rintro n y σ H8 H9 hn ⟨t5, t6, t7, rfl, e8⟩ ⟨Tt, u, z, rfl, hT, rfl, hu, hz⟩
          obtain rfl : V.int (n : Nat) = u := Option.some.inj hu
          have e9 : Ex H7 (upd H8 Tt (.tup [V.int (n : Nat), z])) := e8.trans (Evl.Ex.new hT)
          obtain ⟨C, ad, fs, hC, rfl, hE⟩ := Objs.at ho hz
          have hCm : C ∈ cs := List.mem_of_getElem? hC
          have TC := S.I C hCm
          refine ⟨Tt, _, rfl, SqT.of upd_same, rfl, _, _, rfl, _, _, rfl, rfl, ?_⟩
          refine ⟨_, rfl, ad, C, fs, rfl, hCm, ErrAt.ex e9 hE, fun p3 HA hp3 eA hA => ?_⟩
          have hbs : boolsOf C cs = (((List.range 21).map fun j => decide (n = j))).map V.bl := by
            rw [bools_at S.nd hC, S.len, List.map_map]
            rfl
          rw [hbs] at hA
          refine ⟨21, rfl, by decide, by decide, fun Dd hDd => lc_range (lo := 0) (n := Int.toNat 21) (fun j H' => Ex HA H' ∧ H' Dd = some (.lst (((List.range j).map fun j' => decide (n = j')).map V.bl))) ⟨Evl.Ex.new hDd, upd_same⟩ ?_ ?_⟩
          · rintro j H' hj ⟨eB, hB⟩
            refine ⟨rfl, ?_⟩
            show tOp rEq (tVar 5) (tVar 7) _ H' _
            refine ⟨_, rfl, _, rfl, rfl, _, hB, ?_, Evl.Ex.mut eB hDd, ?_⟩
            · rw [List.length_map, List.length_map, List.length_range, sizeLine_eq]
              have : j < 21 := hj
              omega
            · rw [upd_same, List.range_succ, List.map_append, List.map_append]
              have e : decide (V.int (n : Nat) = V.int (0 + (j : Int))) = decide (n = j) := decide_eq_decide.mpr ⟨fun z => by
                have := V.int.inj z
                omega, fun z => by rw [z, Int.zero_add]⟩
              rw [e]
              rfl
          · rintro H' ⟨eB, hB⟩
            have sb := shaped_bools ((List.range 21).map fun j => decide (n = j))
            have hB' : H' Dd = some (.lst (((List.range 21).map fun j' => decide (n = j')).map V.bl)) := hB
            refine ⟨_, _, .lst (SqL.of (eB _ _ hA)) (dp_bools _), .lst (SqL.of hB') (dp_bools _), sb, sb, _, rfl, elseB (eqv_self sb) ?_⟩
            have eZ : Ex H7 H' := (e9.trans eA).trans eB
            have kD : PySem.W.kitOne K (.ref C) (.ref D) = some true := by
              unfold PySem.W.kitOne
              by_cases e : (Value.ref C == Value.ref D) = true
              · rw [if_pos e]
              · rw [if_neg e]
                unfold PySem.W.kitCls
                dsimp only
                rw [S.clD, S.tyD]
                show PySem.W.mroIn K C (.ref D) = some true
                rw [TC.mro]
                simp
            refine ⟨_, rfl, ad, C, D, D, true, fs, rfl, TC, ErrAt.ex eZ hE, kD, _, rfl, iteF ?_⟩
            exact ⟨_, _, _, rfl, eZ⟩
        · rintro σ H8 ⟨t5, t6, t7, rfl, e8⟩
          exact ⟨_, _, _, _, rfl, x7.trans e8⟩
      · rintro σ H3 ⟨t4, t5, t6, t7, rfl, e3⟩
        exact ⟨_, _, _, _, _, _, _, rfl, xo.trans e3⟩
    · rintro σ H2 ⟨s1, s2, s3, s4, s5, s6, s7, rfl, e0⟩
      exact k H2
end
end E
namespace E
open PySem L2
theorem cls_of {K : PySem.W.Frag} {C : Addr} {dd : Option Addr} {cd : ClassData} {sl : Array (Option Value)} (h : K.lookup C = some ⟨.type "type", dd, .cls cd, sl⟩) : PySem.W.clsIn K C = some cd := by
  unfold PySem.W.clsIn
  rw [h]
theorem init0 {P : Program} {w : World} {K : PySem.W.Frag} {mg : Str → Option Value} {base : Heap} {fI : Addr} {fd : FuncData} (F : Fun K "__init__" "BadArgument.__init__" s_BadArgument_init fI fd) : FnOk P w K mg base CX0 1 fI fd ["self", "value"] (spErr K "value") := by
  have sc : FnScope ["self", "value"] ["self", "value"] (defScope s_BadArgument_init) := ⟨rfl, rfl, rfl, by decide +kernel, rfl, by decide +kernel, by decide +kernel⟩
  refine F.ok sc (fun vs H Q E h => ?_) (fun cdv A outer s H vs Q E hr h => ?_)
  · obtain ⟨a, C, v, rfl, _⟩ := h
    rfl
  · obtain ⟨a, C, v, rfl, T, hno, ha, k⟩ := h
    exact ⟨_, pss_one (ps_est (pv 0) (pv 1)), _, rfl, _, rfl, a, C, rfl, T, hno, ha, k⟩
theorem init1 {P : Program} {w : World} {K : PySem.W.Frag} {mg : Str → Option Value} {base : Heap} {fI : Addr} {fd : FuncData} (F : Fun K "__init__" "BadProgram.__init__" s_BadProgram_init fI fd) : FnOk P w K mg base CX0 1 fI fd ["self", "part"] (spErr K "part") := by
  have sc : FnScope ["self", "part"] ["self", "part"] (defScope s_BadProgram_init) := ⟨rfl, rfl, rfl, by decide +kernel, rfl, by decide +kernel, by decide +kernel⟩
  refine F.ok sc (fun vs H Q E h => ?_) (fun cdv A outer s H vs Q E hr h => ?_)
  · obtain ⟨a, C, v, rfl, _⟩ := h
    rfl
  · obtain ⟨a, C, v, rfl, T, hno, ha, k⟩ := h
    exact ⟨_, pss_one (ps_est (pv 0) (pv 1)), _, rfl, _, rfl, a, C, rfl, T, hno, ha, k⟩
theorem init2 {P : Program} {w : World} {K : PySem.W.Frag} {mg : Str → Option Value} {base : Heap} {fI : Addr} {fd : FuncData} (F : Fun K "__init__" "BadProcedure.__init__" s_BadProcedure_init fI fd) : FnOk P w K mg base CX0 1 fI fd ["self", "value"] (spErr K "value") := by
  have sc : FnScope ["self", "value"] ["self", "value"] (defScope s_BadProcedure_init) := ⟨rfl, rfl, rfl, by decide +kernel, rfl, by decide +kernel, by decide +kernel⟩
  refine F.ok sc (fun vs H Q E h => ?_) (fun cdv A outer s H vs Q E hr h => ?_)
  · obtain ⟨a, C, v, rfl, _⟩ := h
    rfl
  · obtain ⟨a, C, v, rfl, T, hno, ha, k⟩ := h
    exact ⟨_, pss_one (ps_est (pv 0) (pv 1)), _, rfl, _, rfl, a, C, rfl, T, hno, ha, k⟩
theorem init3 {P : Program} {w : World} {K : PySem.W.Frag} {mg : Str → Option Value} {base : Heap} {fI : Addr} {fd : FuncData} (F : Fun K "__init__" "BadPoint.__init__" s_BadPoint_init fI fd) : FnOk P w K mg base CX0 1 fI fd ["self", "value"] (spErr K "value") := by
  have sc : FnScope ["self", "value"] ["self", "value"] (defScope s_BadPoint_init) := ⟨rfl, rfl, rfl, by decide +kernel, rfl, by decide +kernel, by decide +kernel⟩
  refine F.ok sc (fun vs H Q E h => ?_) (fun cdv A outer s H vs Q E hr h => ?_)
  · obtain ⟨a, C, v, rfl, _⟩ := h
    rfl
  · obtain ⟨a, C, v, rfl, T, hno, ha, k⟩ := h
    exact ⟨_, pss_one (ps_est (pv 0) (pv 1)), _, rfl, _, rfl, a, C, rfl, T, hno, ha, k⟩
theorem init4 {P : Program} {w : World} {K : PySem.W.Frag} {mg : Str → Option Value} {base : Heap} {fI : Addr} {fd : FuncData} (F : Fun K "__init__" "BadLine.__init__" s_BadLine_init fI fd) : FnOk P w K mg base CX0 1 fI fd ["self", "value"] (spErr K "value") := by
  have sc : FnScope ["self", "value"] ["self", "value"] (defScope s_BadLine_init) := ⟨rfl, rfl, rfl, by decide +kernel, rfl, by decide +kernel, by decide +kernel⟩
  refine F.ok sc (fun vs H Q E h => ?_) (fun cdv A outer s H vs Q E hr h => ?_)
  · obtain ⟨a, C, v, rfl, _⟩ := h
    rfl
  · obtain ⟨a, C, v, rfl, T, hno, ha, k⟩ := h
    exact ⟨_, pss_one (ps_est (pv 0) (pv 1)), _, rfl, _, rfl, a, C, rfl, T, hno, ha, k⟩
theorem init5 {P : Program} {w : World} {K : PySem.W.Frag} {mg : Str → Option Value} {base : Heap} {fI : Addr} {fd : FuncData} (F : Fun K "__init__" "BadStore.__init__" s_BadStore_init fI fd) : FnOk P w K mg base CX0 1 fI fd ["self", "value"] (spErr K "value") := by
  have sc : FnScope ["self", "value"] ["self", "value"] (defScope s_BadStore_init) := ⟨rfl, rfl, rfl, by decide +kernel, rfl, by decide +kernel, by decide +kernel⟩
  refine F.ok sc (fun vs H Q E h => ?_) (fun cdv A outer s H vs Q E hr h => ?_)
  · obtain ⟨a, C, v, rfl, _⟩ := h
    rfl
  · obtain ⟨a, C, v, rfl, T, hno, ha, k⟩ := h
    exact ⟨_, pss_one (ps_est (pv 0) (pv 1)), _, rfl, _, rfl, a, C, rfl, T, hno, ha, k⟩
theorem init6 {P : Program} {w : World} {K : PySem.W.Frag} {mg : Str → Option Value} {base : Heap} {fI : Addr} {fd : FuncData} (F : Fun K "__init__" "BadMask.__init__" s_BadMask_init fI fd) : FnOk P w K mg base CX0 1 fI fd ["self", "value"] (spErr K "value") := by
  have sc : FnScope ["self", "value"] ["self", "value"] (defScope s_BadMask_init) := ⟨rfl, rfl, rfl, by decide +kernel, rfl, by decide +kernel, by decide +kernel⟩
  refine F.ok sc (fun vs H Q E h => ?_) (fun cdv A outer s H vs Q E hr h => ?_)
  · obtain ⟨a, C, v, rfl, _⟩ := h
    rfl
  · obtain ⟨a, C, v, rfl, T, hno, ha, k⟩ := h
    exact ⟨_, pss_one (ps_est (pv 0) (pv 1)), _, rfl, _, rfl, a, C, rfl, T, hno, ha, k⟩
theorem init7 {P : Program} {w : World} {K : PySem.W.Frag} {mg : Str → Option Value} {base : Heap} {fI : Addr} {fd : FuncData} (F : Fun K "__init__" "BadGuards.__init__" s_BadGuards_init fI fd) : FnOk P w K mg base CX0 1 fI fd ["self", "value"] (spErr K "value") := by
  have sc : FnScope ["self", "value"] ["self", "value"] (defScope s_BadGuards_init) := ⟨rfl, rfl, rfl, by decide +kernel, rfl, by decide +kernel, by decide +kernel⟩
  refine F.ok sc (fun vs H Q E h => ?_) (fun cdv A outer s H vs Q E hr h => ?_)
  · obtain ⟨a, C, v, rfl, _⟩ := h
    rfl
  · obtain ⟨a, C, v, rfl, T, hno, ha, k⟩ := h
    exact ⟨_, pss_one (ps_est (pv 0) (pv 1)), _, rfl, _, rfl, a, C, rfl, T, hno, ha, k⟩
theorem init8 {P : Program} {w : World} {K : PySem.W.Frag} {mg : Str → Option Value} {base : Heap} {fI : Addr} {fd : FuncData} (F : Fun K "__init__" "BadMove.__init__" s_BadMove_init fI fd) : FnOk P w K mg base CX0 1 fI fd ["self", "value"] (spErr K "value") := by
  have sc : FnScope ["self", "value"] ["self", "value"] (defScope s_BadMove_init) := ⟨rfl, rfl, rfl, by decide +kernel, rfl, by decide +kernel, by decide +kernel⟩
  refine F.ok sc (fun vs H Q E h => ?_) (fun cdv A outer s H vs Q E hr h => ?_)
  · obtain ⟨a, C, v, rfl, _⟩ := h
    rfl
  · obtain ⟨a, C, v, rfl, T, hno, ha, k⟩ := h
    exact ⟨_, pss_one (ps_est (pv 0) (pv 1)), _, rfl, _, rfl, a, C, rfl, T, hno, ha, k⟩
theorem init9 {P : Program} {w : World} {K : PySem.W.Frag} {mg : Str → Option Value} {base : Heap} {fI : Addr} {fd : FuncData} (F : Fun K "__init__" "BadScript.__init__" s_BadScript_init fI fd) : FnOk P w K mg base CX0 1 fI fd ["self", "at"] (spErr K "at") := by
  have sc : FnScope ["self", "at"] ["self", "at"] (defScope s_BadScript_init) := ⟨rfl, rfl, rfl, by decide +kernel, rfl, by decide +kernel, by decide +kernel⟩
  refine F.ok sc (fun vs H Q E h => ?_) (fun cdv A outer s H vs Q E hr h => ?_)
  · obtain ⟨a, C, v, rfl, _⟩ := h
    rfl
  · obtain ⟨a, C, v, rfl, T, hno, ha, k⟩ := h
    exact ⟨_, pss_one (ps_est (pv 0) (pv 1)), _, rfl, _, rfl, a, C, rfl, T, hno, ha, k⟩
theorem init10 {P : Program} {w : World} {K : PySem.W.Frag} {mg : Str → Option Value} {base : Heap} {fI : Addr} {fd : FuncData} (F : Fun K "__init__" "BadNumber.__init__" s_BadNumber_init fI fd) : FnOk P w K mg base CX0 1 fI fd ["self", "value"] (spErr K "value") := by
  have sc : FnScope ["self", "value"] ["self", "value"] (defScope s_BadNumber_init) := ⟨rfl, rfl, rfl, by decide +kernel, rfl, by decide +kernel, by decide +kernel⟩
  refine F.ok sc (fun vs H Q E h => ?_) (fun cdv A outer s H vs Q E hr h => ?_)
  · obtain ⟨a, C, v, rfl, _⟩ := h
    rfl
  · obtain ⟨a, C, v, rfl, T, hno, ha, k⟩ := h
    exact ⟨_, pss_one (ps_est (pv 0) (pv 1)), _, rfl, _, rfl, a, C, rfl, T, hno, ha, k⟩
theorem init11 {P : Program} {w : World} {K : PySem.W.Frag} {mg : Str → Option Value} {base : Heap} {fI : Addr} {fd : FuncData} (F : Fun K "__init__" "BadCell.__init__" s_BadCell_init fI fd) : FnOk P w K mg base CX0 1 fI fd ["self", "value"] (spErr K "value") := by
  have sc : FnScope ["self", "value"] ["self", "value"] (defScope s_BadCell_init) := ⟨rfl, rfl, rfl, by decide +kernel, rfl, by decide +kernel, by decide +kernel⟩
  refine F.ok sc (fun vs H Q E h => ?_) (fun cdv A outer s H vs Q E hr h => ?_)
  · obtain ⟨a, C, v, rfl, _⟩ := h
    rfl
  · obtain ⟨a, C, v, rfl, T, hno, ha, k⟩ := h
    exact ⟨_, pss_one (ps_est (pv 0) (pv 1)), _, rfl, _, rfl, a, C, rfl, T, hno, ha, k⟩
theorem init12 {P : Program} {w : World} {K : PySem.W.Frag} {mg : Str → Option Value} {base : Heap} {fI : Addr} {fd : FuncData} (F : Fun K "__init__" "BadSection.__init__" s_BadSection_init fI fd) : FnOk P w K mg base CX0 1 fI fd ["self", "value"] (spErr K "value") := by
  have sc : FnScope ["self", "value"] ["self", "value"] (defScope s_BadSection_init) := ⟨rfl, rfl, rfl, by decide +kernel, rfl, by decide +kernel, by decide +kernel⟩
  refine F.ok sc (fun vs H Q E h => ?_) (fun cdv A outer s H vs Q E hr h => ?_)
  · obtain ⟨a, C, v, rfl, _⟩ := h
    rfl
  · obtain ⟨a, C, v, rfl, T, hno, ha, k⟩ := h
    exact ⟨_, pss_one (ps_est (pv 0) (pv 1)), _, rfl, _, rfl, a, C, rfl, T, hno, ha, k⟩
theorem init13 {P : Program} {w : World} {K : PySem.W.Frag} {mg : Str → Option Value} {base : Heap} {fI : Addr} {fd : FuncData} (F : Fun K "__init__" "BadChange.__init__" s_BadChange_init fI fd) : FnOk P w K mg base CX0 1 fI fd ["self", "value"] (spErr K "value") := by
  have sc : FnScope ["self", "value"] ["self", "value"] (defScope s_BadChange_init) := ⟨rfl, rfl, rfl, by decide +kernel, rfl, by decide +kernel, by decide +kernel⟩
  refine F.ok sc (fun vs H Q E h => ?_) (fun cdv A outer s H vs Q E hr h => ?_)
  · obtain ⟨a, C, v, rfl, _⟩ := h
    rfl
  · obtain ⟨a, C, v, rfl, T, hno, ha, k⟩ := h
    exact ⟨_, pss_one (ps_est (pv 0) (pv 1)), _, rfl, _, rfl, a, C, rfl, T, hno, ha, k⟩
theorem init14 {P : Program} {w : World} {K : PySem.W.Frag} {mg : Str → Option Value} {base : Heap} {fI : Addr} {fd : FuncData} (F : Fun K "__init__" "BadWish.__init__" s_BadWish_init fI fd) : FnOk P w K mg base CX0 1 fI fd ["self", "value"] (spErr K "value") := by
  have sc : FnScope ["self", "value"] ["self", "value"] (defScope s_BadWish_init) := ⟨rfl, rfl, rfl, by decide +kernel, rfl, by decide +kernel, by decide +kernel⟩
  refine F.ok sc (fun vs H Q E h => ?_) (fun cdv A outer s H vs Q E hr h => ?_)
  · obtain ⟨a, C, v, rfl, _⟩ := h
    rfl
  · obtain ⟨a, C, v, rfl, T, hno, ha, k⟩ := h
    exact ⟨_, pss_one (ps_est (pv 0) (pv 1)), _, rfl, _, rfl, a, C, rfl, T, hno, ha, k⟩
theorem init15 {P : Program} {w : World} {K : PySem.W.Frag} {mg : Str → Option Value} {base : Heap} {fI : Addr} {fd : FuncData} (F : Fun K "__init__" "BadText.__init__" s_BadText_init fI fd) : FnOk P w K mg base CX0 1 fI fd ["self", "at"] (spErr K "at") := by
  have sc : FnScope ["self", "at"] ["self", "at"] (defScope s_BadText_init) := ⟨rfl, rfl, rfl, by decide +kernel, rfl, by decide +kernel, by decide +kernel⟩
  refine F.ok sc (fun vs H Q E h => ?_) (fun cdv A outer s H vs Q E hr h => ?_)
  · obtain ⟨a, C, v, rfl, _⟩ := h
    rfl
  · obtain ⟨a, C, v, rfl, T, hno, ha, k⟩ := h
    exact ⟨_, pss_one (ps_est (pv 0) (pv 1)), _, rfl, _, rfl, a, C, rfl, T, hno, ha, k⟩
theorem init16 {P : Program} {w : World} {K : PySem.W.Frag} {mg : Str → Option Value} {base : Heap} {fI : Addr} {fd : FuncData} (F : Fun K "__init__" "TooMany.__init__" s_TooMany_init fI fd) : FnOk P w K mg base CX0 1 fI fd ["self", "number"] (spErr K "number") := by
  have sc : FnScope ["self", "number"] ["self", "number"] (defScope s_TooMany_init) := ⟨rfl, rfl, rfl, by decide +kernel, rfl, by decide +kernel, by decide +kernel⟩
  refine F.ok sc (fun vs H Q E h => ?_) (fun cdv A outer s H vs Q E hr h => ?_)
  · obtain ⟨a, C, v, rfl, _⟩ := h
    rfl
  · obtain ⟨a, C, v, rfl, T, hno, ha, k⟩ := h
    exact ⟨_, pss_one (ps_est (pv 0) (pv 1)), _, rfl, _, rfl, a, C, rfl, T, hno, ha, k⟩
theorem init17 {P : Program} {w : World} {K : PySem.W.Frag} {mg : Str → Option Value} {base : Heap} {fI : Addr} {fd : FuncData} (F : Fun K "__init__" "Broken.__init__" s_Broken_init fI fd) : FnOk P w K mg base CX0 1 fI fd ["self", "claim"] (spErr K "claim") := by
  have sc : FnScope ["self", "claim"] ["self", "claim"] (defScope s_Broken_init) := ⟨rfl, rfl, rfl, by decide +kernel, rfl, by decide +kernel, by decide +kernel⟩
  refine F.ok sc (fun vs H Q E h => ?_) (fun cdv A outer s H vs Q E hr h => ?_)
  · obtain ⟨a, C, v, rfl, _⟩ := h
    rfl
  · obtain ⟨a, C, v, rfl, T, hno, ha, k⟩ := h
    exact ⟨_, pss_one (ps_est (pv 0) (pv 1)), _, rfl, _, rfl, a, C, rfl, T, hno, ha, k⟩
theorem init18 {P : Program} {w : World} {K : PySem.W.Frag} {mg : Str → Option Value} {base : Heap} {fI : Addr} {fd : FuncData} (F : Fun K "__init__" "NoRow.__init__" s_NoRow_init fI fd) : FnOk P w K mg base CX0 1 fI fd ["self", "row"] (spErr K "row") := by
  have sc : FnScope ["self", "row"] ["self", "row"] (defScope s_NoRow_init) := ⟨rfl, rfl, rfl, by decide +kernel, rfl, by decide +kernel, by decide +kernel⟩
  refine F.ok sc (fun vs H Q E h => ?_) (fun cdv A outer s H vs Q E hr h => ?_)
  · obtain ⟨a, C, v, rfl, _⟩ := h
    rfl
  · obtain ⟨a, C, v, rfl, T, hno, ha, k⟩ := h
    exact ⟨_, pss_one (ps_est (pv 0) (pv 1)), _, rfl, _, rfl, a, C, rfl, T, hno, ha, k⟩
/-- what the written part says of one class (each row a fact that k_is or kx_is finds) -/
structure CF (K : PySem.W.Frag) (C D : Addr) (x : Str) : Prop where
  ns : PySem.W.nsIn K mainGlobals x = some (some (.ref C))
  ini : PySem.W.excInitIn K C PySem.ErrX.tail3 "Exception.__new__" = true
  ovr : PySem.W.excOver K C PySem.ErrX.tail3 = true
  hd : PySem.W.hasDictIn K C = true
  sa : PySem.W.findIn K (.ref C) "__setattr__" = some (some (.builtin "object.__setattr__"))
  ga : PySem.W.findIn K (.ref C) "__getattribute__" = some (some (.builtin "BaseException.__getattribute__"))
  gg : PySem.W.findIn K (.ref C) "__getattr__" = some none
  exC : PySem.W.subIn K (.ref C) (.type "BaseException") = some true
  kC : PySem.W.keepIn K (.ref C) = true
  ty : PySem.W.typeIn K (.ref C) = some (.type "type")
  cl : PySem.W.findIn K (.ref C) "__class__" = some (some (.builtin "object.__class__"))
  lk : ∃ dd cd sl, K.lookup C = some ⟨.type "type", dd, .cls cd, sl⟩ ∧ cd.mro = .ref C :: .ref D :: PySem.ErrX.tail3
theorem cf_mk {K : PySem.W.Frag} {C D : Addr} {x : Str} {dd : Option Addr} {cd : ClassData} {sl : Array (Option Value)} (a1 : PySem.W.nsIn K mainGlobals x = some (some (.ref C))) (a2 : PySem.W.excInitIn K C PySem.ErrX.tail3 "Exception.__new__" = true) (a3 : PySem.W.excOver K C PySem.ErrX.tail3 = true)
    (a4 : PySem.W.hasDictIn K C = true) (a5 : PySem.W.findIn K (.ref C) "__setattr__" = some (some (.builtin "object.__setattr__"))) (a6 : PySem.W.findIn K (.ref C) "__getattribute__" = some (some (.builtin "BaseException.__getattribute__")))
    (a7 : PySem.W.findIn K (.ref C) "__getattr__" = some none) (a8 : PySem.W.subIn K (.ref C) (.type "BaseException") = some true) (a9 : PySem.W.keepIn K (.ref C) = true) (a10 : PySem.W.typeIn K (.ref C) = some (.type "type"))
    (a11 : PySem.W.findIn K (.ref C) "__class__" = some (some (.builtin "object.__class__"))) (a12 : K.lookup C = some ⟨.type "type", dd, .cls cd, sl⟩) (a13 : cd.mro = .ref C :: .ref D :: PySem.ErrX.tail3) : CF K C D x :=
  ⟨a1, a2, a3, a4, a5, a6, a7, a8, a9, a10, a11, dd, cd, sl, a12, a13⟩
theorem CF.c {K : PySem.W.Frag} {C D : Addr} {x : Str} (T : CF K C D x) : ErrC K C := ⟨T.ini, T.ovr, T.hd, T.sa, T.ga, T.gg, T.exC, T.kC⟩
theorem CF.i {K : PySem.W.Frag} {C D : Addr} {x : Str} (T : CF K C D x) (h1 : PySem.W.specialIn K (.builtin "object.__class__") "__get__" = some (some (.builtin "getset_descriptor.__get__"))) (h2 : PySem.W.takesIn K (.builtin "object.__class__") = some true) : ErrI K C D := by
  obtain ⟨dd, cd, sl, h, m⟩ := T.lk
  exact ⟨T.c, ⟨cd, cls_of h, m⟩, T.ty, T.cl, h1, h2⟩
theorem all_mk {l : PySem.W.OpenLaw} {w : World} {K : PySem.W.Frag} {h : Heap} {mg : Str → Option Value} {fa D C0 C1 C2 C3 C4 C5 C6 C7 C8 C9 C10 C11 C12 C13 C14 C15 C16 C17 C18 C19 C20 f0 f1 f2 f3 f4 f5 f6 f7 f8 i0 i1 i2 i3 i4 i5 i6 i7 i8 i9 i10 i11 i12 i13 i14 i15 i16 i17 i18 : Addr} (X : K.In h) (G : h.Ns mainGlobals mg) (hfa : mg "law" = some (.ref fa))
    {od0 an0 od1 an1 od2 an2 od3 an3 od4 an4 od5 an5 od6 an6 od7 an7 od8 an8 jod0 jan0 jod1 jan1 jod2 jan2 jod3 jan3 jod4 jan4 jod5 jan5 jod6 jan6 jod7 jan7 jod8 jan8 jod9 jan9 jod10 jan10 jod11 jan11 jod12 jan12 jod13 jan13 jod14 jan14 jod15 jan15 jod16 jan16 jod17 jan17 jod18 jan18 : Option Addr} {sl0 sl1 sl2 sl3 sl4 sl5 sl6 sl7 sl8 jsl0 jsl1 jsl2 jsl3 jsl4 jsl5 jsl6 jsl7 jsl8 jsl9 jsl10 jsl11 jsl12 jsl13 jsl14 jsl15 jsl16 jsl17 jsl18 : Array (Option Value)} {oc0 kV0 dc0 pm0 cd0 ct0 oc1 kV1 dc1 pm1 cd1 ct1 oc2 kV2 dc2 pm2 cd2 ct2 oc3 kV3 dc3 pm3 cd3 ct3 oc4 kV4 dc4 pm4 cd4 ct4 oc5 kV5 dc5 pm5 cd5 ct5 oc6 kV6 dc6 pm6 cd6 ct6 oc7 kV7 dc7 pm7 cd7 ct7 oc8 kV8 dc8 pm8 cd8 ct8 joc0 jkV0 jdc0 jpm0 jcd0 jct0 joc1 jkV1 jdc1 jpm1 jcd1 jct1 joc2 jkV2 jdc2 jpm2 jcd2 jct2 joc3 jkV3 jdc3 jpm3 jcd3 jct3 joc4 jkV4 jdc4 jpm4 jcd4 jct4 joc5 jkV5 jdc5 jpm5 jcd5 jct5 joc6 jkV6 jdc6 jpm6 jcd6 jct6 joc7 jkV7 jdc7 jpm7 jcd7 jct7 joc8 jkV8 jdc8 jpm8 jcd8 jct8 joc9 jkV9 jdc9 jpm9 jcd9 jct9 joc10 jkV10 jdc10 jpm10 jcd10 jct10 joc11 jkV11 jdc11 jpm11 jcd11 jct11 joc12 jkV12 jdc12 jpm12 jcd12 jct12 joc13 jkV13 jdc13 jpm13 jcd13 jct13 joc14 jkV14 jdc14 jpm14 jcd14 jct14 joc15 jkV15 jdc15 jpm15 jcd15 jct15 joc16 jkV16 jdc16 jpm16 jcd16 jct16 joc17 jkV17 jdc17 jpm17 jcd17 jct17 joc18 jkV18 jdc18 jpm18 jcd18 jct18 : Value}
    (a0 : PySem.W.nsIn K mainGlobals "_law_numbers" = some (some (.ref f0)))
    (l0 : K.lookup f0 = some ⟨oc0, od0, .func (PySem.W.fnOf "_law_numbers" "_law_numbers" (defArgs s__law_numbers) (defBody s__law_numbers) (defScope s__law_numbers) .none kV0 dc0 pm0 an0 cd0 ct0), sl0⟩)
    (c0 : PySem.W.codeIn K cd0 "_law_numbers" = true)
    (k0 : PySem.W.keepIn K (.ref f0) = true)
    (a1 : PySem.W.nsIn K mainGlobals "_law_pool" = some (some (.ref f1)))
    (l1 : K.lookup f1 = some ⟨oc1, od1, .func (PySem.W.fnOf "_law_pool" "_law_pool" (defArgs s__law_pool) (defBody s__law_pool) (defScope s__law_pool) .none kV1 dc1 pm1 an1 cd1 ct1), sl1⟩)
    (c1 : PySem.W.codeIn K cd1 "_law_pool" = true)
    (k1 : PySem.W.keepIn K (.ref f1) = true)
    (a2 : PySem.W.nsIn K mainGlobals "_law_draw" = some (some (.ref f2)))
    (l2 : K.lookup f2 = some ⟨oc2, od2, .func (PySem.W.fnOf "_law_draw" "_law_draw" (defArgs s__law_draw) (defBody s__law_draw) (defScope s__law_draw) .none kV2 dc2 pm2 an2 cd2 ct2), sl2⟩)
    (c2 : PySem.W.codeIn K cd2 "_law_draw" = true)
    (k2 : PySem.W.keepIn K (.ref f2) = true)
    (a3 : PySem.W.nsIn K mainGlobals "_law_opened" = some (some (.ref f3)))
    (l3 : K.lookup f3 = some ⟨oc3, od3, .func (PySem.W.fnOf "_law_opened" "_law_opened" (defArgs s__law_opened) (defBody s__law_opened) (defScope s__law_opened) .none kV3 dc3 pm3 an3 cd3 ct3), sl3⟩)
    (c3 : PySem.W.codeIn K cd3 "_law_opened" = true)
    (k3 : PySem.W.keepIn K (.ref f3) = true)
    (a4 : PySem.W.nsIn K mainGlobals "_law_objects" = some (some (.ref f4)))
    (l4 : K.lookup f4 = some ⟨oc4, od4, .func (PySem.W.fnOf "_law_objects" "_law_objects" (defArgs s__law_objects) (defBody s__law_objects) (defScope s__law_objects) .none kV4 dc4 pm4 an4 cd4 ct4), sl4⟩)
    (c4 : PySem.W.codeIn K cd4 "_law_objects" = true)
    (k4 : PySem.W.keepIn K (.ref f4) = true)
    (a5 : PySem.W.nsIn K mainGlobals "_law_classes" = some (some (.ref f5)))
    (l5 : K.lookup f5 = some ⟨oc5, od5, .func (PySem.W.fnOf "_law_classes" "_law_classes" (defArgs s__law_classes) (defBody s__law_classes) (defScope s__law_classes) .none kV5 dc5 pm5 an5 cd5 ct5), sl5⟩)
    (c5 : PySem.W.codeIn K cd5 "_law_classes" = true)
    (k5 : PySem.W.keepIn K (.ref f5) = true)
    (a6 : PySem.W.nsIn K mainGlobals "_law_fields" = some (some (.ref f6)))
    (l6 : K.lookup f6 = some ⟨oc6, od6, .func (PySem.W.fnOf "_law_fields" "_law_fields" (defArgs s__law_fields) (defBody s__law_fields) (defScope s__law_fields) .none kV6 dc6 pm6 an6 cd6 ct6), sl6⟩)
    (c6 : PySem.W.codeIn K cd6 "_law_fields" = true)
    (k6 : PySem.W.keepIn K (.ref f6) = true)
    (a7 : PySem.W.nsIn K mainGlobals "_law_caught" = some (some (.ref f7)))
    (l7 : K.lookup f7 = some ⟨oc7, od7, .func (PySem.W.fnOf "_law_caught" "_law_caught" (defArgs s__law_caught) (defBody s__law_caught) (defScope s__law_caught) .none kV7 dc7 pm7 an7 cd7 ct7), sl7⟩)
    (c7 : PySem.W.codeIn K cd7 "_law_caught" = true)
    (k7 : PySem.W.keepIn K (.ref f7) = true)
    (a8 : PySem.W.nsIn K mainGlobals "law" = some (some (.ref f8)))
    (l8 : K.lookup f8 = some ⟨oc8, od8, .func (PySem.W.fnOf "law" "law" (defArgs s_law) (defBody s_law) (defScope s_law) .none kV8 dc8 pm8 an8 cd8 ct8), sl8⟩)
    (c8 : PySem.W.codeIn K cd8 "law" = true)
    (k8 : PySem.W.keepIn K (.ref f8) = true)
    (aD : PySem.W.nsIn K mainGlobals "LevelError" = some (some (.ref D)))
    (T0 : CF K C0 D "BadArgument")
    (T1 : CF K C1 D "BadProgram")
    (T2 : CF K C2 D "BadProcedure")
    (T3 : CF K C3 D "BadPoint")
    (T4 : CF K C4 D "BadLine")
    (T5 : CF K C5 D "BadStore")
    (T6 : CF K C6 D "BadMask")
    (T7 : CF K C7 D "BadGuards")
    (T8 : CF K C8 D "BadMove")
    (T9 : CF K C9 D "BadScript")
    (T10 : CF K C10 D "BadNumber")
    (T11 : CF K C11 D "BadCell")
    (T12 : CF K C12 D "BadSection")
    (T13 : CF K C13 D "BadChange")
    (T14 : CF K C14 D "BadWish")
    (T15 : CF K C15 D "BadText")
    (T16 : CF K C16 D "TooMany")
    (T17 : CF K C17 D "Broken")
    (T18 : CF K C18 D "NoRow")
    (T19 : CF K C19 D "AtRest")
    (T20 : CF K C20 D "NothingLeft")
    (jn0 : PySem.W.findIn K (.ref C0) "value" = some none)
    (ji0 : PySem.W.findIn K (.ref C0) "__init__" = some (some (.ref i0)))
    (jt0 : PySem.W.typeIn K (.ref i0) = some (.type "function"))
    (jl0 : K.lookup i0 = some ⟨joc0, jod0, .func (PySem.W.fnOf "__init__" "BadArgument.__init__" (defArgs s_BadArgument_init) (defBody s_BadArgument_init) (defScope s_BadArgument_init) .none jkV0 jdc0 jpm0 jan0 jcd0 jct0), jsl0⟩)
    (jc0 : PySem.W.codeIn K jcd0 "BadArgument.__init__" = true)
    (jk0 : PySem.W.keepIn K (.ref i0) = true)
    (jn1 : PySem.W.findIn K (.ref C1) "part" = some none)
    (ji1 : PySem.W.findIn K (.ref C1) "__init__" = some (some (.ref i1)))
    (jt1 : PySem.W.typeIn K (.ref i1) = some (.type "function"))
    (jl1 : K.lookup i1 = some ⟨joc1, jod1, .func (PySem.W.fnOf "__init__" "BadProgram.__init__" (defArgs s_BadProgram_init) (defBody s_BadProgram_init) (defScope s_BadProgram_init) .none jkV1 jdc1 jpm1 jan1 jcd1 jct1), jsl1⟩)
    (jc1 : PySem.W.codeIn K jcd1 "BadProgram.__init__" = true)
    (jk1 : PySem.W.keepIn K (.ref i1) = true)
    (jn2 : PySem.W.findIn K (.ref C2) "value" = some none)
    (ji2 : PySem.W.findIn K (.ref C2) "__init__" = some (some (.ref i2)))
    (jt2 : PySem.W.typeIn K (.ref i2) = some (.type "function"))
    (jl2 : K.lookup i2 = some ⟨joc2, jod2, .func (PySem.W.fnOf "__init__" "BadProcedure.__init__" (defArgs s_BadProcedure_init) (defBody s_BadProcedure_init) (defScope s_BadProcedure_init) .none jkV2 jdc2 jpm2 jan2 jcd2 jct2), jsl2⟩)
    (jc2 : PySem.W.codeIn K jcd2 "BadProcedure.__init__" = true)
    (jk2 : PySem.W.keepIn K (.ref i2) = true)
    (jn3 : PySem.W.findIn K (.ref C3) "value" = some none)
    (ji3 : PySem.W.findIn K (.ref C3) "__init__" = some (some (.ref i3)))
    (jt3 : PySem.W.typeIn K (.ref i3) = some (.type "function"))
    (jl3 : K.lookup i3 = some ⟨joc3, jod3, .func (PySem.W.fnOf "__init__" "BadPoint.__init__" (defArgs s_BadPoint_init) (defBody s_BadPoint_init) (defScope s_BadPoint_init) .none jkV3 jdc3 jpm3 jan3 jcd3 jct3), jsl3⟩)
    (jc3 : PySem.W.codeIn K jcd3 "BadPoint.__init__" = true)
    (jk3 : PySem.W.keepIn K (.ref i3) = true)
    (jn4 : PySem.W.findIn K (.ref C4) "value" = some none)
    (ji4 : PySem.W.findIn K (.ref C4) "__init__" = some (some (.ref i4)))
    (jt4 : PySem.W.typeIn K (.ref i4) = some (.type "function"))
    (jl4 : K.lookup i4 = some ⟨joc4, jod4, .func (PySem.W.fnOf "__init__" "BadLine.__init__" (defArgs s_BadLine_init) (defBody s_BadLine_init) (defScope s_BadLine_init) .none jkV4 jdc4 jpm4 jan4 jcd4 jct4), jsl4⟩)
    (jc4 : PySem.W.codeIn K jcd4 "BadLine.__init__" = true)
    (jk4 : PySem.W.keepIn K (.ref i4) = true)
    (jn5 : PySem.W.findIn K (.ref C5) "value" = some none)
    (ji5 : PySem.W.findIn K (.ref C5) "__init__" = some (some (.ref i5)))
    (jt5 : PySem.W.typeIn K (.ref i5) = some (.type "function"))
    (jl5 : K.lookup i5 = some ⟨joc5, jod5, .func (PySem.W.fnOf "__init__" "BadStore.__init__" (defArgs s_BadStore_init) (defBody s_BadStore_init) (defScope s_BadStore_init) .none jkV5 jdc5 jpm5 jan5 jcd5 jct5), jsl5⟩)
    (jc5 : PySem.W.codeIn K jcd5 "BadStore.__init__" = true)
    (jk5 : PySem.W.keepIn K (.ref i5) = true)
    (jn6 : PySem.W.findIn K (.ref C6) "value" = some none)
    (ji6 : PySem.W.findIn K (.ref C6) "__init__" = some (some (.ref i6)))
    (jt6 : PySem.W.typeIn K (.ref i6) = some (.type "function"))
    (jl6 : K.lookup i6 = some ⟨joc6, jod6, .func (PySem.W.fnOf "__init__" "BadMask.__init__" (defArgs s_BadMask_init) (defBody s_BadMask_init) (defScope s_BadMask_init) .none jkV6 jdc6 jpm6 jan6 jcd6 jct6), jsl6⟩)
    (jc6 : PySem.W.codeIn K jcd6 "BadMask.__init__" = true)
    (jk6 : PySem.W.keepIn K (.ref i6) = true)
    (jn7 : PySem.W.findIn K (.ref C7) "value" = some none)
    (ji7 : PySem.W.findIn K (.ref C7) "__init__" = some (some (.ref i7)))
    (jt7 : PySem.W.typeIn K (.ref i7) = some (.type "function"))
    (jl7 : K.lookup i7 = some ⟨joc7, jod7, .func (PySem.W.fnOf "__init__" "BadGuards.__init__" (defArgs s_BadGuards_init) (defBody s_BadGuards_init) (defScope s_BadGuards_init) .none jkV7 jdc7 jpm7 jan7 jcd7 jct7), jsl7⟩)
    (jc7 : PySem.W.codeIn K jcd7 "BadGuards.__init__" = true)
    (jk7 : PySem.W.keepIn K (.ref i7) = true)
    (jn8 : PySem.W.findIn K (.ref C8) "value" = some none)
    (ji8 : PySem.W.findIn K (.ref C8) "__init__" = some (some (.ref i8)))
    (jt8 : PySem.W.typeIn K (.ref i8) = some (.type "function"))
    (jl8 : K.lookup i8 = some ⟨joc8, jod8, .func (PySem.W.fnOf "__init__" "BadMove.__init__" (defArgs s_BadMove_init) (defBody s_BadMove_init) (defScope s_BadMove_init) .none jkV8 jdc8 jpm8 jan8 jcd8 jct8), jsl8⟩)
    (jc8 : PySem.W.codeIn K jcd8 "BadMove.__init__" = true)
    (jk8 : PySem.W.keepIn K (.ref i8) = true)
    (jn9 : PySem.W.findIn K (.ref C9) "at" = some none)
    (ji9 : PySem.W.findIn K (.ref C9) "__init__" = some (some (.ref i9)))
    (jt9 : PySem.W.typeIn K (.ref i9) = some (.type "function"))
    (jl9 : K.lookup i9 = some ⟨joc9, jod9, .func (PySem.W.fnOf "__init__" "BadScript.__init__" (defArgs s_BadScript_init) (defBody s_BadScript_init) (defScope s_BadScript_init) .none jkV9 jdc9 jpm9 jan9 jcd9 jct9), jsl9⟩)
    (jc9 : PySem.W.codeIn K jcd9 "BadScript.__init__" = true)
    (jk9 : PySem.W.keepIn K (.ref i9) = true)
    (jn10 : PySem.W.findIn K (.ref C10) "value" = some none)
    (ji10 : PySem.W.findIn K (.ref C10) "__init__" = some (some (.ref i10)))
    (jt10 : PySem.W.typeIn K (.ref i10) = some (.type "function"))
    (jl10 : K.lookup i10 = some ⟨joc10, jod10, .func (PySem.W.fnOf "__init__" "BadNumber.__init__" (defArgs s_BadNumber_init) (defBody s_BadNumber_init) (defScope s_BadNumber_init) .none jkV10 jdc10 jpm10 jan10 jcd10 jct10), jsl10⟩)
    (jc10 : PySem.W.codeIn K jcd10 "BadNumber.__init__" = true)
    (jk10 : PySem.W.keepIn K (.ref i10) = true)
    (jn11 : PySem.W.findIn K (.ref C11) "value" = some none)
    (ji11 : PySem.W.findIn K (.ref C11) "__init__" = some (some (.ref i11)))
    (jt11 : PySem.W.typeIn K (.ref i11) = some (.type "function"))
    (jl11 : K.lookup i11 = some ⟨joc11, jod11, .func (PySem.W.fnOf "__init__" "BadCell.__init__" (defArgs s_BadCell_init) (defBody s_BadCell_init) (defScope s_BadCell_init) .none jkV11 jdc11 jpm11 jan11 jcd11 jct11), jsl11⟩)
    (jc11 : PySem.W.codeIn K jcd11 "BadCell.__init__" = true)
    (jk11 : PySem.W.keepIn K (.ref i11) = true)
    (jn12 : PySem.W.findIn K (.ref C12) "value" = some none)
    (ji12 : PySem.W.findIn K (.ref C12) "__init__" = some (some (.ref i12)))
    (jt12 : PySem.W.typeIn K (.ref i12) = some (.type "function"))
    (jl12 : K.lookup i12 = some ⟨joc12, jod12, .func (PySem.W.fnOf "__init__" "BadSection.__init__" (defArgs s_BadSection_init) (defBody s_BadSection_init) (defScope s_BadSection_init) .none jkV12 jdc12 jpm12 jan12 jcd12 jct12), jsl12⟩)
    (jc12 : PySem.W.codeIn K jcd12 "BadSection.__init__" = true)
    (jk12 : PySem.W.keepIn K (.ref i12) = true)
    (jn13 : PySem.W.findIn K (.ref C13) "value" = some none)
    (ji13 : PySem.W.findIn K (.ref C13) "__init__" = some (some (.ref i13)))
    (jt13 : PySem.W.typeIn K (.ref i13) = some (.type "function"))
    (jl13 : K.lookup i13 = some ⟨joc13, jod13, .func (PySem.W.fnOf "__init__" "BadChange.__init__" (defArgs s_BadChange_init) (defBody s_BadChange_init) (defScope s_BadChange_init) .none jkV13 jdc13 jpm13 jan13 jcd13 jct13), jsl13⟩)
    (jc13 : PySem.W.codeIn K jcd13 "BadChange.__init__" = true)
    (jk13 : PySem.W.keepIn K (.ref i13) = true)
    (jn14 : PySem.W.findIn K (.ref C14) "value" = some none)
    (ji14 : PySem.W.findIn K (.ref C14) "__init__" = some (some (.ref i14)))
    (jt14 : PySem.W.typeIn K (.ref i14) = some (.type "function"))
    (jl14 : K.lookup i14 = some ⟨joc14, jod14, .func (PySem.W.fnOf "__init__" "BadWish.__init__" (defArgs s_BadWish_init) (defBody s_BadWish_init) (defScope s_BadWish_init) .none jkV14 jdc14 jpm14 jan14 jcd14 jct14), jsl14⟩)
    (jc14 : PySem.W.codeIn K jcd14 "BadWish.__init__" = true)
    (jk14 : PySem.W.keepIn K (.ref i14) = true)
    (jn15 : PySem.W.findIn K (.ref C15) "at" = some none)
    (ji15 : PySem.W.findIn K (.ref C15) "__init__" = some (some (.ref i15)))
    (jt15 : PySem.W.typeIn K (.ref i15) = some (.type "function"))
    (jl15 : K.lookup i15 = some ⟨joc15, jod15, .func (PySem.W.fnOf "__init__" "BadText.__init__" (defArgs s_BadText_init) (defBody s_BadText_init) (defScope s_BadText_init) .none jkV15 jdc15 jpm15 jan15 jcd15 jct15), jsl15⟩)
    (jc15 : PySem.W.codeIn K jcd15 "BadText.__init__" = true)
    (jk15 : PySem.W.keepIn K (.ref i15) = true)
    (jn16 : PySem.W.findIn K (.ref C16) "number" = some none)
    (ji16 : PySem.W.findIn K (.ref C16) "__init__" = some (some (.ref i16)))
    (jt16 : PySem.W.typeIn K (.ref i16) = some (.type "function"))
    (jl16 : K.lookup i16 = some ⟨joc16, jod16, .func (PySem.W.fnOf "__init__" "TooMany.__init__" (defArgs s_TooMany_init) (defBody s_TooMany_init) (defScope s_TooMany_init) .none jkV16 jdc16 jpm16 jan16 jcd16 jct16), jsl16⟩)
    (jc16 : PySem.W.codeIn K jcd16 "TooMany.__init__" = true)
    (jk16 : PySem.W.keepIn K (.ref i16) = true)
    (jn17 : PySem.W.findIn K (.ref C17) "claim" = some none)
    (ji17 : PySem.W.findIn K (.ref C17) "__init__" = some (some (.ref i17)))
    (jt17 : PySem.W.typeIn K (.ref i17) = some (.type "function"))
    (jl17 : K.lookup i17 = some ⟨joc17, jod17, .func (PySem.W.fnOf "__init__" "Broken.__init__" (defArgs s_Broken_init) (defBody s_Broken_init) (defScope s_Broken_init) .none jkV17 jdc17 jpm17 jan17 jcd17 jct17), jsl17⟩)
    (jc17 : PySem.W.codeIn K jcd17 "Broken.__init__" = true)
    (jk17 : PySem.W.keepIn K (.ref i17) = true)
    (jn18 : PySem.W.findIn K (.ref C18) "row" = some none)
    (ji18 : PySem.W.findIn K (.ref C18) "__init__" = some (some (.ref i18)))
    (jt18 : PySem.W.typeIn K (.ref i18) = some (.type "function"))
    (jl18 : K.lookup i18 = some ⟨joc18, jod18, .func (PySem.W.fnOf "__init__" "NoRow.__init__" (defArgs s_NoRow_init) (defBody s_NoRow_init) (defScope s_NoRow_init) .none jkV18 jdc18 jpm18 jan18 jcd18 jct18), jsl18⟩)
    (jc18 : PySem.W.codeIn K jcd18 "NoRow.__init__" = true)
    (jk18 : PySem.W.keepIn K (.ref i18) = true)
    (jb19 : PySem.W.findIn K (.ref C19) "__init__" = some (some (.builtin "Exception.__init__")))
    (jb20 : PySem.W.findIn K (.ref C20) "__init__" = some (some (.builtin "Exception.__init__")))
    (z_enumerate : PySem.W.nsIn K mainGlobals "enumerate" = some none)
    (z_int : PySem.W.nsIn K mainGlobals "int" = some none)
    (z_isinstance : PySem.W.nsIn K mainGlobals "isinstance" = some none)
    (z_len : PySem.W.nsIn K mainGlobals "len" = some none)
    (z_max : PySem.W.nsIn K mainGlobals "max" = some none)
    (z_min : PySem.W.nsIn K mainGlobals "min" = some none)
    (z_range : PySem.W.nsIn K mainGlobals "range" = some none)
    (z_str : PySem.W.nsIn K mainGlobals "str" = some none)
    (hsp : PySem.W.specialIn K (.builtin "object.__class__") "__get__" = some (some (.builtin "getset_descriptor.__get__")))
    (htk : PySem.W.takesIn K (.builtin "object.__class__") = some true)
    (dty : PySem.W.typeIn K (.ref D) = some (.type "type"))
    (dex : PySem.W.subIn K (.ref D) (.type "BaseException") = some true)
    (dhd : PySem.W.hasDictIn K D = true)
    (hnd : [D, C0, C1, C2, C3, C4, C5, C6, C7, C8, C9, C10, C11, C12, C13, C14, C15, C16, C17, C18, C19, C20].Nodup)
    : ∃ fd : FuncData, (∀ (s : Shared) (v : Value), BindsTo s fd ⟨[v], []⟩ [("_law_script", v)]) ∧ ∀ base : Heap, K.In base → base.Ns mainGlobals mg → FnOk l.prog w K mg base CX0 4 fa fd ["_law_script"] (spLaw K) := by
  have e := hfa.symm.trans (PySem.W.mg_of X G a8)
  cases e
  have m_enumerate := PySem.W.mg_none_of X G z_enumerate
  have m_int := PySem.W.mg_none_of X G z_int
  have m_isinstance := PySem.W.mg_none_of X G z_isinstance
  have m_len := PySem.W.mg_none_of X G z_len
  have m_max := PySem.W.mg_none_of X G z_max
  have m_min := PySem.W.mg_none_of X G z_min
  have m_range := PySem.W.mg_none_of X G z_range
  have m_str := PySem.W.mg_none_of X G z_str
  have F0 := fun_mk (st := s__law_numbers) l0 c0 k0
  have b0 := F0.binds (ps := ["_law_cell", "_law_salt", "_law_sizes"]) fun _ _ _ _ _ _ us hl => match us, hl with | [_, _, _], _ => rfl
  have g0 := PySem.W.mg_of X G a0
  have F1 := fun_mk (st := s__law_pool) l1 c1 k1
  have b1 := F1.binds (ps := ["_law_cell", "_law_salt", "_law_many"]) fun _ _ _ _ _ _ us hl => match us, hl with | [_, _, _], _ => rfl
  have g1 := PySem.W.mg_of X G a1
  have F2 := fun_mk (st := s__law_draw) l2 c2 k2
  have b2 := F2.binds (ps := ["_law_pool_here", "_law_many"]) fun _ _ _ _ _ _ us hl => match us, hl with | [_, _], _ => rfl
  have g2 := PySem.W.mg_of X G a2
  have F3 := fun_mk (st := s__law_opened) l3 c3 k3
  have b3 := F3.binds (ps := ["_law_script", "_law_k", "_law_many"]) fun _ _ _ _ _ _ us hl => match us, hl with | [_, _, _], _ => rfl
  have g3 := PySem.W.mg_of X G a3
  have F4 := fun_mk (st := s__law_objects) l4 c4 k4
  have b4 := F4.binds (ps := ["_law_thing"]) fun _ _ _ _ _ _ us hl => match us, hl with | [_], _ => rfl
  have g4 := PySem.W.mg_of X G a4
  have F5 := fun_mk (st := s__law_classes) l5 c5 k5
  have b5 := F5.binds (ps := ["_law_one"]) fun _ _ _ _ _ _ us hl => match us, hl with | [_], _ => rfl
  have g5 := PySem.W.mg_of X G a5
  have F6 := fun_mk (st := s__law_fields) l6 c6 k6
  have b6 := F6.binds (ps := ["_law_thing"]) fun _ _ _ _ _ _ us hl => match us, hl with | [_], _ => rfl
  have g6 := PySem.W.mg_of X G a6
  have F7 := fun_mk (st := s__law_caught) l7 c7 k7
  have b7 := F7.binds (ps := ["_law_thing"]) fun _ _ _ _ _ _ us hl => match us, hl with | [_], _ => rfl
  have g7 := PySem.W.mg_of X G a7
  have F8 := fun_mk (st := s_law) l8 c8 k8
  have J0 := fun_mk (st := s_BadArgument_init) jl0 jc0 jk0
  have jb0 := J0.binds (ps := ["self", "value"]) fun _ _ _ _ _ _ us hl => match us, hl with | [_, _], _ => rfl
  have J1 := fun_mk (st := s_BadProgram_init) jl1 jc1 jk1
  have jb1 := J1.binds (ps := ["self", "part"]) fun _ _ _ _ _ _ us hl => match us, hl with | [_, _], _ => rfl
  have J2 := fun_mk (st := s_BadProcedure_init) jl2 jc2 jk2
  have jb2 := J2.binds (ps := ["self", "value"]) fun _ _ _ _ _ _ us hl => match us, hl with | [_, _], _ => rfl
  have J3 := fun_mk (st := s_BadPoint_init) jl3 jc3 jk3
  have jb3 := J3.binds (ps := ["self", "value"]) fun _ _ _ _ _ _ us hl => match us, hl with | [_, _], _ => rfl
  have J4 := fun_mk (st := s_BadLine_init) jl4 jc4 jk4
  have jb4 := J4.binds (ps := ["self", "value"]) fun _ _ _ _ _ _ us hl => match us, hl with | [_, _], _ => rfl
  have J5 := fun_mk (st := s_BadStore_init) jl5 jc5 jk5
  have jb5 := J5.binds (ps := ["self", "value"]) fun _ _ _ _ _ _ us hl => match us, hl with | [_, _], _ => rfl
  have J6 := fun_mk (st := s_BadMask_init) jl6 jc6 jk6
  have jb6 := J6.binds (ps := ["self", "value"]) fun _ _ _ _ _ _ us hl => match us, hl with | [_, _], _ => rfl
  have J7 := fun_mk (st := s_BadGuards_init) jl7 jc7 jk7
  have jb7 := J7.binds (ps := ["self", "value"]) fun _ _ _ _ _ _ us hl => match us, hl with | [_, _], _ => rfl
  have J8 := fun_mk (st := s_BadMove_init) jl8 jc8 jk8
  have jb8 := J8.binds (ps := ["self", "value"]) fun _ _ _ _ _ _ us hl => match us, hl with | [_, _], _ => rfl
  have J9 := fun_mk (st := s_BadScript_init) jl9 jc9 jk9
  have jb9 := J9.binds (ps := ["self", "at"]) fun _ _ _ _ _ _ us hl => match us, hl with | [_, _], _ => rfl
  have J10 := fun_mk (st := s_BadNumber_init) jl10 jc10 jk10
  have jb10 := J10.binds (ps := ["self", "value"]) fun _ _ _ _ _ _ us hl => match us, hl with | [_, _], _ => rfl
  have J11 := fun_mk (st := s_BadCell_init) jl11 jc11 jk11
  have jb11 := J11.binds (ps := ["self", "value"]) fun _ _ _ _ _ _ us hl => match us, hl with | [_, _], _ => rfl
  have J12 := fun_mk (st := s_BadSection_init) jl12 jc12 jk12
  have jb12 := J12.binds (ps := ["self", "value"]) fun _ _ _ _ _ _ us hl => match us, hl with | [_, _], _ => rfl
  have J13 := fun_mk (st := s_BadChange_init) jl13 jc13 jk13
  have jb13 := J13.binds (ps := ["self", "value"]) fun _ _ _ _ _ _ us hl => match us, hl with | [_, _], _ => rfl
  have J14 := fun_mk (st := s_BadWish_init) jl14 jc14 jk14
  have jb14 := J14.binds (ps := ["self", "value"]) fun _ _ _ _ _ _ us hl => match us, hl with | [_, _], _ => rfl
  have J15 := fun_mk (st := s_BadText_init) jl15 jc15 jk15
  have jb15 := J15.binds (ps := ["self", "at"]) fun _ _ _ _ _ _ us hl => match us, hl with | [_, _], _ => rfl
  have J16 := fun_mk (st := s_TooMany_init) jl16 jc16 jk16
  have jb16 := J16.binds (ps := ["self", "number"]) fun _ _ _ _ _ _ us hl => match us, hl with | [_, _], _ => rfl
  have J17 := fun_mk (st := s_Broken_init) jl17 jc17 jk17
  have jb17 := J17.binds (ps := ["self", "claim"]) fun _ _ _ _ _ _ us hl => match us, hl with | [_, _], _ => rfl
  have J18 := fun_mk (st := s_NoRow_init) jl18 jc18 jk18
  have jb18 := J18.binds (ps := ["self", "row"]) fun _ _ _ _ _ _ us hl => match us, hl with | [_, _], _ => rfl
  have T : Txt mg := ⟨m_enumerate, m_int, m_isinstance, m_len, m_max, m_min, m_range, m_str⟩
  refine ⟨PySem.W.fnOf "law" "law" (defArgs s_law) (defBody s_law) (defScope s_law) .none kV8 dc8 pm8 an8 cd8 ct8, fun s v => .of_eq rfl, fun base _ _ => ?_⟩
  have M0 : ErrM l.prog w K mg base C0 "value" := ⟨T0.c, jn0, i0, _, ji0, jt0, init0 J0, jb0, fun s x v => .of_eq rfl⟩
  have M1 : ErrM l.prog w K mg base C1 "part" := ⟨T1.c, jn1, i1, _, ji1, jt1, init1 J1, jb1, fun s x v => .of_eq rfl⟩
  have M2 : ErrM l.prog w K mg base C2 "value" := ⟨T2.c, jn2, i2, _, ji2, jt2, init2 J2, jb2, fun s x v => .of_eq rfl⟩
  have M3 : ErrM l.prog w K mg base C3 "value" := ⟨T3.c, jn3, i3, _, ji3, jt3, init3 J3, jb3, fun s x v => .of_eq rfl⟩
  have M4 : ErrM l.prog w K mg base C4 "value" := ⟨T4.c, jn4, i4, _, ji4, jt4, init4 J4, jb4, fun s x v => .of_eq rfl⟩
  have M5 : ErrM l.prog w K mg base C5 "value" := ⟨T5.c, jn5, i5, _, ji5, jt5, init5 J5, jb5, fun s x v => .of_eq rfl⟩
  have M6 : ErrM l.prog w K mg base C6 "value" := ⟨T6.c, jn6, i6, _, ji6, jt6, init6 J6, jb6, fun s x v => .of_eq rfl⟩
  have M7 : ErrM l.prog w K mg base C7 "value" := ⟨T7.c, jn7, i7, _, ji7, jt7, init7 J7, jb7, fun s x v => .of_eq rfl⟩
  have M8 : ErrM l.prog w K mg base C8 "value" := ⟨T8.c, jn8, i8, _, ji8, jt8, init8 J8, jb8, fun s x v => .of_eq rfl⟩
  have M9 : ErrM l.prog w K mg base C9 "at" := ⟨T9.c, jn9, i9, _, ji9, jt9, init9 J9, jb9, fun s x v => .of_eq rfl⟩
  have M10 : ErrM l.prog w K mg base C10 "value" := ⟨T10.c, jn10, i10, _, ji10, jt10, init10 J10, jb10, fun s x v => .of_eq rfl⟩
  have M11 : ErrM l.prog w K mg base C11 "value" := ⟨T11.c, jn11, i11, _, ji11, jt11, init11 J11, jb11, fun s x v => .of_eq rfl⟩
  have M12 : ErrM l.prog w K mg base C12 "value" := ⟨T12.c, jn12, i12, _, ji12, jt12, init12 J12, jb12, fun s x v => .of_eq rfl⟩
  have M13 : ErrM l.prog w K mg base C13 "value" := ⟨T13.c, jn13, i13, _, ji13, jt13, init13 J13, jb13, fun s x v => .of_eq rfl⟩
  have M14 : ErrM l.prog w K mg base C14 "value" := ⟨T14.c, jn14, i14, _, ji14, jt14, init14 J14, jb14, fun s x v => .of_eq rfl⟩
  have M15 : ErrM l.prog w K mg base C15 "at" := ⟨T15.c, jn15, i15, _, ji15, jt15, init15 J15, jb15, fun s x v => .of_eq rfl⟩
  have M16 : ErrM l.prog w K mg base C16 "number" := ⟨T16.c, jn16, i16, _, ji16, jt16, init16 J16, jb16, fun s x v => .of_eq rfl⟩
  have M17 : ErrM l.prog w K mg base C17 "claim" := ⟨T17.c, jn17, i17, _, ji17, jt17, init17 J17, jb17, fun s x v => .of_eq rfl⟩
  have M18 : ErrM l.prog w K mg base C18 "row" := ⟨T18.c, jn18, i18, _, ji18, jt18, init18 J18, jb18, fun s x v => .of_eq rfl⟩
  have S : Errs l.prog w K mg base D C0 C1 C2 C3 C4 C5 C6 C7 C8 C9 C10 C11 C12 C13 C14 C15 C16 C17 C18 C19 C20 := ⟨PySem.W.mg_of X G aD, PySem.W.mg_of X G T0.ns, PySem.W.mg_of X G T1.ns, PySem.W.mg_of X G T2.ns, PySem.W.mg_of X G T3.ns, PySem.W.mg_of X G T4.ns, PySem.W.mg_of X G T5.ns, PySem.W.mg_of X G T6.ns, PySem.W.mg_of X G T7.ns, PySem.W.mg_of X G T8.ns, PySem.W.mg_of X G T9.ns, PySem.W.mg_of X G T10.ns, PySem.W.mg_of X G T11.ns, PySem.W.mg_of X G T12.ns, PySem.W.mg_of X G T13.ns, PySem.W.mg_of X G T14.ns, PySem.W.mg_of X G T15.ns, PySem.W.mg_of X G T16.ns, PySem.W.mg_of X G T17.ns, PySem.W.mg_of X G T18.ns, PySem.W.mg_of X G T19.ns, PySem.W.mg_of X G T20.ns, M0, M1, M2, M3, M4, M5, M6, M7, M8, M9, M10, M11, M12, M13, M14, M15, M16, M17, M18, ⟨T19.c, jb19⟩, ⟨T20.c, jb20⟩, T0.i hsp htk, T1.i hsp htk, T2.i hsp htk, T3.i hsp htk, T4.i hsp htk, T5.i hsp htk, T6.i hsp htk, T7.i hsp htk, T8.i hsp htk, T9.i hsp htk, T10.i hsp htk, T11.i hsp htk, T12.i hsp htk, T13.i hsp htk, T14.i hsp htk, T15.i hsp htk, T16.i hsp htk, T17.i hsp htk, T18.i hsp htk, T19.i hsp htk, T20.i hsp htk, dty, dex, dhd, hnd⟩
  have clD : (PySem.W.clsIn K D).isSome = true := by
    obtain ⟨cd, h1, _⟩ := PySem.W.any_some dhd
    rw [h1]; rfl
  have Z : Ctx l.prog w K mg base D [C0, C1, C2, C3, C4, C5, C6, C7, C8, C9, C10, C11, C12, C13, C14, C15, C16, C17, C18, C19, C20] := ⟨S.gD, S.all, (List.nodup_cons.mp hnd).2, rfl, dty, clD⟩
  have H0 : Has l.prog w K mg base 1 "_law_numbers" _ (spNumbers K) := ⟨_, _, ok_numbers F0 T, g0, k0, b0⟩
  have H1 : Has l.prog w K mg base 2 "_law_pool" _ spPool := ⟨_, _, ok_pool F1 H0, g1, k1, b1⟩
  have H2 : Has l.prog w K mg base 1 "_law_draw" _ spDraw := ⟨_, _, ok_draw F2 T, g2, k2, b2⟩
  have H3 : Has l.prog w K mg base 3 "_law_opened" _ (spOpened K) := ⟨_, _, ok_opened F3 H1, g3, k3, b3⟩
  have H4 : Has l.prog w K mg base 3 "_law_objects" _ (spObjects [C0, C1, C2, C3, C4, C5, C6, C7, C8, C9, C10, C11, C12, C13, C14, C15, C16, C17, C18, C19, C20]) := ⟨_, _, ok_objects F4 S, g4, k4, b4⟩
  have H5 : Has l.prog w K mg base 1 "_law_classes" _ (spClasses [C0, C1, C2, C3, C4, C5, C6, C7, C8, C9, C10, C11, C12, C13, C14, C15, C16, C17, C18, C19, C20]) := ⟨_, _, ok_classes F5 T S, g5, k5, b5⟩
  have H6 : Has l.prog w K mg base 3 "_law_fields" _ spFields := ⟨_, _, ok_fields F6 S, g6, k6, b6⟩
  have H7 : Has l.prog w K mg base 3 "_law_caught" _ spCaught := ⟨_, _, ok_caught F7 S, g7, k7, b7⟩
  exact ok_law F8 T Z H2 H3 H6 H7 H4 H5
theorem walk {l : PySem.W.OpenLaw} {q : Program} {loose : List Str} {XP : (Str → Option Value) → Heap → Prop} {YP : World → Heap → Prop} {d : DefRec} {K : Params → PySem.W.Frag} (hn : l.most = some 63) (hdf : d.params.defaults = [])
    (hY : ∀ (w : World) (h : Heap), YP w h → (K w.params).In h)
    (F : ∀ (w : World) (mg : Str → Option Value) (fa : Addr) (h : Heap), (K w.params).In h → h.Ns mainGlobals mg → mg d.name = some (.ref fa) →
      ∃ fd : FuncData, (∀ (s : Shared) (u : Value), BindsTo s fd ⟨[u], []⟩ [("_law_script", u)]) ∧ ∀ base : Heap, (K w.params).In base → base.Ns mainGlobals mg → FnOk l.prog w (K w.params) mg base CX0 4 fa fd ["_law_script"] (spLaw (K w.params))) :
    PySem.W.WalkO q loose XP YP l.row.toRowW d [] (fun f vs => PySem.call f vs) :=
  L2.walk_of (n := 63) (k := 4) (x := "_law_script") (CX := fun _ => CX0) (sp := fun w => spLaw (K w.params)) hn (by decide) hdf ⟨rfl, by decide, by decide⟩ hY F (fun _ _ a ns hl _ hS => ⟨a, ns, rfl, hS, hl, fun _ => rfl⟩) fun _ _ _ _ _ z => z
end E
open PySem PySem.W PyProof.Rows
set_option maxRecDepth 100000 in
set_option maxHeartbeats 0 in
theorem PySem.Challenge.cw_maskedlevels_k44_classes_of_errors_holds : PySem.Challenge.rw_maskedlevels_k44_classes_of_errors.Holds := by
  w_on; o_law; k_head; (case hw => w_witness2)
  k_fill
  refine E.walk (l := PySem.Challenge.rw_maskedlevels_k44_classes_of_errors) rfl rfl (fun w h Y => PySem.W.kIn_of Y) ?F
  case F =>
    intro w mg fa h KX G hmg
    refine' E.all_mk KX G hmg ?a0 ?l0 ?c0 ?k0 ?a1 ?l1 ?c1 ?k1 ?a2 ?l2 ?c2 ?k2 ?a3 ?l3 ?c3 ?k3 ?a4 ?l4 ?c4 ?k4 ?a5 ?l5 ?c5 ?k5 ?a6 ?l6 ?c6 ?k6 ?a7 ?l7 ?c7 ?k7 ?a8 ?l8 ?c8 ?k8 ?aD ?T0 ?T1 ?T2 ?T3 ?T4 ?T5 ?T6 ?T7 ?T8 ?T9 ?T10 ?T11 ?T12 ?T13 ?T14 ?T15 ?T16 ?T17 ?T18 ?T19 ?T20 ?jn0 ?ji0 ?jt0 ?jl0 ?jc0 ?jk0 ?jn1 ?ji1 ?jt1 ?jl1 ?jc1 ?jk1 ?jn2 ?ji2 ?jt2 ?jl2 ?jc2 ?jk2 ?jn3 ?ji3 ?jt3 ?jl3 ?jc3 ?jk3 ?jn4 ?ji4 ?jt4 ?jl4 ?jc4 ?jk4 ?jn5 ?ji5 ?jt5 ?jl5 ?jc5 ?jk5 ?jn6 ?ji6 ?jt6 ?jl6 ?jc6 ?jk6 ?jn7 ?ji7 ?jt7 ?jl7 ?jc7 ?jk7 ?jn8 ?ji8 ?jt8 ?jl8 ?jc8 ?jk8 ?jn9 ?ji9 ?jt9 ?jl9 ?jc9 ?jk9 ?jn10 ?ji10 ?jt10 ?jl10 ?jc10 ?jk10 ?jn11 ?ji11 ?jt11 ?jl11 ?jc11 ?jk11 ?jn12 ?ji12 ?jt12 ?jl12 ?jc12 ?jk12 ?jn13 ?ji13 ?jt13 ?jl13 ?jc13 ?jk13 ?jn14 ?ji14 ?jt14 ?jl14 ?jc14 ?jk14 ?jn15 ?ji15 ?jt15 ?jl15 ?jc15 ?jk15 ?jn16 ?ji16 ?jt16 ?jl16 ?jc16 ?jk16 ?jn17 ?ji17 ?jt17 ?jl17 ?jc17 ?jk17 ?jn18 ?ji18 ?jt18 ?jl18 ?jc18 ?jk18 ?jb19 ?jb20 ?z_enumerate ?z_int ?z_isinstance ?z_len ?z_max ?z_min ?z_range ?z_str ?hsp ?htk ?dty ?dex ?dhd ?hnd
    (case a0 => k_is)
    (case l0 => k_is)
    (case c0 => k_is)
    (case k0 => k_is)
    (case a1 => k_is)
    (case l1 => k_is)
    (case c1 => k_is)
    (case k1 => k_is)
    (case a2 => k_is)
    (case l2 => k_is)
    (case c2 => k_is)
    (case k2 => k_is)
    (case a3 => k_is)
    (case l3 => k_is)
    (case c3 => k_is)
    (case k3 => k_is)
    (case a4 => k_is)
    (case l4 => k_is)
    (case c4 => k_is)
    (case k4 => k_is)
    (case a5 => k_is)
    (case l5 => k_is)
    (case c5 => k_is)
    (case k5 => k_is)
    (case a6 => k_is)
    (case l6 => k_is)
    (case c6 => k_is)
    (case k6 => k_is)
    (case a7 => k_is)
    (case l7 => k_is)
    (case c7 => k_is)
    (case k7 => k_is)
    (case a8 => k_is)
    (case l8 => k_is)
    (case c8 => k_is)
    (case k8 => k_is)
    (case aD => k_is)
    (case T0 => refine' E.cf_mk ?q1 ?q2 ?q3 ?q4 ?q5 ?q6 ?q7 ?q8 ?q9 ?q10 ?q11 ?q12 ?q13; (case q1 => k_is); (case q2 => kx_is); (case q3 => kx_is); (case q4 => k_is); (case q5 => k_is); (case q6 => k_is); (case q7 => k_is); (case q8 => k_is); (case q9 => k_is); (case q10 => k_is); (case q11 => k_is); (case q12 => k_is); (case q13 => rfl))
    (case T1 => refine' E.cf_mk ?q1 ?q2 ?q3 ?q4 ?q5 ?q6 ?q7 ?q8 ?q9 ?q10 ?q11 ?q12 ?q13; (case q1 => k_is); (case q2 => kx_is); (case q3 => kx_is); (case q4 => k_is); (case q5 => k_is); (case q6 => k_is); (case q7 => k_is); (case q8 => k_is); (case q9 => k_is); (case q10 => k_is); (case q11 => k_is); (case q12 => k_is); (case q13 => rfl))
    (case T2 => refine' E.cf_mk ?q1 ?q2 ?q3 ?q4 ?q5 ?q6 ?q7 ?q8 ?q9 ?q10 ?q11 ?q12 ?q13; (case q1 => k_is); (case q2 => kx_is); (case q3 => kx_is); (case q4 => k_is); (case q5 => k_is); (case q6 => k_is); (case q7 => k_is); (case q8 => k_is); (case q9 => k_is); (case q10 => k_is); (case q11 => k_is); (case q12 => k_is); (case q13 => rfl))
    (case T3 => refine' E.cf_mk ?q1 ?q2 ?q3 ?q4 ?q5 ?q6 ?q7 ?q8 ?q9 ?q10 ?q11 ?q12 ?q13; (case q1 => k_is); (case q2 => kx_is); (case q3 => kx_is); (case q4 => k_is); (case q5 => k_is); (case q6 => k_is); (case q7 => k_is); (case q8 => k_is); (case q9 => k_is); (case q10 => k_is); (case q11 => k_is); (case q12 => k_is); (case q13 => rfl))
    (case T4 => refine' E.cf_mk ?q1 ?q2 ?q3 ?q4 ?q5 ?q6 ?q7 ?q8 ?q9 ?q10 ?q11 ?q12 ?q13; (case q1 => k_is); (case q2 => kx_is); (case q3 => kx_is); (case q4 => k_is); (case q5 => k_is); (case q6 => k_is); (case q7 => k_is); (case q8 => k_is); (case q9 => k_is); (case q10 => k_is); (case q11 => k_is); (case q12 => k_is); (case q13 => rfl))
    (case T5 => refine' E.cf_mk ?q1 ?q2 ?q3 ?q4 ?q5 ?q6 ?q7 ?q8 ?q9 ?q10 ?q11 ?q12 ?q13; (case q1 => k_is); (case q2 => kx_is); (case q3 => kx_is); (case q4 => k_is); (case q5 => k_is); (case q6 => k_is); (case q7 => k_is); (case q8 => k_is); (case q9 => k_is); (case q10 => k_is); (case q11 => k_is); (case q12 => k_is); (case q13 => rfl))
    (case T6 => refine' E.cf_mk ?q1 ?q2 ?q3 ?q4 ?q5 ?q6 ?q7 ?q8 ?q9 ?q10 ?q11 ?q12 ?q13; (case q1 => k_is); (case q2 => kx_is); (case q3 => kx_is); (case q4 => k_is); (case q5 => k_is); (case q6 => k_is); (case q7 => k_is); (case q8 => k_is); (case q9 => k_is); (case q10 => k_is); (case q11 => k_is); (case q12 => k_is); (case q13 => rfl))
    (case T7 => refine' E.cf_mk ?q1 ?q2 ?q3 ?q4 ?q5 ?q6 ?q7 ?q8 ?q9 ?q10 ?q11 ?q12 ?q13; (case q1 => k_is); (case q2 => kx_is); (case q3 => kx_is); (case q4 => k_is); (case q5 => k_is); (case q6 => k_is); (case q7 => k_is); (case q8 => k_is); (case q9 => k_is); (case q10 => k_is); (case q11 => k_is); (case q12 => k_is); (case q13 => rfl))
    (case T8 => refine' E.cf_mk ?q1 ?q2 ?q3 ?q4 ?q5 ?q6 ?q7 ?q8 ?q9 ?q10 ?q11 ?q12 ?q13; (case q1 => k_is); (case q2 => kx_is); (case q3 => kx_is); (case q4 => k_is); (case q5 => k_is); (case q6 => k_is); (case q7 => k_is); (case q8 => k_is); (case q9 => k_is); (case q10 => k_is); (case q11 => k_is); (case q12 => k_is); (case q13 => rfl))
    (case T9 => refine' E.cf_mk ?q1 ?q2 ?q3 ?q4 ?q5 ?q6 ?q7 ?q8 ?q9 ?q10 ?q11 ?q12 ?q13; (case q1 => k_is); (case q2 => kx_is); (case q3 => kx_is); (case q4 => k_is); (case q5 => k_is); (case q6 => k_is); (case q7 => k_is); (case q8 => k_is); (case q9 => k_is); (case q10 => k_is); (case q11 => k_is); (case q12 => k_is); (case q13 => rfl))
    (case T10 => refine' E.cf_mk ?q1 ?q2 ?q3 ?q4 ?q5 ?q6 ?q7 ?q8 ?q9 ?q10 ?q11 ?q12 ?q13; (case q1 => k_is); (case q2 => kx_is); (case q3 => kx_is); (case q4 => k_is); (case q5 => k_is); (case q6 => k_is); (case q7 => k_is); (case q8 => k_is); (case q9 => k_is); (case q10 => k_is); (case q11 => k_is); (case q12 => k_is); (case q13 => rfl))
    (case T11 => refine' E.cf_mk ?q1 ?q2 ?q3 ?q4 ?q5 ?q6 ?q7 ?q8 ?q9 ?q10 ?q11 ?q12 ?q13; (case q1 => k_is); (case q2 => kx_is); (case q3 => kx_is); (case q4 => k_is); (case q5 => k_is); (case q6 => k_is); (case q7 => k_is); (case q8 => k_is); (case q9 => k_is); (case q10 => k_is); (case q11 => k_is); (case q12 => k_is); (case q13 => rfl))
    (case T12 => refine' E.cf_mk ?q1 ?q2 ?q3 ?q4 ?q5 ?q6 ?q7 ?q8 ?q9 ?q10 ?q11 ?q12 ?q13; (case q1 => k_is); (case q2 => kx_is); (case q3 => kx_is); (case q4 => k_is); (case q5 => k_is); (case q6 => k_is); (case q7 => k_is); (case q8 => k_is); (case q9 => k_is); (case q10 => k_is); (case q11 => k_is); (case q12 => k_is); (case q13 => rfl))
    (case T13 => refine' E.cf_mk ?q1 ?q2 ?q3 ?q4 ?q5 ?q6 ?q7 ?q8 ?q9 ?q10 ?q11 ?q12 ?q13; (case q1 => k_is); (case q2 => kx_is); (case q3 => kx_is); (case q4 => k_is); (case q5 => k_is); (case q6 => k_is); (case q7 => k_is); (case q8 => k_is); (case q9 => k_is); (case q10 => k_is); (case q11 => k_is); (case q12 => k_is); (case q13 => rfl))
    (case T14 => refine' E.cf_mk ?q1 ?q2 ?q3 ?q4 ?q5 ?q6 ?q7 ?q8 ?q9 ?q10 ?q11 ?q12 ?q13; (case q1 => k_is); (case q2 => kx_is); (case q3 => kx_is); (case q4 => k_is); (case q5 => k_is); (case q6 => k_is); (case q7 => k_is); (case q8 => k_is); (case q9 => k_is); (case q10 => k_is); (case q11 => k_is); (case q12 => k_is); (case q13 => rfl))
    (case T15 => refine' E.cf_mk ?q1 ?q2 ?q3 ?q4 ?q5 ?q6 ?q7 ?q8 ?q9 ?q10 ?q11 ?q12 ?q13; (case q1 => k_is); (case q2 => kx_is); (case q3 => kx_is); (case q4 => k_is); (case q5 => k_is); (case q6 => k_is); (case q7 => k_is); (case q8 => k_is); (case q9 => k_is); (case q10 => k_is); (case q11 => k_is); (case q12 => k_is); (case q13 => rfl))
    (case T16 => refine' E.cf_mk ?q1 ?q2 ?q3 ?q4 ?q5 ?q6 ?q7 ?q8 ?q9 ?q10 ?q11 ?q12 ?q13; (case q1 => k_is); (case q2 => kx_is); (case q3 => kx_is); (case q4 => k_is); (case q5 => k_is); (case q6 => k_is); (case q7 => k_is); (case q8 => k_is); (case q9 => k_is); (case q10 => k_is); (case q11 => k_is); (case q12 => k_is); (case q13 => rfl))
    (case T17 => refine' E.cf_mk ?q1 ?q2 ?q3 ?q4 ?q5 ?q6 ?q7 ?q8 ?q9 ?q10 ?q11 ?q12 ?q13; (case q1 => k_is); (case q2 => kx_is); (case q3 => kx_is); (case q4 => k_is); (case q5 => k_is); (case q6 => k_is); (case q7 => k_is); (case q8 => k_is); (case q9 => k_is); (case q10 => k_is); (case q11 => k_is); (case q12 => k_is); (case q13 => rfl))
    (case T18 => refine' E.cf_mk ?q1 ?q2 ?q3 ?q4 ?q5 ?q6 ?q7 ?q8 ?q9 ?q10 ?q11 ?q12 ?q13; (case q1 => k_is); (case q2 => kx_is); (case q3 => kx_is); (case q4 => k_is); (case q5 => k_is); (case q6 => k_is); (case q7 => k_is); (case q8 => k_is); (case q9 => k_is); (case q10 => k_is); (case q11 => k_is); (case q12 => k_is); (case q13 => rfl))
    (case T19 => refine' E.cf_mk ?q1 ?q2 ?q3 ?q4 ?q5 ?q6 ?q7 ?q8 ?q9 ?q10 ?q11 ?q12 ?q13; (case q1 => k_is); (case q2 => kx_is); (case q3 => kx_is); (case q4 => k_is); (case q5 => k_is); (case q6 => k_is); (case q7 => k_is); (case q8 => k_is); (case q9 => k_is); (case q10 => k_is); (case q11 => k_is); (case q12 => k_is); (case q13 => rfl))
    (case T20 => refine' E.cf_mk ?q1 ?q2 ?q3 ?q4 ?q5 ?q6 ?q7 ?q8 ?q9 ?q10 ?q11 ?q12 ?q13; (case q1 => k_is); (case q2 => kx_is); (case q3 => kx_is); (case q4 => k_is); (case q5 => k_is); (case q6 => k_is); (case q7 => k_is); (case q8 => k_is); (case q9 => k_is); (case q10 => k_is); (case q11 => k_is); (case q12 => k_is); (case q13 => rfl))
    (case jn0 => k_is)
    (case ji0 => k_is)
    (case jt0 => k_is)
    (case jl0 => k_is)
    (case jc0 => k_is)
    (case jk0 => k_is)
    (case jn1 => k_is)
    (case ji1 => k_is)
    (case jt1 => k_is)
    (case jl1 => k_is)
    (case jc1 => k_is)
    (case jk1 => k_is)
    (case jn2 => k_is)
    (case ji2 => k_is)
    (case jt2 => k_is)
    (case jl2 => k_is)
    (case jc2 => k_is)
    (case jk2 => k_is)
    (case jn3 => k_is)
    (case ji3 => k_is)
    (case jt3 => k_is)
    (case jl3 => k_is)
    (case jc3 => k_is)
    (case jk3 => k_is)
    (case jn4 => k_is)
    (case ji4 => k_is)
    (case jt4 => k_is)
    (case jl4 => k_is)
    (case jc4 => k_is)
    (case jk4 => k_is)
    (case jn5 => k_is)
    (case ji5 => k_is)
    (case jt5 => k_is)
    (case jl5 => k_is)
    (case jc5 => k_is)
    (case jk5 => k_is)
    (case jn6 => k_is)
    (case ji6 => k_is)
    (case jt6 => k_is)
    (case jl6 => k_is)
    (case jc6 => k_is)
    (case jk6 => k_is)
    (case jn7 => k_is)
    (case ji7 => k_is)
    (case jt7 => k_is)
    (case jl7 => k_is)
    (case jc7 => k_is)
    (case jk7 => k_is)
    (case jn8 => k_is)
    (case ji8 => k_is)
    (case jt8 => k_is)
    (case jl8 => k_is)
    (case jc8 => k_is)
    (case jk8 => k_is)
    (case jn9 => k_is)
    (case ji9 => k_is)
    (case jt9 => k_is)
    (case jl9 => k_is)
    (case jc9 => k_is)
    (case jk9 => k_is)
    (case jn10 => k_is)
    (case ji10 => k_is)
    (case jt10 => k_is)
    (case jl10 => k_is)
    (case jc10 => k_is)
    (case jk10 => k_is)
    (case jn11 => k_is)
    (case ji11 => k_is)
    (case jt11 => k_is)
    (case jl11 => k_is)
    (case jc11 => k_is)
    (case jk11 => k_is)
    (case jn12 => k_is)
    (case ji12 => k_is)
    (case jt12 => k_is)
    (case jl12 => k_is)
    (case jc12 => k_is)
    (case jk12 => k_is)
    (case jn13 => k_is)
    (case ji13 => k_is)
    (case jt13 => k_is)
    (case jl13 => k_is)
    (case jc13 => k_is)
    (case jk13 => k_is)
    (case jn14 => k_is)
    (case ji14 => k_is)
    (case jt14 => k_is)
    (case jl14 => k_is)
    (case jc14 => k_is)
    (case jk14 => k_is)
    (case jn15 => k_is)
    (case ji15 => k_is)
    (case jt15 => k_is)
    (case jl15 => k_is)
    (case jc15 => k_is)
    (case jk15 => k_is)
    (case jn16 => k_is)
    (case ji16 => k_is)
    (case jt16 => k_is)
    (case jl16 => k_is)
    (case jc16 => k_is)
    (case jk16 => k_is)
    (case jn17 => k_is)
    (case ji17 => k_is)
    (case jt17 => k_is)
    (case jl17 => k_is)
    (case jc17 => k_is)
    (case jk17 => k_is)
    (case jn18 => k_is)
    (case ji18 => k_is)
    (case jt18 => k_is)
    (case jl18 => k_is)
    (case jc18 => k_is)
    (case jk18 => k_is)
    (case jb19 => k_is)
    (case jb20 => k_is)
    (case z_enumerate => k_is)
    (case z_int => k_is)
    (case z_isinstance => k_is)
    (case z_len => k_is)
    (case z_max => k_is)
    (case z_min => k_is)
    (case z_range => k_is)
    (case z_str => k_is)
    (case hsp => k_is)
    (case htk => k_is)
    (case dty => k_is)
    (case dex => k_is)
    (case dhd => k_is)
    (case hnd => decide)
