import PyProof.Rows.All
import Wide.All
import OpenK.AllK
import Wide.FinOn
import HandS.Base
import HandS.Call
import HandS.List
import HandS.Iter
import KE.GoesEnum
import HandS.Exc
import HandS.ExcInit
import HandS.ExcIs
import HandS.IsInst
import HandS.ForMost
import HandS.ExcValue
import KE.KExcIs
import HandS.Defaults
import HandS.TupLe
import HandS.Zip
import HandS.Walk
import HandS.More
import HandS.NoneIn
import PySem.Challenge.RW_makerlines_k01_errors_made
set_option Elab.async false
set_option linter.all false
set_option maxRecDepth 100000
set_option maxHeartbeats 4000000
/-! enumerate of a tuple -/
namespace MK
open PySem PySem.Spec PyProof.Rows L2

/-- the tuple at a as it stands at each turn, each item in a new pair -/
def IteT (K : PySem.W.Frag) (a : Addr) : It :=
  ⟨fun i H => ∃ (xs : List V) (x : V), SqT K H a xs ∧ xs[i]? = some x, fun i H v H' => ∃ T x, v = .ref T ∧ H T = none ∧ H' = upd H T (.tup [.int (i : Nat), x]) ∧ ∀ xs, SqT K H a xs → xs[i]? = some x, fun i H => ∃ xs : List V, SqT K H a xs ∧ xs.length ≤ i⟩
theorem turn_enumT {P : Program} {w : World} {K : PySem.W.Frag} {elts : List Expr} {kk : Nat} {tpos : Pos} (a e it : Addr) :
    Turn P w K (.Tuple elts kk tpos) (IteT K a) [e, it] e (fun i h => (∃ old, IsEnum h e it ((i : Nat) : Int) old) ∧ h.IsTupleIter it a i ∧ e ≠ it ∧ a ≠ it ∧ a ≠ e) where
  mem := by simp
  obj := fun i h st b hb => by
    obtain ⟨⟨old, he⟩, ⟨o, ho, hc, hd⟩, _⟩ := st
    have e' : b = e ∨ b = it := by simpa using hb
    rcases e' with z | z
    · rw [z]; exact ⟨_, he, fun v q => nomatch q⟩
    · rw [z]; exact ⟨o, ho, fun v q => by rw [hd] at q; cases q⟩
  keep := fun i h h' st k => let ⟨⟨old, he⟩, hi, hne⟩ := st; ⟨⟨old, k e (by simp) _ he⟩, hi.at fun o q => k it (by simp) o q, hne⟩
  item := by
    intro X hP hw hK hc i pins s σ H E I hf st hg
    subst hP hw hK
    obtain ⟨⟨old, he⟩, hit, hne, hai, hae⟩ := st
    obtain ⟨xs, x, hq, hx⟩ := hg
    obtain ⟨its, rv, p, hz⟩ := I.tuple hq
    obtain ⟨u, hu, ru⟩ := rv.get hx
    have hel : e < s.heap.objs.size := Heap.lt_size he
    have hil : it < s.heap.objs.size := by obtain ⟨_, q, _⟩ := hit; exact Heap.lt_size q
    have D := Draws.tuple (prog := X.prog) (w := X.w) (A := X.A.in1) (show X.A.in1.handled = none from I.ok.hd hc) it a hai its.toArray
    have hsz : i < its.toArray.size := by
      have := (List.getElem?_eq_some_iff.mp hu).1
      simpa using this
    refine wpAny_pyNext_enum_itemD D he ⟨hit, p⟩ hsz hne (by simp [hne, Ne.symm hae]) fun v h' tk hv ho st' hT hsz' hk => ?_
    have hv : its.toArray[i]? = some v := hv
    have ev : v = u := by
      have hu' : its.toArray[i]? = some u := by simpa using hu
      rw [hu'] at hv
      exact (Option.some.inj hv).symm
    subst ev
    refine ⟨_, rfl, wpAny_letOwnedTupleGo_enum (s := { s with heap := h', toks := tk + 1 }) ho fun h'' he' sb => ?_⟩
    have hT2 : h''.get? s.heap.objs.size = some { cls := .type "tuple", data := .seq #[.int i tk, v] } := (sb.2 _ (Nat.ne_of_gt hel)).trans hT
    have new : ObjOk X.prog X.w (upd H s.heap.objs.size (.tup [.int (i : Nat), x])) h'' s.heap.objs.size (.tup [.int (i : Nat), x]) :=
      ⟨by show 2 ≤ sizeLine; decide, [.int i tk, v], .cons ⟨_, rfl⟩ (.cons ru .nil), ⟨_, hT2, rfl, _, rfl⟩⟩
    have I1 : Inv X pins σ (upd H s.heap.objs.size (.tup [.int (i : Nat), x])) { s with heap := h'', toks := tk + 1 } :=
      I.turnedNew (ch := [e, it]) (fun b ob hb q => (sb.2 b (fun z => hb (by simp [z]))).trans (hk b ob (fun z => hb (by simp [z])) (fun z => hb (by simp [z])) q)) hf (Nat.le_refl _) new
    refine ⟨.ref s.heap.objs.size, _, I1, rfl, ⟨_, x, rfl, I.hok.fresh (Nat.le_refl _), rfl, fun ys hy => by rw [I.tuple_inj hy hq]; exact hx⟩, ⟨⟨v, ?_⟩, st'.1.at fun o q => (sb.2 it (Ne.symm hne)).trans q, hne, hai, hae⟩, fun b hb => ?_⟩
    · have e1 : ((i + 1 : Nat) : Int) = (i : Int) + 1 := by omega
      rw [e1]; exact he'
    · have hb' : b < s.heap.objs.size := by
        have e' : b = e ∨ b = it := by simpa using hb
        rcases e' with z | z
        · rw [z]; exact hel
        · rw [z]; exact hil
      rw [upd_ne (Nat.ne_of_lt hb')]
      exact (hf b hb).1
  done := by
    intro X hP hw hK hc i pins s σ H E I hf st hg
    subst hP hw hK
    obtain ⟨⟨old, he⟩, hit, hne, hai, hae⟩ := st
    obtain ⟨xs, hq, hx⟩ := hg
    obtain ⟨its, rv, p, hz⟩ := I.tuple hq
    obtain ⟨f0, f1, f2, f3, f4, f5⟩ := hf it (by simp)
    have hl := rv.length
    have D : Draws X.prog X.w X.A.in1 it [it, a] i (fun _ _ => False) (fun j h => j = i ∧ h.IsTupleIter it a i ∧ IsTup h a its.toArray) :=
      { live := fun _ _ st => let ⟨_, ⟨o, ho, _⟩, _⟩ := st; ⟨o, ho⟩
        frame := fun _ _ _ st hk => ⟨st.1, st.2.1.at fun o e => hk it (by simp) o e, by
          obtain ⟨o, ho, r⟩ := st.2.2
          exact ⟨o, hk a (by simp) o ho, r⟩⟩
        item := fun j s Q E hi st hQ => absurd st.1 (Nat.ne_of_lt hi)
        done := fun s Q E st hE => wpAny_nextOf_tuple_end (show X.A.in1.handled = none from I.ok.hd hc) st.2.1 st.2.2 (by simp; omega) hE }
    exact wpAny_pyNext_enum_endD D he ⟨rfl, hit, p⟩ fun h' eb => ⟨rfl, I.turned (t' := s.toks) (fun b o hb q => eb b o hb q) f0 f1 f3 f4 f5⟩
  self := fun A i s Q E st h => let ⟨⟨_, he⟩, _⟩ := st; wpAny_pyIter_enum he h
def iEnumT (K : PySem.W.Frag) (ta : TA) : TI := fun σ H R => ta σ H fun vs H1 => ∃ a xs, vs = [.ref a] ∧ SqT K H1 a xs ∧ R (IteT K a) H1
theorem boot_enumerate' : bootBuiltins "enumerate" = some (.type "enumerate") := by decide +kernel
theorem meets_enum1 {v : Value} {o : Obj} {H : Heap → Prop} (B : Begins v o H) :
    Meets (Builtin.«enumerate.__new__» ⟨[.type "enumerate", v], []⟩) (fun _ R s => H s.heap ∧
      R (.ok (.ret (.ref (s.heap.push o).objs.size))) { s with heap := (s.heap.push o).push { cls := .type "enumerate", data := .fields #[.none, .bool false, .ref s.heap.objs.size, rawInt 0, .none, .none] } }) :=
  .of_wp fun prog w A R s h => by
    obtain ⟨hp, g, d, tk, os⟩ := s; obtain ⟨h1, h⟩ := h
    have hsub := sub_enumerate
    have it : ∀ {A' : Around} {E : Value → Shared → Prop} {Q : Value → Shared → Prop}, Q (.ref hp.objs.size) ⟨hp.push o, g, d, tk, os⟩ → wpAny (model prog w) A' (pyIter v) Q E ⟨hp, g, d, tk, os⟩ :=
      fun q => B.iter prog w _ _ ⟨hp, g, d, tk, os⟩ _ h1 q
    wp_walk using it
    refine wpAny_stack_any fun st => wpAny_pure ?_
    split
    · rename_i c _ _ _ _ _
      cases (c == Value.type "enumerate") <;> (wp_walk using it; exact ⟨_, rfl, h⟩)
    · wp_walk using it
      exact ⟨_, rfl, h⟩
theorem call_enumerate_tuple {prog : Program} {w : World} {A : Around} {E : Value → Shared → Prop} {s : Shared} {l : Addr} {items : Array Value} {Q : Value → Shared → Prop} (hL : IsTup s.heap l items)
    (h : ∀ h', IsEnum h' (s.heap.objs.size + 1) s.heap.objs.size 0 .none → h'.IsTupleIter s.heap.objs.size l 0 → h'.objs.size = s.heap.objs.size + 2 →
      (∀ b o, s.heap.get? b = some o → h'.get? b = some o) → Q (.ref (s.heap.objs.size + 1)) { s with heap := h' }) :
    wpAny (model prog w) A (call (.type "enumerate") [.ref l]) Q E s := by
  have B := begins_tuple l items
  refine callType_new F.called_enumerate (by decide) (F.typeCall_enumerate_1 _) (F.newCall_enumerate_1 _) (fun obj => F.args_object_init_2 obj _) F.entry_enumerate_new (meets_enum1 B) ⟨hL, ?_⟩
  let o : Obj := { cls := .type "tuple_iterator", data := .fields #[.ref l, .int 0 0] }
  have hz : (s.heap.push o).objs.size = s.heap.objs.size + 1 := Heap.size_push ..
  show _ ∧ _
  rw [hz]
  have he : IsEnum ((s.heap.push o).push { cls := .type "enumerate", data := .fields #[.none, .bool false, .ref s.heap.objs.size, rawInt 0, .none, .none] }) (s.heap.objs.size + 1) s.heap.objs.size 0 .none := by
    have q := Heap.get?_push_size (s.heap.push o) (o := { cls := .type "enumerate", data := .fields #[.none, .bool false, .ref s.heap.objs.size, rawInt 0, .none, .none] }) rfl
    rw [hz] at q; exact q
  exact ⟨⟨_, he, rfl⟩, h _ he ⟨_, Heap.get?_push_of_some _ (Heap.get?_push_size _ rfl), rfl, rfl⟩ (by rw [Heap.size_push, hz]) fun b o x => Heap.get?_push_of_some _ (Heap.get?_push_of_some _ x)⟩
theorem pi_enumT {X : Cx} {e : Expr} {ta : TA} {p pos tpos : Pos} {elts : List Expr} {kk : Nat} (hg : Gl X "enumerate") (hm : X.mg "enumerate" = none) (ha : PA X [e] ta) (hs : starEach [e] X.env = [(false, eval e X.env)] := by rfl) :
    PI X (.Tuple elts kk tpos) (.Call (.Name "enumerate" p) [e] [] pos) (iEnumT X.K ta) := by
  refine ⟨fun pins s σ H R I h => ?_⟩
  refine Call_ (ld_blt I hg hm boot_enumerate' (PyProof.Rows.callWith_type1 (thn (ha.run pos pins s σ H _ I h) fun us s1 ⟨vs, H1, I1, r1, q1⟩ => ?_) hs rfl))
  obtain ⟨a, xs, ex, hq, q⟩ := q1
  subst ex
  cases r1 with
  | cons r rr =>
    cases rr
    cases r
    obtain ⟨its, rv, p', hz⟩ := I1.tuple hq
    have hal : a < s1.heap.objs.size := by obtain ⟨_, q, _⟩ := p'; exact Heap.lt_size q
    refine call_enumerate_tuple p' fun h' he hit hsz hk => wpAny_pyIter_enum he ?_
    have I2 : Inv X pins σ H1 { s1 with heap := h' } := I1.kept (t' := s1.toks) hk
    refine ⟨s1.heap.objs.size + 1, [s1.heap.objs.size + 1, s1.heap.objs.size], _, _, H1, rfl, I2, turn_enumT a (s1.heap.objs.size + 1) s1.heap.objs.size, ⟨⟨.none, he⟩, hit, Nat.succ_ne_self _, Nat.ne_of_lt hal, Nat.ne_of_lt (Nat.lt_succ_of_lt hal)⟩, fun b hb => ?_, q⟩
    have e' : b = s1.heap.objs.size + 1 ∨ b = s1.heap.objs.size := by simpa using hb
    have hle : s1.heap.objs.size ≤ b := by
      rcases e' with z | z
      · rw [z]; exact Nat.le_add_right _ _
      · rw [z]; exact Nat.le_refl _
    exact I1.fpOk hle (I1.hok.fresh hle)
end MK
set_option Elab.async false
set_option linter.all false
set_option maxRecDepth 100000
set_option maxHeartbeats 4000000
/-! errors as values: made by place and by name, read, asked for their class -/
namespace MK
open PySem PySem.Spec PyProof.Rows PySem.HandSPX
open PySem.W (Looks)
section
variable {prog : Program} {w : World} {M : Model} {A : Around} {E : Value → Shared → Prop} {R : Result → Shared → Prop} {h : Heap} {g : Array GenState} {d : Drawn} {t : Nat} {os : OsState}
variable {nm q : Str} {C N : Addr} {bs bm bmB : List Value} {hdct : Bool} {sn : List Str} {sub : List Value} {ab : Bool} {col : Option Bool} {dd : Option Addr} {k0 k1 k2 k3 k5 : Option Value} {B newId initId : String}

theorem check_newK (F : ExcBaseFacts B newId initId bmB) (hT : ∀ X : String, bm.contains (.type X) = bmB.contains (.type X)) {rest : List Value} {kw : List (Str × Value)} {Q : Unit → Shared → Prop}
    (hC : h.get? C = some (excClassObj nm q C N bs bm hdct sn sub ab col dd k0 k1 k2 k3 k5 newId)) (hq : Q () ⟨h, g, d, t, os⟩) : wpAny M A (checkBuiltinCall newId ⟨.ref C :: rest, kw⟩) Q E ⟨h, g, d, t, os⟩ := by
  have hB : (Value.ref C :: bm).contains (.type B) = true := by rw [List.contains_cons, hT, F.hasB, Bool.or_true]
  have hs := F.noStar
  simp only [checkBuiltinCall, F.newKind, F.newSplit, F.newRow]
  repeat (first | refine wpAny_loadPart_at hC ?_ | (refine wpAny_isSubtype_exc hC ?_; rw [hB]) | refine wpAny_staticBase_exc hC ?_ | refine wpAny_madeBy_exc hC ?_ | simp only [bne_self_eq_false, Bool.false_eq_true, if_false] | wp_step)
  exact hq
theorem newK (F : ExcBaseFacts B newId initId bmB) (hT : ∀ X : String, bm.contains (.type X) = bmB.contains (.type X)) {rest : List Value} {kw : List (Str × Value)}
    (hC : h.get? C = some (excClassObj nm q C N bs bm hdct sn sub ab col dd k0 k1 k2 k3 k5 newId))
    (hq : R (.ok (.ret (.ref (h.objs.size + 1)))) ⟨(h.push (W.kdv_tup rest)).push (excO C h.objs.size), g, d, t, os⟩) (hrest : rest.length ≤ sizeLine) :
    codeAny (model prog w) A (.builtin newId ⟨.ref C :: rest, kw⟩) R ⟨h, g, d, t, os⟩ := by
  have he := F.ends
  have cB : (Value.ref C :: bm).contains (.type B) = true := by rw [List.contains_cons, hT, F.hasB, Bool.or_true]
  have cA : (Value.ref C :: bm).contains (.type "AttributeError") = false := by rw [List.contains_cons, hT, F.noAttr]; rfl
  have cN : (Value.ref C :: bm).contains (.type "NameError") = false := by rw [List.contains_cons, hT, F.noName]; rfl
  refine codeAny_builtinAt F.entry ?_
  unfold Builtin.«BaseException.__new__»
  refine PySem.wpAt_bind ?_
  show PySem.wpAt _ _ _ (stack >>= _) _ _ _
  refine PySem.wpAt_bind (PySem.wpAt_stack fun p below => PySem.wpAt_of_wpAny ?_)
  wp_walk
  refine PySem.wpAt_of_wpAny ?_
  rw [F.owner]
  repeat (first | with_reducible refine wpAny_madeHere_exc F.canon hC ?_ | with_reducible refine wpAny_loadPart_at hC ?_ | (with_reducible refine wpAny_isSubtype_exc hC ?_; first | rw [cB] | rw [cA] | rw [cN]) | wp_step)
  show R _ _
  rw [Heap.size_push]
  exact hq
theorem type_callK (F : ExcBaseFacts B newId initId bmB) (hT : ∀ X : String, bm.contains (.type X) = bmB.contains (.type X)) {rest : List Value} {kw : List (Str × Value)} {fI : Addr} {Q : Fin → Shared → Prop}
    (hC : h.get? C = some (excClassObj nm q C N bs bm hdct sn sub ab col dd k0 k1 k2 k3 k5 newId))
    (hi : Looks (model prog w) h (typeLookup (.ref C) "__init__") (some (.ref fI))) (hb : ∀ self, Looks (model prog w) h (bindSpecial (.ref fI) self) (.ref fI, [self])) (hrest : rest.length ≤ sizeLine)
    (hq : codeAny (model prog w) A (.call (.ref fI) ⟨.ref (h.objs.size + 1) :: rest, kw⟩)
      (fun r s' => match r with | .ok (.ret v) => v = .none ∧ Q (.done (.ret (.ref (h.objs.size + 1)))) s' | .ok _ => False | .error e => E e s')
      ⟨(h.push (W.kdv_tup rest)).push (excO C h.objs.size), g, d, t, os⟩) :
    wpAny (model prog w) A (Builtin.«type.__call__» ⟨.ref C :: rest, kw⟩) Q E ⟨h, g, d, t, os⟩ := by
  repeat (first | with_reducible refine wpAny_loadPart_at hC ?_ | with_reducible refine wpAny_madeBy_exc hC ?_ | wp_step)
  refine codeAny_call_builtin_code (Code.quiet_builtin _ F.quiet) (check_newK F hT hC ?_)
  refine newK F hT hC ?_ hrest
  show wpAny _ _ _ _ _ _
  have kp : ∀ b o, h.get? b = some o → ((h.push (W.kdv_tup rest)).push (excO C h.objs.size)).get? b = some o := fun b o e => Heap.get?_push_of_some _ (Heap.get?_push_of_some _ e)
  have C1 := kp _ _ hC
  have hg : ((h.push (W.kdv_tup rest)).push (excO C h.objs.size)).get? (h.objs.size + 1) = some (excO C h.objs.size) := by heap_get
  have cC : (Value.ref C :: bm).contains (.ref C) = true := by simp
  have i1 := hi.keeps kp
  have b1 := (hb (.ref (h.objs.size + 1))).keeps kp
  unfold isInstance
  repeat (first | with_reducible refine wpAny_loadPart_at hg ?_ | (with_reducible refine wpAny_isSubtype_exc C1 ?_; rw [cC]) | wp_step)
  show wpAny _ _ (typeLookup (.ref C) _) _ _ _
  refine i1.at ?_
  refine wpAny_holding (wpAny_bind (b1.at ?_))
  refine wpAny_bind (wpAny_call (codeAny_mono hq fun r s' z => ?_))
  rcases r with e | (v | _ | _ | _) <;> first | exact z | exact z.elim | skip
  obtain ⟨rfl, z⟩ := z
  first
    | exact wpAny_pure (wpAny_pure z)
    | (wp_walk; exact z)
theorem check_tcK {rest : List Value} {kw : List (Str × Value)} {Q : Unit → Shared → Prop} (hC : h.get? C = some (excClassObj nm q C N bs bm hdct sn sub ab col dd k0 k1 k2 k3 k5 newId))
    (hq : Q () ⟨h, g, d, t, os⟩) : wpAny M A (checkBuiltinCall "type.__call__" ⟨.ref C :: rest, kw⟩) Q E ⟨h, g, d, t, os⟩ := by
  have f3 := tc_sub
  have hT : (⟨h, g, d, t, os⟩ : Shared).TypeIs (.ref C) "type" := ⟨_, hC, rfl⟩
  simp only [checkBuiltinCall, tc_kind, tc_split]
  repeat (any_goals (first | assumption | with_reducible refine wpAny_loadPart_at hC ?_ | with_reducible refine wpAny_onRaise ?_ | with_reducible refine wpAny_map ?_ | wp_step))
theorem callK (F : ExcBaseFacts B newId initId bmB) (hT : ∀ X : String, bm.contains (.type X) = bmB.contains (.type X)) {rest : List Value} {kw : List (Str × Value)} {fI : Addr}
    (hC : h.get? C = some (excClassObj nm q C N bs bm hdct sn sub ab col dd k0 k1 k2 k3 k5 newId))
    (hi : Looks (model prog w) h (typeLookup (.ref C) "__init__") (some (.ref fI))) (hb : ∀ self, Looks (model prog w) h (bindSpecial (.ref fI) self) (.ref fI, [self])) (hrest : rest.length ≤ sizeLine)
    (hq : codeAny (model prog w) (A.under (.builtin "type.__call__" ⟨.ref C :: rest, kw⟩)) (.call (.ref fI) ⟨.ref (h.objs.size + 1) :: rest, kw⟩) (W.InitBack (h.objs.size + 1) R)
      ⟨(h.push (W.kdv_tup rest)).push (excO C h.objs.size), g, d, t, os⟩) :
    codeAny (model prog w) A (.call (.ref C) ⟨rest, kw⟩) R ⟨h, g, d, t, os⟩ := by
  have f1 := tc_lookup
  have f2 := tc_bind (.ref C)
  have hTy : (⟨h, g, d, t, os⟩ : Shared).TypeIs (.ref C) "type" := ⟨_, hC, rfl⟩
  refine codeAny_of_tree ?_
  show wpAny _ _ (callAny (.ref C) _) _ _ _
  repeat (any_goals (first | assumption | with_reducible refine wpAny_loadPart_at hC ?_ | wp_step))
  refine ⟨rfl, ?_⟩
  refine codeAny_call_builtin_at (Code.quiet_builtin _ (by decide +kernel)) entry_typeCall (check_tcK hC (type_callK F hT hC hi hb hrest ?_))
  refine codeAny_mono hq fun r s' z => ?_
  rcases r with e | (v | _ | _ | _) <;> exact z
end
end MK
set_option Elab.async false
set_option linter.all false
set_option maxRecDepth 100000
set_option maxHeartbeats 4000000
/-! errors as values: made by place and by name, read, asked for their class -/
namespace MK
open PySem PySem.Spec PyProof.Rows L2
/-- an error's class over ValueError whose __init__ is the def at fI -/
structure ErrC (K : PySem.W.Frag) (C fI : Addr) : Prop where
  cls : OexC K C
  ini : PySem.W.findIn K (.ref C) "__init__" = some (some (.ref fI))
  fn : PySem.W.typeIn K (.ref fI) = some (.type "function")
/-- C(e, .., k = v, ..) as a value -/
def tErr (C : Addr) (n m : Nat) (sp : Sp) (gV : List V → List V → List V) (E : XK) (t tk : TA) : TE := fun σ H Q => t σ H fun vs H1 => tk σ H1 fun zs H2 => vs.length = n ∧ zs.length = m ∧
  ∀ a, H2 a = none → sp (gV (.ref a :: vs) zs) (upd H2 a (exo a C none)) (fun v H3 => v = .non ∧ Q (.ref a) H3) E
section
variable {X : Cx} {CX : CXT} {k n : Nat} {f C : Addr} {fd : FuncData} {ps ks : List Str} {sp : Sp} {E : XK} {x : Str} {p pos : Pos} {e : Expr} {es : List Expr} {kws : List Keyword} {t tk : TA} {g : List Value → List Value → List Value} {gV : List V → List V → List V}
theorem run_err {pins : List (Addr × Obj)} {σ : L2.St} {H : Hp} {s : Shared} {Q : VK} {us ws : List Value} {vs zs : List V} (T : ErrC X.K C f) (F : FnOk X.prog X.w X.K X.mg X.base CX k f fd ps sp) (hr : Room (k + 1) X.A) (hb : KBn X.K fd ps (n + 1) ks g gV) (hx : Passes CX X E)
    (I : Inv X pins σ H s) (r : Vals vs us) (rz : Vals zs ws) (l1 : vs.length = n) (l2 : zs.length = ks.length) (hn : n ≤ 1000)
    (h : ∀ a, H a = none → sp (gV (.ref a :: vs) zs) (upd H a (exo a C none)) (fun v H2 => v = .non ∧ Q (.ref a) H2) E) :
    wpAny (model X.prog X.w) X.A (call (.ref C) us (ks.zip ws)) (EP X pins σ Q) X.xe s := by
  obtain ⟨nm, q, N, bs, bm, sn, sub, ab, col, dd, k0, k1, k2, k3, k5, hC, hbm⟩ := T.cls.cls
  obtain ⟨hp, g0, dr, tk, os⟩ := s
  have hsz : hp.objs.size ≤ hp.objs.size + 1 := Nat.le_succ _
  have hq := h (hp.objs.size + 1) (I.hok.fresh hsz)
  have kk : ∀ b o, hp.get? b = some o → ((hp.push (PySem.W.kdv_tup us)).push (PySem.HandSPX.excO C hp.objs.size)).get? b = some o := fun b o e => Heap.get?_push_of_some _ (Heap.get?_push_of_some _ e)
  have hget : ((hp.push (PySem.W.kdv_tup us)).push (PySem.HandSPX.excO C hp.objs.size)).get? (hp.objs.size + 1) = some (PySem.HandSPX.excO C hp.objs.size) := by heap_get
  have I2 : Inv X pins σ (upd H (hp.objs.size + 1) (exo (hp.objs.size + 1) C none)) ⟨(hp.push (PySem.W.kdv_tup us)).push (PySem.HandSPX.excO C hp.objs.size), g0, dr, tk, os⟩ :=
    I.laid (t' := tk) (a := hp.objs.size + 1) (o := exo (hp.objs.size + 1) C none) (h' := (hp.push (PySem.W.kdv_tup us)).push (PySem.HandSPX.excO C hp.objs.size)) kk hsz (exo_ok hget)
  have r1 : Vals (V.ref (hp.objs.size + 1) :: vs) (Value.ref (hp.objs.size + 1) :: us) := .cons rfl r
  have r2 := hb.rel r1 rz
  have n1 : (Value.ref (hp.objs.size + 1) :: us).length = n + 1 := by rw [List.length_cons, ← r.length, l1]
  have hus : us.length ≤ sizeLine := by
    rw [← r.length, l1, sizeLine_eq]
    omega
  refine wpAny_call (callK PySem.F.excBase_ValueError (fun Y => PySem.HandSPX.refsVE_contains Y bm hbm) (I.kIn _ _ hC) (PySem.W.looks_findIn I.kIn T.ini) (fun self => PySem.W.bind_fn I.kIn self T.fn) hus
    (codeAny_mono (F.run _ X.stack _ _ ⟨Value.ref (hp.objs.size + 1) :: us, ks.zip ws⟩ (g (Value.ref (hp.objs.size + 1) :: us) ws) _ _ E (hr.make C us (ks.zip ws)) (I2.env0.make C us (ks.zip ws))
      (hb.to _ (Value.ref (hp.objs.size + 1) :: us) ws I2.kIn n1 (rz.length.symm.trans l2)) r2 hq) fun r s' hq' => ?_))
  cases r with
  | error e => exact hx pins σ _ _ e s' I2 hq'
  | ok fl =>
    cases fl with
    | ret u =>
      obtain ⟨v, H', I3, rv, ev, q3⟩ := I2.after hq'
      subst ev
      exact ⟨rv, ⟨V.ref (hp.objs.size + 1), H', I3, rfl, q3⟩⟩
    | next => exact False.elim hq'
    | brk => exact False.elim hq'
    | cont => exact False.elim hq'
/-- C(k = v, ..) -/
theorem pe_errK0 (T : ErrC X.K C f) (F : FnOk X.prog X.w X.K X.mg X.base CX k f fd ps sp) (hr : Room (k + 1) X.A) (hg : Gl X x) (hm : X.mg x = some (.ref C)) (hb : KBn X.K fd ps 1 ks g gV) (hx : Passes CX X E) (hkw : PK X kws tk)
    (hall : (backToKw pos (keywordEach kws X.env)).all (·.1.isSome) = true := by rfl) (hks : (backToKw pos (keywordEach kws X.env)).filterMap (·.1) = ks := by rfl) (hdb : (x == ("__debug__" : Str)) = false := by decide)
    (hpl : ((backTo pos (starEach [] X.env)).any (·.1) || (backToKw pos (keywordEach kws X.env)).any (·.1.isNone)) = false := by rfl) :
    PE X (.Call (.Name x p) [] kws pos) (tErr C 0 ks.length sp gV E tNil tk) := by
  refine ⟨fun pins s σ H Q I h => ?_⟩
  refine wpAny_Call_Name_kw (ld_glob I hg hm ?_ hdb)
  refine PySem.W.callWith_KW0 (h₀ := X.base) I.ok.mod.kin T.cls.kC hall ?_ hpl
  refine thn (hkw.run pos pins s σ H _ I h) fun ws s2 ⟨zs, H2, I2, rz, l1, l2, q2⟩ => ⟨I2.kIn, ?_⟩
  rw [hks]
  exact run_err (us := []) (vs := []) T F hr hb hx I2 .nil rz rfl l2 (Nat.zero_le _) q2
/-- C(e, ..) -/
theorem pe_err (T : ErrC X.K C f) (F : FnOk X.prog X.w X.K X.mg X.base CX k f fd ps sp) (hr : Room (k + 1) X.A) (hg : Gl X x) (hm : X.mg x = some (.ref C)) (hb : KBn X.K fd ps (n + 1) [] g gV) (hx : Passes CX X E) (ha : PA X (e :: es) t) (hn : n ≤ 1000)
    (hdb : (x == ("__debug__" : Str)) = false := by decide) (he : starEach (e :: es) X.env = (false, eval e X.env) :: starEach es X.env := by rfl) (hpl : (backTo pos (starEach es X.env)).any (·.1) = false := by rfl) :
    PE X (.Call (.Name x p) (e :: es) [] pos) (tErr C n 0 sp gV E t tNil) := by
  refine ⟨fun pins s σ H Q I h => ?_⟩
  refine wpAny_Call_Name_kw (ld_glob I hg hm ?_ hdb)
  refine PySem.W.callWith_K (h₀ := X.base) I.ok.mod.kin T.cls.kC (thn (ha.run pos pins s σ H _ I h) fun us s1 ⟨vs, H1, I1, r, l1, _, q⟩ => ⟨I1.kIn, ?_⟩) he hpl
  exact run_err (ks := []) (ws := []) (zs := []) T F hr hb hx I1 r .nil l1 rfl hn q
/-- e.f of such an error -/
structure ErrF (K : PySem.W.Frag) (C : Addr) : Prop where
  ga : PySem.W.findIn K (.ref C) "__getattribute__" = some (some (.builtin "BaseException.__getattribute__"))
  gg : PySem.W.findIn K (.ref C) "__getattr__" = some none
  exC : PySem.W.subIn K (.ref C) (.type "BaseException") = some true
  hdC : PySem.W.hasDictIn K C = true
def tErrF (K : PySem.W.Frag) (n : Str) (te : TE) : TE := fun σ H Q => te σ H fun x H1 => ∃ (a C dd : Addr) (fs : List (Str × V)) (v : V), x = .ref a ∧ H1 a = some (exo a C (some dd)) ∧ H1 dd = some (exd dd fs) ∧ ErrF K C ∧
  PySem.W.findIn K (.ref C) n = some none ∧ fs.lookup n = some v ∧ Q v H1
theorem pe_errF {n : Str} {te : TE} (he : PE X e te) (hb : attributeBase e n X.env (eval e X.env) = eval e X.env := by rfl) : PE X (.Attribute e n pos) (tErrF X.K n te) := by
  refine ⟨fun pins s σ H Q I h => ?_⟩
  refine attr_of hb (thn (he.run pins s σ H _ I h) fun u s1 hh => ?_)
  obtain ⟨x, H1, I1, rx, a, C, dd, fs, v, ex, ea, ed, T, hno, l, q⟩ := hh
  subst ex
  obtain rfl : u = Value.ref a := rx
  obtain ⟨t1, hoe⟩ := exo_at I1.hok ea
  obtain ⟨mA, hns, hr⟩ := exd_at I1.hok ed
  obtain ⟨od, ho, hl⟩ := lookIn_ns hns
  obtain ⟨u, hu, ru⟩ := RelO.some_of (v := v) (o := mA n) (by rw [← l]; exact hr n)
  have J : PySem.W.InstAt s1.heap a _ C (some od) := ⟨hoe, rfl, rfl, ho⟩
  exact HandSPX.exc_get I1.kIn J T.ga T.gg T.exC (PySem.W.findObj_own T.hdC hno rfl (by rw [hl, hu])) (handed_of ru) ⟨v, H1, I1.tok _, ru, q⟩
/-- C() of a class without an __init__ of its own -/
theorem pe_exc0 {bmB : List Value} {B newId initId : String} (F : ExcBaseFacts B newId initId bmB) (q : PySem.W.excIn X.K C bmB newId = true) (gC : X.mg x = some (.ref C)) (kC : PySem.W.keepIn X.K (.ref C) = true) (hg : Gl X x)
    (hdb : (x == ("__debug__" : Str)) = false := by decide) :
    PE X (.Call (.Name x p) [] [] pos) (fun σ H Q => ∀ a, H a = none → Q (.ref a) (upd H a (exo a C none))) := by
  refine ⟨fun pins s σ H Q I h => ?_⟩
  refine wpAny_Call_Name_kw (ld_glob I hg gC ?_ hdb)
  refine PySem.W.callWith_K0 I.kIn kC ?_
  show wpAny _ _ (call (.ref C) []) _ _ _
  obtain ⟨bm, N, nm, qn, bs, hdct, sn, sub, ab, col, dd, k0, k1, k2, k3, k5, mN, hC, hN, hni, T⟩ := exc_obj I.kIn q
  refine wpAny_call_exc_subT F T hC hN hni (fun h' a hm => ?_) (by show 0 ≤ sizeLine; exact Nat.zero_le _)
  have hn : H a = none := I.hok.gone hm.new
  obtain ⟨t, ht, _, _⟩ := hm.there
  exact ⟨.ref a, upd H a (exo a C none), I.laidN hm.keeps hm.new hn (exo_ok ht), rfl, h a hn⟩
/-- what isinstance asks of an error's class -/
structure ErrI (K : PySem.W.Frag) (C : Addr) : Prop where
  cl : (PySem.W.clsIn K C).isSome = true
  ga : PySem.W.findIn K (.ref C) "__getattribute__" = some (some (.builtin "BaseException.__getattribute__"))
  gg : PySem.W.findIn K (.ref C) "__getattr__" = some none
  ex : PySem.W.subIn K (.ref C) (.type "BaseException") = some true
  ca : PySem.W.findIn K (.ref C) "__class__" = some (some (.builtin "object.__class__"))
  sp : PySem.W.specialIn K (.builtin "object.__class__") "__get__" = some (some (.builtin "getset_descriptor.__get__"))
  tk : PySem.W.takesIn K (.builtin "object.__class__") = some true
  ob : PySem.W.mroIn K C (.type "object") = some true
def rIsErr (K : PySem.W.Frag) : List V → Hp → VK → Prop := fun xs H Q => ∃ (a C : Addr) (d : Option Addr) (c : V) (cv : Value) (b : Bool), xs = [.ref a, c] ∧ H a = some (exo a C d) ∧ (∀ dd, d = some dd → ∃ fs, H dd = some (exd dd fs)) ∧ ErrI K C ∧
  ClsV c cv ∧ PySem.W.kitOne K (.ref C) cv = some b ∧ Q (.bl b) H
theorem call_isErr : CallR X (.builtin "isinstance") (rIsErr X.K) := by
  intro pins s σ H xs us Q I r h
  obtain ⟨a, C, d, c, cv, b, rfl, ha, hd, T, k, e, q⟩ := h
  obtain ⟨u1, u2, rfl, r1, r2⟩ := vals2 r
  have e2 := k.eq r2
  subst e2
  obtain rfl : u1 = Value.ref a := r1
  obtain ⟨t1, ho⟩ := exo_at I.hok ha
  have go : ∀ od : Option Obj, PySem.W.InstAt s.heap a { cls := .ref C, dict := d, data := .fields #[.ref t1, .none, .none, .none, .bool false, .none] } C od → wpAny (model X.prog X.w) X.A (call (.builtin "isinstance") [Value.ref a, u2]) (EP X pins σ Q) X.xe s := fun od J =>
    PySem.W.kia_one (PySem.W.kitx_exc (od := od) T.cl T.ga T.gg T.ex T.ca T.sp T.tk T.ob) I.kIn J e (fun z => nomatch z) fun tk => ⟨.bl b, H, I.tok tk, rfl, q⟩
  cases d with
  | none => exact go none ⟨ho, rfl, rfl, trivial⟩
  | some dd =>
    obtain ⟨fs, hfs⟩ := hd dd rfl
    obtain ⟨mA, hns, _⟩ := exd_at I.hok hfs
    obtain ⟨od, hod, _⟩ := lookIn_ns hns
    exact go (some od) ⟨ho, rfl, rfl, hod⟩
end
end MK
set_option Elab.async false
set_option linter.all false
set_option maxRecDepth 100000
set_option maxHeartbeats 4000000
/-! defs by their names, what is kept -/
namespace MK
open PySem PySem.Spec PyProof.Rows L2
section
variable {P : Program} {w : World} {K : PySem.W.Frag} {mg : Str → Option Value} {base : Heap} {CX : CXT}
/-- a def of the module that may be called by its name -/
structure Cal (P : Program) (w : World) (K : PySem.W.Frag) (mg : Str → Option Value) (base : Heap) (CX : CXT) (k : Nat) (x : Str) (sp : Sp) : Prop where
  ex : ∃ (f : Addr) (fd : FuncData) (ps : List Str), FnOk P w K mg base CX k f fd ps sp ∧ mg x = some (.ref f) ∧ PySem.W.keepIn K (.ref f) = true ∧ Binds K fd ps []
/-- what the top left of a def: its text, its name, how its arguments bind -/
structure DefX (K : PySem.W.Frag) (mg : Str → Option Value) (x : Str) (st : Stmt) (ps : List Str) (f : Addr) (fd : FuncData) : Prop where
  fn : Fun K x x st f fd
  mgf : mg x = some (.ref f)
  bi : Binds K fd ps []
theorem cal_mk {x : Str} {st : Stmt} {f : Addr} {fd : FuncData} {N ps : List Str} {k : Nat} {sp : Sp} (F : DefX K mg x st ps f fd) (S : FnScope N ps (defScope st)) (len : ∀ vs H Q E, sp vs H Q E → vs.length = ps.length)
    (hbody : ∀ (cdv : Value) (A : Around) (outer : List Env) (s : Shared) (H : Hp) (vs : List V) (Q : VK) (E : XK), Room k (A.deeper (envOfC x (defScope st) s.heap.objs.size f cdv)) → sp vs H Q E →
      ∃ t, PSs (cxOf CX0 P w K mg base N x (defScope st) f cdv A outer s H E).nox (defBody st) t ∧ t { nx := fun _ H' => Q .non H', rt := Q } (start N vs) H) : Cal P w K mg base CX0 (k + 1) x sp :=
  ⟨f, fd, ps, F.fn.ok S len hbody, F.mgf, F.fn.kp, F.bi⟩
end
section
variable {X : Cx} {k j : Nat} {x : Str} {sp : Sp} {p pos : Pos} {e : Expr} {es : List Expr} {t : TA}
theorem pe_c (c : Cal X.prog X.w X.K X.mg X.base CX0 k x sp) (hr : Room j X.A) (hk : k ≤ j) (hg : Gl X x) (ha : PA X (e :: es) t)
    (hdb : (x == ("__debug__" : Str)) = false := by decide) (he : starEach (e :: es) X.env = (false, eval e X.env) :: starEach es X.env := by rfl) (hpl : (backTo pos (starEach es X.env)).any (·.1) = false := by rfl) :
    PE X (.Call (.Name x p) (e :: es) [] pos) (tCall sp [] E0 t) := by
  obtain ⟨f, fd, ps, F, hm, kp, b⟩ := c.ex
  exact pe_call F (hr.mono hk) hg hm kp b .nil pass0 ha hdb he hpl
/-- a str times a small int -/
theorem op_repS : OpR X (binaryOp .Mult) (fun x y H Q => ∃ (z : Str) (n : Int), x = .str z ∧ y = .int n ∧ ((n ≤ 0 ∧ -(2 ^ 63) ≤ n ∧ Q (.str Str.empty) H) ∨ (n = 1 ∧ Q (.str z) H))) := by
  intro pins s σ H x y v u Q I rx ry h
  obtain ⟨z, n, rfl, rfl, h⟩ := h
  obtain ⟨t, rfl⟩ := rx
  obtain ⟨t', rfl⟩ := ry
  rcases h with ⟨h1, h2, q⟩ | ⟨rfl, q⟩
  · exact PySem.P.mul_str_none (by omega) (by omega) ⟨.str Str.empty, H, I.tok _, ⟨_, rfl⟩, q⟩
  · refine PySem.P.mul_str (by decide) (fun _ h => absurd h (by simp)) (fun _ h => absurd h (by simp)) ?_
    show Made.post (Made.val (Value.str z t)) _ _
    exact ⟨.str z, H, I, ⟨_, rfl⟩, q⟩
end
/-- a statement, then the rest, Mid between them: what follows is shown once -/
def tCut (t u : TS) : TS := fun D σ H => ∃ Mid : L2.St → Hp → Prop, t { D with nx := Mid } σ H ∧ ∀ σ' H', Mid σ' H' → u D σ' H'
theorem pss_cut {X : Cx} {st : Stmt} {rest : List Stmt} {t u : TS} (h1 : PS X st t) (h2 : PSs X rest u) : PSs X (st :: rest) (tCut t u) := by
  refine ⟨fun pins s σ H D I h => ?_⟩
  obtain ⟨Mid, a, b⟩ := h
  refine wpAny_execs_cons (thn (h1.run pins s σ H { D with nx := Mid } I a) fun f s1 q => ?_)
  cases f with
  | next =>
    obtain ⟨σ', H', I', q⟩ := q
    exact h2.run pins s1 σ' H' D I' (b σ' H' q)
  | ret v => exact q
  | brk => exact q
  | cont => exact q
/-- the name of a built-in class, as a value -/
theorem pe_tyv {X : Cx} {x : Str} {n : String} {pos : Pos} (hg : Gl X x) (hm : X.mg x = none) (hv : bootBuiltins x = some (.type n)) (hn : x ≠ "__name__" := by decide) (hd : (x == ("__debug__" : Str)) = false := by decide) : PE X (.Name x pos) (tC (.ty n)) :=
  pe_bltn hg hm hv rfl hn hd
/-- an expression, a test, with a word between it and what follows -/
def tCutE (te : TE) : TE := fun σ H Q => ∃ Mid : V → Hp → Prop, te σ H Mid ∧ ∀ v H', Mid v H' → Q v H'
def tCutT (tt : TT) : TT := fun σ H Q => ∃ Mid : Bool → Hp → Prop, tt σ H Mid ∧ ∀ b H', Mid b H' → Q b H'
theorem pe_cut {X : Cx} {e : Expr} {te : TE} (h : PE X e te) : PE X e (tCutE te) := by
  refine ⟨fun pins s σ H Q I ⟨Mid, a, b⟩ => ?_⟩
  exact thn (h.run pins s σ H Mid I a) fun u s1 ⟨v, H1, I1, r1, q1⟩ => ⟨v, H1, I1, r1, b v H1 q1⟩
theorem pt_cut {X : Cx} {e : Expr} {tt : TT} (h : PT X e tt) : PT X e (tCutT tt) := by
  refine ⟨fun pins s σ H Q I ⟨Mid, a, b⟩ => ?_⟩
  exact thn (h.run pins s σ H Mid I a) fun u s1 ⟨H1, I1, q1⟩ => ⟨H1, I1, b u H1 q1⟩
/-- all that was tracked is as it was, but what stands at s -/
def SameX (s : Addr) (H H' : Hp) : Prop := ∀ b o, H b = some o → b ≠ s → H' b = some o
theorem SameX.refl (s : Addr) (H : Hp) : SameX s H H := fun _ _ h _ => h
theorem SameX.trans {s : Addr} {H H1 H2 : Hp} (a : SameX s H H1) (b : SameX s H1 H2) : SameX s H H2 := fun c o h n => b c o (a c o h n) n
theorem SameX.new {s p : Addr} {o : HO} {H H1 : Hp} (a : SameX s H H1) (h : H1 p = none) : SameX s H (upd H1 p o) := fun c u hc n => by
  have e := a c u hc n
  rw [upd_ne (ne_of_none e h)]
  exact e
theorem SameX.put {s : Addr} {o : HO} {H H1 : Hp} (a : SameX s H H1) : SameX s H (upd H1 s o) := fun c u hc n => by
  rw [upd_ne n]
  exact a c u hc n
theorem same_sx {s : Addr} {H H1 : Hp} (a : Same H H1) : SameX s H H1 := fun c u hc _ => a c u hc
theorem SameX.none {s p : Addr} {H H1 : Hp} (a : SameX s H H1) (n : p ≠ s) (h : H1 p = Option.none) : H p = Option.none := by
  cases e : H p with
  | none => rfl
  | some o =>
    rw [a p o e n] at h
    cases h
theorem same_new {p : Addr} {o : HO} {H H1 : Hp} (a : Same H H1) (h : H1 p = none) : Same H (upd H1 p o) := fun c u hc => by
  have e := a c u hc
  rw [upd_ne (ne_of_none e h)]
  exact e
theorem SameX.l {K : PySem.W.Frag} {s a : Addr} {xs : List V} {H H1 : Hp} (e : SameX s H H1) (n : a ≠ s) (h : SqL K H a xs) : SqL K H1 a xs := by
  rcases h with (h | ⟨o, h⟩) | h
  · exact .inl (.inl (e _ _ h n))
  · exact .inl (.inr ⟨o, e _ _ h n⟩)
  · exact .inr h
theorem SameX.t {K : PySem.W.Frag} {s a : Addr} {xs : List V} {H H1 : Hp} (e : SameX s H H1) (n : a ≠ s) (h : SqT K H a xs) : SqT K H1 a xs := by
  rcases h with (h | ⟨o, h⟩) | h
  · exact .inl (.inl (e _ _ h n))
  · exact .inl (.inr ⟨o, e _ _ h n⟩)
  · exact .inr h
theorem walk_enumT {K : PySem.W.Frag} {a : Addr} {xs : List V} : Walk (IteT K a) xs.length (fun H => SqT K H a xs) (YPair (fun i => some (.int (i : Nat))) (fun i => xs[i]?)) := by
  refine ⟨fun i _ hi q => ⟨xs, xs[i], q, by simp [hi]⟩, fun _ q => ⟨xs, q, Nat.le_refl _⟩, fun i H v H' _ q y => ?_⟩
  obtain ⟨T, x, h1, h2, h3, h4⟩ := y
  exact ⟨T, .int (i : Nat), x, h1, h2, h3, rfl, h4 xs q⟩
theorem upd_none {H : Hp} {a b : Addr} {o : HO} (h : upd H a o b = none) : b ≠ a ∧ H b = none := by
  by_cases e : b = a
  · rw [e, upd_same] at h
    cases h
  · rw [upd_ne e] at h
    exact ⟨e, h⟩
/-! ### things that are the same, as the laws ask: equal, and of the same kinds -/
section
variable {K : PySem.W.Frag}
/-- nothing in it that is walked -/
def Flat (H : Hp) (x y : V) : Prop := (x = y ∧ (x = .non ∨ (∃ b, x = .bl b) ∨ (∃ i, x = .int i) ∨ ∃ z, x = .str z)) ∨
  ∃ a b kvs, x = .ref a ∧ y = .ref b ∧ H a = some (.dK kvs) ∧ H b = some (.dK kvs) ∧ (kvs.map (·.1)).Nodup ∧ ∀ p ∈ kvs, flatB p.2 = true
def Sm (K : PySem.W.Frag) (H : Hp) : Nat → V → V → Prop
  | 0, x, y => Flat H x y
  | n + 1, x, y => Flat H x y ∨ ∃ a b xs ys, x = .ref a ∧ y = .ref b ∧ ((SqL K H a xs ∧ SqL K H b ys) ∨ (SqT K H a xs ∧ SqT K H b ys)) ∧ xs.length = ys.length ∧ xs.length < 100000 ∧ ∀ (i : Nat) x y, xs[i]? = some x → ys[i]? = some y → Sm K H n x y
theorem same_t {H H' : Hp} {a : Addr} {xs : List V} (e : Same H H') (h : SqT K H a xs) : SqT K H' a xs := by
  rcases h with (h | ⟨o, h⟩) | h
  · exact .inl (.inl (e _ _ h))
  · exact .inl (.inr ⟨o, e _ _ h⟩)
  · exact .inr h
theorem Flat.keep {H H' : Hp} {x y : V} (e : Same H H') (h : Flat H x y) : Flat H' x y := by
  rcases h with h | ⟨a, b, kvs, h1, h2, h3, h4, h5⟩
  · exact .inl h
  · exact .inr ⟨a, b, kvs, h1, h2, e _ _ h3, e _ _ h4, h5⟩
theorem Sm.keep {H H' : Hp} (e : Same H H') : ∀ {n : Nat} {x y : V}, Sm K H n x y → Sm K H' n x y
  | 0, _, _, h => Flat.keep e h
  | n + 1, _, _, h => by
    rcases h with h | ⟨a, b, xs, ys, h1, h2, h3, h4, h5, h6⟩
    · exact .inl (h.keep e)
    · refine .inr ⟨a, b, xs, ys, h1, h2, ?_, h4, h5, fun i x y q1 q2 => Sm.keep e (h6 i x y q1 q2)⟩
      rcases h3 with ⟨p, q⟩ | ⟨p, q⟩
      · exact .inl ⟨e.seq p, e.seq q⟩
      · exact .inr ⟨same_t e p, same_t e q⟩
theorem tyx_l {H : Hp} {a : Addr} {xs : List V} (h : SqL K H a xs) : TyX K H (.ref a) (.type "list") := by
  rcases h with (h | ⟨o, h⟩) | ⟨o, its, n, hk, hc, _⟩
  · exact .base (.lst h)
  · exact .base (.frz h)
  · exact .kList hk hc
theorem tyx_t {H : Hp} {a : Addr} {xs : List V} (h : SqT K H a xs) : TyX K H (.ref a) (.type "tuple") := by
  rcases h with (h | ⟨o, h⟩) | ⟨o, its, n, hk, hc, _⟩
  · exact .base (.tup h)
  · exact .fTuple h
  · exact .kTuple hk hc
theorem tyx_keep {H H' : Hp} {x : V} {t : Value} (e : Same H H') (h : TyX K H x t) : TyX K H' x t := by
  cases h with
  | base h =>
    cases h with
    | non => exact .base .non
    | bl b => exact .base (.bl b)
    | int i => exact .base (.int i)
    | str z => exact .base (.str z)
    | flt z => exact .base (.flt z)
    | lst h => exact .base (.lst (e _ _ h))
    | frz h => exact .base (.frz (e _ _ h))
    | tup h => exact .base (.tup (e _ _ h))
    | dK h => exact .base (.dK (e _ _ h))
    | dT h => exact .base (.dT (e _ _ h))
    | ins h cl ha hn ht hm => exact .base (.ins (e _ _ h) cl ha hn ht hm)
  | byt b => exact .byt b
  | set h => exact .set (e _ _ h)
  | kList h c => exact .kList h c
  | kTuple h c => exact .kTuple h c
  | kDict h c => exact .kDict h c
  | fTuple h => exact .fTuple (e _ _ h)
  | fDict h => exact .fDict (e _ _ h)
theorem walk_zipT {a b : Addr} {xs ys : List V} {n : Nat} (hn : n = min xs.length ys.length) : Walk (RZ.ItzT K a b) n (fun H => SqT K H a xs ∧ SqT K H b ys) (YPair (fun i => xs[i]?) (fun i => ys[i]?)) := by
  subst hn
  refine ⟨fun i _ hi q => ?_, fun _ q => ⟨xs, ys, q.1, q.2, by omega⟩, fun i H v H' _ q y => ?_⟩
  · have h1 : i < xs.length := by omega
    have h2 : i < ys.length := by omega
    exact ⟨xs, ys, xs[i], ys[i], q.1, q.2, by simp [h1], by simp [h2]⟩
  · obtain ⟨T, x, y, h1, h2, h3, h4, h5⟩ := y
    exact ⟨T, x, y, h1, h2, h3, h4 xs q.1, h5 ys q.2⟩
end
/-- a def that is never called so -/
theorem cal_bot {P : Program} {w : World} {K : PySem.W.Frag} {mg : Str → Option Value} {base : Heap} {x : Str} {st : Stmt} {ps : List Str} {f : Addr} {fd : FuncData} (F : DefX K mg x st ps f fd) : Cal P w K mg base CX0 0 x (fun _ _ _ _ => False) :=
  ⟨f, fd, ps, ⟨fun _ _ _ _ h => h.elim, fun _ _ _ _ _ _ _ _ _ _ _ _ _ h => h.elim⟩, F.mgf, F.fn.kp, F.bi⟩
end MK
set_option Elab.async false
set_option linter.all false
set_option maxRecDepth 100000
set_option maxHeartbeats 4000000
/-! errors as values, by the names of their classes -/
namespace MK
open PySem PySem.Spec PyProof.Rows L2
theorem exo_lst {e C : Addr} {d : Option Addr} {xs : List V} : exo e C d ≠ .lst xs := fun z => by
  have z' : HO.ext _ = HO.lst xs := z
  cases z'
theorem exd_lst {e : Addr} {fs : List (Str × V)} {xs : List V} : exd e fs ≠ .lst xs := fun z => by
  have z' : HO.ext _ = HO.lst xs := z
  cases z'
/-- an error of the class at C stands at a; its attributes, the latest first -/
def Err (H : Hp) (C a : Addr) (fs : List (Str × V)) : Prop := ∃ d, H a = some (exo a C (some d)) ∧ H d = some (exd d fs)
theorem Err.keep {H H' : Hp} {C a : Addr} {fs : List (Str × V)} (e : Same H H') (h : Err H C a fs) : Err H' C a fs := by
  obtain ⟨d, h1, h2⟩ := h
  exact ⟨d, e _ _ h1, e _ _ h2⟩
theorem Err.put {H : Hp} {C a p : Addr} {fs : List (Str × V)} {xs zs : List V} (hp : H p = some (.lst xs)) (h : Err H C a fs) : Err (upd H p (.lst zs)) C a fs := by
  obtain ⟨d, h1, h2⟩ := h
  exact ⟨d, by rw [upd_ne (at_ne hp h1 (Ne.symm exo_lst))]; exact h1, by rw [upd_ne (at_ne hp h2 (Ne.symm exd_lst))]; exact h2⟩
/-- an error of the class at C without attributes -/
def Err0 (H : Hp) (C a : Addr) : Prop := H a = some (exo a C none)
/-- what the __init__ of an error with one attribute promises; with two -/
def spErr1 (C : Addr) (f : Str) : Sp := fun vs H Q _ => ∃ (a : Addr) (v : V), vs = [.ref a, v] ∧ H a = some (exo a C none) ∧ ∀ d, H d = none → d ≠ a → Q .non (upd (upd H d (exd d [(f, v)])) a (exo a C (some d)))
def spErr2 (C : Addr) (f g : Str) : Sp := fun vs H Q _ => ∃ (a : Addr) (v u : V), vs = [.ref a, v, u] ∧ H a = some (exo a C none) ∧ ∀ d, H d = none → d ≠ a →
  Q .non (upd (upd (upd H d (exd d [(f, v)])) a (exo a C (some d))) d (exd d [(g, u), (f, v)]))
/-- an error's class by its name: n values by place, the names ks -/
structure ErrCal (P : Program) (w : World) (K : PySem.W.Frag) (mg : Str → Option Value) (base : Heap) (k : Nat) (x : Str) (C : Addr) (sp : Sp) (n : Nat) (ks : List Str) (g : List Value → List Value → List Value) (gV : List V → List V → List V) : Prop where
  ex : ∃ (f : Addr) (fd : FuncData) (ps : List Str), ErrC K C f ∧ FnOk P w K mg base CX0 k f fd ps sp ∧ mg x = some (.ref C) ∧ KBn K fd ps (n + 1) ks g gV
structure Exc0 (K : PySem.W.Frag) (mg : Str → Option Value) (x : Str) (C : Addr) : Prop where
  q : PySem.W.excIn K C PySem.HandSPX.veTail "ValueError.__new__" = true
  mgC : mg x = some (.ref C)
  kp : PySem.W.keepIn K (.ref C) = true
section
variable {X : Cx} {k j n : Nat} {x : Str} {C : Addr} {sp : Sp} {p pos : Pos} {e : Expr} {es : List Expr} {t tk : TA} {kws : List Keyword} {ks : List Str} {g : List Value → List Value → List Value} {gV : List V → List V → List V}
theorem pe_errKC (c : ErrCal X.prog X.w X.K X.mg X.base k x C sp 0 ks g gV) (hr : Room j X.A) (hk : k + 1 ≤ j) (hg : Gl X x) (hkw : PK X kws tk)
    (hall : (backToKw pos (keywordEach kws X.env)).all (·.1.isSome) = true := by rfl) (hks : (backToKw pos (keywordEach kws X.env)).filterMap (·.1) = ks := by rfl) (hdb : (x == ("__debug__" : Str)) = false := by decide)
    (hpl : ((backTo pos (starEach [] X.env)).any (·.1) || (backToKw pos (keywordEach kws X.env)).any (·.1.isNone)) = false := by rfl) :
    PE X (.Call (.Name x p) [] kws pos) (tErr C 0 ks.length sp gV E0 tNil tk) := by
  obtain ⟨f, fd, ps, T, F, hm, b⟩ := c.ex
  exact pe_errK0 T F (hr.mono hk) hg hm b pass0 hkw hall hks hdb hpl
theorem pe_errC (c : ErrCal X.prog X.w X.K X.mg X.base k x C sp n [] g gV) (hr : Room j X.A) (hk : k + 1 ≤ j) (hg : Gl X x) (ha : PA X (e :: es) t) (hn : n ≤ 1000 := by decide)
    (hdb : (x == ("__debug__" : Str)) = false := by decide) (he : starEach (e :: es) X.env = (false, eval e X.env) :: starEach es X.env := by rfl) (hpl : (backTo pos (starEach es X.env)).any (·.1) = false := by rfl) :
    PE X (.Call (.Name x p) (e :: es) [] pos) (tErr C n 0 sp gV E0 t tNil) := by
  obtain ⟨f, fd, ps, T, F, hm, b⟩ := c.ex
  exact pe_err T F (hr.mono hk) hg hm b pass0 ha hn hdb he hpl
theorem pe_errFK {K : PySem.W.Frag} {n : Str} {te : TE} (he : PE X e te) (hK : X.K = K := by rfl) (hb : attributeBase e n X.env (eval e X.env) = eval e X.env := by rfl) : PE X (.Attribute e n pos) (tErrF K n te) := by
  subst hK
  exact pe_errF he hb
theorem pe_refv {a : Addr} (hg : Gl X x) (hm : X.mg x = some (.ref a)) (hd : (x == ("__debug__" : Str)) = false := by decide) : PE X (.Name x pos) (tC (.ref a)) := pe_glob hg hm rfl hd
theorem pe_x0 (c : Exc0 X.K X.mg x C) (hg : Gl X x) (hdb : (x == ("__debug__" : Str)) = false := by decide) : PE X (.Call (.Name x p) [] [] pos) (fun σ H Q => ∀ a, H a = none → Q (.ref a) (upd H a (exo a C none))) :=
  pe_exc0 PySem.F.excBase_ValueError c.q c.mgC c.kp hg hdb
end
/-! readings -/
section
variable {C : Addr} {f h : Str} {σ : L2.St} {H : Hp} {Q : VK} {t tk : TA} {v u : V} {E : XK}
theorem rd_errK (ht : ∀ R : List V → Hp → Prop, R [v] H → tk σ H R) (q : ∀ a H', H a = none → Same H H' → Err H' C a [(f, v)] → Q (.ref a) H') : tErr C 0 1 (spErr1 C f) (fun vs zs => vs ++ zs) E tNil tk σ H Q := by
  refine ht _ ⟨rfl, rfl, fun a ha => ⟨a, v, rfl, upd_same, fun d hd da => ⟨rfl, ?_⟩⟩⟩
  have hd' := (upd_none hd).2
  refine q a _ ha (fun b o hb => ?_) ⟨d, upd_same, (upd_ne da).trans upd_same⟩
  have ba := ne_of_none hb ha
  have bd := ne_of_none hb hd'
  rw [upd_ne ba, upd_ne bd, upd_ne ba]
  exact hb
theorem rd_err1 (ht : ∀ R : List V → Hp → Prop, R [v] H → t σ H R) (q : ∀ a H', H a = none → Same H H' → Err H' C a [(f, v)] → Q (.ref a) H') : tErr C 1 0 (spErr1 C f) (fun vs _ => vs) E t tNil σ H Q := by
  refine ht _ ⟨rfl, rfl, fun a ha => ⟨a, v, rfl, upd_same, fun d hd da => ⟨rfl, ?_⟩⟩⟩
  have hd' := (upd_none hd).2
  refine q a _ ha (fun b o hb => ?_) ⟨d, upd_same, (upd_ne da).trans upd_same⟩
  have ba := ne_of_none hb ha
  have bd := ne_of_none hb hd'
  rw [upd_ne ba, upd_ne bd, upd_ne ba]
  exact hb
theorem same_err2 {a d : Addr} {o1 o2 o3 o4 : HO} (ha : H a = none) (hd : H d = none) : Same H (upd (upd (upd (upd H a o1) d o2) a o3) d o4) := fun b o hb => by
  have ba := ne_of_none hb ha
  have bd := ne_of_none hb hd
  rw [upd_ne bd, upd_ne ba, upd_ne bd, upd_ne ba]
  exact hb
theorem rd_err2 (ht : ∀ R : List V → Hp → Prop, R [v, u] H → t σ H R) (q : ∀ a H', H a = none → Same H H' → Err H' C a [(h, u), (f, v)] → Q (.ref a) H') : tErr C 2 0 (spErr2 C f h) (fun vs _ => vs) E t tNil σ H Q := by
  refine ht _ ⟨rfl, rfl, fun a ha => ⟨a, v, u, rfl, upd_same, fun d hd da => ⟨rfl, ?_⟩⟩⟩
  exact q a _ ha (same_err2 ha (upd_none hd).2) ⟨d, (upd_ne da.symm).trans upd_same, upd_same⟩
/-- the names the other way about -/
theorem rd_errK2 (ht : ∀ R : List V → Hp → Prop, R [u, v] H → tk σ H R) (q : ∀ a H', H a = none → Same H H' → Err H' C a [(h, u), (f, v)] → Q (.ref a) H') : tErr C 0 2 (spErr2 C f h) (fun vs zs => vs ++ zs.reverse) E tNil tk σ H Q := by
  refine ht _ ⟨rfl, rfl, fun a ha => ⟨a, v, u, rfl, upd_same, fun d hd da => ⟨rfl, ?_⟩⟩⟩
  exact q a _ ha (same_err2 ha (upd_none hd).2) ⟨d, (upd_ne da.symm).trans upd_same, upd_same⟩
theorem rd_errF {K : PySem.W.Frag} {te : TE} {a : Addr} {fs : List (Str × V)} (ht : ∀ R : VK, R (.ref a) H → te σ H R) (he : Err H C a fs) (hF : ErrF K C) (hn : PySem.W.findIn K (.ref C) f = some none) (hl : fs.lookup f = some v) (q : Q v H) : tErrF K f te σ H Q := by
  obtain ⟨d, h1, h2⟩ := he
  exact ht _ ⟨a, C, d, fs, v, rfl, h1, h2, hF, hn, hl, q⟩
end
/-! lists of truth values, compared -/
theorem dp_bools {K : PySem.W.Frag} {H : Hp} : ∀ bs : List Bool, DpAll K H (bs.map V.bl) (bs.map PyData.bool)
  | [] => .nil
  | b :: bs => .cons (.bl b) (dp_bools bs)
theorem bools_lay : ∀ bs : List Bool, PyData.canLayAll0 (bs.map PyData.bool) = true
  | [] => rfl
  | b :: bs => by
    rw [List.map_cons]
    unfold PyData.canLayAll0 PyData.canLay0
    rw [Bool.true_and]
    exact bools_lay bs
theorem bools_depth : ∀ bs : List Bool, PyData.depthAll (bs.map PyData.bool) = 0
  | [] => rfl
  | b :: bs => by
    rw [List.map_cons]
    unfold PyData.depthAll
    rw [bools_depth bs]
    rfl
theorem bools_shaped (bs : List Bool) : SeqAt.shaped (.list (bs.map PyData.bool)) = true := by
  have h1 : PyData.canLay0 (.list (bs.map PyData.bool)) = true := by
    unfold PyData.canLay0
    exact bools_lay bs
  have h2 : PyData.depth (.list (bs.map PyData.bool)) ≤ 64 := by
    unfold PyData.depth
    rw [bools_depth bs]
    decide
  unfold SeqAt.shaped
  rw [h1, decide_eq_true h2]
  rfl
theorem bools_eqv (bs : List Bool) : PyData.eqv (.list (bs.map PyData.bool)) (.list (bs.map PyData.bool)) = true :=
  SeqAt.eqv_refl _ (SeqAt.canLay_of_shaped (bools_shaped bs))
/-! what the written part says of an error's class, by one look -/
def oexB (K : PySem.W.Frag) (C : Addr) : Bool := match K.lookup C with
  | some ⟨.type "type", _, .cls cd, sl⟩ => (match cd.mro, sl.toList with
    | .ref C' :: bm, [_, _, _, _, some (.builtin n), _] => C' == C && (n == "ValueError.__new__" && (!cd.hasDel && (cd.hasDict && PySem.HandSPX.refsVE bm)))
    | _, _ => false)
  | _ => false
theorem oexB_ok {K : PySem.W.Frag} {C : Addr} (h : oexB K C = true) :
    ∃ nm q N bs bm sn sub ab col dd k0 k1 k2 k3 k5, K.lookup C = some (excClassObj nm q C N bs bm true sn sub ab col dd k0 k1 k2 k3 k5 "ValueError.__new__") ∧ PySem.HandSPX.refsVE bm = true := by
  unfold oexB at h
  split at h
  · rename_i dd cd sl ho
    split at h
    · rename_i C' bm k0 k1 k2 k3 n k5 hm hs
      simp only [Bool.and_eq_true, beq_iff_eq, Bool.not_eq_true'] at h
      obtain ⟨rfl, rfl, hdel, hdict, hb⟩ := h
      obtain ⟨nm, bs, mro, ns, qn, hd, sn, sub, ab, col, del⟩ := cd
      dsimp only at hm hdel hdict
      subst hm hdel hdict
      have hsl : sl = #[k0, k1, k2, k3, some (.builtin "ValueError.__new__"), k5] := by
        obtain ⟨z⟩ := sl
        simp only at hs
        rw [hs]
      subst hsl
      exact ⟨_, _, _, _, _, _, _, _, _, _, _, _, _, _, _, ho, hb⟩
    · cases h
  · cases h
def errB (K : PySem.W.Frag) (C : Addr) : Bool :=
  decide (PySem.W.findIn K (.ref C) "__setattr__" = some (some (.builtin "object.__setattr__"))) && (decide (PySem.W.subIn K (.ref C) (.type "BaseException") = some true) && (decide (PySem.W.typeIn K (.ref C) = some (.type "type")) && (PySem.W.keepIn K (.ref C) &&
  (decide (PySem.W.findIn K (.ref C) "__getattribute__" = some (some (.builtin "BaseException.__getattribute__"))) && (decide (PySem.W.findIn K (.ref C) "__getattr__" = some none) && (PySem.W.hasDictIn K C && ((PySem.W.clsIn K C).isSome &&
  (decide (PySem.W.findIn K (.ref C) "__class__" = some (some (.builtin "object.__class__"))) && (decide (PySem.W.specialIn K (.builtin "object.__class__") "__get__" = some (some (.builtin "getset_descriptor.__get__"))) &&
  (decide (PySem.W.takesIn K (.builtin "object.__class__") = some true) && decide (PySem.W.mroIn K C (.type "object") = some true)))))))))))
theorem errB_ok {K : PySem.W.Frag} {C : Addr} (h : errB K C = true) (o : oexB K C = true) : OexC K C ∧ ErrF K C ∧ ErrI K C := by
  simp only [errB, Bool.and_eq_true, decide_eq_true_eq] at h
  obtain ⟨h1, h2, h3, h4, h5, h6, h7, h8, h9, h10, h11, h12⟩ := h
  exact ⟨⟨oexB_ok o, h1, h2, h3, h4⟩, ⟨h5, h6, h2, h7⟩, ⟨h8, h5, h6, h2, h9, h10, h11, h12⟩⟩
theorem errI_of {K : PySem.W.Frag} {C : Addr} (h : errB K C = true) : ErrI K C := by
  simp only [errB, Bool.and_eq_true, decide_eq_true_eq] at h
  obtain ⟨h1, h2, h3, h4, h5, h6, h7, h8, h9, h10, h11, h12⟩ := h
  exact ⟨h8, h5, h6, h2, h9, h10, h11, h12⟩
/-- which class is one of which -/
def kitsB (K : PySem.W.Frag) (cs : List Addr) (M : Addr) : Bool :=
  ((List.range cs.length).all fun i => (List.range cs.length).all fun j => decide (PySem.W.kitOne K (.ref (cs.getD i 0)) (.ref (cs.getD j 0)) = some (decide (j = i)))) &&
  (((List.range cs.length).all fun i => decide (PySem.W.kitOne K (.ref M) (.ref (cs.getD i 0)) = some false) && (decide (PySem.W.kitOne K (.ref (cs.getD i 0)) (.ref M) = some true) && decide (PySem.W.kitOne K (.ref (cs.getD i 0)) (.type "ValueError") = some true))) &&
  decide (PySem.W.kitOne K (.ref M) (.type "ValueError") = some true))
theorem getD_of {l : List Addr} {i : Nat} {a : Addr} (h : l[i]? = some a) : i < l.length ∧ l.getD i 0 = a := by
  obtain ⟨h1, h2⟩ := List.getElem?_eq_some_iff.mp h
  exact ⟨h1, by rw [List.getD_eq_getElem?_getD, h]; rfl⟩
theorem kitsB_ok {K : PySem.W.Frag} {cs : List Addr} {M : Addr} (h : kitsB K cs M = true) :
    (∀ (i j : Nat) (C D : Addr), cs[i]? = some C → cs[j]? = some D → PySem.W.kitOne K (.ref C) (.ref D) = some (decide (j = i))) ∧ (∀ (j : Nat) (D : Addr), cs[j]? = some D → PySem.W.kitOne K (.ref M) (.ref D) = some false) ∧
    (∀ (i : Nat) (C : Addr), cs[i]? = some C → PySem.W.kitOne K (.ref C) (.ref M) = some true) ∧ (∀ (i : Nat) (C : Addr), cs[i]? = some C → PySem.W.kitOne K (.ref C) (.type "ValueError") = some true) ∧ PySem.W.kitOne K (.ref M) (.type "ValueError") = some true := by
  simp only [kitsB, Bool.and_eq_true, decide_eq_true_eq, List.all_eq_true, List.mem_range] at h
  obtain ⟨h1, h2, h3⟩ := h
  refine ⟨fun i j C D hC hD => ?_, fun j D hD => ?_, fun i C hC => ?_, fun i C hC => ?_, h3⟩
  · have z := h1 i (getD_of hC).1 j (getD_of hD).1
    rw [(getD_of hC).2, (getD_of hD).2] at z
    exact z
  · have z := (h2 j (getD_of hD).1).1
    rw [(getD_of hD).2] at z
    exact z
  · have z := (h2 i (getD_of hC).1).2.1
    rw [(getD_of hC).2] at z
    exact z
  · have z := (h2 i (getD_of hC).1).2.2
    rw [(getD_of hC).2] at z
    exact z
end MK
set_option Elab.async false
set_option linter.all false
set_option autoImplicit false
set_option maxRecDepth 100000
set_option maxHeartbeats 4000000
namespace MK
open PySem PySem.Spec PyProof.Rows L2
local macro_rules | `(tactic| walk_at "x") => `(tactic| dsimp only [tSeq, tAsg, tRet, tDrop, tLst, tTup, tCons, tOp, tUn, tIfS])
def topS (i : Nat) : Stmt := PySem.Challenge.pw_makerlines_k01_errors_made.main.body.getD i (.Pass ⟨0, 0, 0, 0⟩)
structure Txt (K : PySem.W.Frag) (mg : Str → Option Value) : Prop where
  len : mg "len" = none
  int : mg "int" = none
  enumerate : mg "enumerate" = none
  list : mg "list" = none
  tuple : mg "tuple" = none
  isinstance : mg "isinstance" = none
  range : mg "range" = none
  all : mg "all" = none
  zip : mg "zip" = none
  ValueError : mg "ValueError" = none
  bool : mg "bool" = none
/-! ### the draws of a law: the state is a list at s, its cells a list at c -/
abbrev s_fresh : Stmt := topS 18
theorem sc_fresh : FnScope ["_law_script"] ["_law_script"] (defScope s_fresh) := ⟨rfl, rfl, rfl, by decide +kernel, rfl, by decide +kernel, by decide +kernel⟩
abbrev s_fill : Stmt := topS 19
theorem sc_fill : FnScope ["_law_state", "_law_cells", "_law_nth", "_law_seed", "_law_k", "_law_prime", "_law_far"] ["_law_state"] (defScope s_fill) := ⟨rfl, rfl, rfl, by decide +kernel, rfl, by decide +kernel, by decide +kernel⟩
abbrev s_take : Stmt := topS 20
theorem sc_take : FnScope ["_law_state", "_law_many", "_law_laps", "_law_digit"] ["_law_state", "_law_many"] (defScope s_take) := ⟨rfl, rfl, rfl, by decide +kernel, rfl, by decide +kernel, by decide +kernel⟩
abbrev s_one : Stmt := topS 21
theorem sc_one : FnScope ["_law_state", "_law_things"] ["_law_state", "_law_things"] (defScope s_one) := ⟨rfl, rfl, rfl, by decide +kernel, rfl, by decide +kernel, by decide +kernel⟩
/-- the state of the draws: at s, its cells ns at c -/
def StA (H : Hp) (s c : Addr) (ns : List Int) : Prop := c ≠ s ∧ H c = some (.lst (ns.map V.int)) ∧ ∃ (a b : Int) (m : Bool), H s = some (.lst [.ref c, .int a, .int b, .bl m])
theorem StA.keep {H H' : Hp} {s c : Addr} {ns : List Int} (x : StA H s c ns) (e : Same H H') : StA H' s c ns := by
  obtain ⟨n, h1, a, b, m, h2⟩ := x
  exact ⟨n, e _ _ h1, a, b, m, e _ _ h2⟩
theorem cut63 (ns : List Int) (h : ns.length ≤ 63) : cutV (ns.map V.int) none (some 63) = ns.map V.int := by
  have e : HT.sIx (ns.map V.int).length (ns.map V.int).length (some 63) = min 63 (ns.map V.int).length := HT.sIx_nat _ _ 63
  unfold cutV
  rw [HT.sIx_none, e, List.drop_zero, Nat.sub_zero]
  exact List.take_of_length_le (by rw [List.length_map]; omega)
def primes : List V := [.int 2147483647, .int 2147483629, .int 2147483587, .int 2147483579, .int 2147483563]
theorem primes_ok {i : Nat} {y : V} (h : primes[i]? = some y) : ∃ p : Int, y = .int p ∧ 0 < p ∧ p < 4294967296 := by
  have m := List.mem_of_getElem? h
  simp only [primes, List.mem_cons, List.not_mem_nil, or_false] at m
  rcases m with rfl | rfl | rfl | rfl | rfl <;> exact ⟨_, rfl, by decide, by decide⟩
def spFresh (K : PySem.W.Frag) : Sp := fun vs H Q _ => ∃ (a : Addr) (ns : List Int), vs = [.ref a] ∧ SqL K H a (ns.map V.int) ∧ ns.length ≤ 63 ∧
  ∀ s c H', Same H H' → H s = none → H c = none → StA H' s c ns → Q (.ref s) H'
def spFill : Sp := fun vs H Q _ => ∃ (s c : Addr) (ns : List Int), vs = [.ref s] ∧ StA H s c ns ∧ ns.length ≤ 63 ∧ ∀ H', SameX s H H' → StA H' s c ns → Q .non H'
def spTake : Sp := fun vs H Q _ => ∃ (s c : Addr) (ns : List Int) (n : Int), vs = [.ref s, .int n] ∧ StA H s c ns ∧ ns.length ≤ 63 ∧ 0 < n ∧ n < 1000000 ∧
  ∀ (d : Nat) H', (d : Int) < n → SameX s H H' → StA H' s c ns → Q (.int d) H'
def spOne (K : PySem.W.Frag) : Sp := fun vs H Q _ => ∃ (s c l : Addr) (ns : List Int) (xs : List V), vs = [.ref s, .ref l] ∧ StA H s c ns ∧ ns.length ≤ 63 ∧ l ≠ s ∧ (SqL K H l xs ∨ SqT K H l xs) ∧ 0 < xs.length ∧ xs.length < 1000000 ∧
  ∀ (d : Nat) (x : V) H', xs[d]? = some x → SameX s H H' → StA H' s c ns → Q x H'
section
variable {P : Program} {w : World} {K : PySem.W.Frag} {mg : Str → Option Value} {base : Heap}
theorem ok_fresh {f : Addr} {fd : FuncData} (F : DefX K mg "_law_fresh" s_fresh ["_law_script"] f fd) (T : Txt K mg) : Cal P w K mg base CX0 1 "_law_fresh" (spFresh K) := by
  refine cal_mk F sc_fresh (fun vs H Q E h => ?_) (fun cdv A outer s H vs Q E hr h => ?_)
  · obtain ⟨a, ns, rfl, _⟩ := h
    rfl
  · obtain ⟨a, ns, rfl, hs, hl, k⟩ := h
    refine ⟨_, (pss_one (ps_ret (pe_lst (pa_cons (pe_slice sl_list (pv 0) po_none (po_some pe_int)) (pa_cons pe_int (pa_cons pe_int (pa_cons pe_bl pa_nil))))))), ?_⟩
    refine ⟨_, rfl, _, rfl, a, _, rfl, hs, fun c hc => ⟨(by show 4 ≤ sizeLine; decide), fun t ht => ?_⟩⟩
    rw [cut63 ns hl] at ht ⊢
    obtain ⟨tc, htn⟩ := upd_none ht
    refine k t c _ (same_new (same_new (Same.refl H) hc) ht) htn hc ⟨tc.symm, ?_, 0, 0, false, upd_same⟩
    rw [upd_ne tc.symm, upd_same]
theorem ok_fill {f : Addr} {fd : FuncData} (F : DefX K mg "_law_fill" s_fill ["_law_state"] f fd) (T : Txt K mg) : Cal P w K mg base CX0 1 "_law_fill" spFill := by
  refine cal_mk F sc_fill (fun vs H Q E h => ?_) (fun cdv A outer s H vs Q E hr h => ?_)
  · obtain ⟨s, c, ns, rfl, _⟩ := h
    rfl
  · obtain ⟨s, c, ns, rfl, ⟨cs, hc, a, b, m, hs⟩, hl, k⟩ := h
    refine ⟨_, (pss_cons (ps_par (i := 1) (j := 2) (by rfl) sc_fill.nd rfl rfl (by decide) rfl rfl (pa_cons (pe_ix ix_list (pv 0) pe_int (fun _ _ => rfl)) (pa_cons (pe_ix ix_list (pv 0) pe_int (fun _ _ => rfl)) pa_nil)) (by rfl))
(pss_cons (ps_set (i := 3) sc_fill.nd rfl (Or.inl rfl) (pe_op op_add (pe_op op_mul pe_int (pv 2)) pe_int))
(pss_cut (ps_if (pt_cmpR op_gt (pe_callB call_len_seq (by rfl) T.len (by decide +kernel) (pa_cons (pv 1) pa_nil)) pe_int (nomark _))
(pss_one (ps_set (i := 3) sc_fill.nd rfl (Or.inl rfl) (pe_op op_add (pe_op op_mul pe_int (pe_op op_fdivN (pv 2) (pe_callB call_len_seq (by rfl) T.len (by decide +kernel) (pa_cons (pv 1) pa_nil)))) (pe_ix ix_list (pv 1) (pe_op op_modN (pe_callTy call_int1 (by rfl) T.int (by decide +kernel) (pa_cons (pv 2) pa_nil)) (pe_callB call_len_seq (by rfl) T.len (by decide +kernel) (pa_cons (pv 1) pa_nil))) (fun _ _ => rfl)))))
pss_nil)
(pss_cons (ps_asg (pe_op op_add (pv 2) pe_int) (pg_sub (pv 0) pe_int set_list))
(pss_cons (ps_asg (pe_cut (pe_or (pe_cmpR op_ge (pv 2) (pe_callB call_len_seq (by rfl) T.len (by decide +kernel) (pa_cons (pv 1) pa_nil)) (nomark _)) (pe_one (pe_cmpR op_lt (pv 3) (pe_op op_pow pe_int pe_int) (nomark _))))) (pg_sub (pv 0) pe_int set_list))
(pss_cons (ps_asg (pe_op op_sub (pv 3) (pe_op op_pow pe_int pe_int)) (pg_sub (pv 0) pe_int set_list))
(pss_one (ps_if (pt_val (pe_ix ix_list (pv 0) pe_int (fun _ _ => rfl)))
(pss_cons (ps_asg pe_int (pg_sub (pv 0) pe_int set_list))
(pss_one (ps_for PassesOwn.never rfl (pi_enumT (by rfl) T.enumerate (pa_cons (pe_tup (pa_cons pe_int (pa_cons pe_int (pa_cons pe_int (pa_cons pe_int (pa_cons pe_int pa_nil)))))) pa_nil)) (pg_tup (by rfl) (pgs_cons (pg_name (i := 4) sc_fill.nd rfl (Or.inl rfl)) (pgs_cons (pg_name (i := 5) sc_fill.nd rfl (Or.inl rfl)) pgs_nil)))
(pss_cons (ps_set (i := 6) sc_fill.nd rfl (Or.inl rfl) (pe_op op_modN (pe_callTy call_int1 (by rfl) T.int (by decide +kernel) (pa_cons (pe_op op_mul (pe_op op_add (pe_op op_add (pv 3) (pe_op op_mul (pe_op op_mul pe_int (pv 4)) (pv 4))) (pe_op op_mul pe_int (pv 4))) (pe_op op_add pe_int (pe_op op_mul pe_int (pv 4)))) pa_nil)) (pv 5)))
(pss_one (ps_asg (pe_op op_add (pe_op op_mul (pe_ix ix_list (pv 0) pe_int (fun _ _ => rfl)) (pv 5)) (pe_op op_modN (pe_callTy call_int1 (by rfl) T.int (by decide +kernel) (pa_cons (pe_op op_pow (pv 6) pe_int) pa_nil)) (pv 5))) (pg_sub (pv 0) pe_int set_list)))))))
pss_nil)))))))), ?_⟩
    have sq : ∀ {H' : Hp}, SameX s H H' → SqL K H' c (ns.map V.int) := fun e => .inl (.inl (e _ _ hc cs))
    have kd : ∀ (H' : Hp) (b' : Int) (m' : Bool) (a' : Int), SameX s H H' → H' s = some (.lst [.ref c, .int a', .int b', .bl m']) → Q .non H' := fun H' b' m' a' e h => k H' e ⟨cs, e _ _ hc cs, a', b', m', h⟩
    -- cells, nth = state[0], state[1]
    refine ⟨_, rfl, s, _, 0, .ref c, rfl, rfl, SqL.of hs, rfl, _, rfl, s, _, 1, .int a, rfl, rfl, SqL.of hs, rfl, _, _, rfl, ?_⟩
    refine ⟨_, rfl, _, _, rfl, rfl, .inl (by decide), _, _, rfl, rfl, ?_⟩
    -- the seed is some int
    refine ⟨fun σ' H' => H' = H ∧ ∃ z : Int, σ' = [some (.ref s), some (.ref c), some (.int a), some (.int z), none, none, none], ?_, ?_⟩
    · refine ⟨_, rfl, c, _, rfl, .inl (sq (SameX.refl s H)), _, _, rfl, rfl, _, rfl, ?_⟩
      refine ite2 (fun hp => ?_) (fun hn => ?_)
      · have hpos : 0 < ns.length := by
          have q : (0 : Int) < ((ns.map V.int).length : Int) := of_decide_eq_true hp
          rw [List.length_map] at q
          omega
        have hne : ((ns.map V.int).length : Int) ≠ 0 := by rw [List.length_map]; omega
        have hsm : ((ns.map V.int).length : Int).natAbs < 1073741824 := by rw [List.length_map]; omega
        have sq0 := sq (SameX.refl s H)
        obtain ⟨v, hv⟩ : ∃ v, atI (ns.map V.int) (a.fmod ((ns.map V.int).length : Int)) = some (V.int v) := by
          have h0 := Int.fmod_nonneg_of_pos a (b := ((ns.map V.int).length : Int)) (by rw [List.length_map]; omega)
          have h1 := Int.fmod_lt_of_pos a (b := ((ns.map V.int).length : Int)) (by rw [List.length_map]; omega)
          obtain ⟨j, hj⟩ := Int.eq_ofNat_of_zero_le h0
          rw [hj] at h1 ⊢
          rw [List.length_map] at h1
          have hjl : j < ns.length := by omega
          exact ⟨ns[j], atI_nat (by rw [List.getElem?_map, List.getElem?_eq_getElem hjl]; rfl)⟩
        refine ⟨_, rfl, _, rfl, c, _, rfl, .inl sq0, _, _, rfl, rfl, ⟨hne, hsm⟩, _, _, rfl, rfl, .inl (by decide), ?_⟩
        refine ⟨_, rfl, _, rfl, .inl ⟨_, rfl, _, rfl, c, _, rfl, .inl sq0, _, _, rfl, rfl, hne, ?_⟩⟩
        exact ⟨c, _, _, _, rfl, rfl, sq0, hv, _, _, rfl, rfl, rfl, _, rfl⟩
      · exact ⟨rfl, _, rfl⟩
    · rintro σ' H' ⟨rfl, z, rfl⟩
      have e1 : SameX s H' (upd H' s (.lst [.ref c, .int (a + 1), .int b, .bl m])) := (SameX.refl s H').put
      -- state[1] = nth + 1; state[3] = ..
      refine ⟨_, rfl, _, _, rfl, rfl, _, rfl, s, _, 1, 1, rfl, rfl, hs, rfl, ?_⟩
      refine ⟨fun v H2 => H2 = _ ∧ ∃ d : Bool, v = .bl d, ⟨_, rfl, _, rfl, c, _, rfl, .inl (sq e1), _, _, rfl, rfl, _, rfl, ite2 (fun _ => ⟨rfl, _, rfl⟩) (fun _ => ?_)⟩, ?_⟩
      · exact ⟨_, rfl, _, _, rfl, rfl, ⟨by decide, by decide, by decide⟩, _, _, rfl, rfl, rfl, _, rfl⟩
      rintro _ _ ⟨rfl, d, rfl⟩
      refine ⟨_, rfl, s, _, 3, 3, rfl, rfl, upd_same, rfl, ?_⟩
      rw [upd_upd]
      -- state[2] = seed - 10 ** 18
      refine ⟨_, rfl, _, _, rfl, rfl, ⟨by decide, by decide, by decide⟩, _, _, rfl, rfl, _, rfl, s, _, 2, 2, rfl, rfl, upd_same, rfl, ?_⟩
      rw [upd_upd]
      refine ⟨_, rfl, s, _, 3, .bl d, rfl, rfl, SqL.of upd_same, rfl, d, rfl, ite2 (fun _ => ?_) (fun _ => ?_)⟩
      · -- mixed
        refine ⟨_, rfl, s, _, 2, 2, rfl, rfl, upd_same, rfl, ?_⟩
        rw [upd_upd]
        refine ⟨by show 5 ≤ sizeLine; decide, fun t ht => ⟨t, _, rfl, SqT.of upd_same, ?_⟩⟩
        obtain ⟨ts, ht'⟩ := upd_none ht
        refine for_it walk_enumT (fun i σ H2 => SameX s H' H2 ∧ H2 t = some (.tup primes) ∧ (∃ b2 : Int, H2 s = some (.lst [.ref c, .int (a + 1), .int b2, .bl d])) ∧ ∃ x4 x5 x6, σ = [some (.ref s), some (.ref c), some (.int a), some (.int z), x4, x5, x6])
          ⟨((SameX.refl s H').put).new ht, upd_same, ⟨0, (upd_ne ts.symm).trans upd_same⟩, none, none, none, rfl⟩ (fun i σ H2 _ q => SqT.of q.2.1) ?_ ?_
        · rintro i x σ H2 H3 hi ⟨e2, e3, ⟨b2, e4⟩, x4, x5, x6, rfl⟩ ⟨U, _, y, rfl, hU, rfl, h1, hy⟩
          obtain rfl := Option.some.inj h1
          obtain ⟨p, rfl, p0, p1⟩ := primes_ok (i := i) hy
          have us : s ≠ U := fun q => by rw [q, hU] at e4; cases e4
          refine ⟨U, _, rfl, SqT.of upd_same, rfl, _, _, rfl, _, _, rfl, rfl, ?_⟩
          have hf0 : p ≠ 0 := by omega
          have hi5 : i < 5 := hi
          -- far
          refine ⟨_, rfl, _, rfl, _, _, rfl, rfl, .inl (by decide), _, rfl, _, _, rfl, rfl, .inr (by omega), _, _, rfl, rfl, _, rfl, _, _, rfl, rfl, .inl (by decide), _, _, rfl, rfl, ?_⟩
          refine ⟨_, rfl, _, _, rfl, rfl, .inl (by decide), _, _, rfl, rfl, _, _, rfl, rfl, .inr (by omega), .inl ⟨_, rfl, _, rfl, _, _, rfl, rfl, hf0, ?_⟩⟩
          have f0 := Int.fmod_nonneg_of_pos ((z + 10007 * (i : Int) * (i : Int) + 101 * (i : Int)) * (48271 + 2 * (i : Int))) (b := p) (by omega)
          have f1 := Int.fmod_lt_of_pos ((z + 10007 * (i : Int) * (i : Int) + 101 * (i : Int)) * (48271 + 2 * (i : Int))) (b := p) (by omega)
          have e5 : upd H2 U (.tup [.int (i : Nat), .int p]) s = some (.lst [.ref c, .int (a + 1), .int b2, .bl d]) := by rw [upd_ne us]; exact e4
          refine ⟨_, rfl, s, _, 2, .int b2, rfl, rfl, SqL.of e5, rfl, _, rfl, _, _, rfl, rfl, .inr (by omega), ?_⟩
          refine ⟨_, rfl, _, _, rfl, rfl, ⟨by decide, by decide, by omega⟩, .inl ⟨_, rfl, _, rfl, _, _, rfl, rfl, hf0, _, _, rfl, rfl, _, rfl, s, _, 2, 2, rfl, rfl, e5, rfl, ?_⟩⟩
          have tU : t ≠ U := fun q => by rw [q, hU] at e3; cases e3
          exact ⟨(e2.new hU).put, by rw [upd_ne ts, upd_ne tU]; exact e3, ⟨_, upd_same⟩, _, _, _, rfl⟩
        · rintro σ H2 ⟨e2, _, ⟨b2, e4⟩, _⟩
          exact kd _ _ _ _ e2 e4
      · exact kd _ _ _ _ (SameX.refl s H').put upd_same
def lapsOf (σ : L2.St) (_ : Hp) : Nat := match (σ[2]? : Option (Option V)) with
  | some (some (V.int l)) => (64 - l).toNat
  | _ => 0
theorem ok_take {f : Addr} {fd : FuncData} (F : DefX K mg "_law_take" s_take ["_law_state", "_law_many"] f fd) (T : Txt K mg) (c_fill : Cal P w K mg base CX0 1 "_law_fill" spFill) : Cal P w K mg base CX0 2 "_law_take" spTake := by
  refine cal_mk F sc_take (fun vs H Q E h => ?_) (fun cdv A outer s H vs Q E hr h => ?_)
  · obtain ⟨s, c, ns, n, rfl, _⟩ := h
    rfl
  · obtain ⟨s, c, ns, n, rfl, h0, hl, n0, n1, k⟩ := h
    refine ⟨_, (pss_cons (ps_set (i := 2) sc_take.nd rfl (Or.inl rfl) pe_int)
(pss_cons (ps_while PassesOwn.never (pt_cut (PW.pt (pw_and (pt_cmpR op_lt (pv 2) pe_int (nomark _)) (pw_and1 (pt_cut (PW.pt (pw_or (pt_cmpR op_eq (pe_ix ix_list (pv 0) pe_int (fun _ _ => rfl)) pe_int (nomark _)) (pw_or1 (pt_cut (PW.pt (pw_and (pt_val (pe_ix ix_list (pv 0) pe_int (fun _ _ => rfl))) (pw_and1 (pt_cmpR op_lt (pe_ix ix_list (pv 0) pe_int (fun _ _ => rfl)) (pe_op op_mul (pv 1) pe_int) (nomark _))))))))))))))
(pss_cons (ps_expr (pe_c c_fill hr (by first | decide | assumption) rfl (pa_cons (pv 0) pa_nil)))
(pss_cons (ps_aug (i := 2) sc_take.nd rfl (Or.inl rfl) pe_int ip_add)
(pss_one (ps_if (pt_cut (PW.pt (pw_and (pt_val (pe_ix ix_list (pv 0) pe_int (fun _ _ => rfl))) (pw_and1 (pt_cmpR op_lt (pe_ix ix_list (pv 0) pe_int (fun _ _ => rfl)) (pe_op op_mul (pv 1) pe_int) (nomark _))))))
(pss_one (ps_asg (pe_op op_add (pe_ix ix_list (pv 0) pe_int (fun _ _ => rfl)) (pe_op op_mul (pe_op op_mul (pv 1) pe_int) (pe_op op_add pe_int (pe_op op_modN (pe_callTy call_int1 (by rfl) T.int (by decide +kernel) (pa_cons (pe_ix ix_list (pv 0) pe_int (fun _ _ => rfl)) pa_nil)) pe_int)))) (pg_sub (pv 0) pe_int set_list)))
pss_nil)))))
(pss_cons (ps_set (i := 3) sc_take.nd rfl (Or.inl rfl) (pe_op op_modN (pe_callTy call_int1 (by rfl) T.int (by decide +kernel) (pa_cons (pe_ix ix_list (pv 0) pe_int (fun _ _ => rfl)) pa_nil)) (pv 1)))
(pss_cons (ps_asg (pe_op op_fdivN (pe_ix ix_list (pv 0) pe_int (fun _ _ => rfl)) (pv 1)) (pg_sub (pv 0) pe_int set_list))
(pss_one (ps_ret (pv 3))))))), ?_⟩
    show tWhile _ _ _ [some (.ref s), some (.int n), some (.int 0), none] H
    refine while_by (fun σ H2 => SameX s H H2 ∧ StA H2 s c ns ∧ ∃ l : Int, σ = [some (.ref s), some (.int n), some (.int l), none]) lapsOf ⟨SameX.refl s H, h0, 0, rfl⟩ ?_ (fun σ H Q Q' h x => ?_)
    · rintro σ H2 ⟨e2, ⟨cs, hc, a, b, m, hs⟩, l, rfl⟩
      refine ⟨fun t H3 => H3 = H2 ∧ (t = true → l < 64), ?_, ?_⟩
      · refine ⟨_, rfl, _, _, rfl, rfl, _, rfl, ite2 (fun h1 => ?_) (fun h1 => ⟨rfl, fun h => nomatch h⟩)⟩
        have hl64 : l < 64 := of_decide_eq_true h1
        refine ⟨fun t H3 => H3 = H2, ⟨_, rfl, s, _, 2, _, rfl, rfl, SqL.of hs, rfl, rfl, _, rfl, ite2 (fun _ => rfl) (fun _ => ?_)⟩, fun t H3 e => ⟨e, fun _ => hl64⟩⟩
        refine ⟨fun t H3 => H3 = H2, ⟨_, rfl, s, _, 3, _, rfl, rfl, SqL.of hs, rfl, m, rfl, ite2 (fun _ => ?_) (fun _ => rfl)⟩, fun t H3 e => e⟩
        exact ⟨_, rfl, s, _, 2, _, rfl, rfl, SqL.of hs, rfl, _, rfl, _, _, rfl, rfl, .inr (by decide), _, _, rfl, rfl, _, rfl, rfl⟩
      · rintro t H3 ⟨rfl, ht⟩
        refine ite2 (fun h1 => ?_) (fun h1 => ?_)
        · have hl64 := ht h1
          have dec : ∀ x : Option V, lapsOf [some (.ref s), some (.int n), some (.int (l + 1)), x] H3 < lapsOf [some (.ref s), some (.int n), some (.int l), none] H3 := fun x => by
            show (64 - (l + 1)).toNat < (64 - l).toNat
            omega
          refine ⟨_, rfl, s, c, ns, rfl, ⟨cs, hc, a, b, m, hs⟩, hl, fun H4 e4 h4 => ?_⟩
          obtain ⟨_, hc4, a4, b4, m4, hs4⟩ := id h4
          refine ⟨_, rfl, _, _, rfl, rfl, ?_⟩
          refine ⟨fun t H5 => H5 = H4, ⟨_, rfl, s, _, 3, _, rfl, rfl, SqL.of hs4, rfl, m4, rfl, ite2 (fun _ => ?_) (fun _ => rfl)⟩, ?_⟩
          · exact ⟨_, rfl, s, _, 2, _, rfl, rfl, SqL.of hs4, rfl, _, rfl, _, _, rfl, rfl, .inr (by decide), _, _, rfl, rfl, _, rfl, rfl⟩
          rintro t5 H5 rfl
          refine ite2 (fun _ => ?_) (fun _ => ?_)
          · refine ⟨_, rfl, s, _, 2, _, rfl, rfl, SqL.of hs4, rfl, _, rfl, _, _, rfl, rfl, .inr (by decide), ?_⟩
            refine ⟨_, rfl, s, _, 2, _, rfl, rfl, SqL.of hs4, rfl, .inl ⟨_, rfl, _, _, rfl, rfl, (by show (4093 : Int) ≠ 0; decide), _, _, rfl, rfl, _, _, rfl, rfl, .inl ?_, _, _, rfl, rfl, ?_⟩⟩
            · show -(2 ^ 64) < n * 4096 ∧ n * 4096 < 2 ^ 64
              omega
            refine ⟨_, rfl, s, _, 2, 2, rfl, rfl, hs4, rfl, ⟨(e2.trans e4).put, ⟨cs, ?_, _, _, _, upd_same⟩, _, rfl⟩, dec none⟩
            rw [upd_ne cs]
            exact hc4
          · exact ⟨⟨e2.trans e4, h4, _, rfl⟩, dec none⟩
        · refine ⟨_, rfl, s, _, 2, _, rfl, rfl, SqL.of hs, rfl, .inl ⟨_, rfl, _, rfl, _, _, rfl, rfl, by omega, ?_⟩⟩
          refine ⟨_, rfl, s, _, 2, _, rfl, rfl, SqL.of hs, rfl, _, rfl, _, _, rfl, rfl, ⟨by omega, by omega⟩, _, rfl, s, _, 2, 2, rfl, rfl, hs, rfl, _, rfl, ?_⟩
          have d0 := Int.fmod_nonneg_of_pos b (b := n) n0
          have d1 := Int.fmod_lt_of_pos b (b := n) n0
          obtain ⟨d, hd⟩ := Int.eq_ofNat_of_zero_le d0
          show Q (.int (b.fmod n)) _
          rw [hd]
          refine k d _ (by omega) e2.put ⟨cs, ?_, _, _, _, upd_same⟩
          rw [upd_ne cs]
          exact hc
    · obtain ⟨M, a, b⟩ := x
      exact ⟨M, a, fun b' H' m => h _ _ (b b' H' m)⟩
theorem ok_one {f : Addr} {fd : FuncData} (F : DefX K mg "_law_one" s_one ["_law_state", "_law_things"] f fd) (T : Txt K mg) (c_take : Cal P w K mg base CX0 2 "_law_take" spTake) : Cal P w K mg base CX0 3 "_law_one" (spOne K) := by
  refine cal_mk F sc_one (fun vs H Q E h => ?_) (fun cdv A outer s H vs Q E hr h => ?_)
  · obtain ⟨s, c, l, ns, xs, rfl, _⟩ := h
    rfl
  · obtain ⟨s, c, l, ns, xs, rfl, h0, hl, ls, hx, x0, x1, k⟩ := h
    refine ⟨_, (pss_one (ps_ret (pe_ix ix_seq (pv 1) (pe_c c_take hr (by first | decide | assumption) rfl (pa_cons (pv 0) (pa_cons (pe_callB call_len_seq (by rfl) T.len (by decide +kernel) (pa_cons (pv 1) pa_nil)) pa_nil))) (fun _ _ => rfl)))), ?_⟩
    refine ⟨_, rfl, _, rfl, _, rfl, l, xs, rfl, hx, s, c, ns, _, rfl, h0, hl, by omega, by omega, fun d H2 hd e2 h2 => ?_⟩
    have hdl : d < xs.length := by omega
    have hv : xs[d]? = some xs[d] := List.getElem?_eq_getElem hdl
    rcases hx with hx | hx
    · exact .inl ⟨l, xs, _, _, rfl, rfl, e2.l ls hx, atI_nat hv, k d _ H2 hv e2 h2⟩
    · exact .inr (.inl ⟨l, xs, _, _, rfl, rfl, e2.t ls hx, atI_nat hv, k d _ H2 hv e2 h2⟩)
end
/-! ### _law_same -/
abbrev s_same : Stmt := topS 22
theorem sc_same : FnScope ["_law_found", "_law_due", "_law_a", "_law_b"] ["_law_found", "_law_due"] (defScope s_same) := ⟨rfl, rfl, rfl, by decide +kernel, rfl, by decide +kernel, by decide +kernel⟩
def spSame (K : PySem.W.Frag) (n : Nat) : Sp := fun vs H Q _ => ∃ x y, vs = [x, y] ∧ Sm K H n x y ∧ ∀ H', Same H H' → Q (.bl true) H'
section
variable {P : Program} {w : World} {K : PySem.W.Frag} {mg : Str → Option Value} {base : Heap}
theorem ty2 {P1 P2 : Prop} (a : P1) (b : P2) : P1 ∧ P2 := ⟨a, b⟩
theorem any2 {t a b : String} {r1 r2 : Bool} (h1 : kitB t a = some r1) (h2 : kitB t b = some r2) : PySem.W.kitAny K (.type t) [.type a, .type b] = some (r1 || r2) := by
  refine kitAny_cons (kit_ty h1) (fun e => ?_) (fun e => by rw [e]; rfl)
  refine kitAny_cons (kit_ty h2) (fun e2 => ?_) (fun e2 => by rw [e2, Bool.or_true])
  rw [e, e2]
  rfl
theorem any4 {t a b c d : String} (h1 : kitB t a = some false) (h2 : kitB t b = some false) (h3 : kitB t c = some false) (h4 : kitB t d = some false) : PySem.W.kitAny K (.type t) [.type a, .type b, .type c, .type d] = some false :=
  kitAny_cons (kit_ty h1) (fun _ => kitAny_cons (kit_ty h2) (fun _ => kitAny_cons (kit_ty h3) (fun _ => kitAny_cons (kit_ty h4) (fun _ => rfl) nofun) nofun) nofun) nofun
/-- what the last rows of it see of flat things -/
structure FlatT (K : PySem.W.Frag) (H : Hp) (x y : V) (t : String) : Prop where
  tx : TyX K H x (.type t)
  ty : TyX K H y (.type t)
  l : kitB t "list" = some false
  u : kitB t "tuple" = some false
  i : (kitB t "int" = some false ∧ kitB t "bool" = some false) ∨ (kitB t "int" = some true ∧ ∃ b, kitB t "bool" = some b)
  eq : ∀ H', Same H H' → ∀ Q : VK, Q (.bl true) H' → (rEq x y H' Q ∨ ∃ a b kvs, x = .ref a ∧ y = .ref b ∧ H' a = some (.dK kvs) ∧ H' b = some (.dK kvs) ∧ (kvs.map (·.1)).Nodup ∧ (∀ p ∈ kvs, flatB p.2 = true) ∧ Q (.bl true) H')
theorem eq_refl {x : V} {H : Hp} {Q : VK} (h : scal x x = true) (q : Q (.bl true) H) : rEq x x H Q := ⟨h, by rw [decide_eq_true rfl]; exact q⟩
theorem flat_t {H : Hp} {x y : V} (h : Flat H x y) : ∃ t, FlatT K H x y t := by
  rcases h with ⟨rfl, h⟩ | ⟨a, b, kvs, rfl, rfl, ha, hb, hd, hv⟩
  · rcases h with rfl | ⟨b, rfl⟩ | ⟨i, rfl⟩ | ⟨z, rfl⟩
    · exact ⟨"NoneType", .base .non, .base .non, by decide +kernel, by decide +kernel, .inl ⟨by decide +kernel, by decide +kernel⟩, fun H' _ Q q => .inl (eq_refl rfl q)⟩
    · exact ⟨"bool", .base (.bl b), .base (.bl b), by decide +kernel, by decide +kernel, .inr ⟨by decide +kernel, true, by decide +kernel⟩, fun H' _ Q q => .inl (eq_refl rfl q)⟩
    · exact ⟨"int", .base (.int i), .base (.int i), by decide +kernel, by decide +kernel, .inr ⟨by decide +kernel, false, by decide +kernel⟩, fun H' _ Q q => .inl (eq_refl rfl q)⟩
    · exact ⟨"str", .base (.str z), .base (.str z), by decide +kernel, by decide +kernel, .inl ⟨by decide +kernel, by decide +kernel⟩, fun H' _ Q q => .inl (eq_refl rfl q)⟩
  · exact ⟨"dict", .base (.dK ha), .base (.dK hb), by decide +kernel, by decide +kernel, .inl ⟨by decide +kernel, by decide +kernel⟩, fun H' e Q q => .inr ⟨a, b, kvs, rfl, rfl, e _ _ ha, e _ _ hb, hd, hv, q⟩⟩
theorem ok_same0 {f : Addr} {fd : FuncData} (F : DefX K mg "_law_same" s_same ["_law_found", "_law_due"] f fd) (T : Txt K mg) (n k : Nat) (sp' : Sp) (c_same : Cal P w K mg base CX0 k "_law_same" sp') (hk : k ≤ n) (hsp : ∀ m, n = m + 1 → sp' = spSame K m) :
    Cal P w K mg base CX0 (n + 1) "_law_same" (spSame K n) := by
  refine cal_mk F sc_same (fun vs H Q E h => ?_) (fun cdv A outer s H vs Q E hr h => ?_)
  · obtain ⟨x, y, rfl, _⟩ := h
    rfl
  · obtain ⟨x, y, rfl, h, q⟩ := h
    refine ⟨_, (pss_cons (ps_if (pt_val (pe_callB call_isiT (by rfl) T.isinstance (by decide +kernel) (pa_cons (pv 1) (pa_cons (pe_tup (pa_cons (pe_tyv (n := "list") (by rfl) T.list (by decide +kernel)) (pa_cons (pe_tyv (n := "tuple") (by rfl) T.tuple (by decide +kernel)) pa_nil))) pa_nil))))
(pss_cons (ps_if (pt_cut (PW.pt (pw_or (pt_cmpR op_ne (pe_callB call_isi (by rfl) T.isinstance (by decide +kernel) (pa_cons (pv 0) (pa_cons (pe_tyv (n := "list") (by rfl) T.list (by decide +kernel)) pa_nil))) (pe_callB call_isi (by rfl) T.isinstance (by decide +kernel) (pa_cons (pv 1) (pa_cons (pe_tyv (n := "list") (by rfl) T.list (by decide +kernel)) pa_nil))) (nomark _)) (pw_or1 (pt_cmpR op_ne (pe_callB call_isi (by rfl) T.isinstance (by decide +kernel) (pa_cons (pv 0) (pa_cons (pe_tyv (n := "tuple") (by rfl) T.tuple (by decide +kernel)) pa_nil))) (pe_callB call_isi (by rfl) T.isinstance (by decide +kernel) (pa_cons (pv 1) (pa_cons (pe_tyv (n := "tuple") (by rfl) T.tuple (by decide +kernel)) pa_nil))) (nomark _))))))
(pss_one (ps_ret pe_bl))
pss_nil)
(pss_one (ps_ret (pe_cut (pe_and (pe_cmpR op_eq (pe_callB call_len_seq (by rfl) T.len (by decide +kernel) (pa_cons (pv 0) pa_nil)) (pe_callB call_len_seq (by rfl) T.len (by decide +kernel) (pa_cons (pv 1) pa_nil)) (nomark _)) (pe_one (pe_callB (cr_all rfl) (by rfl) T.all (by decide +kernel) (pa_cons (pe_lc (own := [("_law_a", 2), ("_law_b", 3)]) (g := (gTup K 2 (gCons (gName 2) (gCons (gName 3) gNil)))) (tt := tYes) rfl sc_same.nd (RZ.pi_zipA (by rfl) T.zip (pa_cons (pv 0) (pa_cons (pv 1) pa_nil))) (blkOk_by (own := [("_law_a", 2), ("_law_b", 3)]) (N := ["_law_found", "_law_due", "_law_a", "_law_b"]) (sc := defScope s_same) (by decide +kernel)) (fun _ _ _ _ _ => (pg_tup (by rfl) (pgs_cons (pg_name (i := 2) sc_same.nd rfl (Or.inl rfl)) (pgs_cons (pg_name (i := 3) sc_same.nd rfl (Or.inl rfl)) pgs_nil)))) (fun _ _ _ _ _ => pts_nil) (fun _ _ _ _ _ => (pe_c c_same hr (by first | decide | assumption) rfl (pa_cons (pv 2) (pa_cons (pv 3) pa_nil))))) pa_nil))))))))
pss_nil)
(pss_cons (ps_if (pt_val (pe_callB call_isi (by rfl) T.isinstance (by decide +kernel) (pa_cons (pv 1) (pa_cons (pe_tyv (n := "int") (by rfl) T.int (by decide +kernel)) pa_nil))))
(pss_one (ps_ret (pe_cut (pe_and (pe_callB call_isi (by rfl) T.isinstance (by decide +kernel) (pa_cons (pv 0) (pa_cons (pe_tyv (n := "int") (by rfl) T.int (by decide +kernel)) pa_nil))) (pe_and (pe_cmpR op_eq (pe_callB call_isi (by rfl) T.isinstance (by decide +kernel) (pa_cons (pv 0) (pa_cons (pe_tyv (n := "bool") (by rfl) T.bool (by decide +kernel)) pa_nil))) (pe_callB call_isi (by rfl) T.isinstance (by decide +kernel) (pa_cons (pv 1) (pa_cons (pe_tyv (n := "bool") (by rfl) T.bool (by decide +kernel)) pa_nil))) (nomark _)) (pe_one (pe_cmpR (OpR.or op_eq (op_eq_dict hr.units0)) (pv 0) (pv 1) (nomark _))))))))
pss_nil)
(pss_one (ps_ret (pe_cut (pe_and (pe_cmpR op_is_bl (pe_callB call_isiT (by rfl) T.isinstance (by decide +kernel) (pa_cons (pv 0) (pa_cons (pe_tup (pa_cons (pe_tyv (n := "bool") (by rfl) T.bool (by decide +kernel)) (pa_cons (pe_tyv (n := "int") (by rfl) T.int (by decide +kernel)) (pa_cons (pe_tyv (n := "list") (by rfl) T.list (by decide +kernel)) (pa_cons (pe_tyv (n := "tuple") (by rfl) T.tuple (by decide +kernel)) pa_nil))))) pa_nil))) pe_bl (nomark _)) (pe_one (pe_cmpR (OpR.or op_eq (op_eq_dict hr.units0)) (pv 0) (pv 1) (nomark _))))))))), ?_⟩
    have spl : Flat H x y ∨ ∃ m, n = m + 1 ∧ ∃ a b xs ys, x = V.ref a ∧ y = V.ref b ∧ ((SqL K H a xs ∧ SqL K H b ys) ∨ (SqT K H a xs ∧ SqT K H b ys)) ∧ xs.length = ys.length ∧ xs.length < 100000 ∧ ∀ (i : Nat) x y, xs[i]? = some x → ys[i]? = some y → Sm K H m x y := by
      cases n with
      | zero => exact .inl h
      | succ m =>
        rcases h with h | h
        · exact .inl h
        · exact .inr ⟨m, rfl, h⟩
    refine ⟨_, rfl, by show 2 ≤ sizeLine; decide, fun p hp => ?_⟩
    have e1 : Same H (upd H p (.tup [.ty "list", .ty "tuple"])) := same_new (Same.refl H) hp
    rcases spl with hf | ⟨m, hn, a, b, xs, ys, rfl, rfl, hs, hl, hz, hi⟩
    · obtain ⟨t, ft⟩ := flat_t (K := K) hf
      refine ⟨_, p, _, _, _, false, rfl, upd_same, .cons (.ty _) (.cons (.ty _) .nil), tyx_keep e1 ft.ty, any2 ft.l ft.u, false, rfl, iteF ?_⟩
      rcases ft.i with ⟨hi, hb⟩ | ⟨hi, bb, hb⟩
      · refine ⟨_, rfl, _, _, _, _, false, rfl, .ty _, tyx_keep e1 ft.ty, kit_ty hi, false, rfl, iteF ?_⟩
        refine ⟨fun v H2 => v = .bl true ∧ Same H H2, ?_, fun v H2 e => by rw [e.1]; exact q _ e.2⟩
        refine ⟨_, rfl, by show 4 ≤ sizeLine; decide, fun p2 hp2 => ?_⟩
        have e2 := same_new e1 hp2 (o := .tup [.ty "bool", .ty "int", .ty "list", .ty "tuple"])
        refine ⟨_, p2, _, _, _, false, rfl, upd_same, .cons (.ty _) (.cons (.ty _) (.cons (.ty _) (.cons (.ty _) .nil))), tyx_keep e2 ft.tx, any4 hb hi ft.l ft.u, _, _, rfl, rfl, _, rfl, iteT ?_⟩
        exact ⟨_, rfl, _, rfl, ft.eq _ e2 _ ⟨rfl, e2⟩⟩
      · refine ⟨_, rfl, _, _, _, _, true, rfl, .ty _, tyx_keep e1 ft.ty, kit_ty hi, true, rfl, iteT ?_⟩
        refine ⟨fun v H2 => v = .bl true ∧ Same H H2, ?_, fun v H2 e => by rw [e.1]; exact q _ e.2⟩
        refine ⟨_, rfl, _, _, _, _, true, rfl, .ty _, tyx_keep e1 ft.tx, kit_ty hi, true, rfl, iteT ?_⟩
        refine ⟨_, rfl, _, _, _, _, bb, rfl, .ty _, tyx_keep e1 ft.tx, kit_ty hb, _, rfl, _, _, _, _, bb, rfl, .ty _, tyx_keep e1 ft.ty, kit_ty hb, rfl, _, rfl, ?_⟩
        rw [decide_eq_true rfl]
        exact iteT ⟨_, rfl, _, rfl, ft.eq _ e1 _ ⟨rfl, e1⟩⟩
    · have hsp := hsp m hn
      subst hsp
      obtain ⟨t, tx, ty, h1, bl, bu⟩ : ∃ t, TyX K H (.ref a) (.type t) ∧ TyX K H (.ref b) (.type t) ∧ (∀ r1 r2, kitB t "list" = some r1 → kitB t "tuple" = some r2 → (r1 || r2) = true) ∧ (∃ r1, kitB t "list" = some r1) ∧ ∃ r2, kitB t "tuple" = some r2 := by
        rcases hs with ⟨h1, h2⟩ | ⟨h1, h2⟩
        · refine ⟨"list", tyx_l h1, tyx_l h2, fun r1 r2 q1 q2 => ?_, ⟨true, by decide +kernel⟩, ⟨false, by decide +kernel⟩⟩
          have z : kitB "list" "list" = some true := by decide +kernel
          rw [z] at q1
          cases q1
          rfl
        · refine ⟨"tuple", tyx_t h1, tyx_t h2, fun r1 r2 q1 q2 => ?_, ⟨false, by decide +kernel⟩, ⟨true, by decide +kernel⟩⟩
          have z : kitB "tuple" "tuple" = some true := by decide +kernel
          rw [z] at q2
          cases q2
          rw [Bool.or_true]
      obtain ⟨r1, b1⟩ := bl
      obtain ⟨r2, b2⟩ := bu
      refine ⟨_, p, _, _, _, true, rfl, upd_same, .cons (.ty _) (.cons (.ty _) .nil), tyx_keep e1 ty, by rw [← h1 r1 r2 b1 b2]; exact any2 b1 b2, true, rfl, iteT ?_⟩
      -- of the same kinds
      refine ⟨fun t H2 => t = false ∧ H2 = upd H p (.tup [.ty "list", .ty "tuple"]), ?_, ?_⟩
      · refine ⟨_, rfl, _, _, _, _, r1, rfl, .ty _, tyx_keep e1 tx, kit_ty b1, _, rfl, _, _, _, _, r1, rfl, .ty _, tyx_keep e1 ty, kit_ty b1, rfl, _, rfl, ?_⟩
        rw [decide_eq_true rfl]
        refine iteF ?_
        refine ⟨_, rfl, _, _, _, _, r2, rfl, .ty _, tyx_keep e1 tx, kit_ty b2, _, rfl, _, _, _, _, r2, rfl, .ty _, tyx_keep e1 ty, kit_ty b2, rfl, _, rfl, ?_⟩
        rw [decide_eq_true rfl]
        exact ⟨rfl, rfl⟩
      rintro _ _ ⟨rfl, rfl⟩
      refine iteF ?_
      have hs1 : (SqL K (upd H p (.tup [.ty "list", .ty "tuple"])) a xs ∧ SqL K (upd H p (.tup [.ty "list", .ty "tuple"])) b ys) ∨ (SqT K (upd H p (.tup [.ty "list", .ty "tuple"])) a xs ∧ SqT K (upd H p (.tup [.ty "list", .ty "tuple"])) b ys) := by
        rcases hs with ⟨q1, q2⟩ | ⟨q1, q2⟩
        · exact .inl ⟨e1.seq q1, e1.seq q2⟩
        · exact .inr ⟨same_t e1 q1, same_t e1 q2⟩
      refine ⟨fun v H2 => v = .bl true ∧ Same H H2, ?_, fun v H2 e => by rw [e.1]; exact q _ e.2⟩
      refine ⟨_, rfl, a, xs, rfl, hs1.imp (·.1) (·.1), _, rfl, b, ys, rfl, hs1.imp (·.2) (·.2), rfl, _, rfl, ?_⟩
      rw [hl, decide_eq_true rfl]
      refine iteT ?_
      have kp : ∀ H2 : Hp, Same H H2 → (SqL K H2 a xs ∧ SqL K H2 b ys) ∨ (SqT K H2 a xs ∧ SqT K H2 b ys) := fun H2 e => by
        rcases hs with ⟨q1, q2⟩ | ⟨q1, q2⟩
        · exact .inl ⟨e.seq q1, e.seq q2⟩
        · exact .inr ⟨same_t e q1, same_t e q2⟩
      rcases hs with ⟨q1, q2⟩ | ⟨q1, q2⟩
      all_goals
        refine ⟨_, rfl, _, rfl, a, b, xs, ys, rfl, ?_⟩
        first
          | refine .inl ⟨e1.seq q1, e1.seq q2, fun D hD => lc_it (walk_zip (n := xs.length) (by omega)) (fun i H2 => Same H H2 ∧ H D = none ∧ H2 D = some (.lst (List.replicate i (.bl true)))) ⟨same_new e1 hD, (upd_none hD).2, upd_same⟩ (fun i H2 _ e => ⟨e.1.seq q1, e.1.seq q2⟩) ?_ ?_⟩
          | refine .inr ⟨same_t e1 q1, same_t e1 q2, fun D hD => lc_it (walk_zipT (n := xs.length) (by omega)) (fun i H2 => Same H H2 ∧ H D = none ∧ H2 D = some (.lst (List.replicate i (.bl true)))) ⟨same_new e1 hD, (upd_none hD).2, upd_same⟩ (fun i H2 _ e => ⟨same_t e.1 q1, same_t e.1 q2⟩) ?_ ?_⟩
        · rintro i v H2 H3 hlt ⟨e2, d0, d2⟩ ⟨U, x', y', rfl, hU, rfl, hx, hy⟩
          refine ⟨U, _, rfl, SqT.of upd_same, rfl, _, _, rfl, _, _, rfl, rfl, rfl, ?_⟩
          have e3 := same_new e2 hU (o := .tup [x', y'])
          have ud : U ≠ D := fun z => by rw [z, d2] at hU; cases hU
          refine ⟨_, rfl, _, rfl, x', y', rfl, (hi i x' y' hx hy).keep e3, fun H4 e4 => ⟨List.replicate i (.bl true), e4 _ _ ((upd_ne ud.symm).trans d2), by rw [List.length_replicate, sizeLine_eq]; omega, fun c o hc => ?_, d0, ?_⟩⟩
          · have dc : c ≠ D := fun z => by rw [z, d0] at hc; cases hc
            rw [upd_ne dc]
            exact e4 _ _ (e3 _ _ hc)
          · rw [upd_same, List.replicate_succ']
        · rintro H2 ⟨e2, d0, d2⟩
          refine ⟨D, List.replicate xs.length true, rfl, ?_, ?_, e2⟩
          · rw [List.map_replicate]
            exact SqL.of d2
          · simp
theorem ok_same {f : Addr} {fd : FuncData} (F : DefX K mg "_law_same" s_same ["_law_found", "_law_due"] f fd) (T : Txt K mg) : ∀ n : Nat, Cal P w K mg base CX0 (n + 1) "_law_same" (spSame K n)
  | 0 => ok_same0 F T 0 0 _ (cal_bot F) (Nat.le_refl _) (fun _ h => nomatch h)
  | n + 1 => ok_same0 F T (n + 1) (n + 1) _ (ok_same F T n) (Nat.le_refl _) (fun m h => by cases h; rfl)
end
/-! ### the errors -/
abbrev s_BadField_init : Stmt := inClass (topS 2) 0
theorem sc_BadField_init : FnScope ["self", "index"] ["self", "index"] (defScope s_BadField_init) := ⟨rfl, rfl, rfl, by decide +kernel, rfl, by decide +kernel, by decide +kernel⟩
abbrev s_BadModes_init : Stmt := inClass (topS 3) 0
theorem sc_BadModes_init : FnScope ["self", "modes"] ["self", "modes"] (defScope s_BadModes_init) := ⟨rfl, rfl, rfl, by decide +kernel, rfl, by decide +kernel, by decide +kernel⟩
abbrev s_UnknownCall_init : Stmt := inClass (topS 5) 0
theorem sc_UnknownCall_init : FnScope ["self", "name"] ["self", "name"] (defScope s_UnknownCall_init) := ⟨rfl, rfl, rfl, by decide +kernel, rfl, by decide +kernel, by decide +kernel⟩
abbrev s_BadPlace_init : Stmt := inClass (topS 6) 0
theorem sc_BadPlace_init : FnScope ["self", "place"] ["self", "place"] (defScope s_BadPlace_init) := ⟨rfl, rfl, rfl, by decide +kernel, rfl, by decide +kernel, by decide +kernel⟩
abbrev s_BadText_init : Stmt := inClass (topS 7) 0
theorem sc_BadText_init : FnScope ["self", "line"] ["self", "line"] (defScope s_BadText_init) := ⟨rfl, rfl, rfl, by decide +kernel, rfl, by decide +kernel, by decide +kernel⟩
abbrev s_BadRow_init : Stmt := inClass (topS 8) 0
theorem sc_BadRow_init : FnScope ["self", "index"] ["self", "index"] (defScope s_BadRow_init) := ⟨rfl, rfl, rfl, by decide +kernel, rfl, by decide +kernel, by decide +kernel⟩
abbrev s_BadWord_init : Stmt := inClass (topS 9) 0
theorem sc_BadWord_init : FnScope ["self", "word"] ["self", "word"] (defScope s_BadWord_init) := ⟨rfl, rfl, rfl, by decide +kernel, rfl, by decide +kernel, by decide +kernel⟩
abbrev s_BadWish_init : Stmt := inClass (topS 12) 0
theorem sc_BadWish_init : FnScope ["self", "wish"] ["self", "wish"] (defScope s_BadWish_init) := ⟨rfl, rfl, rfl, by decide +kernel, rfl, by decide +kernel, by decide +kernel⟩
abbrev s_BadRun_init : Stmt := inClass (topS 13) 0
theorem sc_BadRun_init : FnScope ["self", "thing"] ["self", "thing"] (defScope s_BadRun_init) := ⟨rfl, rfl, rfl, by decide +kernel, rfl, by decide +kernel, by decide +kernel⟩
abbrev s_BadCallers_init : Stmt := inClass (topS 14) 0
theorem sc_BadCallers_init : FnScope ["self", "callers"] ["self", "callers"] (defScope s_BadCallers_init) := ⟨rfl, rfl, rfl, by decide +kernel, rfl, by decide +kernel, by decide +kernel⟩
abbrev s_BadKind_init : Stmt := inClass (topS 15) 0
theorem sc_BadKind_init : FnScope ["self", "kind"] ["self", "kind"] (defScope s_BadKind_init) := ⟨rfl, rfl, rfl, by decide +kernel, rfl, by decide +kernel, by decide +kernel⟩
abbrev s_BadRule_init : Stmt := inClass (topS 16) 0
theorem sc_BadRule_init : FnScope ["self", "index"] ["self", "index"] (defScope s_BadRule_init) := ⟨rfl, rfl, rfl, by decide +kernel, rfl, by decide +kernel, by decide +kernel⟩
abbrev s_BadCall_init : Stmt := inClass (topS 4) 0
theorem sc_BadCall_init : FnScope ["self", "index", "reason"] ["self", "index", "reason"] (defScope s_BadCall_init) := ⟨rfl, rfl, rfl, by decide +kernel, rfl, by decide +kernel, by decide +kernel⟩
structure EA where
  BadField : Addr
  BadModes : Addr
  UnknownCall : Addr
  BadPlace : Addr
  BadText : Addr
  BadRow : Addr
  BadWord : Addr
  BadWish : Addr
  BadRun : Addr
  BadCallers : Addr
  BadKind : Addr
  BadRule : Addr
  BadCall : Addr
  Refused : Addr
  BadThing : Addr
  MakerError : Addr
/-- the classes in the order in which they are asked -/
def EA.l (A : EA) : List Addr := [A.BadField, A.BadModes, A.UnknownCall, A.BadPlace, A.BadText, A.BadRow, A.BadWord, A.BadWish, A.BadRun, A.BadCallers, A.BadKind, A.BadRule, A.BadCall, A.Refused, A.BadThing]
structure Es (P : Program) (w : World) (K : PySem.W.Frag) (mg : Str → Option Value) (base : Heap) (A : EA) : Prop where
  e_BadField : ErrCal P w K mg base 1 "BadField" A.BadField (spErr1 A.BadField "index") 1 [] (fun us _ => us) (fun vs _ => vs)
  k_BadField : ErrCal P w K mg base 1 "BadField" A.BadField (spErr1 A.BadField "index") 0 ["index"] (fun us ws => us ++ ws) (fun vs zs => vs ++ zs)
  f_BadField : ErrF K A.BadField
  n_BadField : PySem.W.findIn K (.ref A.BadField) "index" = some none
  e_BadModes : ErrCal P w K mg base 1 "BadModes" A.BadModes (spErr1 A.BadModes "modes") 1 [] (fun us _ => us) (fun vs _ => vs)
  k_BadModes : ErrCal P w K mg base 1 "BadModes" A.BadModes (spErr1 A.BadModes "modes") 0 ["modes"] (fun us ws => us ++ ws) (fun vs zs => vs ++ zs)
  f_BadModes : ErrF K A.BadModes
  n_BadModes : PySem.W.findIn K (.ref A.BadModes) "modes" = some none
  e_UnknownCall : ErrCal P w K mg base 1 "UnknownCall" A.UnknownCall (spErr1 A.UnknownCall "name") 1 [] (fun us _ => us) (fun vs _ => vs)
  k_UnknownCall : ErrCal P w K mg base 1 "UnknownCall" A.UnknownCall (spErr1 A.UnknownCall "name") 0 ["name"] (fun us ws => us ++ ws) (fun vs zs => vs ++ zs)
  f_UnknownCall : ErrF K A.UnknownCall
  n_UnknownCall : PySem.W.findIn K (.ref A.UnknownCall) "name" = some none
  e_BadPlace : ErrCal P w K mg base 1 "BadPlace" A.BadPlace (spErr1 A.BadPlace "place") 1 [] (fun us _ => us) (fun vs _ => vs)
  k_BadPlace : ErrCal P w K mg base 1 "BadPlace" A.BadPlace (spErr1 A.BadPlace "place") 0 ["place"] (fun us ws => us ++ ws) (fun vs zs => vs ++ zs)
  f_BadPlace : ErrF K A.BadPlace
  n_BadPlace : PySem.W.findIn K (.ref A.BadPlace) "place" = some none
  e_BadText : ErrCal P w K mg base 1 "BadText" A.BadText (spErr1 A.BadText "line") 1 [] (fun us _ => us) (fun vs _ => vs)
  k_BadText : ErrCal P w K mg base 1 "BadText" A.BadText (spErr1 A.BadText "line") 0 ["line"] (fun us ws => us ++ ws) (fun vs zs => vs ++ zs)
  f_BadText : ErrF K A.BadText
  n_BadText : PySem.W.findIn K (.ref A.BadText) "line" = some none
  e_BadRow : ErrCal P w K mg base 1 "BadRow" A.BadRow (spErr1 A.BadRow "index") 1 [] (fun us _ => us) (fun vs _ => vs)
  k_BadRow : ErrCal P w K mg base 1 "BadRow" A.BadRow (spErr1 A.BadRow "index") 0 ["index"] (fun us ws => us ++ ws) (fun vs zs => vs ++ zs)
  f_BadRow : ErrF K A.BadRow
  n_BadRow : PySem.W.findIn K (.ref A.BadRow) "index" = some none
  e_BadWord : ErrCal P w K mg base 1 "BadWord" A.BadWord (spErr1 A.BadWord "word") 1 [] (fun us _ => us) (fun vs _ => vs)
  k_BadWord : ErrCal P w K mg base 1 "BadWord" A.BadWord (spErr1 A.BadWord "word") 0 ["word"] (fun us ws => us ++ ws) (fun vs zs => vs ++ zs)
  f_BadWord : ErrF K A.BadWord
  n_BadWord : PySem.W.findIn K (.ref A.BadWord) "word" = some none
  e_BadWish : ErrCal P w K mg base 1 "BadWish" A.BadWish (spErr1 A.BadWish "wish") 1 [] (fun us _ => us) (fun vs _ => vs)
  k_BadWish : ErrCal P w K mg base 1 "BadWish" A.BadWish (spErr1 A.BadWish "wish") 0 ["wish"] (fun us ws => us ++ ws) (fun vs zs => vs ++ zs)
  f_BadWish : ErrF K A.BadWish
  n_BadWish : PySem.W.findIn K (.ref A.BadWish) "wish" = some none
  e_BadRun : ErrCal P w K mg base 1 "BadRun" A.BadRun (spErr1 A.BadRun "thing") 1 [] (fun us _ => us) (fun vs _ => vs)
  k_BadRun : ErrCal P w K mg base 1 "BadRun" A.BadRun (spErr1 A.BadRun "thing") 0 ["thing"] (fun us ws => us ++ ws) (fun vs zs => vs ++ zs)
  f_BadRun : ErrF K A.BadRun
  n_BadRun : PySem.W.findIn K (.ref A.BadRun) "thing" = some none
  e_BadCallers : ErrCal P w K mg base 1 "BadCallers" A.BadCallers (spErr1 A.BadCallers "callers") 1 [] (fun us _ => us) (fun vs _ => vs)
  k_BadCallers : ErrCal P w K mg base 1 "BadCallers" A.BadCallers (spErr1 A.BadCallers "callers") 0 ["callers"] (fun us ws => us ++ ws) (fun vs zs => vs ++ zs)
  f_BadCallers : ErrF K A.BadCallers
  n_BadCallers : PySem.W.findIn K (.ref A.BadCallers) "callers" = some none
  e_BadKind : ErrCal P w K mg base 1 "BadKind" A.BadKind (spErr1 A.BadKind "kind") 1 [] (fun us _ => us) (fun vs _ => vs)
  k_BadKind : ErrCal P w K mg base 1 "BadKind" A.BadKind (spErr1 A.BadKind "kind") 0 ["kind"] (fun us ws => us ++ ws) (fun vs zs => vs ++ zs)
  f_BadKind : ErrF K A.BadKind
  n_BadKind : PySem.W.findIn K (.ref A.BadKind) "kind" = some none
  e_BadRule : ErrCal P w K mg base 1 "BadRule" A.BadRule (spErr1 A.BadRule "index") 1 [] (fun us _ => us) (fun vs _ => vs)
  k_BadRule : ErrCal P w K mg base 1 "BadRule" A.BadRule (spErr1 A.BadRule "index") 0 ["index"] (fun us ws => us ++ ws) (fun vs zs => vs ++ zs)
  f_BadRule : ErrF K A.BadRule
  n_BadRule : PySem.W.findIn K (.ref A.BadRule) "index" = some none
  e_BadCall : ErrCal P w K mg base 1 "BadCall" A.BadCall (spErr2 A.BadCall "index" "reason") 2 [] (fun us _ => us) (fun vs _ => vs)
  k_BadCall : ErrCal P w K mg base 1 "BadCall" A.BadCall (spErr2 A.BadCall "index" "reason") 0 ["reason", "index"] (fun us ws => us ++ ws.reverse) (fun vs zs => vs ++ zs.reverse)
  f_BadCall : ErrF K A.BadCall
  n_BadCall : PySem.W.findIn K (.ref A.BadCall) "index" = some none
  o_BadCall : PySem.W.findIn K (.ref A.BadCall) "reason" = some none
  x_MakerError : Exc0 K mg "MakerError" A.MakerError
  x_Refused : Exc0 K mg "Refused" A.Refused
  x_BadThing : Exc0 K mg "BadThing" A.BadThing
  i_MakerError : ErrI K A.MakerError
  is : ∀ (i : Nat) (C : Addr), A.l[i]? = some C → ErrI K C
  g_BadField : mg "BadField" = some (.ref A.BadField)
  g_BadModes : mg "BadModes" = some (.ref A.BadModes)
  g_UnknownCall : mg "UnknownCall" = some (.ref A.UnknownCall)
  g_BadPlace : mg "BadPlace" = some (.ref A.BadPlace)
  g_BadText : mg "BadText" = some (.ref A.BadText)
  g_BadRow : mg "BadRow" = some (.ref A.BadRow)
  g_BadWord : mg "BadWord" = some (.ref A.BadWord)
  g_BadWish : mg "BadWish" = some (.ref A.BadWish)
  g_BadRun : mg "BadRun" = some (.ref A.BadRun)
  g_BadCallers : mg "BadCallers" = some (.ref A.BadCallers)
  g_BadKind : mg "BadKind" = some (.ref A.BadKind)
  g_BadRule : mg "BadRule" = some (.ref A.BadRule)
  g_BadCall : mg "BadCall" = some (.ref A.BadCall)
  g_Refused : mg "Refused" = some (.ref A.Refused)
  g_BadThing : mg "BadThing" = some (.ref A.BadThing)
  g_MakerError : mg "MakerError" = some (.ref A.MakerError)
  kit : ∀ (i j : Nat) (C D : Addr), A.l[i]? = some C → A.l[j]? = some D → PySem.W.kitOne K (.ref C) (.ref D) = some (decide (j = i))
  kitM : ∀ (j : Nat) (D : Addr), A.l[j]? = some D → PySem.W.kitOne K (.ref A.MakerError) (.ref D) = some false
  kitB : ∀ (i : Nat) (C : Addr), A.l[i]? = some C → PySem.W.kitOne K (.ref C) (.ref A.MakerError) = some true
  kitV : ∀ (i : Nat) (C : Addr), A.l[i]? = some C → PySem.W.kitOne K (.ref C) (.type "ValueError") = some true
  kitMV : PySem.W.kitOne K (.ref A.MakerError) (.type "ValueError") = some true
section
variable {P : Program} {w : World} {K : PySem.W.Frag} {mg : Str → Option Value} {base : Heap}
theorem ok_BadField {f C : Addr} {fd : FuncData} (F : Fun K "__init__" "BadField.__init__" s_BadField_init f fd) (T : OexC K C) (hn : PySem.W.findIn K (.ref C) "index" = some none) : FnOk P w K mg base CX0 1 f fd ["self", "index"] (spErr1 C "index") := by
  refine F.ok sc_BadField_init (fun vs H Q E h => ?_) (fun cdv A outer s H vs Q E hr h => ?_)
  · obtain ⟨a, v, rfl, _⟩ := h
    rfl
  · obtain ⟨a, v, rfl, ha, k⟩ := h
    exact ⟨_, (pss_one (ps_ost (pv 0) (pv 1))), ⟨_, rfl, _, rfl, a, C, rfl, T, hn, .inl ⟨ha, k⟩⟩⟩
theorem ok_BadModes {f C : Addr} {fd : FuncData} (F : Fun K "__init__" "BadModes.__init__" s_BadModes_init f fd) (T : OexC K C) (hn : PySem.W.findIn K (.ref C) "modes" = some none) : FnOk P w K mg base CX0 1 f fd ["self", "modes"] (spErr1 C "modes") := by
  refine F.ok sc_BadModes_init (fun vs H Q E h => ?_) (fun cdv A outer s H vs Q E hr h => ?_)
  · obtain ⟨a, v, rfl, _⟩ := h
    rfl
  · obtain ⟨a, v, rfl, ha, k⟩ := h
    exact ⟨_, (pss_one (ps_ost (pv 0) (pv 1))), ⟨_, rfl, _, rfl, a, C, rfl, T, hn, .inl ⟨ha, k⟩⟩⟩
theorem ok_UnknownCall {f C : Addr} {fd : FuncData} (F : Fun K "__init__" "UnknownCall.__init__" s_UnknownCall_init f fd) (T : OexC K C) (hn : PySem.W.findIn K (.ref C) "name" = some none) : FnOk P w K mg base CX0 1 f fd ["self", "name"] (spErr1 C "name") := by
  refine F.ok sc_UnknownCall_init (fun vs H Q E h => ?_) (fun cdv A outer s H vs Q E hr h => ?_)
  · obtain ⟨a, v, rfl, _⟩ := h
    rfl
  · obtain ⟨a, v, rfl, ha, k⟩ := h
    exact ⟨_, (pss_one (ps_ost (pv 0) (pv 1))), ⟨_, rfl, _, rfl, a, C, rfl, T, hn, .inl ⟨ha, k⟩⟩⟩
theorem ok_BadPlace {f C : Addr} {fd : FuncData} (F : Fun K "__init__" "BadPlace.__init__" s_BadPlace_init f fd) (T : OexC K C) (hn : PySem.W.findIn K (.ref C) "place" = some none) : FnOk P w K mg base CX0 1 f fd ["self", "place"] (spErr1 C "place") := by
  refine F.ok sc_BadPlace_init (fun vs H Q E h => ?_) (fun cdv A outer s H vs Q E hr h => ?_)
  · obtain ⟨a, v, rfl, _⟩ := h
    rfl
  · obtain ⟨a, v, rfl, ha, k⟩ := h
    exact ⟨_, (pss_one (ps_ost (pv 0) (pv 1))), ⟨_, rfl, _, rfl, a, C, rfl, T, hn, .inl ⟨ha, k⟩⟩⟩
theorem ok_BadText {f C : Addr} {fd : FuncData} (F : Fun K "__init__" "BadText.__init__" s_BadText_init f fd) (T : OexC K C) (hn : PySem.W.findIn K (.ref C) "line" = some none) : FnOk P w K mg base CX0 1 f fd ["self", "line"] (spErr1 C "line") := by
  refine F.ok sc_BadText_init (fun vs H Q E h => ?_) (fun cdv A outer s H vs Q E hr h => ?_)
  · obtain ⟨a, v, rfl, _⟩ := h
    rfl
  · obtain ⟨a, v, rfl, ha, k⟩ := h
    exact ⟨_, (pss_one (ps_ost (pv 0) (pv 1))), ⟨_, rfl, _, rfl, a, C, rfl, T, hn, .inl ⟨ha, k⟩⟩⟩
theorem ok_BadRow {f C : Addr} {fd : FuncData} (F : Fun K "__init__" "BadRow.__init__" s_BadRow_init f fd) (T : OexC K C) (hn : PySem.W.findIn K (.ref C) "index" = some none) : FnOk P w K mg base CX0 1 f fd ["self", "index"] (spErr1 C "index") := by
  refine F.ok sc_BadRow_init (fun vs H Q E h => ?_) (fun cdv A outer s H vs Q E hr h => ?_)
  · obtain ⟨a, v, rfl, _⟩ := h
    rfl
  · obtain ⟨a, v, rfl, ha, k⟩ := h
    exact ⟨_, (pss_one (ps_ost (pv 0) (pv 1))), ⟨_, rfl, _, rfl, a, C, rfl, T, hn, .inl ⟨ha, k⟩⟩⟩
theorem ok_BadWord {f C : Addr} {fd : FuncData} (F : Fun K "__init__" "BadWord.__init__" s_BadWord_init f fd) (T : OexC K C) (hn : PySem.W.findIn K (.ref C) "word" = some none) : FnOk P w K mg base CX0 1 f fd ["self", "word"] (spErr1 C "word") := by
  refine F.ok sc_BadWord_init (fun vs H Q E h => ?_) (fun cdv A outer s H vs Q E hr h => ?_)
  · obtain ⟨a, v, rfl, _⟩ := h
    rfl
  · obtain ⟨a, v, rfl, ha, k⟩ := h
    exact ⟨_, (pss_one (ps_ost (pv 0) (pv 1))), ⟨_, rfl, _, rfl, a, C, rfl, T, hn, .inl ⟨ha, k⟩⟩⟩
theorem ok_BadWish {f C : Addr} {fd : FuncData} (F : Fun K "__init__" "BadWish.__init__" s_BadWish_init f fd) (T : OexC K C) (hn : PySem.W.findIn K (.ref C) "wish" = some none) : FnOk P w K mg base CX0 1 f fd ["self", "wish"] (spErr1 C "wish") := by
  refine F.ok sc_BadWish_init (fun vs H Q E h => ?_) (fun cdv A outer s H vs Q E hr h => ?_)
  · obtain ⟨a, v, rfl, _⟩ := h
    rfl
  · obtain ⟨a, v, rfl, ha, k⟩ := h
    exact ⟨_, (pss_one (ps_ost (pv 0) (pv 1))), ⟨_, rfl, _, rfl, a, C, rfl, T, hn, .inl ⟨ha, k⟩⟩⟩
theorem ok_BadRun {f C : Addr} {fd : FuncData} (F : Fun K "__init__" "BadRun.__init__" s_BadRun_init f fd) (T : OexC K C) (hn : PySem.W.findIn K (.ref C) "thing" = some none) : FnOk P w K mg base CX0 1 f fd ["self", "thing"] (spErr1 C "thing") := by
  refine F.ok sc_BadRun_init (fun vs H Q E h => ?_) (fun cdv A outer s H vs Q E hr h => ?_)
  · obtain ⟨a, v, rfl, _⟩ := h
    rfl
  · obtain ⟨a, v, rfl, ha, k⟩ := h
    exact ⟨_, (pss_one (ps_ost (pv 0) (pv 1))), ⟨_, rfl, _, rfl, a, C, rfl, T, hn, .inl ⟨ha, k⟩⟩⟩
theorem ok_BadCallers {f C : Addr} {fd : FuncData} (F : Fun K "__init__" "BadCallers.__init__" s_BadCallers_init f fd) (T : OexC K C) (hn : PySem.W.findIn K (.ref C) "callers" = some none) : FnOk P w K mg base CX0 1 f fd ["self", "callers"] (spErr1 C "callers") := by
  refine F.ok sc_BadCallers_init (fun vs H Q E h => ?_) (fun cdv A outer s H vs Q E hr h => ?_)
  · obtain ⟨a, v, rfl, _⟩ := h
    rfl
  · obtain ⟨a, v, rfl, ha, k⟩ := h
    exact ⟨_, (pss_one (ps_ost (pv 0) (pv 1))), ⟨_, rfl, _, rfl, a, C, rfl, T, hn, .inl ⟨ha, k⟩⟩⟩
theorem ok_BadKind {f C : Addr} {fd : FuncData} (F : Fun K "__init__" "BadKind.__init__" s_BadKind_init f fd) (T : OexC K C) (hn : PySem.W.findIn K (.ref C) "kind" = some none) : FnOk P w K mg base CX0 1 f fd ["self", "kind"] (spErr1 C "kind") := by
  refine F.ok sc_BadKind_init (fun vs H Q E h => ?_) (fun cdv A outer s H vs Q E hr h => ?_)
  · obtain ⟨a, v, rfl, _⟩ := h
    rfl
  · obtain ⟨a, v, rfl, ha, k⟩ := h
    exact ⟨_, (pss_one (ps_ost (pv 0) (pv 1))), ⟨_, rfl, _, rfl, a, C, rfl, T, hn, .inl ⟨ha, k⟩⟩⟩
theorem ok_BadRule {f C : Addr} {fd : FuncData} (F : Fun K "__init__" "BadRule.__init__" s_BadRule_init f fd) (T : OexC K C) (hn : PySem.W.findIn K (.ref C) "index" = some none) : FnOk P w K mg base CX0 1 f fd ["self", "index"] (spErr1 C "index") := by
  refine F.ok sc_BadRule_init (fun vs H Q E h => ?_) (fun cdv A outer s H vs Q E hr h => ?_)
  · obtain ⟨a, v, rfl, _⟩ := h
    rfl
  · obtain ⟨a, v, rfl, ha, k⟩ := h
    exact ⟨_, (pss_one (ps_ost (pv 0) (pv 1))), ⟨_, rfl, _, rfl, a, C, rfl, T, hn, .inl ⟨ha, k⟩⟩⟩
theorem ok_BadCall {f C : Addr} {fd : FuncData} (F : Fun K "__init__" "BadCall.__init__" s_BadCall_init f fd) (T : OexC K C) (hn : PySem.W.findIn K (.ref C) "index" = some none) (hm : PySem.W.findIn K (.ref C) "reason" = some none) : FnOk P w K mg base CX0 1 f fd ["self", "index", "reason"] (spErr2 C "index" "reason") := by
  refine F.ok sc_BadCall_init (fun vs H Q E h => ?_) (fun cdv A outer s H vs Q E hr h => ?_)
  · obtain ⟨a, v, u, rfl, _⟩ := h
    rfl
  · obtain ⟨a, v, u, rfl, ha, k⟩ := h
    refine ⟨_, (pss_cons (ps_ost (pv 0) (pv 1))
(pss_one (ps_ost (pv 0) (pv 2)))), ⟨_, rfl, _, rfl, a, C, rfl, T, hn, .inl ⟨ha, fun d hd da => ?_⟩⟩⟩
    exact ⟨_, rfl, _, rfl, a, C, rfl, T, hm, .inr ⟨d, _, upd_same, (upd_ne da).trans upd_same, (by show 1 ≤ 900; decide), k d hd da⟩⟩
end
/-! ### the lists of errors -/
abbrev s_with_one : Stmt := topS 23
theorem sc_with_one : FnScope ["_law_x", "_law_found"] ["_law_x"] (defScope s_with_one) := ⟨rfl, rfl, rfl, by decide +kernel, rfl, by decide +kernel, by decide +kernel⟩
abbrev s_by_place : Stmt := topS 24
theorem sc_by_place : FnScope ["_law_x", "_law_found"] ["_law_x"] (defScope s_by_place) := ⟨rfl, rfl, rfl, by decide +kernel, rfl, by decide +kernel, by decide +kernel⟩
abbrev s_held : Stmt := topS 25
theorem sc_held : FnScope ["_law_made", "_law_found"] ["_law_made"] (defScope s_held) := ⟨rfl, rfl, rfl, by decide +kernel, rfl, by decide +kernel, by decide +kernel⟩
abbrev s_classes : Stmt := topS 26
theorem sc_classes : FnScope ["_law_e", "_law_found"] ["_law_e"] (defScope s_classes) := ⟨rfl, rfl, rfl, by decide +kernel, rfl, by decide +kernel, by decide +kernel⟩
/-- the twelve errors with one attribute that holds v, in a list at l -/
def Made12 (A : EA) (H : Hp) (l : Addr) (v : V) (a0 a1 a2 a3 a4 a5 a6 a7 a8 a9 a10 a11 : Addr) : Prop := H l = some (.lst [.ref a0, .ref a1, .ref a2, .ref a3, .ref a4, .ref a5, .ref a6, .ref a7, .ref a8, .ref a9, .ref a10, .ref a11]) ∧ Err H A.BadField a0 [("index", v)] ∧ Err H A.BadModes a1 [("modes", v)] ∧ Err H A.UnknownCall a2 [("name", v)] ∧ Err H A.BadPlace a3 [("place", v)] ∧ Err H A.BadText a4 [("line", v)] ∧ Err H A.BadRow a5 [("index", v)] ∧ Err H A.BadWord a6 [("word", v)] ∧ Err H A.BadWish a7 [("wish", v)] ∧ Err H A.BadRun a8 [("thing", v)] ∧ Err H A.BadCallers a9 [("callers", v)] ∧ Err H A.BadKind a10 [("kind", v)] ∧ Err H A.BadRule a11 [("index", v)]
theorem Made12.keep {A : EA} {H H2 : Hp} {l : Addr} {v : V} {a0 a1 a2 a3 a4 a5 a6 a7 a8 a9 a10 a11 : Addr} (e : Same H H2) (h : Made12 A H l v a0 a1 a2 a3 a4 a5 a6 a7 a8 a9 a10 a11) : Made12 A H2 l v a0 a1 a2 a3 a4 a5 a6 a7 a8 a9 a10 a11 := by
  obtain ⟨h0, r0, r1, r2, r3, r4, r5, r6, r7, r8, r9, r10, r11⟩ := h
  exact ⟨e _ _ h0, r0.keep e, r1.keep e, r2.keep e, r3.keep e, r4.keep e, r5.keep e, r6.keep e, r7.keep e, r8.keep e, r9.keep e, r10.keep e, r11.keep e⟩
theorem Made12.put {A : EA} {H : Hp} {l p : Addr} {xs zs : List V} {v : V} {a0 a1 a2 a3 a4 a5 a6 a7 a8 a9 a10 a11 : Addr} (hp : H p = some (.lst xs)) (pl : l ≠ p) (h : Made12 A H l v a0 a1 a2 a3 a4 a5 a6 a7 a8 a9 a10 a11) : Made12 A (upd H p (.lst zs)) l v a0 a1 a2 a3 a4 a5 a6 a7 a8 a9 a10 a11 := by
  obtain ⟨h0, r0, r1, r2, r3, r4, r5, r6, r7, r8, r9, r10, r11⟩ := h
  exact ⟨(upd_ne pl).trans h0, r0.put hp, r1.put hp, r2.put hp, r3.put hp, r4.put hp, r5.put hp, r6.put hp, r7.put hp, r8.put hp, r9.put hp, r10.put hp, r11.put hp⟩
def spWith (A : EA) : Sp := fun vs H Q _ => ∃ v : V, vs = [v] ∧ ∀ (l a0 a1 a2 a3 a4 a5 a6 a7 a8 a9 a10 a11 : Addr) (H2 : Hp), Same H H2 → H l = none → Made12 A H2 l v a0 a1 a2 a3 a4 a5 a6 a7 a8 a9 a10 a11 → Q (.ref l) H2
def spHeld (A : EA) : Sp := fun vs H Q _ => ∃ (l : Addr) (v : V) (a0 a1 a2 a3 a4 a5 a6 a7 a8 a9 a10 a11 : Addr), vs = [.ref l] ∧ Made12 A H l v a0 a1 a2 a3 a4 a5 a6 a7 a8 a9 a10 a11 ∧ ∀ (q : Addr) (H2 : Hp), Same H H2 → H q = none → H2 q = some (.lst (List.replicate 12 v)) → Q (.ref q) H2
/-- an error of the class at C, with its dict or without -/
def AnyErr (H : Hp) (C a : Addr) : Prop := ∃ d, H a = some (exo a C d) ∧ ∀ dd, d = some dd → ∃ fs, H dd = some (exd dd fs)
theorem Err.any {H : Hp} {C a : Addr} {fs : List (Str × V)} (h : Err H C a fs) : AnyErr H C a := by
  obtain ⟨d, h1, h2⟩ := h
  exact ⟨some d, h1, fun dd e => by cases e; exact ⟨fs, h2⟩⟩
theorem AnyErr.keep {H H2 : Hp} {C a : Addr} (e : Same H H2) (h : AnyErr H C a) : AnyErr H2 C a := by
  obtain ⟨d, h1, h2⟩ := h
  refine ⟨d, e _ _ h1, fun dd q => ?_⟩
  obtain ⟨fs, hf⟩ := h2 dd q
  exact ⟨fs, e _ _ hf⟩
def spClasses (K : PySem.W.Frag) (A : EA) : Sp := fun vs H Q _ => ∃ (a C : Addr) (bs : List Bool), vs = [.ref a] ∧ AnyErr H C a ∧ ErrI K C ∧ bs.length = 15 ∧ (∀ (j : Nat) (D : Addr) (b : Bool), A.l[j]? = some D → bs[j]? = some b → PySem.W.kitOne K (.ref C) (.ref D) = some b) ∧ ∀ (q : Addr) (H2 : Hp), Same H H2 → H q = none → H2 q = some (.lst (bs.map V.bl)) → Q (.ref q) H2
theorem rd_isE {K : PySem.W.Frag} {σ : L2.St} {H : Hp} {Q : VK} {a C D : Addr} {b : Bool} {t : TA} (h : AnyErr H C a) (hi : ErrI K C) (hk : PySem.W.kitOne K (.ref C) (.ref D) = some b) (ht : ∀ R : List V → Hp → Prop, R [.ref a, .ref D] H → t σ H R) (q : Q (.bl b) H) : tCB (rIsErr K) t σ H Q := by
  obtain ⟨d, h1, h2⟩ := h
  exact ht _ ⟨a, C, d, .ref D, _, b, rfl, h1, h2, hi, .own _, hk, q⟩
section
variable {P : Program} {w : World} {K : PySem.W.Frag} {mg : Str → Option Value} {base : Heap} {A : EA}
theorem ok_with_one {f : Addr} {fd : FuncData} (F : DefX K mg "_law_with_one" s_with_one ["_law_x"] f fd) (Z : Es P w K mg base A) : Cal P w K mg base CX0 3 "_law_with_one" (spWith A) := by
  refine cal_mk F sc_with_one (fun vs H Q E h => ?_) (fun cdv A0 outer s H vs Q E hr h => ?_)
  · obtain ⟨v, rfl, _⟩ := h
    rfl
  · obtain ⟨v, rfl, k⟩ := h
    refine ⟨_, (pss_cons (ps_set (i := 1) sc_with_one.nd rfl (Or.inl rfl) (pe_lst (pa_cons (pe_errKC Z.k_BadField hr (by decide) rfl (pk_cons (pv 0) pk_nil)) (pa_cons (pe_errKC Z.k_BadModes hr (by decide) rfl (pk_cons (pv 0) pk_nil)) (pa_cons (pe_errKC Z.k_UnknownCall hr (by decide) rfl (pk_cons (pv 0) pk_nil)) (pa_cons (pe_errKC Z.k_BadPlace hr (by decide) rfl (pk_cons (pv 0) pk_nil)) (pa_cons (pe_errKC Z.k_BadText hr (by decide) rfl (pk_cons (pv 0) pk_nil)) pa_nil)))))))
(pss_cons (ps_set (i := 1) sc_with_one.nd rfl (Or.inl rfl) (pe_op op_cat (pv 1) (pe_lst (pa_cons (pe_errKC Z.k_BadRow hr (by decide) rfl (pk_cons (pv 0) pk_nil)) (pa_cons (pe_errKC Z.k_BadWord hr (by decide) rfl (pk_cons (pv 0) pk_nil)) (pa_cons (pe_errKC Z.k_BadWish hr (by decide) rfl (pk_cons (pv 0) pk_nil)) (pa_cons (pe_errKC Z.k_BadRun hr (by decide) rfl (pk_cons (pv 0) pk_nil)) (pa_cons (pe_errKC Z.k_BadCallers hr (by decide) rfl (pk_cons (pv 0) pk_nil)) pa_nil))))))))
(pss_one (ps_ret (pe_op op_cat (pv 1) (pe_lst (pa_cons (pe_errKC Z.k_BadKind hr (by decide) rfl (pk_cons (pv 0) pk_nil)) (pa_cons (pe_errKC Z.k_BadRule hr (by decide) rfl (pk_cons (pv 0) pk_nil)) pa_nil)))))))), ?_⟩
    walk_at "x"
    refine rd_errK (fun R r => ⟨_, rfl, r⟩) fun a0 H0 n0 s0 r0 => ?_
    refine rd_errK (fun R r => ⟨_, rfl, r⟩) fun a1 H1 n1 s1 r1 => ?_
    refine rd_errK (fun R r => ⟨_, rfl, r⟩) fun a2 H2 n2 s2 r2 => ?_
    refine rd_errK (fun R r => ⟨_, rfl, r⟩) fun a3 H3 n3 s3 r3 => ?_
    refine rd_errK (fun R r => ⟨_, rfl, r⟩) fun a4 H4 n4 s4 r4 => ?_
    refine ⟨(by show 5 ≤ sizeLine; decide), fun l0 hl0 => ?_⟩
    have u0 := same_new (Same.refl _) hl0 (o := .lst [.ref a0, .ref a1, .ref a2, .ref a3, .ref a4])
    have f0 := upd_same (H := H4) (a := l0) (o := .lst [.ref a0, .ref a1, .ref a2, .ref a3, .ref a4])
    refine ⟨_, rfl, ?_⟩
    walk_at "x"
    refine rd_errK (fun R r => ⟨_, rfl, r⟩) fun a5 H5 n5 s5 r5 => ?_
    refine rd_errK (fun R r => ⟨_, rfl, r⟩) fun a6 H6 n6 s6 r6 => ?_
    refine rd_errK (fun R r => ⟨_, rfl, r⟩) fun a7 H7 n7 s7 r7 => ?_
    refine rd_errK (fun R r => ⟨_, rfl, r⟩) fun a8 H8 n8 s8 r8 => ?_
    refine rd_errK (fun R r => ⟨_, rfl, r⟩) fun a9 H9 n9 s9 r9 => ?_
    refine ⟨(by show 5 ≤ sizeLine; decide), fun l1 hl1 => ?_⟩
    have u1 := same_new (Same.refl _) hl1 (o := .lst [.ref a5, .ref a6, .ref a7, .ref a8, .ref a9])
    have g1 := ((((((s5).trans s6).trans s7).trans s8).trans s9).trans u1) _ _ f0
    refine ⟨l0, l1, [.ref a0, .ref a1, .ref a2, .ref a3, .ref a4], [.ref a5, .ref a6, .ref a7, .ref a8, .ref a9], rfl, rfl, g1, upd_same, (by show 10 ≤ sizeLine; decide), fun m1 hm1 => ?_⟩
    have v1 := same_new (Same.refl _) hm1 (o := .lst [.ref a0, .ref a1, .ref a2, .ref a3, .ref a4, .ref a5, .ref a6, .ref a7, .ref a8, .ref a9])
    have f1 := upd_same (H := upd H9 l1 (.lst [.ref a5, .ref a6, .ref a7, .ref a8, .ref a9])) (a := m1) (o := .lst [.ref a0, .ref a1, .ref a2, .ref a3, .ref a4, .ref a5, .ref a6, .ref a7, .ref a8, .ref a9])
    refine ⟨_, rfl, ?_⟩
    walk_at "x"
    refine rd_errK (fun R r => ⟨_, rfl, r⟩) fun a10 H10 n10 s10 r10 => ?_
    refine rd_errK (fun R r => ⟨_, rfl, r⟩) fun a11 H11 n11 s11 r11 => ?_
    refine ⟨(by show 2 ≤ sizeLine; decide), fun l2 hl2 => ?_⟩
    have u2 := same_new (Same.refl _) hl2 (o := .lst [.ref a10, .ref a11])
    have g2 := (((s10).trans s11).trans u2) _ _ f1
    refine ⟨m1, l2, [.ref a0, .ref a1, .ref a2, .ref a3, .ref a4, .ref a5, .ref a6, .ref a7, .ref a8, .ref a9], [.ref a10, .ref a11], rfl, rfl, g2, upd_same, (by show 12 ≤ sizeLine; decide), fun m2 hm2 => ?_⟩
    have v2 := same_new (Same.refl _) hm2 (o := .lst [.ref a0, .ref a1, .ref a2, .ref a3, .ref a4, .ref a5, .ref a6, .ref a7, .ref a8, .ref a9, .ref a10, .ref a11])
    have T16 := v2
    have T15 := u2.trans T16
    have T14 := s11.trans T15
    have T13 := s10.trans T14
    have T12 := v1.trans T13
    have T11 := u1.trans T12
    have T10 := s9.trans T11
    have T9 := s8.trans T10
    have T8 := s7.trans T9
    have T7 := s6.trans T8
    have T6 := s5.trans T7
    have T5 := u0.trans T6
    have T4 := s4.trans T5
    have T3 := s3.trans T4
    have T2 := s2.trans T3
    have T1 := s1.trans T2
    have T0 := s0.trans T1
    have hn : H m2 = none := by
      exact ((((((((((((((((s0).trans s1).trans s2).trans s3).trans s4).trans u0).trans s5).trans s6).trans s7).trans s8).trans s9).trans u1).trans v1).trans s10).trans s11).trans u2).free hm2
    exact k m2 a0 a1 a2 a3 a4 a5 a6 a7 a8 a9 a10 a11 _ T0 hn ⟨upd_same, r0.keep T1, r1.keep T2, r2.keep T3, r3.keep T4, r4.keep T5, r5.keep T7, r6.keep T8, r7.keep T9, r8.keep T10, r9.keep T11, r10.keep T14, r11.keep T15⟩
theorem ok_by_place {f : Addr} {fd : FuncData} (F : DefX K mg "_law_by_place" s_by_place ["_law_x"] f fd) (Z : Es P w K mg base A) : Cal P w K mg base CX0 3 "_law_by_place" (spWith A) := by
  refine cal_mk F sc_by_place (fun vs H Q E h => ?_) (fun cdv A0 outer s H vs Q E hr h => ?_)
  · obtain ⟨v, rfl, _⟩ := h
    rfl
  · obtain ⟨v, rfl, k⟩ := h
    refine ⟨_, (pss_cons (ps_set (i := 1) sc_by_place.nd rfl (Or.inl rfl) (pe_lst (pa_cons (pe_errC Z.e_BadField hr (by decide) rfl (pa_cons (pv 0) pa_nil)) (pa_cons (pe_errC Z.e_BadModes hr (by decide) rfl (pa_cons (pv 0) pa_nil)) (pa_cons (pe_errC Z.e_UnknownCall hr (by decide) rfl (pa_cons (pv 0) pa_nil)) (pa_cons (pe_errC Z.e_BadPlace hr (by decide) rfl (pa_cons (pv 0) pa_nil)) (pa_cons (pe_errC Z.e_BadText hr (by decide) rfl (pa_cons (pv 0) pa_nil)) (pa_cons (pe_errC Z.e_BadRow hr (by decide) rfl (pa_cons (pv 0) pa_nil)) (pa_cons (pe_errC Z.e_BadWord hr (by decide) rfl (pa_cons (pv 0) pa_nil)) (pa_cons (pe_errC Z.e_BadWish hr (by decide) rfl (pa_cons (pv 0) pa_nil)) pa_nil))))))))))
(pss_one (ps_ret (pe_op op_cat (pv 1) (pe_lst (pa_cons (pe_errC Z.e_BadRun hr (by decide) rfl (pa_cons (pv 0) pa_nil)) (pa_cons (pe_errC Z.e_BadCallers hr (by decide) rfl (pa_cons (pv 0) pa_nil)) (pa_cons (pe_errC Z.e_BadKind hr (by decide) rfl (pa_cons (pv 0) pa_nil)) (pa_cons (pe_errC Z.e_BadRule hr (by decide) rfl (pa_cons (pv 0) pa_nil)) pa_nil))))))))), ?_⟩
    walk_at "x"
    refine rd_err1 (fun R r => ⟨_, rfl, r⟩) fun a0 H0 n0 s0 r0 => ?_
    refine rd_err1 (fun R r => ⟨_, rfl, r⟩) fun a1 H1 n1 s1 r1 => ?_
    refine rd_err1 (fun R r => ⟨_, rfl, r⟩) fun a2 H2 n2 s2 r2 => ?_
    refine rd_err1 (fun R r => ⟨_, rfl, r⟩) fun a3 H3 n3 s3 r3 => ?_
    refine rd_err1 (fun R r => ⟨_, rfl, r⟩) fun a4 H4 n4 s4 r4 => ?_
    refine rd_err1 (fun R r => ⟨_, rfl, r⟩) fun a5 H5 n5 s5 r5 => ?_
    refine rd_err1 (fun R r => ⟨_, rfl, r⟩) fun a6 H6 n6 s6 r6 => ?_
    refine rd_err1 (fun R r => ⟨_, rfl, r⟩) fun a7 H7 n7 s7 r7 => ?_
    refine ⟨(by show 8 ≤ sizeLine; decide), fun l0 hl0 => ?_⟩
    have u0 := same_new (Same.refl _) hl0 (o := .lst [.ref a0, .ref a1, .ref a2, .ref a3, .ref a4, .ref a5, .ref a6, .ref a7])
    have f0 := upd_same (H := H7) (a := l0) (o := .lst [.ref a0, .ref a1, .ref a2, .ref a3, .ref a4, .ref a5, .ref a6, .ref a7])
    refine ⟨_, rfl, ?_⟩
    walk_at "x"
    refine rd_err1 (fun R r => ⟨_, rfl, r⟩) fun a8 H8 n8 s8 r8 => ?_
    refine rd_err1 (fun R r => ⟨_, rfl, r⟩) fun a9 H9 n9 s9 r9 => ?_
    refine rd_err1 (fun R r => ⟨_, rfl, r⟩) fun a10 H10 n10 s10 r10 => ?_
    refine rd_err1 (fun R r => ⟨_, rfl, r⟩) fun a11 H11 n11 s11 r11 => ?_
    refine ⟨(by show 4 ≤ sizeLine; decide), fun l1 hl1 => ?_⟩
    have u1 := same_new (Same.refl _) hl1 (o := .lst [.ref a8, .ref a9, .ref a10, .ref a11])
    have g1 := (((((s8).trans s9).trans s10).trans s11).trans u1) _ _ f0
    refine ⟨l0, l1, [.ref a0, .ref a1, .ref a2, .ref a3, .ref a4, .ref a5, .ref a6, .ref a7], [.ref a8, .ref a9, .ref a10, .ref a11], rfl, rfl, g1, upd_same, (by show 12 ≤ sizeLine; decide), fun m1 hm1 => ?_⟩
    have v1 := same_new (Same.refl _) hm1 (o := .lst [.ref a0, .ref a1, .ref a2, .ref a3, .ref a4, .ref a5, .ref a6, .ref a7, .ref a8, .ref a9, .ref a10, .ref a11])
    have T14 := v1
    have T13 := u1.trans T14
    have T12 := s11.trans T13
    have T11 := s10.trans T12
    have T10 := s9.trans T11
    have T9 := s8.trans T10
    have T8 := u0.trans T9
    have T7 := s7.trans T8
    have T6 := s6.trans T7
    have T5 := s5.trans T6
    have T4 := s4.trans T5
    have T3 := s3.trans T4
    have T2 := s2.trans T3
    have T1 := s1.trans T2
    have T0 := s0.trans T1
    have hn : H m1 = none := by
      exact ((((((((((((((s0).trans s1).trans s2).trans s3).trans s4).trans s5).trans s6).trans s7).trans u0).trans s8).trans s9).trans s10).trans s11).trans u1).free hm1
    exact k m1 a0 a1 a2 a3 a4 a5 a6 a7 a8 a9 a10 a11 _ T0 hn ⟨upd_same, r0.keep T1, r1.keep T2, r2.keep T3, r3.keep T4, r4.keep T5, r5.keep T6, r6.keep T7, r7.keep T8, r8.keep T10, r9.keep T11, r10.keep T12, r11.keep T13⟩
theorem ok_held {f : Addr} {fd : FuncData} (F : DefX K mg "_law_held" s_held ["_law_made"] f fd) (Z : Es P w K mg base A) : Cal P w K mg base CX0 1 "_law_held" (spHeld A) := by
  refine cal_mk F sc_held (fun vs H Q E h => ?_) (fun cdv A0 outer s H vs Q E hr h => ?_)
  · obtain ⟨l, v, a0, a1, a2, a3, a4, a5, a6, a7, a8, a9, a10, a11, rfl, _⟩ := h
    rfl
  · obtain ⟨l, v, a0, a1, a2, a3, a4, a5, a6, a7, a8, a9, a10, a11, rfl, ⟨h0, r0, r1, r2, r3, r4, r5, r6, r7, r8, r9, r10, r11⟩, k⟩ := h
    refine ⟨_, (pss_cons (ps_set (i := 1) sc_held.nd rfl (Or.inl rfl) (pe_lst (pa_cons (pe_errF (pe_ix ix_list (pv 0) pe_int (fun _ _ => rfl))) (pa_cons (pe_errF (pe_ix ix_list (pv 0) pe_int (fun _ _ => rfl))) (pa_cons (pe_errF (pe_ix ix_list (pv 0) pe_int (fun _ _ => rfl))) (pa_cons (pe_errF (pe_ix ix_list (pv 0) pe_int (fun _ _ => rfl))) (pa_cons (pe_errF (pe_ix ix_list (pv 0) pe_int (fun _ _ => rfl))) (pa_cons (pe_errF (pe_ix ix_list (pv 0) pe_int (fun _ _ => rfl))) (pa_cons (pe_errF (pe_ix ix_list (pv 0) pe_int (fun _ _ => rfl))) pa_nil)))))))))
(pss_one (ps_ret (pe_op op_cat (pv 1) (pe_lst (pa_cons (pe_errF (pe_ix ix_list (pv 0) pe_int (fun _ _ => rfl))) (pa_cons (pe_errF (pe_ix ix_list (pv 0) pe_int (fun _ _ => rfl))) (pa_cons (pe_errF (pe_ix ix_list (pv 0) pe_int (fun _ _ => rfl))) (pa_cons (pe_errF (pe_ix ix_list (pv 0) pe_int (fun _ _ => rfl))) (pa_cons (pe_errF (pe_ix ix_list (pv 0) pe_int (fun _ _ => rfl))) pa_nil)))))))))), ?_⟩
    walk_at "x"
    refine rd_errF (fun R r => ⟨_, rfl, l, _, 0, .ref a0, rfl, rfl, SqL.of h0, rfl, r⟩) r0 Z.f_BadField Z.n_BadField rfl ?_
    refine rd_errF (fun R r => ⟨_, rfl, l, _, 1, .ref a1, rfl, rfl, SqL.of h0, rfl, r⟩) r1 Z.f_BadModes Z.n_BadModes rfl ?_
    refine rd_errF (fun R r => ⟨_, rfl, l, _, 2, .ref a2, rfl, rfl, SqL.of h0, rfl, r⟩) r2 Z.f_UnknownCall Z.n_UnknownCall rfl ?_
    refine rd_errF (fun R r => ⟨_, rfl, l, _, 3, .ref a3, rfl, rfl, SqL.of h0, rfl, r⟩) r3 Z.f_BadPlace Z.n_BadPlace rfl ?_
    refine rd_errF (fun R r => ⟨_, rfl, l, _, 4, .ref a4, rfl, rfl, SqL.of h0, rfl, r⟩) r4 Z.f_BadText Z.n_BadText rfl ?_
    refine rd_errF (fun R r => ⟨_, rfl, l, _, 5, .ref a5, rfl, rfl, SqL.of h0, rfl, r⟩) r5 Z.f_BadRow Z.n_BadRow rfl ?_
    refine rd_errF (fun R r => ⟨_, rfl, l, _, 6, .ref a6, rfl, rfl, SqL.of h0, rfl, r⟩) r6 Z.f_BadWord Z.n_BadWord rfl ?_
    refine ⟨(by show 7 ≤ sizeLine; decide), fun q hq => ?_⟩
    have e0 := same_new (Same.refl H) hq (o := .lst [v, v, v, v, v, v, v])
    have h1 := e0 _ _ h0
    refine ⟨_, rfl, ?_⟩
    walk_at "x"
    refine rd_errF (fun R r => ⟨_, rfl, l, _, 7, .ref a7, rfl, rfl, SqL.of h1, rfl, r⟩) (r7.keep e0) Z.f_BadWish Z.n_BadWish rfl ?_
    refine rd_errF (fun R r => ⟨_, rfl, l, _, 8, .ref a8, rfl, rfl, SqL.of h1, rfl, r⟩) (r8.keep e0) Z.f_BadRun Z.n_BadRun rfl ?_
    refine rd_errF (fun R r => ⟨_, rfl, l, _, 9, .ref a9, rfl, rfl, SqL.of h1, rfl, r⟩) (r9.keep e0) Z.f_BadCallers Z.n_BadCallers rfl ?_
    refine rd_errF (fun R r => ⟨_, rfl, l, _, 10, .ref a10, rfl, rfl, SqL.of h1, rfl, r⟩) (r10.keep e0) Z.f_BadKind Z.n_BadKind rfl ?_
    refine rd_errF (fun R r => ⟨_, rfl, l, _, 11, .ref a11, rfl, rfl, SqL.of h1, rfl, r⟩) (r11.keep e0) Z.f_BadRule Z.n_BadRule rfl ?_
    refine ⟨(by show 5 ≤ sizeLine; decide), fun q2 hq2 => ?_⟩
    obtain ⟨qq, hq3⟩ := upd_none hq2
    refine ⟨q, q2, [v, v, v, v, v, v, v], [v, v, v, v, v], rfl, rfl, (upd_ne (Ne.symm qq)).trans upd_same, upd_same, (by show 12 ≤ sizeLine; decide), fun q4 hq4 => ?_⟩
    have e1 := same_new e0 hq2 (o := .lst [v, v, v, v, v])
    exact k q4 _ (same_new e1 hq4) (e1.free hq4) upd_same
theorem ok_classes {f : Addr} {fd : FuncData} (F : DefX K mg "_law_classes" s_classes ["_law_e"] f fd) (T : Txt K mg) (Z : Es P w K mg base A) : Cal P w K mg base CX0 1 "_law_classes" (spClasses K A) := by
  refine cal_mk F sc_classes (fun vs H Q E h => ?_) (fun cdv A0 outer s H vs Q E hr h => ?_)
  · obtain ⟨a, C, bs, rfl, _⟩ := h
    rfl
  · obtain ⟨a, C, bs, rfl, ha, hi, hb, hk, k⟩ := h
    obtain ⟨b0, b1, b2, b3, b4, b5, b6, b7, b8, b9, b10, b11, b12, b13, b14, rfl⟩ : ∃ b0 b1 b2 b3 b4 b5 b6 b7 b8 b9 b10 b11 b12 b13 b14, bs = [b0, b1, b2, b3, b4, b5, b6, b7, b8, b9, b10, b11, b12, b13, b14] := by
      match bs, hb with
      | [b0, b1, b2, b3, b4, b5, b6, b7, b8, b9, b10, b11, b12, b13, b14], _ => exact ⟨_, _, _, _, _, _, _, _, _, _, _, _, _, _, _, rfl⟩
    refine ⟨_, (pss_cons (ps_set (i := 1) sc_classes.nd rfl (Or.inl rfl) (pe_lst (pa_cons (pe_callB call_isErr (by rfl) T.isinstance (by decide +kernel) (pa_cons (pv 0) (pa_cons (pe_refv (by rfl) Z.g_BadField) pa_nil))) (pa_cons (pe_callB call_isErr (by rfl) T.isinstance (by decide +kernel) (pa_cons (pv 0) (pa_cons (pe_refv (by rfl) Z.g_BadModes) pa_nil))) (pa_cons (pe_callB call_isErr (by rfl) T.isinstance (by decide +kernel) (pa_cons (pv 0) (pa_cons (pe_refv (by rfl) Z.g_UnknownCall) pa_nil))) (pa_cons (pe_callB call_isErr (by rfl) T.isinstance (by decide +kernel) (pa_cons (pv 0) (pa_cons (pe_refv (by rfl) Z.g_BadPlace) pa_nil))) pa_nil))))))
(pss_cons (ps_set (i := 1) sc_classes.nd rfl (Or.inl rfl) (pe_op op_cat (pv 1) (pe_lst (pa_cons (pe_callB call_isErr (by rfl) T.isinstance (by decide +kernel) (pa_cons (pv 0) (pa_cons (pe_refv (by rfl) Z.g_BadText) pa_nil))) (pa_cons (pe_callB call_isErr (by rfl) T.isinstance (by decide +kernel) (pa_cons (pv 0) (pa_cons (pe_refv (by rfl) Z.g_BadRow) pa_nil))) (pa_cons (pe_callB call_isErr (by rfl) T.isinstance (by decide +kernel) (pa_cons (pv 0) (pa_cons (pe_refv (by rfl) Z.g_BadWord) pa_nil))) (pa_cons (pe_callB call_isErr (by rfl) T.isinstance (by decide +kernel) (pa_cons (pv 0) (pa_cons (pe_refv (by rfl) Z.g_BadWish) pa_nil))) pa_nil)))))))
(pss_cons (ps_set (i := 1) sc_classes.nd rfl (Or.inl rfl) (pe_op op_cat (pv 1) (pe_lst (pa_cons (pe_callB call_isErr (by rfl) T.isinstance (by decide +kernel) (pa_cons (pv 0) (pa_cons (pe_refv (by rfl) Z.g_BadRun) pa_nil))) (pa_cons (pe_callB call_isErr (by rfl) T.isinstance (by decide +kernel) (pa_cons (pv 0) (pa_cons (pe_refv (by rfl) Z.g_BadCallers) pa_nil))) (pa_cons (pe_callB call_isErr (by rfl) T.isinstance (by decide +kernel) (pa_cons (pv 0) (pa_cons (pe_refv (by rfl) Z.g_BadKind) pa_nil))) pa_nil))))))
(pss_cons (ps_set (i := 1) sc_classes.nd rfl (Or.inl rfl) (pe_op op_cat (pv 1) (pe_lst (pa_cons (pe_callB call_isErr (by rfl) T.isinstance (by decide +kernel) (pa_cons (pv 0) (pa_cons (pe_refv (by rfl) Z.g_BadRule) pa_nil))) (pa_cons (pe_callB call_isErr (by rfl) T.isinstance (by decide +kernel) (pa_cons (pv 0) (pa_cons (pe_refv (by rfl) Z.g_BadCall) pa_nil))) (pa_cons (pe_callB call_isErr (by rfl) T.isinstance (by decide +kernel) (pa_cons (pv 0) (pa_cons (pe_refv (by rfl) Z.g_Refused) pa_nil))) pa_nil))))))
(pss_one (ps_ret (pe_op op_cat (pv 1) (pe_lst (pa_cons (pe_callB call_isErr (by rfl) T.isinstance (by decide +kernel) (pa_cons (pv 0) (pa_cons (pe_refv (by rfl) Z.g_BadThing) pa_nil))) pa_nil))))))))), ?_⟩
    walk_at "x"
    refine rd_isE ha hi (hk 0 A.BadField b0 rfl rfl) (fun R r => ⟨_, rfl, r⟩) ?_
    refine rd_isE ha hi (hk 1 A.BadModes b1 rfl rfl) (fun R r => ⟨_, rfl, r⟩) ?_
    refine rd_isE ha hi (hk 2 A.UnknownCall b2 rfl rfl) (fun R r => ⟨_, rfl, r⟩) ?_
    refine rd_isE ha hi (hk 3 A.BadPlace b3 rfl rfl) (fun R r => ⟨_, rfl, r⟩) ?_
    refine ⟨(by show 4 ≤ sizeLine; decide), fun l0 hl0 => ?_⟩
    have e0 := same_new (Same.refl H) hl0 (o := .lst [V.bl b0, V.bl b1, V.bl b2, V.bl b3])
    have f0 := fun HH : Hp => upd_same (H := HH) (a := l0) (o := .lst [V.bl b0, V.bl b1, V.bl b2, V.bl b3])
    refine ⟨_, rfl, ?_⟩
    walk_at "x"
    refine rd_isE (ha.keep e0) hi (hk 4 A.BadText b4 rfl rfl) (fun R r => ⟨_, rfl, r⟩) ?_
    refine rd_isE (ha.keep e0) hi (hk 5 A.BadRow b5 rfl rfl) (fun R r => ⟨_, rfl, r⟩) ?_
    refine rd_isE (ha.keep e0) hi (hk 6 A.BadWord b6 rfl rfl) (fun R r => ⟨_, rfl, r⟩) ?_
    refine rd_isE (ha.keep e0) hi (hk 7 A.BadWish b7 rfl rfl) (fun R r => ⟨_, rfl, r⟩) ?_
    refine ⟨(by show 4 ≤ sizeLine; decide), fun l1 hl1 => ?_⟩
    have w1 := same_new e0 hl1 (o := .lst [V.bl b4, V.bl b5, V.bl b6, V.bl b7])
    have g1 := same_new (Same.refl _) hl1 (o := .lst [V.bl b4, V.bl b5, V.bl b6, V.bl b7]) _ _ (f0 _)
    refine ⟨l0, l1, [V.bl b0, V.bl b1, V.bl b2, V.bl b3], [V.bl b4, V.bl b5, V.bl b6, V.bl b7], rfl, rfl, g1, upd_same, (by show 8 ≤ sizeLine; decide), fun m1 hm1 => ?_⟩
    have e1 := same_new w1 hm1 (o := .lst [V.bl b0, V.bl b1, V.bl b2, V.bl b3, V.bl b4, V.bl b5, V.bl b6, V.bl b7])
    have f1 := fun HH : Hp => upd_same (H := HH) (a := m1) (o := .lst [V.bl b0, V.bl b1, V.bl b2, V.bl b3, V.bl b4, V.bl b5, V.bl b6, V.bl b7])
    refine ⟨_, rfl, ?_⟩
    walk_at "x"
    refine rd_isE (ha.keep e1) hi (hk 8 A.BadRun b8 rfl rfl) (fun R r => ⟨_, rfl, r⟩) ?_
    refine rd_isE (ha.keep e1) hi (hk 9 A.BadCallers b9 rfl rfl) (fun R r => ⟨_, rfl, r⟩) ?_
    refine rd_isE (ha.keep e1) hi (hk 10 A.BadKind b10 rfl rfl) (fun R r => ⟨_, rfl, r⟩) ?_
    refine ⟨(by show 3 ≤ sizeLine; decide), fun l2 hl2 => ?_⟩
    have w2 := same_new e1 hl2 (o := .lst [V.bl b8, V.bl b9, V.bl b10])
    have g2 := same_new (Same.refl _) hl2 (o := .lst [V.bl b8, V.bl b9, V.bl b10]) _ _ (f1 _)
    refine ⟨m1, l2, [V.bl b0, V.bl b1, V.bl b2, V.bl b3, V.bl b4, V.bl b5, V.bl b6, V.bl b7], [V.bl b8, V.bl b9, V.bl b10], rfl, rfl, g2, upd_same, (by show 11 ≤ sizeLine; decide), fun m2 hm2 => ?_⟩
    have e2 := same_new w2 hm2 (o := .lst [V.bl b0, V.bl b1, V.bl b2, V.bl b3, V.bl b4, V.bl b5, V.bl b6, V.bl b7, V.bl b8, V.bl b9, V.bl b10])
    have f2 := fun HH : Hp => upd_same (H := HH) (a := m2) (o := .lst [V.bl b0, V.bl b1, V.bl b2, V.bl b3, V.bl b4, V.bl b5, V.bl b6, V.bl b7, V.bl b8, V.bl b9, V.bl b10])
    refine ⟨_, rfl, ?_⟩
    walk_at "x"
    refine rd_isE (ha.keep e2) hi (hk 11 A.BadRule b11 rfl rfl) (fun R r => ⟨_, rfl, r⟩) ?_
    refine rd_isE (ha.keep e2) hi (hk 12 A.BadCall b12 rfl rfl) (fun R r => ⟨_, rfl, r⟩) ?_
    refine rd_isE (ha.keep e2) hi (hk 13 A.Refused b13 rfl rfl) (fun R r => ⟨_, rfl, r⟩) ?_
    refine ⟨(by show 3 ≤ sizeLine; decide), fun l3 hl3 => ?_⟩
    have w3 := same_new e2 hl3 (o := .lst [V.bl b11, V.bl b12, V.bl b13])
    have g3 := same_new (Same.refl _) hl3 (o := .lst [V.bl b11, V.bl b12, V.bl b13]) _ _ (f2 _)
    refine ⟨m2, l3, [V.bl b0, V.bl b1, V.bl b2, V.bl b3, V.bl b4, V.bl b5, V.bl b6, V.bl b7, V.bl b8, V.bl b9, V.bl b10], [V.bl b11, V.bl b12, V.bl b13], rfl, rfl, g3, upd_same, (by show 14 ≤ sizeLine; decide), fun m3 hm3 => ?_⟩
    have e3 := same_new w3 hm3 (o := .lst [V.bl b0, V.bl b1, V.bl b2, V.bl b3, V.bl b4, V.bl b5, V.bl b6, V.bl b7, V.bl b8, V.bl b9, V.bl b10, V.bl b11, V.bl b12, V.bl b13])
    have f3 := fun HH : Hp => upd_same (H := HH) (a := m3) (o := .lst [V.bl b0, V.bl b1, V.bl b2, V.bl b3, V.bl b4, V.bl b5, V.bl b6, V.bl b7, V.bl b8, V.bl b9, V.bl b10, V.bl b11, V.bl b12, V.bl b13])
    refine ⟨_, rfl, ?_⟩
    walk_at "x"
    refine rd_isE (ha.keep e3) hi (hk 14 A.BadThing b14 rfl rfl) (fun R r => ⟨_, rfl, r⟩) ?_
    refine ⟨(by show 1 ≤ sizeLine; decide), fun l4 hl4 => ?_⟩
    have w4 := same_new e3 hl4 (o := .lst [V.bl b14])
    have g4 := same_new (Same.refl _) hl4 (o := .lst [V.bl b14]) _ _ (f3 _)
    refine ⟨m3, l4, [V.bl b0, V.bl b1, V.bl b2, V.bl b3, V.bl b4, V.bl b5, V.bl b6, V.bl b7, V.bl b8, V.bl b9, V.bl b10, V.bl b11, V.bl b12, V.bl b13], [V.bl b14], rfl, rfl, g4, upd_same, (by show 15 ≤ sizeLine; decide), fun m4 hm4 => ?_⟩
    have e4 := same_new w4 hm4 (o := .lst [V.bl b0, V.bl b1, V.bl b2, V.bl b3, V.bl b4, V.bl b5, V.bl b6, V.bl b7, V.bl b8, V.bl b9, V.bl b10, V.bl b11, V.bl b12, V.bl b13, V.bl b14])
    exact k m4 _ e4 (w4.free hm4) upd_same
end
end MK
set_option Elab.async false
set_option linter.all false
set_option autoImplicit false
set_option maxRecDepth 100000
set_option maxHeartbeats 4000000
namespace MK
open PySem PySem.Spec PyProof.Rows L2
local macro_rules | `(tactic| walk_at "x") => `(tactic| dsimp only [tSeq, tAsg, tRet, tDrop, tLst, tTup, tCons, tOp, tUn, tIfS])
abbrev s_law : Stmt := topS 27
theorem sc_law : FnScope ["_law_script", "_law_state", "_law_turn", "_law_k", "_law_x", "_law_y", "_law_ones", "_law_rows", "_law_part", "_law_made", "_law_found", "_law_e", "_law_at"] ["_law_script"] (defScope s_law) := ⟨rfl, rfl, rfl, by decide +kernel, rfl, by decide +kernel, by decide +kernel⟩
/-! ### the things that are drawn -/
def Sc (v : V) : Prop := v = .non ∨ (∃ b, v = .bl b) ∨ (∃ i, v = .int i) ∨ ∃ z, v = .str z
/-- a list of plain things, none of those at c -/
def Ls (c : List Addr) (b : Nat) (H : Hp) (v : V) : Prop := ∃ q zs, v = .ref q ∧ H q = some (.lst zs) ∧ q ∉ c ∧ zs.length ≤ b ∧ ∀ z ∈ zs, Sc z
/-- a thing that is drawn -/
def Gd (c : List Addr) (b : Nat) (H : Hp) (v : V) : Prop := Sc v ∨ (∃ d kvs, v = .ref d ∧ H d = some (.dK kvs) ∧ (kvs.map (·.1)).Nodup ∧ ∀ p ∈ kvs, flatB p.2 = true) ∨ Ls c b H v ∨ ∃ t xs, v = .ref t ∧ H t = some (.tup xs) ∧ xs.length ≤ 9 ∧ ∀ x ∈ xs, Sc x ∨ Ls c b H x
theorem Ls.keep {c : List Addr} {b : Nat} {H H' : Hp} {v : V} (e : Same H H') (h : Ls c b H v) : Ls c b H' v := by
  obtain ⟨q, zs, h1, h2, h3, h4, h5⟩ := h
  exact ⟨q, zs, h1, e _ _ h2, h3, h4, h5⟩
theorem Gd.keep {c : List Addr} {b : Nat} {H H' : Hp} {v : V} (e : Same H H') (h : Gd c b H v) : Gd c b H' v := by
  rcases h with h | ⟨d, kvs, h1, h2, h3⟩ | h | ⟨t, xs, h1, h2, h3, h4⟩
  · exact .inl h
  · exact .inr (.inl ⟨d, kvs, h1, e _ _ h2, h3⟩)
  · exact .inr (.inr (.inl (h.keep e)))
  · exact .inr (.inr (.inr ⟨t, xs, h1, e _ _ h2, h3, fun x hx => (h4 x hx).imp id (fun z => z.keep e)⟩))
theorem Ls.keepX {c : List Addr} {s : Addr} {b : Nat} {H H' : Hp} {v : V} (e : SameX s H H') {r : List V} {a : Addr} (hs : H s = some (.lst (.ref a :: r))) (h : Ls c b H v) : Ls c b H' v := by
  obtain ⟨q, zs, h1, h2, h3, h4, h5⟩ := h
  refine ⟨q, zs, h1, e _ _ h2 (fun z => ?_), h3, h4, h5⟩
  rw [z, hs] at h2
  cases h2
  rcases h5 _ List.mem_cons_self with z | ⟨_, z⟩ | ⟨_, z⟩ | ⟨_, z⟩ <;> cases z
theorem Gd.keepX {c : List Addr} {s : Addr} {b : Nat} {H H' : Hp} {v : V} (e : SameX s H H') {r : List V} {a : Addr} (hs : H s = some (.lst (.ref a :: r))) (h : Gd c b H v) : Gd c b H' v := by
  rcases h with h | ⟨d, kvs, h1, h2, h3⟩ | h | ⟨t, xs, h1, h2, h3, h4⟩
  · exact .inl h
  · exact .inr (.inl ⟨d, kvs, h1, e _ _ h2 (fun z => by rw [z, hs] at h2; cases h2), h3⟩)
  · exact .inr (.inr (.inl (h.keepX e hs)))
  · exact .inr (.inr (.inr ⟨t, xs, h1, e _ _ h2 (fun z => by rw [z, hs] at h2; cases h2), h3, fun x hx => (h4 x hx).imp id (fun z => z.keepX e hs)⟩))
theorem Ls.put {c : List Addr} {p : Addr} {b : Nat} {H : Hp} {v : V} {xs zs : List V} (hp : H p = some (.lst xs)) (hz : zs.length ≤ b + 1 ∧ ∀ z ∈ zs, Sc z) (h : Ls c b H v) : Ls c (b + 1) (upd H p (.lst zs)) v := by
  obtain ⟨q, ys, h1, h2, h3, h4, h5⟩ := h
  by_cases e : q = p
  · exact ⟨q, zs, h1, by rw [e, upd_same], h3, hz.1, hz.2⟩
  · exact ⟨q, ys, h1, by rw [upd_ne e]; exact h2, h3, Nat.le_succ_of_le h4, h5⟩
theorem Gd.put {c : List Addr} {p : Addr} {b : Nat} {H : Hp} {v : V} {xs zs : List V} (hp : H p = some (.lst xs)) (hz : zs.length ≤ b + 1 ∧ ∀ z ∈ zs, Sc z) (h : Gd c b H v) : Gd c (b + 1) (upd H p (.lst zs)) v := by
  rcases h with h | ⟨d, kvs, h1, h2, h3⟩ | h | ⟨t, xs, h1, h2, h3, h4⟩
  · exact .inl h
  · exact .inr (.inl ⟨d, kvs, h1, by rw [upd_ne (fun z => by rw [z, hp] at h2; cases h2)]; exact h2, h3⟩)
  · exact .inr (.inr (.inl (h.put hp hz)))
  · exact .inr (.inr (.inr ⟨t, xs, h1, by rw [upd_ne (fun z => by rw [z, hp] at h2; cases h2)]; exact h2, h3, fun x hx => (h4 x hx).imp id (fun z => z.put hp hz)⟩))
theorem Gd.up {c : List Addr} {b : Nat} {H : Hp} {v : V} (h : Gd c b H v) : Gd c (b + 1) H v := by
  rcases h with h | h | ⟨q, ys, h1, h2, h3, h4, h5⟩ | ⟨t, xs, h1, h2, h3, h4⟩
  · exact .inl h
  · exact .inr (.inl h)
  · exact .inr (.inr (.inl ⟨q, ys, h1, h2, h3, Nat.le_succ_of_le h4, h5⟩))
  · refine .inr (.inr (.inr ⟨t, xs, h1, h2, h3, fun x hx => (h4 x hx).imp id fun ⟨q, ys, h1, h2, h3, h4, h5⟩ => ⟨q, ys, h1, h2, h3, Nat.le_succ_of_le h4, h5⟩⟩))
theorem Sc.flat {H : Hp} {v : V} (h : Sc v) : Flat H v v := .inl ⟨rfl, h⟩
theorem sm_sc {K : PySem.W.Frag} {H : Hp} {v : V} (h : Sc v) : ∀ n, Sm K H n v v
  | 0 => h.flat
  | n + 1 => .inl h.flat
theorem sm_ls {K : PySem.W.Frag} {c : List Addr} {b : Nat} {H : Hp} {v : V} (hb : b ≤ 9) (h : Ls c b H v) (n : Nat) : Sm K H (n + 1) v v := by
  obtain ⟨q, ys, rfl, h2, h3, h4, h5⟩ := h
  refine .inr ⟨q, q, ys, ys, rfl, rfl, .inl ⟨SqL.of h2, SqL.of h2⟩, rfl, by omega, fun i x y q1 q2 => ?_⟩
  rw [q1] at q2
  cases q2
  exact sm_sc (h5 _ (List.mem_of_getElem? q1)) n
theorem Gd.sm {K : PySem.W.Frag} {c : List Addr} {b : Nat} {H : Hp} {v : V} (hb : b ≤ 9) (h : Gd c b H v) (n : Nat) : Sm K H (n + 2) v v := by
  rcases h with h | ⟨d, kvs, rfl, h2, h3⟩ | h | ⟨t, xs, rfl, h2, h3, h4⟩
  · exact sm_sc h _
  · exact .inl (.inr ⟨d, d, kvs, rfl, rfl, h2, h2, h3⟩)
  · exact sm_ls hb h _
  · refine .inr ⟨t, t, xs, xs, rfl, rfl, .inr ⟨SqT.of h2, SqT.of h2⟩, rfl, by omega, fun i x y q1 q2 => ?_⟩
    rw [q1] at q2
    cases q2
    rcases h4 _ (List.mem_of_getElem? q1) with z | z
    · exact sm_sc z _
    · exact sm_ls hb z _
/-- whether it is a list -/
theorem Gd.ty {K : PySem.W.Frag} {c : List Addr} {b : Nat} {H : Hp} {v : V} (h : Gd c b H v) : ∃ t r, TyX K H v (.type t) ∧ kitB t "list" = some r ∧ (r = true → Ls c b H v) := by
  rcases h with h | ⟨d, kvs, rfl, h2, h3⟩ | h | ⟨t, xs, rfl, h2, h3, h4⟩
  · rcases h with rfl | ⟨b, rfl⟩ | ⟨i, rfl⟩ | ⟨z, rfl⟩
    · exact ⟨"NoneType", false, .base .non, by decide +kernel, nofun⟩
    · exact ⟨"bool", false, .base (.bl _), by decide +kernel, nofun⟩
    · exact ⟨"int", false, .base (.int _), by decide +kernel, nofun⟩
    · exact ⟨"str", false, .base (.str _), by decide +kernel, nofun⟩
  · exact ⟨"dict", false, .base (.dK h2), by decide +kernel, nofun⟩
  · obtain ⟨q, ys, rfl, h2, h3⟩ := id h
    exact ⟨"list", true, .base (.lst h2), by decide +kernel, fun _ => h⟩
  · exact ⟨"tuple", false, .base (.tup h2), by decide +kernel, nofun⟩
/-- a list at one of c is written -/
theorem Ls.putC {c : List Addr} {p : Addr} {b : Nat} {H : Hp} {v : V} {zs : List V} (hc : p ∈ c) (h : Ls c b H v) : Ls c b (upd H p (.lst zs)) v := by
  obtain ⟨q, ys, h1, h2, h3, h4, h5⟩ := h
  have e : q ≠ p := fun e => h3 (by rw [e]; exact hc)
  exact ⟨q, ys, h1, by rw [upd_ne e]; exact h2, h3, h4, h5⟩
theorem Gd.putC {c : List Addr} {p : Addr} {b : Nat} {H : Hp} {v : V} {xs zs : List V} (hp : H p = some (.lst xs)) (hc : p ∈ c) (h : Gd c b H v) : Gd c b (upd H p (.lst zs)) v := by
  rcases h with h | ⟨d, kvs, h1, h2, h3⟩ | h | ⟨t, xs, h1, h2, h3, h4⟩
  · exact .inl h
  · exact .inr (.inl ⟨d, kvs, h1, by rw [upd_ne (fun z => by rw [z, hp] at h2; cases h2)]; exact h2, h3⟩)
  · exact .inr (.inr (.inl (h.putC hc)))
  · exact .inr (.inr (.inr ⟨t, xs, h1, by rw [upd_ne (fun z => by rw [z, hp] at h2; cases h2)]; exact h2, h3, fun x hx => (h4 x hx).imp id (fun z => z.putC hc)⟩))
theorem Ls.sub {c c' : List Addr} {b : Nat} {H : Hp} {v : V} (hc : ∀ a ∈ c', a ∈ c) (h : Ls c b H v) : Ls c' b H v := by
  obtain ⟨q, ys, h1, h2, h3, h4, h5⟩ := h
  exact ⟨q, ys, h1, h2, fun z => h3 (hc q z), h4, h5⟩
theorem Gd.sub {c c' : List Addr} {b : Nat} {H : Hp} {v : V} (hc : ∀ a ∈ c', a ∈ c) (h : Gd c b H v) : Gd c' b H v := by
  rcases h with h | h | h | ⟨t, xs, h1, h2, h3, h4⟩
  · exact .inl h
  · exact .inr (.inl h)
  · exact .inr (.inr (.inl (h.sub hc)))
  · exact .inr (.inr (.inr ⟨t, xs, h1, h2, h3, fun x hx => (h4 x hx).imp id (fun z => z.sub hc)⟩))
theorem Ls.fresh {c : List Addr} {p : Addr} {b : Nat} {H : Hp} {v : V} (hp : H p = none) (h : Ls c b H v) : Ls (p :: c) b H v := by
  obtain ⟨q, ys, h1, h2, h3, h4, h5⟩ := h
  refine ⟨q, ys, h1, h2, fun z => ?_, h4, h5⟩
  rcases List.mem_cons.mp z with z | z
  · rw [z, hp] at h2; cases h2
  · exact h3 z
theorem Gd.fresh {c : List Addr} {p : Addr} {b : Nat} {H : Hp} {v : V} (hp : H p = none) (h : Gd c b H v) : Gd (p :: c) b H v := by
  rcases h with h | h | h | ⟨t, xs, h1, h2, h3, h4⟩
  · exact .inl h
  · exact .inr (.inl h)
  · exact .inr (.inr (.inl (h.fresh hp)))
  · exact .inr (.inr (.inr ⟨t, xs, h1, h2, h3, fun x hx => (h4 x hx).imp id (fun z => z.fresh hp)⟩))
theorem Ls.refs {c : List Addr} {s a : Addr} {r : List V} {b : Nat} {H : Hp} {v : V} (hs : H s = some (.lst (.ref a :: r))) (h : Ls c b H v) : Ls (s :: c) b H v := by
  obtain ⟨q, ys, h1, h2, h3, h4, h5⟩ := h
  refine ⟨q, ys, h1, h2, fun z => ?_, h4, h5⟩
  rcases List.mem_cons.mp z with z | z
  · rw [z, hs] at h2
    cases h2
    rcases h5 _ List.mem_cons_self with z | ⟨_, z⟩ | ⟨_, z⟩ | ⟨_, z⟩ <;> cases z
  · exact h3 z
theorem Gd.refs {c : List Addr} {s a : Addr} {r : List V} {b : Nat} {H : Hp} {v : V} (hs : H s = some (.lst (.ref a :: r))) (h : Gd c b H v) : Gd (s :: c) b H v := by
  rcases h with h | h | h | ⟨t, xs, h1, h2, h3, h4⟩
  · exact .inl h
  · exact .inr (.inl h)
  · exact .inr (.inr (.inl (h.refs hs)))
  · exact .inr (.inr (.inr ⟨t, xs, h1, h2, h3, fun x hx => (h4 x hx).imp id (fun z => z.refs hs)⟩))
/-- the twelve errors, wherever they stand -/
def M12 (A : EA) (H : Hp) (l : Addr) (v : V) : Prop := ∃ a0 a1 a2 a3 a4 a5 a6 a7 a8 a9 a10 a11 : Addr, Made12 A H l v a0 a1 a2 a3 a4 a5 a6 a7 a8 a9 a10 a11
/-- what one turn has made so far -/
structure LS (A : EA) (s c : Addr) (ns : List Int) (x y : V) (l1 l2 lo lr lp e1 e2 : Addr) (b : Nat) (H : Hp) : Prop where
  st : StA H s c ns
  gx : Gd [lp, lr, lo, l2, l1, s, c] b H x
  gy : Gd [lp, lr, lo, l2, l1, s, c] b H y
  m1 : M12 A H l1 x
  m2 : M12 A H l2 x
  o : H lo = some (.lst [.ref l1, .ref l2])
  r : H lr = some (.lst [.ref e1, .ref e2])
  p : H lp = some (.lst [x, y])
  e1 : Err H A.BadCall e1 [("reason", y), ("index", x)]
  e2 : Err H A.BadCall e2 [("reason", y), ("index", x)]
section
variable {A : EA} {s c : Addr} {ns : List Int} {x y : V} {l1 l2 lo lr lp e1 e2 : Addr} {b : Nat} {H H' : Hp}
theorem M12.keep {l : Addr} (e : Same H H') (h : M12 A H l x) : M12 A H' l x := by
  obtain ⟨a0, a1, a2, a3, a4, a5, a6, a7, a8, a9, a10, a11, h⟩ := h
  exact ⟨_, _, _, _, _, _, _, _, _, _, _, _, h.keep e⟩
theorem M12.put {l p : Addr} {xs zs : List V} (hp : H p = some (.lst xs)) (pl : l ≠ p) (h : M12 A H l x) : M12 A (upd H p (.lst zs)) l x := by
  obtain ⟨a0, a1, a2, a3, a4, a5, a6, a7, a8, a9, a10, a11, h⟩ := h
  exact ⟨_, _, _, _, _, _, _, _, _, _, _, _, h.put hp pl⟩
theorem LS.keep (e : Same H H') (h : LS A s c ns x y l1 l2 lo lr lp e1 e2 b H) : LS A s c ns x y l1 l2 lo lr lp e1 e2 b H' :=
  ⟨h.st.keep e, h.gx.keep e, h.gy.keep e, h.m1.keep e, h.m2.keep e, e _ _ h.o, e _ _ h.r, e _ _ h.p, h.e1.keep e, h.e2.keep e⟩
theorem LS.up (h : LS A s c ns x y l1 l2 lo lr lp e1 e2 b H) : LS A s c ns x y l1 l2 lo lr lp e1 e2 (b + 1) H :=
  ⟨h.st, h.gx.up, h.gy.up, h.m1, h.m2, h.o, h.r, h.p, h.e1, h.e2⟩
theorem LS.put {p : Addr} {xs zs : List V} (hp : H p = some (.lst xs)) (hn : p ∉ [lp, lr, lo, l2, l1, s, c]) (hz : zs.length ≤ b + 1 ∧ ∀ z ∈ zs, Sc z) (h : LS A s c ns x y l1 l2 lo lr lp e1 e2 b H) :
    LS A s c ns x y l1 l2 lo lr lp e1 e2 (b + 1) (upd H p (.lst zs)) := by
  simp only [List.mem_cons, List.not_mem_nil, or_false, not_or] at hn
  obtain ⟨n1, n2, n3, n4, n5, n6, n7⟩ := hn
  obtain ⟨cs, hc, a', b', m', hs⟩ := h.st
  exact ⟨⟨cs, by rw [upd_ne (Ne.symm n7)]; exact hc, a', b', m', by rw [upd_ne (Ne.symm n6)]; exact hs⟩, h.gx.put hp hz, h.gy.put hp hz, h.m1.put hp (Ne.symm n5), h.m2.put hp (Ne.symm n4),
    by rw [upd_ne (Ne.symm n3)]; exact h.o, by rw [upd_ne (Ne.symm n2)]; exact h.r, by rw [upd_ne (Ne.symm n1)]; exact h.p, h.e1.put hp, h.e2.put hp⟩
end
theorem at15 {α : Type} {P : Nat → α → Prop} {l : List α} (h : l.length = 15) (h0 : ∀ x, l[0]? = some x → P 0 x) (h1 : ∀ x, l[1]? = some x → P 1 x) (h2 : ∀ x, l[2]? = some x → P 2 x) (h3 : ∀ x, l[3]? = some x → P 3 x) (h4 : ∀ x, l[4]? = some x → P 4 x)
    (h5 : ∀ x, l[5]? = some x → P 5 x) (h6 : ∀ x, l[6]? = some x → P 6 x) (h7 : ∀ x, l[7]? = some x → P 7 x) (h8 : ∀ x, l[8]? = some x → P 8 x) (h9 : ∀ x, l[9]? = some x → P 9 x) (h10 : ∀ x, l[10]? = some x → P 10 x) (h11 : ∀ x, l[11]? = some x → P 11 x)
    (h12 : ∀ x, l[12]? = some x → P 12 x) (h13 : ∀ x, l[13]? = some x → P 13 x) (h14 : ∀ x, l[14]? = some x → P 14 x) : ∀ (i : Nat) (x : α), l[i]? = some x → P i x := by
  intro i x hx
  have hi := (List.getElem?_eq_some_iff.mp hx).1
  rw [h] at hi
  match i, hi with
  | 0, _ => exact h0 x hx
  | 1, _ => exact h1 x hx
  | 2, _ => exact h2 x hx
  | 3, _ => exact h3 x hx
  | 4, _ => exact h4 x hx
  | 5, _ => exact h5 x hx
  | 6, _ => exact h6 x hx
  | 7, _ => exact h7 x hx
  | 8, _ => exact h8 x hx
  | 9, _ => exact h9 x hx
  | 10, _ => exact h10 x hx
  | 11, _ => exact h11 x hx
  | 12, _ => exact h12 x hx
  | 13, _ => exact h13 x hx
  | 14, _ => exact h14 x hx
/-- the errors of a list, each of its class -/
def ErrsOK (A : EA) (H : Hp) (l : List V) : Prop := ∀ (i : Nat) (v : V), l[i]? = some v → ∃ a C, v = .ref a ∧ A.l[i]? = some C ∧ AnyErr H C a
theorem ErrsOK.keep {A : EA} {H H' : Hp} {l : List V} (e : Same H H') (h : ErrsOK A H l) : ErrsOK A H' l := fun i v hv => by
  obtain ⟨a, C, h1, h2, h3⟩ := h i v hv
  exact ⟨a, C, h1, h2, h3.keep e⟩
def spLaw (K : PySem.W.Frag) : Sp := fun vs H Q _ => ∃ (a : Addr) (ns : List Int), vs = [.ref a] ∧ SqL K H a (ns.map V.int) ∧ ns.length ≤ 63 ∧ ∀ H', Q (.bl true) H'
section
variable {P : Program} {w : World} {K : PySem.W.Frag} {mg : Str → Option Value} {base : Heap} {A : EA}
theorem ok_law {f : Addr} {fd : FuncData} (F : DefX K mg "law" s_law ["_law_script"] f fd) (T : Txt K mg) (Z : Es P w K mg base A) (c_fresh : Cal P w K mg base CX0 1 "_law_fresh" (spFresh K)) (c_one : Cal P w K mg base CX0 3 "_law_one" (spOne K))
    (c_same : Cal P w K mg base CX0 4 "_law_same" (spSame K 3)) (c_with_one : Cal P w K mg base CX0 3 "_law_with_one" (spWith A)) (c_by_place : Cal P w K mg base CX0 3 "_law_by_place" (spWith A)) (c_held : Cal P w K mg base CX0 1 "_law_held" (spHeld A))
    (c_classes : Cal P w K mg base CX0 1 "_law_classes" (spClasses K A)) : FnOk P w K mg base CX0 5 f fd ["_law_script"] (spLaw K) := by
  refine F.fn.ok sc_law (fun vs H Q E h => ?_) (fun cdv A0 outer s0 H0 vs Q E hr h => ?_)
  · obtain ⟨a, ns, rfl, _⟩ := h
    rfl
  · obtain ⟨a, ns, rfl, hsc, hl, k⟩ := h
    refine ⟨_, (pss_cons (ps_set (i := 1) sc_law.nd rfl (Or.inr rfl) (pe_c c_fresh hr (by first | decide | assumption) rfl (pa_cons (pv 0) pa_nil)))
(pss_cons (ps_for PassesOwn.never rfl (pi_range1 (by rfl) T.range (pa_cons pe_int pa_nil)) (pg_name (i := 2) sc_law.nd rfl (Or.inl rfl))
(pss_cons (ps_asg (pe_lc (own := [("_law_k", 3)]) (g := (gName 3)) (tt := tYes) rfl sc_law.nd (pi_range1 (by rfl) T.range (pa_cons pe_int pa_nil)) (blkOk_by (own := [("_law_k", 3)]) (N := ["_law_script", "_law_state", "_law_turn", "_law_k", "_law_x", "_law_y", "_law_ones", "_law_rows", "_law_part", "_law_made", "_law_found", "_law_e", "_law_at"]) (sc := defScope s_law) (by decide +kernel)) (fun _ _ _ _ _ => (pg_name (i := 3) sc_law.nd rfl (Or.inl rfl))) (fun _ _ _ _ _ => pts_nil) (fun _ _ _ _ _ => (pe_c c_one hr (by first | decide | assumption) rfl (pa_cons (pv 1) (pa_cons (pe_lst (pa_cons (pv 3) (pa_cons (pe_cut (pe_op op_repS pe_str (pv 3))) (pa_cons (pe_lst (pa_cons (pv 3) pa_nil)) (pa_cons (pe_tup (pa_cons (pv 3) (pa_cons (pe_lst (pa_cons (pv 3) pa_nil)) pa_nil))) (pa_cons pe_non (pa_cons pe_bl (pa_cons (pe_disp (pps_cons pe_str (pv 3) pps_nil) (by rfl) (by rfl) (fun z => by cases z) (by decide)) pa_nil)))))))) pa_nil))))) (pg_unl (by rfl) (pgs_cons (pg_name (i := 4) sc_law.nd rfl (Or.inr rfl)) (pgs_cons (pg_name (i := 5) sc_law.nd rfl (Or.inr rfl)) pgs_nil))))
(pss_cons (ps_par (i := 6) (j := 7) (by rfl) sc_law.nd rfl rfl (by decide) rfl rfl (pa_cons (pe_lst (pa_cons (pe_c c_with_one hr (by first | decide | assumption) rfl (pa_cons (pv 4) pa_nil)) (pa_cons (pe_c c_by_place hr (by first | decide | assumption) rfl (pa_cons (pv 4) pa_nil)) pa_nil))) (pa_cons (pe_lst (pa_cons (pe_errC Z.e_BadCall hr (by first | decide | assumption) rfl (pa_cons (pv 4) (pa_cons (pv 5) pa_nil))) (pa_cons (pe_errKC Z.k_BadCall hr (by first | decide | assumption) rfl (pk_cons (pv 5) (pk_cons (pv 4) pk_nil)) rfl) pa_nil))) pa_nil)) (by rfl))
(pss_cons (ps_for PassesOwn.never rfl (pi_list (pe_lst (pa_cons (pv 4) (pa_cons (pv 5) pa_nil)))) (pg_name (i := 8) sc_law.nd rfl (Or.inl rfl))
(pss_one (ps_if (pt_val (pe_callB call_isi (by rfl) T.isinstance (by decide +kernel) (pa_cons (pv 8) (pa_cons (pe_tyv (n := "list") (by rfl) T.list (by decide +kernel)) pa_nil))))
(pss_one (ps_expr (pe_bm PySem.F.plainAttrs_list PySem.F.slot_list_append PySem.F.type_list_append mt_append (pv 8) (pa_cons pe_str pa_nil))))
pss_nil)))
(pss_cons (ps_for PassesOwn.never rfl (pi_list (pv 6)) (pg_name (i := 9) sc_law.nd rfl (Or.inl rfl))
(pss_one (ps_if (pt_not (pt_val (pe_callB (cr_all rfl) (by rfl) T.all (by decide +kernel) (pa_cons (pe_lc (own := [("_law_found", 10)]) (g := (gName 10)) (tt := tYes) rfl sc_law.nd (pi_list (pe_c c_held hr (by first | decide | assumption) rfl (pa_cons (pv 9) pa_nil))) (blkOk_by (own := [("_law_found", 10)]) (N := ["_law_script", "_law_state", "_law_turn", "_law_k", "_law_x", "_law_y", "_law_ones", "_law_rows", "_law_part", "_law_made", "_law_found", "_law_e", "_law_at"]) (sc := defScope s_law) (by decide +kernel)) (fun _ _ _ _ _ => (pg_name (i := 10) sc_law.nd rfl (Or.inl rfl))) (fun _ _ _ _ _ => pts_nil) (fun _ _ _ _ _ => (pe_c c_same hr (by first | decide | assumption) rfl (pa_cons (pv 10) (pa_cons (pv 4) pa_nil))))) pa_nil))))
(pss_one (ps_ret pe_bl))
pss_nil)))
(pss_cons (ps_if (pt_not (pt_val (pe_callB (cr_all rfl) (by rfl) T.all (by decide +kernel) (pa_cons (pe_lc (own := [("_law_made", 9)]) (g := (gName 9)) (tt := tYes) rfl sc_law.nd (pi_list (pv 7)) (blkOk_by (own := [("_law_made", 9)]) (N := ["_law_script", "_law_state", "_law_turn", "_law_k", "_law_x", "_law_y", "_law_ones", "_law_rows", "_law_part", "_law_made", "_law_found", "_law_e", "_law_at"]) (sc := defScope s_law) (by decide +kernel)) (fun _ _ _ _ _ => (pg_name (i := 9) sc_law.nd rfl (Or.inl rfl))) (fun _ _ _ _ _ => pts_nil) (fun _ _ _ _ _ => (pe_c c_same hr (by first | decide | assumption) rfl (pa_cons (pe_lst (pa_cons (pe_errFK (K := K) (pv 9)) (pa_cons (pe_errFK (K := K) (pv 9)) pa_nil))) (pa_cons (pe_lst (pa_cons (pv 4) (pa_cons (pv 5) pa_nil))) pa_nil))))) pa_nil))))
(pss_one (ps_ret pe_bl))
pss_nil)
(pss_cons (ps_set (i := 9) sc_law.nd rfl (Or.inl rfl) (pe_op op_cat (pe_ix ix_list (pv 6) pe_int (fun _ _ => rfl)) (pe_lst (pa_cons (pe_ix ix_list (pv 7) pe_int (fun _ _ => rfl)) (pa_cons (pe_x0 Z.x_Refused rfl) (pa_cons (pe_x0 Z.x_BadThing rfl) pa_nil))))))
(pss_cons (ps_for PassesOwn.never rfl (pi_enum (by rfl) T.enumerate (pa_cons (pv 9) pa_nil)) (pg_tup (by rfl) (pgs_cons (pg_name (i := 3) sc_law.nd rfl (Or.inr rfl)) (pgs_cons (pg_name (i := 11) sc_law.nd rfl (Or.inl rfl)) pgs_nil)))
(pss_cons (ps_if (pt_cut (PW.pt (pw_or (pt_not (pt_val (pe_callB call_isErr (by rfl) T.isinstance (by decide +kernel) (pa_cons (pv 11) (pa_cons (pe_refv (by rfl) Z.g_MakerError) pa_nil))))) (pw_or1 (pt_not (pt_val (pe_callB call_isErr (by rfl) T.isinstance (by decide +kernel) (pa_cons (pv 11) (pa_cons (pe_tyv (n := "ValueError") (by rfl) T.ValueError (by decide +kernel)) pa_nil)))))))))
(pss_one (ps_ret pe_bl))
pss_nil)
(pss_one (ps_if (pt_cmpR (op_neD hr.units) (pe_c c_classes hr (by first | decide | assumption) rfl (pa_cons (pv 11) pa_nil)) (pe_lc (own := [("_law_at", 12)]) (g := (gName 12)) (tt := tYes) rfl sc_law.nd (pi_range1 (by rfl) T.range (pa_cons (pe_callB call_len_seq (by rfl) T.len (by decide +kernel) (pa_cons (pv 9) pa_nil)) pa_nil)) (blkOk_by (own := [("_law_at", 12)]) (N := ["_law_script", "_law_state", "_law_turn", "_law_k", "_law_x", "_law_y", "_law_ones", "_law_rows", "_law_part", "_law_made", "_law_found", "_law_e", "_law_at"]) (sc := defScope s_law) (by decide +kernel)) (fun _ _ _ _ _ => (pg_name (i := 12) sc_law.nd rfl (Or.inl rfl))) (fun _ _ _ _ _ => pts_nil) (fun _ _ _ _ _ => (pe_cmpR op_eq (pv 12) (pv 3) (nomark _)))) (nomark _))
(pss_one (ps_ret pe_bl))
pss_nil))))
(pss_one (ps_if (pt_cmpR op_in_seq pe_bl (pe_c c_classes hr (by first | decide | assumption) rfl (pa_cons (pe_x0 Z.x_MakerError rfl) pa_nil)) (by rfl))
(pss_one (ps_ret pe_bl))
pss_nil))))))))))
(pss_one (ps_ret (pe_callB call_isErr (by rfl) T.isinstance (by decide +kernel) (pa_cons (pe_x0 Z.x_MakerError rfl) (pa_cons (pe_tyv (n := "ValueError") (by rfl) T.ValueError (by decide +kernel)) pa_nil))))))), ?_⟩
    refine ⟨_, rfl, a, ns, rfl, hsc, hl, fun s c H h0 _ _ hS => ?_⟩
    refine ⟨4, rfl, by decide, by decide, for_range (n := 4) (fun i σ H2 => StA H2 s c ns ∧ ∃ x2 x3 x4 x5 x6 x7 x8 x9 x10 x11 x12, σ = [some (.ref a), some (.ref s), x2, x3, x4, x5, x6, x7, x8, x9, x10, x11, x12]) ?_ ?_ ?_⟩
    · exact ⟨hS, _, _, _, _, _, _, _, _, _, _, _, rfl⟩
    · rintro i σ H1 hi ⟨hS, x2, x3, x4, x5, x6, x7, x8, x9, x10, x11, x12, rfl⟩
      -- x, y = two draws
      refine ⟨2, rfl, by decide, by decide, fun D hD => lc_range (lo := 0) (n := 2) (fun i H2 => StA H2 s c ns ∧ D ≠ s ∧ D ≠ c ∧ ∃ acc, H2 D = some (.lst acc) ∧ acc.length = i ∧ ∀ v ∈ acc, Gd [c, D] 1 H2 v) ?_ ?_ ?_⟩
      · obtain ⟨_, hc, _, _, _, hs⟩ := id hS
        exact ⟨hS.keep (same_new (Same.refl H1) hD), (ne_of_none hs hD).symm, (ne_of_none hc hD).symm, [], upd_same, rfl, fun _ h => nomatch h⟩
      · rintro j H2 hj ⟨hS2, Ds, Dc, acc, hacc, hlen, hgd⟩
        refine ⟨rfl, ?_⟩
        refine ⟨_, rfl, _, rfl, fun v H3 => H3 = H2 ∧ ∃ z, v = .str z, ⟨_, rfl, _, _, rfl, rfl, ?_⟩, ?_⟩
        · by_cases h0 : j = 0
          · exact .inl ⟨by omega, by omega, rfl, _, rfl⟩
          · exact .inr ⟨by omega, rfl, _, rfl⟩
        rintro _ _ ⟨rfl, z, rfl⟩
        refine ⟨_, rfl, by show 1 ≤ sizeLine; decide, fun q1 hq1 => ⟨_, rfl, _, rfl, by show 1 ≤ sizeLine; decide, fun q2 hq2 => ⟨by show 2 ≤ sizeLine; decide, fun t ht => ?_⟩⟩⟩
        refine (fun d hd => ⟨_, rfl, upd_same, [(.inr "w", .int (0 + (j : Int)))], rfl, (by show 1 ≤ 15; decide), ?_⟩)
        rw [upd_upd]
        have u1 := same_new (Same.refl _) hq1 (o := .lst [.int (0 + (j : Int))])
        have u2 := same_new (Same.refl _) hq2 (o := .lst [.int (0 + (j : Int))])
        have u3 := same_new (Same.refl _) ht (o := .tup [.int (0 + (j : Int)), .ref q2])
        have u4 := same_new (Same.refl _) hd (o := .dK [(.inr "w", .int (0 + (j : Int)))])
        refine ⟨(by show 7 ≤ sizeLine; decide), fun L hL => ?_⟩
        have u5 := same_new (Same.refl _) hL (o := .lst [.int (0 + (j : Int)), .str z, .ref q1, .ref t, .non, .bl true, .ref d])
        have T4 := u4.trans u5
        have T3 := u3.trans T4
        have T2 := u2.trans T3
        have T1 := u1.trans T2
        have aq1 := T2 _ _ upd_same
        have aq2 := T3 _ _ upd_same
        have at_ := T4 _ _ upd_same
        have ad := u5 _ _ upd_same
        obtain ⟨cs, hc, _, _, _, hs⟩ := id hS2
        have nq1 : q1 ∉ [c, D] := fun h => by
          rcases List.mem_cons.mp h with h | h
          · rw [h, hc] at hq1; cases hq1
          · rw [List.mem_singleton.mp h, hacc] at hq1; cases hq1
        have nq2 : q2 ∉ [c, D] := fun h => by
          have z2 := u1.free hq2
          rcases List.mem_cons.mp h with h | h
          · rw [h, hc] at z2; cases z2
          · rw [List.mem_singleton.mp h, hacc] at z2; cases z2
        have Ls0 : L ≠ s := fun h => by rw [h] at hL; cases hL.symm.trans ((u1.trans (u2.trans (u3.trans u4))) _ _ hs)
        refine ⟨s, c, L, ns, _, rfl, hS2.keep T1, hl, Ls0, .inl (SqL.of upd_same), (by show 0 < 7; decide), (by show 7 < 1000000; decide), fun k2 x H9 hx e9 hS9 => ?_⟩
        have sc0 : Sc (.int (0 + (j : Int))) := .inr (.inr (.inl ⟨_, rfl⟩))
        have sl : ∀ y ∈ [V.int (0 + (j : Int))], Sc y := fun y hy => by rw [List.mem_singleton.mp hy]; exact sc0
        have hgx : ∀ HH : Hp, HH q1 = some (.lst [.int (0 + (j : Int))]) → HH q2 = some (.lst [.int (0 + (j : Int))]) → HH t = some (.tup [.int (0 + (j : Int)), .ref q2]) → HH d = some (.dK [(.inr "w", .int (0 + (j : Int)))]) → Gd [c, D] 1 HH x := by
          intro HH aq1 aq2 at_ ad
          have m := List.mem_of_getElem? hx
          simp only [List.mem_cons, List.not_mem_nil, or_false] at m
          rcases m with rfl | rfl | rfl | rfl | rfl | rfl | rfl
          · exact .inl sc0
          · exact .inl (.inr (.inr (.inr ⟨_, rfl⟩)))
          · exact .inr (.inr (.inl ⟨q1, _, rfl, aq1, nq1, by show 1 ≤ 1; decide, sl⟩))
          · refine .inr (.inr (.inr ⟨t, _, rfl, at_, by show 2 ≤ 9; decide, fun y hy => ?_⟩))
            simp only [List.mem_cons, List.not_mem_nil, or_false] at hy
            rcases hy with rfl | rfl
            · exact .inl sc0
            · exact .inr ⟨q2, _, rfl, aq2, nq2, by show 1 ≤ 1; decide, sl⟩
          · exact .inl (.inl rfl)
          · exact .inl (.inr (.inl ⟨_, rfl⟩))
          · exact .inr (.inl ⟨d, _, rfl, ad, by simp [mergeK, putK], fun p hp => by simp [mergeK, putK] at hp; rw [hp]; rfl⟩)
        have hs9 := T1 _ _ hs
        have hD9 := e9 _ _ (T1 _ _ hacc) Ds
        refine ⟨acc, hD9, by rw [sizeLine_eq]; omega, ⟨cs, ?_, ?_⟩, Ds, Dc, _, upd_same, by rw [List.length_append, hlen]; rfl, fun v hv => ?_⟩
        · rw [upd_ne Dc.symm]; exact hS9.2.1
        · obtain ⟨a', b', m', h'⟩ := hS9.2.2
          exact ⟨a', b', m', by rw [upd_ne Ds.symm]; exact h'⟩
        · rcases List.mem_append.mp hv with h | h
          · exact (((hgd v h).keep T1).keepX e9 hs9).putC hD9 (by simp)
          · rw [List.mem_singleton.mp h]
            exact ((hgx _ aq1 aq2 at_ ad).keepX e9 hs9).putC hD9 (by simp)
      · rintro H2 ⟨hS2, Ds, Dc, acc, hacc, hlen, hgd⟩
        obtain ⟨x, y, rfl⟩ : ∃ x y, acc = [x, y] := by
          match acc, hlen with
          | [x, y], _ => exact ⟨x, y, rfl⟩
        refine ⟨D, [x, y], rfl, SqL.of hacc, rfl, _, _, rfl, _, _, rfl, rfl, ?_⟩
        obtain ⟨_, _, _, _, _, hs2⟩ := id hS2
        have gx := ((hgd x (by simp)).sub (c' := [c]) (by simp)).refs hs2
        have gy := ((hgd y (by simp)).sub (c' := [c]) (by simp)).refs hs2
        -- ones, rows
        refine ⟨_, rfl, x, rfl, fun l1 a0 a1 a2 a3 a4 a5 a6 a7 a8 a9 a10 a11 H3 t3 f3 m1 => ⟨_, rfl, x, rfl, fun l2 b0 b1 b2 b3 b4 b5 b6 b7 b8 b9 b10 b11 H4 t4 f4 m2 => ⟨by show 2 ≤ sizeLine; decide, fun lo hlo => ?_⟩⟩⟩
        dsimp only [tLst, tCons]
        refine rd_err2 (fun R r => ⟨_, rfl, _, rfl, r⟩) fun e1 H6 f6 t6 r1 => ?_
        refine rd_errK2 (fun R r => ⟨_, rfl, _, rfl, r⟩) fun e2 H7 f7 t7 r2 => ?_
        refine ⟨by show 2 ≤ sizeLine; decide, fun lr hlr => ⟨_, _, rfl, ?_⟩⟩
        have t5 := same_new (Same.refl H4) hlo (o := .lst [.ref l1, .ref l2])
        have t8 := same_new (Same.refl H7) hlr (o := .lst [.ref e1, .ref e2])
        refine ⟨_, rfl, _, rfl, by show 2 ≤ sizeLine; decide, fun lp hlp => ⟨lp, rfl, ⟨_, SqL.of upd_same⟩, ?_⟩⟩
        have t9 := same_new (Same.refl _) hlp (o := .lst [x, y])
        have T8 := t8.trans t9
        have T7 := t7.trans T8
        have T6 := t6.trans T7
        have T5 := t5.trans T6
        have T4 := t4.trans T5
        have T3 := t3.trans T4
        have G : ∀ {v : V}, Gd [s, c] 1 H2 v → Gd [lp, lr, lo, l2, l1, s, c] 1 (upd (upd H7 lr (.lst [.ref e1, .ref e2])) lp (.lst [x, y])) v := fun {v} g =>
          ((((((((g.fresh f3).keep t3).fresh f4).keep t4).fresh hlo).keep (t5.trans (t6.trans t7))).fresh hlr).keep t8 |>.fresh hlp).keep t9
        have ls : LS A s c ns x y l1 l2 lo lr lp e1 e2 1 (upd (upd H7 lr (.lst [.ref e1, .ref e2])) lp (.lst [x, y])) :=
          ⟨hS2.keep T3, G gx, G gy, ⟨_, _, _, _, _, _, _, _, _, _, _, _, m1.keep T4⟩, ⟨_, _, _, _, _, _, _, _, _, _, _, _, m2.keep T5⟩, (t6.trans T7) _ _ upd_same, t9 _ _ upd_same, upd_same, r1.keep T7, r2.keep T8⟩
        clear m1 m2 r1 r2
        -- each list of the two gets more
        refine for_list (K := K) (a := lp) (xs := [x, y]) (fun i σ H' => LS A s c ns x y l1 l2 lo lr lp e1 e2 (1 + i) H' ∧ ∃ x2 x3 x8 x9 x10 x11 x12, σ = [some (.ref a), some (.ref s), x2, x3, some x, some y, some (.ref lo), some (.ref lr), x8, x9, x10, x11, x12])
          ⟨ls, _, _, _, _, _, _, _, rfl⟩ (fun i σ H' _ h => SqL.of h.1.p) ?_ ?_
        · rintro i v σ H' hv ⟨ls, x2, x3, x8, x9, x10, x11, x12, rfl⟩
          have hi2 : i < 2 := (List.getElem?_eq_some_iff.mp hv).1
          have gv : Gd [lp, lr, lo, l2, l1, s, c] (1 + i) H' v := by
            have m := List.mem_of_getElem? hv
            simp only [List.mem_cons, List.not_mem_nil, or_false] at m
            rcases m with rfl | rfl
            · exact ls.gx
            · exact ls.gy
          obtain ⟨t, r, ty, hk, hls⟩ := gv.ty (K := K)
          refine ⟨_, rfl, _, _, _, _, r, rfl, .ty _, ty, kit_ty hk, r, rfl, ite2 (fun h => ?_) (fun h => ?_)⟩
          · obtain ⟨q, zs, rfl, hq, hn, hz, hsz⟩ := hls h
            refine ⟨_, rfl, .inl ⟨rfl, _, SqL.of hq⟩, q, zs, _, rfl, rfl, hq, by rw [sizeLine_eq]; omega, ?_⟩
            refine ⟨ls.put (b := 1 + i) hq hn ⟨by rw [List.length_append]; show zs.length + 1 ≤ 1 + i + 1; omega, fun z hz => ?_⟩, _, _, _, _, _, _, _, rfl⟩
            rcases List.mem_append.mp hz with hz | hz
            · exact hsz z hz
            · rw [List.mem_singleton.mp hz]; exact .inr (.inr (.inr ⟨_, rfl⟩))
          · exact ⟨ls.up, _, _, _, _, _, _, _, rfl⟩
        · rintro σ H' ⟨ls, x2, x3, x8, x9, x10, x11, x12, rfl⟩
          have ls : LS A s c ns x y l1 l2 lo lr lp e1 e2 3 H' := ls
          clear t9 T8 T7 T6 T5 T4 T3 G hlp hlr t8 hlo t5
          -- what the errors with one attribute hold
          refine ⟨_, rfl, lo, rfl, ⟨_, SqL.of ls.o⟩, for_list (K := K) (a := lo) (xs := [.ref l1, .ref l2]) (fun i σ H' => LS A s c ns x y l1 l2 lo lr lp e1 e2 3 H' ∧ ∃ x2 x3 x8 x9 x10 x11 x12, σ = [some (.ref a), some (.ref s), x2, x3, some x, some y, some (.ref lo), some (.ref lr), x8, x9, x10, x11, x12])
            ⟨ls, _, _, _, _, _, _, _, rfl⟩ (fun i σ H' _ h => SqL.of h.1.o) ?_ ?_⟩
          · rintro i v σ H5 hv ⟨ls, x2, x3, x8, x9, x10, x11, x12, rfl⟩
            obtain ⟨l, rfl, a0, a1, a2, a3, a4, a5, a6, a7, a8, a9, a10, a11, hm⟩ : ∃ l, v = .ref l ∧ M12 A H5 l x := by
              have m := List.mem_of_getElem? hv
              simp only [List.mem_cons, List.not_mem_nil, or_false] at m
              rcases m with rfl | rfl
              · exact ⟨_, rfl, ls.m1⟩
              · exact ⟨_, rfl, ls.m2⟩
            refine ⟨_, rfl, l, x, _, _, _, _, _, _, _, _, _, _, _, _, rfl, hm, fun q H6 e6 nq hq => ⟨q, rfl, ⟨_, SqL.of hq⟩, fun D2 hD2 => ?_⟩⟩
            have ls6 := ls.keep e6
            refine lc_list (K := K) (a := q) (xs := List.replicate 12 x) (fun i H7 => Same H6 H7 ∧ H7 D2 = some (.lst (List.replicate i (.bl true)))) ⟨same_new (Same.refl _) hD2, upd_same⟩ (fun i H7 _ h => SqL.of (h.1 _ _ hq)) ?_ ?_
            · rintro i v H7 hv7 ⟨e7, d7⟩
              have ev : v = x := List.eq_of_mem_replicate (List.mem_of_getElem? hv7)
              subst ev
              have hi12 : i < 12 := by
                have := (List.getElem?_eq_some_iff.mp hv7).1
                rwa [List.length_replicate] at this
              refine ⟨rfl, ?_⟩
              refine ⟨_, rfl, _, rfl, v, v, rfl, (ls6.keep e7).gx.sm (by decide) 1, fun H8 e8 => ⟨_, e8 _ _ d7, by rw [List.length_replicate, sizeLine_eq]; omega, fun b o hb => ?_, ?_⟩⟩
              · rw [upd_ne (ne_of_none hb hD2)]
                exact e8 _ _ (e7 _ _ hb)
              · rw [upd_same, List.replicate_succ']
            · rintro H7 ⟨e7, d7⟩
              refine ⟨D2, List.replicate 12 true, rfl, SqL.of d7, true, by simp, ?_⟩
              exact ⟨ls6.keep e7, _, _, _, _, _, _, _, rfl⟩
          · rintro σ H5 ⟨ls, x2, x3, x8, x9, x10, x11, x12, rfl⟩
            -- the two with two attributes
            refine ⟨_, rfl, lr, rfl, ⟨_, SqL.of ls.r⟩, fun D3 hD3 => ?_⟩
            refine lc_list (K := K) (a := lr) (xs := [.ref e1, .ref e2]) (fun i H7 => Same H5 H7 ∧ H7 D3 = some (.lst (List.replicate i (.bl true)))) ⟨same_new (Same.refl _) hD3, upd_same⟩ (fun i H7 _ h => SqL.of (h.1 _ _ ls.r)) ?_ ?_
            · rintro i v H7 hv7 ⟨e7, d7⟩
              have ls7 := ls.keep e7
              have hi2 : i < 2 := (List.getElem?_eq_some_iff.mp hv7).1
              obtain ⟨e, rfl, d, h1, h2⟩ : ∃ e, v = .ref e ∧ Err H7 A.BadCall e [("reason", y), ("index", x)] := by
                have m := List.mem_of_getElem? hv7
                simp only [List.mem_cons, List.not_mem_nil, or_false] at m
                rcases m with rfl | rfl
                · exact ⟨_, rfl, ls7.e1⟩
                · exact ⟨_, rfl, ls7.e2⟩
              refine ⟨rfl, ?_⟩
              refine ⟨_, rfl, e, A.BadCall, d, _, x, rfl, h1, h2, Z.f_BadCall, Z.n_BadCall, rfl, _, rfl, e, A.BadCall, d, _, y, rfl, h1, h2, Z.f_BadCall, Z.o_BadCall, rfl, by show 2 ≤ sizeLine; decide, fun p1 hp1 => ?_⟩
              refine ⟨_, rfl, _, rfl, by show 2 ≤ sizeLine; decide, fun p2 hp2 => ?_⟩
              have e8 := same_new (Same.refl _) hp1 (o := .lst [x, y])
              have e9 := same_new (Same.refl _) hp2 (o := .lst [x, y])
              have ls9 := ls7.keep (e8.trans e9)
              refine ⟨.ref p1, .ref p2, rfl, .inr ⟨p1, p2, [x, y], [x, y], rfl, rfl, .inl ⟨SqL.of (e9 _ _ upd_same), SqL.of upd_same⟩, rfl, (by show 2 < 100000; decide), fun i v v' q1 q2 => ?_⟩, fun H8 e10 => ⟨_, (e8.trans (e9.trans e10)) _ _ d7, by rw [List.length_replicate, sizeLine_eq]; omega, fun b o hb => ?_, ?_⟩⟩
              · rw [q1] at q2
                cases q2
                have m := List.mem_of_getElem? q1
                simp only [List.mem_cons, List.not_mem_nil, or_false] at m
                rcases m with rfl | rfl
                · exact ls9.gx.sm (by decide) 0
                · exact ls9.gy.sm (by decide) 0
              · rw [upd_ne (ne_of_none hb hD3)]
                exact (e8.trans (e9.trans e10)) _ _ (e7 _ _ hb)
              · rw [upd_same, List.replicate_succ']
            rintro H7 ⟨e7, d7⟩
            have ls7 := ls.keep e7
            refine ⟨D3, List.replicate 2 true, rfl, SqL.of d7, true, by simp, ?_⟩
            -- all of them
            refine ⟨_, rfl, lo, _, 0, _, rfl, rfl, SqL.of ls7.o, rfl, _, rfl, lr, _, 1, _, rfl, rfl, SqL.of ls7.r, rfl, fun ra hra ba hba => ⟨by show 3 ≤ sizeLine; decide, fun lq hlq => ?_⟩⟩
            have e8 := same_new (Same.refl _) hra (o := exo ra A.Refused none)
            have e9 := same_new (Same.refl _) hba (o := exo ba A.BadThing none)
            have e10 := same_new (Same.refl _) hlq (o := .lst [.ref e2, .ref ra, .ref ba])
            obtain ⟨a0, a1, a2, a3, a4, a5, a6, a7, a8, a9, a10, a11, hl1, r0, r1, r2, r3, r4, r5, r6, r7, r8, r9, r10, r11⟩ := ls7.m1
            refine ⟨l1, lq, _, _, rfl, rfl, (e8.trans (e9.trans e10)) _ _ hl1, upd_same, by show 15 ≤ sizeLine; decide, fun lm hlm => ?_⟩
            have e11 := same_new (Same.refl _) hlm (o := .lst [.ref a0, .ref a1, .ref a2, .ref a3, .ref a4, .ref a5, .ref a6, .ref a7, .ref a8, .ref a9, .ref a10, .ref a11, .ref e2, .ref ra, .ref ba])
            have TT := e8.trans (e9.trans (e10.trans e11))
            have ls9 := ls7.keep TT
            have hra9 := (e9.trans (e10.trans e11)) _ _ upd_same
            have hba9 := (e10.trans e11) _ _ upd_same
            refine ⟨_, rfl, lm, [.ref a0, .ref a1, .ref a2, .ref a3, .ref a4, .ref a5, .ref a6, .ref a7, .ref a8, .ref a9, .ref a10, .ref a11, .ref e2, .ref ra, .ref ba], rfl, SqL.of upd_same, ?_⟩
            refine for_it walk_enum (fun i σ H' => StA H' s c ns ∧ H' lm = some (.lst [.ref a0, .ref a1, .ref a2, .ref a3, .ref a4, .ref a5, .ref a6, .ref a7, .ref a8, .ref a9, .ref a10, .ref a11, .ref e2, .ref ra, .ref ba]) ∧ ErrsOK A H' [.ref a0, .ref a1, .ref a2, .ref a3, .ref a4, .ref a5, .ref a6, .ref a7, .ref a8, .ref a9, .ref a10, .ref a11, .ref e2, .ref ra, .ref ba] ∧ ∃ x2 x3 x4 x5 x6 x7 x8 x10 x11 x12, σ = [some (.ref a), some (.ref s), x2, x3, x4, x5, x6, x7, x8, some (.ref lm), x10, x11, x12])
              ⟨ls9.st, upd_same, ?_, _, _, _, _, _, _, _, _, _, _, rfl⟩ (fun i σ H' _ h => SqL.of h.2.1) ?_ ?_
            · exact at15 rfl (fun v h => by obtain rfl := Option.some.inj h; exact ⟨_, A.BadField, rfl, rfl, (r0.keep TT).any⟩) (fun v h => by obtain rfl := Option.some.inj h; exact ⟨_, A.BadModes, rfl, rfl, (r1.keep TT).any⟩) (fun v h => by obtain rfl := Option.some.inj h; exact ⟨_, A.UnknownCall, rfl, rfl, (r2.keep TT).any⟩) (fun v h => by obtain rfl := Option.some.inj h; exact ⟨_, A.BadPlace, rfl, rfl, (r3.keep TT).any⟩) (fun v h => by obtain rfl := Option.some.inj h; exact ⟨_, A.BadText, rfl, rfl, (r4.keep TT).any⟩) (fun v h => by obtain rfl := Option.some.inj h; exact ⟨_, A.BadRow, rfl, rfl, (r5.keep TT).any⟩) (fun v h => by obtain rfl := Option.some.inj h; exact ⟨_, A.BadWord, rfl, rfl, (r6.keep TT).any⟩) (fun v h => by obtain rfl := Option.some.inj h; exact ⟨_, A.BadWish, rfl, rfl, (r7.keep TT).any⟩) (fun v h => by obtain rfl := Option.some.inj h; exact ⟨_, A.BadRun, rfl, rfl, (r8.keep TT).any⟩) (fun v h => by obtain rfl := Option.some.inj h; exact ⟨_, A.BadCallers, rfl, rfl, (r9.keep TT).any⟩) (fun v h => by obtain rfl := Option.some.inj h; exact ⟨_, A.BadKind, rfl, rfl, (r10.keep TT).any⟩) (fun v h => by obtain rfl := Option.some.inj h; exact ⟨_, A.BadRule, rfl, rfl, (r11.keep TT).any⟩) (fun v h => by obtain rfl := Option.some.inj h; exact ⟨_, A.BadCall, rfl, rfl, ls9.e2.any⟩) (fun v h => by obtain rfl := Option.some.inj h; exact ⟨_, A.Refused, rfl, rfl, ⟨none, hra9, nofun⟩⟩) (fun v h => by obtain rfl := Option.some.inj h; exact ⟨_, A.BadThing, rfl, rfl, ⟨none, hba9, nofun⟩⟩)
            · rintro i v σ H' H'' hi ⟨hS, hm, hE, x2, x3, x4, x5, x6, x7, x8, x10, x11, x12, rfl⟩ ⟨U, _, v', rfl, hU, rfl, h1, h2⟩
              obtain rfl := Option.some.inj h1
              obtain ⟨e, C, rfl, hC, he⟩ := hE i v' h2
              have u1 := same_new (Same.refl _) hU (o := .tup [.int (i : Nat), .ref e])
              refine ⟨U, _, rfl, SqT.of upd_same, rfl, _, _, rfl, _, _, rfl, rfl, ?_⟩
              have he1 := he.keep u1
              obtain ⟨d, hd1, hd2⟩ := id he1
              have hi15 : i < 15 := hi
              have hm1 := u1 _ _ hm
              refine ⟨fun t H8 => t = false ∧ H8 = upd H' U (.tup [.int (i : Nat), .ref e]), ?_, ?_⟩
              · refine ⟨_, rfl, e, C, d, .ref A.MakerError, _, true, rfl, hd1, hd2, Z.is i C hC, .own _, Z.kitB i C hC, true, rfl, iteF ?_⟩
                exact ⟨_, rfl, e, C, d, .ty "ValueError", _, true, rfl, hd1, hd2, Z.is i C hC, .ty _, Z.kitV i C hC, true, rfl, rfl, rfl⟩
              rintro _ _ ⟨rfl, rfl⟩
              refine iteF ?_
              refine ⟨_, rfl, e, C, (List.range 15).map (fun j => decide (j = i)), rfl, he1, Z.is i C hC, by simp, fun j D b hD hb => ?_, fun q H8 e8 nq hq => ?_⟩
              · rw [Z.kit i j C D hC hD]
                have hj : j < 15 := (List.getElem?_eq_some_iff.mp hD).1
                rw [List.getElem?_map, List.getElem?_range hj] at hb
                exact hb
              refine ⟨_, rfl, lm, _, rfl, .inl (SqL.of (e8 _ _ hm1)), 15, rfl, by decide, by decide, fun D4 hD4 => ?_⟩
              refine lc_range (lo := 0) (n := 15) (fun t H9 => Same H8 H9 ∧ H9 D4 = some (.lst (((List.range t).map (fun j => decide (j = i))).map V.bl))) ⟨same_new (Same.refl _) hD4, upd_same⟩ ?_ ?_
              · rintro j H9 hj ⟨e9, d9⟩
                refine ⟨rfl, ?_⟩
                refine ⟨_, rfl, _, rfl, rfl, _, d9, by rw [List.length_map, List.length_map, List.length_range, sizeLine_eq]; omega, fun b o hb => ?_, ?_⟩
                · rw [upd_ne (ne_of_none hb hD4)]
                  exact e9 _ _ hb
                · rw [upd_same, List.range_succ, List.map_append, List.map_append]
                  have ed : decide (V.int (0 + (j : Int)) = V.int (i : Int)) = decide (j = i) := by
                    by_cases h : j = i
                    · subst h
                      rw [decide_eq_true rfl]
                      exact decide_eq_true (by rw [Int.zero_add])
                    · rw [decide_eq_false h]
                      exact decide_eq_false fun z => h (by injection z with z; omega)
                  show some (HO.lst (_ ++ [V.bl (decide (V.int (0 + (j : Int)) = V.int (i : Int)))])) = some (HO.lst (_ ++ [V.bl (decide (j = i))]))
                  rw [ed]
              · rintro H9 ⟨e9, d9⟩
                refine ⟨_, _, .lst (SqL.of (e9 _ _ hq)) (dp_bools _), .lst (SqL.of d9) (dp_bools _), bools_shaped _, bools_shaped _, _, rfl, ?_⟩
                rw [bools_eqv]
                refine iteF ?_
                have ee := u1.trans (e8.trans e9)
                exact ⟨hS.keep ee, ee _ _ hm, hE.keep ee, _, _, _, _, _, _, _, _, _, _, rfl⟩
            · rintro σ H' ⟨hS, hm, hE, x2, x3, x4, x5, x6, x7, x8, x10, x11, x12, rfl⟩
              refine fun em hem => ?_
              have u1 := same_new (Same.refl _) hem (o := exo em A.MakerError none)
              refine ⟨em, A.MakerError, List.replicate 15 false, rfl, ⟨none, upd_same, nofun⟩, Z.i_MakerError, by simp, fun j D b hD hb => ?_, fun q H8 e8 nq hq => ?_⟩
              · rw [Z.kitM j D hD]
                rw [List.eq_of_mem_replicate (List.mem_of_getElem? hb)]
              refine ⟨q, _, rfl, .inl (SqL.of hq), rfl, rfl, false, rfl, ?_⟩
              exact iteF ⟨hS.keep (u1.trans e8), _, _, _, _, _, _, _, _, _, _, _, rfl⟩
    · rintro σ H1 ⟨hS, x2, x3, x4, x5, x6, x7, x8, x9, x10, x11, x12, rfl⟩
      refine fun em hem => ?_
      exact ⟨em, A.MakerError, none, .ty "ValueError", _, true, rfl, upd_same, nofun, Z.i_MakerError, .ty _, Z.kitMV, k _⟩
end
end MK
set_option Elab.async false
set_option linter.all false
set_option autoImplicit false
set_option maxRecDepth 100000
set_option maxHeartbeats 4000000
namespace MK
open PySem PySem.Spec PyProof.Rows L2
/-! ### what the top has written -/
section
variable {K : PySem.W.Frag} {h : Heap} {mg : Str → Option Value}
theorem def_mk {x : Str} {st : Stmt} {ps : List Str} {f : Addr} {oc : Value} {od an : Option Addr} {osl : Array (Option Value)} {kV doc pm cdv ct : Value} (X : K.In h) (G : h.Ns mainGlobals mg) (a : PySem.W.nsIn K mainGlobals x = some (some (.ref f)))
    (l : K.lookup f = some ⟨oc, od, .func (PySem.W.fnOf x x (defArgs st) (defBody st) (defScope st) .none kV doc pm an cdv ct), osl⟩) (c : PySem.W.codeIn K cdv x = true) (k : PySem.W.keepIn K (.ref f) = true)
    (b : ∀ (kV doc pm : Value) (an : Option Addr) (cdv ct : Value) (us : List Value), us.length = ps.length → bindArgs (PySem.W.fnOf x x (defArgs st) (defBody st) (defScope st) .none kV doc pm an cdv ct) ⟨us, []⟩ = pure (ps.zip us)) :
    DefX K mg x st ps f (PySem.W.fnOf x x (defArgs st) (defBody st) (defScope st) .none kV doc pm an cdv ct) :=
  have F := fun_mk (st := st) l c k
  ⟨F, PySem.W.mg_of X G a, F.binds b⟩
/-- an error by place, by name -/
theorem err_mk {P : Program} {w : World} {base : Heap} {x : Str} {C f : Addr} {fd : FuncData} {ps : List Str} {sp : Sp} {n : Nat} {ks : List Str} {g : List Value → List Value → List Value} {gV : List V → List V → List V} (T : ErrC K C f) (F : FnOk P w K mg base CX0 1 f fd ps sp) (hm : mg x = some (.ref C)) (b : KBn K fd ps (n + 1) ks g gV) :
    ErrCal P w K mg base 1 x C sp n ks g gV := ⟨f, fd, ps, T, F, hm, b⟩
end
theorem keep_of {K : PySem.W.Frag} {C : Addr} (h : errB K C = true) : PySem.W.keepIn K (.ref C) = true := by
  simp only [errB, Bool.and_eq_true, decide_eq_true_eq] at h
  exact h.2.2.2.1
theorem vals_rev {xs : List V} {us : List Value} (r : Vals xs us) : Vals xs.reverse us.reverse := by
  induction r with
  | nil => exact .nil
  | cons a b ih =>
    rw [List.reverse_cons, List.reverse_cons]
    exact ih.append (.cons a .nil)
theorem all_mk {l : PySem.W.OpenLaw} {w : World} {K : PySem.W.Frag} {h : Heap} {mg : Str → Option Value} {fa : Addr} (X : K.In h) (G : h.Ns mainGlobals mg) (hfa : mg "law" = some (.ref fa))
    {f_fresh : Addr} {od_fresh an_fresh : Option Addr} {sl_fresh : Array (Option Value)} {oc_fresh kV_fresh dc_fresh pm_fresh cd_fresh ct_fresh : Value}
    {f_fill : Addr} {od_fill an_fill : Option Addr} {sl_fill : Array (Option Value)} {oc_fill kV_fill dc_fill pm_fill cd_fill ct_fill : Value}
    {f_take : Addr} {od_take an_take : Option Addr} {sl_take : Array (Option Value)} {oc_take kV_take dc_take pm_take cd_take ct_take : Value}
    {f_one : Addr} {od_one an_one : Option Addr} {sl_one : Array (Option Value)} {oc_one kV_one dc_one pm_one cd_one ct_one : Value}
    {f_same : Addr} {od_same an_same : Option Addr} {sl_same : Array (Option Value)} {oc_same kV_same dc_same pm_same cd_same ct_same : Value}
    {f_with_one : Addr} {od_with_one an_with_one : Option Addr} {sl_with_one : Array (Option Value)} {oc_with_one kV_with_one dc_with_one pm_with_one cd_with_one ct_with_one : Value}
    {f_by_place : Addr} {od_by_place an_by_place : Option Addr} {sl_by_place : Array (Option Value)} {oc_by_place kV_by_place dc_by_place pm_by_place cd_by_place ct_by_place : Value}
    {f_held : Addr} {od_held an_held : Option Addr} {sl_held : Array (Option Value)} {oc_held kV_held dc_held pm_held cd_held ct_held : Value}
    {f_classes : Addr} {od_classes an_classes : Option Addr} {sl_classes : Array (Option Value)} {oc_classes kV_classes dc_classes pm_classes cd_classes ct_classes : Value}
    {f_law : Addr} {od_law an_law : Option Addr} {sl_law : Array (Option Value)} {oc_law kV_law dc_law pm_law cd_law ct_law : Value}
    {C_BadField : Addr}
    {C_BadModes : Addr}
    {C_UnknownCall : Addr}
    {C_BadPlace : Addr}
    {C_BadText : Addr}
    {C_BadRow : Addr}
    {C_BadWord : Addr}
    {C_BadWish : Addr}
    {C_BadRun : Addr}
    {C_BadCallers : Addr}
    {C_BadKind : Addr}
    {C_BadRule : Addr}
    {C_BadCall : Addr}
    {C_Refused : Addr}
    {C_BadThing : Addr}
    {C_MakerError : Addr}
    {f_BadField : Addr} {od_BadField an_BadField : Option Addr} {sl_BadField : Array (Option Value)} {oc_BadField kV_BadField dc_BadField pm_BadField cd_BadField ct_BadField : Value}
    {f_BadModes : Addr} {od_BadModes an_BadModes : Option Addr} {sl_BadModes : Array (Option Value)} {oc_BadModes kV_BadModes dc_BadModes pm_BadModes cd_BadModes ct_BadModes : Value}
    {f_UnknownCall : Addr} {od_UnknownCall an_UnknownCall : Option Addr} {sl_UnknownCall : Array (Option Value)} {oc_UnknownCall kV_UnknownCall dc_UnknownCall pm_UnknownCall cd_UnknownCall ct_UnknownCall : Value}
    {f_BadPlace : Addr} {od_BadPlace an_BadPlace : Option Addr} {sl_BadPlace : Array (Option Value)} {oc_BadPlace kV_BadPlace dc_BadPlace pm_BadPlace cd_BadPlace ct_BadPlace : Value}
    {f_BadText : Addr} {od_BadText an_BadText : Option Addr} {sl_BadText : Array (Option Value)} {oc_BadText kV_BadText dc_BadText pm_BadText cd_BadText ct_BadText : Value}
    {f_BadRow : Addr} {od_BadRow an_BadRow : Option Addr} {sl_BadRow : Array (Option Value)} {oc_BadRow kV_BadRow dc_BadRow pm_BadRow cd_BadRow ct_BadRow : Value}
    {f_BadWord : Addr} {od_BadWord an_BadWord : Option Addr} {sl_BadWord : Array (Option Value)} {oc_BadWord kV_BadWord dc_BadWord pm_BadWord cd_BadWord ct_BadWord : Value}
    {f_BadWish : Addr} {od_BadWish an_BadWish : Option Addr} {sl_BadWish : Array (Option Value)} {oc_BadWish kV_BadWish dc_BadWish pm_BadWish cd_BadWish ct_BadWish : Value}
    {f_BadRun : Addr} {od_BadRun an_BadRun : Option Addr} {sl_BadRun : Array (Option Value)} {oc_BadRun kV_BadRun dc_BadRun pm_BadRun cd_BadRun ct_BadRun : Value}
    {f_BadCallers : Addr} {od_BadCallers an_BadCallers : Option Addr} {sl_BadCallers : Array (Option Value)} {oc_BadCallers kV_BadCallers dc_BadCallers pm_BadCallers cd_BadCallers ct_BadCallers : Value}
    {f_BadKind : Addr} {od_BadKind an_BadKind : Option Addr} {sl_BadKind : Array (Option Value)} {oc_BadKind kV_BadKind dc_BadKind pm_BadKind cd_BadKind ct_BadKind : Value}
    {f_BadRule : Addr} {od_BadRule an_BadRule : Option Addr} {sl_BadRule : Array (Option Value)} {oc_BadRule kV_BadRule dc_BadRule pm_BadRule cd_BadRule ct_BadRule : Value}
    {f_BadCall : Addr} {od_BadCall an_BadCall : Option Addr} {sl_BadCall : Array (Option Value)} {oc_BadCall kV_BadCall dc_BadCall pm_BadCall cd_BadCall ct_BadCall : Value}
    (a_fresh : PySem.W.nsIn K mainGlobals "_law_fresh" = some (some (.ref f_fresh)))
    (l_fresh : K.lookup f_fresh = some ⟨oc_fresh, od_fresh, .func (PySem.W.fnOf "_law_fresh" "_law_fresh" (defArgs s_fresh) (defBody s_fresh) (defScope s_fresh) .none kV_fresh dc_fresh pm_fresh an_fresh cd_fresh ct_fresh), sl_fresh⟩)
    (c_fresh : PySem.W.codeIn K cd_fresh "_law_fresh" = true)
    (k_fresh : PySem.W.keepIn K (.ref f_fresh) = true)
    (a_fill : PySem.W.nsIn K mainGlobals "_law_fill" = some (some (.ref f_fill)))
    (l_fill : K.lookup f_fill = some ⟨oc_fill, od_fill, .func (PySem.W.fnOf "_law_fill" "_law_fill" (defArgs s_fill) (defBody s_fill) (defScope s_fill) .none kV_fill dc_fill pm_fill an_fill cd_fill ct_fill), sl_fill⟩)
    (c_fill : PySem.W.codeIn K cd_fill "_law_fill" = true)
    (k_fill : PySem.W.keepIn K (.ref f_fill) = true)
    (a_take : PySem.W.nsIn K mainGlobals "_law_take" = some (some (.ref f_take)))
    (l_take : K.lookup f_take = some ⟨oc_take, od_take, .func (PySem.W.fnOf "_law_take" "_law_take" (defArgs s_take) (defBody s_take) (defScope s_take) .none kV_take dc_take pm_take an_take cd_take ct_take), sl_take⟩)
    (c_take : PySem.W.codeIn K cd_take "_law_take" = true)
    (k_take : PySem.W.keepIn K (.ref f_take) = true)
    (a_one : PySem.W.nsIn K mainGlobals "_law_one" = some (some (.ref f_one)))
    (l_one : K.lookup f_one = some ⟨oc_one, od_one, .func (PySem.W.fnOf "_law_one" "_law_one" (defArgs s_one) (defBody s_one) (defScope s_one) .none kV_one dc_one pm_one an_one cd_one ct_one), sl_one⟩)
    (c_one : PySem.W.codeIn K cd_one "_law_one" = true)
    (k_one : PySem.W.keepIn K (.ref f_one) = true)
    (a_same : PySem.W.nsIn K mainGlobals "_law_same" = some (some (.ref f_same)))
    (l_same : K.lookup f_same = some ⟨oc_same, od_same, .func (PySem.W.fnOf "_law_same" "_law_same" (defArgs s_same) (defBody s_same) (defScope s_same) .none kV_same dc_same pm_same an_same cd_same ct_same), sl_same⟩)
    (c_same : PySem.W.codeIn K cd_same "_law_same" = true)
    (k_same : PySem.W.keepIn K (.ref f_same) = true)
    (a_with_one : PySem.W.nsIn K mainGlobals "_law_with_one" = some (some (.ref f_with_one)))
    (l_with_one : K.lookup f_with_one = some ⟨oc_with_one, od_with_one, .func (PySem.W.fnOf "_law_with_one" "_law_with_one" (defArgs s_with_one) (defBody s_with_one) (defScope s_with_one) .none kV_with_one dc_with_one pm_with_one an_with_one cd_with_one ct_with_one), sl_with_one⟩)
    (c_with_one : PySem.W.codeIn K cd_with_one "_law_with_one" = true)
    (k_with_one : PySem.W.keepIn K (.ref f_with_one) = true)
    (a_by_place : PySem.W.nsIn K mainGlobals "_law_by_place" = some (some (.ref f_by_place)))
    (l_by_place : K.lookup f_by_place = some ⟨oc_by_place, od_by_place, .func (PySem.W.fnOf "_law_by_place" "_law_by_place" (defArgs s_by_place) (defBody s_by_place) (defScope s_by_place) .none kV_by_place dc_by_place pm_by_place an_by_place cd_by_place ct_by_place), sl_by_place⟩)
    (c_by_place : PySem.W.codeIn K cd_by_place "_law_by_place" = true)
    (k_by_place : PySem.W.keepIn K (.ref f_by_place) = true)
    (a_held : PySem.W.nsIn K mainGlobals "_law_held" = some (some (.ref f_held)))
    (l_held : K.lookup f_held = some ⟨oc_held, od_held, .func (PySem.W.fnOf "_law_held" "_law_held" (defArgs s_held) (defBody s_held) (defScope s_held) .none kV_held dc_held pm_held an_held cd_held ct_held), sl_held⟩)
    (c_held : PySem.W.codeIn K cd_held "_law_held" = true)
    (k_held : PySem.W.keepIn K (.ref f_held) = true)
    (a_classes : PySem.W.nsIn K mainGlobals "_law_classes" = some (some (.ref f_classes)))
    (l_classes : K.lookup f_classes = some ⟨oc_classes, od_classes, .func (PySem.W.fnOf "_law_classes" "_law_classes" (defArgs s_classes) (defBody s_classes) (defScope s_classes) .none kV_classes dc_classes pm_classes an_classes cd_classes ct_classes), sl_classes⟩)
    (c_classes : PySem.W.codeIn K cd_classes "_law_classes" = true)
    (k_classes : PySem.W.keepIn K (.ref f_classes) = true)
    (a_law : PySem.W.nsIn K mainGlobals "law" = some (some (.ref f_law)))
    (l_law : K.lookup f_law = some ⟨oc_law, od_law, .func (PySem.W.fnOf "law" "law" (defArgs s_law) (defBody s_law) (defScope s_law) .none kV_law dc_law pm_law an_law cd_law ct_law), sl_law⟩)
    (c_law : PySem.W.codeIn K cd_law "law" = true)
    (k_law : PySem.W.keepIn K (.ref f_law) = true)
    (aC_BadField : PySem.W.nsIn K mainGlobals "BadField" = some (some (.ref C_BadField)))
    (aC_BadModes : PySem.W.nsIn K mainGlobals "BadModes" = some (some (.ref C_BadModes)))
    (aC_UnknownCall : PySem.W.nsIn K mainGlobals "UnknownCall" = some (some (.ref C_UnknownCall)))
    (aC_BadPlace : PySem.W.nsIn K mainGlobals "BadPlace" = some (some (.ref C_BadPlace)))
    (aC_BadText : PySem.W.nsIn K mainGlobals "BadText" = some (some (.ref C_BadText)))
    (aC_BadRow : PySem.W.nsIn K mainGlobals "BadRow" = some (some (.ref C_BadRow)))
    (aC_BadWord : PySem.W.nsIn K mainGlobals "BadWord" = some (some (.ref C_BadWord)))
    (aC_BadWish : PySem.W.nsIn K mainGlobals "BadWish" = some (some (.ref C_BadWish)))
    (aC_BadRun : PySem.W.nsIn K mainGlobals "BadRun" = some (some (.ref C_BadRun)))
    (aC_BadCallers : PySem.W.nsIn K mainGlobals "BadCallers" = some (some (.ref C_BadCallers)))
    (aC_BadKind : PySem.W.nsIn K mainGlobals "BadKind" = some (some (.ref C_BadKind)))
    (aC_BadRule : PySem.W.nsIn K mainGlobals "BadRule" = some (some (.ref C_BadRule)))
    (aC_BadCall : PySem.W.nsIn K mainGlobals "BadCall" = some (some (.ref C_BadCall)))
    (aC_Refused : PySem.W.nsIn K mainGlobals "Refused" = some (some (.ref C_Refused)))
    (aC_BadThing : PySem.W.nsIn K mainGlobals "BadThing" = some (some (.ref C_BadThing)))
    (aC_MakerError : PySem.W.nsIn K mainGlobals "MakerError" = some (some (.ref C_MakerError)))
    (i_BadField : PySem.W.findIn K (.ref C_BadField) "__init__" = some (some (.ref f_BadField)))
    (l_BadField : K.lookup f_BadField = some ⟨oc_BadField, od_BadField, .func (PySem.W.fnOf "__init__" "BadField.__init__" (defArgs s_BadField_init) (defBody s_BadField_init) (defScope s_BadField_init) .none kV_BadField dc_BadField pm_BadField an_BadField cd_BadField ct_BadField), sl_BadField⟩)
    (c_BadField : PySem.W.codeIn K cd_BadField "BadField.__init__" = true)
    (k_BadField : PySem.W.keepIn K (.ref f_BadField) = true)
    (t_BadField : PySem.W.typeIn K (.ref f_BadField) = some (.type "function"))
    (n_BadField_index : PySem.W.findIn K (.ref C_BadField) "index" = some none)
    (i_BadModes : PySem.W.findIn K (.ref C_BadModes) "__init__" = some (some (.ref f_BadModes)))
    (l_BadModes : K.lookup f_BadModes = some ⟨oc_BadModes, od_BadModes, .func (PySem.W.fnOf "__init__" "BadModes.__init__" (defArgs s_BadModes_init) (defBody s_BadModes_init) (defScope s_BadModes_init) .none kV_BadModes dc_BadModes pm_BadModes an_BadModes cd_BadModes ct_BadModes), sl_BadModes⟩)
    (c_BadModes : PySem.W.codeIn K cd_BadModes "BadModes.__init__" = true)
    (k_BadModes : PySem.W.keepIn K (.ref f_BadModes) = true)
    (t_BadModes : PySem.W.typeIn K (.ref f_BadModes) = some (.type "function"))
    (n_BadModes_modes : PySem.W.findIn K (.ref C_BadModes) "modes" = some none)
    (i_UnknownCall : PySem.W.findIn K (.ref C_UnknownCall) "__init__" = some (some (.ref f_UnknownCall)))
    (l_UnknownCall : K.lookup f_UnknownCall = some ⟨oc_UnknownCall, od_UnknownCall, .func (PySem.W.fnOf "__init__" "UnknownCall.__init__" (defArgs s_UnknownCall_init) (defBody s_UnknownCall_init) (defScope s_UnknownCall_init) .none kV_UnknownCall dc_UnknownCall pm_UnknownCall an_UnknownCall cd_UnknownCall ct_UnknownCall), sl_UnknownCall⟩)
    (c_UnknownCall : PySem.W.codeIn K cd_UnknownCall "UnknownCall.__init__" = true)
    (k_UnknownCall : PySem.W.keepIn K (.ref f_UnknownCall) = true)
    (t_UnknownCall : PySem.W.typeIn K (.ref f_UnknownCall) = some (.type "function"))
    (n_UnknownCall_name : PySem.W.findIn K (.ref C_UnknownCall) "name" = some none)
    (i_BadPlace : PySem.W.findIn K (.ref C_BadPlace) "__init__" = some (some (.ref f_BadPlace)))
    (l_BadPlace : K.lookup f_BadPlace = some ⟨oc_BadPlace, od_BadPlace, .func (PySem.W.fnOf "__init__" "BadPlace.__init__" (defArgs s_BadPlace_init) (defBody s_BadPlace_init) (defScope s_BadPlace_init) .none kV_BadPlace dc_BadPlace pm_BadPlace an_BadPlace cd_BadPlace ct_BadPlace), sl_BadPlace⟩)
    (c_BadPlace : PySem.W.codeIn K cd_BadPlace "BadPlace.__init__" = true)
    (k_BadPlace : PySem.W.keepIn K (.ref f_BadPlace) = true)
    (t_BadPlace : PySem.W.typeIn K (.ref f_BadPlace) = some (.type "function"))
    (n_BadPlace_place : PySem.W.findIn K (.ref C_BadPlace) "place" = some none)
    (i_BadText : PySem.W.findIn K (.ref C_BadText) "__init__" = some (some (.ref f_BadText)))
    (l_BadText : K.lookup f_BadText = some ⟨oc_BadText, od_BadText, .func (PySem.W.fnOf "__init__" "BadText.__init__" (defArgs s_BadText_init) (defBody s_BadText_init) (defScope s_BadText_init) .none kV_BadText dc_BadText pm_BadText an_BadText cd_BadText ct_BadText), sl_BadText⟩)
    (c_BadText : PySem.W.codeIn K cd_BadText "BadText.__init__" = true)
    (k_BadText : PySem.W.keepIn K (.ref f_BadText) = true)
    (t_BadText : PySem.W.typeIn K (.ref f_BadText) = some (.type "function"))
    (n_BadText_line : PySem.W.findIn K (.ref C_BadText) "line" = some none)
    (i_BadRow : PySem.W.findIn K (.ref C_BadRow) "__init__" = some (some (.ref f_BadRow)))
    (l_BadRow : K.lookup f_BadRow = some ⟨oc_BadRow, od_BadRow, .func (PySem.W.fnOf "__init__" "BadRow.__init__" (defArgs s_BadRow_init) (defBody s_BadRow_init) (defScope s_BadRow_init) .none kV_BadRow dc_BadRow pm_BadRow an_BadRow cd_BadRow ct_BadRow), sl_BadRow⟩)
    (c_BadRow : PySem.W.codeIn K cd_BadRow "BadRow.__init__" = true)
    (k_BadRow : PySem.W.keepIn K (.ref f_BadRow) = true)
    (t_BadRow : PySem.W.typeIn K (.ref f_BadRow) = some (.type "function"))
    (n_BadRow_index : PySem.W.findIn K (.ref C_BadRow) "index" = some none)
    (i_BadWord : PySem.W.findIn K (.ref C_BadWord) "__init__" = some (some (.ref f_BadWord)))
    (l_BadWord : K.lookup f_BadWord = some ⟨oc_BadWord, od_BadWord, .func (PySem.W.fnOf "__init__" "BadWord.__init__" (defArgs s_BadWord_init) (defBody s_BadWord_init) (defScope s_BadWord_init) .none kV_BadWord dc_BadWord pm_BadWord an_BadWord cd_BadWord ct_BadWord), sl_BadWord⟩)
    (c_BadWord : PySem.W.codeIn K cd_BadWord "BadWord.__init__" = true)
    (k_BadWord : PySem.W.keepIn K (.ref f_BadWord) = true)
    (t_BadWord : PySem.W.typeIn K (.ref f_BadWord) = some (.type "function"))
    (n_BadWord_word : PySem.W.findIn K (.ref C_BadWord) "word" = some none)
    (i_BadWish : PySem.W.findIn K (.ref C_BadWish) "__init__" = some (some (.ref f_BadWish)))
    (l_BadWish : K.lookup f_BadWish = some ⟨oc_BadWish, od_BadWish, .func (PySem.W.fnOf "__init__" "BadWish.__init__" (defArgs s_BadWish_init) (defBody s_BadWish_init) (defScope s_BadWish_init) .none kV_BadWish dc_BadWish pm_BadWish an_BadWish cd_BadWish ct_BadWish), sl_BadWish⟩)
    (c_BadWish : PySem.W.codeIn K cd_BadWish "BadWish.__init__" = true)
    (k_BadWish : PySem.W.keepIn K (.ref f_BadWish) = true)
    (t_BadWish : PySem.W.typeIn K (.ref f_BadWish) = some (.type "function"))
    (n_BadWish_wish : PySem.W.findIn K (.ref C_BadWish) "wish" = some none)
    (i_BadRun : PySem.W.findIn K (.ref C_BadRun) "__init__" = some (some (.ref f_BadRun)))
    (l_BadRun : K.lookup f_BadRun = some ⟨oc_BadRun, od_BadRun, .func (PySem.W.fnOf "__init__" "BadRun.__init__" (defArgs s_BadRun_init) (defBody s_BadRun_init) (defScope s_BadRun_init) .none kV_BadRun dc_BadRun pm_BadRun an_BadRun cd_BadRun ct_BadRun), sl_BadRun⟩)
    (c_BadRun : PySem.W.codeIn K cd_BadRun "BadRun.__init__" = true)
    (k_BadRun : PySem.W.keepIn K (.ref f_BadRun) = true)
    (t_BadRun : PySem.W.typeIn K (.ref f_BadRun) = some (.type "function"))
    (n_BadRun_thing : PySem.W.findIn K (.ref C_BadRun) "thing" = some none)
    (i_BadCallers : PySem.W.findIn K (.ref C_BadCallers) "__init__" = some (some (.ref f_BadCallers)))
    (l_BadCallers : K.lookup f_BadCallers = some ⟨oc_BadCallers, od_BadCallers, .func (PySem.W.fnOf "__init__" "BadCallers.__init__" (defArgs s_BadCallers_init) (defBody s_BadCallers_init) (defScope s_BadCallers_init) .none kV_BadCallers dc_BadCallers pm_BadCallers an_BadCallers cd_BadCallers ct_BadCallers), sl_BadCallers⟩)
    (c_BadCallers : PySem.W.codeIn K cd_BadCallers "BadCallers.__init__" = true)
    (k_BadCallers : PySem.W.keepIn K (.ref f_BadCallers) = true)
    (t_BadCallers : PySem.W.typeIn K (.ref f_BadCallers) = some (.type "function"))
    (n_BadCallers_callers : PySem.W.findIn K (.ref C_BadCallers) "callers" = some none)
    (i_BadKind : PySem.W.findIn K (.ref C_BadKind) "__init__" = some (some (.ref f_BadKind)))
    (l_BadKind : K.lookup f_BadKind = some ⟨oc_BadKind, od_BadKind, .func (PySem.W.fnOf "__init__" "BadKind.__init__" (defArgs s_BadKind_init) (defBody s_BadKind_init) (defScope s_BadKind_init) .none kV_BadKind dc_BadKind pm_BadKind an_BadKind cd_BadKind ct_BadKind), sl_BadKind⟩)
    (c_BadKind : PySem.W.codeIn K cd_BadKind "BadKind.__init__" = true)
    (k_BadKind : PySem.W.keepIn K (.ref f_BadKind) = true)
    (t_BadKind : PySem.W.typeIn K (.ref f_BadKind) = some (.type "function"))
    (n_BadKind_kind : PySem.W.findIn K (.ref C_BadKind) "kind" = some none)
    (i_BadRule : PySem.W.findIn K (.ref C_BadRule) "__init__" = some (some (.ref f_BadRule)))
    (l_BadRule : K.lookup f_BadRule = some ⟨oc_BadRule, od_BadRule, .func (PySem.W.fnOf "__init__" "BadRule.__init__" (defArgs s_BadRule_init) (defBody s_BadRule_init) (defScope s_BadRule_init) .none kV_BadRule dc_BadRule pm_BadRule an_BadRule cd_BadRule ct_BadRule), sl_BadRule⟩)
    (c_BadRule : PySem.W.codeIn K cd_BadRule "BadRule.__init__" = true)
    (k_BadRule : PySem.W.keepIn K (.ref f_BadRule) = true)
    (t_BadRule : PySem.W.typeIn K (.ref f_BadRule) = some (.type "function"))
    (n_BadRule_index : PySem.W.findIn K (.ref C_BadRule) "index" = some none)
    (i_BadCall : PySem.W.findIn K (.ref C_BadCall) "__init__" = some (some (.ref f_BadCall)))
    (l_BadCall : K.lookup f_BadCall = some ⟨oc_BadCall, od_BadCall, .func (PySem.W.fnOf "__init__" "BadCall.__init__" (defArgs s_BadCall_init) (defBody s_BadCall_init) (defScope s_BadCall_init) .none kV_BadCall dc_BadCall pm_BadCall an_BadCall cd_BadCall ct_BadCall), sl_BadCall⟩)
    (c_BadCall : PySem.W.codeIn K cd_BadCall "BadCall.__init__" = true)
    (k_BadCall : PySem.W.keepIn K (.ref f_BadCall) = true)
    (t_BadCall : PySem.W.typeIn K (.ref f_BadCall) = some (.type "function"))
    (n_BadCall_index : PySem.W.findIn K (.ref C_BadCall) "index" = some none)
    (n_BadCall_reason : PySem.W.findIn K (.ref C_BadCall) "reason" = some none)
    (z_len : PySem.W.nsIn K mainGlobals "len" = some none)
    (z_int : PySem.W.nsIn K mainGlobals "int" = some none)
    (z_enumerate : PySem.W.nsIn K mainGlobals "enumerate" = some none)
    (z_list : PySem.W.nsIn K mainGlobals "list" = some none)
    (z_tuple : PySem.W.nsIn K mainGlobals "tuple" = some none)
    (z_isinstance : PySem.W.nsIn K mainGlobals "isinstance" = some none)
    (z_range : PySem.W.nsIn K mainGlobals "range" = some none)
    (z_all : PySem.W.nsIn K mainGlobals "all" = some none)
    (z_zip : PySem.W.nsIn K mainGlobals "zip" = some none)
    (z_ValueError : PySem.W.nsIn K mainGlobals "ValueError" = some none)
    (z_bool : PySem.W.nsIn K mainGlobals "bool" = some none)
    (o_BadField : oexB K C_BadField = true)
    (o_BadModes : oexB K C_BadModes = true)
    (o_UnknownCall : oexB K C_UnknownCall = true)
    (o_BadPlace : oexB K C_BadPlace = true)
    (o_BadText : oexB K C_BadText = true)
    (o_BadRow : oexB K C_BadRow = true)
    (o_BadWord : oexB K C_BadWord = true)
    (o_BadWish : oexB K C_BadWish = true)
    (o_BadRun : oexB K C_BadRun = true)
    (o_BadCallers : oexB K C_BadCallers = true)
    (o_BadKind : oexB K C_BadKind = true)
    (o_BadRule : oexB K C_BadRule = true)
    (o_BadCall : oexB K C_BadCall = true)
    (e_BadField : errB K C_BadField = true)
    (e_BadModes : errB K C_BadModes = true)
    (e_UnknownCall : errB K C_UnknownCall = true)
    (e_BadPlace : errB K C_BadPlace = true)
    (e_BadText : errB K C_BadText = true)
    (e_BadRow : errB K C_BadRow = true)
    (e_BadWord : errB K C_BadWord = true)
    (e_BadWish : errB K C_BadWish = true)
    (e_BadRun : errB K C_BadRun = true)
    (e_BadCallers : errB K C_BadCallers = true)
    (e_BadKind : errB K C_BadKind = true)
    (e_BadRule : errB K C_BadRule = true)
    (e_BadCall : errB K C_BadCall = true)
    (e_Refused : errB K C_Refused = true)
    (e_BadThing : errB K C_BadThing = true)
    (e_MakerError : errB K C_MakerError = true)
    (x_MakerError : PySem.W.excIn K C_MakerError PySem.HandSPX.veTail "ValueError.__new__" = true)
    (x_Refused : PySem.W.excIn K C_Refused PySem.HandSPX.veTail "ValueError.__new__" = true)
    (x_BadThing : PySem.W.excIn K C_BadThing PySem.HandSPX.veTail "ValueError.__new__" = true)
    (kits : kitsB K [C_BadField, C_BadModes, C_UnknownCall, C_BadPlace, C_BadText, C_BadRow, C_BadWord, C_BadWish, C_BadRun, C_BadCallers, C_BadKind, C_BadRule, C_BadCall, C_Refused, C_BadThing] C_MakerError = true)
    : ∃ fd : FuncData, (∀ (s : Shared) (v : Value), BindsTo s fd ⟨[v], []⟩ [("_law_script", v)]) ∧ ∀ base : Heap, K.In base → base.Ns mainGlobals mg → FnOk l.prog w K mg base CX0 5 fa fd ["_law_script"] (spLaw K) := by
  have e := hfa.symm.trans (PySem.W.mg_of X G a_law)
  cases e
  have T : Txt K mg := ⟨PySem.W.mg_none_of X G z_len, PySem.W.mg_none_of X G z_int, PySem.W.mg_none_of X G z_enumerate, PySem.W.mg_none_of X G z_list, PySem.W.mg_none_of X G z_tuple, PySem.W.mg_none_of X G z_isinstance, PySem.W.mg_none_of X G z_range, PySem.W.mg_none_of X G z_all, PySem.W.mg_none_of X G z_zip, PySem.W.mg_none_of X G z_ValueError, PySem.W.mg_none_of X G z_bool⟩
  have F_fresh := def_mk (st := s_fresh) (ps := ["_law_script"]) X G a_fresh l_fresh c_fresh k_fresh fun _ _ _ _ _ _ us hl => match us, hl with | [_], _ => rfl
  have F_fill := def_mk (st := s_fill) (ps := ["_law_state"]) X G a_fill l_fill c_fill k_fill fun _ _ _ _ _ _ us hl => match us, hl with | [_], _ => rfl
  have F_take := def_mk (st := s_take) (ps := ["_law_state", "_law_many"]) X G a_take l_take c_take k_take fun _ _ _ _ _ _ us hl => match us, hl with | [_, _], _ => rfl
  have F_one := def_mk (st := s_one) (ps := ["_law_state", "_law_things"]) X G a_one l_one c_one k_one fun _ _ _ _ _ _ us hl => match us, hl with | [_, _], _ => rfl
  have F_same := def_mk (st := s_same) (ps := ["_law_found", "_law_due"]) X G a_same l_same c_same k_same fun _ _ _ _ _ _ us hl => match us, hl with | [_, _], _ => rfl
  have F_with_one := def_mk (st := s_with_one) (ps := ["_law_x"]) X G a_with_one l_with_one c_with_one k_with_one fun _ _ _ _ _ _ us hl => match us, hl with | [_], _ => rfl
  have F_by_place := def_mk (st := s_by_place) (ps := ["_law_x"]) X G a_by_place l_by_place c_by_place k_by_place fun _ _ _ _ _ _ us hl => match us, hl with | [_], _ => rfl
  have F_held := def_mk (st := s_held) (ps := ["_law_made"]) X G a_held l_held c_held k_held fun _ _ _ _ _ _ us hl => match us, hl with | [_], _ => rfl
  have F_classes := def_mk (st := s_classes) (ps := ["_law_e"]) X G a_classes l_classes c_classes k_classes fun _ _ _ _ _ _ us hl => match us, hl with | [_], _ => rfl
  have F_law := def_mk (st := s_law) (ps := ["_law_script"]) X G a_law l_law c_law k_law fun _ _ _ _ _ _ us hl => match us, hl with | [_], _ => rfl
  obtain ⟨oc_BadField, fc_BadField, ic_BadField⟩ := errB_ok e_BadField o_BadField
  have FI_BadField := fun_mk (st := s_BadField_init) l_BadField c_BadField k_BadField
  have TI_BadField : ErrC K C_BadField f_BadField := ⟨oc_BadField, i_BadField, t_BadField⟩
  have mC_BadField := PySem.W.mg_of X G aC_BadField
  obtain ⟨oc_BadModes, fc_BadModes, ic_BadModes⟩ := errB_ok e_BadModes o_BadModes
  have FI_BadModes := fun_mk (st := s_BadModes_init) l_BadModes c_BadModes k_BadModes
  have TI_BadModes : ErrC K C_BadModes f_BadModes := ⟨oc_BadModes, i_BadModes, t_BadModes⟩
  have mC_BadModes := PySem.W.mg_of X G aC_BadModes
  obtain ⟨oc_UnknownCall, fc_UnknownCall, ic_UnknownCall⟩ := errB_ok e_UnknownCall o_UnknownCall
  have FI_UnknownCall := fun_mk (st := s_UnknownCall_init) l_UnknownCall c_UnknownCall k_UnknownCall
  have TI_UnknownCall : ErrC K C_UnknownCall f_UnknownCall := ⟨oc_UnknownCall, i_UnknownCall, t_UnknownCall⟩
  have mC_UnknownCall := PySem.W.mg_of X G aC_UnknownCall
  obtain ⟨oc_BadPlace, fc_BadPlace, ic_BadPlace⟩ := errB_ok e_BadPlace o_BadPlace
  have FI_BadPlace := fun_mk (st := s_BadPlace_init) l_BadPlace c_BadPlace k_BadPlace
  have TI_BadPlace : ErrC K C_BadPlace f_BadPlace := ⟨oc_BadPlace, i_BadPlace, t_BadPlace⟩
  have mC_BadPlace := PySem.W.mg_of X G aC_BadPlace
  obtain ⟨oc_BadText, fc_BadText, ic_BadText⟩ := errB_ok e_BadText o_BadText
  have FI_BadText := fun_mk (st := s_BadText_init) l_BadText c_BadText k_BadText
  have TI_BadText : ErrC K C_BadText f_BadText := ⟨oc_BadText, i_BadText, t_BadText⟩
  have mC_BadText := PySem.W.mg_of X G aC_BadText
  obtain ⟨oc_BadRow, fc_BadRow, ic_BadRow⟩ := errB_ok e_BadRow o_BadRow
  have FI_BadRow := fun_mk (st := s_BadRow_init) l_BadRow c_BadRow k_BadRow
  have TI_BadRow : ErrC K C_BadRow f_BadRow := ⟨oc_BadRow, i_BadRow, t_BadRow⟩
  have mC_BadRow := PySem.W.mg_of X G aC_BadRow
  obtain ⟨oc_BadWord, fc_BadWord, ic_BadWord⟩ := errB_ok e_BadWord o_BadWord
  have FI_BadWord := fun_mk (st := s_BadWord_init) l_BadWord c_BadWord k_BadWord
  have TI_BadWord : ErrC K C_BadWord f_BadWord := ⟨oc_BadWord, i_BadWord, t_BadWord⟩
  have mC_BadWord := PySem.W.mg_of X G aC_BadWord
  obtain ⟨oc_BadWish, fc_BadWish, ic_BadWish⟩ := errB_ok e_BadWish o_BadWish
  have FI_BadWish := fun_mk (st := s_BadWish_init) l_BadWish c_BadWish k_BadWish
  have TI_BadWish : ErrC K C_BadWish f_BadWish := ⟨oc_BadWish, i_BadWish, t_BadWish⟩
  have mC_BadWish := PySem.W.mg_of X G aC_BadWish
  obtain ⟨oc_BadRun, fc_BadRun, ic_BadRun⟩ := errB_ok e_BadRun o_BadRun
  have FI_BadRun := fun_mk (st := s_BadRun_init) l_BadRun c_BadRun k_BadRun
  have TI_BadRun : ErrC K C_BadRun f_BadRun := ⟨oc_BadRun, i_BadRun, t_BadRun⟩
  have mC_BadRun := PySem.W.mg_of X G aC_BadRun
  obtain ⟨oc_BadCallers, fc_BadCallers, ic_BadCallers⟩ := errB_ok e_BadCallers o_BadCallers
  have FI_BadCallers := fun_mk (st := s_BadCallers_init) l_BadCallers c_BadCallers k_BadCallers
  have TI_BadCallers : ErrC K C_BadCallers f_BadCallers := ⟨oc_BadCallers, i_BadCallers, t_BadCallers⟩
  have mC_BadCallers := PySem.W.mg_of X G aC_BadCallers
  obtain ⟨oc_BadKind, fc_BadKind, ic_BadKind⟩ := errB_ok e_BadKind o_BadKind
  have FI_BadKind := fun_mk (st := s_BadKind_init) l_BadKind c_BadKind k_BadKind
  have TI_BadKind : ErrC K C_BadKind f_BadKind := ⟨oc_BadKind, i_BadKind, t_BadKind⟩
  have mC_BadKind := PySem.W.mg_of X G aC_BadKind
  obtain ⟨oc_BadRule, fc_BadRule, ic_BadRule⟩ := errB_ok e_BadRule o_BadRule
  have FI_BadRule := fun_mk (st := s_BadRule_init) l_BadRule c_BadRule k_BadRule
  have TI_BadRule : ErrC K C_BadRule f_BadRule := ⟨oc_BadRule, i_BadRule, t_BadRule⟩
  have mC_BadRule := PySem.W.mg_of X G aC_BadRule
  obtain ⟨oc_BadCall, fc_BadCall, ic_BadCall⟩ := errB_ok e_BadCall o_BadCall
  have FI_BadCall := fun_mk (st := s_BadCall_init) l_BadCall c_BadCall k_BadCall
  have TI_BadCall : ErrC K C_BadCall f_BadCall := ⟨oc_BadCall, i_BadCall, t_BadCall⟩
  have mC_BadCall := PySem.W.mg_of X G aC_BadCall
  obtain ⟨kit1, kit2, kit3, kit4, kit5⟩ := kitsB_ok kits
  refine ⟨PySem.W.fnOf "law" "law" (defArgs s_law) (defBody s_law) (defScope s_law) .none kV_law dc_law pm_law an_law cd_law ct_law, fun s v => .of_eq rfl, fun base _ _ => ?_⟩
  · have Z : Es l.prog w K mg base ⟨C_BadField, C_BadModes, C_UnknownCall, C_BadPlace, C_BadText, C_BadRow, C_BadWord, C_BadWish, C_BadRun, C_BadCallers, C_BadKind, C_BadRule, C_BadCall, C_Refused, C_BadThing, C_MakerError⟩ :=
      { e_BadField := err_mk TI_BadField (ok_BadField FI_BadField oc_BadField n_BadField_index) mC_BadField ⟨fun s us ws _ h1 h2 => match us, ws, h1, h2 with | [_, _], [], _, _ => .of_eq rfl, fun r _ => r⟩,
        k_BadField := err_mk TI_BadField (ok_BadField FI_BadField oc_BadField n_BadField_index) mC_BadField ⟨fun s us ws _ h1 h2 => match us, ws, h1, h2 with | [_], [_], _, _ => .of_eq rfl, fun r r2 => r.append r2⟩,
        f_BadField := fc_BadField,
        n_BadField := n_BadField_index,
        e_BadModes := err_mk TI_BadModes (ok_BadModes FI_BadModes oc_BadModes n_BadModes_modes) mC_BadModes ⟨fun s us ws _ h1 h2 => match us, ws, h1, h2 with | [_, _], [], _, _ => .of_eq rfl, fun r _ => r⟩,
        k_BadModes := err_mk TI_BadModes (ok_BadModes FI_BadModes oc_BadModes n_BadModes_modes) mC_BadModes ⟨fun s us ws _ h1 h2 => match us, ws, h1, h2 with | [_], [_], _, _ => .of_eq rfl, fun r r2 => r.append r2⟩,
        f_BadModes := fc_BadModes,
        n_BadModes := n_BadModes_modes,
        e_UnknownCall := err_mk TI_UnknownCall (ok_UnknownCall FI_UnknownCall oc_UnknownCall n_UnknownCall_name) mC_UnknownCall ⟨fun s us ws _ h1 h2 => match us, ws, h1, h2 with | [_, _], [], _, _ => .of_eq rfl, fun r _ => r⟩,
        k_UnknownCall := err_mk TI_UnknownCall (ok_UnknownCall FI_UnknownCall oc_UnknownCall n_UnknownCall_name) mC_UnknownCall ⟨fun s us ws _ h1 h2 => match us, ws, h1, h2 with | [_], [_], _, _ => .of_eq rfl, fun r r2 => r.append r2⟩,
        f_UnknownCall := fc_UnknownCall,
        n_UnknownCall := n_UnknownCall_name,
        e_BadPlace := err_mk TI_BadPlace (ok_BadPlace FI_BadPlace oc_BadPlace n_BadPlace_place) mC_BadPlace ⟨fun s us ws _ h1 h2 => match us, ws, h1, h2 with | [_, _], [], _, _ => .of_eq rfl, fun r _ => r⟩,
        k_BadPlace := err_mk TI_BadPlace (ok_BadPlace FI_BadPlace oc_BadPlace n_BadPlace_place) mC_BadPlace ⟨fun s us ws _ h1 h2 => match us, ws, h1, h2 with | [_], [_], _, _ => .of_eq rfl, fun r r2 => r.append r2⟩,
        f_BadPlace := fc_BadPlace,
        n_BadPlace := n_BadPlace_place,
        e_BadText := err_mk TI_BadText (ok_BadText FI_BadText oc_BadText n_BadText_line) mC_BadText ⟨fun s us ws _ h1 h2 => match us, ws, h1, h2 with | [_, _], [], _, _ => .of_eq rfl, fun r _ => r⟩,
        k_BadText := err_mk TI_BadText (ok_BadText FI_BadText oc_BadText n_BadText_line) mC_BadText ⟨fun s us ws _ h1 h2 => match us, ws, h1, h2 with | [_], [_], _, _ => .of_eq rfl, fun r r2 => r.append r2⟩,
        f_BadText := fc_BadText,
        n_BadText := n_BadText_line,
        e_BadRow := err_mk TI_BadRow (ok_BadRow FI_BadRow oc_BadRow n_BadRow_index) mC_BadRow ⟨fun s us ws _ h1 h2 => match us, ws, h1, h2 with | [_, _], [], _, _ => .of_eq rfl, fun r _ => r⟩,
        k_BadRow := err_mk TI_BadRow (ok_BadRow FI_BadRow oc_BadRow n_BadRow_index) mC_BadRow ⟨fun s us ws _ h1 h2 => match us, ws, h1, h2 with | [_], [_], _, _ => .of_eq rfl, fun r r2 => r.append r2⟩,
        f_BadRow := fc_BadRow,
        n_BadRow := n_BadRow_index,
        e_BadWord := err_mk TI_BadWord (ok_BadWord FI_BadWord oc_BadWord n_BadWord_word) mC_BadWord ⟨fun s us ws _ h1 h2 => match us, ws, h1, h2 with | [_, _], [], _, _ => .of_eq rfl, fun r _ => r⟩,
        k_BadWord := err_mk TI_BadWord (ok_BadWord FI_BadWord oc_BadWord n_BadWord_word) mC_BadWord ⟨fun s us ws _ h1 h2 => match us, ws, h1, h2 with | [_], [_], _, _ => .of_eq rfl, fun r r2 => r.append r2⟩,
        f_BadWord := fc_BadWord,
        n_BadWord := n_BadWord_word,
        e_BadWish := err_mk TI_BadWish (ok_BadWish FI_BadWish oc_BadWish n_BadWish_wish) mC_BadWish ⟨fun s us ws _ h1 h2 => match us, ws, h1, h2 with | [_, _], [], _, _ => .of_eq rfl, fun r _ => r⟩,
        k_BadWish := err_mk TI_BadWish (ok_BadWish FI_BadWish oc_BadWish n_BadWish_wish) mC_BadWish ⟨fun s us ws _ h1 h2 => match us, ws, h1, h2 with | [_], [_], _, _ => .of_eq rfl, fun r r2 => r.append r2⟩,
        f_BadWish := fc_BadWish,
        n_BadWish := n_BadWish_wish,
        e_BadRun := err_mk TI_BadRun (ok_BadRun FI_BadRun oc_BadRun n_BadRun_thing) mC_BadRun ⟨fun s us ws _ h1 h2 => match us, ws, h1, h2 with | [_, _], [], _, _ => .of_eq rfl, fun r _ => r⟩,
        k_BadRun := err_mk TI_BadRun (ok_BadRun FI_BadRun oc_BadRun n_BadRun_thing) mC_BadRun ⟨fun s us ws _ h1 h2 => match us, ws, h1, h2 with | [_], [_], _, _ => .of_eq rfl, fun r r2 => r.append r2⟩,
        f_BadRun := fc_BadRun,
        n_BadRun := n_BadRun_thing,
        e_BadCallers := err_mk TI_BadCallers (ok_BadCallers FI_BadCallers oc_BadCallers n_BadCallers_callers) mC_BadCallers ⟨fun s us ws _ h1 h2 => match us, ws, h1, h2 with | [_, _], [], _, _ => .of_eq rfl, fun r _ => r⟩,
        k_BadCallers := err_mk TI_BadCallers (ok_BadCallers FI_BadCallers oc_BadCallers n_BadCallers_callers) mC_BadCallers ⟨fun s us ws _ h1 h2 => match us, ws, h1, h2 with | [_], [_], _, _ => .of_eq rfl, fun r r2 => r.append r2⟩,
        f_BadCallers := fc_BadCallers,
        n_BadCallers := n_BadCallers_callers,
        e_BadKind := err_mk TI_BadKind (ok_BadKind FI_BadKind oc_BadKind n_BadKind_kind) mC_BadKind ⟨fun s us ws _ h1 h2 => match us, ws, h1, h2 with | [_, _], [], _, _ => .of_eq rfl, fun r _ => r⟩,
        k_BadKind := err_mk TI_BadKind (ok_BadKind FI_BadKind oc_BadKind n_BadKind_kind) mC_BadKind ⟨fun s us ws _ h1 h2 => match us, ws, h1, h2 with | [_], [_], _, _ => .of_eq rfl, fun r r2 => r.append r2⟩,
        f_BadKind := fc_BadKind,
        n_BadKind := n_BadKind_kind,
        e_BadRule := err_mk TI_BadRule (ok_BadRule FI_BadRule oc_BadRule n_BadRule_index) mC_BadRule ⟨fun s us ws _ h1 h2 => match us, ws, h1, h2 with | [_, _], [], _, _ => .of_eq rfl, fun r _ => r⟩,
        k_BadRule := err_mk TI_BadRule (ok_BadRule FI_BadRule oc_BadRule n_BadRule_index) mC_BadRule ⟨fun s us ws _ h1 h2 => match us, ws, h1, h2 with | [_], [_], _, _ => .of_eq rfl, fun r r2 => r.append r2⟩,
        f_BadRule := fc_BadRule,
        n_BadRule := n_BadRule_index,
        e_BadCall := err_mk TI_BadCall (ok_BadCall FI_BadCall oc_BadCall n_BadCall_index n_BadCall_reason) mC_BadCall ⟨fun s us ws _ h1 h2 => match us, ws, h1, h2 with | [_, _, _], [], _, _ => .of_eq rfl, fun r _ => r⟩,
        k_BadCall := err_mk TI_BadCall (ok_BadCall FI_BadCall oc_BadCall n_BadCall_index n_BadCall_reason) mC_BadCall ⟨fun s us ws _ h1 h2 => match us, ws, h1, h2 with | [_], [_, _], _, _ => .of_eq rfl, fun r r2 => r.append (vals_rev r2)⟩,
        f_BadCall := fc_BadCall,
        n_BadCall := n_BadCall_index,
        o_BadCall := n_BadCall_reason,
        x_MakerError := ⟨x_MakerError, PySem.W.mg_of X G aC_MakerError, (keep_of e_MakerError)⟩,
        x_Refused := ⟨x_Refused, PySem.W.mg_of X G aC_Refused, (keep_of e_Refused)⟩,
        x_BadThing := ⟨x_BadThing, PySem.W.mg_of X G aC_BadThing, (keep_of e_BadThing)⟩,
        i_MakerError := errI_of e_MakerError,
        is := at15 rfl (fun C h => by obtain rfl := Option.some.inj h; exact errI_of e_BadField) (fun C h => by obtain rfl := Option.some.inj h; exact errI_of e_BadModes) (fun C h => by obtain rfl := Option.some.inj h; exact errI_of e_UnknownCall) (fun C h => by obtain rfl := Option.some.inj h; exact errI_of e_BadPlace) (fun C h => by obtain rfl := Option.some.inj h; exact errI_of e_BadText) (fun C h => by obtain rfl := Option.some.inj h; exact errI_of e_BadRow) (fun C h => by obtain rfl := Option.some.inj h; exact errI_of e_BadWord) (fun C h => by obtain rfl := Option.some.inj h; exact errI_of e_BadWish) (fun C h => by obtain rfl := Option.some.inj h; exact errI_of e_BadRun) (fun C h => by obtain rfl := Option.some.inj h; exact errI_of e_BadCallers) (fun C h => by obtain rfl := Option.some.inj h; exact errI_of e_BadKind) (fun C h => by obtain rfl := Option.some.inj h; exact errI_of e_BadRule) (fun C h => by obtain rfl := Option.some.inj h; exact errI_of e_BadCall) (fun C h => by obtain rfl := Option.some.inj h; exact errI_of e_Refused) (fun C h => by obtain rfl := Option.some.inj h; exact errI_of e_BadThing),
        g_BadField := PySem.W.mg_of X G aC_BadField,
        g_BadModes := PySem.W.mg_of X G aC_BadModes,
        g_UnknownCall := PySem.W.mg_of X G aC_UnknownCall,
        g_BadPlace := PySem.W.mg_of X G aC_BadPlace,
        g_BadText := PySem.W.mg_of X G aC_BadText,
        g_BadRow := PySem.W.mg_of X G aC_BadRow,
        g_BadWord := PySem.W.mg_of X G aC_BadWord,
        g_BadWish := PySem.W.mg_of X G aC_BadWish,
        g_BadRun := PySem.W.mg_of X G aC_BadRun,
        g_BadCallers := PySem.W.mg_of X G aC_BadCallers,
        g_BadKind := PySem.W.mg_of X G aC_BadKind,
        g_BadRule := PySem.W.mg_of X G aC_BadRule,
        g_BadCall := PySem.W.mg_of X G aC_BadCall,
        g_Refused := PySem.W.mg_of X G aC_Refused,
        g_BadThing := PySem.W.mg_of X G aC_BadThing,
        g_MakerError := PySem.W.mg_of X G aC_MakerError,
        kit := kit1,
        kitM := kit2,
        kitB := kit3,
        kitV := kit4,
        kitMV := kit5 }
    have c_fresh := ok_fresh (P := l.prog) (w := w) (base := base) F_fresh T
    have c_fill := ok_fill (P := l.prog) (w := w) (base := base) F_fill T
    have c_take := ok_take F_take T c_fill
    have c_one := ok_one F_one T c_take
    have c_same := ok_same (P := l.prog) (w := w) (base := base) F_same T 3
    exact ok_law F_law T Z c_fresh c_one c_same (ok_with_one F_with_one Z) (ok_by_place F_by_place Z) (ok_held F_held Z) (ok_classes F_classes T Z)
theorem walk {l : PySem.W.OpenLaw} {q : Program} {loose : List Str} {XP : (Str → Option Value) → Heap → Prop} {YP : World → Heap → Prop} {d : DefRec} {K : Params → PySem.W.Frag} (hn : l.most = some 63) (hdf : d.params.defaults = [])
    (hY : ∀ (w : World) (h : Heap), YP w h → (K w.params).In h)
    (F : ∀ (w : World) (mg : Str → Option Value) (fa : Addr) (h : Heap), (K w.params).In h → h.Ns mainGlobals mg → mg d.name = some (.ref fa) →
      ∃ fd : FuncData, (∀ (s : Shared) (u : Value), BindsTo s fd ⟨[u], []⟩ [("_law_script", u)]) ∧ ∀ base : Heap, (K w.params).In base → base.Ns mainGlobals mg → FnOk l.prog w (K w.params) mg base CX0 5 fa fd ["_law_script"] (spLaw (K w.params))) :
    PySem.W.WalkO q loose XP YP l.row.toRowW d [] (fun f vs => PySem.call f vs) :=
  L2.walk_of (n := 63) (k := 5) (x := "_law_script") (CX := fun _ => CX0) (sp := fun w => spLaw (K w.params)) hn (by decide) hdf ⟨rfl, by decide, by decide⟩ hY F (fun _ _ a ns hl _ hS => ⟨a, ns, rfl, hS, hl, fun _ => rfl⟩) fun _ _ _ _ _ z => z
end MK
open PySem PySem.W PyProof.Rows in
set_option maxRecDepth 100000 in
set_option maxHeartbeats 0 in
theorem PySem.Challenge.cw_makerlines_k01_errors_made_holds : PySem.Challenge.rw_makerlines_k01_errors_made.Holds := by
  w_on; o_law; k_head; (case hw => w_witness2)
  k_fill
  refine MK.walk (l := PySem.Challenge.rw_makerlines_k01_errors_made) rfl rfl (fun w h Y => PySem.W.kIn_of Y) ?F
  case F =>
    intro w mg fa h KX G hmg
    refine' MK.all_mk KX G hmg ?a_fresh ?l_fresh ?c_fresh ?k_fresh ?a_fill ?l_fill ?c_fill ?k_fill ?a_take ?l_take ?c_take ?k_take ?a_one ?l_one ?c_one ?k_one ?a_same ?l_same ?c_same ?k_same ?a_with_one ?l_with_one ?c_with_one ?k_with_one ?a_by_place ?l_by_place ?c_by_place ?k_by_place ?a_held ?l_held ?c_held ?k_held ?a_classes ?l_classes ?c_classes ?k_classes ?a_law ?l_law ?c_law ?k_law ?aC_BadField ?aC_BadModes ?aC_UnknownCall ?aC_BadPlace ?aC_BadText ?aC_BadRow ?aC_BadWord ?aC_BadWish ?aC_BadRun ?aC_BadCallers ?aC_BadKind ?aC_BadRule ?aC_BadCall ?aC_Refused ?aC_BadThing ?aC_MakerError ?i_BadField ?l_BadField ?c_BadField ?k_BadField ?t_BadField ?n_BadField_index ?i_BadModes ?l_BadModes ?c_BadModes ?k_BadModes ?t_BadModes ?n_BadModes_modes ?i_UnknownCall ?l_UnknownCall ?c_UnknownCall ?k_UnknownCall ?t_UnknownCall ?n_UnknownCall_name ?i_BadPlace ?l_BadPlace ?c_BadPlace ?k_BadPlace ?t_BadPlace ?n_BadPlace_place ?i_BadText ?l_BadText ?c_BadText ?k_BadText ?t_BadText ?n_BadText_line ?i_BadRow ?l_BadRow ?c_BadRow ?k_BadRow ?t_BadRow ?n_BadRow_index ?i_BadWord ?l_BadWord ?c_BadWord ?k_BadWord ?t_BadWord ?n_BadWord_word ?i_BadWish ?l_BadWish ?c_BadWish ?k_BadWish ?t_BadWish ?n_BadWish_wish ?i_BadRun ?l_BadRun ?c_BadRun ?k_BadRun ?t_BadRun ?n_BadRun_thing ?i_BadCallers ?l_BadCallers ?c_BadCallers ?k_BadCallers ?t_BadCallers ?n_BadCallers_callers ?i_BadKind ?l_BadKind ?c_BadKind ?k_BadKind ?t_BadKind ?n_BadKind_kind ?i_BadRule ?l_BadRule ?c_BadRule ?k_BadRule ?t_BadRule ?n_BadRule_index ?i_BadCall ?l_BadCall ?c_BadCall ?k_BadCall ?t_BadCall ?n_BadCall_index ?n_BadCall_reason ?z_len ?z_int ?z_enumerate ?z_list ?z_tuple ?z_isinstance ?z_range ?z_all ?z_zip ?z_ValueError ?z_bool ?o_BadField ?o_BadModes ?o_UnknownCall ?o_BadPlace ?o_BadText ?o_BadRow ?o_BadWord ?o_BadWish ?o_BadRun ?o_BadCallers ?o_BadKind ?o_BadRule ?o_BadCall ?e_BadField ?e_BadModes ?e_UnknownCall ?e_BadPlace ?e_BadText ?e_BadRow ?e_BadWord ?e_BadWish ?e_BadRun ?e_BadCallers ?e_BadKind ?e_BadRule ?e_BadCall ?e_Refused ?e_BadThing ?e_MakerError ?x_MakerError ?x_Refused ?x_BadThing ?kits
    (case a_fresh => k_is)
    (case l_fresh => k_is)
    (case c_fresh => k_is)
    (case k_fresh => k_is)
    (case a_fill => k_is)
    (case l_fill => k_is)
    (case c_fill => k_is)
    (case k_fill => k_is)
    (case a_take => k_is)
    (case l_take => k_is)
    (case c_take => k_is)
    (case k_take => k_is)
    (case a_one => k_is)
    (case l_one => k_is)
    (case c_one => k_is)
    (case k_one => k_is)
    (case a_same => k_is)
    (case l_same => k_is)
    (case c_same => k_is)
    (case k_same => k_is)
    (case a_with_one => k_is)
    (case l_with_one => k_is)
    (case c_with_one => k_is)
    (case k_with_one => k_is)
    (case a_by_place => k_is)
    (case l_by_place => k_is)
    (case c_by_place => k_is)
    (case k_by_place => k_is)
    (case a_held => k_is)
    (case l_held => k_is)
    (case c_held => k_is)
    (case k_held => k_is)
    (case a_classes => k_is)
    (case l_classes => k_is)
    (case c_classes => k_is)
    (case k_classes => k_is)
    (case a_law => k_is)
    (case l_law => k_is)
    (case c_law => k_is)
    (case k_law => k_is)
    (case aC_BadField => k_is)
    (case aC_BadModes => k_is)
    (case aC_UnknownCall => k_is)
    (case aC_BadPlace => k_is)
    (case aC_BadText => k_is)
    (case aC_BadRow => k_is)
    (case aC_BadWord => k_is)
    (case aC_BadWish => k_is)
    (case aC_BadRun => k_is)
    (case aC_BadCallers => k_is)
    (case aC_BadKind => k_is)
    (case aC_BadRule => k_is)
    (case aC_BadCall => k_is)
    (case aC_Refused => k_is)
    (case aC_BadThing => k_is)
    (case aC_MakerError => k_is)
    (case i_BadField => k_is)
    (case l_BadField => k_is)
    (case c_BadField => k_is)
    (case k_BadField => k_is)
    (case t_BadField => k_is)
    (case n_BadField_index => k_is)
    (case i_BadModes => k_is)
    (case l_BadModes => k_is)
    (case c_BadModes => k_is)
    (case k_BadModes => k_is)
    (case t_BadModes => k_is)
    (case n_BadModes_modes => k_is)
    (case i_UnknownCall => k_is)
    (case l_UnknownCall => k_is)
    (case c_UnknownCall => k_is)
    (case k_UnknownCall => k_is)
    (case t_UnknownCall => k_is)
    (case n_UnknownCall_name => k_is)
    (case i_BadPlace => k_is)
    (case l_BadPlace => k_is)
    (case c_BadPlace => k_is)
    (case k_BadPlace => k_is)
    (case t_BadPlace => k_is)
    (case n_BadPlace_place => k_is)
    (case i_BadText => k_is)
    (case l_BadText => k_is)
    (case c_BadText => k_is)
    (case k_BadText => k_is)
    (case t_BadText => k_is)
    (case n_BadText_line => k_is)
    (case i_BadRow => k_is)
    (case l_BadRow => k_is)
    (case c_BadRow => k_is)
    (case k_BadRow => k_is)
    (case t_BadRow => k_is)
    (case n_BadRow_index => k_is)
    (case i_BadWord => k_is)
    (case l_BadWord => k_is)
    (case c_BadWord => k_is)
    (case k_BadWord => k_is)
    (case t_BadWord => k_is)
    (case n_BadWord_word => k_is)
    (case i_BadWish => k_is)
    (case l_BadWish => k_is)
    (case c_BadWish => k_is)
    (case k_BadWish => k_is)
    (case t_BadWish => k_is)
    (case n_BadWish_wish => k_is)
    (case i_BadRun => k_is)
    (case l_BadRun => k_is)
    (case c_BadRun => k_is)
    (case k_BadRun => k_is)
    (case t_BadRun => k_is)
    (case n_BadRun_thing => k_is)
    (case i_BadCallers => k_is)
    (case l_BadCallers => k_is)
    (case c_BadCallers => k_is)
    (case k_BadCallers => k_is)
    (case t_BadCallers => k_is)
    (case n_BadCallers_callers => k_is)
    (case i_BadKind => k_is)
    (case l_BadKind => k_is)
    (case c_BadKind => k_is)
    (case k_BadKind => k_is)
    (case t_BadKind => k_is)
    (case n_BadKind_kind => k_is)
    (case i_BadRule => k_is)
    (case l_BadRule => k_is)
    (case c_BadRule => k_is)
    (case k_BadRule => k_is)
    (case t_BadRule => k_is)
    (case n_BadRule_index => k_is)
    (case i_BadCall => k_is)
    (case l_BadCall => k_is)
    (case c_BadCall => k_is)
    (case k_BadCall => k_is)
    (case t_BadCall => k_is)
    (case n_BadCall_index => k_is)
    (case n_BadCall_reason => k_is)
    (case z_len => k_is)
    (case z_int => k_is)
    (case z_enumerate => k_is)
    (case z_list => k_is)
    (case z_tuple => k_is)
    (case z_isinstance => k_is)
    (case z_range => k_is)
    (case z_all => k_is)
    (case z_zip => k_is)
    (case z_ValueError => k_is)
    (case z_bool => k_is)
    (case o_BadField => kernel_rfl)
    (case o_BadModes => kernel_rfl)
    (case o_UnknownCall => kernel_rfl)
    (case o_BadPlace => kernel_rfl)
    (case o_BadText => kernel_rfl)
    (case o_BadRow => kernel_rfl)
    (case o_BadWord => kernel_rfl)
    (case o_BadWish => kernel_rfl)
    (case o_BadRun => kernel_rfl)
    (case o_BadCallers => kernel_rfl)
    (case o_BadKind => kernel_rfl)
    (case o_BadRule => kernel_rfl)
    (case o_BadCall => kernel_rfl)
    (case e_BadField => kernel_rfl)
    (case e_BadModes => kernel_rfl)
    (case e_UnknownCall => kernel_rfl)
    (case e_BadPlace => kernel_rfl)
    (case e_BadText => kernel_rfl)
    (case e_BadRow => kernel_rfl)
    (case e_BadWord => kernel_rfl)
    (case e_BadWish => kernel_rfl)
    (case e_BadRun => kernel_rfl)
    (case e_BadCallers => kernel_rfl)
    (case e_BadKind => kernel_rfl)
    (case e_BadRule => kernel_rfl)
    (case e_BadCall => kernel_rfl)
    (case e_Refused => kernel_rfl)
    (case e_BadThing => kernel_rfl)
    (case e_MakerError => kernel_rfl)
    (case x_MakerError => kernel_rfl)
    (case x_Refused => kernel_rfl)
    (case x_BadThing => kernel_rfl)
    (case kits => kernel_rfl)
#print axioms PySem.Challenge.cw_makerlines_k01_errors_made_holds
