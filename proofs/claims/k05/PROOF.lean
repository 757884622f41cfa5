import PyProof.Rows.All
import Wide.All
import OpenK.AllK
import Wide.FinOn
import HandS.Base
import HandS.Call
import HandS.List
import HandS.Iter
import KE.GoesEnum
import HandS.Exc
import HandS.ExcInit
import HandS.ExcIs
import HandS.IsInst
import HandS.ForMost
import HandS.ExcValue
import KE.KExcIs
import HandS.Defaults
import HandS.TupLe
import HandS.Zip
import HandS.Walk
import HandS.More
import HandS.NoneIn
import HandS.Conv
import HandS.Strs
import HandS.DictComp
import OpenK.KMeth
import HandS.OwnEq
import PyProof.InstNe
import PyProof.EqKinds
import HandS.HotCalls
import HandS.ExcField
import HandS.Lambda
import HandS.HeadHook3
import HandS.EndTab
import HandS.EndOwn
import HandS.MakeKwOnly
import HandS.ClsMeth
import HandS.Star
import HandS.FStr
import HandS.Text
import HandS.SortKw
import KE.GoesEnumKw
import HandS.Comp
import PySem.Challenge.RW_makerlines_k05_kind_texts
set_option Elab.async false
set_option linter.all false
set_option maxRecDepth 100000
set_option maxHeartbeats 4000000
/-! enumerate of a tuple -/
namespace MK
open PySem PySem.Spec PyProof.Rows L2

/-- the tuple at a as it stands at each turn, each item in a new pair -/
def IteT (K : PySem.W.Frag) (a : Addr) : It :=
  ⟨fun i H => ∃ (xs : List V) (x : V), SqT K H a xs ∧ xs[i]? = some x, fun i H v H' => ∃ T x, v = .ref T ∧ H T = none ∧ H' = upd H T (.tup [.int (i : Nat), x]) ∧ ∀ xs, SqT K H a xs → xs[i]? = some x, fun i H => ∃ xs : List V, SqT K H a xs ∧ xs.length ≤ i⟩
theorem turn_enumT {P : Program} {w : World} {K : PySem.W.Frag} {elts : List Expr} {kk : Nat} {tpos : Pos} (a e it : Addr) :
    Turn P w K (.Tuple elts kk tpos) (IteT K a) [e, it] e (fun i h => (∃ old, IsEnum h e it ((i : Nat) : Int) old) ∧ h.IsTupleIter it a i ∧ e ≠ it ∧ a ≠ it ∧ a ≠ e) where
  mem := by simp
  obj := fun i h st b hb => by
    obtain ⟨⟨old, he⟩, ⟨o, ho, hc, hd⟩, _⟩ := st
    have e' : b = e ∨ b = it := by simpa using hb
    rcases e' with z | z
    · rw [z]; exact ⟨_, he, fun v q => nomatch q⟩
    · rw [z]; exact ⟨o, ho, fun v q => by rw [hd] at q; cases q⟩
  keep := fun i h h' st k => let ⟨⟨old, he⟩, hi, hne⟩ := st; ⟨⟨old, k e (by simp) _ he⟩, hi.at fun o q => k it (by simp) o q, hne⟩
  item := by
    intro X hP hw hK hc i pins s σ H E I hf st hg
    subst hP hw hK
    obtain ⟨⟨old, he⟩, hit, hne, hai, hae⟩ := st
    obtain ⟨xs, x, hq, hx⟩ := hg
    obtain ⟨its, rv, p, hz⟩ := I.tuple hq
    obtain ⟨u, hu, ru⟩ := rv.get hx
    have hel : e < s.heap.objs.size := Heap.lt_size he
    have hil : it < s.heap.objs.size := by obtain ⟨_, q, _⟩ := hit; exact Heap.lt_size q
    have D := Draws.tuple (prog := X.prog) (w := X.w) (A := X.A.in1) (show X.A.in1.handled = none from I.ok.hd hc) it a hai its.toArray
    have hsz : i < its.toArray.size := by
      have := (List.getElem?_eq_some_iff.mp hu).1
      simpa using this
    refine wpAny_pyNext_enum_itemD D he ⟨hit, p⟩ hsz hne (by simp [hne, Ne.symm hae]) fun v h' tk hv ho st' hT hsz' hk => ?_
    have hv : its.toArray[i]? = some v := hv
    have ev : v = u := by
      have hu' : its.toArray[i]? = some u := by simpa using hu
      rw [hu'] at hv
      exact (Option.some.inj hv).symm
    subst ev
    refine ⟨_, rfl, wpAny_letOwnedTupleGo_enum (s := { s with heap := h', toks := tk + 1 }) ho fun h'' he' sb => ?_⟩
    have hT2 : h''.get? s.heap.objs.size = some { cls := .type "tuple", data := .seq #[.int i tk, v] } := (sb.2 _ (Nat.ne_of_gt hel)).trans hT
    have new : ObjOk X.prog X.w (upd H s.heap.objs.size (.tup [.int (i : Nat), x])) h'' s.heap.objs.size (.tup [.int (i : Nat), x]) :=
      ⟨by show 2 ≤ sizeLine; decide, [.int i tk, v], .cons ⟨_, rfl⟩ (.cons ru .nil), ⟨_, hT2, rfl, _, rfl⟩⟩
    have I1 : Inv X pins σ (upd H s.heap.objs.size (.tup [.int (i : Nat), x])) { s with heap := h'', toks := tk + 1 } :=
      I.turnedNew (ch := [e, it]) (fun b ob hb q => (sb.2 b (fun z => hb (by simp [z]))).trans (hk b ob (fun z => hb (by simp [z])) (fun z => hb (by simp [z])) q)) hf (Nat.le_refl _) new
    refine ⟨.ref s.heap.objs.size, _, I1, rfl, ⟨_, x, rfl, I.hok.fresh (Nat.le_refl _), rfl, fun ys hy => by rw [I.tuple_inj hy hq]; exact hx⟩, ⟨⟨v, ?_⟩, st'.1.at fun o q => (sb.2 it (Ne.symm hne)).trans q, hne, hai, hae⟩, fun b hb => ?_⟩
    · have e1 : ((i + 1 : Nat) : Int) = (i : Int) + 1 := by omega
      rw [e1]; exact he'
    · have hb' : b < s.heap.objs.size := by
        have e' : b = e ∨ b = it := by simpa using hb
        rcases e' with z | z
        · rw [z]; exact hel
        · rw [z]; exact hil
      rw [upd_ne (Nat.ne_of_lt hb')]
      exact (hf b hb).1
  done := by
    intro X hP hw hK hc i pins s σ H E I hf st hg
    subst hP hw hK
    obtain ⟨⟨old, he⟩, hit, hne, hai, hae⟩ := st
    obtain ⟨xs, hq, hx⟩ := hg
    obtain ⟨its, rv, p, hz⟩ := I.tuple hq
    obtain ⟨f0, f1, f2, f3, f4, f5⟩ := hf it (by simp)
    have hl := rv.length
    have D : Draws X.prog X.w X.A.in1 it [it, a] i (fun _ _ => False) (fun j h => j = i ∧ h.IsTupleIter it a i ∧ IsTup h a its.toArray) :=
      { live := fun _ _ st => let ⟨_, ⟨o, ho, _⟩, _⟩ := st; ⟨o, ho⟩
        frame := fun _ _ _ st hk => ⟨st.1, st.2.1.at fun o e => hk it (by simp) o e, by
          obtain ⟨o, ho, r⟩ := st.2.2
          exact ⟨o, hk a (by simp) o ho, r⟩⟩
        item := fun j s Q E hi st hQ => absurd st.1 (Nat.ne_of_lt hi)
        done := fun s Q E st hE => wpAny_nextOf_tuple_end (show X.A.in1.handled = none from I.ok.hd hc) st.2.1 st.2.2 (by simp; omega) hE }
    exact wpAny_pyNext_enum_endD D he ⟨rfl, hit, p⟩ fun h' eb => ⟨rfl, I.turned (t' := s.toks) (fun b o hb q => eb b o hb q) f0 f1 f3 f4 f5⟩
  self := fun A i s Q E st h => let ⟨⟨_, he⟩, _⟩ := st; wpAny_pyIter_enum he h
def iEnumT (K : PySem.W.Frag) (ta : TA) : TI := fun σ H R => ta σ H fun vs H1 => ∃ a xs, vs = [.ref a] ∧ SqT K H1 a xs ∧ R (IteT K a) H1
theorem boot_enumerate' : bootBuiltins "enumerate" = some (.type "enumerate") := by decide +kernel
theorem meets_enum1 {v : Value} {o : Obj} {H : Heap → Prop} (B : Begins v o H) :
    Meets (Builtin.«enumerate.__new__» ⟨[.type "enumerate", v], []⟩) (fun _ R s => H s.heap ∧
      R (.ok (.ret (.ref (s.heap.push o).objs.size))) { s with heap := (s.heap.push o).push { cls := .type "enumerate", data := .fields #[.none, .bool false, .ref s.heap.objs.size, rawInt 0, .none, .none] } }) :=
  .of_wp fun prog w A R s h => by
    obtain ⟨hp, g, d, tk, os⟩ := s; obtain ⟨h1, h⟩ := h
    have hsub := sub_enumerate
    have it : ∀ {A' : Around} {E : Value → Shared → Prop} {Q : Value → Shared → Prop}, Q (.ref hp.objs.size) ⟨hp.push o, g, d, tk, os⟩ → wpAny (model prog w) A' (pyIter v) Q E ⟨hp, g, d, tk, os⟩ :=
      fun q => B.iter prog w _ _ ⟨hp, g, d, tk, os⟩ _ h1 q
    wp_walk using it
    refine wpAny_stack_any fun st => wpAny_pure ?_
    split
    · rename_i c _ _ _ _ _
      cases (c == Value.type "enumerate") <;> (wp_walk using it; exact ⟨_, rfl, h⟩)
    · wp_walk using it
      exact ⟨_, rfl, h⟩
theorem call_enumerate_tuple {prog : Program} {w : World} {A : Around} {E : Value → Shared → Prop} {s : Shared} {l : Addr} {items : Array Value} {Q : Value → Shared → Prop} (hL : IsTup s.heap l items)
    (h : ∀ h', IsEnum h' (s.heap.objs.size + 1) s.heap.objs.size 0 .none → h'.IsTupleIter s.heap.objs.size l 0 → h'.objs.size = s.heap.objs.size + 2 →
      (∀ b o, s.heap.get? b = some o → h'.get? b = some o) → Q (.ref (s.heap.objs.size + 1)) { s with heap := h' }) :
    wpAny (model prog w) A (call (.type "enumerate") [.ref l]) Q E s := by
  have B := begins_tuple l items
  refine callType_new F.called_enumerate (by decide) (F.typeCall_enumerate_1 _) (F.newCall_enumerate_1 _) (fun obj => F.args_object_init_2 obj _) F.entry_enumerate_new (meets_enum1 B) ⟨hL, ?_⟩
  let o : Obj := { cls := .type "tuple_iterator", data := .fields #[.ref l, .int 0 0] }
  have hz : (s.heap.push o).objs.size = s.heap.objs.size + 1 := Heap.size_push ..
  show _ ∧ _
  rw [hz]
  have he : IsEnum ((s.heap.push o).push { cls := .type "enumerate", data := .fields #[.none, .bool false, .ref s.heap.objs.size, rawInt 0, .none, .none] }) (s.heap.objs.size + 1) s.heap.objs.size 0 .none := by
    have q := Heap.get?_push_size (s.heap.push o) (o := { cls := .type "enumerate", data := .fields #[.none, .bool false, .ref s.heap.objs.size, rawInt 0, .none, .none] }) rfl
    rw [hz] at q; exact q
  exact ⟨⟨_, he, rfl⟩, h _ he ⟨_, Heap.get?_push_of_some _ (Heap.get?_push_size _ rfl), rfl, rfl⟩ (by rw [Heap.size_push, hz]) fun b o x => Heap.get?_push_of_some _ (Heap.get?_push_of_some _ x)⟩
theorem pi_enumT {X : Cx} {e : Expr} {ta : TA} {p pos tpos : Pos} {elts : List Expr} {kk : Nat} (hg : Gl X "enumerate") (hm : X.mg "enumerate" = none) (ha : PA X [e] ta) (hs : starEach [e] X.env = [(false, eval e X.env)] := by rfl) :
    PI X (.Tuple elts kk tpos) (.Call (.Name "enumerate" p) [e] [] pos) (iEnumT X.K ta) := by
  refine ⟨fun pins s σ H R I h => ?_⟩
  refine Call_ (ld_blt I hg hm boot_enumerate' (PyProof.Rows.callWith_type1 (thn (ha.run pos pins s σ H _ I h) fun us s1 ⟨vs, H1, I1, r1, q1⟩ => ?_) hs rfl))
  obtain ⟨a, xs, ex, hq, q⟩ := q1
  subst ex
  cases r1 with
  | cons r rr =>
    cases rr
    cases r
    obtain ⟨its, rv, p', hz⟩ := I1.tuple hq
    have hal : a < s1.heap.objs.size := by obtain ⟨_, q, _⟩ := p'; exact Heap.lt_size q
    refine call_enumerate_tuple p' fun h' he hit hsz hk => wpAny_pyIter_enum he ?_
    have I2 : Inv X pins σ H1 { s1 with heap := h' } := I1.kept (t' := s1.toks) hk
    refine ⟨s1.heap.objs.size + 1, [s1.heap.objs.size + 1, s1.heap.objs.size], _, _, H1, rfl, I2, turn_enumT a (s1.heap.objs.size + 1) s1.heap.objs.size, ⟨⟨.none, he⟩, hit, Nat.succ_ne_self _, Nat.ne_of_lt hal, Nat.ne_of_lt (Nat.lt_succ_of_lt hal)⟩, fun b hb => ?_, q⟩
    have e' : b = s1.heap.objs.size + 1 ∨ b = s1.heap.objs.size := by simpa using hb
    have hle : s1.heap.objs.size ≤ b := by
      rcases e' with z | z
      · rw [z]; exact Nat.le_add_right _ _
      · rw [z]; exact Nat.le_refl _
    exact I1.fpOk hle (I1.hok.fresh hle)
end MK
set_option Elab.async false
set_option linter.all false
set_option maxRecDepth 100000
set_option maxHeartbeats 4000000
/-! errors as values: made by place and by name, read, asked for their class -/
namespace MK
open PySem PySem.Spec PyProof.Rows PySem.HandSPX
open PySem.W (Looks)
section
variable {prog : Program} {w : World} {M : Model} {A : Around} {E : Value → Shared → Prop} {R : Result → Shared → Prop} {h : Heap} {g : Array GenState} {d : Drawn} {t : Nat} {os : OsState}
variable {nm q : Str} {C N : Addr} {bs bm bmB : List Value} {hdct : Bool} {sn : List Str} {sub : List Value} {ab : Bool} {col : Option Bool} {dd : Option Addr} {k0 k1 k2 k3 k5 : Option Value} {B newId initId : String}

theorem check_newK (F : ExcBaseFacts B newId initId bmB) (hT : ∀ X : String, bm.contains (.type X) = bmB.contains (.type X)) {rest : List Value} {kw : List (Str × Value)} {Q : Unit → Shared → Prop}
    (hC : h.get? C = some (excClassObj nm q C N bs bm hdct sn sub ab col dd k0 k1 k2 k3 k5 newId)) (hq : Q () ⟨h, g, d, t, os⟩) : wpAny M A (checkBuiltinCall newId ⟨.ref C :: rest, kw⟩) Q E ⟨h, g, d, t, os⟩ := by
  have hB : (Value.ref C :: bm).contains (.type B) = true := by rw [List.contains_cons, hT, F.hasB, Bool.or_true]
  have hs := F.noStar
  simp only [checkBuiltinCall, F.newKind, F.newSplit, F.newRow]
  repeat (first | refine wpAny_loadPart_at hC ?_ | (refine wpAny_isSubtype_exc hC ?_; rw [hB]) | refine wpAny_staticBase_exc hC ?_ | refine wpAny_madeBy_exc hC ?_ | simp only [bne_self_eq_false, Bool.false_eq_true, if_false] | wp_step)
  exact hq
theorem newK (F : ExcBaseFacts B newId initId bmB) (hT : ∀ X : String, bm.contains (.type X) = bmB.contains (.type X)) {rest : List Value} {kw : List (Str × Value)}
    (hC : h.get? C = some (excClassObj nm q C N bs bm hdct sn sub ab col dd k0 k1 k2 k3 k5 newId))
    (hq : R (.ok (.ret (.ref (h.objs.size + 1)))) ⟨(h.push (W.kdv_tup rest)).push (excO C h.objs.size), g, d, t, os⟩) (hrest : rest.length ≤ sizeLine) :
    codeAny (model prog w) A (.builtin newId ⟨.ref C :: rest, kw⟩) R ⟨h, g, d, t, os⟩ := by
  have he := F.ends
  have cB : (Value.ref C :: bm).contains (.type B) = true := by rw [List.contains_cons, hT, F.hasB, Bool.or_true]
  have cA : (Value.ref C :: bm).contains (.type "AttributeError") = false := by rw [List.contains_cons, hT, F.noAttr]; rfl
  have cN : (Value.ref C :: bm).contains (.type "NameError") = false := by rw [List.contains_cons, hT, F.noName]; rfl
  refine codeAny_builtinAt F.entry ?_
  unfold Builtin.«BaseException.__new__»
  refine PySem.wpAt_bind ?_
  show PySem.wpAt _ _ _ (stack >>= _) _ _ _
  refine PySem.wpAt_bind (PySem.wpAt_stack fun p below => PySem.wpAt_of_wpAny ?_)
  wp_walk
  refine PySem.wpAt_of_wpAny ?_
  rw [F.owner]
  repeat (first | with_reducible refine wpAny_madeHere_exc F.canon hC ?_ | with_reducible refine wpAny_loadPart_at hC ?_ | (with_reducible refine wpAny_isSubtype_exc hC ?_; first | rw [cB] | rw [cA] | rw [cN]) | wp_step)
  show R _ _
  rw [Heap.size_push]
  exact hq
theorem type_callK (F : ExcBaseFacts B newId initId bmB) (hT : ∀ X : String, bm.contains (.type X) = bmB.contains (.type X)) {rest : List Value} {kw : List (Str × Value)} {fI : Addr} {Q : Fin → Shared → Prop}
    (hC : h.get? C = some (excClassObj nm q C N bs bm hdct sn sub ab col dd k0 k1 k2 k3 k5 newId))
    (hi : Looks (model prog w) h (typeLookup (.ref C) "__init__") (some (.ref fI))) (hb : ∀ self, Looks (model prog w) h (bindSpecial (.ref fI) self) (.ref fI, [self])) (hrest : rest.length ≤ sizeLine)
    (hq : codeAny (model prog w) A (.call (.ref fI) ⟨.ref (h.objs.size + 1) :: rest, kw⟩)
      (fun r s' => match r with | .ok (.ret v) => v = .none ∧ Q (.done (.ret (.ref (h.objs.size + 1)))) s' | .ok _ => False | .error e => E e s')
      ⟨(h.push (W.kdv_tup rest)).push (excO C h.objs.size), g, d, t, os⟩) :
    wpAny (model prog w) A (Builtin.«type.__call__» ⟨.ref C :: rest, kw⟩) Q E ⟨h, g, d, t, os⟩ := by
  repeat (first | with_reducible refine wpAny_loadPart_at hC ?_ | with_reducible refine wpAny_madeBy_exc hC ?_ | wp_step)
  refine codeAny_call_builtin_code (Code.quiet_builtin _ F.quiet) (check_newK F hT hC ?_)
  refine newK F hT hC ?_ hrest
  show wpAny _ _ _ _ _ _
  have kp : ∀ b o, h.get? b = some o → ((h.push (W.kdv_tup rest)).push (excO C h.objs.size)).get? b = some o := fun b o e => Heap.get?_push_of_some _ (Heap.get?_push_of_some _ e)
  have C1 := kp _ _ hC
  have hg : ((h.push (W.kdv_tup rest)).push (excO C h.objs.size)).get? (h.objs.size + 1) = some (excO C h.objs.size) := by heap_get
  have cC : (Value.ref C :: bm).contains (.ref C) = true := by simp
  have i1 := hi.keeps kp
  have b1 := (hb (.ref (h.objs.size + 1))).keeps kp
  unfold isInstance
  repeat (first | with_reducible refine wpAny_loadPart_at hg ?_ | (with_reducible refine wpAny_isSubtype_exc C1 ?_; rw [cC]) | wp_step)
  show wpAny _ _ (typeLookup (.ref C) _) _ _ _
  refine i1.at ?_
  refine wpAny_holding (wpAny_bind (b1.at ?_))
  refine wpAny_bind (wpAny_call (codeAny_mono hq fun r s' z => ?_))
  rcases r with e | (v | _ | _ | _) <;> first | exact z | exact z.elim | skip
  obtain ⟨rfl, z⟩ := z
  first
    | exact wpAny_pure (wpAny_pure z)
    | (wp_walk; exact z)
theorem check_tcK {rest : List Value} {kw : List (Str × Value)} {Q : Unit → Shared → Prop} (hC : h.get? C = some (excClassObj nm q C N bs bm hdct sn sub ab col dd k0 k1 k2 k3 k5 newId))
    (hq : Q () ⟨h, g, d, t, os⟩) : wpAny M A (checkBuiltinCall "type.__call__" ⟨.ref C :: rest, kw⟩) Q E ⟨h, g, d, t, os⟩ := by
  have f3 := tc_sub
  have hT : (⟨h, g, d, t, os⟩ : Shared).TypeIs (.ref C) "type" := ⟨_, hC, rfl⟩
  simp only [checkBuiltinCall, tc_kind, tc_split]
  repeat (any_goals (first | assumption | with_reducible refine wpAny_loadPart_at hC ?_ | with_reducible refine wpAny_onRaise ?_ | with_reducible refine wpAny_map ?_ | wp_step))
theorem callK (F : ExcBaseFacts B newId initId bmB) (hT : ∀ X : String, bm.contains (.type X) = bmB.contains (.type X)) {rest : List Value} {kw : List (Str × Value)} {fI : Addr}
    (hC : h.get? C = some (excClassObj nm q C N bs bm hdct sn sub ab col dd k0 k1 k2 k3 k5 newId))
    (hi : Looks (model prog w) h (typeLookup (.ref C) "__init__") (some (.ref fI))) (hb : ∀ self, Looks (model prog w) h (bindSpecial (.ref fI) self) (.ref fI, [self])) (hrest : rest.length ≤ sizeLine)
    (hq : codeAny (model prog w) (A.under (.builtin "type.__call__" ⟨.ref C :: rest, kw⟩)) (.call (.ref fI) ⟨.ref (h.objs.size + 1) :: rest, kw⟩) (W.InitBack (h.objs.size + 1) R)
      ⟨(h.push (W.kdv_tup rest)).push (excO C h.objs.size), g, d, t, os⟩) :
    codeAny (model prog w) A (.call (.ref C) ⟨rest, kw⟩) R ⟨h, g, d, t, os⟩ := by
  have f1 := tc_lookup
  have f2 := tc_bind (.ref C)
  have hTy : (⟨h, g, d, t, os⟩ : Shared).TypeIs (.ref C) "type" := ⟨_, hC, rfl⟩
  refine codeAny_of_tree ?_
  show wpAny _ _ (callAny (.ref C) _) _ _ _
  repeat (any_goals (first | assumption | with_reducible refine wpAny_loadPart_at hC ?_ | wp_step))
  refine ⟨rfl, ?_⟩
  refine codeAny_call_builtin_at (Code.quiet_builtin _ (by decide +kernel)) entry_typeCall (check_tcK hC (type_callK F hT hC hi hb hrest ?_))
  refine codeAny_mono hq fun r s' z => ?_
  rcases r with e | (v | _ | _ | _) <;> exact z
end
end MK
set_option Elab.async false
set_option linter.all false
set_option maxRecDepth 100000
set_option maxHeartbeats 4000000
/-! errors as values: made by place and by name, read, asked for their class -/
namespace MK
open PySem PySem.Spec PyProof.Rows L2
/-- an error's class over ValueError whose __init__ is the def at fI -/
structure ErrC (K : PySem.W.Frag) (C fI : Addr) : Prop where
  cls : OexC K C
  ini : PySem.W.findIn K (.ref C) "__init__" = some (some (.ref fI))
  fn : PySem.W.typeIn K (.ref fI) = some (.type "function")
/-- C(e, .., k = v, ..) as a value -/
def tErr (C : Addr) (n m : Nat) (sp : Sp) (gV : List V → List V → List V) (E : XK) (t tk : TA) : TE := fun σ H Q => t σ H fun vs H1 => tk σ H1 fun zs H2 => vs.length = n ∧ zs.length = m ∧
  ∀ a, H2 a = none → sp (gV (.ref a :: vs) zs) (upd H2 a (exo a C none)) (fun v H3 => v = .non ∧ Q (.ref a) H3) E
section
variable {X : Cx} {CX : CXT} {k n : Nat} {f C : Addr} {fd : FuncData} {ps ks : List Str} {sp : Sp} {E : XK} {x : Str} {p pos : Pos} {e : Expr} {es : List Expr} {kws : List Keyword} {t tk : TA} {g : List Value → List Value → List Value} {gV : List V → List V → List V}
theorem run_err {pins : List (Addr × Obj)} {σ : L2.St} {H : Hp} {s : Shared} {Q : VK} {us ws : List Value} {vs zs : List V} (T : ErrC X.K C f) (F : FnOk X.prog X.w X.K X.mg X.base CX k f fd ps sp) (hr : Room (k + 1) X.A) (hb : KBn X.K fd ps (n + 1) ks g gV) (hx : Passes CX X E)
    (I : Inv X pins σ H s) (r : Vals vs us) (rz : Vals zs ws) (l1 : vs.length = n) (l2 : zs.length = ks.length) (hn : n ≤ 1000)
    (h : ∀ a, H a = none → sp (gV (.ref a :: vs) zs) (upd H a (exo a C none)) (fun v H2 => v = .non ∧ Q (.ref a) H2) E) :
    wpAny (model X.prog X.w) X.A (call (.ref C) us (ks.zip ws)) (EP X pins σ Q) X.xe s := by
  obtain ⟨nm, q, N, bs, bm, sn, sub, ab, col, dd, k0, k1, k2, k3, k5, hC, hbm⟩ := T.cls.cls
  obtain ⟨hp, g0, dr, tk, os⟩ := s
  have hsz : hp.objs.size ≤ hp.objs.size + 1 := Nat.le_succ _
  have hq := h (hp.objs.size + 1) (I.hok.fresh hsz)
  have kk : ∀ b o, hp.get? b = some o → ((hp.push (PySem.W.kdv_tup us)).push (PySem.HandSPX.excO C hp.objs.size)).get? b = some o := fun b o e => Heap.get?_push_of_some _ (Heap.get?_push_of_some _ e)
  have hget : ((hp.push (PySem.W.kdv_tup us)).push (PySem.HandSPX.excO C hp.objs.size)).get? (hp.objs.size + 1) = some (PySem.HandSPX.excO C hp.objs.size) := by heap_get
  have I2 : Inv X pins σ (upd H (hp.objs.size + 1) (exo (hp.objs.size + 1) C none)) ⟨(hp.push (PySem.W.kdv_tup us)).push (PySem.HandSPX.excO C hp.objs.size), g0, dr, tk, os⟩ :=
    I.laid (t' := tk) (a := hp.objs.size + 1) (o := exo (hp.objs.size + 1) C none) (h' := (hp.push (PySem.W.kdv_tup us)).push (PySem.HandSPX.excO C hp.objs.size)) kk hsz (exo_ok hget)
  have r1 : Vals (V.ref (hp.objs.size + 1) :: vs) (Value.ref (hp.objs.size + 1) :: us) := .cons rfl r
  have r2 := hb.rel r1 rz
  have n1 : (Value.ref (hp.objs.size + 1) :: us).length = n + 1 := by rw [List.length_cons, ← r.length, l1]
  have hus : us.length ≤ sizeLine := by
    rw [← r.length, l1, sizeLine_eq]
    omega
  refine wpAny_call (callK PySem.F.excBase_ValueError (fun Y => PySem.HandSPX.refsVE_contains Y bm hbm) (I.kIn _ _ hC) (PySem.W.looks_findIn I.kIn T.ini) (fun self => PySem.W.bind_fn I.kIn self T.fn) hus
    (codeAny_mono (F.run _ X.stack _ _ ⟨Value.ref (hp.objs.size + 1) :: us, ks.zip ws⟩ (g (Value.ref (hp.objs.size + 1) :: us) ws) _ _ E (hr.make C us (ks.zip ws)) (I2.env0.make C us (ks.zip ws))
      (hb.to _ (Value.ref (hp.objs.size + 1) :: us) ws I2.kIn n1 (rz.length.symm.trans l2)) r2 hq) fun r s' hq' => ?_))
  cases r with
  | error e => exact hx pins σ _ _ e s' I2 hq'
  | ok fl =>
    cases fl with
    | ret u =>
      obtain ⟨v, H', I3, rv, ev, q3⟩ := I2.after hq'
      subst ev
      exact ⟨rv, ⟨V.ref (hp.objs.size + 1), H', I3, rfl, q3⟩⟩
    | next => exact False.elim hq'
    | brk => exact False.elim hq'
    | cont => exact False.elim hq'
/-- C(k = v, ..) -/
theorem pe_errK0 (T : ErrC X.K C f) (F : FnOk X.prog X.w X.K X.mg X.base CX k f fd ps sp) (hr : Room (k + 1) X.A) (hg : Gl X x) (hm : X.mg x = some (.ref C)) (hb : KBn X.K fd ps 1 ks g gV) (hx : Passes CX X E) (hkw : PK X kws tk)
    (hall : (backToKw pos (keywordEach kws X.env)).all (·.1.isSome) = true := by rfl) (hks : (backToKw pos (keywordEach kws X.env)).filterMap (·.1) = ks := by rfl) (hdb : (x == ("__debug__" : Str)) = false := by decide)
    (hpl : ((backTo pos (starEach [] X.env)).any (·.1) || (backToKw pos (keywordEach kws X.env)).any (·.1.isNone)) = false := by rfl) :
    PE X (.Call (.Name x p) [] kws pos) (tErr C 0 ks.length sp gV E tNil tk) := by
  refine ⟨fun pins s σ H Q I h => ?_⟩
  refine wpAny_Call_Name_kw (ld_glob I hg hm ?_ hdb)
  refine PySem.W.callWith_KW0 (h₀ := X.base) I.ok.mod.kin T.cls.kC hall ?_ hpl
  refine thn (hkw.run pos pins s σ H _ I h) fun ws s2 ⟨zs, H2, I2, rz, l1, l2, q2⟩ => ⟨I2.kIn, ?_⟩
  rw [hks]
  exact run_err (us := []) (vs := []) T F hr hb hx I2 .nil rz rfl l2 (Nat.zero_le _) q2
/-- C(e, ..) -/
theorem pe_err (T : ErrC X.K C f) (F : FnOk X.prog X.w X.K X.mg X.base CX k f fd ps sp) (hr : Room (k + 1) X.A) (hg : Gl X x) (hm : X.mg x = some (.ref C)) (hb : KBn X.K fd ps (n + 1) [] g gV) (hx : Passes CX X E) (ha : PA X (e :: es) t) (hn : n ≤ 1000)
    (hdb : (x == ("__debug__" : Str)) = false := by decide) (he : starEach (e :: es) X.env = (false, eval e X.env) :: starEach es X.env := by rfl) (hpl : (backTo pos (starEach es X.env)).any (·.1) = false := by rfl) :
    PE X (.Call (.Name x p) (e :: es) [] pos) (tErr C n 0 sp gV E t tNil) := by
  refine ⟨fun pins s σ H Q I h => ?_⟩
  refine wpAny_Call_Name_kw (ld_glob I hg hm ?_ hdb)
  refine PySem.W.callWith_K (h₀ := X.base) I.ok.mod.kin T.cls.kC (thn (ha.run pos pins s σ H _ I h) fun us s1 ⟨vs, H1, I1, r, l1, _, q⟩ => ⟨I1.kIn, ?_⟩) he hpl
  exact run_err (ks := []) (ws := []) (zs := []) T F hr hb hx I1 r .nil l1 rfl hn q
/-- e.f of such an error -/
structure ErrF (K : PySem.W.Frag) (C : Addr) : Prop where
  ga : PySem.W.findIn K (.ref C) "__getattribute__" = some (some (.builtin "BaseException.__getattribute__"))
  gg : PySem.W.findIn K (.ref C) "__getattr__" = some none
  exC : PySem.W.subIn K (.ref C) (.type "BaseException") = some true
  hdC : PySem.W.hasDictIn K C = true
def tErrF (K : PySem.W.Frag) (n : Str) (te : TE) : TE := fun σ H Q => te σ H fun x H1 => ∃ (a C dd : Addr) (fs : List (Str × V)) (v : V), x = .ref a ∧ H1 a = some (exo a C (some dd)) ∧ H1 dd = some (exd dd fs) ∧ ErrF K C ∧
  PySem.W.findIn K (.ref C) n = some none ∧ fs.lookup n = some v ∧ Q v H1
theorem pe_errF {n : Str} {te : TE} (he : PE X e te) (hb : attributeBase e n X.env (eval e X.env) = eval e X.env := by rfl) : PE X (.Attribute e n pos) (tErrF X.K n te) := by
  refine ⟨fun pins s σ H Q I h => ?_⟩
  refine attr_of hb (thn (he.run pins s σ H _ I h) fun u s1 hh => ?_)
  obtain ⟨x, H1, I1, rx, a, C, dd, fs, v, ex, ea, ed, T, hno, l, q⟩ := hh
  subst ex
  obtain rfl : u = Value.ref a := rx
  obtain ⟨t1, hoe⟩ := exo_at I1.hok ea
  obtain ⟨mA, hns, hr⟩ := exd_at I1.hok ed
  obtain ⟨od, ho, hl⟩ := lookIn_ns hns
  obtain ⟨u, hu, ru⟩ := RelO.some_of (v := v) (o := mA n) (by rw [← l]; exact hr n)
  have J : PySem.W.InstAt s1.heap a _ C (some od) := ⟨hoe, rfl, rfl, ho⟩
  exact HandSPX.exc_get I1.kIn J T.ga T.gg T.exC (PySem.W.findObj_own T.hdC hno rfl (by rw [hl, hu])) (handed_of ru) ⟨v, H1, I1.tok _, ru, q⟩
/-- C() of a class without an __init__ of its own -/
theorem pe_exc0 {bmB : List Value} {B newId initId : String} (F : ExcBaseFacts B newId initId bmB) (q : PySem.W.excIn X.K C bmB newId = true) (gC : X.mg x = some (.ref C)) (kC : PySem.W.keepIn X.K (.ref C) = true) (hg : Gl X x)
    (hdb : (x == ("__debug__" : Str)) = false := by decide) :
    PE X (.Call (.Name x p) [] [] pos) (fun σ H Q => ∀ a, H a = none → Q (.ref a) (upd H a (exo a C none))) := by
  refine ⟨fun pins s σ H Q I h => ?_⟩
  refine wpAny_Call_Name_kw (ld_glob I hg gC ?_ hdb)
  refine PySem.W.callWith_K0 I.kIn kC ?_
  show wpAny _ _ (call (.ref C) []) _ _ _
  obtain ⟨bm, N, nm, qn, bs, hdct, sn, sub, ab, col, dd, k0, k1, k2, k3, k5, mN, hC, hN, hni, T⟩ := exc_obj I.kIn q
  refine wpAny_call_exc_subT F T hC hN hni (fun h' a hm => ?_) (by show 0 ≤ sizeLine; exact Nat.zero_le _)
  have hn : H a = none := I.hok.gone hm.new
  obtain ⟨t, ht, _, _⟩ := hm.there
  exact ⟨.ref a, upd H a (exo a C none), I.laidN hm.keeps hm.new hn (exo_ok ht), rfl, h a hn⟩
/-- what isinstance asks of an error's class -/
structure ErrI (K : PySem.W.Frag) (C : Addr) : Prop where
  cl : (PySem.W.clsIn K C).isSome = true
  ga : PySem.W.findIn K (.ref C) "__getattribute__" = some (some (.builtin "BaseException.__getattribute__"))
  gg : PySem.W.findIn K (.ref C) "__getattr__" = some none
  ex : PySem.W.subIn K (.ref C) (.type "BaseException") = some true
  ca : PySem.W.findIn K (.ref C) "__class__" = some (some (.builtin "object.__class__"))
  sp : PySem.W.specialIn K (.builtin "object.__class__") "__get__" = some (some (.builtin "getset_descriptor.__get__"))
  tk : PySem.W.takesIn K (.builtin "object.__class__") = some true
  ob : PySem.W.mroIn K C (.type "object") = some true
def rIsErr (K : PySem.W.Frag) : List V → Hp → VK → Prop := fun xs H Q => ∃ (a C : Addr) (d : Option Addr) (c : V) (cv : Value) (b : Bool), xs = [.ref a, c] ∧ H a = some (exo a C d) ∧ (∀ dd, d = some dd → ∃ fs, H dd = some (exd dd fs)) ∧ ErrI K C ∧
  ClsV c cv ∧ PySem.W.kitOne K (.ref C) cv = some b ∧ Q (.bl b) H
theorem call_isErr : CallR X (.builtin "isinstance") (rIsErr X.K) := by
  intro pins s σ H xs us Q I r h
  obtain ⟨a, C, d, c, cv, b, rfl, ha, hd, T, k, e, q⟩ := h
  obtain ⟨u1, u2, rfl, r1, r2⟩ := vals2 r
  have e2 := k.eq r2
  subst e2
  obtain rfl : u1 = Value.ref a := r1
  obtain ⟨t1, ho⟩ := exo_at I.hok ha
  have go : ∀ od : Option Obj, PySem.W.InstAt s.heap a { cls := .ref C, dict := d, data := .fields #[.ref t1, .none, .none, .none, .bool false, .none] } C od → wpAny (model X.prog X.w) X.A (call (.builtin "isinstance") [Value.ref a, u2]) (EP X pins σ Q) X.xe s := fun od J =>
    PySem.W.kia_one (PySem.W.kitx_exc (od := od) T.cl T.ga T.gg T.ex T.ca T.sp T.tk T.ob) I.kIn J e (fun z => nomatch z) fun tk => ⟨.bl b, H, I.tok tk, rfl, q⟩
  cases d with
  | none => exact go none ⟨ho, rfl, rfl, trivial⟩
  | some dd =>
    obtain ⟨fs, hfs⟩ := hd dd rfl
    obtain ⟨mA, hns, _⟩ := exd_at I.hok hfs
    obtain ⟨od, hod, _⟩ := lookIn_ns hns
    exact go (some od) ⟨ho, rfl, rfl, hod⟩
end
end MK
set_option Elab.async false
set_option linter.all false
set_option maxRecDepth 100000
set_option maxHeartbeats 4000000
/-! defs by their names, what is kept -/
namespace MK
open PySem PySem.Spec PyProof.Rows L2
section
variable {P : Program} {w : World} {K : PySem.W.Frag} {mg : Str → Option Value} {base : Heap} {CX : CXT}
/-- a def of the module that may be called by its name -/
structure Cal (P : Program) (w : World) (K : PySem.W.Frag) (mg : Str → Option Value) (base : Heap) (CX : CXT) (k : Nat) (x : Str) (sp : Sp) : Prop where
  ex : ∃ (f : Addr) (fd : FuncData) (ps : List Str), FnOk P w K mg base CX k f fd ps sp ∧ mg x = some (.ref f) ∧ PySem.W.keepIn K (.ref f) = true ∧ Binds K fd ps []
/-- what the top left of a def: its text, its name, how its arguments bind -/
structure DefX (K : PySem.W.Frag) (mg : Str → Option Value) (x : Str) (st : Stmt) (ps : List Str) (f : Addr) (fd : FuncData) : Prop where
  fn : Fun K x x st f fd
  mgf : mg x = some (.ref f)
  bi : Binds K fd ps []
theorem cal_mk {x : Str} {st : Stmt} {f : Addr} {fd : FuncData} {N ps : List Str} {k : Nat} {sp : Sp} (F : DefX K mg x st ps f fd) (S : FnScope N ps (defScope st)) (len : ∀ vs H Q E, sp vs H Q E → vs.length = ps.length)
    (hbody : ∀ (cdv : Value) (A : Around) (outer : List Env) (s : Shared) (H : Hp) (vs : List V) (Q : VK) (E : XK), Room k (A.deeper (envOfC x (defScope st) s.heap.objs.size f cdv)) → sp vs H Q E →
      ∃ t, PSs (cxOf CX0 P w K mg base N x (defScope st) f cdv A outer s H E).nox (defBody st) t ∧ t { nx := fun _ H' => Q .non H', rt := Q } (start N vs) H) : Cal P w K mg base CX0 (k + 1) x sp :=
  ⟨f, fd, ps, F.fn.ok S len hbody, F.mgf, F.fn.kp, F.bi⟩
end
section
variable {X : Cx} {k j : Nat} {x : Str} {sp : Sp} {p pos : Pos} {e : Expr} {es : List Expr} {t : TA}
theorem pe_c (c : Cal X.prog X.w X.K X.mg X.base CX0 k x sp) (hr : Room j X.A) (hk : k ≤ j) (hg : Gl X x) (ha : PA X (e :: es) t)
    (hdb : (x == ("__debug__" : Str)) = false := by decide) (he : starEach (e :: es) X.env = (false, eval e X.env) :: starEach es X.env := by rfl) (hpl : (backTo pos (starEach es X.env)).any (·.1) = false := by rfl) :
    PE X (.Call (.Name x p) (e :: es) [] pos) (tCall sp [] E0 t) := by
  obtain ⟨f, fd, ps, F, hm, kp, b⟩ := c.ex
  exact pe_call F (hr.mono hk) hg hm kp b .nil pass0 ha hdb he hpl
/-- a str times a small int -/
theorem op_repS : OpR X (binaryOp .Mult) (fun x y H Q => ∃ (z : Str) (n : Int), x = .str z ∧ y = .int n ∧ ((n ≤ 0 ∧ -(2 ^ 63) ≤ n ∧ Q (.str Str.empty) H) ∨ (n = 1 ∧ Q (.str z) H))) := by
  intro pins s σ H x y v u Q I rx ry h
  obtain ⟨z, n, rfl, rfl, h⟩ := h
  obtain ⟨t, rfl⟩ := rx
  obtain ⟨t', rfl⟩ := ry
  rcases h with ⟨h1, h2, q⟩ | ⟨rfl, q⟩
  · exact PySem.P.mul_str_none (by omega) (by omega) ⟨.str Str.empty, H, I.tok _, ⟨_, rfl⟩, q⟩
  · refine PySem.P.mul_str (by decide) (fun _ h => absurd h (by simp)) (fun _ h => absurd h (by simp)) ?_
    show Made.post (Made.val (Value.str z t)) _ _
    exact ⟨.str z, H, I, ⟨_, rfl⟩, q⟩
end
/-- a statement, then the rest, Mid between them: what follows is shown once -/
def tCut (t u : TS) : TS := fun D σ H => ∃ Mid : L2.St → Hp → Prop, t { D with nx := Mid } σ H ∧ ∀ σ' H', Mid σ' H' → u D σ' H'
theorem pss_cut {X : Cx} {st : Stmt} {rest : List Stmt} {t u : TS} (h1 : PS X st t) (h2 : PSs X rest u) : PSs X (st :: rest) (tCut t u) := by
  refine ⟨fun pins s σ H D I h => ?_⟩
  obtain ⟨Mid, a, b⟩ := h
  refine wpAny_execs_cons (thn (h1.run pins s σ H { D with nx := Mid } I a) fun f s1 q => ?_)
  cases f with
  | next =>
    obtain ⟨σ', H', I', q⟩ := q
    exact h2.run pins s1 σ' H' D I' (b σ' H' q)
  | ret v => exact q
  | brk => exact q
  | cont => exact q
/-- the name of a built-in class, as a value -/
theorem pe_tyv {X : Cx} {x : Str} {n : String} {pos : Pos} (hg : Gl X x) (hm : X.mg x = none) (hv : bootBuiltins x = some (.type n)) (hn : x ≠ "__name__" := by decide) (hd : (x == ("__debug__" : Str)) = false := by decide) : PE X (.Name x pos) (tC (.ty n)) :=
  pe_bltn hg hm hv rfl hn hd
/-- an expression, a test, with a word between it and what follows -/
def tCutE (te : TE) : TE := fun σ H Q => ∃ Mid : V → Hp → Prop, te σ H Mid ∧ ∀ v H', Mid v H' → Q v H'
def tCutT (tt : TT) : TT := fun σ H Q => ∃ Mid : Bool → Hp → Prop, tt σ H Mid ∧ ∀ b H', Mid b H' → Q b H'
theorem pe_cut {X : Cx} {e : Expr} {te : TE} (h : PE X e te) : PE X e (tCutE te) := by
  refine ⟨fun pins s σ H Q I ⟨Mid, a, b⟩ => ?_⟩
  exact thn (h.run pins s σ H Mid I a) fun u s1 ⟨v, H1, I1, r1, q1⟩ => ⟨v, H1, I1, r1, b v H1 q1⟩
theorem pt_cut {X : Cx} {e : Expr} {tt : TT} (h : PT X e tt) : PT X e (tCutT tt) := by
  refine ⟨fun pins s σ H Q I ⟨Mid, a, b⟩ => ?_⟩
  exact thn (h.run pins s σ H Mid I a) fun u s1 ⟨H1, I1, q1⟩ => ⟨H1, I1, b u H1 q1⟩
/-- all that was tracked is as it was, but what stands at s -/
def SameX (s : Addr) (H H' : Hp) : Prop := ∀ b o, H b = some o → b ≠ s → H' b = some o
theorem SameX.refl (s : Addr) (H : Hp) : SameX s H H := fun _ _ h _ => h
theorem SameX.trans {s : Addr} {H H1 H2 : Hp} (a : SameX s H H1) (b : SameX s H1 H2) : SameX s H H2 := fun c o h n => b c o (a c o h n) n
theorem SameX.new {s p : Addr} {o : HO} {H H1 : Hp} (a : SameX s H H1) (h : H1 p = none) : SameX s H (upd H1 p o) := fun c u hc n => by
  have e := a c u hc n
  rw [upd_ne (ne_of_none e h)]
  exact e
theorem SameX.put {s : Addr} {o : HO} {H H1 : Hp} (a : SameX s H H1) : SameX s H (upd H1 s o) := fun c u hc n => by
  rw [upd_ne n]
  exact a c u hc n
theorem same_sx {s : Addr} {H H1 : Hp} (a : Same H H1) : SameX s H H1 := fun c u hc _ => a c u hc
theorem SameX.none {s p : Addr} {H H1 : Hp} (a : SameX s H H1) (n : p ≠ s) (h : H1 p = Option.none) : H p = Option.none := by
  cases e : H p with
  | none => rfl
  | some o =>
    rw [a p o e n] at h
    cases h
theorem same_new {p : Addr} {o : HO} {H H1 : Hp} (a : Same H H1) (h : H1 p = none) : Same H (upd H1 p o) := fun c u hc => by
  have e := a c u hc
  rw [upd_ne (ne_of_none e h)]
  exact e
theorem SameX.l {K : PySem.W.Frag} {s a : Addr} {xs : List V} {H H1 : Hp} (e : SameX s H H1) (n : a ≠ s) (h : SqL K H a xs) : SqL K H1 a xs := by
  rcases h with (h | ⟨o, h⟩) | h
  · exact .inl (.inl (e _ _ h n))
  · exact .inl (.inr ⟨o, e _ _ h n⟩)
  · exact .inr h
theorem SameX.t {K : PySem.W.Frag} {s a : Addr} {xs : List V} {H H1 : Hp} (e : SameX s H H1) (n : a ≠ s) (h : SqT K H a xs) : SqT K H1 a xs := by
  rcases h with (h | ⟨o, h⟩) | h
  · exact .inl (.inl (e _ _ h n))
  · exact .inl (.inr ⟨o, e _ _ h n⟩)
  · exact .inr h
theorem walk_enumT {K : PySem.W.Frag} {a : Addr} {xs : List V} : Walk (IteT K a) xs.length (fun H => SqT K H a xs) (YPair (fun i => some (.int (i : Nat))) (fun i => xs[i]?)) := by
  refine ⟨fun i _ hi q => ⟨xs, xs[i], q, by simp [hi]⟩, fun _ q => ⟨xs, q, Nat.le_refl _⟩, fun i H v H' _ q y => ?_⟩
  obtain ⟨T, x, h1, h2, h3, h4⟩ := y
  exact ⟨T, .int (i : Nat), x, h1, h2, h3, rfl, h4 xs q⟩
theorem upd_none {H : Hp} {a b : Addr} {o : HO} (h : upd H a o b = none) : b ≠ a ∧ H b = none := by
  by_cases e : b = a
  · rw [e, upd_same] at h
    cases h
  · rw [upd_ne e] at h
    exact ⟨e, h⟩
/-! ### things that are the same, as the laws ask: equal, and of the same kinds -/
section
variable {K : PySem.W.Frag}
/-- nothing in it that is walked -/
def Flat (H : Hp) (x y : V) : Prop := (x = y ∧ (x = .non ∨ (∃ b, x = .bl b) ∨ (∃ i, x = .int i) ∨ ∃ z, x = .str z)) ∨
  ∃ a b kvs, x = .ref a ∧ y = .ref b ∧ H a = some (.dK kvs) ∧ H b = some (.dK kvs) ∧ (kvs.map (·.1)).Nodup ∧ ∀ p ∈ kvs, flatB p.2 = true
def Sm (K : PySem.W.Frag) (H : Hp) : Nat → V → V → Prop
  | 0, x, y => Flat H x y
  | n + 1, x, y => Flat H x y ∨ ∃ a b xs ys, x = .ref a ∧ y = .ref b ∧ ((SqL K H a xs ∧ SqL K H b ys) ∨ (SqT K H a xs ∧ SqT K H b ys)) ∧ xs.length = ys.length ∧ xs.length < 100000 ∧ ∀ (i : Nat) x y, xs[i]? = some x → ys[i]? = some y → Sm K H n x y
theorem same_t {H H' : Hp} {a : Addr} {xs : List V} (e : Same H H') (h : SqT K H a xs) : SqT K H' a xs := by
  rcases h with (h | ⟨o, h⟩) | h
  · exact .inl (.inl (e _ _ h))
  · exact .inl (.inr ⟨o, e _ _ h⟩)
  · exact .inr h
theorem Flat.keep {H H' : Hp} {x y : V} (e : Same H H') (h : Flat H x y) : Flat H' x y := by
  rcases h with h | ⟨a, b, kvs, h1, h2, h3, h4, h5⟩
  · exact .inl h
  · exact .inr ⟨a, b, kvs, h1, h2, e _ _ h3, e _ _ h4, h5⟩
theorem Sm.keep {H H' : Hp} (e : Same H H') : ∀ {n : Nat} {x y : V}, Sm K H n x y → Sm K H' n x y
  | 0, _, _, h => Flat.keep e h
  | n + 1, _, _, h => by
    rcases h with h | ⟨a, b, xs, ys, h1, h2, h3, h4, h5, h6⟩
    · exact .inl (h.keep e)
    · refine .inr ⟨a, b, xs, ys, h1, h2, ?_, h4, h5, fun i x y q1 q2 => Sm.keep e (h6 i x y q1 q2)⟩
      rcases h3 with ⟨p, q⟩ | ⟨p, q⟩
      · exact .inl ⟨e.seq p, e.seq q⟩
      · exact .inr ⟨same_t e p, same_t e q⟩
theorem tyx_l {H : Hp} {a : Addr} {xs : List V} (h : SqL K H a xs) : TyX K H (.ref a) (.type "list") := by
  rcases h with (h | ⟨o, h⟩) | ⟨o, its, n, hk, hc, _⟩
  · exact .base (.lst h)
  · exact .base (.frz h)
  · exact .kList hk hc
theorem tyx_t {H : Hp} {a : Addr} {xs : List V} (h : SqT K H a xs) : TyX K H (.ref a) (.type "tuple") := by
  rcases h with (h | ⟨o, h⟩) | ⟨o, its, n, hk, hc, _⟩
  · exact .base (.tup h)
  · exact .fTuple h
  · exact .kTuple hk hc
theorem tyx_keep {H H' : Hp} {x : V} {t : Value} (e : Same H H') (h : TyX K H x t) : TyX K H' x t := by
  cases h with
  | base h =>
    cases h with
    | non => exact .base .non
    | bl b => exact .base (.bl b)
    | int i => exact .base (.int i)
    | str z => exact .base (.str z)
    | flt z => exact .base (.flt z)
    | lst h => exact .base (.lst (e _ _ h))
    | frz h => exact .base (.frz (e _ _ h))
    | tup h => exact .base (.tup (e _ _ h))
    | dK h => exact .base (.dK (e _ _ h))
    | dT h => exact .base (.dT (e _ _ h))
    | ins h cl ha hn ht hm => exact .base (.ins (e _ _ h) cl ha hn ht hm)
  | byt b => exact .byt b
  | set h => exact .set (e _ _ h)
  | kList h c => exact .kList h c
  | kTuple h c => exact .kTuple h c
  | kDict h c => exact .kDict h c
  | fTuple h => exact .fTuple (e _ _ h)
  | fDict h => exact .fDict (e _ _ h)
theorem walk_zipT {a b : Addr} {xs ys : List V} {n : Nat} (hn : n = min xs.length ys.length) : Walk (RZ.ItzT K a b) n (fun H => SqT K H a xs ∧ SqT K H b ys) (YPair (fun i => xs[i]?) (fun i => ys[i]?)) := by
  subst hn
  refine ⟨fun i _ hi q => ?_, fun _ q => ⟨xs, ys, q.1, q.2, by omega⟩, fun i H v H' _ q y => ?_⟩
  · have h1 : i < xs.length := by omega
    have h2 : i < ys.length := by omega
    exact ⟨xs, ys, xs[i], ys[i], q.1, q.2, by simp [h1], by simp [h2]⟩
  · obtain ⟨T, x, y, h1, h2, h3, h4, h5⟩ := y
    exact ⟨T, x, y, h1, h2, h3, h4 xs q.1, h5 ys q.2⟩
end
/-- a def that is never called so -/
theorem cal_bot {P : Program} {w : World} {K : PySem.W.Frag} {mg : Str → Option Value} {base : Heap} {x : Str} {st : Stmt} {ps : List Str} {f : Addr} {fd : FuncData} (F : DefX K mg x st ps f fd) : Cal P w K mg base CX0 0 x (fun _ _ _ _ => False) :=
  ⟨f, fd, ps, ⟨fun _ _ _ _ h => h.elim, fun _ _ _ _ _ _ _ _ _ _ _ _ _ h => h.elim⟩, F.mgf, F.fn.kp, F.bi⟩
end MK
set_option Elab.async false
set_option linter.all false
set_option maxRecDepth 100000
set_option maxHeartbeats 4000000
/-! errors as values, by the names of their classes -/
namespace MK
open PySem PySem.Spec PyProof.Rows L2
theorem exo_lst {e C : Addr} {d : Option Addr} {xs : List V} : exo e C d ≠ .lst xs := fun z => by
  have z' : HO.ext _ = HO.lst xs := z
  cases z'
theorem exd_lst {e : Addr} {fs : List (Str × V)} {xs : List V} : exd e fs ≠ .lst xs := fun z => by
  have z' : HO.ext _ = HO.lst xs := z
  cases z'
/-- an error of the class at C stands at a; its attributes, the latest first -/
def Err (H : Hp) (C a : Addr) (fs : List (Str × V)) : Prop := ∃ d, H a = some (exo a C (some d)) ∧ H d = some (exd d fs)
theorem Err.keep {H H' : Hp} {C a : Addr} {fs : List (Str × V)} (e : Same H H') (h : Err H C a fs) : Err H' C a fs := by
  obtain ⟨d, h1, h2⟩ := h
  exact ⟨d, e _ _ h1, e _ _ h2⟩
theorem Err.put {H : Hp} {C a p : Addr} {fs : List (Str × V)} {xs zs : List V} (hp : H p = some (.lst xs)) (h : Err H C a fs) : Err (upd H p (.lst zs)) C a fs := by
  obtain ⟨d, h1, h2⟩ := h
  exact ⟨d, by rw [upd_ne (at_ne hp h1 (Ne.symm exo_lst))]; exact h1, by rw [upd_ne (at_ne hp h2 (Ne.symm exd_lst))]; exact h2⟩
/-- an error of the class at C without attributes -/
def Err0 (H : Hp) (C a : Addr) : Prop := H a = some (exo a C none)
/-- what the __init__ of an error with one attribute promises; with two -/
def spErr1 (C : Addr) (f : Str) : Sp := fun vs H Q _ => ∃ (a : Addr) (v : V), vs = [.ref a, v] ∧ H a = some (exo a C none) ∧ ∀ d, H d = none → d ≠ a → Q .non (upd (upd H d (exd d [(f, v)])) a (exo a C (some d)))
def spErr2 (C : Addr) (f g : Str) : Sp := fun vs H Q _ => ∃ (a : Addr) (v u : V), vs = [.ref a, v, u] ∧ H a = some (exo a C none) ∧ ∀ d, H d = none → d ≠ a →
  Q .non (upd (upd (upd H d (exd d [(f, v)])) a (exo a C (some d))) d (exd d [(g, u), (f, v)]))
/-- an error's class by its name: n values by place, the names ks -/
structure ErrCal (P : Program) (w : World) (K : PySem.W.Frag) (mg : Str → Option Value) (base : Heap) (k : Nat) (x : Str) (C : Addr) (sp : Sp) (n : Nat) (ks : List Str) (g : List Value → List Value → List Value) (gV : List V → List V → List V) : Prop where
  ex : ∃ (f : Addr) (fd : FuncData) (ps : List Str), ErrC K C f ∧ FnOk P w K mg base CX0 k f fd ps sp ∧ mg x = some (.ref C) ∧ KBn K fd ps (n + 1) ks g gV
structure Exc0 (K : PySem.W.Frag) (mg : Str → Option Value) (x : Str) (C : Addr) : Prop where
  q : PySem.W.excIn K C PySem.HandSPX.veTail "ValueError.__new__" = true
  mgC : mg x = some (.ref C)
  kp : PySem.W.keepIn K (.ref C) = true
section
variable {X : Cx} {k j n : Nat} {x : Str} {C : Addr} {sp : Sp} {p pos : Pos} {e : Expr} {es : List Expr} {t tk : TA} {kws : List Keyword} {ks : List Str} {g : List Value → List Value → List Value} {gV : List V → List V → List V}
theorem pe_errKC (c : ErrCal X.prog X.w X.K X.mg X.base k x C sp 0 ks g gV) (hr : Room j X.A) (hk : k + 1 ≤ j) (hg : Gl X x) (hkw : PK X kws tk)
    (hall : (backToKw pos (keywordEach kws X.env)).all (·.1.isSome) = true := by rfl) (hks : (backToKw pos (keywordEach kws X.env)).filterMap (·.1) = ks := by rfl) (hdb : (x == ("__debug__" : Str)) = false := by decide)
    (hpl : ((backTo pos (starEach [] X.env)).any (·.1) || (backToKw pos (keywordEach kws X.env)).any (·.1.isNone)) = false := by rfl) :
    PE X (.Call (.Name x p) [] kws pos) (tErr C 0 ks.length sp gV E0 tNil tk) := by
  obtain ⟨f, fd, ps, T, F, hm, b⟩ := c.ex
  exact pe_errK0 T F (hr.mono hk) hg hm b pass0 hkw hall hks hdb hpl
theorem pe_errC (c : ErrCal X.prog X.w X.K X.mg X.base k x C sp n [] g gV) (hr : Room j X.A) (hk : k + 1 ≤ j) (hg : Gl X x) (ha : PA X (e :: es) t) (hn : n ≤ 1000 := by decide)
    (hdb : (x == ("__debug__" : Str)) = false := by decide) (he : starEach (e :: es) X.env = (false, eval e X.env) :: starEach es X.env := by rfl) (hpl : (backTo pos (starEach es X.env)).any (·.1) = false := by rfl) :
    PE X (.Call (.Name x p) (e :: es) [] pos) (tErr C n 0 sp gV E0 t tNil) := by
  obtain ⟨f, fd, ps, T, F, hm, b⟩ := c.ex
  exact pe_err T F (hr.mono hk) hg hm b pass0 ha hn hdb he hpl
theorem pe_errFK {K : PySem.W.Frag} {n : Str} {te : TE} (he : PE X e te) (hK : X.K = K := by rfl) (hb : attributeBase e n X.env (eval e X.env) = eval e X.env := by rfl) : PE X (.Attribute e n pos) (tErrF K n te) := by
  subst hK
  exact pe_errF he hb
theorem pe_refv {a : Addr} (hg : Gl X x) (hm : X.mg x = some (.ref a)) (hd : (x == ("__debug__" : Str)) = false := by decide) : PE X (.Name x pos) (tC (.ref a)) := pe_glob hg hm rfl hd
theorem pe_x0 (c : Exc0 X.K X.mg x C) (hg : Gl X x) (hdb : (x == ("__debug__" : Str)) = false := by decide) : PE X (.Call (.Name x p) [] [] pos) (fun σ H Q => ∀ a, H a = none → Q (.ref a) (upd H a (exo a C none))) :=
  pe_exc0 PySem.F.excBase_ValueError c.q c.mgC c.kp hg hdb
end
/-! readings -/
section
variable {C : Addr} {f h : Str} {σ : L2.St} {H : Hp} {Q : VK} {t tk : TA} {v u : V} {E : XK}
theorem rd_errK (ht : ∀ R : List V → Hp → Prop, R [v] H → tk σ H R) (q : ∀ a H', H a = none → Same H H' → Err H' C a [(f, v)] → Q (.ref a) H') : tErr C 0 1 (spErr1 C f) (fun vs zs => vs ++ zs) E tNil tk σ H Q := by
  refine ht _ ⟨rfl, rfl, fun a ha => ⟨a, v, rfl, upd_same, fun d hd da => ⟨rfl, ?_⟩⟩⟩
  have hd' := (upd_none hd).2
  refine q a _ ha (fun b o hb => ?_) ⟨d, upd_same, (upd_ne da).trans upd_same⟩
  have ba := ne_of_none hb ha
  have bd := ne_of_none hb hd'
  rw [upd_ne ba, upd_ne bd, upd_ne ba]
  exact hb
theorem rd_err1 (ht : ∀ R : List V → Hp → Prop, R [v] H → t σ H R) (q : ∀ a H', H a = none → Same H H' → Err H' C a [(f, v)] → Q (.ref a) H') : tErr C 1 0 (spErr1 C f) (fun vs _ => vs) E t tNil σ H Q := by
  refine ht _ ⟨rfl, rfl, fun a ha => ⟨a, v, rfl, upd_same, fun d hd da => ⟨rfl, ?_⟩⟩⟩
  have hd' := (upd_none hd).2
  refine q a _ ha (fun b o hb => ?_) ⟨d, upd_same, (upd_ne da).trans upd_same⟩
  have ba := ne_of_none hb ha
  have bd := ne_of_none hb hd'
  rw [upd_ne ba, upd_ne bd, upd_ne ba]
  exact hb
theorem same_err2 {a d : Addr} {o1 o2 o3 o4 : HO} (ha : H a = none) (hd : H d = none) : Same H (upd (upd (upd (upd H a o1) d o2) a o3) d o4) := fun b o hb => by
  have ba := ne_of_none hb ha
  have bd := ne_of_none hb hd
  rw [upd_ne bd, upd_ne ba, upd_ne bd, upd_ne ba]
  exact hb
theorem rd_err2 (ht : ∀ R : List V → Hp → Prop, R [v, u] H → t σ H R) (q : ∀ a H', H a = none → Same H H' → Err H' C a [(h, u), (f, v)] → Q (.ref a) H') : tErr C 2 0 (spErr2 C f h) (fun vs _ => vs) E t tNil σ H Q := by
  refine ht _ ⟨rfl, rfl, fun a ha => ⟨a, v, u, rfl, upd_same, fun d hd da => ⟨rfl, ?_⟩⟩⟩
  exact q a _ ha (same_err2 ha (upd_none hd).2) ⟨d, (upd_ne da.symm).trans upd_same, upd_same⟩
/-- the names the other way about -/
theorem rd_errK2 (ht : ∀ R : List V → Hp → Prop, R [u, v] H → tk σ H R) (q : ∀ a H', H a = none → Same H H' → Err H' C a [(h, u), (f, v)] → Q (.ref a) H') : tErr C 0 2 (spErr2 C f h) (fun vs zs => vs ++ zs.reverse) E tNil tk σ H Q := by
  refine ht _ ⟨rfl, rfl, fun a ha => ⟨a, v, u, rfl, upd_same, fun d hd da => ⟨rfl, ?_⟩⟩⟩
  exact q a _ ha (same_err2 ha (upd_none hd).2) ⟨d, (upd_ne da.symm).trans upd_same, upd_same⟩
theorem rd_errF {K : PySem.W.Frag} {te : TE} {a : Addr} {fs : List (Str × V)} (ht : ∀ R : VK, R (.ref a) H → te σ H R) (he : Err H C a fs) (hF : ErrF K C) (hn : PySem.W.findIn K (.ref C) f = some none) (hl : fs.lookup f = some v) (q : Q v H) : tErrF K f te σ H Q := by
  obtain ⟨d, h1, h2⟩ := he
  exact ht _ ⟨a, C, d, fs, v, rfl, h1, h2, hF, hn, hl, q⟩
end
/-! lists of truth values, compared -/
theorem dp_bools {K : PySem.W.Frag} {H : Hp} : ∀ bs : List Bool, DpAll K H (bs.map V.bl) (bs.map PyData.bool)
  | [] => .nil
  | b :: bs => .cons (.bl b) (dp_bools bs)
theorem bools_lay : ∀ bs : List Bool, PyData.canLayAll0 (bs.map PyData.bool) = true
  | [] => rfl
  | b :: bs => by
    rw [List.map_cons]
    unfold PyData.canLayAll0 PyData.canLay0
    rw [Bool.true_and]
    exact bools_lay bs
theorem bools_depth : ∀ bs : List Bool, PyData.depthAll (bs.map PyData.bool) = 0
  | [] => rfl
  | b :: bs => by
    rw [List.map_cons]
    unfold PyData.depthAll
    rw [bools_depth bs]
    rfl
theorem bools_shaped (bs : List Bool) : SeqAt.shaped (.list (bs.map PyData.bool)) = true := by
  have h1 : PyData.canLay0 (.list (bs.map PyData.bool)) = true := by
    unfold PyData.canLay0
    exact bools_lay bs
  have h2 : PyData.depth (.list (bs.map PyData.bool)) ≤ 64 := by
    unfold PyData.depth
    rw [bools_depth bs]
    decide
  unfold SeqAt.shaped
  rw [h1, decide_eq_true h2]
  rfl
theorem bools_eqv (bs : List Bool) : PyData.eqv (.list (bs.map PyData.bool)) (.list (bs.map PyData.bool)) = true :=
  SeqAt.eqv_refl _ (SeqAt.canLay_of_shaped (bools_shaped bs))
/-! what the written part says of an error's class, by one look -/
def oexB (K : PySem.W.Frag) (C : Addr) : Bool := match K.lookup C with
  | some ⟨.type "type", _, .cls cd, sl⟩ => (match cd.mro, sl.toList with
    | .ref C' :: bm, [_, _, _, _, some (.builtin n), _] => C' == C && (n == "ValueError.__new__" && (!cd.hasDel && (cd.hasDict && PySem.HandSPX.refsVE bm)))
    | _, _ => false)
  | _ => false
theorem oexB_ok {K : PySem.W.Frag} {C : Addr} (h : oexB K C = true) :
    ∃ nm q N bs bm sn sub ab col dd k0 k1 k2 k3 k5, K.lookup C = some (excClassObj nm q C N bs bm true sn sub ab col dd k0 k1 k2 k3 k5 "ValueError.__new__") ∧ PySem.HandSPX.refsVE bm = true := by
  unfold oexB at h
  split at h
  · rename_i dd cd sl ho
    split at h
    · rename_i C' bm k0 k1 k2 k3 n k5 hm hs
      simp only [Bool.and_eq_true, beq_iff_eq, Bool.not_eq_true'] at h
      obtain ⟨rfl, rfl, hdel, hdict, hb⟩ := h
      obtain ⟨nm, bs, mro, ns, qn, hd, sn, sub, ab, col, del⟩ := cd
      dsimp only at hm hdel hdict
      subst hm hdel hdict
      have hsl : sl = #[k0, k1, k2, k3, some (.builtin "ValueError.__new__"), k5] := by
        obtain ⟨z⟩ := sl
        simp only at hs
        rw [hs]
      subst hsl
      exact ⟨_, _, _, _, _, _, _, _, _, _, _, _, _, _, _, ho, hb⟩
    · cases h
  · cases h
def errB (K : PySem.W.Frag) (C : Addr) : Bool :=
  decide (PySem.W.findIn K (.ref C) "__setattr__" = some (some (.builtin "object.__setattr__"))) && (decide (PySem.W.subIn K (.ref C) (.type "BaseException") = some true) && (decide (PySem.W.typeIn K (.ref C) = some (.type "type")) && (PySem.W.keepIn K (.ref C) &&
  (decide (PySem.W.findIn K (.ref C) "__getattribute__" = some (some (.builtin "BaseException.__getattribute__"))) && (decide (PySem.W.findIn K (.ref C) "__getattr__" = some none) && (PySem.W.hasDictIn K C && ((PySem.W.clsIn K C).isSome &&
  (decide (PySem.W.findIn K (.ref C) "__class__" = some (some (.builtin "object.__class__"))) && (decide (PySem.W.specialIn K (.builtin "object.__class__") "__get__" = some (some (.builtin "getset_descriptor.__get__"))) &&
  (decide (PySem.W.takesIn K (.builtin "object.__class__") = some true) && decide (PySem.W.mroIn K C (.type "object") = some true)))))))))))
theorem errB_ok {K : PySem.W.Frag} {C : Addr} (h : errB K C = true) (o : oexB K C = true) : OexC K C ∧ ErrF K C ∧ ErrI K C := by
  simp only [errB, Bool.and_eq_true, decide_eq_true_eq] at h
  obtain ⟨h1, h2, h3, h4, h5, h6, h7, h8, h9, h10, h11, h12⟩ := h
  exact ⟨⟨oexB_ok o, h1, h2, h3, h4⟩, ⟨h5, h6, h2, h7⟩, ⟨h8, h5, h6, h2, h9, h10, h11, h12⟩⟩
theorem errI_of {K : PySem.W.Frag} {C : Addr} (h : errB K C = true) : ErrI K C := by
  simp only [errB, Bool.and_eq_true, decide_eq_true_eq] at h
  obtain ⟨h1, h2, h3, h4, h5, h6, h7, h8, h9, h10, h11, h12⟩ := h
  exact ⟨h8, h5, h6, h2, h9, h10, h11, h12⟩
/-- which class is one of which -/
def kitsB (K : PySem.W.Frag) (cs : List Addr) (M : Addr) : Bool :=
  ((List.range cs.length).all fun i => (List.range cs.length).all fun j => decide (PySem.W.kitOne K (.ref (cs.getD i 0)) (.ref (cs.getD j 0)) = some (decide (j = i)))) &&
  (((List.range cs.length).all fun i => decide (PySem.W.kitOne K (.ref M) (.ref (cs.getD i 0)) = some false) && (decide (PySem.W.kitOne K (.ref (cs.getD i 0)) (.ref M) = some true) && decide (PySem.W.kitOne K (.ref (cs.getD i 0)) (.type "ValueError") = some true))) &&
  decide (PySem.W.kitOne K (.ref M) (.type "ValueError") = some true))
theorem getD_of {l : List Addr} {i : Nat} {a : Addr} (h : l[i]? = some a) : i < l.length ∧ l.getD i 0 = a := by
  obtain ⟨h1, h2⟩ := List.getElem?_eq_some_iff.mp h
  exact ⟨h1, by rw [List.getD_eq_getElem?_getD, h]; rfl⟩
theorem kitsB_ok {K : PySem.W.Frag} {cs : List Addr} {M : Addr} (h : kitsB K cs M = true) :
    (∀ (i j : Nat) (C D : Addr), cs[i]? = some C → cs[j]? = some D → PySem.W.kitOne K (.ref C) (.ref D) = some (decide (j = i))) ∧ (∀ (j : Nat) (D : Addr), cs[j]? = some D → PySem.W.kitOne K (.ref M) (.ref D) = some false) ∧
    (∀ (i : Nat) (C : Addr), cs[i]? = some C → PySem.W.kitOne K (.ref C) (.ref M) = some true) ∧ (∀ (i : Nat) (C : Addr), cs[i]? = some C → PySem.W.kitOne K (.ref C) (.type "ValueError") = some true) ∧ PySem.W.kitOne K (.ref M) (.type "ValueError") = some true := by
  simp only [kitsB, Bool.and_eq_true, decide_eq_true_eq, List.all_eq_true, List.mem_range] at h
  obtain ⟨h1, h2, h3⟩ := h
  refine ⟨fun i j C D hC hD => ?_, fun j D hD => ?_, fun i C hC => ?_, fun i C hC => ?_, h3⟩
  · have z := h1 i (getD_of hC).1 j (getD_of hD).1
    rw [(getD_of hC).2, (getD_of hD).2] at z
    exact z
  · have z := (h2 j (getD_of hD).1).1
    rw [(getD_of hD).2] at z
    exact z
  · have z := (h2 i (getD_of hC).1).2.1
    rw [(getD_of hC).2] at z
    exact z
  · have z := (h2 i (getD_of hC).1).2.2
    rw [(getD_of hC).2] at z
    exact z
end MK
set_option Elab.async false
set_option linter.all false
set_option autoImplicit false
set_option maxRecDepth 100000
set_option maxHeartbeats 4000000
/-! kinds as data, and where they stand -/
namespace MK
open PySem PySem.Spec PyProof.Rows L2
/-- all but what stands at s -/
def Off (s : Addr) (H : Hp) : Hp := fun b => if b = s then none else H b
theorem off_ne {s b : Addr} {H : Hp} (h : b ≠ s) : Off s H b = H b := if_neg h
theorem off_s {s : Addr} {H : Hp} : Off s H s = none := if_pos rfl
theorem off_same {s : Addr} {H : Hp} : Same (Off s H) H := fun b o h => by
  by_cases e : b = s
  · rw [e, off_s] at h
    cases h
  · rw [off_ne e] at h
    exact h
theorem SameX.off {s : Addr} {H H' : Hp} (e : SameX s H H') : Same (Off s H) (Off s H') := fun b o h => by
  by_cases q : b = s
  · rw [q, off_s] at h
    cases h
  · rw [off_ne q] at h ⊢
    exact e _ _ h q
theorem same_off {s : Addr} {H H' : Hp} (e : Same H H') : Same (Off s H) (Off s H') := (same_sx e).off
theorem off_upd {s a : Addr} {o : HO} {H : Hp} (h : a ≠ s) : Off s (upd H a o) = upd (Off s H) a o := by
  funext b
  by_cases e : b = s
  · subst e
    rw [off_s, upd_ne (Ne.symm h), off_s]
  · by_cases q : b = a
    · subst q
      rw [off_ne e, upd_same, upd_same]
    · rw [off_ne e, upd_ne q, upd_ne q, off_ne e]
theorem off_get {s a : Addr} {o : HO} {H : Hp} (h : Off s H a = some o) : H a = some o := off_same _ _ h
theorem off_none {s a : Addr} {H : Hp} (h : H a = none) : Off s H a = none := by
  by_cases e : a = s
  · rw [e, off_s]
  · rw [off_ne e]
    exact h
theorem SameX.putN {s a : Addr} {o : HO} {H H1 : Hp} (e : SameX s H H1) (h : H a = Option.none) : SameX s H (upd H1 a o) := fun b u hb n => by
  rw [upd_ne (fun q => by rw [q, h] at hb; cases hb)]
  exact e _ _ hb n
/-! ### sequences -/
section
variable {K : PySem.W.Frag}
def Sq (K : PySem.W.Frag) (H : Hp) (v : V) (xs : List V) : Prop := ∃ a, v = .ref a ∧ (SqL K H a xs ∨ SqT K H a xs)
def Tu (K : PySem.W.Frag) (H : Hp) (v : V) (xs : List V) : Prop := ∃ a, v = .ref a ∧ SqT K H a xs
theorem Tu.sq {H : Hp} {v : V} {xs : List V} (h : Tu K H v xs) : Sq K H v xs := by
  obtain ⟨a, e, h⟩ := h
  exact ⟨a, e, .inr h⟩
theorem Tu.keep {H H' : Hp} {v : V} {xs : List V} (e : Same H H') (h : Tu K H v xs) : Tu K H' v xs := by
  obtain ⟨a, r, h⟩ := h
  exact ⟨a, r, same_t e h⟩
theorem Sq.keep {H H' : Hp} {v : V} {xs : List V} (e : Same H H') (h : Sq K H v xs) : Sq K H' v xs := by
  obtain ⟨a, r, h⟩ := h
  rcases h with h | h
  · exact ⟨a, r, .inl (e.seq h)⟩
  · exact ⟨a, r, .inr (same_t e h)⟩
theorem Sq.lst {H : Hp} {a : Addr} {xs : List V} (h : H a = some (.lst xs)) : Sq K H (.ref a) xs := ⟨a, rfl, .inl (SqL.of h)⟩
theorem Tu.tup {H : Hp} {a : Addr} {xs : List V} (h : H a = some (.tup xs)) : Tu K H (.ref a) xs := ⟨a, rfl, SqT.of h⟩
end
/-- item by item -/
def Al {α : Type} (R : V → α → Prop) (xs : List V) (ys : List α) : Prop := xs.length = ys.length ∧ ∀ (i : Nat) x y, xs[i]? = some x → ys[i]? = some y → R x y
section
variable {α : Type} {R S : V → α → Prop} {xs : List V} {ys : List α}
theorem Al.nil : Al R [] [] := ⟨rfl, fun i x y h => by simp at h⟩
theorem Al.mono (h : Al R xs ys) (f : ∀ x y, R x y → S x y) : Al S xs ys := ⟨h.1, fun i x y h1 h2 => f _ _ (h.2 i x y h1 h2)⟩
theorem Al.snoc {x : V} {y : α} (h : Al R xs ys) (r : R x y) : Al R (xs ++ [x]) (ys ++ [y]) := by
  refine ⟨by simp [h.1], fun i u v h1 h2 => ?_⟩
  by_cases q : i < xs.length
  · rw [List.getElem?_append_left q] at h1
    rw [List.getElem?_append_left (h.1 ▸ q)] at h2
    exact h.2 i u v h1 h2
  · have q2 : ys.length ≤ i := by have := h.1; omega
    rw [List.getElem?_append_right (by omega)] at h1
    rw [List.getElem?_append_right q2] at h2
    rw [← h.1] at h2
    cases hz : i - xs.length with
    | zero =>
      rw [hz] at h1 h2
      simp at h1 h2
      rw [← h1, ← h2]
      exact r
    | succ n =>
      rw [hz] at h1
      simp at h1
theorem Al.get (h : Al R xs ys) {i : Nat} {x : V} (hx : xs[i]? = some x) : ∃ y, ys[i]? = some y ∧ R x y := by
  have hi : i < xs.length := (List.getElem?_eq_some_iff.mp hx).1
  have hj : i < ys.length := h.1 ▸ hi
  exact ⟨ys[i], List.getElem?_eq_getElem hj, h.2 i x _ hx (List.getElem?_eq_getElem hj)⟩
theorem Al.get' (h : Al R xs ys) {i : Nat} {y : α} (hy : ys[i]? = some y) : ∃ x, xs[i]? = some x ∧ R x y := by
  have hi : i < ys.length := (List.getElem?_eq_some_iff.mp hy).1
  have hj : i < xs.length := h.1.symm ▸ hi
  exact ⟨xs[i], List.getElem?_eq_getElem hj, h.2 i _ y (List.getElem?_eq_getElem hj) hy⟩
theorem Al.map {f : α → V} (g : ∀ y, R (f y) y) : Al R (ys.map f) ys := ⟨by simp, fun i x y h1 h2 => by
  rw [List.getElem?_map, h2] at h1
  cases h1
  exact g y⟩
theorem Al.mem (h : Al R xs ys) {x : V} (hx : x ∈ xs) : ∃ y ∈ ys, R x y := by
  obtain ⟨i, hi⟩ := List.mem_iff_getElem?.mp hx
  obtain ⟨y, hy, r⟩ := h.get hi
  exact ⟨y, List.mem_of_getElem? hy, r⟩
end
theorem off_put {a : Addr} {o : HO} {H : Hp} : Off a (upd H a o) = Off a H := by
  funext b
  by_cases e : b = a
  · rw [e, off_s, off_s]
  · rw [off_ne e, off_ne e, upd_ne e]
theorem inV_strs (z : Str) (zs : List Str) : inV (.str z) (zs.map V.str) = decide (z ∈ zs) := by
  rw [Bool.eq_iff_iff, decide_eq_true_iff]
  unfold inV
  rw [List.any_map, List.any_eq_true]
  constructor
  · rintro ⟨y, m, e⟩
    have e : (y == z) = true := e
    rw [beq_iff_eq] at e
    exact e ▸ m
  · intro m
    exact ⟨z, m, beq_self_eq_true z⟩
theorem flat_strs (zs : List Str) : (zs.map V.str).all flatV = true := by
  rw [List.all_map, List.all_eq_true]
  exact fun _ _ => rfl
theorem rep_flat (z : Str) : ∀ m : Nat, (List.replicate m [V.str z]).flatten = (List.replicate m z).map V.str
  | 0 => rfl
  | m + 1 => by
    rw [List.replicate_succ, List.flatten_cons, rep_flat z m, List.replicate_succ]
    rfl
theorem none_of {H H1 : Hp} {a : Addr} (e : Same H H1) (h : H1 a = none) : H a = none := by
  cases q : H a with
  | none => rfl
  | some o =>
    rw [e _ _ q] at h
    cases h
theorem noneX {s : Addr} {H H1 : Hp} {a : Addr} (e : SameX s H H1) (n : a ≠ s) (h : H1 a = none) : H a = none := by
  cases q : H a with
  | none => rfl
  | some o =>
    rw [e _ _ q n] at h
    cases h
theorem seqIndex_nat {d n : Nat} (h : d < n) : seqIndex? (d : Int) n = some d := by
  rw [PySem.seqIndex_of (by omega) (by omega)]
  rfl
theorem eraseIdx_mapV {α β : Type} (f : α → β) : ∀ (l : List α) (d : Nat), (l.map f).eraseIdx d = (l.eraseIdx d).map f
  | [], _ => rfl
  | _ :: _, 0 => rfl
  | x :: xs, d + 1 => by
    show f x :: (xs.map f).eraseIdx d = f x :: (xs.eraseIdx d).map f
    rw [eraseIdx_mapV f xs d]
theorem perm_erase {α : Type} : ∀ (l : List α) (d : Nat) (h : d < l.length), (l[d] :: l.eraseIdx d).Perm l
  | x :: xs, 0, _ => List.Perm.refl _
  | x :: xs, d + 1, h => by
    show (xs[d]'(by simpa using h) :: x :: xs.eraseIdx d).Perm (x :: xs)
    exact (List.Perm.swap _ _ _).trans ((perm_erase xs d _).cons x)
/-! ### rules with the frag said -/
section
variable {X : Cx} {K : PySem.W.Frag}
theorem ix_tupK (h : X.K = K) : IxR X (rIxT K) := by subst h; exact ix_tup
theorem ix_seqK (h : X.K = K) : IxR X (rIx K) := by subst h; exact ix_seq
theorem op_in_seqK (h : X.K = K) : OpR X (compareOp .In) (rIn K false) := by subst h; exact op_in_seq
theorem op_notIn_seqK (h : X.K = K) : OpR X (compareOp .NotIn) (rIn K true) := by subst h; exact op_notIn_seq
theorem call_isiK (h : X.K = K) : CallR X (.builtin "isinstance") (rIsi K) := by subst h; exact call_isi
theorem call_isiTK (h : X.K = K) : CallR X (.builtin "isinstance") (rIsiT K) := by subst h; exact call_isiT
theorem call_len_seqK (h : X.K = K) : CallR X (.builtin "len") (fun xs H Q => ∃ p ys, xs = [.ref p] ∧ (SqL K H p ys ∨ SqT K H p ys) ∧ Q (.int ys.length) H) := by subst h; exact call_len_seq
end
/-! ### fields, calls -/
structure FD where
  nm : Str
  many : Bool
  need : Bool
deriving DecidableEq
structure CD where
  nm : Str
  hand : Str
  moves : List Int
  deeds : List (Str × Str)
  same : List Str
deriving DecidableEq
def sortS (b : Bool) : Str := if b then "many" else "one"
section
variable {K : PySem.W.Frag}
def FdV (f : FD) : List V := [.str f.nm, .str (sortS f.many), .bl f.need]
def DeV (d : Str × Str) : List V := [.str d.1, .str d.2]
def FdA (K : PySem.W.Frag) (H : Hp) (v : V) (f : FD) : Prop := Sq K H v (FdV f)
def FdT (K : PySem.W.Frag) (H : Hp) (v : V) (f : FD) : Prop := Tu K H v (FdV f)
def DeA (K : PySem.W.Frag) (H : Hp) (v : V) (d : Str × Str) : Prop := Sq K H v (DeV d)
def DeT (K : PySem.W.Frag) (H : Hp) (v : V) (d : Str × Str) : Prop := Tu K H v (DeV d)
def CdA (K : PySem.W.Frag) (H : Hp) (v : V) (c : CD) : Prop := ∃ m d s ds, Sq K H v [.str c.nm, .str c.hand, m, d, s] ∧ Sq K H m (c.moves.map V.int) ∧ Sq K H d ds ∧ Al (DeA K H) ds c.deeds ∧ Sq K H s (c.same.map V.str)
def CdT (K : PySem.W.Frag) (H : Hp) (v : V) (c : CD) : Prop := ∃ m d s ds, Tu K H v [.str c.nm, .str c.hand, m, d, s] ∧ Tu K H m (c.moves.map V.int) ∧ Tu K H d ds ∧ Al (DeT K H) ds c.deeds ∧ Tu K H s (c.same.map V.str)
theorem FdA.keep {H H' : Hp} {v : V} {f : FD} (e : Same H H') (h : FdA K H v f) : FdA K H' v f := Sq.keep e h
theorem FdT.keep {H H' : Hp} {v : V} {f : FD} (e : Same H H') (h : FdT K H v f) : FdT K H' v f := Tu.keep e h
theorem DeA.keep {H H' : Hp} {v : V} {f : Str × Str} (e : Same H H') (h : DeA K H v f) : DeA K H' v f := Sq.keep e h
theorem DeT.keep {H H' : Hp} {v : V} {f : Str × Str} (e : Same H H') (h : DeT K H v f) : DeT K H' v f := Tu.keep e h
theorem CdA.keep {H H' : Hp} {v : V} {c : CD} (e : Same H H') (h : CdA K H v c) : CdA K H' v c := by
  obtain ⟨m, d, s, ds, h1, h2, h3, h4, h5⟩ := h
  exact ⟨m, d, s, ds, h1.keep e, h2.keep e, h3.keep e, h4.mono fun _ _ h => DeA.keep e h, h5.keep e⟩
theorem CdT.keep {H H' : Hp} {v : V} {c : CD} (e : Same H H') (h : CdT K H v c) : CdT K H' v c := by
  obtain ⟨m, d, s, ds, h1, h2, h3, h4, h5⟩ := h
  exact ⟨m, d, s, ds, h1.keep e, h2.keep e, h3.keep e, h4.mono fun _ _ h => DeT.keep e h, h5.keep e⟩
theorem FdT.a {H : Hp} {v : V} {f : FD} (h : FdT K H v f) : FdA K H v f := Tu.sq h
theorem DeT.a {H : Hp} {v : V} {f : Str × Str} (h : DeT K H v f) : DeA K H v f := Tu.sq h
theorem CdT.a {H : Hp} {v : V} {c : CD} (h : CdT K H v c) : CdA K H v c := by
  obtain ⟨m, d, s, ds, h1, h2, h3, h4, h5⟩ := h
  exact ⟨m, d, s, ds, h1.sq, h2.sq, h3.sq, h4.mono fun _ _ h => DeT.a h, h5.sq⟩
end
/-! ### what makes them a kind -/
def letterB (c : Nat) : Bool := decide (97 ≤ c) && decide (c ≤ 122)
def wordB (z : Str) : Bool := decide (1 ≤ z.cps.size) && decide (z.cps.size ≤ 8) && z.cps.toList.all letterB
def deedSorts (z : Str) : List Bool :=
  if z = "set" then [false] else if z = "add" then [true] else if z = "strike" then [true] else if z = "fresh" then [true] else if z = "clear" then [false, true] else []
def worded (ds : List (Str × Str)) : List Str := (ds.filter fun d => decide (d.1 = ("add" : Str)) || decide (d.1 = ("strike" : Str))).map (·.2)
structure FsOk (fs : List FD) : Prop where
  pos : 1 ≤ fs.length
  le : fs.length ≤ 3
  word : ∀ f ∈ fs, wordB f.nm = true
  nd : (fs.map (·.nm)).Nodup
structure CdOk (fs : List FD) (n : Nat) (c : CD) : Prop where
  word : wordB c.nm = true
  hand : c.hand = "self" ∨ c.hand = "new" ∨ c.hand = "last"
  len : c.moves.length = n
  move : ∀ m ∈ c.moves, -1 ≤ m ∧ m < n
  deeds : c.deeds.length ≤ 4
  deed : ∀ d ∈ c.deeds, ∃ f ∈ fs, f.nm = d.2 ∧ f.many ∈ deedSorts d.1
  once : (worded c.deeds).Nodup
  same : ∀ x ∈ c.same, ∃ f ∈ fs, f.nm = x ∧ f.many = true
  self : c.hand = "self" → c.same = []
  nd : c.same.Nodup
structure KdOk (fs : List FD) (n : Nat) (cs : List CD) : Prop where
  fields : FsOk fs
  pos : 1 ≤ n
  le : n ≤ 4
  cpos : 1 ≤ cs.length
  cle : cs.length ≤ 6
  calls : ∀ c ∈ cs, CdOk fs n c
  nd : (cs.map (·.nm)).Nodup
def DeOk (fs : List FD) (d : Str × Str) : Prop := ∃ f ∈ fs, f.nm = d.2 ∧ f.many ∈ deedSorts d.1
theorem worded_snoc (ds : List (Str × Str)) (d : Str × Str) : worded (ds ++ [d]) = worded ds ++ (if d.1 = ("add" : Str) ∨ d.1 = ("strike" : Str) then [d.2] else []) := by
  unfold worded
  rw [List.filter_append, List.map_append]
  congr 1
  by_cases h : d.1 = ("add" : Str) ∨ d.1 = ("strike" : Str)
  · rw [if_pos h]
    rcases h with h | h <;> simp [h]
  · rw [if_neg h]
    rw [not_or] at h
    simp [h.1, h.2]
/-- a list that may be changed -/
def Ls (H : Hp) (v : V) (xs : List V) : Prop := ∃ a, v = .ref a ∧ H a = some (.lst xs)
theorem Ls.sq {K : PySem.W.Frag} {H : Hp} {v : V} {xs : List V} (h : Ls H v xs) : Sq K H v xs := by
  obtain ⟨a, e, h⟩ := h
  exact ⟨a, e, .inl (SqL.of h)⟩
theorem Ls.keep {H H' : Hp} {v : V} {xs : List V} (e : Same H H') (h : Ls H v xs) : Ls H' v xs := by
  obtain ⟨a, r, h⟩ := h
  exact ⟨a, r, e _ _ h⟩
/-- a call as the laws draw them: a tuple with lists in it -/
def CdL (K : PySem.W.Frag) (H : Hp) (v : V) (c : CD) : Prop := ∃ m d s ds, Tu K H v [.str c.nm, .str c.hand, m, d, s] ∧ Ls H m (c.moves.map V.int) ∧ Ls H d ds ∧ Al (DeT K H) ds c.deeds ∧ Ls H s (c.same.map V.str)
theorem CdL.keep {K : PySem.W.Frag} {H H' : Hp} {v : V} {c : CD} (e : Same H H') (h : CdL K H v c) : CdL K H' v c := by
  obtain ⟨m, d, s, ds, h1, h2, h3, h4, h5⟩ := h
  exact ⟨m, d, s, ds, h1.keep e, h2.keep e, h3.keep e, h4.mono fun _ _ h => DeT.keep e h, h5.keep e⟩
theorem CdL.a {K : PySem.W.Frag} {H : Hp} {v : V} {c : CD} (h : CdL K H v c) : CdA K H v c := by
  obtain ⟨m, d, s, ds, h1, h2, h3, h4, h5⟩ := h
  exact ⟨m, d, s, ds, h1.sq, h2.sq, h3.sq, h4.mono fun _ _ h => DeT.a h, h5.sq⟩
/-- the modes that are drawn from -/
def smV (far : Int) (m : Nat) : List V := (List.replicate 3 (rgV 0 far)).flatten ++ (List.replicate m [V.int (-1)]).flatten
theorem rgV_mem {far : Int} {x : V} (h : x ∈ rgV 0 far) : ∃ z : Int, x = .int z ∧ 0 ≤ z ∧ z < far := by
  unfold rgV at h
  obtain ⟨i, hi, rfl⟩ := List.mem_map.mp h
  rw [List.mem_range] at hi
  exact ⟨_, rfl, by omega, by omega⟩
theorem smV_mem {far : Int} {m : Nat} {x : V} (hf : 0 < far) (h : x ∈ smV far m) : ∃ z : Int, x = .int z ∧ -1 ≤ z ∧ z < far := by
  unfold smV at h
  rcases List.mem_append.mp h with h | h
  · obtain ⟨l, hl, hx⟩ := List.mem_flatten.mp h
    obtain ⟨_, rfl⟩ := List.mem_replicate.mp hl
    obtain ⟨z, e, h0, h1⟩ := rgV_mem hx
    exact ⟨z, e, by omega, h1⟩
  · obtain ⟨l, hl, hx⟩ := List.mem_flatten.mp h
    obtain ⟨_, rfl⟩ := List.mem_replicate.mp hl
    exact ⟨-1, List.mem_singleton.mp hx, by omega, by omega⟩
theorem smV_len {far : Int} {m : Nat} (hf : 0 < far) : (smV far m).length = 3 * far.toNat + m := by
  unfold smV
  have h3 : (List.replicate 3 (rgV 0 far)).flatten.length = 3 * far.toNat := by
    show (rgV 0 far ++ (rgV 0 far ++ (rgV 0 far ++ []))).length = _
    rw [List.length_append, List.length_append, List.length_append, rgV_length]
    show (far - 0).toNat + ((far - 0).toNat + ((far - 0).toNat + 0)) = _
    rw [Int.sub_zero]
    omega
  have h4 : ∀ k : Nat, (List.replicate k [V.int (-1)]).flatten.length = k := fun k => by
    induction k with
    | zero => rfl
    | succ k ih =>
      rw [List.replicate_succ, List.flatten_cons, List.length_append, ih]
      show 1 + k = k + 1
      omega
  rw [List.length_append, h3, h4]
/-! ### texts, deep ones -/
theorem dp_strs {K : PySem.W.Frag} {H : Hp} : ∀ zs : List Str, DpAll K H (zs.map V.str) (zs.map PyData.str)
  | [] => .nil
  | z :: zs => .cons (.str z) (dp_strs zs)
theorem strs_lay : ∀ zs : List Str, (∀ z ∈ zs, PyData.strOk z = true) → PyData.canLayAll0 (zs.map PyData.str) = true
  | [], _ => rfl
  | z :: zs, h => by
    rw [List.map_cons]
    unfold PyData.canLayAll0 PyData.canLay0
    rw [h z (List.mem_cons_self ..), Bool.true_and]
    exact strs_lay zs fun y hy => h y (List.mem_cons_of_mem _ hy)
theorem strs_depth : ∀ zs : List Str, PyData.depthAll (zs.map PyData.str) = 0
  | [] => rfl
  | z :: zs => by
    rw [List.map_cons]
    unfold PyData.depthAll
    rw [strs_depth zs]
    rfl
theorem strs_shaped (zs : List Str) (h : ∀ z ∈ zs, PyData.strOk z = true) : SeqAt.shaped (.list (zs.map PyData.str)) = true := by
  have h1 : PyData.canLay0 (.list (zs.map PyData.str)) = true := by
    unfold PyData.canLay0
    exact strs_lay zs h
  have h2 : PyData.depth (.list (zs.map PyData.str)) ≤ 64 := by
    unfold PyData.depth
    rw [strs_depth zs]
    decide
  unfold SeqAt.shaped
  rw [h1, decide_eq_true h2]
  rfl
theorem eqv_nil (zs : List Str) : PyData.eqv (.list (zs.map PyData.str)) (.list []) = zs.isEmpty := by
  cases zs <;> simp [PyData.eqv, PyData.eqvAll]
end MK
set_option Elab.async false
set_option linter.all false
set_option autoImplicit false
set_option maxRecDepth 100000
set_option maxHeartbeats 4000000
/-! set(texts), the texts distinct; len(set(texts)) -/
namespace MK
open PySem PySem.Spec PyProof.Rows L2
theorem take_next {zs : List Str} {i : Nat} (hi : i < zs.length) (y : Str) : decide (y ∈ zs.take (i + 1)) = (decide (y ∈ zs.take i) || decide (y = zs.getD i Str.empty)) := by
  have e : zs.take (i + 1) = zs.take i ++ [zs.getD i Str.empty] := by
    rw [List.take_add_one, List.getElem?_eq_getElem hi, List.getD_eq_getElem?_getD, List.getElem?_eq_getElem hi]
    rfl
  rw [e, Bool.eq_iff_iff]
  simp
theorem not_ahead {zs : List Str} {i : Nat} (nd : zs.Nodup) (hi : i < zs.length) : zs.getD i Str.empty ∉ zs.take i := by
  rw [List.getD_eq_getElem?_getD, List.getElem?_eq_getElem hi]
  intro m
  obtain ⟨j, hj⟩ := List.mem_iff_getElem?.mp m
  rw [List.getElem?_take] at hj
  split at hj
  · rename_i lt
    have hjl : j < zs.length := by omega
    rw [List.getElem?_eq_getElem hjl] at hj
    exact (List.pairwise_iff_getElem.mp nd j i hjl hi lt) (Option.some.inj hj)
  · cases hj
section
variable {prog : Program} {w : World} {A : Around} {R : Result → Shared → Prop} {I S : Addr} {fp wr : List Addr} {G : Array GenState → Array GenState → Prop} {n : Nat} {P : Nat → Value → Prop} {St : Nat → Shared → Prop} {zs : List Str}
theorem all_added (W : WalksS prog w A.in1 I fp wr G n P St) (off : S ∉ fp) (len : zs.length = n) (nd : zs.Nodup) (few : n < 1000) (at_ : ∀ i v, P i v → ∃ t, v = .str (zs.getD i Str.empty) t) :
    ∀ (left i : Nat) (s : Shared), i + left = n → St i s → s.heap.SetOf (strKind prog w) S (fun y => decide (y ∈ zs.take i)) i →
      (∀ s1, Moved (S :: wr) G s s1 → s1.heap.SetOf (strKind prog w) S (fun y => decide (y ∈ zs)) n → R (.ok (.ret .none)) s1) → codeAny (model prog w) A (.builtin "set.update.loop" ⟨[.ref S, .ref I], []⟩) R s := by
  intro left
  have off2 : S ∉ wr := fun m => off (W.sub _ m)
  induction left with
  | zero =>
    intro i s e st so k
    obtain rfl : i = n := e
    refine codeAny_builtin PyProof.Rows.F.entry_set_update_loop ?_
    rw [Around.under_plainId PyProof.Rows.F.plain_set_update_loop _]
    refine wpAny_bind (W.done s _ _ st fun s1 mv => wpAny_pure (k s1 (mv.mono fun b m => List.mem_cons_of_mem _ m) ?_))
    obtain ⟨o, es, ep, t, g, more⟩ := so
    have so1 : s1.heap.SetOf (strKind prog w) S (fun y => decide (y ∈ zs.take i)) i := ⟨o, es, ep, t, mv.heap S _ off2 g, more⟩
    rw [← len, List.take_length] at so1
    rw [← len]
    exact so1
  | succ left ih =>
    intro i s e st so k
    have lt : i < n := by omega
    have ltz : i < zs.length := by omega
    refine codeAny_builtin PyProof.Rows.F.entry_set_update_loop ?_
    rw [Around.under_plainId PyProof.Rows.F.plain_set_update_loop _]
    refine wpAny_bind (W.item i s _ _ lt st fun v s1 pv st1 mv => ?_)
    obtain ⟨t, rfl⟩ := at_ i v pv
    have so1 : s1.heap.SetOf (strKind prog w) S (fun y => decide (y ∈ zs.take i)) i := by
      obtain ⟨o, es, ep, tb, g, more⟩ := so
      exact ⟨o, es, ep, tb, mv.heap S _ off2 g, more⟩
    refine wpAny_bind (wpAny_holding ?_)
    unfold setAdd
    refine wpAny_holding (wpAny_bind ((strKind prog w).pyHash (k := zs.getD i Str.empty) (strKind_is _ _ _ _) ?_))
    refine wpAny_setAddHashed_of (knd := strKind prog w) (s := { s1 with toks := s1.toks + 1 }) (strKind_is _ _ _ _) rfl so1 (by unfold scanBound; omega) fun h2 only so2 => ?_
    have so3 : h2.SetOf (strKind prog w) S (fun y => decide (y ∈ zs.take (i + 1))) (i + 1) := by
      refine SetOf_congr so2 (fun y => (take_next ltz y).symm) ?_
      rw [decide_eq_false (not_ahead nd ltz)]
      rfl
    have keep : ∀ b, b ≠ S → ∀ o, s1.heap.get? b = some o → h2.get? b = some o := fun b ne o g => by
      rw [only.2 b ne]
      exact g
    refine wpAny_pure ⟨plainId_quiet PyProof.Rows.F.plain_set_update_loop _, ih (i + 1) _ (by omega) (W.frame _ s1 _ _ st1 (Nat.le_succ _) fun b m o g => keep b (fun q => off (q ▸ m)) o g) so3 fun s3 mv3 so4 => ?_⟩
    exact k s3 (Moved.trans W.gtrans ((mv.mono fun b m => List.mem_cons_of_mem _ m).then_heap (Nat.le_succ _) fun b o m g => keep b (fun q => m (by rw [q]; exact List.mem_cons_self)) o g) mv3) so4
end
section
variable {prog : Program} {w : World} {A : Around} {E : Value → Shared → Prop} {s : Shared} {l : Addr} {its : Array Value} {zs : List Str}
/-- a new set -/
def set0 (led : Bool) : Obj := { cls := .type "set", dict := none, data := .set #[] 0 (.fresh 0 0 led) }
def newS (s : Shared) (led : Bool) : Shared := { s with heap := s.heap.push (set0 led) }
/-- what set(texts) leaves -/
def Laid (prog : Program) (w : World) (s : Shared) (zs : List Str) (h : Heap) : Prop := h.SetOf (strKind prog w) s.heap.objs.size (fun y => decide (y ∈ zs)) zs.length ∧ ∀ b o, b < s.heap.objs.size → s.heap.get? b = some o → h.get? b = some o
theorem set_texts {Q : Value → Shared → Prop} (calm : A.handled = none) (hl : s.heap.IsList l its) (hz : StrsAre its.toList zs) (nd : zs.Nodup) (few : zs.length < 1000)
    (k : ∀ (h : Heap) (tk : Nat), Laid prog w s zs h → Q (.ref s.heap.objs.size) { s with heap := h, toks := tk }) : wpAny (model prog w) A (call (.type "set") [.ref l]) Q E s := by
  obtain ⟨c, tl, hmro⟩ := PySem.F.called_set.mro
  have m1 := PySem.F.called_set.made
  have m2 := PySem.F.called_set.sub
  refine wpAny_call (codeAny_of_tree (show wpAny _ _ (callAny (.type "set") _) _ _ _ from ?_))
  refine wpAny_pure ⟨Code.quiet_builtin _ (by decide +kernel), codeAny_builtin PySem.F.entry_type_call ?_⟩
  rw [Around.under_plain (weight_type_call_type "set" [.ref l] []) rfl]
  have m3 := PySem.F.called_set.notType
  have m4 := PySem.F.called_set.canCreate
  have m5 := PySem.F.typeCall_set_1 (.ref l)
  repeat (any_goals (first | assumption | wp_step))
  refine codeAny_mono (code_set_new_1 (.ref l) (E := E) (Q₁ := fun v s1 => ∃ led : Bool, v = .ref s.heap.objs.size ∧ s1 = newS s led) fun led => ⟨led, rfl, rfl⟩) fun r s1 hr => ?_
  cases r with
  | error e => exact hr
  | ok fl =>
    cases fl with
    | next => exact hr.elim
    | brk => exact hr.elim
    | cont => exact hr.elim
    | ret v =>
      obtain ⟨led, rfl, rfl⟩ := hr
      have at0 : (s.heap.push (set0 led)).get? s.heap.objs.size = some (set0 led) := Heap.get?_push_size _ rfl
      have ty0 : Shared.TypeIs (newS s led) (.ref s.heap.objs.size) "set" := ⟨_, at0, rfl⟩
      have m6 := PySem.F.called_set.init.lookup
      have m7 := PySem.F.called_set.init.bind (.ref s.heap.objs.size)
      unfold newS at ty0 ⊢
      repeat (any_goals (first | assumption | wp_step))
      refine codeAny_mono (codeAny_call_builtin (R := wants (fun v s2 => v = .none ∧ ∃ h tk, s2 = { s with heap := h, toks := tk } ∧ Laid prog w s zs h) E) PySem.F.called_set.init.plain PySem.F.entry_set_init (check_set_init_1 ty0 ?_)) fun r2 s2 h2 => ?_
      · obtain ⟨⟨cl, di, da, sl⟩, g, rfl, nl, rfl⟩ := hl
        have g0 : (s.heap.push (set0 led)).get? l = some { cls := .type "list", dict := di, data := .seq its nl, slots := sl } := Heap.get?_push_of_some _ g
        have n1 := PySem.F.sub_list_set
        have n2 := PySem.F.sub_list_frozenset
        have n3 : (Value.type "list" == Value.type "dict") = false := by decide
        have l0 : (s.heap.push (set0 led)).IsList l its := ⟨_, g0, rfl, nl, rfl⟩
        unfold Builtin.«set.__init__» noKeywords Builtin.Frozenset.updateFrom
        generalize hit : pyIter = it
        wp_walk
        subst hit
        refine wpAny_pyIter_list l0 (wpAny_bind (wpAny_runValue ?_))
        have below : l < s.heap.objs.size := Heap.lt_size g
        have sz : (s.heap.push (set0 led)).objs.size = s.heap.objs.size + 1 := Heap.size_push ..
        have d1 : l ≠ (s.heap.push (set0 led)).objs.size := Nat.ne_of_lt (by rw [sz]; exact Nat.lt_succ_of_lt below)
        have d2 : s.heap.objs.size ∉ [(s.heap.push (set0 led)).objs.size, l] := by
          rw [sz]
          intro m
          rcases List.mem_cons.mp m with e | m
          · omega
          · exact absurd (List.mem_singleton.mp m) (Nat.ne_of_gt below)
        have lz : zs.length = its.size := by rw [← StrsAre.len_eq hz, Array.length_toList]
        refine all_added (S := s.heap.objs.size) ((Walks.list (by simp [calm]) _ l d1 its).toS) d2 lz nd (by omega) (fun i v e => SS.strs_at hz i v (by rw [Array.getElem?_toList]; exact e)) its.size 0 _ (Nat.zero_add _)
          ⟨⟨_, Heap.get?_push_size _ rfl, rfl, rfl⟩, l0.push _⟩ ?_ ?_
        · have g1 := Heap.get?_push_of_some { cls := .type "list_iterator", data := .fields #[.ref l, .int 0 0] } at0
          exact SetOf_congr ((setObjOf_fresh (knd := strKind prog w) led).setOf g1 (by unfold scanBound; omega)) (fun _ => rfl) rfl
        · rintro ⟨h, g', d', tk, os'⟩ mv so
          obtain rfl : g' = s.gens := mv.gens
          obtain rfl : d' = s.drawn := mv.drawn
          obtain rfl : os' = s.os := mv.os
          refine wpAny_pure (wpAny_pure ⟨rfl, h, tk, rfl, by rw [lz]; exact so, fun b o lt e => ?_⟩)
          refine mv.heap b o (fun m => ?_) (Heap.get?_push_of_some _ (Heap.get?_push_of_some _ e))
          rcases List.mem_cons.mp m with q | m
          · exact Nat.ne_of_lt lt q
          · rcases List.mem_cons.mp m with q | m
            · rw [sz] at q
              exact Nat.ne_of_lt (Nat.lt_succ_of_lt lt) q
            · cases m
      · cases r2 with
        | error e => exact h2
        | ok fl =>
          cases fl with
          | next => exact h2.elim
          | brk => exact h2.elim
          | cont => exact h2.elim
          | ret v =>
            obtain ⟨rfl, h, tk, rfl, laid⟩ := h2
            repeat (any_goals (first | assumption | wp_step))
            exact k h _ laid
end
end MK
set_option Elab.async false
set_option linter.all false
set_option autoImplicit false
set_option maxRecDepth 100000
set_option maxHeartbeats 4000000
namespace MK
open PySem PySem.Spec PyProof.Rows L2
section
variable {prog : Program} {w : World} {A : Around} {E : Value → Shared → Prop} {s : Shared} {l : Addr} {its : Array Value} {zs : List Str}
theorem set_textsT {Q : Value → Shared → Prop} (calm : A.handled = none) (hl : s.heap.IsTuple l its) (hz : StrsAre its.toList zs) (nd : zs.Nodup) (few : zs.length < 1000)
    (k : ∀ (h : Heap) (tk : Nat), Laid prog w s zs h → Q (.ref s.heap.objs.size) { s with heap := h, toks := tk }) : wpAny (model prog w) A (call (.type "set") [.ref l]) Q E s := by
  obtain ⟨c, tl, hmro⟩ := PySem.F.called_set.mro
  have m1 := PySem.F.called_set.made
  have m2 := PySem.F.called_set.sub
  refine wpAny_call (codeAny_of_tree (show wpAny _ _ (callAny (.type "set") _) _ _ _ from ?_))
  refine wpAny_pure ⟨Code.quiet_builtin _ (by decide +kernel), codeAny_builtin PySem.F.entry_type_call ?_⟩
  rw [Around.under_plain (weight_type_call_type "set" [.ref l] []) rfl]
  have m3 := PySem.F.called_set.notType
  have m4 := PySem.F.called_set.canCreate
  have m5 := PySem.F.typeCall_set_1 (.ref l)
  repeat (any_goals (first | assumption | wp_step))
  refine codeAny_mono (code_set_new_1 (.ref l) (E := E) (Q₁ := fun v s1 => ∃ led : Bool, v = .ref s.heap.objs.size ∧ s1 = newS s led) fun led => ⟨led, rfl, rfl⟩) fun r s1 hr => ?_
  cases r with
  | error e => exact hr
  | ok fl =>
    cases fl with
    | next => exact hr.elim
    | brk => exact hr.elim
    | cont => exact hr.elim
    | ret v =>
      obtain ⟨led, rfl, rfl⟩ := hr
      have at0 : (s.heap.push (set0 led)).get? s.heap.objs.size = some (set0 led) := Heap.get?_push_size _ rfl
      have ty0 : Shared.TypeIs (newS s led) (.ref s.heap.objs.size) "set" := ⟨_, at0, rfl⟩
      have m6 := PySem.F.called_set.init.lookup
      have m7 := PySem.F.called_set.init.bind (.ref s.heap.objs.size)
      unfold newS at ty0 ⊢
      repeat (any_goals (first | assumption | wp_step))
      refine codeAny_mono (codeAny_call_builtin (R := wants (fun v s2 => v = .none ∧ ∃ h tk, s2 = { s with heap := h, toks := tk } ∧ Laid prog w s zs h) E) PySem.F.called_set.init.plain PySem.F.entry_set_init (check_set_init_1 ty0 ?_)) fun r2 s2 h2 => ?_
      · obtain ⟨⟨cl, di, da, sl⟩, g, rfl, nl, rfl⟩ := hl
        have g0 : (s.heap.push (set0 led)).get? l = some { cls := .type "tuple", dict := di, data := .seq its nl, slots := sl } := Heap.get?_push_of_some _ g
        have n1 := PySem.F.sub_tuple_set
        have n2 := PySem.F.sub_tuple_frozenset
        have n3 : (Value.type "tuple" == Value.type "dict") = false := by decide
        have l0 : (s.heap.push (set0 led)).IsTuple l its := ⟨_, g0, rfl, nl, rfl⟩
        unfold Builtin.«set.__init__» noKeywords Builtin.Frozenset.updateFrom
        generalize hit : pyIter = it
        wp_walk
        subst hit
        refine wpAny_pyIter_tuple l0 (wpAny_bind (wpAny_runValue ?_))
        have below : l < s.heap.objs.size := Heap.lt_size g
        have sz : (s.heap.push (set0 led)).objs.size = s.heap.objs.size + 1 := Heap.size_push ..
        have d1 : l ≠ (s.heap.push (set0 led)).objs.size := Nat.ne_of_lt (by rw [sz]; exact Nat.lt_succ_of_lt below)
        have d2 : s.heap.objs.size ∉ [(s.heap.push (set0 led)).objs.size, l] := by
          rw [sz]
          intro m
          rcases List.mem_cons.mp m with e | m
          · omega
          · exact absurd (List.mem_singleton.mp m) (Nat.ne_of_gt below)
        have lz : zs.length = its.size := by rw [← StrsAre.len_eq hz, Array.length_toList]
        refine all_added (S := s.heap.objs.size) ((Walks.tuple (by simp [calm]) _ l d1 its).toS) d2 lz nd (by omega) (fun i v e => SS.strs_at hz i v (by rw [Array.getElem?_toList]; exact e)) its.size 0 _ (Nat.zero_add _)
          ⟨⟨_, Heap.get?_push_size _ rfl, rfl, rfl⟩, l0.push _⟩ ?_ ?_
        · have g1 := Heap.get?_push_of_some { cls := .type "tuple_iterator", data := .fields #[.ref l, .int 0 0] } at0
          exact SetOf_congr ((setObjOf_fresh (knd := strKind prog w) led).setOf g1 (by unfold scanBound; omega)) (fun _ => rfl) rfl
        · rintro ⟨h, g', d', tk, os'⟩ mv so
          obtain rfl : g' = s.gens := mv.gens
          obtain rfl : d' = s.drawn := mv.drawn
          obtain rfl : os' = s.os := mv.os
          refine wpAny_pure (wpAny_pure ⟨rfl, h, tk, rfl, by rw [lz]; exact so, fun b o lt e => ?_⟩)
          refine mv.heap b o (fun m => ?_) (Heap.get?_push_of_some _ (Heap.get?_push_of_some _ e))
          rcases List.mem_cons.mp m with q | m
          · exact Nat.ne_of_lt lt q
          · rcases List.mem_cons.mp m with q | m
            · rw [sz] at q
              exact Nat.ne_of_lt (Nat.lt_succ_of_lt lt) q
            · cases m
      · cases r2 with
        | error e => exact h2
        | ok fl =>
          cases fl with
          | next => exact h2.elim
          | brk => exact h2.elim
          | cont => exact h2.elim
          | ret v =>
            obtain ⟨rfl, h, tk, rfl, laid⟩ := h2
            repeat (any_goals (first | assumption | wp_step))
            exact k h _ laid
end
/-- len(set(xs)), xs a list or tuple of distinct texts -/
def tLenS (K : PySem.W.Frag) (ta : TE) : TE := fun σ H Q => ta σ H fun x H1 => ∃ zs : List Str, Sq K H1 x (zs.map V.str) ∧ zs.Nodup ∧ zs.length < 1000 ∧ Q (.int zs.length) H1
theorem pe_lenS {X : Cx} {a : Expr} {ta : TE} {p p2 q pos : Pos} (hc : X.calm = true) (hg : Gl X "len") (hm : X.mg "len" = none) (hg2 : Gl X "set") (hm2 : X.mg "set" = none) (ha : PE X a ta)
    (na : starEach [a] X.env = (false, eval a X.env) :: starEach [] X.env := by rfl) : PE X (.Call (.Name "len" p) [.Call (.Name "set" p2) [a] [] q] [] pos) (tLenS X.K ta) := by
  refine ⟨fun pins s σ H Q I h => Call_ (ld_blt I hg hm boot_len (callWith_builtin1 (args_cons (Call_ (ld_blt I hg2 hm2 boot_set ?_)) rfl) rfl rfl))⟩
  refine callWith_type1 (args_cons (thn (ha.run pins s σ H _ I h) fun v s1 ⟨x, H1, I1, r1, zs, ⟨l, e, sq⟩, nd, few, q⟩ => args_nil ?_) na) na rfl
  subst e
  cases r1
  have fin : ∀ (h : Heap) (tk : Nat), Laid X.prog X.w s1 zs h → wpAny (model X.prog X.w) X.A (spliced (backTo pos (starEach [] X.env)))
      (fun vs s2 => wpAny (model X.prog X.w) X.A (call (.builtin "len") (Value.ref s1.heap.objs.size :: vs)) (EP X pins σ Q) X.xe s2) X.xe { s1 with heap := h, toks := tk } := fun h tk ⟨so, kp⟩ => by
    obtain ⟨o, es, ep, t, g, ex, hd, _, _, _, fits, cnt⟩ := so
    have I2 : Inv X pins σ H1 { s1 with heap := h, toks := tk } := I1.kept fun b o e => kp b o (Heap.lt_size e) e
    exact args_nil (call_len_set g ex hd fits (by rw [cnt] <;> omega) ⟨.int zs.length, H1, I2.tok _, ⟨_, by rw [cnt]⟩, q⟩)
  rcases sq with sq | sq
  · obtain ⟨us, r, pl, _⟩ := I1.list sq
    exact set_texts (I1.ok.hd hc) pl.isList (by simpa using strsAre_of r) nd few fin
  · obtain ⟨us, r, pl, _⟩ := I1.tuple sq
    exact set_textsT (I1.ok.hd hc) pl (by simpa using strsAre_of r) nd few fin
end MK
set_option Elab.async false
set_option linter.all false
set_option autoImplicit false
set_option maxRecDepth 100000
set_option maxHeartbeats 4000000
namespace MK
open PySem PySem.Spec PyProof.Rows L2
/-- a constant of the module -/
theorem pe_cst {X : Cx} {x : Str} {pos : Pos} {v : V} (hg : Gl X x) (h : ∃ u, X.mg x = some u ∧ RelV v u) (hd : (x == ("__debug__" : Str)) = false := by decide) : PE X (.Name x pos) (tC v) := by
  obtain ⟨u, m, r⟩ := h
  exact pe_glob hg m r hd
theorem any_two {K : PySem.W.Frag} {t a b : String} {r1 r2 : Bool} (h1 : kitB t a = some r1) (h2 : kitB t b = some r2) : PySem.W.kitAny K (.type t) [.type a, .type b] = some (r1 || r2) := by
  refine kitAny_cons (kit_ty h1) (fun e => ?_) (fun e => by rw [e]; rfl)
  refine kitAny_cons (kit_ty h2) (fun e2 => ?_) (fun e2 => by rw [e2, Bool.or_true])
  rw [e, e2]
  rfl
/-- it is a list or a tuple -/
theorem sq_ty {K : PySem.W.Frag} {H : Hp} {a : Addr} {xs : List V} (h : SqL K H a xs ∨ SqT K H a xs) : ∃ t, TyX K H (.ref a) (.type t) ∧ PySem.W.kitAny K (.type t) [.type "list", .type "tuple"] = some true := by
  rcases h with h | h
  · exact ⟨"list", tyx_l h, any_two (r1 := true) (r2 := false) (by decide +kernel) (by decide +kernel)⟩
  · exact ⟨"tuple", tyx_t h, any_two (r1 := false) (r2 := true) (by decide +kernel) (by decide +kernel)⟩
/-- (a, b, ..) = a list or a tuple of that length -/
def gSq (K : PySem.W.Frag) (n : Nat) (t : TGs) : TG := fun v σ H Q => ∃ xs, Sq K H v xs ∧ xs.length = n ∧ t xs σ H Q
theorem pg_sq {X : Cx} {es : List Expr} {k : Nat} {t : TGs} {n : Nat} {pos : Pos} (hc : X.calm = true) (h : PGs X es t)
    (hn : (assignEach es X.env).length = n := by rfl) (hst : (assignEach es X.env).findIdx? (·.1) = none := by rfl) : PG X (.Tuple es k pos) (gSq X.K n t) := by
  refine ⟨fun pins s σ H v u Q I r ⟨xs, ⟨a, e, sq⟩, l, q⟩ => ?_⟩
  rcases sq with sq | sq
  · exact (pg_unl hc h hn hst).run pins s σ H v u Q I r ⟨a, xs, e, sq, l, q⟩
  · exact (pg_tup hc h hn hst).run pins s σ H v u Q I r ⟨a, xs, e, sq, l, q⟩
/-- what is walked is a list or a tuple, of which nothing changes on the way -/
def iSqS (K : PySem.W.Frag) (te : TE) : TI := fun σ H R => te σ H fun v H1 => ∃ (a : Addr) (xs : List V) (H0 : Hp), v = .ref a ∧ (SqL K H0 a xs ∨ SqT K H0 a xs) ∧ Same H0 H1 ∧
  ∀ (J : It) (G : Hp → Prop), Walk J xs.length G (YAt xs) → (∀ H', Same H0 H' → G H') → R J H1
def iEnS (K : PySem.W.Frag) (ta : TA) : TI := fun σ H R => ta σ H fun vs H1 => ∃ (a : Addr) (xs : List V) (H0 : Hp), vs = [.ref a] ∧ (SqL K H0 a xs ∨ SqT K H0 a xs) ∧ Same H0 H1 ∧
  ∀ (J : It) (G : Hp → Prop), Walk J xs.length G (YPair (fun i => some (.int (i : Nat))) (fun i => xs[i]?)) → (∀ H', Same H0 H' → G H') → R J H1
theorem pi_sqV {X : Cx} {tg e : Expr} {i : Nat} (h : PE X e (tVar i)) : PI X tg e (iSqS X.K (tVar i)) := by
  refine ⟨fun pins s σ H R I ⟨v, ev, a, xs, H0, r, sq, sm, k⟩ => ?_⟩
  subst r
  rcases sq with sq | sq
  · exact (pi_list h).run pins s σ H R I ⟨_, ev, a, rfl, ⟨xs, sm.seq sq⟩, k _ _ walk_list fun H' e' => e'.seq sq⟩
  · exact (pi_tup h).run pins s σ H R I ⟨_, ev, a, rfl, ⟨xs, same_t sm sq⟩, k _ _ walk_tup fun H' e' => same_t e' sq⟩
theorem pi_enV {X : Cx} {e : Expr} {i : Nat} {p pos tpos : Pos} {elts : List Expr} {kk : Nat} (hg : Gl X "enumerate") (hm : X.mg "enumerate" = none) (ha : PA X [e] (tCons (tVar i) tNil)) (hs : starEach [e] X.env = [(false, eval e X.env)] := by rfl) :
    PI X (.Tuple elts kk tpos) (.Call (.Name "enumerate" p) [e] [] pos) (iEnS X.K (tCons (tVar i) tNil)) := by
  refine ⟨fun pins s σ H R I ⟨v, ev, a, xs, H0, r, sq, sm, k⟩ => ?_⟩
  obtain ⟨rfl, _⟩ := List.cons.inj r
  rcases sq with sq | sq
  · exact (pi_enum hg hm ha hs).run pins s σ H R I ⟨_, ev, a, xs, rfl, sm.seq sq, k _ _ walk_enum fun H' e' => e'.seq sq⟩
  · exact (pi_enumT hg hm ha hs).run pins s σ H R I ⟨_, ev, a, xs, rfl, same_t sm sq, k _ _ walk_enumT fun H' e' => same_t e' sq⟩
theorem iteB {b : Bool} {A B : Prop} (e : b = false) (h : B) : if b = true then A else B := by
  subst e
  exact iteF h
theorem iteA {b : Bool} {A B : Prop} (e : b = true) (h : A) : if b = true then A else B := by
  subst e
  exact iteT h
/-- d[e], d a written dict of the module -/
def tKGet (K : PySem.W.Frag) (d : Addr) (td ty : TE) : TE := fun σ H Q => td σ H fun x H1 => ty σ H1 fun y H2 => ∃ (z : Str) (u0 : Value) (v0 : V), x = .ref d ∧ y = .str z ∧ PySem.W.nsIn K d z = some (some u0) ∧ RelV v0 u0 ∧ Q v0 H2
theorem pe_kget {X : Cx} {d : Addr} {es : Array DictEntry} {n : Nat} {o i : Expr} {pos : Pos} {td ty : TE} (D : KDict X.K X.w d es n) (ho : PE X o td) (hi : PE X i ty) (hs : NoSl i) : PE X (.Subscript o i pos) (tKGet X.K d td ty) := by
  refine ⟨fun pins s σ H Q I h => ?_⟩
  refine subD_of PySem.F.slot_dict_getitem.lookup hs (thn (ho.run pins s σ H _ I h) fun u s1 ⟨x, H1, I1, rx, q1⟩ => thn (hi.run pins s1 σ H1 _ I1 q1) fun iv s2 ⟨y, H2, I2, ry, z, u0, v0, ex, ey, eq, rv, q2⟩ => ?_)
  have rx' := rx
  rw [ex] at rx'
  obtain rfl : u = Value.ref d := rx'
  exact ⟨kd_type D I2, op_item_kd D pins s2 σ H2 x y _ iv Q I2 rx ry ⟨z, u0, v0, ex, ey, eq, rv, q2⟩⟩
/-- the dict of the sorts -/
def sortsV (fs : List FD) : List (Key × V) := fs.map fun f => (.inr f.nm, .str (sortS f.many))
theorem sorts_get : ∀ {fs : List FD}, (fs.map (·.nm)).Nodup → ∀ {f : FD}, f ∈ fs → valV (sortsV fs) (.inr f.nm) = some (.str (sortS f.many))
  | [], _, f, h => by cases h
  | g :: gs, nd, f, h => by
    rw [List.map_cons, List.nodup_cons] at nd
    rcases List.mem_cons.mp h with rfl | h
    · exact valV_pos rfl
    · have ne : ¬ g.nm = f.nm := fun e => nd.1 (e ▸ List.mem_map_of_mem h)
      show valV ((.inr g.nm, .str (sortS g.many)) :: sortsV gs) (.inr f.nm) = _
      rw [valV_neg (fun e => ne (Sum.inr.inj e))]
      exact sorts_get nd.2 h
theorem call_tuple_ofK {X : Cx} {K : PySem.W.Frag} (h : X.K = K) : CallR X (.type "tuple") (fun xs H Q => ∃ p ys, xs = [.ref p] ∧ ((SqL K H p ys ∧ ∀ l, H l = none → Q (.ref l) (upd H l (.tup ys))) ∨ (SqT K H p ys ∧ Q (.ref p) H))) := by subst h; exact call_tuple_of
theorem rd_tup {K : PySem.W.Frag} {s : Addr} {H : Hp} {x : V} {ys : List V} {Q : VK} (hs : H s ≠ none) (h : Sq K (Off s H) x ys) (q : ∀ v H', Same H H' → Tu K (Off s H') v ys → Q v H') :
    ∃ p zs, [x] = [.ref p] ∧ ((SqL K H p zs ∧ ∀ l, H l = none → Q (.ref l) (upd H l (.tup zs))) ∨ (SqT K H p zs ∧ Q (.ref p) H)) := by
  obtain ⟨p, rfl, h⟩ := h
  rcases h with h | h
  · refine ⟨p, ys, rfl, .inl ⟨off_same.seq h, fun l hl => q _ _ (same_new (Same.refl H) hl) (Tu.tup ?_)⟩⟩
    rw [off_ne (fun e : l = s => hs (by rw [← e]; exact hl)), upd_same]
  · exact ⟨p, ys, rfl, .inr ⟨same_t off_same h, q _ _ (Same.refl H) ⟨p, rfl, h⟩⟩⟩
theorem rd_tupM {K : PySem.W.Frag} {s : Addr} {H : Hp} {x : V} {ys : List V} (hs : H s ≠ none) (h : Sq K (Off s H) x ys) :
    ∃ p zs, [x] = [.ref p] ∧ ((SqL K H p zs ∧ ∀ l, H l = none → Same H (upd H l (.tup zs)) ∧ Tu K (Off s (upd H l (.tup zs))) (.ref l) ys) ∨ (SqT K H p zs ∧ Same H H ∧ Tu K (Off s H) (.ref p) ys)) :=
  rd_tup (Q := fun v H' => Same H H' ∧ Tu K (Off s H') v ys) hs h fun _ _ e t => ⟨e, t⟩
theorem ne_s {s d : Addr} {H H1 : Hp} (hs : H s ≠ none) (e : Same H H1) (h : H1 d = none) : d ≠ s := fun q => by
  cases z : H s with
  | none => exact hs z
  | some o => rw [q, e _ _ z] at h; cases h
theorem kept_s {s : Addr} {H H1 : Hp} (hs : H s ≠ none) (e : Same H H1) : H1 s ≠ none := by
  cases z : H s with
  | none => exact absurd z hs
  | some o => rw [e _ _ z]; exact nofun
theorem len_sub : ∀ {xs ys : List Str}, xs.Nodup → (∀ x ∈ xs, x ∈ ys) → xs.length ≤ ys.length
  | [], _, _, _ => Nat.zero_le _
  | x :: xs, ys, nd, h => by
    rw [List.nodup_cons] at nd
    have hx := h x (List.mem_cons_self ..)
    have := len_sub (ys := ys.erase x) nd.2 fun y hy => (List.mem_erase_of_ne (fun e : y = x => nd.1 (by rw [← e]; exact hy))).mpr (h y (List.mem_cons_of_mem _ hy))
    rw [List.length_erase_of_mem hx] at this
    have := List.length_pos_of_mem hx
    rw [List.length_cons]
    omega
theorem Tu.offL {K : PySem.W.Frag} {H : Hp} {v : V} {xs : List V} {d : Addr} {ys : List V} (h : Tu K H v xs) (hd : H d = some (.lst ys)) : Tu K (Off d H) v xs := by
  obtain ⟨b, rfl, h⟩ := h
  refine ⟨b, rfl, ?_⟩
  rcases h with (h | ⟨o, h⟩) | h
  · exact .inl (.inl ((off_ne (fun e => by rw [e, hd] at h; cases h)).trans h))
  · exact .inl (.inr ⟨o, (off_ne (fun e => by rw [e, hd] at h; cases h)).trans h⟩)
  · exact .inr h
/-- nothing that is a tuple -/
def NoTup (o : HO) : Prop := (∀ ys, o ≠ .tup ys) ∧ ∀ p ys, o ≠ .frz p (.tup ys)
theorem Tu.off {K : PySem.W.Frag} {H : Hp} {v : V} {xs : List V} {d : Addr} {o : HO} (h : Tu K H v xs) (hd : H d = some o) (no : NoTup o) : Tu K (Off d H) v xs := by
  obtain ⟨b, rfl, h⟩ := h
  refine ⟨b, rfl, ?_⟩
  rcases h with (h | ⟨p, h⟩) | h
  · exact .inl (.inl ((off_ne (fun e => by rw [e, hd] at h; exact no.1 _ (Option.some.inj h))).trans h))
  · exact .inl (.inr ⟨p, (off_ne (fun e => by rw [e, hd] at h; exact no.2 _ _ (Option.some.inj h))).trans h⟩)
  · exact .inr h
theorem CdT.off {K : PySem.W.Frag} {H : Hp} {v : V} {c : CD} {d : Addr} {o : HO} (h : CdT K H v c) (hd : H d = some o) (no : NoTup o) : CdT K (Off d H) v c := by
  obtain ⟨m, dv, s, ds, h1, h2, h3, h4, h5⟩ := h
  exact ⟨m, dv, s, ds, h1.off hd no, h2.off hd no, h3.off hd no, h4.mono fun _ _ h => Tu.off h hd no, h5.off hd no⟩
theorem no_lst {xs : List V} : NoTup (.lst xs) := ⟨fun _ h => HO.noConfusion h, fun _ _ h => HO.noConfusion h⟩
theorem no_ins {C dx : Addr} {fs : List (Str × V)} : NoTup (.ins C dx fs) := ⟨fun _ h => HO.noConfusion h, fun _ _ h => HO.noConfusion h⟩
theorem no_dK {kvs : List (Key × V)} : NoTup (.dK kvs) := ⟨fun _ h => HO.noConfusion h, fun _ _ h => HO.noConfusion h⟩
theorem same_offN {A B : Hp} {d : Addr} (e : Same A B) (h : A d = none) : Same A (Off d B) := fun b o hb => by
  rw [off_ne (fun q => by rw [q, h] at hb; cases hb)]
  exact e _ _ hb
/-- the i-th turn of a dict comprehension, over anything that is walked -/
theorem dc_it {J : It} {n : Nat} {G : Hp → Prop} {Y : Nat → Hp → V → Hp → Prop} (wk : Walk J n G Y) {g : TG} {tt : TT} {tk tv : TE} {vs : List Nat} {σ : L2.St} {H1 : Hp} {D : Addr} {Qd : Hp → Prop} (Pv : Nat → Hp → Prop) (h0 : Pv 0 (upd H1 D (.dK []))) (hG : ∀ i H, i ≤ n → Pv i H → G H)
    (hs : ∀ i x H H', i < n → Pv i H → Y i H x H' → g x (wipe σ vs) H' fun σ2 H2 => wipe σ2 vs = wipe σ vs ∧ tt σ2 H2 fun b H3 =>
      if b = true then tk σ2 H3 fun y H4 => tv σ2 H4 fun z H5 => ∃ kvs k, y = kV k ∧ H5 D = some (.dK kvs) ∧ kvs.length < sizeLine ∧ Pv (i + 1) (upd H5 D (.dK (putK kvs k z))) else Pv (i + 1) H3) (hd : ∀ H, Pv n H → Qd H) :
    ∃ W : Nat → Nat → Hp → Prop, (∃ m, W 0 m (upd H1 D (.dK []))) ∧ ∀ i m H, W i m H →
      (J.stop i H ∧ Qd H) ∨ (J.go i H ∧ ∃ Nx : Hp → Prop, (∀ H', Nx H' → ∃ m', m' < m ∧ W (i + 1) m' H') ∧ ∀ x H', J.yld i H x H' → g x (wipe σ vs) H' fun σ2 H2 => wipe σ2 vs = wipe σ vs ∧ tt σ2 H2 fun b H3 =>
        if b = true then tk σ2 H3 fun y H4 => tv σ2 H4 fun z H5 => ∃ kvs k, y = kV k ∧ H5 D = some (.dK kvs) ∧ kvs.length < sizeLine ∧ Nx (upd H5 D (.dK (putK kvs k z))) else Nx H3) := by
  refine ⟨fun i m H => m + i = n ∧ Pv i H, ⟨n, rfl, h0⟩, fun i m H ⟨e, p⟩ => ?_⟩
  cases m with
  | zero =>
    have e : i = n := by omega
    subst e
    exact .inl ⟨wk.stops _ (hG _ _ (Nat.le_refl _) p), hd _ p⟩
  | succ m =>
    have lt : i < n := by omega
    have gH := hG _ _ (Nat.le_of_lt lt) p
    exact .inr ⟨wk.goes _ _ lt gH, Pv (i + 1), fun H' p' => ⟨m, Nat.lt_succ_self m, by omega, p'⟩, fun x H' y => hs i x H H' lt p (wk.yields _ _ _ _ lt gH y)⟩
theorem putK_new {kvs : List (Key × V)} {k : Key} {v : V} (h : ∀ p ∈ kvs, p.1 ≠ k) : putK kvs k v = kvs ++ [(k, v)] := by
  unfold putK
  rw [if_neg]
  intro q
  obtain ⟨p, hp, e⟩ := List.any_eq_true.mp q
  exact h p hp (of_decide_eq_true e)
/-- the places of the fields, the calls by their names -/
def spotsV (fs : List FD) : List (Key × V) := (List.range fs.length).zipWith (fun i (f : FD) => ((.inr f.nm : Key), V.int (i : Nat))) fs
def tableV (cs : List CD) (sv : List V) : List (Key × V) := List.zipWith (fun (c : CD) v => ((.inr c.nm : Key), v)) cs sv
def KdA (K : PySem.W.Frag) (KC : Addr) (H : Hp) (v : V) (fs : List FD) (n : Nat) (cs : List CD) : Prop := ∃ (x dx so sp tb : Addr) (t st : V) (tv sv : List V), v = .ref x ∧
  H x = some (.ins KC dx [("triples", t), ("sorts", .ref so), ("spots", .ref sp), ("modes", .int n), ("steps", st), ("table", .ref tb)]) ∧ Tu K H t tv ∧ Al (FdT K H) tv fs ∧ H so = some (.dK (sortsV fs)) ∧ H sp = some (.dK (spotsV fs)) ∧
  Tu K H st sv ∧ Al (CdT K H) sv cs ∧ H tb = some (.dK (tableV cs sv))
theorem KdA.keep {K : PySem.W.Frag} {KC : Addr} {H H' : Hp} {v : V} {fs : List FD} {n : Nat} {cs : List CD} (e : Same H H') (h : KdA K KC H v fs n cs) : KdA K KC H' v fs n cs := by
  obtain ⟨x, dx, so, sp, tb, t, st, tv, sv, h0, h1, h2, h3, h4, h5, h6, h7, h8⟩ := h
  exact ⟨x, dx, so, sp, tb, t, st, tv, sv, h0, e _ _ h1, h2.keep e, h3.mono fun _ _ h => FdT.keep e h, e _ _ h4, e _ _ h5, h6.keep e, h7.mono fun _ _ h => CdT.keep e h, e _ _ h8⟩
theorem lt_sing (a b : Nat) : (decide ([a] < [b])) = decide (a < b) := by
  rw [Bool.eq_iff_iff, decide_eq_true_iff, decide_eq_true_iff]
  constructor
  · intro h
    cases h with
    | rel h => exact h
    | cons h => cases h
  · intro h
    exact List.Lex.rel h
theorem letter_le (c : Nat) : (!decide ((⟨#[c]⟩ : Str).cps.toList < ("a" : Str).cps.toList)) = decide (97 ≤ c) := by
  show (!decide ([c] < [97])) = _
  rw [lt_sing, Bool.eq_iff_iff]
  simp
theorem letter_ge (c : Nat) : (!decide (("z" : Str).cps.toList < (⟨#[c]⟩ : Str).cps.toList)) = decide (c ≤ 122) := by
  show (!decide ([122] < [c])) = _
  rw [lt_sing, Bool.eq_iff_iff]
  simp
theorem letters_take (xs : List Nat) (i : Nat) (c : Nat) (h : xs[i]? = some c) : (xs.take (i + 1)).map letterB = (xs.take i).map letterB ++ [letterB c] := by
  rw [List.take_succ, h]
  simp
end MK
set_option Elab.async false
set_option linter.all false
set_option autoImplicit false
set_option maxRecDepth 100000
set_option maxHeartbeats 400000
namespace MK
open PySem PySem.Spec PyProof.Rows L2
theorem put_take {full : List (Key × V)} {i : Nat} {k : Key} {v : V} (nd : (full.map (·.1)).Nodup) (h : full[i]? = some (k, v)) : putK (full.take i) k v = full.take (i + 1) := by
  rw [List.take_succ, h]
  refine putK_new fun p hp e => ?_
  obtain ⟨j, hj⟩ := List.mem_iff_getElem?.mp hp
  rw [List.getElem?_take] at hj
  split at hj
  · rename_i lt
    obtain ⟨hjl, ej⟩ := List.getElem?_eq_some_iff.mp hj
    obtain ⟨hil, ei⟩ := List.getElem?_eq_some_iff.mp h
    refine List.pairwise_iff_getElem.mp nd j i (by simpa using hjl) (by simpa using hil) lt ?_
    rw [List.getElem_map, List.getElem_map, ej, ei]
    exact e
  · cases hj
theorem inr_nodup : ∀ {zs : List Str}, zs.Nodup → (zs.map (Sum.inr : Str → Key)).Nodup
  | [], _ => List.nodup_nil
  | z :: zs, h => by
    rw [List.nodup_cons] at h
    rw [List.map_cons, List.nodup_cons]
    refine ⟨fun m => ?_, inr_nodup h.2⟩
    obtain ⟨y, hy, e⟩ := List.mem_map.mp m
    exact h.1 (Sum.inr.inj e ▸ hy)
theorem sorts_nd {fs : List FD} (h : (fs.map (·.nm)).Nodup) : ((sortsV fs).map (·.1)).Nodup := by
  have := inr_nodup h
  rw [List.map_map] at this
  unfold sortsV
  rw [List.map_map]
  exact this
theorem zip_keys {α β : Type} (g : α → β → Key × V) (q : β → Key) (e : ∀ a b, (g a b).1 = q b) : ∀ (as : List α) (bs : List β), as.length = bs.length → (List.zipWith g as bs).map (·.1) = bs.map q
  | [], [], _ => rfl
  | a :: as, b :: bs, h => by
    rw [List.zipWith_cons_cons, List.map_cons, List.map_cons, e, zip_keys g q e as bs (by simpa using h)]
  | [], _ :: _, h => by simp at h
  | _ :: _, [], h => by simp at h
theorem spots_nd {fs : List FD} (h : (fs.map (·.nm)).Nodup) : ((spotsV fs).map (·.1)).Nodup := by
  have := inr_nodup h
  rw [List.map_map] at this
  unfold spotsV
  rw [zip_keys _ (fun f => Sum.inr f.nm) (fun _ _ => rfl) _ _ (by rw [List.length_range])]
  exact this
theorem zip_keys2 {α β : Type} (g : α → β → Key × V) (q : α → Key) (e : ∀ a b, (g a b).1 = q a) : ∀ (as : List α) (bs : List β), as.length = bs.length → (List.zipWith g as bs).map (·.1) = as.map q
  | [], [], _ => rfl
  | a :: as, b :: bs, h => by
    rw [List.zipWith_cons_cons, List.map_cons, List.map_cons, e, zip_keys2 g q e as bs (by simpa using h)]
  | [], _ :: _, h => by simp at h
  | _ :: _, [], h => by simp at h
theorem table_nd {cs : List CD} {sv : List V} (h : (cs.map (·.nm)).Nodup) (l : sv.length = cs.length) : ((tableV cs sv).map (·.1)).Nodup := by
  have := inr_nodup h
  rw [List.map_map] at this
  unfold tableV
  rw [zip_keys2 _ (fun c => Sum.inr c.nm) (fun _ _ => rfl) _ _ l.symm]
  exact this
theorem sorts_at {fs : List FD} {i : Nat} {f : FD} (h : fs[i]? = some f) : (sortsV fs)[i]? = some (.inr f.nm, .str (sortS f.many)) := by
  unfold sortsV
  rw [List.getElem?_map, h]
  rfl
theorem spots_at {fs : List FD} {i : Nat} {f : FD} (h : fs[i]? = some f) : (spotsV fs)[i]? = some (.inr f.nm, .int (i : Nat)) := by
  unfold spotsV
  have hi := (List.getElem?_eq_some_iff.mp h).1
  rw [List.getElem?_zipWith, h, List.getElem?_range hi]
theorem table_at {cs : List CD} {sv : List V} {i : Nat} {c : CD} {v : V} (h : cs[i]? = some c) (hv : sv[i]? = some v) : (tableV cs sv)[i]? = some (.inr c.nm, v) := by
  unfold tableV
  rw [List.getElem?_zipWith, h, hv]
theorem sorts_len (fs : List FD) : (sortsV fs).length = fs.length := List.length_map ..
theorem spots_len (fs : List FD) : (spotsV fs).length = fs.length := by
  unfold spotsV
  rw [List.length_zipWith, List.length_range, Nat.min_self]
theorem table_len {cs : List CD} {sv : List V} (l : sv.length = cs.length) : (tableV cs sv).length = cs.length := by
  unfold tableV
  rw [List.length_zipWith, l, Nat.min_self]
/-- a new list -/
def LsN (H0 H : Hp) (v : V) (xs : List V) : Prop := ∃ a, v = .ref a ∧ H0 a = none ∧ H a = some (.lst xs)
theorem LsN.ls {H0 H : Hp} {v : V} {xs : List V} (h : LsN H0 H v xs) : Ls H v xs := by
  obtain ⟨a, e, _, h⟩ := h
  exact ⟨a, e, h⟩
theorem LsN.keep {H0 H H' : Hp} {v : V} {xs : List V} (e : Same H H') (h : LsN H0 H v xs) : LsN H0 H' v xs := by
  obtain ⟨a, r, n, h⟩ := h
  exact ⟨a, r, n, e _ _ h⟩
theorem LsN.off {H0 H : Hp} {v : V} {xs : List V} {d : Addr} {o : HO} (h : LsN H0 H v xs) (hd : H0 d = some o) : LsN H0 (Off d H) v xs := by
  obtain ⟨a, r, n, h⟩ := h
  exact ⟨a, r, n, (off_ne (fun e => by rw [e, hd] at n; cases n)).trans h⟩
/-- a drawn call whose lists are new -/
def CdN (K : PySem.W.Frag) (H0 H : Hp) (v : V) (c : CD) : Prop := ∃ m d s ds, Tu K H v [.str c.nm, .str c.hand, m, d, s] ∧ LsN H0 H m (c.moves.map V.int) ∧ LsN H0 H d ds ∧ Al (DeT K H) ds c.deeds ∧ LsN H0 H s (c.same.map V.str)
theorem CdN.l {K : PySem.W.Frag} {H0 H : Hp} {v : V} {c : CD} (h : CdN K H0 H v c) : CdL K H v c := by
  obtain ⟨m, d, s, ds, h1, h2, h3, h4, h5⟩ := h
  exact ⟨m, d, s, ds, h1, h2.ls, h3.ls, h4, h5.ls⟩
theorem CdN.off {K : PySem.W.Frag} {H0 H : Hp} {v : V} {c : CD} {d : Addr} {xs ys : List V} (h : CdN K H0 H v c) (h0 : H0 d = some (.lst xs)) (hd : H d = some (.lst ys)) : CdN K H0 (Off d H) v c := by
  obtain ⟨m, dv, s, ds, h1, h2, h3, h4, h5⟩ := h
  exact ⟨m, dv, s, ds, h1.off hd no_lst, h2.off h0, h3.off h0, h4.mono fun _ _ h => Tu.off h hd no_lst, h5.off h0⟩
end MK
set_option Elab.async false
set_option linter.all false
set_option autoImplicit false
set_option maxRecDepth 100000
set_option maxHeartbeats 400000
/-! x in o, o of an own class with its own __contains__ -/
namespace MK
open PySem PySem.Spec PyProof.Rows L2
def rInOwn (C : Addr) (sp : Sp) (neg : Bool) : R2 := fun x y H Q => ∃ a dx fs, y = .ref a ∧ H a = some (.ins C dx fs) ∧ sp [y, x] H (fun v H' => ∃ b, v = .bl b ∧ Q (.bl (if neg then !b else b)) H') E0
section
variable {X : Cx} {C f : Addr} {fd : FuncData} {ps : List Str} {k : Nat} {sp : Sp}
theorem op_inOwn (F : FnOk X.prog X.w X.K X.mg X.base CX0 k f fd ps sp) (hs : PySem.W.findIn X.K (.ref C) "__contains__" = some (some (.ref f))) (hf : PySem.W.isFn X.K (.ref f) = true) (hb : Binds X.K fd ps []) (hr : Room k X.A) : OpR X (compareOp .In) (rInOwn C sp false) := by
  intro pins s σ H x y v u Q I rx ry ⟨a, dx, fs, ey, ha, h⟩
  subst ey
  cases ry
  obtain ⟨mA, J, _⟩ := ins_get I.hok ha
  obtain ⟨od, J, _⟩ := J.look
  obtain ⟨m, hF⟩ := I.fr
  refine PySem.W.in_K hF I.ok.mod.kin J hs hf ?_
  have r2 : Vals [V.ref a, x] [Value.ref a, v] := .cons rfl (.cons rx .nil)
  refine thn (run_fn F hr hb .nil pass0 I r2 h) fun w s1 ⟨z, H1, I1, rz, b, ez, q⟩ => ?_
  subst ez
  cases rz
  exact wpAny_truthy_bool ⟨.bl b, H1, I1, rfl, q⟩
theorem op_notInOwn (F : FnOk X.prog X.w X.K X.mg X.base CX0 k f fd ps sp) (hs : PySem.W.findIn X.K (.ref C) "__contains__" = some (some (.ref f))) (hf : PySem.W.isFn X.K (.ref f) = true) (hb : Binds X.K fd ps []) (hr : Room k X.A) : OpR X (compareOp .NotIn) (rInOwn C sp true) := by
  intro pins s σ H x y v u Q I rx ry ⟨a, dx, fs, ey, ha, h⟩
  subst ey
  cases ry
  obtain ⟨mA, J, _⟩ := ins_get I.hok ha
  obtain ⟨od, J, _⟩ := J.look
  obtain ⟨m, hF⟩ := I.fr
  refine PySem.W.notIn_K hF I.ok.mod.kin J hs hf ?_
  have r2 : Vals [V.ref a, x] [Value.ref a, v] := .cons rfl (.cons rx .nil)
  refine thn (run_fn F hr hb .nil pass0 I r2 h) fun w s1 ⟨z, H1, I1, rz, b, ez, q⟩ => ?_
  subst ez
  cases rz
  exact wpAny_truthy_bool ⟨.bl (!b), H1, I1, rfl, q⟩
end
end MK
set_option Elab.async false
set_option linter.all false
set_option autoImplicit false
set_option maxRecDepth 100000
set_option maxHeartbeats 400000
/-! fields and calls as deep data, compared -/
namespace MK
open PySem PySem.Spec PyProof.Rows L2
theorem dp_map {α : Type} {K : PySem.W.Frag} {H : Hp} {R : V → α → Prop} {g : α → PyData} (h : ∀ x y, R x y → Dp K H x (g y)) : ∀ {xs : List V} {ys : List α}, Al R xs ys → DpAll K H xs (ys.map g)
  | [], [], _ => .nil
  | [], _ :: _, e => by cases e.1
  | _ :: _, [], e => by cases e.1
  | x :: xs, y :: ys, e => .cons (h x y (e.2 0 x y rfl rfl)) (dp_map h ⟨Nat.succ.inj e.1, fun i u v h1 h2 => e.2 (i + 1) u v h1 h2⟩)
theorem lay_map {α : Type} {g : α → PyData} : ∀ (ys : List α), (∀ y ∈ ys, PyData.canLay0 (g y) = true) → PyData.canLayAll0 (ys.map g) = true
  | [], _ => rfl
  | y :: ys, h => by
    rw [List.map_cons]
    unfold PyData.canLayAll0
    rw [h y (List.mem_cons_self ..), Bool.true_and]
    exact lay_map ys fun z hz => h z (List.mem_cons_of_mem _ hz)
theorem depth_map {α : Type} {g : α → PyData} {d : Nat} (h : ∀ y, PyData.depth (g y) ≤ d) : ∀ (ys : List α), PyData.depthAll (ys.map g) ≤ d
  | [] => Nat.zero_le _
  | y :: ys => by
    rw [List.map_cons]
    unfold PyData.depthAll
    exact Nat.max_le.mpr ⟨h y, depth_map h ys⟩
theorem eqv_map {α : Type} [DecidableEq α] {g : α → PyData} (h : ∀ x y, PyData.eqv (g x) (g y) = decide (x = y)) : ∀ (xs ys : List α), PyData.eqvAll (xs.map g) (ys.map g) = decide (xs = ys)
  | [], [] => rfl
  | [], _ :: _ => rfl
  | _ :: _, [] => rfl
  | x :: xs, y :: ys => by
    rw [List.map_cons, List.map_cons]
    unfold PyData.eqvAll
    rw [h x y, eqv_map h xs ys, Bool.eq_iff_iff]
    simp
def pdF (f : FD) : PyData := .tuple [.str f.nm, .str (sortS f.many), .bool f.need]
def pdD (d : Str × Str) : PyData := .tuple [.str d.1, .str d.2]
def pdC (c : CD) : PyData := .tuple [.str c.nm, .str c.hand, .tuple (c.moves.map PyData.int), .tuple (c.deeds.map pdD), .tuple (c.same.map PyData.str)]
theorem dp_f {K : PySem.W.Frag} {H : Hp} {v : V} {f : FD} (h : FdT K H v f) : Dp K H v (pdF f) := by
  obtain ⟨a, rfl, h⟩ := h
  exact .tup h (.cons (.str _) (.cons (.str _) (.cons (.bl _) .nil)))
theorem dp_d {K : PySem.W.Frag} {H : Hp} {v : V} {d : Str × Str} (h : DeT K H v d) : Dp K H v (pdD d) := by
  obtain ⟨a, rfl, h⟩ := h
  exact .tup h (.cons (.str _) (.cons (.str _) .nil))
theorem dp_ints {K : PySem.W.Frag} {H : Hp} : ∀ zs : List Int, DpAll K H (zs.map V.int) (zs.map PyData.int)
  | [] => .nil
  | z :: zs => .cons (.int z) (dp_ints zs)
theorem dp_c {K : PySem.W.Frag} {H : Hp} {v : V} {c : CD} (h : CdT K H v c) : Dp K H v (pdC c) := by
  obtain ⟨m, d, s, ds, ⟨a, rfl, h1⟩, ⟨b, rfl, h2⟩, ⟨e, rfl, h3⟩, h4, ⟨g, rfl, h5⟩⟩ := h
  exact .tup h1 (.cons (.str _) (.cons (.str _) (.cons (.tup h2 (dp_ints _)) (.cons (.tup h3 (dp_map (fun _ _ h => dp_d h) h4)) (.cons (.tup h5 (dp_strs _)) .nil)))))
theorem sort_inj {a b : Bool} (h : sortS a = sortS b) : a = b := by
  cases a <;> cases b <;> first | rfl | exact absurd h (by decide)
theorem eqv_f (f g : FD) : PyData.eqv (pdF f) (pdF g) = decide (f = g) := by
  obtain ⟨n1, m1, d1⟩ := f
  obtain ⟨n2, m2, d2⟩ := g
  rw [Bool.eq_iff_iff, decide_eq_true_iff]
  simp only [pdF, PyData.eqv, PyData.eqvAll, Bool.and_eq_true, beq_iff_eq, Bool.true_and, Bool.and_true, FD.mk.injEq]
  constructor
  · rintro ⟨h1, h2, h3⟩
    exact ⟨h1, sort_inj h2, h3⟩
  · rintro ⟨h1, h2, h3⟩
    exact ⟨h1, by rw [h2], h3⟩
theorem eqv_d (c d : Str × Str) : PyData.eqv (pdD c) (pdD d) = decide (c = d) := by
  obtain ⟨n1, m1⟩ := c
  obtain ⟨n2, m2⟩ := d
  rw [Bool.eq_iff_iff, decide_eq_true_iff]
  simp only [pdD, PyData.eqv, PyData.eqvAll, Bool.and_eq_true, beq_iff_eq, Bool.and_true, Prod.mk.injEq]
theorem eqv_ints (x y : Int) : PyData.eqv (.int x) (.int y) = decide (x = y) := by
  rw [Bool.eq_iff_iff, decide_eq_true_iff]
  simp only [PyData.eqv, beq_iff_eq]
theorem eqv_strs (x y : Str) : PyData.eqv (.str x) (.str y) = decide (x = y) := by
  rw [Bool.eq_iff_iff, decide_eq_true_iff]
  simp only [PyData.eqv, beq_iff_eq]
theorem eqv_c (c d : CD) : PyData.eqv (pdC c) (pdC d) = decide (c = d) := by
  obtain ⟨n1, h1, m1, d1, s1⟩ := c
  obtain ⟨n2, h2, m2, d2, s2⟩ := d
  rw [Bool.eq_iff_iff, decide_eq_true_iff]
  simp only [pdC, PyData.eqv, PyData.eqvAll, Bool.and_eq_true, beq_iff_eq, Bool.and_true, CD.mk.injEq, eqv_map eqv_ints, eqv_map eqv_d, eqv_map eqv_strs, decide_eq_true_iff]
end MK
set_option Elab.async false
set_option linter.all false
set_option autoImplicit false
set_option maxRecDepth 100000
set_option maxHeartbeats 400000
namespace MK
open PySem PySem.Spec PyProof.Rows L2
theorem word_ok {z : Str} (h : wordB z = true) : PyData.strOk z = true := by
  unfold wordB at h
  have h2 := (Bool.and_eq_true_iff.mp h).2
  unfold PyData.strOk
  rw [← Array.all_toList, List.all_eq_true]
  intro c hc
  have := (List.all_eq_true.mp h2) c hc
  unfold letterB at this
  have h3 := of_decide_eq_true (Bool.and_eq_true_iff.mp this).2
  exact decide_eq_true (by omega)
theorem sort_ok (b : Bool) : PyData.strOk (sortS b) = true := by cases b <;> decide +kernel
theorem hand_ok {z : Str} (h : z = "self" ∨ z = "new" ∨ z = "last") : PyData.strOk z = true := by
  rcases h with rfl | rfl | rfl <;> decide +kernel
theorem deed_ok {z : Str} {b : Bool} (h : b ∈ deedSorts z) : PyData.strOk z = true := by
  unfold deedSorts at h
  split at h
  · rename_i e; rw [e]; decide +kernel
  split at h
  · rename_i e; rw [e]; decide +kernel
  split at h
  · rename_i e; rw [e]; decide +kernel
  split at h
  · rename_i e; rw [e]; decide +kernel
  split at h
  · rename_i e; rw [e]; decide +kernel
  · cases h
theorem lay_f {f : FD} (h : wordB f.nm = true) : PyData.canLay0 (pdF f) = true := by
  simp only [pdF, PyData.canLay0, PyData.canLayAll0, word_ok h, sort_ok, Bool.and_true]
theorem ints_lay : ∀ zs : List Int, PyData.canLayAll0 (zs.map PyData.int) = true := fun zs => lay_map zs fun _ _ => rfl
theorem lay_c {fs : List FD} {n : Nat} {c : CD} (fok : FsOk fs) (h : CdOk fs n c) : PyData.canLay0 (pdC c) = true := by
  have w : ∀ z ∈ c.same, PyData.strOk z = true := fun z hz => by
    obtain ⟨f, hf, rfl, _⟩ := h.same z hz
    exact word_ok (fok.word f hf)
  have d : ∀ e ∈ c.deeds, PyData.canLay0 (pdD e) = true := fun e he => by
    obtain ⟨f, hf, e2, hd⟩ := h.deed e he
    have h2 : PyData.strOk e.2 = true := by
      rw [← e2]
      exact word_ok (fok.word f hf)
    simp only [pdD, PyData.canLay0, PyData.canLayAll0, deed_ok hd, h2, Bool.and_true]
  simp only [pdC, PyData.canLay0, PyData.canLayAll0, word_ok h.word, hand_ok h.hand, ints_lay, lay_map c.deeds d, strs_lay c.same w, Bool.and_true]
theorem depth_f (f : FD) : PyData.depth (pdF f) ≤ 1 := by
  simp only [pdF, PyData.depth, PyData.depthAll]
  decide
theorem depth_d (d : Str × Str) : PyData.depth (pdD d) ≤ 1 := by
  simp only [pdD, PyData.depth, PyData.depthAll]
  decide
theorem ints_depth (zs : List Int) : PyData.depthAll (zs.map PyData.int) ≤ 0 := depth_map (g := PyData.int) (d := 0) (fun _ => by unfold PyData.depth; exact Nat.le_refl _) zs
theorem depth_c (c : CD) : PyData.depth (pdC c) ≤ 4 := by
  have h1 := ints_depth c.moves
  have h2 := depth_map depth_d c.deeds
  have h3 := strs_depth c.same
  simp only [pdC, PyData.depth, PyData.depthAll]
  omega
theorem shaped_fs {fs : List FD} (h : FsOk fs) : SeqAt.shaped (.tuple (fs.map pdF)) = true := by
  have h1 := lay_map fs fun f hf => lay_f (h.word f hf)
  have h2 := depth_map depth_f fs
  unfold SeqAt.shaped
  rw [show PyData.canLay0 (.tuple (fs.map pdF)) = true by unfold PyData.canLay0; exact h1, decide_eq_true (by unfold PyData.depth; omega)]
  rfl
theorem shaped_cs {fs : List FD} {n : Nat} {cs : List CD} (fok : FsOk fs) (h : ∀ c ∈ cs, CdOk fs n c) : SeqAt.shaped (.tuple (cs.map pdC)) = true := by
  have h1 := lay_map cs fun c hc => lay_c fok (h c hc)
  have h2 := depth_map depth_c cs
  unfold SeqAt.shaped
  rw [show PyData.canLay0 (.tuple (cs.map pdC)) = true by unfold PyData.canLay0; exact h1, decide_eq_true (by unfold PyData.depth; omega)]
  rfl
theorem eqv_fs (fs gs : List FD) : PyData.eqv (.tuple (fs.map pdF)) (.tuple (gs.map pdF)) = decide (fs = gs) := by
  unfold PyData.eqv
  exact eqv_map eqv_f fs gs
theorem eqv_cs (cs ds : List CD) : PyData.eqv (.tuple (cs.map pdC)) (.tuple (ds.map pdC)) = decide (cs = ds) := by
  unfold PyData.eqv
  exact eqv_map eqv_c cs ds
theorem dp_fs {K : PySem.W.Frag} {H : Hp} {v : V} {tv : List V} {fs : List FD} (h : Tu K H v tv) (al : Al (FdT K H) tv fs) : Dp K H v (.tuple (fs.map pdF)) := by
  obtain ⟨a, rfl, h⟩ := h
  exact .tup h (dp_map (fun _ _ h => dp_f h) al)
theorem dp_cs {K : PySem.W.Frag} {H : Hp} {v : V} {tv : List V} {cs : List CD} (h : Tu K H v tv) (al : Al (CdT K H) tv cs) : Dp K H v (.tuple (cs.map pdC)) := by
  obtain ⟨a, rfl, h⟩ := h
  exact .tup h (dp_map (fun _ _ h => dp_c h) al)
end MK
set_option Elab.async false
set_option linter.all false
set_option autoImplicit false
set_option maxRecDepth 100000
set_option maxHeartbeats 400000
/-! x == y of own instances, both answers -/
namespace MK
open PySem PySem.Spec PyProof.Rows L2
def rEqOwn (C : Addr) (sp : Sp) : R2 := fun x y H Q => ∃ a dx fs b dy gs, x = .ref a ∧ y = .ref b ∧ H a = some (.ins C dx fs) ∧ H b = some (.ins C dy gs) ∧ sp [x, y] H (fun v H' => ∃ r, v = .bl r ∧ Q v H') E0
theorem op_eqOwn {X : Cx} {C f : Addr} {fd : FuncData} {ps : List Str} {k : Nat} {sp : Sp} (F : FnOk X.prog X.w X.K X.mg X.base CX0 k f fd ps sp) (hs : PySem.W.findIn X.K (.ref C) "__eq__" = some (some (.ref f))) (hf : PySem.W.isFn X.K (.ref f) = true) (hb : Binds X.K fd ps []) (hr : Room k X.A) :
    OpR X (compareOp .Eq) (rEqOwn C sp) := by
  intro pins s σ H x y v u Q I rx ry ⟨a, dx, fs, b, dy, gs, ex, ey, ha, hb', h⟩
  subst ex
  subst ey
  cases rx
  cases ry
  obtain ⟨mA, J, _⟩ := ins_get I.hok ha
  obtain ⟨mB, J', _⟩ := ins_get I.hok hb'
  obtain ⟨od, J, _⟩ := J.look
  obtain ⟨od', J', _⟩ := J'.look
  obtain ⟨m, hF⟩ := I.fr
  refine PySem.W.cmp_K (op := .Eq) (tb := .ref C) hr.units0 hF I.ok.mod.kin J J'.type (by simp [PySem.W.notFirst]) hs hf ?_
  have r2 : Vals [V.ref a, V.ref b] [Value.ref a, Value.ref b] := .cons rfl (.cons rfl .nil)
  refine thn (run_fn F hr hb .nil pass0 I r2 h) fun w s1 ⟨z, H1, I1, rz, r, ez, q⟩ => ?_
  subst ez
  cases rz
  exact ⟨.bl r, H1, I1, rfl, q⟩
end MK
set_option Elab.async false
set_option linter.all false
set_option autoImplicit false
set_option maxRecDepth 100000
set_option maxHeartbeats 400000
/-! x != y of own instances with an own __eq__ and no __ne__ -/
namespace PySem.W
open PySem PySem.Spec PySem.Calls PyProof.Rows
section
variable {prog : Program} {w : World} {A : Around} {E : Value → Shared → Prop} {s : Shared} {K : Frag} {x C f : Addr} {ox : Obj} {od : Option Obj} {h₀ : Heap} {L : Addr} {m : Str → Option Value} {b tb : Value}
theorem ne_ownK {Q : Value → Shared → Prop} (hu : A.units + 1 < cLine) (Fh : Fr h₀ L s.heap m) (X₀ : K.In h₀) (I : InstAt s.heap x ox C od) (hb : Looks (model prog w) s.heap (typeOf b) tb) (hn : notFirst K C tb = true)
    (hs : findIn K (.ref C) "__ne__" = some (some (.builtin "object.__ne__"))) (he : findIn K (.ref C) "__eq__" = some (some (.ref f))) (hf : isFn K (.ref f) = true) (ho : subIn K (.ref C) (.type "object") = some true)
    (h : wpAny (model prog w) A.in1 (call (.ref f) [.ref x, b]) (fun v s' => ∃ r, v = .bool r ∧ Q (.bool (!r)) s') E s) : wpAny (model prog w) A (richCompare .NotEq (.ref x) b) Q E s := by
  have X := X₀.keeps Fh.keep
  have entry : wpAny (model prog w) A.in1 (Builtin.«object.__ne__» ⟨[.ref x, b], []⟩) (fun fin s' => ∃ r, fin = .done (.ret (.bool r)) ∧ Q (.bool r) s') E s := by
    unfold Builtin.«object.__ne__»
    refine wpAny_bind (wpAny_of_eq (a := ((Value.ref x : Value), [b])) (by first | rfl | (simp only [slotArgs]; rfl)) ?_)
    refine wpAny_bind (wpAny_cRoomFor hu ?_)
    refine wpAny_bind (ifBound_K X I he hf (wpAny_mono h (fun v s' hv => ?_) fun _ _ e => e))
    obtain ⟨r, rfl, q⟩ := hv
    refine wpAny_bind (wpAny_truthy_bool ?_)
    exact wpAny_pure ⟨_, rfl, q⟩
  have one : wpAny (model prog w) A (tryCompare (.ref x) "__ne__" b) (fun r s' => ∃ v, r = some v ∧ Q v s') E s := by
    unfold tryCompare
    refine wpAny_bind ?_
    simp only [callSpecialIfBound?, bindSpecialIfBound?]
    refine wpAny_holding (wpAny_bind (wpAny_bind (wpAny_bind (I.type.here ((looks_findIn X hs).here ?_)))))
    simp only [PySem.F.cmp_object.ne.bind]
    refine wpAny_bind (wpAny_askSetting (wpAny_ite ?_))
    have fin : wpAny (model prog w) A (call (.builtin "object.__ne__") ([.ref x] ++ [b]) >>= fun v => pure (some v)) (fun r s' => wpAny (model prog w) A (match r with
      | some .notImplemented | none => pure none
      | some r => pure (some r) : Sem (Option Value)) (fun r s' => ∃ v, r = some v ∧ Q v s') E s') E s := by
      refine wpAny_bind (wpAny_call (codeAny_call_builtin PySem.F.cmp_object.ne.plain PySem.F.cmpEntry_ne ?_))
      refine check_slot PySem.F.cmpKind_ne PySem.F.cmpSplit_ne (I.type.andThen (looks_subIn X ho)) (PySem.F.cmpArgs_ne _ _) ?_
      refine wpAny_mono entry (fun fin s' hv => ?_) fun _ _ e => e
      obtain ⟨r, rfl, q⟩ := hv
      exact wpAny_pure (wpAny_pure ⟨_, rfl, q⟩)
    split
    · exact wpAny_bind (wpAny_pure (wpAny_pure fin))
    · exact wpAny_tryCatch (wpAny_bind (wpAny_pure (wpAny_pure fin)))
  unfold richCompare
  simp only [oneThing_ref]
  refine wpAny_holding (wpAny_bind (wpAny_cRoomFor (Nat.lt_of_succ_lt hu) ?_))
  refine wpAny_bind (I.type.here (wpAny_bind (hb.here ?_)))
  split
  · rename_i q
    have e : subIn K tb (.ref C) = some false := by
      rcases Bool.or_eq_true_iff.mp hn with e | e
      · rw [beq_iff_eq.mp e] at q; simp at q
      · exact beq_iff_eq.mp e
    refine wpAny_bind ((looks_subIn X e).here ?_)
    simp only [Bool.false_eq_true, if_false]
    refine wpAny_bind (wpAny_mono one (fun r s' z => ?_) fun _ _ e => e)
    obtain ⟨v, rfl, hq⟩ := z
    exact wpAny_pure hq
  · refine wpAny_bind (wpAny_pure ?_)
    simp only [Bool.false_eq_true, if_false]
    refine wpAny_bind (wpAny_mono one (fun r s' z => ?_) fun _ _ e => e)
    obtain ⟨v, rfl, hq⟩ := z
    exact wpAny_pure hq
end
end PySem.W

namespace MK
open PySem PySem.Spec PyProof.Rows L2
def rNeOwn (C : Addr) (sp : Sp) : R2 := fun x y H Q => ∃ a dx fs b dy gs, x = .ref a ∧ y = .ref b ∧ H a = some (.ins C dx fs) ∧ H b = some (.ins C dy gs) ∧ sp [x, y] H (fun v H' => ∃ r, v = .bl r ∧ Q (.bl (!r)) H') E0
theorem op_neOwn {X : Cx} {C f : Addr} {fd : FuncData} {ps : List Str} {k : Nat} {sp : Sp} (F : FnOk X.prog X.w X.K X.mg X.base CX0 k f fd ps sp) (hn : PySem.W.findIn X.K (.ref C) "__ne__" = some (some (.builtin "object.__ne__"))) (hs : PySem.W.findIn X.K (.ref C) "__eq__" = some (some (.ref f)))
    (hf : PySem.W.isFn X.K (.ref f) = true) (ho : PySem.W.subIn X.K (.ref C) (.type "object") = some true) (hb : Binds X.K fd ps []) (hr : Room (k + 1) X.A) :
    OpR X (compareOp .NotEq) (rNeOwn C sp) := by
  intro pins s σ H x y v u Q I rx ry ⟨a, dx, fs, b, dy, gs, ex, ey, ha, hb', h⟩
  subst ex
  subst ey
  cases rx
  cases ry
  obtain ⟨mA, J, _⟩ := ins_get I.hok ha
  obtain ⟨mB, J', _⟩ := ins_get I.hok hb'
  obtain ⟨od, J, _⟩ := J.look
  obtain ⟨od', J', _⟩ := J'.look
  obtain ⟨m, hF⟩ := I.fr
  refine PySem.W.ne_ownK (tb := .ref C) (by have := hr.un; omega) hF I.ok.mod.kin J J'.type (by simp [PySem.W.notFirst]) hn hs hf ho ?_
  have r2 : Vals [V.ref a, V.ref b] [Value.ref a, Value.ref b] := .cons rfl (.cons rfl .nil)
  have hl : [Value.ref a, Value.ref b].length = ps.length := by rw [← r2.length]; exact F.len _ _ _ _ h
  refine wpAny_call (codeAny_mono (F.run X.A.in1 X.stack s H ⟨[.ref a, .ref b], []⟩ _ _ _ E0 hr.in1 I.env0.in1 (by have := hb s [.ref a, .ref b] I.kIn (by rw [List.append_nil]; exact hl); rw [List.append_nil] at this; exact this) r2 h) fun r s' hq => ?_)
  cases r with
  | error e => exact False.elim hq
  | ok fl =>
    cases fl with
    | ret u =>
      obtain ⟨v, H1, I1, rz, r, ez, q⟩ := I.after hq
      subst ez
      cases rz
      exact ⟨r, rfl, .bl (!r), H1, I1, rfl, q⟩
    | next => exact False.elim hq
    | brk => exact False.elim hq
    | cont => exact False.elim hq
end MK
set_option Elab.async false
set_option linter.all false
set_option autoImplicit false
set_option maxRecDepth 100000
set_option maxHeartbeats 400000
/-! a str is no dict; x not in a tuple of texts, for any x -/
namespace PySem.SeqAt
open AutoSeq1 (wpAny_loadPart')
open MeetsSeq MeetsSeq2 MeetsSeq3 SeqRoads2
section
variable {A : Around} {s : Shared}
theorem dict_eq_declines_str (l : Addr) (es : Array DictEntry) (n : Nat) (dd : Option Addr) (sl : Array (Option Value)) (b : Str) (u : Tok) :
    Meets (Builtin.«dict.__eq__» ⟨[.ref l, .str b u], []⟩) (fun _ R s => s.heap.get? l = some { cls := .type "dict", dict := dd, data := .dict es n, slots := sl } ∧ R (.ok (.ret .notImplemented)) s) :=
  .of_wp fun prog w A R s h => by obtain ⟨hp, g, d, tk, os⟩ := s; obtain ⟨hl, h⟩ := h; have f1 := F.sub_str_dict; wp_walk using wpAny_loadPart' hl, wpAny_load hl; exact ⟨_, rfl, h⟩
theorem str_eq_declines_dict (b : Str) (u : Tok) (l : Addr) (c : Value) (es : Array DictEntry) (n : Nat) (dd : Option Addr) (sl : Array (Option Value)) :
    Meets (Builtin.«str.__eq__» ⟨[.str b u, .ref l], []⟩) (fun _ R s => s.heap.get? l = some { cls := c, dict := dd, data := .dict es n, slots := sl } ∧ R (.ok (.ret .notImplemented)) s) :=
  .of_wp fun prog w A R s h => by obtain ⟨hp, g, d, tk, os⟩ := s; obtain ⟨hl, h⟩ := h; wp_walk using wpAny_loadPart' hl, wpAny_load hl; exact ⟨_, rfl, h⟩
theorem RcAt.str_dict {l : Addr} {o : Obj} {es : Array DictEntry} {n : Nat} (b : Str) (u : Tok) (ho : s.heap.get? l = some o) (hx : o.cls = .type "dict") (hd : o.data = .dict es n) (hu : A.units < cLine) : RcAt A s (.str b u) (.ref l) false := fun prog w E Q h => by
  obtain ⟨cls, dd, data, sl⟩ := o
  simp only at hx hd
  subst hx hd
  exact rc_eq_decline_or (k := false) (typeIs_str s b u) ⟨_, ho, rfl⟩ (by decide) F.sub_dict_str F.slot_str_eq F.slot_dict_eq_refl
    (fun _ hq => call_meets F.slot_str_eq (typeIs_str s b u) F.entry_str_eq (F.args_str_eq_2 _ _) (str_eq_declines_dict b u l (.type "dict") es n dd sl) ⟨ho, hq⟩)
    (fun _ hq => call_meets F.slot_dict_eq_refl ⟨_, ho, rfl⟩ F.entry_dict_eq (F.args_dict_eq_2 _ _) (dict_eq_declines_str l es n dd sl b u) ⟨ho, hq⟩)
    (fun _ hq => wpAny_of_eq (rfl : isSame (.str b u) (.ref l) = pure false) hq) (.inr hu) h
theorem EqAt.str_dict {l : Addr} {o : Obj} {es : Array DictEntry} {n : Nat} (b : Str) (u : Tok) (ho : s.heap.get? l = some o) (hx : o.cls = .type "dict") (hd : o.data = .dict es n) (hu : A.units < cLine) : EqAt A s (.str b u) (.ref l) false := fun prog w E Q h => by
  unfold eqBool
  refine wpAny_holding ?_
  refine wpAny_ite_split (fun hab => absurd (eq_of_beq hab) nofun) (fun _ => ?_)
  exact wpAny_bind (RcAt.str_dict b u ho hx hd hu prog w E _ (wpAny_truthy_bool h))
end
end PySem.SeqAt
namespace MK
open PySem PySem.Spec PyProof.Rows L2
theorem strs_vals : ∀ {zs : List Str} {us : List Value}, Vals (zs.map V.str) us → ∀ u ∈ us, ∃ z t, u = .str z t
  | [], _, .nil => fun u hu => by cases hu
  | z :: zs, _, .cons r t => fun u hu => by
    rcases List.mem_cons.mp hu with rfl | hu
    · obtain ⟨t, rfl⟩ := r
      exact ⟨z, t, rfl⟩
    · exact strs_vals t u hu
/-- x not in a tuple of texts -/
def rNotInS (K : PySem.W.Frag) : R2 := fun x y H Q => ∃ (p : Addr) (zs : List Str), y = .ref p ∧ SqT K H p (zs.map V.str) ∧ ((flatV x = true ∧ Q (.bl (!inV x (zs.map V.str))) H) ∨ (∃ (a : Addr) (xs : List V), x = .ref a ∧ SqL K H a xs ∧ Q (.bl true) H) ∨ ∃ (a : Addr) (kvs : List (Key × V)), x = .ref a ∧ H a = some (.dK kvs) ∧ Q (.bl true) H)
theorem op_notInS {X : Cx} (hu : X.A.units + 1 < cLine) : OpR X (compareOp .NotIn) (rNotInS X.K) := by
  intro pins s σ H x y v u Q I rx ry h
  obtain ⟨p, zs, rfl, hq, h⟩ := h
  cases ry
  rcases h with ⟨fx, q⟩ | ⟨a, xs, rfl, ha, q⟩ | ⟨a, kvs, rfl, ha, q⟩
  · exact op_notIn_seq pins s σ H x (V.ref p) v (Value.ref p) Q I rx (show RelV (V.ref p) (Value.ref p) from rfl) ⟨p, _, rfl, .inr hq, fx, by simp [flatV], q⟩
  · cases rx
    obtain ⟨its, r, pl, hz⟩ := I.tuple hq
    obtain ⟨its2, r2, pl2, hz2⟩ := I.list ha
    refine SeqAt.notIn_tupleAt (fun _ => false) pl (fun w hw => ?_) ⟨.bl true, H, I, ?_, q⟩
    · obtain ⟨z, t, rfl⟩ := strs_vals r w (by simpa using hw)
      exact SeqAt.EqAt.str_list z t pl2.isList (show X.A.units + 1 < cLine from hu)
    · show Value.bool _ = Value.bool _
      simp
  · cases rx
    obtain ⟨its, r, pl, hz⟩ := I.tuple hq
    obtain ⟨_, _, vs, _, o, es, ep, ho, hx, hd, _⟩ := (show ObjOk X.prog X.w H s.heap a (.dK kvs) from I.hok a _ ha)
    refine SeqAt.notIn_tupleAt (fun _ => false) pl (fun w hw => ?_) ⟨.bl true, H, I, ?_, q⟩
    · obtain ⟨z, t, rfl⟩ := strs_vals r w (by simpa using hw)
      exact SeqAt.EqAt.str_dict z t ho hx.1 hd (show X.A.units + 1 < cLine from hu)
    · show Value.bool _ = Value.bool _
      simp
end MK
set_option Elab.async false
set_option linter.all false
set_option autoImplicit false
set_option maxRecDepth 100000
set_option maxHeartbeats 1000000
/-! own errors that are raised, and held by an except suite that hands them on -/
namespace MK
open PySem PySem.Spec PyProof.Rows L2
/-- an error class whose __init__ is walked, raised with positional arguments -/
structure RaiseC (P : Program) (w : World) (K : PySem.W.Frag) (mg : Str → Option Value) (base : Heap) (k : Nat) (x : Str) (C : Addr) (sp : Sp) : Prop where
  ex : ∃ (f : Addr) (fd : FuncData) (ps : List Str), ErrC K C f ∧ FnOk P w K mg base CX0 k f fd ps sp ∧ mg x = some (.ref C) ∧ Binds K fd ps []
theorem ps_raiseC {X : Cx} {W : WX} {k j : Nat} {x : Str} {C : Addr} {sp : Sp} {p pos pos2 : Pos} {e : Expr} {es : List Expr} {ta : TA} (c : RaiseC X.prog X.w X.K X.mg X.base k x C sp) (hc : X.calm = true) (tk : Takes X W) (hr : Room j X.A) (hk : k + 1 ≤ j) (hg : Gl X x) (ha : PA X (e :: es) ta)
    (hdb : (x == ("__debug__" : Str)) = false := by decide) (he : starEach (e :: es) X.env = (false, eval e X.env) :: starEach es X.env := by rfl) (hpl : (backTo pos (starEach es X.env)).any (·.1) = false := by rfl) :
    PS X (.Raise (some (.Call (.Name x p) (e :: es) [] pos)) none pos2) (fun _ σ H => tMkO C sp [] ta σ H fun cls d H' => W cls d σ H') := by
  obtain ⟨f, fd, ps, T, F, hm, b⟩ := c.ex
  exact ps_raise hc tk (pmk_oex T.cls T.ini T.fn F (hr.mono hk) b .nil pass0 hg hm ha hdb he hpl)
theorem rd_raise1 {C : Addr} {f : Str} {ta : TA} {σ : L2.St} {H : Hp} {v : V} {W : XK} (ht : ∀ R : List V → Hp → Prop, R [v] H → ta σ H R) (q : ∀ d H', Same H H' → H d = none → H' d = some (.xd [(f, v)]) → W (.ref C) (some d) H') : tMkO C (spErr1 C f) [] ta σ H W := by
  refine ht _ ⟨by show 1 ≤ 1000; decide, fun a ha => ⟨a, v, rfl, upd_same, fun d hd hda => ⟨rfl, d, [(f, v)], upd_same, (upd_ne hda).trans upd_same, ?_, ?_⟩⟩⟩
  · rw [upd_ne hda] at hd
    exact hd
  · have hd' : H d = none := by rw [upd_ne hda] at hd; exact hd
    refine q d _ (fun b o hb => ?_) hd' upd_same
    have ba : b ≠ a := fun z => by rw [z, ha] at hb; cases hb
    have bd : b ≠ d := fun z => by rw [z, hd'] at hb; cases hb
    rw [upd_ne bd, del_ne ba, upd_ne ba, upd_ne bd, upd_ne ba]
    exact hb
/-! ### a caught error, known by its pin -/
section
variable {X : Cx} {a : Addr} {oe : Obj} {cls : Value} {d : Option Addr}
def tErrP (K : PySem.W.Frag) (a : Addr) (cls : Value) (d : Option Addr) (f : Str) (te : TE) : TE := fun σ H Q => te σ H fun x H1 => x = .ref a ∧ ∃ (C dd : Addr) (fs : List (Str × V)) (v : V), cls = .ref C ∧ d = some dd ∧ ErrF K C ∧ PySem.W.findIn K (.ref C) f = some none ∧ H1 dd = some (.xd fs) ∧ fs.lookup f = some v ∧ Q v H1
theorem pe_errP {e : Expr} {te : TE} {pos : Pos} {n : Str} (hp : (a, oe) ∈ X.pn) (hz : Zc cls d oe) (hf : ∃ vs, oe.data = .fields vs) (he : PE X e te) (hb : attributeBase e n X.env (eval e X.env) = eval e X.env := by rfl) :
    PE X (.Attribute e n pos) (tErrP X.K a cls d n te) := by
  refine ⟨fun pins s σ H Q I h => ?_⟩
  refine attr_of hb (thn (he.run pins s σ H _ I h) fun u s1 hh => ?_)
  obtain ⟨x, H1, I1, rx, ex, C, dd, fs, v, ec, ed, T, hno, ea, l, q⟩ := hh
  subst ex ec ed
  obtain rfl : u = Value.ref a := rx
  have hget := (I1.pin (a, oe) (List.mem_append_left _ hp)).1
  obtain ⟨vs, hd⟩ := hf
  obtain ⟨mA, hns, hr⟩ := (show ObjOk X.prog X.w H1 s1.heap dd (.xd fs) from I1.hok dd _ ea)
  obtain ⟨od, ho, hl⟩ := lookIn_ns hns
  obtain ⟨y, hy, ry⟩ := RelO.some_of (v := v) (o := mA n) (by rw [← l]; exact hr n)
  have J : PySem.W.InstAt s1.heap a oe C (some od) := ⟨hget, hz.1, by unfold PySem.W.notCls; rw [hd] <;> rfl, by rw [hz.2]; exact ho⟩
  exact HandSPX.exc_get I1.kIn J T.ga T.gg T.exC (PySem.W.findObj_own T.hdC hno rfl (by rw [hl, hy])) (handed_of ry) ⟨v, H1, I1.tok _, ry, q⟩
def rIsP (K : PySem.W.Frag) (a : Addr) (cls : Value) (d : Option Addr) : List V → Hp → VK → Prop := fun xs H Q => ∃ (C dd : Addr) (fs : List (Str × V)) (c : V) (cv : Value) (b : Bool), xs = [.ref a, c] ∧ cls = .ref C ∧ d = some dd ∧ H dd = some (.xd fs) ∧ ErrI K C ∧ ClsV c cv ∧ PySem.W.kitOne K (.ref C) cv = some b ∧ Q (.bl b) H
theorem call_isP (hp : (a, oe) ∈ X.pn) (hz : Zc cls d oe) (hf : ∃ vs, oe.data = .fields vs) : CallR X (.builtin "isinstance") (rIsP X.K a cls d) := by
  intro pins s σ H xs us Q I r h
  obtain ⟨C, dd, fs, c, cv, b, rfl, ec, ed, hfs, T, k, e, q⟩ := h
  subst ec ed
  obtain ⟨u1, u2, rfl, r1, r2⟩ := vals2 r
  have e2 := k.eq r2
  subst e2
  obtain rfl : u1 = Value.ref a := r1
  have hget := (I.pin (a, oe) (List.mem_append_left _ hp)).1
  obtain ⟨vs, hd⟩ := hf
  obtain ⟨mA, hns, _⟩ := (show ObjOk X.prog X.w H s.heap dd (.xd fs) from I.hok dd _ hfs)
  obtain ⟨od, hod, _⟩ := lookIn_ns hns
  have J : PySem.W.InstAt s.heap a oe C (some od) := ⟨hget, hz.1, by unfold PySem.W.notCls; rw [hd] <;> rfl, by rw [hz.2]; exact hod⟩
  exact PySem.W.kia_one (PySem.W.kitx_exc (od := some od) T.cl T.ga T.gg T.ex T.ca T.sp T.tk T.ob) I.kIn J e (fun z => nomatch z) fun tk => ⟨.bl b, H, I.tok tk, rfl, q⟩
end
/-! ### a def that a suite hands its error -/
/-- what is promised of a def called with a caught error at p.1, of the class cls with the dict d -/
abbrev SpP := Addr → Value → Option Addr → Sp
structure FnP (P : Program) (w : World) (K : PySem.W.Frag) (mg : Str → Option Value) (base : Heap) (k : Nat) (f : Addr) (fd : FuncData) (ps : List Str) (sp : SpP) : Prop where
  len : ∀ a cls d vs H Q, sp a cls d vs H Q E0 → vs.length = ps.length
  run : ∀ (A : Around) (outer : List Env) (s : Shared) (H : Hp) (args : Args) (us : List Value) (vs : List V) (Q : VK) (p : Addr × Obj) (cls : Value) (d : Option Addr), L2H.RoomH k A → L2H.PinOk outer H s p → Zc cls d p.2 → (∃ fs, p.2.data = .fields fs) →
    Env0 P w K mg base A outer s H → BindsTo s fd args (ps.zip us) → Vals vs us → sp p.1 cls d vs H Q E0 → codeAny (model P w) A (.call (.ref f) args) (CR CX0 outer P w H s Q E0) s
theorem fnP_of {P : Program} {w : World} {K : PySem.W.Frag} {mg : Str → Option Value} {base : Heap} {k : Nat} {x : Str} {st : Stmt} {f : Addr} {fd : FuncData} {N ps : List Str} {sp : SpP} (F : DefX K mg x st ps f fd) (S : FnScope N ps (defScope st))
    (len : ∀ a cls d vs H Q, sp a cls d vs H Q E0 → vs.length = ps.length)
    (hbody : ∀ (cdv : Value) (A : Around) (outer : List Env) (s : Shared) (H : Hp) (vs : List V) (Q : VK) (a : Addr) (oe : Obj) (cls : Value) (d : Option Addr), Zc cls d oe → (∃ fs, oe.data = .fields fs) → L2H.RoomH k (A.deeper (envOfC x (defScope st) s.heap.objs.size f cdv)) → sp a cls d vs H Q E0 →
      ∃ t, PSs (L2H.cxH CX0 P w K mg base N x (defScope st) f cdv A outer s H E0 (a, oe)) (defBody st) t ∧ t { nx := fun _ H' => Q .non H', rt := Q } (L2.start N vs) H) : FnP P w K mg base (k + 1) f fd ps sp := by
  obtain ⟨oc, od, kV, doc, pm, an, cdv, ct, osl, rfl, lk, hcd⟩ := F.fn.ex
  refine ⟨len, fun A outer s H args us vs Q p cls d hr hpin hz hf e0 hb r hsp => ?_⟩
  have vl := len _ _ _ _ _ _ hsp
  have kin := e0.mod.kin.keeps fun b o e => (e0.bs b o e).1
  have lim := e0.mod.nolimit.keeps fun b o e => (e0.bs b o e).1
  refine codeAny_call_function hr.depth (kin _ _ lk) rfl S.co S.gen rfl (PySem.W.codeRec_of kin hcd) (hb _ _ _ _ (wpAny_newFunctionEnv_cells S.kind (fun ⟨n, v⟩ hy => ?_) fun env he s1 x1 => ?_))
  · exact (S.par n (List.of_mem_zip hy).1).imp id fun q => ⟨q, PySem.W.cellsFrom_some _ _ _ (.inl q)⟩
  subst he
  refine ⟨lim.keeps x1.toInCall.keep, codeAny_func ?_⟩
  obtain ⟨t, ht, hq⟩ := hbody cdv A outer s H vs Q p.1 p.2 cls d hz hf (hr.deeper _) hsp
  have I := L2H.inv_startH (CX := CX0) (E := E0) (N := N) (f := f) (cd := cdv) (qual := x) S hpin e0 vl r x1
  have fin : ∀ {σ' : L2.St} {H' : Hp} {v : V} {u : Value} {s' : Shared}, Inv (L2H.cxH CX0 P w K mg base N x (defScope st) f cdv A outer s H E0 p) [] σ' H' s' → RelV v u → Q v H' → CE outer P w H s Q u s' :=
    fun J rv q => ⟨_, _, J.os, J.bare, J.base, J.hok, rv, q⟩
  refine wpAny_mono (ht.run [] s1 (L2.start N vs) H _ I hq) (fun fl s' hs => ?_) fun e s' hs => hs
  cases fl with
  | ret u => obtain ⟨v, σ', H', J, rv, q⟩ := hs; exact fin J rv q
  | next => obtain ⟨σ', H', J, q⟩ := hs; exact fin (v := V.non) (u := Value.none) J rfl q
  | brk => obtain ⟨_, _, _, q⟩ := hs; exact q.elim
  | cont => obtain ⟨_, _, _, q⟩ := hs; exact q.elim
/-- f(e), e the caught error -/
def tCallP (sp : SpP) (a : Addr) (cls : Value) (d : Option Addr) (ta : TA) : TE := fun σ H Q => ta σ H fun vs H1 => sp a cls d vs H1 Q E0
theorem pe_callP {X : Cx} {a : Addr} {oe : Obj} {cls : Value} {d : Option Addr} {k : Nat} {f : Addr} {fd : FuncData} {ps : List Str} {sp : SpP} {x : Str} {p pos : Pos} {e : Expr} {es : List Expr} {ta : TA} (hp : (a, oe) ∈ X.pn) (hz : Zc cls d oe) (hf : ∃ vs, oe.data = .fields vs)
    (F : FnP X.prog X.w X.K X.mg X.base k f fd ps sp) (hr : L2H.RoomH k X.A) (hg : Gl X x) (hm : X.mg x = some (.ref f)) (hk : PySem.W.keepIn X.K (.ref f) = true) (hb : Binds X.K fd ps []) (ha : PA X (e :: es) ta)
    (hdb : (x == ("__debug__" : Str)) = false := by decide) (he : starEach (e :: es) X.env = (false, eval e X.env) :: starEach es X.env := by rfl) (hpl : (backTo pos (starEach es X.env)).any (·.1) = false := by rfl) :
    PE X (.Call (.Name x p) (e :: es) [] pos) (tCallP sp a cls d ta) := by
  refine ⟨fun pins s σ H Q I h => wpAny_Call_Name_kw (ld_glob I hg hm (PySem.W.callWith_K (h₀ := X.base) I.ok.mod.kin hk (thn (ha.run pos pins s σ H _ I h) fun us s1 hh => ?_) he hpl) hdb)⟩
  obtain ⟨vs, H1, I1, r, q⟩ := hh
  refine ⟨I1.kIn, wpAny_call (codeAny_mono (F.run X.A X.stack s1 H1 ⟨us, []⟩ us vs Q (a, oe) cls d hr ?_ hz hf I1.env0 ?_ r q) fun z s' hq => ?_)⟩
  · have P1 := I1.pin (a, oe) (List.mem_append_left _ hp)
    exact ⟨P1.1, P1.2.1, fun z => (List.mem_cons.mp (I1.stkSub a z)).elim P1.2.2.1 P1.2.2.2.1, P1.2.2.2.2⟩
  · have hl : us.length = ps.length := r.length.symm.trans (F.len _ _ _ _ _ _ q)
    have b := hb s1 us I1.kIn (by rw [List.append_nil]; exact hl)
    rwa [List.append_nil] at b
  · cases z with
    | error e => exact False.elim hq
    | ok fl => cases fl with
      | ret u => exact I1.after hq
      | next => exact False.elim hq
      | brk => exact False.elim hq
      | cont => exact False.elim hq
end MK
set_option Elab.async false
set_option linter.all false
set_option autoImplicit false
set_option maxRecDepth 100000
set_option maxHeartbeats 400000
/-! heaps without the tables of code objects -/
namespace MK
open PySem PySem.Spec PyProof.Rows L2
def Nt (H : Hp) : Hp := fun b => match H b with
  | some (.tbl _) => none
  | x => x
theorem nt_of {H : Hp} {b : Addr} {o : HO} (h : H b = some o) (n : ∀ ps, o ≠ .tbl ps) : Nt H b = some o := by
  unfold Nt
  rw [h]
  cases o <;> first | rfl | exact absurd rfl (n _)
theorem nt_get {H : Hp} {b : Addr} {o : HO} (h : Nt H b = some o) : H b = some o ∧ ∀ ps, o ≠ .tbl ps := by
  unfold Nt at h
  split at h
  · cases h
  · rename_i e
    exact ⟨h, fun ps z => e ps (by rw [h, z])⟩
theorem nt_same {H : Hp} : Same (Nt H) H := fun _ _ h => (nt_get h).1
theorem same_nt {H H' : Hp} (e : Same H H') : Same (Nt H) (Nt H') := fun b o h => nt_of (e b o (nt_get h).1) (nt_get h).2
theorem ext_nt {H H' : Hp} (e : LamX.ExtN H H') : Same (Nt H) (Nt H') := fun b o h => nt_of (e b o (nt_get h).1 (nt_get h).2) (nt_get h).2
theorem ext_off {s : Addr} {H H' : Hp} (e : LamX.ExtN H H') : LamX.ExtN (Off s H) (Off s H') := fun b o h n => by
  by_cases q : b = s
  · rw [q, off_s] at h
    cases h
  · rw [off_ne q] at h ⊢
    exact e b o h n
/-- what is told of H, but of s and of tables -/
abbrev Nx (s : Addr) (H : Hp) : Hp := Nt (Off s H)
theorem SameX.nx {s : Addr} {H H' : Hp} (e : SameX s H H') : Same (Nx s H) (Nx s H') := same_nt e.off
theorem ext_nx {s : Addr} {H H' : Hp} (e : LamX.ExtN H H') : Same (Nx s H) (Nx s H') := ext_nt (ext_off e)
theorem nx_same {s : Addr} {H : Hp} : Same (Nx s H) (Off s H) := nt_same
section
variable {K : PySem.W.Frag} {H : Hp} {v : V} {xs : List V}
theorem sqt_nt {a : Addr} (h : SqT K H a xs) : SqT K (Nt H) a xs := by
  rcases h with ⟨h | ⟨o, h⟩⟩ | h
  · exact .inl (.inl (nt_of h nofun))
  · exact .inl (.inr ⟨o, nt_of h nofun⟩)
  · exact .inr h
theorem Tu.nt (h : Tu K H v xs) : Tu K (Nt H) v xs := by
  obtain ⟨a, r, h⟩ := h
  exact ⟨a, r, sqt_nt h⟩
theorem Ls.nt (h : Ls H v xs) : Ls (Nt H) v xs := by
  obtain ⟨a, r, h⟩ := h
  exact ⟨a, r, nt_of h nofun⟩
theorem CdT.nt {c : CD} (h : CdT K H v c) : CdT K (Nt H) v c := by
  obtain ⟨m, d, s, ds, h1, h2, h3, h4, h5⟩ := h
  exact ⟨m, d, s, ds, h1.nt, h2.nt, h3.nt, h4.mono fun _ _ h => Tu.nt h, h5.nt⟩
theorem CdL.nt {c : CD} (h : CdL K H v c) : CdL K (Nt H) v c := by
  obtain ⟨m, d, s, ds, h1, h2, h3, h4, h5⟩ := h
  exact ⟨m, d, s, ds, h1.nt, h2.nt, h3.nt, h4.mono fun _ _ h => Tu.nt h, h5.nt⟩
theorem KdA.nt {KC : Addr} {fs : List FD} {n : Nat} {cs : List CD} (h : KdA K KC H v fs n cs) : KdA K KC (Nt H) v fs n cs := by
  obtain ⟨x, dx, so, sp, tb, t, st, tv, sv, h0, h1, h2, h3, h4, h5, h6, h7, h8⟩ := h
  exact ⟨x, dx, so, sp, tb, t, st, tv, sv, h0, nt_of h1 nofun, h2.nt, h3.mono fun _ _ h => Tu.nt h, nt_of h4 nofun, nt_of h5 nofun, h6.nt, h7.mono fun _ _ h => CdT.nt h, nt_of h8 nofun⟩
end
/-! ### tables stay behind -/
theorem tab_sx {s : Addr} {H H' : Hp} {P : Addr} {q : Str} {xs : List V} (e : SameX s H H') (hs : H s = some (.lst xs)) (t : LamX.TabS H P q) : LamX.TabS H' P q := by
  obtain ⟨ps, h1, h2, h3⟩ := t
  have ne : ∀ {b : Addr} {o : HO}, H b = some o → (o ≠ .lst xs) → b ≠ s := fun hb n z => by
    rw [z, hs] at hb
    exact n (Option.some.inj hb).symm
  refine ⟨ps, e _ _ h1 (ne h1 nofun), h2, fun pos cv hc => ?_⟩
  obtain ⟨c, e1, e2⟩ := h3 pos cv hc
  exact ⟨c, e1, e _ _ e2 (ne e2 fun z => by
    unfold LamX.CodeO at z
    cases z)⟩
theorem passes_cx0 {X : Cx} : Passes (L2.CX X.prog X.w) X E0 := fun _ _ _ _ _ _ _ h => by
  obtain ⟨_, _, _, _, _, _, _, _, _, _, _, _, z⟩ := h
  exact z.elim
end MK
set_option Elab.async false
set_option linter.all false
set_option autoImplicit false
set_option maxRecDepth 100000
set_option maxHeartbeats 400000
/-! cuts of lists, item by item; one call of a kind exchanged -/
namespace MK
open PySem PySem.Spec PyProof.Rows L2
section
variable {α : Type} {R : V → α → Prop} {xs xs' : List V} {ys ys' : List α}
theorem Al.take (h : Al R xs ys) (i : Nat) : Al R (xs.take i) (ys.take i) := by
  refine ⟨by rw [List.length_take, List.length_take, h.1], fun j x y h1 h2 => ?_⟩
  rw [List.getElem?_take] at h1 h2
  split at h1
  · rename_i q
    rw [if_pos q] at h2
    exact h.2 j x y h1 h2
  · cases h1
theorem Al.drop (h : Al R xs ys) (i : Nat) : Al R (xs.drop i) (ys.drop i) := by
  refine ⟨by rw [List.length_drop, List.length_drop, h.1], fun j x y h1 h2 => ?_⟩
  rw [List.getElem?_drop] at h1 h2
  exact h.2 _ x y h1 h2
theorem Al.append (h : Al R xs ys) (h' : Al R xs' ys') : Al R (xs ++ xs') (ys ++ ys') := by
  refine ⟨by rw [List.length_append, List.length_append, h.1, h'.1], fun j x y h1 h2 => ?_⟩
  by_cases q : j < xs.length
  · rw [List.getElem?_append_left q] at h1
    rw [List.getElem?_append_left (h.1 ▸ q)] at h2
    exact h.2 j x y h1 h2
  · rw [List.getElem?_append_right (by omega)] at h1
    rw [List.getElem?_append_right (by have := h.1; omega)] at h2
    rw [← h.1] at h2
    exact h'.2 _ x y h1 h2
theorem Al.one {x : V} {y : α} (r : R x y) : Al R [x] [y] := (Al.nil (R := R)).snoc r
end
theorem cut_to (xs : List V) (i : Nat) : cutV xs none (some (i : Int)) = xs.take i := by
  have e := HT.sIx_nat xs.length xs.length i
  unfold cutV
  rw [HT.sIx_none, e, List.drop_zero, Nat.sub_zero]
  rcases Nat.le_total i xs.length with h | h
  · rw [Nat.min_eq_left h]
  · rw [Nat.min_eq_right h, List.take_of_length_le (Nat.le_refl _), List.take_of_length_le h]
theorem cut_from (xs : List V) (i : Nat) (h : i ≤ xs.length) : cutV xs (some (i : Int)) none = xs.drop i := by
  have e := HT.sIx_nat xs.length 0 i
  unfold cutV
  rw [HT.sIx_none, e, Nat.min_eq_left h]
  exact List.take_of_length_le (by rw [List.length_drop]; exact Nat.le_refl _)
end MK
set_option Elab.async false
set_option linter.all false
set_option autoImplicit false
set_option maxRecDepth 100000
set_option maxHeartbeats 1000000
/-! facts of the head: tuples of texts, dicts with text keys, the law's table of codes; the end -/
namespace MK
open PySem PySem.Spec PyProof.Rows L2
def strsB : List Str → List Value → Bool
  | [], [] => true
  | z :: zs, .str y _ :: us => decide (y = z) && strsB zs us
  | _, _ => false
theorem strsB_ok : ∀ {zs : List Str} {us : List Value}, strsB zs us = true → Vals (zs.map V.str) us
  | [], [], _ => .nil
  | z :: zs, .str y t :: us, h => by
    obtain ⟨h1, h2⟩ := Bool.and_eq_true_iff.mp (show (decide (y = z) && strsB zs us) = true from h)
    have e := of_decide_eq_true h1
    exact .cons ⟨t, by rw [e]⟩ (strsB_ok h2)
  | [], _ :: _, h => by cases h
  | _ :: _, [], h => by cases h
  | _ :: _, .none :: _, h => by cases h
  | _ :: _, .bool _ :: _, h => by cases h
  | _ :: _, .int _ _ :: _, h => by cases h
  | _ :: _, .ref _ :: _, h => by cases h
  | _ :: _, .type _ :: _, h => by cases h
  | _ :: _, .builtin _ :: _, h => by cases h
  | _ :: _, .notImplemented :: _, h => by cases h
  | _ :: _, .ellipsis :: _, h => by cases h
  | _ :: _, .float _ _ :: _, h => by cases h
def tupB (K : PySem.W.Frag) (a : Addr) (zs : List Str) : Bool := match K.lookup a with
  | some ⟨.type c, _, .seq its _, _⟩ => decide (c = "tuple") && (decide (its.size ≤ 100) && strsB zs its.toList)
  | _ => false
theorem tupB_ok {K : PySem.W.Frag} {a : Addr} {zs : List Str} (h : tupB K a zs = true) (H : Hp) : SqT K H a (zs.map V.str) := by
  unfold tupB at h
  split at h
  · rename_i c d its n sl q
    obtain ⟨h1, h2⟩ := Bool.and_eq_true_iff.mp h
    obtain ⟨h2, h3⟩ := Bool.and_eq_true_iff.mp h2
    have e := of_decide_eq_true h1
    exact .inr ⟨_, its, n, q, by rw [e], rfl, Nat.le_trans (of_decide_eq_true h2) (by decide), strsB_ok h3⟩
  · cases h
theorem keys_none {P : Params} {z : Str} : ∀ {l : List DictEntry} {ks : List Str}, l.map He.keyOf = He.keysIn P ks → z ∉ ks → l.find? (·.key.isStr z) = none ∧ l.any (·.refKey) = false
  | [], _, _, _ => ⟨rfl, rfl⟩
  | e :: r, [], h, _ => by cases h
  | e :: r, k :: ks, h, hz => by
    have h1 : He.keyOf e :: r.map He.keyOf = some (k, PyData.keyHash P k) :: He.keysIn P ks := h
    injection h1 with h2 h3
    obtain ⟨i1, i2⟩ := keys_none h3 fun m => hz (List.mem_cons_of_mem _ m)
    unfold He.keyOf at h2
    split at h2
    · rename_i x t q
      obtain ⟨h5, _⟩ := Prod.mk.inj (Option.some.inj h2)
      have ne : (x == z) = false := by
        rw [beq_eq_false_iff_ne, h5]
        exact fun e => hz (e ▸ List.mem_cons_self)
      constructor
      · rw [List.find?_cons]
        have : e.key.isStr z = false := by rw [q]; exact ne
        rw [this]
        exact i1
      · rw [List.any_cons, i2, Bool.or_false]
        unfold DictEntry.refKey
        rw [q]
    · cases h2
theorem ns_none {K : PySem.W.Frag} {w : World} {a : Addr} {ks : List Str} {z : Str} (h : He.dicW K a = some (He.keysIn w.params ks)) (hz : z ∉ ks) : PySem.W.nsIn K a z = some none := by
  obtain ⟨es, n, D⟩ := He.dicW_ok h
  have e := D.at_
  unfold He.dicW at h
  rw [e] at h
  have h1 : (match decide ((("dict" : String)) = "dict") && ((#[] : Array (Option Value)).isEmpty && !(a == sysModules)) with
    | true => some (es.toList.map He.keyOf)
    | false => none) = some (He.keysIn w.params ks) := h
  rw [D.low] at h1
  obtain ⟨i1, i2⟩ := keys_none (Option.some.inj h1) hz
  unfold PySem.W.nsIn
  rw [e]
  show (match es.toList.find? (·.key.isStr z) with
      | some e => some (some e.val)
      | none => if es.toList.any (·.refKey) then none else some none) = some none
  rw [i1]
  show (if es.toList.any (·.refKey) then none else some none) = some none
  rw [i2]
  rfl
theorem tabIn_of {K : PySem.W.Frag} {x : Str} {f c P : Addr} {oc e : Value} {od dd : Option Addr} {fd : FuncData} {osl sl : Array (Option Value)} {vs : Array Value} (h1 : PySem.W.nsIn K mainGlobals x = some (some (.ref f))) (h2 : K.lookup f = some ⟨oc, od, .func fd, osl⟩) (h3 : fd.code = .ref c)
    (h4 : K.lookup c = some ⟨e, dd, .fields vs, sl⟩) (h5 : vs[11]? = some (.ref P)) : PySem.W.tabIn K x = some (c, P) := by
  unfold PySem.W.tabIn
  rw [h1]
  show (match K.lookup f with
    | some ⟨_, _, .func fd, _⟩ => (match fd.code with
      | .ref c => (match K.lookup c with
        | some ⟨_, _, .fields vs, _⟩ => (match (vs[11]? : Option Value) with
          | some (.ref P) => some (c, P)
          | _ => none)
        | _ => none)
      | _ => none)
    | _ => none) = some (c, P)
  rw [h2]
  show (match fd.code with
      | .ref c => (match K.lookup c with
        | some ⟨_, _, .fields vs, _⟩ => (match (vs[11]? : Option Value) with
          | some (.ref P) => some (c, P)
          | _ => none)
        | _ => none)
      | _ => none) = some (c, P)
  rw [h3]
  show (match K.lookup c with
        | some ⟨_, _, .fields vs, _⟩ => (match (vs[11]? : Option Value) with
          | some (.ref P) => some (c, P)
          | _ => none)
        | _ => none) = some (c, P)
  rw [h4]
  show (match (vs[11]? : Option Value) with
          | some (.ref P) => some (c, P)
          | _ => none) = some (c, P)
  rw [h5]
/-- the end of a law that holds lambdas of its own -/
theorem walk_tab {l : PySem.W.OpenLaw} {k : Nat} {q : Program} {loose : List Str} {XP : (Str → Option Value) → Heap → Prop} {YP : World → Heap → Prop} {d : DefRec} {K : Params → PySem.W.Frag} {x : Str}
    (hn : l.most = some 63) (hdf : d.params.defaults = []) (hr : Room k callerA) (hrec : ((recsOf q).any fun e => e.name == d.name) = true) (hY : ∀ (w : World) (h : Heap), YP w h → (K w.params).In h)
    (F : ∀ (w : World) (mg : Str → Option Value) (fa : Addr) (h : Heap), (K w.params).In h → h.Ns mainGlobals mg → mg d.name = some (.ref fa) →
      ∃ (fd : FuncData) (c P : Addr) (sp : Sp), PySem.W.tabIn (K w.params) d.name = some (c, P) ∧ (K w.params).lookup P = none ∧ (∀ (s : Shared) (u : Value), BindsTo s fd ⟨[u], []⟩ [(x, u)]) ∧
        (∀ (H : Hp) (a : Addr) (ns : List Int), ns.length ≤ 63 → H P = some (.tbl #[]) → SqL (K w.params) H a (ns.map V.int) → sp [.ref a] H (fun v _ => v = .bl true) fun _ _ _ => False) ∧
        ∀ base : Heap, (K w.params).In base → base.Ns mainGlobals mg → LamX.TabB base mg c P → FnOk l.prog w (K w.params) mg base CX0 k fa fd [x] sp) :
    PySem.W.WalkO q loose XP YP l.row.toRowW d [] (fun f vs => PySem.call f vs) := by
  refine Att.attach_callB hn hdf fun w s₀ s₁ mg mb fa o pm cd doc a vs ns G Y ho hd hcd hmg hobj hints hlen hbits hg => ?_
  have KX := hY w _ Y
  obtain ⟨fd, c, P, sp, hT, nT, hb, hsp, hF⟩ := F w mg fa _ KX G.T.g hmg
  obtain ⟨dL, hr2⟩ : ∃ dL, (recsOf q).find? (fun e => e.name == d.name) = some dL := by
    have : ((recsOf q).find? (fun e => e.name == d.name)).isSome = true := by
      rw [List.find?_isSome]
      exact List.any_eq_true.mp hrec
    exact Option.isSome_iff_exists.mp this
  obtain ⟨C, hP⟩ := PySem.W.tab_of G.T KX hr2 hT
  have one : ∀ {Pr : Addr × Addr → Prop}, Pr (c, P) → ∀ p ∈ [(c, P)], Pr p := fun h p hp => by
    rw [List.mem_singleton.mp hp]
    exact h
  exact LamX.law_callTs (cs := [(c, P)]) KX G.T.g G.T.b G.T.builtins G.T.nolimit hg (one hP) (one nT) (one C) G.T.bmain hobj hints (Nat.le_trans hlen (by decide)) hr
    (fun base h1 h2 h3 => hF base h1 h2 (h3 _ List.mem_cons_self)) hb (fun H hH hS => hsp H a ns hlen (hH _ List.mem_cons_self) hS) fun H e s' h => h.elim
end MK
set_option Elab.async false
set_option linter.all false
set_option autoImplicit false
set_option maxRecDepth 100000
set_option maxHeartbeats 1000000
/-! enumerate(xs, start = m); C.m(..) where m is a staticmethod -/
namespace MK
open PySem PySem.Spec PyProof.Rows L2 ClX
/-- the list at a at each turn, each item behind its number, counted from m -/
def IteF (K : PySem.W.Frag) (m : Nat) (a : Addr) : It where
  go := fun i H => ∃ (ys : List V) (y : V), SqL K H a ys ∧ ys[i]? = some y
  yld := fun i H v H' => ∃ T y, v = .ref T ∧ H T = none ∧ H' = upd H T (.tup [.int ((i + m : Nat) : Int), y]) ∧ ∀ ys, SqL K H a ys → ys[i]? = some y
  stop := fun i H => ∃ ys : List V, SqL K H a ys ∧ ys.length ≤ i
theorem turn_enumF {P : Program} {w : World} {K : PySem.W.Frag} {es : List Expr} {kk : Nat} {tpos : Pos} (m : Nat) (a e it : Addr) :
    Turn P w K (.Tuple es kk tpos) (IteF K m a) [e, it] e (fun i h => (∃ was, IsEnum h e it ((i + m : Nat) : Int) was) ∧ h.IsListIter it a i ∧ e ≠ it ∧ a ≠ it ∧ a ≠ e) where
  mem := by simp
  obj := fun i h st b hb => by
    obtain ⟨⟨was, he⟩, ⟨o, ho, _, hd⟩, _⟩ := st
    rcases (by simpa using hb : b = e ∨ b = it) with rfl | rfl
    · exact ⟨_, he, fun v q => nomatch q⟩
    · exact ⟨o, ho, fun v q => by rw [hd] at q; cases q⟩
  keep := fun i h h' st k => let ⟨⟨was, he⟩, hi, ne⟩ := st; ⟨⟨was, k e (by simp) _ he⟩, hi.at fun o q => k it (by simp) o q, ne⟩
  item := by
    intro X hP hw hK hc i pins s σ H E I hf st hg
    subst hP hw hK
    obtain ⟨⟨was, he⟩, hit, ne, ai, ae⟩ := st
    obtain ⟨ys, y, hq, hy⟩ := hg
    obtain ⟨its, rv, pl, _⟩ := I.list hq
    obtain ⟨u, hu, ru⟩ := rv.get hy
    have le : e < s.heap.objs.size := Heap.lt_size he
    have lt : it < s.heap.objs.size := let ⟨_, q, _⟩ := hit; Heap.lt_size q
    have D := Draws.list (prog := X.prog) (w := X.w) (show X.A.in1.handled = none from I.ok.hd hc) it a ai its.toArray
    have hu2 : its.toArray[i]? = some u := by simpa using hu
    refine wpAny_pyNext_enum_itemC D he ⟨hit, pl.isList⟩ ((Array.getElem?_eq_some_iff.mp hu2).1) ne (by simp [ne, Ne.symm ae]) fun v h' tk hv ho st' hT hz hk => ?_
    obtain rfl : v = u := Option.some.inj ((show its.toArray[i]? = some v from hv).symm.trans hu2)
    refine ⟨_, rfl, wpAny_letOwnedTupleGo_enum (s := { s with heap := h', toks := tk + 1 }) ho fun h'' he' sb => ?_⟩
    have k' : ∀ b o, b ∉ [e, it] → s.heap.get? b = some o → h''.get? b = some o := fun b o hb q => by
      simp only [List.mem_cons, List.not_mem_nil, or_false, not_or] at hb
      exact (sb.2 b hb.1).trans (hk b o hb.1 hb.2 q)
    have hT' := (sb.2 _ (Nat.ne_of_gt le)).trans hT
    have I1 := I.turnedNew (ch := [e, it]) (t' := tk + 1) (ob := .tup [.int ((i + m : Nat) : Int), y]) k' hf (Nat.le_refl s.heap.objs.size) ⟨by show 2 ≤ sizeLine; decide, [.int ((i + m : Nat) : Int) tk, v], .cons ⟨_, rfl⟩ (.cons ru .nil), ⟨_, hT', rfl, _, rfl⟩⟩
    refine ⟨.ref s.heap.objs.size, _, I1, rfl, ⟨_, y, rfl, I.hok.fresh (Nat.le_refl _), rfl, fun zs hz => by rw [I.list_inj hz hq]; exact hy⟩, ⟨⟨v, ?_⟩, st'.1.at fun o q => (sb.2 it (Ne.symm ne)).trans q, ne, ai, ae⟩, fun b hb => ?_⟩
    · rw [show ((i + 1 + m : Nat) : Int) = ((i + m : Nat) : Int) + 1 by omega]
      exact he'
    · have hb' : b < s.heap.objs.size := by
        rcases (by simpa using hb : b = e ∨ b = it) with rfl | rfl
        · exact le
        · exact lt
      rw [upd_ne (Nat.ne_of_lt hb')]
      exact (hf b hb).1
  done := by
    intro X hP hw hK hc i pins s σ H E I hf st hg
    subst hP hw hK
    obtain ⟨⟨was, he⟩, hit, ne, ai, ae⟩ := st
    obtain ⟨ys, hq, hl⟩ := hg
    obtain ⟨its, rv, pl, _⟩ := I.list hq
    obtain ⟨f0, f1, f2, f3, f4, f5⟩ := hf it (by simp)
    have len := rv.length
    have hn : X.A.in1.handled = none := I.ok.hd hc
    have D : Draws X.prog X.w X.A.in1 it [it, a] i (fun _ _ => False) (fun j h => j = i ∧ h.IsListIter it a i ∧ h.IsList a its.toArray) :=
      { live := fun _ _ z => let ⟨_, ⟨o, ho, _⟩, _⟩ := z; ⟨o, ho⟩
        frame := fun _ _ _ z k => ⟨z.1, z.2.1.at fun o q => k it (by simp) o q, z.2.2.at fun o q => k a (by simp) o q⟩
        item := fun j s Q E lt z _ => absurd z.1 (Nat.ne_of_lt lt)
        done := fun s Q E z hE => wpAny_nextOf_list_end hn z.2.1 z.2.2 (by simp; omega) hE }
    exact wpAny_pyNext_enum_endD D he ⟨rfl, hit, pl.isList⟩ fun h' eb => ⟨rfl, I.turned (t' := s.toks) (fun b o hb q => eb b o hb q) f0 f1 f3 f4 f5⟩
  self := fun A i s Q E st h => let ⟨⟨_, he⟩, _⟩ := st; wpAny_pyIter_enum he h
def iEnumF (K : PySem.W.Frag) (m : Nat) (ta tk : TA) : TI := fun σ H R => ta σ H fun vs H1 => tk σ H1 fun ws H2 => ∃ a xs, vs = [.ref a] ∧ ws = [.int (m : Nat)] ∧ SqL K H2 a xs ∧ R (IteF K m a) H2
theorem callWith_typeK {M : Model} {A : Around} {E : Value → Shared → Prop} {s : Shared} {env : Env} {pos : Pos} {T : String} {e : Expr} {rest : List Expr} {kws : List Keyword} {Q : Value → Shared → Prop}
    (h : wpAny M A (spliced (backTo pos (starEach (e :: rest) env))) (fun vs s1 => wpAny M A (evalAll ((backToKw pos (keywordEach kws env)).map (·.2))) (fun ks s2 => wpAny M A (call (.type T) vs (((backToKw pos (keywordEach kws env)).filterMap (·.1)).zip ks)) Q E s2) E s1) E s)
    (hall : (backToKw pos (keywordEach kws env)).all (·.1.isSome) = true) (hpl : ((backTo pos (starEach (e :: rest) env)).any (·.1) || (backToKw pos (keywordEach kws env)).any (·.1.isNone)) = false) (he : starEach (e :: rest) env = (false, eval e env) :: starEach rest env) :
    wpAny M A (callWith pos (.type T) [] (backTo pos (starEach (e :: rest) env)) (backToKw pos (keywordEach kws env))) Q E s :=
  PySem.W.callWith_of (P := fun _ => True) hpl (fun _ _ => ⟨.machine, .inr (.inl rfl), .now⟩) (evalArgs_kw2 hall (wpAny_mono h (fun _ _ h1 => wpAny_mono h1 (fun _ _ h2 => ⟨trivial, h2⟩) fun _ _ x => x) fun _ _ x => x) he)
theorem boot_enumF : bootBuiltins "enumerate" = some (.type "enumerate") := by decide +kernel
theorem pi_enumF {X : Cx} {m : Nat} {e k : Expr} {ta tk : TA} {p pos tpos kp : Pos} {es : List Expr} {kk : Nat} (hm63 : (m : Int) < 2 ^ 63) (hg : Gl X "enumerate") (hm : X.mg "enumerate" = none) (ha : PA X [e] ta) (hk : PK X [⟨some "start", k, kp⟩] tk)
    (hs : starEach [e] X.env = (false, eval e X.env) :: starEach [] X.env := by rfl) (hpl : ((backTo pos (starEach [e] X.env)).any (·.1) || (backToKw pos (keywordEach [⟨some "start", k, kp⟩] X.env)).any (·.1.isNone)) = false := by rfl) :
    PI X (.Tuple es kk tpos) (.Call (.Name "enumerate" p) [e] [⟨some "start", k, kp⟩] pos) (iEnumF X.K m ta tk) := by
  refine ⟨fun pins s σ H R I h => ?_⟩
  refine wpAny_Call_Name_kw (ld_blt I hg hm boot_enumF (callWith_typeK (thn (ha.run pos pins s σ H _ I h) fun us s1 ⟨vs, H1, I1, r1, q1⟩ => thn (hk.run pos pins s1 σ H1 _ I1 q1) fun ws s2 ⟨zs, H2, I2, r2, q2⟩ => ?_) rfl hpl hs))
  obtain ⟨a, xs, rfl, rfl, hq, q⟩ := q2
  cases r1 with
  | cons r rr =>
  cases rr
  cases r
  cases r2 with
  | cons z zz =>
  cases zz
  obtain ⟨t, rfl⟩ := z
  obtain ⟨its, rv, pl, _⟩ := I2.list hq
  refine enum_begins_start (begins_list a its.toArray) pl.isList (by omega) hm63 fun h' he ho hz hk' => wpAny_pyIter_enum he ?_
  have I3 : Inv X pins σ H2 { s2 with heap := h' } := I2.kept (t' := s2.toks) hk'
  have la : a < s2.heap.objs.size := let ⟨_, q, _⟩ := pl.isList; Heap.lt_size q
  refine ⟨s2.heap.objs.size + 1, [s2.heap.objs.size + 1, s2.heap.objs.size], _, _, H2, rfl, I3, turn_enumF m a (s2.heap.objs.size + 1) s2.heap.objs.size, ⟨⟨.none, ?_⟩, ⟨_, ho, rfl, rfl⟩, Nat.succ_ne_self _, Nat.ne_of_lt la, Nat.ne_of_lt (Nat.lt_succ_of_lt la)⟩, fun b hb => ?_, q⟩
  · rw [show ((0 + m : Nat) : Int) = (m : Int) by omega]
    exact he
  · have hle : s2.heap.objs.size ≤ b := by
      rcases (by simpa using hb : b = s2.heap.objs.size + 1 ∨ b = s2.heap.objs.size) with rfl | rfl <;> omega
    exact I2.fpOk hle (I2.hok.fresh hle)

/-! ### staticmethods -/
/-- C.m is a staticmethod: its record at p, its def at g -/
structure SMet (K : PySem.W.Frag) (C : Addr) (mc : Value) (m : Str) (p g : Addr) : Prop where
  at_ : PySem.W.findCls K (.ref C) mc m = some (.get (.builtin "staticmethod.__get__") (.ref p) .none (.ref C))
  rc : ∃ rest, PySem.W.recIn K p "staticmethod" = some (.ref g :: rest)
  kp : PySem.W.keepIn K (.ref g) = true
theorem getmethsm_ok {X : Cx} {pins : List (Addr × Obj)} {σ : L2.St} {H : Hp} {s : Shared} {C p g : Addr} {mc : Value} {m : Str} {A : Around} {E : Value → Shared → Prop} {pl : Sem Bool} {Q : Value × List Value → Shared → Prop} (I : Inv X pins σ H s) (r : CRead X.K C mc) (k : SMet X.K C mc m p g)
    (h : ∀ s', Inv X pins σ H s' → Q (.ref g, []) s') : wpAny (model X.prog X.w) A (getMethod (.ref C) m pl) Q E s := by
  obtain ⟨rest, hp⟩ := k.rc
  exact PySem.W.method_cls I.kIn r.ga (PySem.W.cls_bind I.kIn r.rd k.at_ (wpAny_call (PySem.W.sm_get (s := { s with toks := s.toks + 1 }) I.kIn hp (PySem.W.handed_on rfl (h _ (I.tok _))))))
/-- e.m(..), e the class at C, m a staticmethod -/
def tSMeth (C : Addr) (sp : Sp) (E : XK) (ta : TE) (t : TA) : TE := fun σ H Q => ta σ H fun x H1 => x = .ref C ∧ t σ H1 fun vs H2 => sp vs H2 Q E
section
variable {X : Cx} {CX : CXT} {k : Nat} {C p g : Addr} {fd : FuncData} {ps : List Str} {mc : Value} {sp : Sp} {E : XK} {o e : Expr} {es : List Expr} {kws : List Keyword} {m : Str} {pos apos : Pos} {ta : TE} {t : TA} {pl : Sem Bool}
theorem pe_smeth (he : PE X o ta) (r : CRead X.K C mc) (c : SMet X.K C mc m p g) (F : FnOk X.prog X.w X.K X.mg X.base CX k g fd ps sp) (hb : Binds X.K fd ps []) (hr : Room k X.A) (hx : Passes CX X E) (ha : PA X (e :: es) t)
    (hst : starEach (e :: es) X.env = (false, eval e X.env) :: starEach es X.env := by rfl) (hpl : (backTo pos (starEach (e :: es) X.env)).any (·.1) = false := by rfl)
    (ht : eval (.Call (.Attribute o m apos) (e :: es) [] pos) X.env = (do
      let ov ← eval o X.env
      standAt apos.atName
      let (f, first) ← holding [ov] (getMethod ov m pl)
      callWith pos f first (backTo pos (starEach (e :: es) X.env)) (backToKw pos (keywordEach [] X.env))) := by rfl) :
    PE X (.Call (.Attribute o m apos) (e :: es) [] pos) (tSMeth C sp E ta t) := by
  refine ⟨fun pins s σ H Q I h => ?_⟩
  refine PySem.W.methodCall_KW (pl := pl) (thn (he.run pins s σ H _ I h) fun u s1 ⟨x, H1, I1, rx, ex, q⟩ => ?_) ht
  subst ex
  obtain rfl : u = Value.ref C := rx
  refine getmethsm_ok I1 r c fun s2 I2 => ?_
  refine PySem.W.callWith_KW (h₀ := X.base) (kws := []) I2.ok.mod.kin c.kp rfl (thn (ha.run pos pins s2 σ H1 _ I2 q) fun us s3 ⟨vs, H2, I3, rv, q2⟩ => wpAny_evalAll_nil ⟨I3.kIn, ?_⟩) (by rw [hpl]; rfl) hst
  exact wpAny_call (run_fnR (F.raw hb .nil) hr hx I3 rv (by rw [List.append_nil]; exact q2))
/-- e.m(k = v), all by name -/
theorem pe_smethK {ks : List Str} {gg : List Value → List Value → List Value} {gV : List V → List V → List V} {tk : TA} (he : PE X o ta) (r : CRead X.K C mc) (c : SMet X.K C mc m p g) (F : FnOk X.prog X.w X.K X.mg X.base CX k g fd ps sp) (hb : KBinds X.K fd ps ks gg gV) (hr : Room k X.A) (hx : Passes CX X E) (hkw : PK X kws tk)
    (hall : (backToKw pos (keywordEach kws X.env)).all (·.1.isSome) = true := by rfl) (hks : (backToKw pos (keywordEach kws X.env)).filterMap (·.1) = ks := by rfl) (hpl : ((backTo pos (starEach [] X.env)).any (·.1) || (backToKw pos (keywordEach kws X.env)).any (·.1.isNone)) = false := by rfl)
    (ht : eval (.Call (.Attribute o m apos) [] kws pos) X.env = (do
      let ov ← eval o X.env
      standAt apos.atName
      let (f, first) ← holding [ov] (getMethod ov m pl)
      callWith pos f first (backTo pos (starEach [] X.env)) (backToKw pos (keywordEach kws X.env))) := by rfl) :
    PE X (.Call (.Attribute o m apos) [] kws pos) (fun σ H Q => ta σ H fun x H1 => x = .ref C ∧ tk σ H1 fun zs H2 => sp (gV [] zs) H2 Q E) := by
  refine ⟨fun pins s σ H Q I h => ?_⟩
  refine PySem.W.methodCall_KW (pl := pl) (thn (he.run pins s σ H _ I h) fun u s1 ⟨x, H1, I1, rx, ex, q⟩ => ?_) ht
  subst ex
  obtain rfl : u = Value.ref C := rx
  refine getmethsm_ok I1 r c fun s2 I2 => ?_
  refine PySem.W.callWith_KW0 (h₀ := X.base) I2.ok.mod.kin c.kp hall (thn (hkw.run pos pins s2 σ H1 _ I2 q) fun us s3 ⟨vs, H2, I3, rv, q2⟩ => ⟨I3.kIn, ?_⟩) hpl
  rw [hks]
  exact run_fnk F hr hb hx I3 .nil rv q2
end
end MK
set_option Elab.async false
set_option linter.all false
set_option autoImplicit false
set_option maxRecDepth 100000
set_option maxHeartbeats 1000000
/-! kinds as texts -/
namespace MK
open PySem PySem.Spec PyProof.Rows L2 TL
def numS (i : Int) : Str := Str.ofString (toString i)
def digS (d : Nat) : Str := ⟨#[48 + d]⟩
theorem numS_dig {d : Nat} (h : d < 5) : numS (d : Nat) = digS d := (by decide +kernel : ∀ d : Fin 5, numS ((d.val : Nat) : Int) = digS d.val) ⟨d, h⟩
theorem numS_neg : numS (-1) = ("-1" : Str) := by decide +kernel
theorem int_dig {d : Nat} (h : d < 10) : PySem.intText? (digS d) = some (d : Int) := (by decide +kernel : ∀ d : Fin 10, PySem.intText? (digS d.val) = some ((d.val : Nat) : Int)) ⟨d, h⟩
/-- the lines of a text -/
inductive Ln where
  | M (n : Nat)
  | F (f : FD)
  | C (nm hand : Str) (mv : List Int)
  | D (d : Str × Str)
  | S (x : Str)
def Ln.kd : Ln → Nat
  | .M _ => 0
  | .F _ => 1
  | .C .. => 2
  | .D _ => 3
  | .S _ => 4
def needL (b : Bool) : List Str := if b then ["need"] else []
def Ln.parts : Ln → List Str
  | .M n => ["modes", numS n]
  | .F f => ([("field" : Str), f.nm, sortS f.many] : List Str) ++ needL f.need
  | .C nm hand mv => ([("call" : Str), nm, hand] : List Str) ++ mv.map numS
  | .D d => ["do", d.1, d.2]
  | .S x => ["same", x]
def Ln.text (l : Ln) : Str := Txt.join " " l.parts
def itemsC (c : CD) : List Ln := .C c.nm c.hand c.moves :: (c.deeds.map .D ++ c.same.map .S)
def items (fs : List FD) (n : Nat) (cs : List CD) : List Ln := .M n :: (fs.map .F ++ cs.flatMap itemsC)
def nlS (x : Str) : Str := x ++ "\n"
def textK (ls : List Ln) : Str := Txt.join Str.empty (ls.map fun l => nlS l.text)
/-! ### the lines as the program and the law write them -/
theorem emp_l (x : Str) : Str.empty ++ x = x := ext_tl (by rw [tl_append]; rfl)
theorem emp_r (x : Str) : x ++ Str.empty = x := ext_tl (by rw [tl_append]; exact List.append_nil _)
theorem join2 (a b : Str) : Txt.join " " [a, b] = a ++ (" " ++ b) := by
  rw [join_eq]
  refine ext_tl ?_
  rw [tl_join, tl_append, tl_append]
  rfl
theorem join3 (a b c : Str) : Txt.join " " [a, b, c] = a ++ (" " ++ (b ++ (" " ++ c))) := by
  rw [join_eq]
  refine ext_tl ?_
  rw [tl_join, tl_append, tl_append, tl_append, tl_append]
  rfl
theorem join4 (a b c d : Str) : Txt.join " " [a, b, c, d] = a ++ (" " ++ (b ++ (" " ++ (c ++ (" " ++ d))))) := by
  rw [join_eq]
  refine ext_tl ?_
  rw [tl_join, tl_append, tl_append, tl_append, tl_append, tl_append, tl_append]
  rfl
theorem ass (a b c : Str) : a ++ b ++ c = a ++ (b ++ c) := ext_tl (by simp only [tl_append, List.append_assoc])
theorem textM (n : Nat) : ("modes " : Str) ++ numS n = (Ln.M n).text := by
  show _ = Txt.join " " [_, _]
  rw [join2, ← ass]
  rfl
theorem textF (f : FD) (h : f.need = false) : ("field " : Str) ++ f.nm ++ " " ++ sortS f.many = (Ln.F f).text := by
  show _ = Txt.join " " (_ ++ needL f.need)
  rw [h]
  show _ = Txt.join " " [_, _, _]
  rw [join3, ← ass (("field" : Str)), ass, ass]
  rfl
theorem textFn (f : FD) (h : f.need = true) : ("field " : Str) ++ f.nm ++ " " ++ sortS f.many ++ " need" = (Ln.F f).text := by
  show _ = Txt.join " " (_ ++ needL f.need)
  rw [h]
  show _ = Txt.join " " [_, _, _, _]
  rw [join4, ← ass (("field" : Str)), ass, ass, ass]
  rfl
theorem textD (d : Str × Str) : ("do " : Str) ++ d.1 ++ " " ++ d.2 = (Ln.D d).text := by
  show _ = Txt.join " " [_, _, _]
  rw [join3, ← ass (("do" : Str)), ass, ass]
  rfl
theorem textS (x : Str) : ("same " : Str) ++ x = (Ln.S x).text := by
  show _ = Txt.join " " [_, _]
  rw [join2, ← ass]
  rfl
/-! ### they are read back -/
/-- a part of a line -/
structure PartOk (p : Str) : Prop where
  nl : 10 ∉ tl p
  sp : 32 ∉ tl p
  le : p.length ≤ 8
structure LnOk (l : Ln) : Prop where
  few : l.parts.length ≤ 8
  part : ∀ p ∈ l.parts, PartOk p
theorem Ln.parts_ne (l : Ln) : l.parts ≠ [] := by
  intro e
  have := congrArg List.length e
  revert this
  cases l <;> simp [Ln.parts]
theorem split_parts {l : Ln} (h : LnOk l) : Txt.split l.text " " = l.parts :=
  split_join (s := 32) (S := []) rfl (by decide +kernel) l.parts_ne fun p m => (h.part p m).sp
theorem joinL_mem {S : List Nat} {c : Nat} (hS : c ∉ S) : ∀ {ps : List (List Nat)}, (∀ p ∈ ps, c ∉ p) → c ∉ joinL S ps
  | [], _ => nofun
  | [p], h => h p (List.mem_singleton.mpr rfl)
  | p :: q :: r, h => fun m => by
    rcases List.mem_append.mp m with m | m
    · exact h p List.mem_cons_self m
    · rcases List.mem_append.mp m with m | m
      · exact hS m
      · exact joinL_mem hS (fun p hp => h p (List.mem_cons_of_mem _ hp)) m
theorem text_nl {l : Ln} (h : LnOk l) : 10 ∉ tl l.text := by
  unfold Ln.text
  rw [join_eq, tl_join]
  refine joinL_mem (by decide) fun p m => ?_
  obtain ⟨z, hz, rfl⟩ := List.mem_map.mp m
  exact (h.part z hz).nl
theorem joinL_emp : ∀ xs : List (List Nat), joinL [] xs = xs.flatten
  | [] => rfl
  | [p] => by simp [joinL]
  | p :: q :: r => by
    show p ++ ([] ++ joinL [] (q :: r)) = _
    rw [List.nil_append, joinL_emp (q :: r)]
    rfl
theorem joinL_nl : ∀ xs : List (List Nat), joinL [10] (xs ++ [[]]) = (xs.map (· ++ [10])).flatten
  | [] => rfl
  | [p] => by
    show p ++ ([10] ++ []) = (p ++ [10]) ++ []
    simp
  | p :: q :: r => by
    show p ++ ([10] ++ joinL [10] ((q :: r) ++ [[]])) = (p ++ [10]) ++ ((q :: r).map (· ++ [10])).flatten
    rw [joinL_nl (q :: r), List.append_assoc]
theorem textK_eq (ls : List Ln) : textK ls = Txt.join "\n" (ls.map Ln.text ++ [Str.empty]) := by
  unfold textK
  rw [join_eq, join_eq]
  refine ext_tl ?_
  rw [tl_join, tl_join, List.map_append, List.map_map, List.map_map]
  show joinL [] _ = joinL [10] (_ ++ [[]])
  rw [joinL_emp, joinL_nl, List.map_map]
  refine congrArg List.flatten (List.map_congr_left fun l _ => ?_)
  show tl (nlS l.text) = tl l.text ++ [10]
  unfold nlS
  rw [tl_append]
  rfl
theorem split_lines {ls : List Ln} (h : ∀ l ∈ ls, LnOk l) : Txt.split (textK ls) "\n" = ls.map Ln.text ++ [Str.empty] := by
  rw [textK_eq]
  refine split_join (s := 10) (S := []) rfl (by decide +kernel) (by simp) fun p m => ?_
  rcases List.mem_append.mp m with m | m
  · obtain ⟨l, hl, rfl⟩ := List.mem_map.mp m
    exact text_nl (h l hl)
  · rw [List.mem_singleton.mp m]
    exact nofun
/-! ### how long they are -/
theorem joinL_len {S : List Nat} {k : Nat} : ∀ {ps : List (List Nat)}, (∀ p ∈ ps, p.length ≤ k) → (joinL S ps).length ≤ ps.length * (k + S.length)
  | [], _ => Nat.zero_le _
  | [p], h => by
    have := h p (List.mem_singleton.mpr rfl)
    show p.length ≤ 1 * _
    omega
  | p :: q :: r, h => by
    have h1 := h p List.mem_cons_self
    have h2 := joinL_len (S := S) (ps := q :: r) fun p hp => h p (List.mem_cons_of_mem _ hp)
    show (p ++ (S ++ joinL S (q :: r))).length ≤ ((q :: r).length + 1) * _
    rw [List.length_append, List.length_append, Nat.add_mul]
    omega
theorem text_len {l : Ln} (h : LnOk l) : l.text.length ≤ 72 := by
  unfold Ln.text
  rw [join_eq, len_tl, tl_join]
  have h1 := joinL_len (S := tl " ") (k := 8) (ps := l.parts.map tl) fun p m => by
    obtain ⟨z, hz, rfl⟩ := List.mem_map.mp m
    rw [← len_tl]
    exact (h.part z hz).le
  rw [List.length_map, show (tl " ").length = 1 from rfl] at h1
  have := h.few
  omega
theorem sum_le {k : Nat} : ∀ {xs : List Nat}, (∀ x ∈ xs, x ≤ k) → xs.sum ≤ xs.length * k
  | [], _ => Nat.zero_le _
  | x :: xs, h => by
    have h1 := h x List.mem_cons_self
    have h2 := sum_le (xs := xs) fun y hy => h y (List.mem_cons_of_mem _ hy)
    rw [List.sum_cons, List.length_cons, Nat.add_mul]
    omega
theorem nl_len {l : Ln} (h : LnOk l) : (nlS l.text).length ≤ 73 := by
  have := text_len h
  unfold nlS
  rw [len_tl, tl_append, List.length_append, ← len_tl]
  show _ + 1 ≤ 73
  omega
theorem all_len {ls : List Ln} (h : ∀ l ∈ ls, LnOk l) (few : ls.length ≤ 100) : ((ls.map fun l => nlS l.text).map (·.length)).sum + (ls.map fun l => nlS l.text).length * Str.empty.length ≤ 7300 := by
  have h1 := sum_le (k := 73) (xs := (ls.map fun l => nlS l.text).map (·.length)) fun x m => by
    obtain ⟨z, hz, rfl⟩ := List.mem_map.mp m
    obtain ⟨l, hl, rfl⟩ := List.mem_map.mp hz
    exact nl_len (h l hl)
  rw [List.length_map, List.length_map] at h1
  have h0 : Str.empty.length = 0 := rfl
  rw [h0, Nat.mul_zero]
  omega
theorem textK_len {ls : List Ln} (h : ∀ l ∈ ls, LnOk l) (few : ls.length ≤ 100) : (textK ls).length ≤ 7300 := by
  unfold textK
  rw [join_eq, len_tl, tl_join, show tl Str.empty = [] from rfl]
  have h1 := joinL_len (S := []) (k := 73) (ps := (ls.map fun l => nlS l.text).map tl) fun p m => by
    obtain ⟨z, hz, rfl⟩ := List.mem_map.mp m
    obtain ⟨l, hl, rfl⟩ := List.mem_map.mp hz
    rw [← len_tl]
    exact nl_len (h l hl)
  rw [List.length_map, List.length_map] at h1
  rw [List.length_nil] at h1
  show _ ≤ 7300
  omega
/-! ### a kind's lines are good -/
theorem word_part {z : Str} (h : wordB z = true) : PartOk z := by
  unfold wordB at h
  simp only [Bool.and_eq_true, decide_eq_true_eq, List.all_eq_true] at h
  obtain ⟨⟨h1, h2⟩, h3⟩ := h
  have no : ∀ c, c < 97 → c ∉ tl z := fun c hc m => by
    have := h3 c m
    unfold letterB at this
    simp only [Bool.and_eq_true, decide_eq_true_eq] at this
    omega
  exact ⟨no 10 (by decide), no 32 (by decide), h2⟩
theorem num_part {i : Int} (h1 : -1 ≤ i) (h2 : i ≤ 4) : PartOk (numS i) := by
  have all : ∀ d : Fin 6, decide (10 ∉ tl (numS ((d.val : Int) - 1))) && decide (32 ∉ tl (numS ((d.val : Int) - 1))) && decide ((numS ((d.val : Int) - 1)).length ≤ 8) = true := by decide +kernel
  have := all ⟨(i + 1).toNat, by omega⟩
  have e : (((i + 1).toNat : Nat) : Int) - 1 = i := by omega
  simp only [Bool.and_eq_true, decide_eq_true_eq, e] at this
  exact ⟨this.1.1, this.1.2, this.2⟩
def litB (z : Str) : Bool := decide (10 ∉ tl z) && decide (32 ∉ tl z) && decide (z.length ≤ 8)
theorem lit_part {z : Str} (h : litB z = true) : PartOk z := by
  unfold litB at h
  simp only [Bool.and_eq_true, decide_eq_true_eq] at h
  exact ⟨h.1.1, h.1.2, h.2⟩
/-- what can stand in a line -/
def LnGood : Ln → Prop
  | .M n => n ≤ 4
  | .F f => wordB f.nm = true
  | .C nm hand mv => wordB nm = true ∧ wordB hand = true ∧ mv.length ≤ 4 ∧ ∀ m ∈ mv, -1 ≤ m ∧ m ≤ 4
  | .D d => wordB d.1 = true ∧ wordB d.2 = true
  | .S x => wordB x = true
theorem LnGood.ok : ∀ {l : Ln}, LnGood l → LnOk l
  | .M n, h => ⟨by show 2 ≤ 8; decide, fun p m => by
      have h : n ≤ 4 := h
      have m : p ∈ ([("modes" : Str), numS n] : List Str) := m
      simp only [List.mem_cons, List.not_mem_nil, or_false] at m
      rcases m with rfl | rfl
      · exact lit_part (by decide +kernel)
      · exact num_part (by omega) (by omega)⟩
  | .F f, h => by
    have h : wordB f.nm = true := h
    have hs : PartOk (sortS f.many) := lit_part (by cases f.many <;> decide +kernel)
    have hn : ∀ p ∈ needL f.need, PartOk p := fun p m => by
      cases q : f.need with
      | false =>
        rw [q] at m
        cases m
      | true =>
        rw [q] at m
        rw [List.mem_singleton.mp m]
        exact lit_part (by decide +kernel)
    refine ⟨?_, fun p m => ?_⟩
    · show (([("field" : Str), f.nm, sortS f.many] : List Str) ++ needL f.need).length ≤ 8
      cases f.need
      · show 3 ≤ 8
        decide
      · show 4 ≤ 8
        decide
    · have m : p ∈ ([("field" : Str), f.nm, sortS f.many] : List Str) ++ needL f.need := m
      rcases List.mem_append.mp m with m | m
      · simp only [List.mem_cons, List.not_mem_nil, or_false] at m
        rcases m with rfl | rfl | rfl
        · exact lit_part (by decide +kernel)
        · exact word_part h
        · exact hs
      · exact hn p m
  | .C nm hand mv, h => by
    obtain ⟨h1, h2, h3, h4⟩ := h
    refine ⟨?_, fun p m => ?_⟩
    · show (([("call" : Str), nm, hand] : List Str) ++ mv.map numS).length ≤ 8
      rw [List.length_append, List.length_map]
      show 3 + _ ≤ 8
      omega
    · have m : p ∈ ([("call" : Str), nm, hand] : List Str) ++ mv.map numS := m
      rcases List.mem_append.mp m with m | m
      · simp only [List.mem_cons, List.not_mem_nil, or_false] at m
        rcases m with rfl | rfl | rfl
        · exact lit_part (by decide +kernel)
        · exact word_part h1
        · exact word_part h2
      · obtain ⟨i, hi, rfl⟩ := List.mem_map.mp m
        exact num_part (h4 i hi).1 (h4 i hi).2
  | .D d, h => ⟨by show 3 ≤ 8; decide, fun p m => by
      obtain ⟨h1, h2⟩ := h
      have m : p ∈ ([("do" : Str), d.1, d.2] : List Str) := m
      simp only [List.mem_cons, List.not_mem_nil, or_false] at m
      rcases m with rfl | rfl | rfl
      · exact lit_part (by decide +kernel)
      · exact word_part h1
      · exact word_part h2⟩
  | .S x, h => ⟨by show 2 ≤ 8; decide, fun p m => by
      have h : wordB x = true := h
      have m : p ∈ ([("same" : Str), x] : List Str) := m
      simp only [List.mem_cons, List.not_mem_nil, or_false] at m
      rcases m with rfl | rfl
      · exact lit_part (by decide +kernel)
      · exact word_part h⟩
/-! ### what is read, line by line -/
structure Dra where
  modes : Option Nat
  fs : List FD
  cs : List CD
inductive Step : Dra → Ln → Dra → Prop
  | m {n : Nat} : Step ⟨none, [], []⟩ (.M n) ⟨some n, [], []⟩
  | f {n : Nat} {fs : List FD} {f : FD} : fs.length ≤ 100 → Step ⟨some n, fs, []⟩ (.F f) ⟨some n, fs ++ [f], []⟩
  | c {n : Nat} {fs : List FD} {cs : List CD} {nm hand : Str} {mv : List Int} : cs.length ≤ 100 → Step ⟨some n, fs, cs⟩ (.C nm hand mv) ⟨some n, fs, cs ++ [⟨nm, hand, mv, [], []⟩]⟩
  | d {n : Nat} {fs : List FD} {cs : List CD} {nm hand : Str} {mv : List Int} {ds : List (Str × Str)} {d : Str × Str} : ds.length ≤ 100 → cs.length ≤ 100 → Step ⟨some n, fs, cs ++ [⟨nm, hand, mv, ds, []⟩]⟩ (.D d) ⟨some n, fs, cs ++ [⟨nm, hand, mv, ds ++ [d], []⟩]⟩
  | s {n : Nat} {fs : List FD} {cs : List CD} {nm hand : Str} {mv : List Int} {ds : List (Str × Str)} {ss : List Str} {x : Str} : ss.length ≤ 100 → cs.length ≤ 100 → Step ⟨some n, fs, cs ++ [⟨nm, hand, mv, ds, ss⟩]⟩ (.S x) ⟨some n, fs, cs ++ [⟨nm, hand, mv, ds, ss ++ [x]⟩]⟩
inductive Goes : Dra → List Ln → Dra → Prop
  | nil {a : Dra} : Goes a [] a
  | cons {a b c : Dra} {l : Ln} {r : List Ln} : Step a l b → Goes b r c → Goes a (l :: r) c
theorem Goes.app {a b c : Dra} {xs ys : List Ln} (h : Goes a xs b) (g : Goes b ys c) : Goes a (xs ++ ys) c := by
  induction h with
  | nil => exact g
  | cons s _ ih => exact .cons s (ih g)
theorem goes_f {n : Nat} : ∀ {gs fs : List FD}, fs.length + gs.length ≤ 100 → Goes ⟨some n, fs, []⟩ (gs.map .F) ⟨some n, fs ++ gs, []⟩
  | [], fs, _ => by rw [List.append_nil]; exact .nil
  | g :: gs, fs, h => by
    rw [List.length_cons] at h
    have := goes_f (n := n) (gs := gs) (fs := fs ++ [g]) (by rw [List.length_append]; show _ + 1 + _ ≤ 100; omega)
    rw [List.append_assoc] at this
    exact .cons (.f (by omega)) this
theorem goes_d {n : Nat} {fs : List FD} {cs : List CD} {nm hand : Str} {mv : List Int} (hc : cs.length ≤ 100) : ∀ {es ds : List (Str × Str)}, ds.length + es.length ≤ 100 → Goes ⟨some n, fs, cs ++ [⟨nm, hand, mv, ds, []⟩]⟩ (es.map .D) ⟨some n, fs, cs ++ [⟨nm, hand, mv, ds ++ es, []⟩]⟩
  | [], ds, _ => by rw [List.append_nil]; exact .nil
  | e :: es, ds, h => by
    rw [List.length_cons] at h
    have := goes_d (n := n) (fs := fs) (nm := nm) (hand := hand) (mv := mv) hc (es := es) (ds := ds ++ [e]) (by rw [List.length_append]; show _ + 1 + _ ≤ 100; omega)
    rw [List.append_assoc] at this
    exact .cons (.d (by omega) hc) this
theorem goes_s {n : Nat} {fs : List FD} {cs : List CD} {nm hand : Str} {mv : List Int} {ds : List (Str × Str)} (hc : cs.length ≤ 100) : ∀ {es ss : List Str}, ss.length + es.length ≤ 100 → Goes ⟨some n, fs, cs ++ [⟨nm, hand, mv, ds, ss⟩]⟩ (es.map .S) ⟨some n, fs, cs ++ [⟨nm, hand, mv, ds, ss ++ es⟩]⟩
  | [], ss, _ => by rw [List.append_nil]; exact .nil
  | e :: es, ss, h => by
    rw [List.length_cons] at h
    have := goes_s (n := n) (fs := fs) (nm := nm) (hand := hand) (mv := mv) (ds := ds) hc (es := es) (ss := ss ++ [e]) (by rw [List.length_append]; show _ + 1 + _ ≤ 100; omega)
    rw [List.append_assoc] at this
    exact .cons (.s (by omega) hc) this
theorem goes_c {n : Nat} {fs : List FD} : ∀ {gs cs : List CD}, cs.length + gs.length ≤ 100 → (∀ c ∈ gs, c.deeds.length ≤ 100 ∧ c.same.length ≤ 100) → Goes ⟨some n, fs, cs⟩ (gs.flatMap itemsC) ⟨some n, fs, cs ++ gs⟩
  | [], cs, _, _ => by rw [List.append_nil]; exact .nil
  | g :: gs, cs, h, hg => by
    rw [List.length_cons] at h
    have hc : cs.length ≤ 100 := by omega
    obtain ⟨g1, g2⟩ := hg g List.mem_cons_self
    have := goes_c (n := n) (fs := fs) (gs := gs) (cs := cs ++ [g]) (by rw [List.length_append]; show _ + 1 + _ ≤ 100; omega) fun c m => hg c (List.mem_cons_of_mem _ m)
    rw [List.append_assoc] at this
    refine Goes.app (xs := itemsC g) ?_ this
    have d := goes_d (n := n) (fs := fs) (nm := g.nm) (hand := g.hand) (mv := g.moves) hc (es := g.deeds) (ds := []) (by show 0 + _ ≤ 100; omega)
    have s := goes_s (n := n) (fs := fs) (nm := g.nm) (hand := g.hand) (mv := g.moves) (ds := [] ++ g.deeds) hc (es := g.same) (ss := []) (by show 0 + _ ≤ 100; omega)
    exact .cons (.c hc) (d.app s)
theorem hand_word {z : Str} (h : z = "self" ∨ z = "new" ∨ z = "last") : wordB z = true := by
  rcases h with rfl | rfl | rfl <;> decide +kernel
theorem deed_word {z : Str} {b : Bool} (h : b ∈ deedSorts z) : wordB z = true := by
  unfold deedSorts at h
  by_cases e1 : z = ("set" : Str)
  · rw [e1]; decide +kernel
  rw [if_neg e1] at h
  by_cases e2 : z = ("add" : Str)
  · rw [e2]; decide +kernel
  rw [if_neg e2] at h
  by_cases e3 : z = ("strike" : Str)
  · rw [e3]; decide +kernel
  rw [if_neg e3] at h
  by_cases e4 : z = ("fresh" : Str)
  · rw [e4]; decide +kernel
  rw [if_neg e4] at h
  by_cases e5 : z = ("clear" : Str)
  · rw [e5]; decide +kernel
  rw [if_neg e5] at h
  cases h
theorem same_few {fs : List FD} {n : Nat} {c : CD} (f : FsOk fs) (h : CdOk fs n c) : c.same.length ≤ 3 := by
  have := len_sub h.nd (ys := fs.map (·.nm)) fun x m => by
    obtain ⟨f, hf, e, _⟩ := h.same x m
    exact e ▸ List.mem_map_of_mem hf
  rw [List.length_map] at this
  have := f.le
  omega
theorem items_good {fs : List FD} {n : Nat} {cs : List CD} (ok : KdOk fs n cs) : ∀ l ∈ items fs n cs, LnGood l := by
  intro l m
  rcases List.mem_cons.mp m with rfl | m
  · exact ok.le
  rcases List.mem_append.mp m with m | m
  · obtain ⟨f, hf, rfl⟩ := List.mem_map.mp m
    exact ok.fields.word f hf
  obtain ⟨c, hc, m⟩ := List.mem_flatMap.mp m
  have hk := ok.calls c hc
  rcases List.mem_cons.mp m with rfl | m
  · exact ⟨hk.word, hand_word hk.hand, by rw [hk.len]; exact ok.le, fun i hi => ⟨(hk.move i hi).1, by have := (hk.move i hi).2; have := ok.le; omega⟩⟩
  rcases List.mem_append.mp m with m | m
  · obtain ⟨d, hd, rfl⟩ := List.mem_map.mp m
    obtain ⟨f, hf, e, hs⟩ := hk.deed d hd
    exact ⟨deed_word hs, e ▸ ok.fields.word f hf⟩
  · obtain ⟨x, hx, rfl⟩ := List.mem_map.mp m
    obtain ⟨f, hf, e, _⟩ := hk.same x hx
    exact (e ▸ ok.fields.word f hf : wordB x = true)
theorem items_go {fs : List FD} {n : Nat} {cs : List CD} (ok : KdOk fs n cs) : Goes ⟨none, [], []⟩ (items fs n cs) ⟨some n, fs, cs⟩ := by
  refine .cons .m (Goes.app (goes_f (fs := []) (by have := ok.fields.le; show 0 + _ ≤ 100; omega)) ?_)
  refine goes_c (cs := []) (by have := ok.cle; show 0 + _ ≤ 100; omega) fun c m => ?_
  have h1 := (ok.calls c m).deeds
  have h2 := same_few ok.fields (ok.calls c m)
  exact ⟨by omega, by omega⟩
theorem flat_len {fs : List FD} {n : Nat} (f : FsOk fs) : ∀ {cs : List CD}, (∀ c ∈ cs, CdOk fs n c) → (cs.flatMap itemsC).length ≤ cs.length * 8
  | [], _ => Nat.zero_le _
  | c :: cs, h => by
    have h0 := h c List.mem_cons_self
    have h1 := h0.deeds
    have h2 := same_few f h0
    have h3 := flat_len f (cs := cs) fun d m => h d (List.mem_cons_of_mem _ m)
    show ((itemsC c) ++ cs.flatMap itemsC).length ≤ (cs.length + 1) * 8
    have e : (itemsC c).length = c.deeds.length + c.same.length + 1 := by
      show (_ :: (_ ++ _)).length = _
      rw [List.length_cons, List.length_append, List.length_map, List.length_map]
    rw [List.length_append, e]
    omega
theorem items_few {fs : List FD} {n : Nat} {cs : List CD} (ok : KdOk fs n cs) : (items fs n cs).length ≤ 60 := by
  have h1 := flat_len ok.fields ok.calls
  have h2 := ok.fields.le
  have h3 := ok.cle
  show (_ :: (_ ++ _)).length ≤ 60
  rw [List.length_cons, List.length_append, List.length_map]
  omega
theorem step_tail {ls : List Ln} {i : Nat} {l : Ln} (h : ls[i]? = some l) : ls.drop i = l :: ls.drop (i + 1) := by
  have hi := (List.getElem?_eq_some_iff.mp h).1
  rw [List.drop_eq_getElem_cons hi, (List.getElem?_eq_some_iff.mp h).2]
end MK
set_option Elab.async false
set_option linter.all false
set_option autoImplicit false
set_option maxRecDepth 100000
set_option maxHeartbeats 1000000
/-! a draft, as it stands -/
namespace MK
open PySem PySem.Spec PyProof.Rows L2
/-- all but what stands at the addresses M -/
def Hid (M : List Addr) (H : Hp) : Hp := fun b => if b ∈ M then none else H b
theorem hid_in {M : List Addr} {H : Hp} {b : Addr} (h : b ∈ M) : Hid M H b = none := if_pos h
theorem hid_out {M : List Addr} {H : Hp} {b : Addr} (h : b ∉ M) : Hid M H b = H b := if_neg h
theorem hid_some {M : List Addr} {H : Hp} {b : Addr} {o : HO} (h : Hid M H b = some o) : b ∉ M ∧ H b = some o := by
  by_cases e : b ∈ M
  · rw [hid_in e] at h
    cases h
  · rw [hid_out e] at h
    exact ⟨e, h⟩
theorem hid_same {M : List Addr} {H : Hp} : Same (Hid M H) H := fun b o h => (hid_some h).2
theorem hid_get {M : List Addr} {H : Hp} {b : Addr} {o : HO} (h : H b = some o) (n : b ∉ M) : Hid M H b = some o := (hid_out n).trans h
theorem hid_go {M M' : List Addr} {H H' : Hp} (h : ∀ b o, b ∉ M → H b = some o → b ∉ M' ∧ H' b = some o) : Same (Hid M H) (Hid M' H') := fun b o hb => by
  obtain ⟨n, hb⟩ := hid_some hb
  obtain ⟨n', hb'⟩ := h b o n hb
  exact hid_get hb' n'
theorem hid_keep {M : List Addr} {H H' : Hp} (e : Same H H') : Same (Hid M H) (Hid M H') := hid_go fun b o n h => ⟨n, e _ _ h⟩
theorem hid_put {M : List Addr} {H H' : Hp} {a : Addr} {o : HO} (e : Same H H') (h : a ∈ M) : Same (Hid M H) (Hid M (upd H' a o)) := hid_go fun b u n hb => ⟨n, by
  rw [upd_ne (fun q : b = a => n (q.symm ▸ h))]
  exact e _ _ hb⟩
theorem hid_off {M : List Addr} {H : Hp} {a : Addr} (h : a ∈ M) : Same (Hid M H) (Off a H) := fun b o hb => by
  obtain ⟨n, hb⟩ := hid_some hb
  rw [off_ne (fun q : b = a => n (q.symm ▸ h))]
  exact hb
def mV : Option Nat → V
  | none => .non
  | some n => .int (n : Nat)
/-- the call that is being read: its lists of deeds and of same may be changed -/
def LastT (K : PySem.W.Frag) (H : Hp) (M : List Addr) (lf lc : Addr) (v : V) (c : CD) : Prop := ∃ (t m dl sl : Addr) (dvs : List V), v = .ref t ∧ Hid M H t = some (.tup [.str c.nm, .str c.hand, .ref m, .ref dl, .ref sl]) ∧ Hid M H m = some (.lst (c.moves.map V.int)) ∧
  (dl ∈ M ∧ sl ∈ M ∧ dl ≠ sl ∧ dl ≠ lf ∧ dl ≠ lc ∧ sl ≠ lf ∧ sl ≠ lc) ∧ H dl = some (.lst dvs) ∧ Al (DeT K (Hid M H)) dvs c.deeds ∧ H sl = some (.lst (c.same.map V.str))
def CsT (K : PySem.W.Frag) (H : Hp) (M : List Addr) (lf lc : Addr) (cvs : List V) (cs : List CD) : Prop := (cvs = [] ∧ cs = []) ∨ ∃ (cvs0 : List V) (v : V) (cs0 : List CD) (c : CD), cvs = cvs0 ++ [v] ∧ cs = cs0 ++ [c] ∧ Al (CdA K (Hid M H)) cvs0 cs0 ∧ LastT K H M lf lc v c
def drV (m : Option Nat) (lf lc : Addr) : List (Str × V) := [("modes", mV m), ("field_items", .ref lf), ("call_items", .ref lc)]
/-- a draft at dr, of which M may be changed -/
structure DrA (K : PySem.W.Frag) (DC : Addr) (H : Hp) (M : List Addr) (dr dx lf lc : Addr) (fvs cvs : List V) (a : Dra) : Prop where
  live : ∀ b ∈ M, H b ≠ none
  mem : dr ∈ M ∧ lf ∈ M ∧ lc ∈ M ∧ lf ≠ lc
  at_ : H dr = some (.ins DC dx (drV a.modes lf lc))
  fl : H lf = some (.lst fvs)
  fs : Al (FdT K (Hid M H)) fvs a.fs
  cl : H lc = some (.lst cvs)
  cs : CsT K H M lf lc cvs a.cs
def DrT (K : PySem.W.Frag) (DC : Addr) (H : Hp) (M : List Addr) (dr : Addr) (a : Dra) : Prop := ∃ (dx lf lc : Addr) (fvs cvs : List V), DrA K DC H M dr dx lf lc fvs cvs a
section
variable {K : PySem.W.Frag} {DC : Addr} {H H' : Hp} {M : List Addr} {dr dx lf lc : Addr} {fvs cvs : List V} {a : Dra} {v : V} {c : CD}
theorem LastT.keep (e : Same H H') (h : LastT K H M lf lc v c) : LastT K H' M lf lc v c := by
  obtain ⟨t, m, dl, sl, dvs, h0, h1, h2, h3, h4, h5, h6⟩ := h
  exact ⟨t, m, dl, sl, dvs, h0, hid_keep e _ _ h1, hid_keep e _ _ h2, h3, e _ _ h4, h5.mono fun _ _ h => DeT.keep (hid_keep e) h, e _ _ h6⟩
theorem CsT.keep {cs : List CD} (e : Same H H') (h : CsT K H M lf lc cvs cs) : CsT K H' M lf lc cvs cs := by
  rcases h with h | ⟨cvs0, v, cs0, c, h1, h2, h3, h4⟩
  · exact .inl h
  · exact .inr ⟨cvs0, v, cs0, c, h1, h2, h3.mono fun _ _ h => CdA.keep (hid_keep e) h, h4.keep e⟩
theorem DrA.keep (e : Same H H') (h : DrA K DC H M dr dx lf lc fvs cvs a) : DrA K DC H' M dr dx lf lc fvs cvs a where
  live := fun b hb q => by
    cases z : H b with
    | none => exact h.live b hb z
    | some o =>
      rw [e _ _ z] at q
      cases q
  mem := h.mem
  at_ := e _ _ h.at_
  fl := e _ _ h.fl
  fs := h.fs.mono fun _ _ h => FdT.keep (hid_keep e) h
  cl := e _ _ h.cl
  cs := h.cs.keep e
theorem DrA.t (h : DrA K DC H M dr dx lf lc fvs cvs a) : DrT K DC H M dr a := ⟨dx, lf, lc, fvs, cvs, h⟩
theorem DrA.nf (h : DrA K DC H M dr dx lf lc fvs cvs a) : lf ≠ dr := fun e => by
  have := h.at_
  rw [← e, h.fl] at this
  cases this
theorem DrA.nc (h : DrA K DC H M dr dx lf lc fvs cvs a) : lc ≠ dr := fun e => by
  have := h.at_
  rw [← e, h.cl] at this
  cases this
theorem DrA.new (h : DrA K DC H M dr dx lf lc fvs cvs a) {p : Addr} (hp : H p = none) : p ∉ M := fun m => h.live p m hp
theorem live_put {p : Addr} {o : HO} (h : ∀ b ∈ M, H b ≠ none) : ∀ b ∈ M, upd H p o b ≠ none := fun b hb => by
  by_cases e : b = p
  · rw [e, upd_same]
    exact nofun
  · rw [upd_ne e]
    exact h b hb
/-- what stands elsewhere, when something of M is changed -/
theorem LastT.put {p : Addr} {o : HO} (hp : p ∈ M) (h : LastT K H M lf lc v c) (n : ∀ t m dl sl dvs, v = .ref t → H t = some (.tup [.str c.nm, .str c.hand, .ref m, .ref dl, .ref sl]) → H dl = some (.lst dvs) → dl ≠ p ∧ sl ≠ p) : LastT K (upd H p o) M lf lc v c := by
  obtain ⟨t, m, dl, sl, dvs, h0, h1, h2, h3, h4, h5, h6⟩ := h
  have e : Same (Hid M H) (Hid M (upd H p o)) := hid_put (Same.refl H) hp
  obtain ⟨n1, n2⟩ := n t m dl sl dvs h0 (hid_same _ _ h1) h4
  exact ⟨t, m, dl, sl, dvs, h0, e _ _ h1, e _ _ h2, h3, (upd_ne n1).trans h4, h5.mono fun _ _ h => DeT.keep e h, (upd_ne n2).trans h6⟩
theorem DrA.setModes {n : Nat} (h : DrA K DC H M dr dx lf lc fvs cvs ⟨none, [], []⟩) : DrA K DC (upd H dr (.ins DC dx (drV (some n) lf lc))) M dr dx lf lc fvs cvs ⟨some n, [], []⟩ where
  live := live_put h.live
  mem := h.mem
  at_ := upd_same
  fl := (upd_ne h.nf).trans h.fl
  fs := h.fs.mono fun _ _ g => FdT.keep (hid_put (Same.refl H) h.mem.1) g
  cl := (upd_ne h.nc).trans h.cl
  cs := by
    rcases h.cs with g | ⟨_, _, cs0, c, _, g, _⟩
    · exact .inl g
    · exact absurd (congrArg List.length g) (by rw [List.length_append]; exact Nat.noConfusion)
theorem DrA.addField {n : Nat} {fs : List FD} {f : FD} (h : DrA K DC H M dr dx lf lc fvs cvs ⟨some n, fs, []⟩) (hv : FdT K (Hid M H) v f) : DrA K DC (upd H lf (.lst (fvs ++ [v]))) M dr dx lf lc (fvs ++ [v]) cvs ⟨some n, fs ++ [f], []⟩ where
  live := live_put h.live
  mem := h.mem
  at_ := (upd_ne (Ne.symm h.nf)).trans h.at_
  fl := upd_same
  fs := (Al.snoc h.fs hv).mono fun _ _ g => FdT.keep (hid_put (Same.refl H) h.mem.2.1) g
  cl := (upd_ne (Ne.symm h.mem.2.2.2)).trans h.cl
  cs := by
    rcases h.cs with g | ⟨_, _, cs0, c, _, g, _⟩
    · exact .inl g
    · exact absurd (congrArg List.length g) (by rw [List.length_append]; exact Nat.noConfusion)
theorem LastT.told {H1 : Hp} (e : Same (Hid M H) H1) (hl : ∀ b xs, H b = some (.lst xs) → b ∈ M → b ≠ lf → b ≠ lc → H1 b = some (.lst xs)) (h : LastT K H M lf lc v c) : CdA K H1 v c := by
  obtain ⟨t, m, dl, sl, dvs, rfl, h1, h2, ⟨m1, m2, n1, n2, n3, n4, n5⟩, h4, h5, h6⟩ := h
  exact ⟨_, _, _, dvs, (Tu.tup (e _ _ h1)).sq, Sq.lst (e _ _ h2), Sq.lst (hl _ _ h4 m1 n2 n3), h5.mono fun _ _ h => (DeT.keep e h).a, Sq.lst (hl _ _ h6 m2 n4 n5)⟩
theorem CsT.told {cs : List CD} {H1 : Hp} (e : Same (Hid M H) H1) (hl : ∀ b xs, H b = some (.lst xs) → b ∈ M → b ≠ lf → b ≠ lc → H1 b = some (.lst xs)) (h : CsT K H M lf lc cvs cs) : Al (CdA K H1) cvs cs := by
  rcases h with ⟨rfl, rfl⟩ | ⟨cvs0, v, cs0, c, rfl, rfl, h3, h4⟩
  · exact Al.nil
  · exact (h3.mono fun _ _ h => CdA.keep e h).snoc (h4.told e hl)
theorem DrA.addCall {n : Nat} {fs : List FD} {cs : List CD} {nm hand : Str} {mv : List Int} {H0 : Hp} {t m dl sl : Addr} (h : DrA K DC H0 M dr dx lf lc fvs cvs ⟨some n, fs, cs⟩) (e : Same H0 H) (nm0 : H0 m = none) (nd : H0 dl = none) (ns : H0 sl = none) (nt : H0 t = none) (ne : dl ≠ sl)
    (ht : H t = some (.tup [.str nm, .str hand, .ref m, .ref dl, .ref sl])) (hm : H m = some (.lst (mv.map V.int))) (hd : H dl = some (.lst [])) (hs : H sl = some (.lst [])) (dm : dl ≠ m) (sm : sl ≠ m) :
    DrA K DC (upd H lc (.lst (cvs ++ [.ref t]))) [dr, lf, lc, dl, sl] dr dx lf lc fvs (cvs ++ [.ref t]) ⟨some n, fs, cs ++ [⟨nm, hand, mv, [], []⟩]⟩ ∧ Same (Hid M H0) (Hid [dr, lf, lc, dl, sl] (upd H lc (.lst (cvs ++ [.ref t])))) := by
  have m1 := h.mem.1
  have m2 := h.mem.2.1
  have m3 := h.mem.2.2.1
  have n4 := h.mem.2.2.2
  have g := h.keep e
  have old : ∀ {b : Addr}, H0 b = none → b ≠ dr ∧ b ≠ lf ∧ b ≠ lc := fun {b} hb =>
    ⟨fun q => h.new hb (q ▸ m1), fun q => h.new hb (q ▸ m2), fun q => h.new hb (q ▸ m3)⟩
  have out : ∀ {b : Addr} {o : HO}, b ∉ M → H0 b = some o → b ∉ [dr, lf, lc, dl, sl] := fun {b o} hb ho hm => by
    simp only [List.mem_cons, List.not_mem_nil, or_false] at hm
    rcases hm with rfl | rfl | rfl | rfl | rfl
    · exact hb m1
    · exact hb m2
    · exact hb m3
    · rw [nd] at ho
      cases ho
    · rw [ns] at ho
      cases ho
  have eh : Same (Hid M H0) (Hid [dr, lf, lc, dl, sl] (upd H lc (.lst (cvs ++ [.ref t])))) := hid_go fun b o nb hb => ⟨out nb hb, by
    rw [upd_ne (fun q : b = lc => nb (q.symm ▸ m3))]
    exact e _ _ hb⟩
  have up : ∀ {b : Addr} {o : HO}, b ≠ lc → H b = some o → upd H lc (.lst (cvs ++ [.ref t])) b = some o := fun nb hb => (upd_ne nb).trans hb
  have fresh : ∀ {b : Addr} {o : HO}, H0 b = none → b ≠ dl → b ≠ sl → H b = some o → Hid [dr, lf, lc, dl, sl] (upd H lc (.lst (cvs ++ [.ref t]))) b = some o := fun {b o} h0 q1 q2 hb => by
    obtain ⟨o1, o2, o3⟩ := old h0
    refine hid_get (up o3 hb) fun hm => ?_
    simp only [List.mem_cons, List.not_mem_nil, or_false] at hm
    rcases hm with z | z | z | z | z
    · exact o1 z
    · exact o2 z
    · exact o3 z
    · exact q1 z
    · exact q2 z
  have td : t ≠ dl := fun q => by rw [q, hd] at ht; cases ht
  have ts : t ≠ sl := fun q => by rw [q, hs] at ht; cases ht
  refine ⟨{ live := fun b hb => ?_, mem := ⟨by simp, by simp, by simp, n4⟩, at_ := up (Ne.symm g.nc) g.at_, fl := up n4 g.fl, fs := h.fs.mono fun _ _ z => FdT.keep eh z, cl := upd_same, cs := ?_ }, eh⟩
  · refine live_put (M := [dr, lf, lc, dl, sl]) (fun b hb => ?_) b hb
    simp only [List.mem_cons, List.not_mem_nil, or_false] at hb
    rcases hb with rfl | rfl | rfl | rfl | rfl
    · exact g.live _ m1
    · exact g.live _ m2
    · exact g.live _ m3
    · rw [hd]
      exact nofun
    · rw [hs]
      exact nofun
  · refine .inr ⟨cvs, .ref t, cs, _, rfl, rfl, h.cs.told eh fun b xs hb mb q1 q2 => ?_, t, m, dl, sl, [], rfl, fresh nt td ts ht, fresh nm0 (Ne.symm dm) (Ne.symm sm) hm, ⟨by simp, by simp, ne, (old nd).2.1, (old nd).2.2, (old ns).2.1, (old ns).2.2⟩, up (old nd).2.2 hd, Al.nil, up (old ns).2.2 hs⟩
    refine hid_get (up q2 (e _ _ hb)) fun hm => ?_
    simp only [List.mem_cons, List.not_mem_nil, or_false] at hm
    rcases hm with rfl | rfl | rfl | rfl | rfl
    · rw [h.at_] at hb
      cases hb
    · exact q1 rfl
    · exact q2 rfl
    · rw [nd] at hb
      cases hb
    · rw [ns] at hb
      cases hb
/-- the latest call of a draft -/
theorem CsT.last {cs : List CD} (h : CsT K H M lf lc cvs (cs ++ [c])) : ∃ cvs0 v, cvs = cvs0 ++ [v] ∧ Al (CdA K (Hid M H)) cvs0 cs ∧ LastT K H M lf lc v c := by
  rcases h with ⟨_, h⟩ | ⟨cvs0, v, cs0, c', h1, h2, h3, h4⟩
  · exact absurd (congrArg List.length h) (by rw [List.length_append]; exact Nat.noConfusion)
  · obtain ⟨rfl, e⟩ := List.append_inj' h2 rfl
    obtain rfl := (List.cons.inj e).1
    exact ⟨cvs0, v, h1, h3, h4⟩
theorem DrA.addDeed {n : Nat} {fs : List FD} {cs : List CD} {nm hand : Str} {mv : List Int} {ds : List (Str × Str)} {ss : List Str} {d : Str × Str} {cvs0 dvs : List V} {t m dl sl : Addr} (h : DrA K DC H M dr dx lf lc fvs (cvs0 ++ [.ref t]) ⟨some n, fs, cs ++ [⟨nm, hand, mv, ds, ss⟩]⟩)
    (ha : Al (CdA K (Hid M H)) cvs0 cs) (h1 : Hid M H t = some (.tup [.str nm, .str hand, .ref m, .ref dl, .ref sl])) (h2 : Hid M H m = some (.lst (mv.map V.int))) (h3 : dl ∈ M ∧ sl ∈ M ∧ dl ≠ sl ∧ dl ≠ lf ∧ dl ≠ lc ∧ sl ≠ lf ∧ sl ≠ lc) (h4 : H dl = some (.lst dvs)) (h5 : Al (DeT K (Hid M H)) dvs ds) (h6 : H sl = some (.lst (ss.map V.str)))
    (hv : DeT K (Hid M H) v d) : DrA K DC (upd H dl (.lst (dvs ++ [v]))) M dr dx lf lc fvs (cvs0 ++ [.ref t]) ⟨some n, fs, cs ++ [⟨nm, hand, mv, ds ++ [d], ss⟩]⟩ where
  live := live_put h.live
  mem := h.mem
  at_ := (upd_ne (fun q => by have z := h.at_; rw [q, h4] at z; cases z)).trans h.at_
  fl := (upd_ne (Ne.symm h3.2.2.2.1)).trans h.fl
  fs := h.fs.mono fun _ _ g => FdT.keep (hid_put (Same.refl H) h3.1) g
  cl := (upd_ne (Ne.symm h3.2.2.2.2.1)).trans h.cl
  cs := by
    have e : Same (Hid M H) (Hid M (upd H dl (.lst (dvs ++ [v])))) := hid_put (Same.refl H) h3.1
    exact .inr ⟨cvs0, _, cs, _, rfl, rfl, ha.mono fun _ _ z => CdA.keep e z, t, m, dl, sl, dvs ++ [v], rfl, e _ _ h1, e _ _ h2, h3, upd_same, (Al.snoc h5 hv).mono fun _ _ z => DeT.keep e z, (upd_ne (Ne.symm h3.2.2.1)).trans h6⟩
theorem DrA.addSame {n : Nat} {fs : List FD} {cs : List CD} {nm hand : Str} {mv : List Int} {ds : List (Str × Str)} {ss : List Str} {x : Str} {cvs0 dvs : List V} {t m dl sl : Addr} (h : DrA K DC H M dr dx lf lc fvs (cvs0 ++ [.ref t]) ⟨some n, fs, cs ++ [⟨nm, hand, mv, ds, ss⟩]⟩)
    (ha : Al (CdA K (Hid M H)) cvs0 cs) (h1 : Hid M H t = some (.tup [.str nm, .str hand, .ref m, .ref dl, .ref sl])) (h2 : Hid M H m = some (.lst (mv.map V.int))) (h3 : dl ∈ M ∧ sl ∈ M ∧ dl ≠ sl ∧ dl ≠ lf ∧ dl ≠ lc ∧ sl ≠ lf ∧ sl ≠ lc) (h4 : H dl = some (.lst dvs)) (h5 : Al (DeT K (Hid M H)) dvs ds) (h6 : H sl = some (.lst (ss.map V.str))) :
    DrA K DC (upd H sl (.lst (ss.map V.str ++ [.str x]))) M dr dx lf lc fvs (cvs0 ++ [.ref t]) ⟨some n, fs, cs ++ [⟨nm, hand, mv, ds, ss ++ [x]⟩]⟩ where
  live := live_put h.live
  mem := h.mem
  at_ := (upd_ne (fun q => by have z := h.at_; rw [q, h6] at z; cases z)).trans h.at_
  fl := (upd_ne (Ne.symm h3.2.2.2.2.2.1)).trans h.fl
  fs := h.fs.mono fun _ _ g => FdT.keep (hid_put (Same.refl H) h3.2.1) g
  cl := (upd_ne (Ne.symm h3.2.2.2.2.2.2)).trans h.cl
  cs := by
    have e : Same (Hid M H) (Hid M (upd H sl (.lst (ss.map V.str ++ [.str x])))) := hid_put (Same.refl H) h3.2.1
    exact .inr ⟨cvs0, _, cs, _, rfl, rfl, ha.mono fun _ _ z => CdA.keep e z, t, m, dl, sl, dvs, rfl, e _ _ h1, e _ _ h2, h3, (upd_ne h3.2.2.1).trans h4, h5.mono fun _ _ z => DeT.keep e z, by rw [upd_same, List.map_append]; rfl⟩
/-- what Kind is given -/
theorem DrA.given (h : DrA K DC H M dr dx lf lc fvs cvs a) : Sq K (Off dr H) (.ref lf) fvs ∧ Al (FdA K (Off dr H)) fvs a.fs ∧ Sq K (Off dr H) (.ref lc) cvs ∧ Al (CdA K (Off dr H)) cvs a.cs := by
  have e : Same (Hid M H) (Off dr H) := hid_off h.mem.1
  refine ⟨Sq.lst ((off_ne h.nf).trans h.fl), h.fs.mono fun _ _ g => (FdT.keep e g).a, Sq.lst ((off_ne h.nc).trans h.cl), h.cs.told e fun b xs hb _ _ _ => ?_⟩
  rw [off_ne (fun q => by rw [q, h.at_] at hb; cases hb)]
  exact hb
end
end MK
set_option Elab.async false
set_option linter.all false
set_option autoImplicit false
set_option maxRecDepth 100000
set_option maxHeartbeats 1000000
/-! f'..' as the element of a comprehension; comprehensions that tell values -/
namespace MK
open PySem PySem.Spec PyProof.Rows L2
def tFs (ts : List TE) : TE := fun σ H Q => tJs ts Str.empty σ H fun out H1 => Q (.str out) H1
theorem pe_fsT {X : Cx} {v1 v2 : Expr} {rest : List Expr} {ts : List TE} {pos : Pos} (h : PJ X (v1 :: v2 :: rest) ts) : PE X (.JoinedStr (v1 :: v2 :: rest) pos) (tFs ts) := pe_joined h
section
variable {K : PySem.W.Frag} {a : Addr} {xs ys : List V} {g : TG} {te : TE} {vs : List Nat} {σ : L2.St} {H : Hp} {D : Addr} {Qd : Hp → Prop}
theorem take_val {i : Nat} {y : V} (h : ys[i]? = some y) : ys.take (i + 1) = ys.take i ++ [y] := by
  rw [List.take_succ, h]
  rfl
theorem lc_mapL (h : SqL K H a xs) (hD : H D = none) (len : ys.length = xs.length) (few : xs.length ≤ 1000)
    (hs : ∀ (i : Nat) x y H2 (R : VK), xs[i]? = some x → ys[i]? = some y → Same H H2 → R y H2 → g x (wipe σ vs) H2 fun σ2 H3 => wipe σ2 vs = wipe σ vs ∧ te σ2 H3 R) (hd : Qd (upd H D (.lst ys))) :
    ∃ W : Nat → Nat → Hp → Prop, (∃ m, W 0 m (upd H D (.lst []))) ∧ ∀ i m H, W i m H →
      ((Itl K a).stop i H ∧ Qd H) ∨ ((Itl K a).go i H ∧ ∃ Nx : Hp → Prop, (∀ H', Nx H' → ∃ m', m' < m ∧ W (i + 1) m' H') ∧ ∀ x H', (Itl K a).yld i H x H' → g x (wipe σ vs) H' fun σ2 H2 => wipe σ2 vs = wipe σ vs ∧ tYes σ2 H2 fun b H3 =>
        if b = true then te σ2 H3 fun y H4 => ∃ acc, H4 D = some (.lst acc) ∧ acc.length < sizeLine ∧ Nx (upd H4 D (.lst (acc ++ [y]))) else Nx H3) := by
  refine lc_list (fun i Z => Z = upd H D (.lst (ys.take i))) rfl (fun i Z _ e => by rw [e]; exact (same_new (Same.refl H) hD).seq h) (fun i x Z hx e => ?_) fun Z e => ?_
  · subst e
    have hi : i < ys.length := by rw [len]; exact (List.getElem?_eq_some_iff.mp hx).1
    have hy : ys[i]? = some ys[i] := List.getElem?_eq_getElem hi
    refine hs i x _ _ _ hx hy (same_new (Same.refl H) hD) ⟨_, upd_same, ?_, ?_⟩
    · rw [List.length_take, sizeLine_eq]
      omega
    · rw [L2.upd_upd, take_val hy]
  · rw [e, ← len, List.take_length]
    exact hd
theorem lc_mapT (h : SqT K H a xs) (hD : H D = none) (len : ys.length = xs.length) (few : xs.length ≤ 1000)
    (hs : ∀ (i : Nat) x y H2 (R : VK), xs[i]? = some x → ys[i]? = some y → Same H H2 → R y H2 → g x (wipe σ vs) H2 fun σ2 H3 => wipe σ2 vs = wipe σ vs ∧ te σ2 H3 R) (hd : Qd (upd H D (.lst ys))) :
    ∃ W : Nat → Nat → Hp → Prop, (∃ m, W 0 m (upd H D (.lst []))) ∧ ∀ i m H, W i m H →
      ((Itt K a).stop i H ∧ Qd H) ∨ ((Itt K a).go i H ∧ ∃ Nx : Hp → Prop, (∀ H', Nx H' → ∃ m', m' < m ∧ W (i + 1) m' H') ∧ ∀ x H', (Itt K a).yld i H x H' → g x (wipe σ vs) H' fun σ2 H2 => wipe σ2 vs = wipe σ vs ∧ tYes σ2 H2 fun b H3 =>
        if b = true then te σ2 H3 fun y H4 => ∃ acc, H4 D = some (.lst acc) ∧ acc.length < sizeLine ∧ Nx (upd H4 D (.lst (acc ++ [y]))) else Nx H3) := by
  refine lc_tup (fun i Z => Z = upd H D (.lst (ys.take i))) rfl (fun i Z _ e => by rw [e]; exact same_t (same_new (Same.refl H) hD) h) (fun i x Z hx e => ?_) fun Z e => ?_
  · subst e
    have hi : i < ys.length := by rw [len]; exact (List.getElem?_eq_some_iff.mp hx).1
    have hy : ys[i]? = some ys[i] := List.getElem?_eq_getElem hi
    refine hs i x _ _ _ hx hy (same_new (Same.refl H) hD) ⟨_, upd_same, ?_, ?_⟩
    · rw [List.length_take, sizeLine_eq]
      omega
    · rw [L2.upd_upd, take_val hy]
  · rw [e, ← len, List.take_length]
    exact hd
end
end MK
set_option Elab.async false
set_option linter.all false
set_option autoImplicit false
set_option maxRecDepth 100000
set_option maxHeartbeats 1000000
/-! texts put together; the parts of a line, read -/
namespace MK
open PySem PySem.Spec PyProof.Rows L2 TL
/-- one part of an f'..' -/
inductive Pt (σ : L2.St) : TE → Str → Prop
  | lit {a : Str} : Pt σ (tC (.str a)) a
  | var {i : Nat} {z : Str} : σ[i]? = some (some (.str z)) → z.length ≤ sizeLine → Pt σ (tFmt (tVar i)) z
  | num {i : Nat} {n : Int} : σ[i]? = some (some (.int n)) → n.natAbs.log2 < 1920 → Pt σ (tFmt (tVar i)) (numS n)
inductive Pts (σ : L2.St) : List TE → List Str → Prop
  | nil : Pts σ [] []
  | cons {t : TE} {p : Str} {ts : List TE} {ps : List Str} : Pt σ t p → Pts σ ts ps → Pts σ (t :: ts) (p :: ps)
def catL : Str → List Str → Str
  | acc, [] => acc
  | acc, p :: ps => catL (acc ++ p) ps
theorem len_add (x y : Str) : (x ++ y).length = x.length + y.length := by
  rw [len_tl, tl_append, List.length_append, ← len_tl, ← len_tl]
theorem catL_le : ∀ (ps : List Str) (acc : Str), acc.length ≤ (catL acc ps).length
  | [], _ => Nat.le_refl _
  | p :: ps, acc => by
    have := catL_le ps (acc ++ p)
    rw [len_add] at this
    show _ ≤ (catL (acc ++ p) ps).length
    omega
theorem pt_run {σ : L2.St} {t : TE} {p : Str} {H : Hp} {Q : VK} (h : Pt σ t p) (q : Q (.str p) H) : t σ H Q := by
  cases h with
  | lit => exact q
  | var e l => exact ⟨_, e, .inl ⟨_, rfl, l, q⟩⟩
  | num e l => exact ⟨_, e, .inr ⟨_, rfl, l, q⟩⟩
theorem tjs_run {σ : L2.St} {ts : List TE} {ps : List Str} (h : Pts σ ts ps) : ∀ {H : Hp} {Q : Str → Hp → Prop} {acc : Str}, (catL acc ps).length ≤ sizeLine → Q (catL acc ps) H → tJs ts acc σ H Q := by
  induction h with
  | nil => exact fun _ q => q
  | @cons t p ts ps h1 _ ih =>
    intro H Q acc l q
    refine pt_run h1 ⟨p, rfl, ?_, ih l q⟩
    exact Nat.le_trans (catL_le ps (acc ++ p)) l
theorem tfs_run {σ : L2.St} {ts : List TE} {ps : List Str} {H : Hp} {Q : VK} {out : Str} (h : Pts σ ts ps) (e : catL Str.empty ps = out) (l : out.length ≤ sizeLine) (q : Q (.str out) H) : tFs ts σ H Q := by
  subst e
  exact tjs_run h l q
theorem log_small {n : Int} (h1 : -10 ≤ n) (h2 : n ≤ 10) : n.natAbs.log2 < 1920 :=
  Nat.lt_of_le_of_lt (Nat.log2_le_self _) (by omega)
theorem numS_len {n : Int} (h1 : -1 ≤ n) (h2 : n ≤ 4) : (numS n).length ≤ sizeLine := Nat.le_trans (num_part h1 h2).le (by decide)
theorem word8 {z : Str} (h : wordB z = true) : z.length ≤ sizeLine := Nat.le_trans (word_part h).le (by decide)
theorem line_len {l : Ln} (h : LnGood l) : l.text.length ≤ sizeLine := Nat.le_trans (text_len h.ok) (by decide)
/-- a line, as it is written -/
def lnV (l : Ln) : V := .str l.text
theorem cat_D (d : Str × Str) : catL Str.empty [("do " : Str), d.1, (" " : Str), d.2] = (Ln.D d).text := by
  show ((Str.empty ++ ("do " : Str)) ++ d.1) ++ (" " : Str) ++ d.2 = _
  rw [emp_l]
  exact textD d
theorem cat_S (x : Str) : catL Str.empty [("same " : Str), x] = (Ln.S x).text := by
  show (Str.empty ++ ("same " : Str)) ++ x = _
  rw [emp_l]
  exact textS x
theorem cat_M (n : Nat) : catL Str.empty [("modes " : Str), numS n] = (Ln.M n).text := by
  show (Str.empty ++ ("modes " : Str)) ++ numS n = _
  rw [emp_l]
  exact textM n
theorem cat_F (f : FD) (h : f.need = false) : catL Str.empty [("field " : Str), f.nm, (" " : Str), sortS f.many] = (Ln.F f).text := by
  show ((Str.empty ++ ("field " : Str)) ++ f.nm) ++ (" " : Str) ++ sortS f.many = _
  rw [emp_l]
  exact textF f h
theorem cat_Fn (f : FD) (h : f.need = true) : catL Str.empty [("field " : Str), f.nm, (" " : Str), sortS f.many, (" need" : Str)] = (Ln.F f).text := by
  show ((Str.empty ++ ("field " : Str)) ++ f.nm) ++ (" " : Str) ++ sortS f.many ++ (" need" : Str) = _
  rw [emp_l]
  exact textFn f h
theorem cat_nl (x : Str) : catL Str.empty [x, ("\n" : Str)] = nlS x := by
  show (Str.empty ++ x) ++ ("\n" : Str) = _
  rw [emp_l]
  rfl
theorem sort_len (b : Bool) : (sortS b).length ≤ sizeLine := by cases b <;> decide +kernel
theorem nl_le {l : Ln} (h : LnGood l) : (nlS l.text).length ≤ sizeLine := Nat.le_trans (nl_len h.ok) (by decide)
/-- the lines of a call: the parts of the first -/
theorem call_parts (c : CD) : Txt.join " " (([("call" : Str), c.nm, c.hand] : List Str) ++ c.moves.map numS) = (Ln.C c.nm c.hand c.moves).text := rfl
theorem call_good {fs : List FD} {n : Nat} {cs : List CD} (ok : KdOk fs n cs) {c : CD} (hc : c ∈ cs) : ∀ l ∈ itemsC c, LnGood l := fun l m => items_good ok l (List.mem_cons_of_mem _ (List.mem_append_right _ (List.mem_flatMap.mpr ⟨c, hc, m⟩)))
end MK
set_option Elab.async false
set_option linter.all false
set_option autoImplicit false
set_option maxRecDepth 100000
set_option maxHeartbeats 1000000
/-! the parts of a line, as a list -/
namespace MK
open PySem PySem.Spec PyProof.Rows L2 TL
def ptV (l : Ln) : List V := l.parts.map V.str
theorem cutP_from {a b c : V} {xs : List V} : cutV (a :: b :: c :: xs) (some 3) none = xs := by
  unfold cutV
  rw [HT.sIx_none, show (some (3 : Int)) = some ((3 : Nat) : Int) from rfl, HT.sIx_nat, show min 3 (a :: b :: c :: xs).length = 3 from by simp]
  show List.take _ xs = xs
  exact List.take_of_length_le (by simp)
theorem cutP_two {a b c : V} {xs : List V} : cutV (a :: b :: c :: xs) (some 1) (some 3) = [b, c] := by
  unfold cutV
  rw [show (some (3 : Int)) = some ((3 : Nat) : Int) from rfl, show (some (1 : Int)) = some ((1 : Nat) : Int) from rfl, HT.sIx_nat, HT.sIx_nat, show min 3 (a :: b :: c :: xs).length = 3 from by simp, show min 1 (a :: b :: c :: xs).length = 1 from by simp]
  rfl
theorem at_one {a b : V} {xs : List V} : atI (a :: b :: xs) 1 = some b := atI_nat (j := 1) rfl
theorem at_two {a b c : V} {xs : List V} : atI (a :: b :: c :: xs) 2 = some c := atI_nat (j := 2) rfl
theorem at_zero {a : V} {xs : List V} : atI (a :: xs) 0 = some a := atI_nat (j := 0) rfl
theorem f_parts (f : FD) : ptV (.F f) = .str "field" :: .str f.nm :: .str (sortS f.many) :: (needL f.need).map V.str := rfl
theorem c_parts (nm hand : Str) (mv : List Int) : ptV (.C nm hand mv) = .str "call" :: .str nm :: .str hand :: (mv.map numS).map V.str := by
  show List.map V.str (_ :: _ :: _ :: _) = _
  rw [List.map_cons, List.map_cons, List.map_cons]
  rfl
theorem need_len (f : FD) : (ptV (.F f)).length = if f.need then 4 else 3 := by
  rw [f_parts]
  cases f.need <;> rfl
theorem need_eqv (b : Bool) : PyData.eqv (.list ((needL b).map PyData.str)) (.list [.str "need"]) = b := by cases b <;> decide +kernel
theorem need_shaped (b : Bool) : SeqAt.shaped (.list ((needL b).map PyData.str)) = true := by cases b <;> decide +kernel
theorem need_shaped1 : SeqAt.shaped (.list [.str "need"]) = true := by decide +kernel
theorem sort_word (b : Bool) : wordB (sortS b) = true := by cases b <;> decide +kernel
end MK
set_option Elab.async false
set_option linter.all false
set_option autoImplicit false
set_option maxRecDepth 100000
set_option maxHeartbeats 4000000
namespace MK
open PySem PySem.Spec PyProof.Rows L2
local macro_rules | `(tactic| walk_at "x") => `(tactic| dsimp only [tSeq, tAsg, tRet, tDrop, tLst, tTup, tCons, tOp, tUn, tIfS])
def topS (i : Nat) : Stmt := PySem.Challenge.pw_makerlines_k05_kind_texts.main.body.getD i (.Pass ⟨0, 0, 0, 0⟩)
structure Txt (K : PySem.W.Frag) (mg : Str → Option Value) : Prop where
  len : mg "len" = none
  int : mg "int" = none
  enumerate : mg "enumerate" = none
  list : mg "list" = none
  tuple : mg "tuple" = none
  isinstance : mg "isinstance" = none
  range : mg "range" = none
  all : mg "all" = none
  zip : mg "zip" = none
  ValueError : mg "ValueError" = none
  bool : mg "bool" = none
  str : mg "str" = none
  set : mg "set" = none
  any : mg "any" = none
/-- what stands at the names of the program's own constants -/
structure Cst where
  sorts : Addr
  hands : Addr
  sod : Addr
  wd : Addr
  lwd : Addr
def sodOf (z : Str) : Option (List Str) :=
  if z = "set" then some ["one"] else if z = "add" then some ["many"] else if z = "strike" then some ["many"] else if z = "fresh" then some ["many"] else if z = "clear" then some ["one", "many"] else none
structure Csts (K : PySem.W.Frag) (w : World) (mg : Str → Option Value) (C : Cst) : Prop where
  MOST_LETTERS : ∃ u, mg "MOST_LETTERS" = some u ∧ RelV (.int 8) u
  MOST_FIELDS : ∃ u, mg "MOST_FIELDS" = some u ∧ RelV (.int 3) u
  MOST_MODES : ∃ u, mg "MOST_MODES" = some u ∧ RelV (.int 4) u
  MOST_CALLS : ∃ u, mg "MOST_CALLS" = some u ∧ RelV (.int 6) u
  MOST_DEEDS : ∃ u, mg "MOST_DEEDS" = some u ∧ RelV (.int 4) u
  SORTS : ∃ u, mg "SORTS" = some u ∧ RelV (.ref C.sorts) u
  HANDS : ∃ u, mg "HANDS" = some u ∧ RelV (.ref C.hands) u
  SORTS_OF_DEEDS : ∃ u, mg "SORTS_OF_DEEDS" = some u ∧ RelV (.ref C.sod) u
  LIST_WORD_DEEDS : ∃ u, mg "LIST_WORD_DEEDS" = some u ∧ RelV (.ref C.lwd) u
  t_sorts : ∀ H, SqT K H C.sorts [.str "one", .str "many"]
  t_hands : ∀ H, SqT K H C.hands [.str "self", .str "new", .str "last"]
  t_lwd : ∀ H, SqT K H C.lwd [.str "add", .str "strike"]
  sodD : ∃ es n, KDict K w C.sod es n
  sodN : ∀ z : Str, (PySem.W.nsIn K C.sod z = some none ∧ sodOf z = none) ∨ ∃ a l, PySem.W.nsIn K C.sod z = some (some (.ref a)) ∧ sodOf z = some l ∧ ∀ H, SqT K H a (l.map V.str)
/-! ### the draws of a law: the state is a list at s, its cells a list at c -/
abbrev s_fresh : Stmt := topS 54
theorem sc_fresh : FnScope ["_law_script"] ["_law_script"] (defScope s_fresh) := ⟨rfl, rfl, rfl, by decide +kernel, rfl, by decide +kernel, by decide +kernel⟩
abbrev s_fill : Stmt := topS 55
theorem sc_fill : FnScope ["_law_state", "_law_cells", "_law_nth", "_law_seed", "_law_k", "_law_prime", "_law_far"] ["_law_state"] (defScope s_fill) := ⟨rfl, rfl, rfl, by decide +kernel, rfl, by decide +kernel, by decide +kernel⟩
abbrev s_take : Stmt := topS 56
theorem sc_take : FnScope ["_law_state", "_law_many", "_law_laps", "_law_digit"] ["_law_state", "_law_many"] (defScope s_take) := ⟨rfl, rfl, rfl, by decide +kernel, rfl, by decide +kernel, by decide +kernel⟩
abbrev s_one : Stmt := topS 57
theorem sc_one : FnScope ["_law_state", "_law_things"] ["_law_state", "_law_things"] (defScope s_one) := ⟨rfl, rfl, rfl, by decide +kernel, rfl, by decide +kernel, by decide +kernel⟩
/-- the state of the draws: at s, its cells ns at c -/
def StA (H : Hp) (s c : Addr) (ns : List Int) : Prop := c ≠ s ∧ H c = some (.lst (ns.map V.int)) ∧ ∃ (a b : Int) (m : Bool), H s = some (.lst [.ref c, .int a, .int b, .bl m])
theorem StA.keep {H H' : Hp} {s c : Addr} {ns : List Int} (x : StA H s c ns) (e : Same H H') : StA H' s c ns := by
  obtain ⟨n, h1, a, b, m, h2⟩ := x
  exact ⟨n, e _ _ h1, a, b, m, e _ _ h2⟩
theorem cut63 (ns : List Int) (h : ns.length ≤ 63) : cutV (ns.map V.int) none (some 63) = ns.map V.int := by
  have e : HT.sIx (ns.map V.int).length (ns.map V.int).length (some 63) = min 63 (ns.map V.int).length := HT.sIx_nat _ _ 63
  unfold cutV
  rw [HT.sIx_none, e, List.drop_zero, Nat.sub_zero]
  exact List.take_of_length_le (by rw [List.length_map]; omega)
def primes : List V := [.int 2147483647, .int 2147483629, .int 2147483587, .int 2147483579, .int 2147483563]
theorem primes_ok {i : Nat} {y : V} (h : primes[i]? = some y) : ∃ p : Int, y = .int p ∧ 0 < p ∧ p < 4294967296 := by
  have m := List.mem_of_getElem? h
  simp only [primes, List.mem_cons, List.not_mem_nil, or_false] at m
  rcases m with rfl | rfl | rfl | rfl | rfl <;> exact ⟨_, rfl, by decide, by decide⟩
def spFresh (K : PySem.W.Frag) : Sp := fun vs H Q _ => ∃ (a : Addr) (ns : List Int), vs = [.ref a] ∧ SqL K H a (ns.map V.int) ∧ ns.length ≤ 63 ∧
  ∀ s c H', Same H H' → H s = none → H c = none → StA H' s c ns → Q (.ref s) H'
def spFill : Sp := fun vs H Q _ => ∃ (s c : Addr) (ns : List Int), vs = [.ref s] ∧ StA H s c ns ∧ ns.length ≤ 63 ∧ ∀ H', SameX s H H' → StA H' s c ns → Q .non H'
def spTake : Sp := fun vs H Q _ => ∃ (s c : Addr) (ns : List Int) (n : Int), vs = [.ref s, .int n] ∧ StA H s c ns ∧ ns.length ≤ 63 ∧ 0 < n ∧ n < 1000000 ∧
  ∀ (d : Nat) H', (d : Int) < n → SameX s H H' → StA H' s c ns → Q (.int d) H'
def spOne (K : PySem.W.Frag) : Sp := fun vs H Q _ => ∃ (s c l : Addr) (ns : List Int) (xs : List V), vs = [.ref s, .ref l] ∧ StA H s c ns ∧ ns.length ≤ 63 ∧ l ≠ s ∧ (SqL K H l xs ∨ SqT K H l xs) ∧ 0 < xs.length ∧ xs.length < 1000000 ∧
  ∀ (d : Nat) (x : V) H', xs[d]? = some x → SameX s H H' → StA H' s c ns → Q x H'
section
variable {P : Program} {w : World} {K : PySem.W.Frag} {mg : Str → Option Value} {base : Heap}
theorem ok_fresh {f : Addr} {fd : FuncData} (F : DefX K mg "_law_fresh" s_fresh ["_law_script"] f fd) (T : Txt K mg) : Cal P w K mg base CX0 1 "_law_fresh" (spFresh K) := by
  refine cal_mk F sc_fresh (fun vs H Q E h => ?_) (fun cdv A outer s H vs Q E hr h => ?_)
  · obtain ⟨a, ns, rfl, _⟩ := h
    rfl
  · obtain ⟨a, ns, rfl, hs, hl, k⟩ := h
    refine ⟨_, (pss_one (ps_ret (pe_lst (pa_cons (pe_slice sl_list (pv 0) po_none (po_some pe_int)) (pa_cons pe_int (pa_cons pe_int (pa_cons pe_bl pa_nil))))))), ?_⟩
    refine ⟨_, rfl, _, rfl, a, _, rfl, hs, fun c hc => ⟨(by show 4 ≤ sizeLine; decide), fun t ht => ?_⟩⟩
    rw [cut63 ns hl] at ht ⊢
    obtain ⟨tc, htn⟩ := upd_none ht
    refine k t c _ (same_new (same_new (Same.refl H) hc) ht) htn hc ⟨tc.symm, ?_, 0, 0, false, upd_same⟩
    rw [upd_ne tc.symm, upd_same]
theorem ok_fill {f : Addr} {fd : FuncData} (F : DefX K mg "_law_fill" s_fill ["_law_state"] f fd) (T : Txt K mg) : Cal P w K mg base CX0 1 "_law_fill" spFill := by
  refine cal_mk F sc_fill (fun vs H Q E h => ?_) (fun cdv A outer s H vs Q E hr h => ?_)
  · obtain ⟨s, c, ns, rfl, _⟩ := h
    rfl
  · obtain ⟨s, c, ns, rfl, ⟨cs, hc, a, b, m, hs⟩, hl, k⟩ := h
    refine ⟨_, (pss_cons (ps_par (i := 1) (j := 2) (by rfl) sc_fill.nd rfl rfl (by decide) rfl rfl (pa_cons (pe_ix ix_list (pv 0) pe_int (fun _ _ => rfl)) (pa_cons (pe_ix ix_list (pv 0) pe_int (fun _ _ => rfl)) pa_nil)) (by rfl))
(pss_cons (ps_set (i := 3) sc_fill.nd rfl (Or.inl rfl) (pe_op op_add (pe_op op_mul pe_int (pv 2)) pe_int))
(pss_cut (ps_if (pt_cmpR op_gt (pe_callB call_len_seq (by rfl) T.len (by decide +kernel) (pa_cons (pv 1) pa_nil)) pe_int (nomark _))
(pss_one (ps_set (i := 3) sc_fill.nd rfl (Or.inl rfl) (pe_op op_add (pe_op op_mul pe_int (pe_op op_fdivN (pv 2) (pe_callB call_len_seq (by rfl) T.len (by decide +kernel) (pa_cons (pv 1) pa_nil)))) (pe_ix ix_list (pv 1) (pe_op op_modN (pe_callTy call_int1 (by rfl) T.int (by decide +kernel) (pa_cons (pv 2) pa_nil)) (pe_callB call_len_seq (by rfl) T.len (by decide +kernel) (pa_cons (pv 1) pa_nil))) (fun _ _ => rfl)))))
pss_nil)
(pss_cons (ps_asg (pe_op op_add (pv 2) pe_int) (pg_sub (pv 0) pe_int set_list))
(pss_cons (ps_asg (pe_cut (pe_or (pe_cmpR op_ge (pv 2) (pe_callB call_len_seq (by rfl) T.len (by decide +kernel) (pa_cons (pv 1) pa_nil)) (nomark _)) (pe_one (pe_cmpR op_lt (pv 3) (pe_op op_pow pe_int pe_int) (nomark _))))) (pg_sub (pv 0) pe_int set_list))
(pss_cons (ps_asg (pe_op op_sub (pv 3) (pe_op op_pow pe_int pe_int)) (pg_sub (pv 0) pe_int set_list))
(pss_one (ps_if (pt_val (pe_ix ix_list (pv 0) pe_int (fun _ _ => rfl)))
(pss_cons (ps_asg pe_int (pg_sub (pv 0) pe_int set_list))
(pss_one (ps_for PassesOwn.never rfl (pi_enumT (by rfl) T.enumerate (pa_cons (pe_tup (pa_cons pe_int (pa_cons pe_int (pa_cons pe_int (pa_cons pe_int (pa_cons pe_int pa_nil)))))) pa_nil)) (pg_tup (by rfl) (pgs_cons (pg_name (i := 4) sc_fill.nd rfl (Or.inl rfl)) (pgs_cons (pg_name (i := 5) sc_fill.nd rfl (Or.inl rfl)) pgs_nil)))
(pss_cons (ps_set (i := 6) sc_fill.nd rfl (Or.inl rfl) (pe_op op_modN (pe_callTy call_int1 (by rfl) T.int (by decide +kernel) (pa_cons (pe_op op_mul (pe_op op_add (pe_op op_add (pv 3) (pe_op op_mul (pe_op op_mul pe_int (pv 4)) (pv 4))) (pe_op op_mul pe_int (pv 4))) (pe_op op_add pe_int (pe_op op_mul pe_int (pv 4)))) pa_nil)) (pv 5)))
(pss_one (ps_asg (pe_op op_add (pe_op op_mul (pe_ix ix_list (pv 0) pe_int (fun _ _ => rfl)) (pv 5)) (pe_op op_modN (pe_callTy call_int1 (by rfl) T.int (by decide +kernel) (pa_cons (pe_op op_pow (pv 6) pe_int) pa_nil)) (pv 5))) (pg_sub (pv 0) pe_int set_list)))))))
pss_nil)))))))), ?_⟩
    have sq : ∀ {H' : Hp}, SameX s H H' → SqL K H' c (ns.map V.int) := fun e => .inl (.inl (e _ _ hc cs))
    have kd : ∀ (H' : Hp) (b' : Int) (m' : Bool) (a' : Int), SameX s H H' → H' s = some (.lst [.ref c, .int a', .int b', .bl m']) → Q .non H' := fun H' b' m' a' e h => k H' e ⟨cs, e _ _ hc cs, a', b', m', h⟩
    -- cells, nth = state[0], state[1]
    refine ⟨_, rfl, s, _, 0, .ref c, rfl, rfl, SqL.of hs, rfl, _, rfl, s, _, 1, .int a, rfl, rfl, SqL.of hs, rfl, _, _, rfl, ?_⟩
    refine ⟨_, rfl, _, _, rfl, rfl, .inl (by decide), _, _, rfl, rfl, ?_⟩
    -- the seed is some int
    refine ⟨fun σ' H' => H' = H ∧ ∃ z : Int, σ' = [some (.ref s), some (.ref c), some (.int a), some (.int z), none, none, none], ?_, ?_⟩
    · refine ⟨_, rfl, c, _, rfl, .inl (sq (SameX.refl s H)), _, _, rfl, rfl, _, rfl, ?_⟩
      refine ite2 (fun hp => ?_) (fun hn => ?_)
      · have hpos : 0 < ns.length := by
          have q : (0 : Int) < ((ns.map V.int).length : Int) := of_decide_eq_true hp
          rw [List.length_map] at q
          omega
        have hne : ((ns.map V.int).length : Int) ≠ 0 := by rw [List.length_map]; omega
        have hsm : ((ns.map V.int).length : Int).natAbs < 1073741824 := by rw [List.length_map]; omega
        have sq0 := sq (SameX.refl s H)
        obtain ⟨v, hv⟩ : ∃ v, atI (ns.map V.int) (a.fmod ((ns.map V.int).length : Int)) = some (V.int v) := by
          have h0 := Int.fmod_nonneg_of_pos a (b := ((ns.map V.int).length : Int)) (by rw [List.length_map]; omega)
          have h1 := Int.fmod_lt_of_pos a (b := ((ns.map V.int).length : Int)) (by rw [List.length_map]; omega)
          obtain ⟨j, hj⟩ := Int.eq_ofNat_of_zero_le h0
          rw [hj] at h1 ⊢
          rw [List.length_map] at h1
          have hjl : j < ns.length := by omega
          exact ⟨ns[j], atI_nat (by rw [List.getElem?_map, List.getElem?_eq_getElem hjl]; rfl)⟩
        refine ⟨_, rfl, _, rfl, c, _, rfl, .inl sq0, _, _, rfl, rfl, ⟨hne, hsm⟩, _, _, rfl, rfl, .inl (by decide), ?_⟩
        refine ⟨_, rfl, _, rfl, .inl ⟨_, rfl, _, rfl, c, _, rfl, .inl sq0, _, _, rfl, rfl, hne, ?_⟩⟩
        exact ⟨c, _, _, _, rfl, rfl, sq0, hv, _, _, rfl, rfl, rfl, _, rfl⟩
      · exact ⟨rfl, _, rfl⟩
    · rintro σ' H' ⟨rfl, z, rfl⟩
      have e1 : SameX s H' (upd H' s (.lst [.ref c, .int (a + 1), .int b, .bl m])) := (SameX.refl s H').put
      -- state[1] = nth + 1; state[3] = ..
      refine ⟨_, rfl, _, _, rfl, rfl, _, rfl, s, _, 1, 1, rfl, rfl, hs, rfl, ?_⟩
      refine ⟨fun v H2 => H2 = _ ∧ ∃ d : Bool, v = .bl d, ⟨_, rfl, _, rfl, c, _, rfl, .inl (sq e1), _, _, rfl, rfl, _, rfl, ite2 (fun _ => ⟨rfl, _, rfl⟩) (fun _ => ?_)⟩, ?_⟩
      · exact ⟨_, rfl, _, _, rfl, rfl, ⟨by decide, by decide, by decide⟩, _, _, rfl, rfl, rfl, _, rfl⟩
      rintro _ _ ⟨rfl, d, rfl⟩
      refine ⟨_, rfl, s, _, 3, 3, rfl, rfl, upd_same, rfl, ?_⟩
      rw [upd_upd]
      -- state[2] = seed - 10 ** 18
      refine ⟨_, rfl, _, _, rfl, rfl, ⟨by decide, by decide, by decide⟩, _, _, rfl, rfl, _, rfl, s, _, 2, 2, rfl, rfl, upd_same, rfl, ?_⟩
      rw [upd_upd]
      refine ⟨_, rfl, s, _, 3, .bl d, rfl, rfl, SqL.of upd_same, rfl, d, rfl, ite2 (fun _ => ?_) (fun _ => ?_)⟩
      · -- mixed
        refine ⟨_, rfl, s, _, 2, 2, rfl, rfl, upd_same, rfl, ?_⟩
        rw [upd_upd]
        refine ⟨by show 5 ≤ sizeLine; decide, fun t ht => ⟨t, _, rfl, SqT.of upd_same, ?_⟩⟩
        obtain ⟨ts, ht'⟩ := upd_none ht
        refine for_it walk_enumT (fun i σ H2 => SameX s H' H2 ∧ H2 t = some (.tup primes) ∧ (∃ b2 : Int, H2 s = some (.lst [.ref c, .int (a + 1), .int b2, .bl d])) ∧ ∃ x4 x5 x6, σ = [some (.ref s), some (.ref c), some (.int a), some (.int z), x4, x5, x6])
          ⟨((SameX.refl s H').put).new ht, upd_same, ⟨0, (upd_ne ts.symm).trans upd_same⟩, none, none, none, rfl⟩ (fun i σ H2 _ q => SqT.of q.2.1) ?_ ?_
        · rintro i x σ H2 H3 hi ⟨e2, e3, ⟨b2, e4⟩, x4, x5, x6, rfl⟩ ⟨U, _, y, rfl, hU, rfl, h1, hy⟩
          obtain rfl := Option.some.inj h1
          obtain ⟨p, rfl, p0, p1⟩ := primes_ok (i := i) hy
          have us : s ≠ U := fun q => by rw [q, hU] at e4; cases e4
          refine ⟨U, _, rfl, SqT.of upd_same, rfl, _, _, rfl, _, _, rfl, rfl, ?_⟩
          have hf0 : p ≠ 0 := by omega
          have hi5 : i < 5 := hi
          -- far
          refine ⟨_, rfl, _, rfl, _, _, rfl, rfl, .inl (by decide), _, rfl, _, _, rfl, rfl, .inr (by omega), _, _, rfl, rfl, _, rfl, _, _, rfl, rfl, .inl (by decide), _, _, rfl, rfl, ?_⟩
          refine ⟨_, rfl, _, _, rfl, rfl, .inl (by decide), _, _, rfl, rfl, _, _, rfl, rfl, .inr (by omega), .inl ⟨_, rfl, _, rfl, _, _, rfl, rfl, hf0, ?_⟩⟩
          have f0 := Int.fmod_nonneg_of_pos ((z + 10007 * (i : Int) * (i : Int) + 101 * (i : Int)) * (48271 + 2 * (i : Int))) (b := p) (by omega)
          have f1 := Int.fmod_lt_of_pos ((z + 10007 * (i : Int) * (i : Int) + 101 * (i : Int)) * (48271 + 2 * (i : Int))) (b := p) (by omega)
          have e5 : upd H2 U (.tup [.int (i : Nat), .int p]) s = some (.lst [.ref c, .int (a + 1), .int b2, .bl d]) := by rw [upd_ne us]; exact e4
          refine ⟨_, rfl, s, _, 2, .int b2, rfl, rfl, SqL.of e5, rfl, _, rfl, _, _, rfl, rfl, .inr (by omega), ?_⟩
          refine ⟨_, rfl, _, _, rfl, rfl, ⟨by decide, by decide, by omega⟩, .inl ⟨_, rfl, _, rfl, _, _, rfl, rfl, hf0, _, _, rfl, rfl, _, rfl, s, _, 2, 2, rfl, rfl, e5, rfl, ?_⟩⟩
          have tU : t ≠ U := fun q => by rw [q, hU] at e3; cases e3
          exact ⟨(e2.new hU).put, by rw [upd_ne ts, upd_ne tU]; exact e3, ⟨_, upd_same⟩, _, _, _, rfl⟩
        · rintro σ H2 ⟨e2, _, ⟨b2, e4⟩, _⟩
          exact kd _ _ _ _ e2 e4
      · exact kd _ _ _ _ (SameX.refl s H').put upd_same
def lapsOf (σ : L2.St) (_ : Hp) : Nat := match (σ[2]? : Option (Option V)) with
  | some (some (V.int l)) => (64 - l).toNat
  | _ => 0
theorem ok_take {f : Addr} {fd : FuncData} (F : DefX K mg "_law_take" s_take ["_law_state", "_law_many"] f fd) (T : Txt K mg) (c_fill : Cal P w K mg base CX0 1 "_law_fill" spFill) : Cal P w K mg base CX0 2 "_law_take" spTake := by
  refine cal_mk F sc_take (fun vs H Q E h => ?_) (fun cdv A outer s H vs Q E hr h => ?_)
  · obtain ⟨s, c, ns, n, rfl, _⟩ := h
    rfl
  · obtain ⟨s, c, ns, n, rfl, h0, hl, n0, n1, k⟩ := h
    refine ⟨_, (pss_cons (ps_set (i := 2) sc_take.nd rfl (Or.inl rfl) pe_int)
(pss_cons (ps_while PassesOwn.never (pt_cut (PW.pt (pw_and (pt_cmpR op_lt (pv 2) pe_int (nomark _)) (pw_and1 (pt_cut (PW.pt (pw_or (pt_cmpR op_eq (pe_ix ix_list (pv 0) pe_int (fun _ _ => rfl)) pe_int (nomark _)) (pw_or1 (pt_cut (PW.pt (pw_and (pt_val (pe_ix ix_list (pv 0) pe_int (fun _ _ => rfl))) (pw_and1 (pt_cmpR op_lt (pe_ix ix_list (pv 0) pe_int (fun _ _ => rfl)) (pe_op op_mul (pv 1) pe_int) (nomark _))))))))))))))
(pss_cons (ps_expr (pe_c c_fill hr (by first | decide | assumption) rfl (pa_cons (pv 0) pa_nil)))
(pss_cons (ps_aug (i := 2) sc_take.nd rfl (Or.inl rfl) pe_int ip_add)
(pss_one (ps_if (pt_cut (PW.pt (pw_and (pt_val (pe_ix ix_list (pv 0) pe_int (fun _ _ => rfl))) (pw_and1 (pt_cmpR op_lt (pe_ix ix_list (pv 0) pe_int (fun _ _ => rfl)) (pe_op op_mul (pv 1) pe_int) (nomark _))))))
(pss_one (ps_asg (pe_op op_add (pe_ix ix_list (pv 0) pe_int (fun _ _ => rfl)) (pe_op op_mul (pe_op op_mul (pv 1) pe_int) (pe_op op_add pe_int (pe_op op_modN (pe_callTy call_int1 (by rfl) T.int (by decide +kernel) (pa_cons (pe_ix ix_list (pv 0) pe_int (fun _ _ => rfl)) pa_nil)) pe_int)))) (pg_sub (pv 0) pe_int set_list)))
pss_nil)))))
(pss_cons (ps_set (i := 3) sc_take.nd rfl (Or.inl rfl) (pe_op op_modN (pe_callTy call_int1 (by rfl) T.int (by decide +kernel) (pa_cons (pe_ix ix_list (pv 0) pe_int (fun _ _ => rfl)) pa_nil)) (pv 1)))
(pss_cons (ps_asg (pe_op op_fdivN (pe_ix ix_list (pv 0) pe_int (fun _ _ => rfl)) (pv 1)) (pg_sub (pv 0) pe_int set_list))
(pss_one (ps_ret (pv 3))))))), ?_⟩
    show tWhile _ _ _ [some (.ref s), some (.int n), some (.int 0), none] H
    refine while_by (fun σ H2 => SameX s H H2 ∧ StA H2 s c ns ∧ ∃ l : Int, σ = [some (.ref s), some (.int n), some (.int l), none]) lapsOf ⟨SameX.refl s H, h0, 0, rfl⟩ ?_ (fun σ H Q Q' h x => ?_)
    · rintro σ H2 ⟨e2, ⟨cs, hc, a, b, m, hs⟩, l, rfl⟩
      refine ⟨fun t H3 => H3 = H2 ∧ (t = true → l < 64), ?_, ?_⟩
      · refine ⟨_, rfl, _, _, rfl, rfl, _, rfl, ite2 (fun h1 => ?_) (fun h1 => ⟨rfl, fun h => nomatch h⟩)⟩
        have hl64 : l < 64 := of_decide_eq_true h1
        refine ⟨fun t H3 => H3 = H2, ⟨_, rfl, s, _, 2, _, rfl, rfl, SqL.of hs, rfl, rfl, _, rfl, ite2 (fun _ => rfl) (fun _ => ?_)⟩, fun t H3 e => ⟨e, fun _ => hl64⟩⟩
        refine ⟨fun t H3 => H3 = H2, ⟨_, rfl, s, _, 3, _, rfl, rfl, SqL.of hs, rfl, m, rfl, ite2 (fun _ => ?_) (fun _ => rfl)⟩, fun t H3 e => e⟩
        exact ⟨_, rfl, s, _, 2, _, rfl, rfl, SqL.of hs, rfl, _, rfl, _, _, rfl, rfl, .inr (by decide), _, _, rfl, rfl, _, rfl, rfl⟩
      · rintro t H3 ⟨rfl, ht⟩
        refine ite2 (fun h1 => ?_) (fun h1 => ?_)
        · have hl64 := ht h1
          have dec : ∀ x : Option V, lapsOf [some (.ref s), some (.int n), some (.int (l + 1)), x] H3 < lapsOf [some (.ref s), some (.int n), some (.int l), none] H3 := fun x => by
            show (64 - (l + 1)).toNat < (64 - l).toNat
            omega
          refine ⟨_, rfl, s, c, ns, rfl, ⟨cs, hc, a, b, m, hs⟩, hl, fun H4 e4 h4 => ?_⟩
          obtain ⟨_, hc4, a4, b4, m4, hs4⟩ := id h4
          refine ⟨_, rfl, _, _, rfl, rfl, ?_⟩
          refine ⟨fun t H5 => H5 = H4, ⟨_, rfl, s, _, 3, _, rfl, rfl, SqL.of hs4, rfl, m4, rfl, ite2 (fun _ => ?_) (fun _ => rfl)⟩, ?_⟩
          · exact ⟨_, rfl, s, _, 2, _, rfl, rfl, SqL.of hs4, rfl, _, rfl, _, _, rfl, rfl, .inr (by decide), _, _, rfl, rfl, _, rfl, rfl⟩
          rintro t5 H5 rfl
          refine ite2 (fun _ => ?_) (fun _ => ?_)
          · refine ⟨_, rfl, s, _, 2, _, rfl, rfl, SqL.of hs4, rfl, _, rfl, _, _, rfl, rfl, .inr (by decide), ?_⟩
            refine ⟨_, rfl, s, _, 2, _, rfl, rfl, SqL.of hs4, rfl, .inl ⟨_, rfl, _, _, rfl, rfl, (by show (4093 : Int) ≠ 0; decide), _, _, rfl, rfl, _, _, rfl, rfl, .inl ?_, _, _, rfl, rfl, ?_⟩⟩
            · show -(2 ^ 64) < n * 4096 ∧ n * 4096 < 2 ^ 64
              omega
            refine ⟨_, rfl, s, _, 2, 2, rfl, rfl, hs4, rfl, ⟨(e2.trans e4).put, ⟨cs, ?_, _, _, _, upd_same⟩, _, rfl⟩, dec none⟩
            rw [upd_ne cs]
            exact hc4
          · exact ⟨⟨e2.trans e4, h4, _, rfl⟩, dec none⟩
        · refine ⟨_, rfl, s, _, 2, _, rfl, rfl, SqL.of hs, rfl, .inl ⟨_, rfl, _, rfl, _, _, rfl, rfl, by omega, ?_⟩⟩
          refine ⟨_, rfl, s, _, 2, _, rfl, rfl, SqL.of hs, rfl, _, rfl, _, _, rfl, rfl, ⟨by omega, by omega⟩, _, rfl, s, _, 2, 2, rfl, rfl, hs, rfl, _, rfl, ?_⟩
          have d0 := Int.fmod_nonneg_of_pos b (b := n) n0
          have d1 := Int.fmod_lt_of_pos b (b := n) n0
          obtain ⟨d, hd⟩ := Int.eq_ofNat_of_zero_le d0
          show Q (.int (b.fmod n)) _
          rw [hd]
          refine k d _ (by omega) e2.put ⟨cs, ?_, _, _, _, upd_same⟩
          rw [upd_ne cs]
          exact hc
    · obtain ⟨M, a, b⟩ := x
      exact ⟨M, a, fun b' H' m => h _ _ (b b' H' m)⟩
theorem ok_one {f : Addr} {fd : FuncData} (F : DefX K mg "_law_one" s_one ["_law_state", "_law_things"] f fd) (T : Txt K mg) (c_take : Cal P w K mg base CX0 2 "_law_take" spTake) : Cal P w K mg base CX0 3 "_law_one" (spOne K) := by
  refine cal_mk F sc_one (fun vs H Q E h => ?_) (fun cdv A outer s H vs Q E hr h => ?_)
  · obtain ⟨s, c, l, ns, xs, rfl, _⟩ := h
    rfl
  · obtain ⟨s, c, l, ns, xs, rfl, h0, hl, ls, hx, x0, x1, k⟩ := h
    refine ⟨_, (pss_one (ps_ret (pe_ix ix_seq (pv 1) (pe_c c_take hr (by first | decide | assumption) rfl (pa_cons (pv 0) (pa_cons (pe_callB call_len_seq (by rfl) T.len (by decide +kernel) (pa_cons (pv 1) pa_nil)) pa_nil))) (fun _ _ => rfl)))), ?_⟩
    refine ⟨_, rfl, _, rfl, _, rfl, l, xs, rfl, hx, s, c, ns, _, rfl, h0, hl, by omega, by omega, fun d H2 hd e2 h2 => ?_⟩
    have hdl : d < xs.length := by omega
    have hv : xs[d]? = some xs[d] := List.getElem?_eq_getElem hdl
    rcases hx with hx | hx
    · exact .inl ⟨l, xs, _, _, rfl, rfl, e2.l ls hx, atI_nat hv, k d _ H2 hv e2 h2⟩
    · exact .inr (.inl ⟨l, xs, _, _, rfl, rfl, e2.t ls hx, atI_nat hv, k d _ H2 hv e2 h2⟩)
end
end MK
set_option Elab.async false
set_option linter.all false
set_option autoImplicit false
set_option maxRecDepth 100000
set_option maxHeartbeats 4000000
namespace MK
open PySem PySem.Spec PyProof.Rows L2
local macro_rules | `(tactic| walk_at "x") => `(tactic| dsimp only [tSeq, tAsg, tRet, tDrop, tLst, tTup, tCons, tOp, tUn, tIfS])
/-! ### what counts as a word, an integer, a list -/
abbrev s_is_word : Stmt := topS 10
theorem sc_is_word : FnScope ["thing", "letter"] ["thing"] (defScope s_is_word) := ⟨rfl, rfl, rfl, by decide +kernel, rfl, by decide +kernel, by decide +kernel⟩
abbrev s_is_integer : Stmt := topS 11
theorem sc_is_integer : FnScope ["thing"] ["thing"] (defScope s_is_integer) := ⟨rfl, rfl, rfl, by decide +kernel, rfl, by decide +kernel, by decide +kernel⟩
abbrev s_is_list : Stmt := topS 12
theorem sc_is_list : FnScope ["thing"] ["thing"] (defScope s_is_list) := ⟨rfl, rfl, rfl, by decide +kernel, rfl, by decide +kernel, by decide +kernel⟩
abbrev s_is_modes : Stmt := topS 24
theorem sc_is_modes : FnScope ["modes"] ["modes"] (defScope s_is_modes) := ⟨rfl, rfl, rfl, by decide +kernel, rfl, by decide +kernel, by decide +kernel⟩
def NoStr (K : PySem.W.Frag) (H : Hp) (x : V) : Prop := ∃ t, TyX K H x (.type t) ∧ kitB t "str" = some false
def spWord (K : PySem.W.Frag) : Sp := fun vs H Q _ => ∃ x, vs = [x] ∧ ((∃ z, x = .str z ∧ z.length ≤ sizeLine ∧ ∀ H', Same H H' → Q (.bl (wordB z)) H') ∨ (NoStr K H x ∧ Q (.bl false) H))
def spInt : Sp := fun vs H Q _ => ∃ i, vs = [.int i] ∧ Q (.bl true) H
def spList (K : PySem.W.Frag) : Sp := fun vs H Q _ => ∃ x xs, vs = [x] ∧ Sq K H x xs ∧ ∀ H', Same H H' → Q (.bl true) H'
def spModes : Sp := fun vs H Q _ => ∃ i : Int, vs = [.int i] ∧ Q (.bl (decide (1 ≤ i) && decide (i ≤ 4))) H
section
variable {P : Program} {w : World} {K : PySem.W.Frag} {mg : Str → Option Value} {base : Heap} {C : Cst}
theorem ok_word {f : Addr} {fd : FuncData} (F : DefX K mg "is_word" s_is_word ["thing"] f fd) (T : Txt K mg) (Cs : Csts K w mg C) : Cal P w K mg base CX0 1 "is_word" (spWord K) := by
  refine cal_mk F sc_is_word (fun vs H Q E h => ?_) (fun cdv A outer sh H vs Q E hr h => ?_)
  · obtain ⟨x, rfl, _⟩ := h
    rfl
  · obtain ⟨x, rfl, h⟩ := h
    refine ⟨_, (pss_cons (ps_if (pt_cut (PW.pt (pw_or (pt_not (pt_val (pe_callB call_isi (by rfl) T.isinstance (by decide +kernel) (pa_cons (pv 0) (pa_cons (pe_tyv (n := "str") (by rfl) T.str (by decide +kernel)) pa_nil))))) (pw_or1 (pt_not (pt_chain op_le op_le pe_int (pe_callB call_len_str (by rfl) T.len (by decide +kernel) (pa_cons (pv 0) pa_nil)) (pe_cst rfl Cs.MOST_LETTERS)))))))
(pss_one (ps_ret pe_bl))
pss_nil)
(pss_one (ps_ret (pe_callB (cr_all rfl) (by rfl) T.all (by decide +kernel) (pa_cons (pe_lc (own := [("letter", 1)]) (g := (gName 1)) (tt := tYes) rfl sc_is_word.nd (pi_str (pv 0)) (blkOk_by (own := [("letter", 1)]) (N := ["thing", "letter"]) (sc := defScope s_is_word) (by decide +kernel)) (fun _ _ _ _ _ => (pg_name (i := 1) sc_is_word.nd rfl (Or.inl rfl))) (fun _ _ _ _ _ => pts_nil) (fun _ _ _ _ _ => (pe_chain op_le_str op_le_str pe_str (pv 1) pe_str))) pa_nil))))), ?_⟩
    rcases h with ⟨z, rfl, hz, q⟩ | ⟨⟨t, ty, kt⟩, q⟩
    · refine ⟨fun t H' => H' = H ∧ t = !(decide (1 ≤ z.cps.size) && decide (z.cps.size ≤ 8)), ?_, ?_⟩
      · refine ⟨_, rfl, _, _, _, _, true, rfl, .ty _, .base (.str z), kit_ty (by decide +kernel), true, rfl, iteF ?_⟩
        refine ⟨_, rfl, z, rfl, hz, _, _, rfl, rfl, _, rfl, ?_⟩
        have e1 : decide ((1 : Int) ≤ (z.length : Int)) = decide (1 ≤ z.cps.size) := decide_eq_decide.mpr (by show ((1 : Int) ≤ (z.cps.size : Int)) ↔ _; omega)
        have e2 : decide ((z.length : Int) ≤ 8) = decide (z.cps.size ≤ 8) := decide_eq_decide.mpr (by show (((z.cps.size : Nat) : Int) ≤ 8) ↔ _; omega)
        rw [e1]
        refine ite2 (fun h1 => ?_) (fun h1 => ?_)
        · refine ⟨_, _, rfl, rfl, _, rfl, rfl, ?_⟩
          rw [e2, h1, Bool.true_and]
        · refine ⟨_, rfl, rfl, ?_⟩
          rw [Bool.not_eq_true] at h1
          rw [h1, Bool.false_and]
      · rintro t H' ⟨rfl, rfl⟩
        refine ite2 (fun h1 => ?_) (fun h1 => ?_)
        · have e : wordB z = false := by
            rw [Bool.not_eq_true'] at h1
            unfold wordB
            rw [h1, Bool.false_and]
          have := q _ (Same.refl H')
          rw [e] at this
          exact this
        · rw [Bool.not_eq_true', Bool.not_eq_false] at h1
          have hs : z.cps.toList.length < 9 := by
            have := of_decide_eq_true (Bool.and_eq_true_iff.mp h1).2
            rw [Array.length_toList]
            omega
          refine ⟨_, rfl, z, rfl, fun D hD => ?_⟩
          refine lc_it walk_str (fun i H2 => Same H' H2 ∧ H2 D = some (.lst (((z.cps.toList.take i).map letterB).map V.bl))) ⟨same_new (Same.refl H') hD, by rw [upd_same]; rfl⟩ (fun _ _ _ _ => trivial) ?_ ?_
          · rintro i x H3 H2 hi ⟨e2, d2⟩ ⟨rfl, c, hc, rfl⟩
            refine ⟨rfl, ?_⟩
            refine ⟨_, rfl, _, _, rfl, rfl, _, rfl, ?_⟩
            rw [letter_le]
            have step : Same H' (upd H2 D (.lst (((z.cps.toList.take i).map letterB).map V.bl ++ [V.bl (letterB c)]))) ∧ upd H2 D (.lst (((z.cps.toList.take i).map letterB).map V.bl ++ [V.bl (letterB c)])) D = some (.lst (((z.cps.toList.take (i + 1)).map letterB).map V.bl)) := by
              refine ⟨fun b o hb => ?_, ?_⟩
              · rw [upd_ne (ne_of_none hb hD)]
                exact e2 _ _ hb
              · rw [upd_same, letters_take _ i c (by rw [Array.getElem?_toList]; exact hc), List.map_append]
                rfl
            have short : (((z.cps.toList.take i).map letterB).map V.bl).length < sizeLine := by
              rw [List.length_map, List.length_map]
              exact Nat.lt_of_le_of_lt (List.length_take_le' ..) (Nat.lt_trans hs (by decide))
            refine ite2 (fun h2 => ?_) (fun h2 => ?_)
            · refine ⟨_, _, rfl, rfl, _, d2, short, ?_⟩
              rw [letter_ge, show decide (c ≤ 122) = letterB c by unfold letterB; rw [h2, Bool.true_and]]
              exact step
            · refine ⟨_, d2, short, ?_⟩
              rw [Bool.not_eq_true] at h2
              rw [show false = letterB c by unfold letterB; rw [h2, Bool.false_and]]
              exact step
          · rintro H2 ⟨e2, d2⟩
            refine ⟨D, _, rfl, SqL.of d2, ?_⟩
            have := q _ e2
            unfold wordB at this
            rw [h1, Bool.true_and] at this
            have ev : ((z.cps.toList.take z.cps.size).map letterB).all id = z.cps.toList.all letterB := by
              rw [← Array.length_toList, List.take_length, List.all_map]
              rfl
            rw [ev]
            exact this
    · refine ⟨fun t H' => H' = H ∧ t = true, ?_, ?_⟩
      · refine ⟨_, rfl, _, _, _, _, false, rfl, .ty _, ty, kit_ty kt, false, rfl, iteT ⟨rfl, rfl⟩⟩
      · rintro _ _ ⟨rfl, rfl⟩
        exact iteT q
theorem ok_integer {f : Addr} {fd : FuncData} (F : DefX K mg "is_integer" s_is_integer ["thing"] f fd) (T : Txt K mg) : Cal P w K mg base CX0 1 "is_integer" spInt := by
  refine cal_mk F sc_is_integer (fun vs H Q E h => ?_) (fun cdv A outer sh H vs Q E hr h => ?_)
  · obtain ⟨i, rfl, _⟩ := h
    rfl
  · obtain ⟨i, rfl, q⟩ := h
    refine ⟨_, (pss_one (ps_ret (pe_cut (pe_and (pe_callB call_isi (by rfl) T.isinstance (by decide +kernel) (pa_cons (pv 0) (pa_cons (pe_tyv (n := "int") (by rfl) T.int (by decide +kernel)) pa_nil))) (pe_one (pe_not (pe_callB call_isi (by rfl) T.isinstance (by decide +kernel) (pa_cons (pv 0) (pa_cons (pe_tyv (n := "bool") (by rfl) T.bool (by decide +kernel)) pa_nil))))))))), ?_⟩
    refine ⟨fun v H2 => v = .bl true ∧ H2 = H, ?_, fun v H2 e => by rw [e.1, e.2]; exact q⟩
    refine ⟨_, rfl, _, _, _, _, true, rfl, .ty _, .base (.int i), kit_ty (by decide +kernel), true, rfl, iteT ?_⟩
    exact ⟨_, rfl, _, _, _, _, false, rfl, .ty _, .base (.int i), kit_ty (by decide +kernel), _, rfl, rfl, rfl⟩
theorem ok_list {f : Addr} {fd : FuncData} (F : DefX K mg "is_list" s_is_list ["thing"] f fd) (T : Txt K mg) : Cal P w K mg base CX0 1 "is_list" (spList K) := by
  refine cal_mk F sc_is_list (fun vs H Q E h => ?_) (fun cdv A outer sh H vs Q E hr h => ?_)
  · obtain ⟨x, xs, rfl, _⟩ := h
    rfl
  · obtain ⟨x, xs, rfl, ⟨a, rfl, sq⟩, q⟩ := h
    refine ⟨_, (pss_one (ps_ret (pe_callB call_isiT (by rfl) T.isinstance (by decide +kernel) (pa_cons (pv 0) (pa_cons (pe_tup (pa_cons (pe_tyv (n := "list") (by rfl) T.list (by decide +kernel)) (pa_cons (pe_tyv (n := "tuple") (by rfl) T.tuple (by decide +kernel)) pa_nil))) pa_nil))))), ?_⟩
    obtain ⟨t, ty, kt⟩ := sq_ty sq
    refine ⟨_, rfl, by show 2 ≤ sizeLine; decide, fun p hp => ?_⟩
    have e1 : Same H (upd H p (.tup [.ty "list", .ty "tuple"])) := same_new (Same.refl H) hp
    exact ⟨_, p, _, _, _, true, rfl, upd_same, .cons (.ty _) (.cons (.ty _) .nil), tyx_keep e1 ty, kt, q _ e1⟩
theorem ok_modes {f : Addr} {fd : FuncData} (F : DefX K mg "is_modes" s_is_modes ["modes"] f fd) (T : Txt K mg) (Cs : Csts K w mg C) (c_is_integer : Cal P w K mg base CX0 1 "is_integer" spInt) : Cal P w K mg base CX0 2 "is_modes" spModes := by
  refine cal_mk F sc_is_modes (fun vs H Q E h => ?_) (fun cdv A outer sh H vs Q E hr h => ?_)
  · obtain ⟨i, rfl, _⟩ := h
    rfl
  · obtain ⟨i, rfl, q⟩ := h
    refine ⟨_, (pss_one (ps_ret (pe_cut (pe_and (pe_c c_is_integer hr (by first | decide | assumption) rfl (pa_cons (pv 0) pa_nil)) (pe_one (pe_chain op_le op_le pe_int (pv 0) (pe_cst rfl Cs.MOST_MODES))))))), ?_⟩
    refine ⟨fun v H2 => v = .bl (decide (1 ≤ i) && decide (i ≤ 4)) ∧ H2 = H, ?_, fun v H2 e => by rw [e.1, e.2]; exact q⟩
    refine ⟨_, rfl, i, rfl, true, rfl, iteT ?_⟩
    refine ⟨_, rfl, _, _, rfl, rfl, _, rfl, ite2 (fun h1 => ?_) (fun h1 => ?_)⟩
    · refine ⟨_, _, rfl, rfl, ?_, rfl⟩
      rw [h1, Bool.true_and]
    · refine ⟨?_, rfl⟩
      rw [Bool.not_eq_true] at h1
      rw [h1, Bool.false_and]
end
end MK
set_option Elab.async false
set_option linter.all false
set_option autoImplicit false
set_option maxRecDepth 100000
set_option maxHeartbeats 4000000
namespace MK
open PySem PySem.Spec PyProof.Rows L2
local macro_rules | `(tactic| walk_at "x") => `(tactic| dsimp only [tSeq, tAsg, tRet, tDrop, tLst, tTup, tCons, tOp, tUn, tIfS])
/-! ### fields -/
abbrev s_is_field : Stmt := topS 23
theorem sc_is_field : FnScope ["item", "earlier", "name", "sort", "need"] ["item", "earlier"] (defScope s_is_field) := ⟨rfl, rfl, rfl, by decide +kernel, rfl, by decide +kernel, by decide +kernel⟩
abbrev s_kept_fields : Stmt := topS 22
theorem sc_kept_fields : FnScope ["fields", "kept", "index", "item", "field", "earlier"] ["fields"] (defScope s_kept_fields) := ⟨rfl, rfl, rfl, by decide +kernel, rfl, by decide +kernel, by decide +kernel⟩
/-- a field -/
def spField (K : PySem.W.Frag) : Sp := fun vs H Q _ => ∃ (v : V) (e : Addr) (fd : FD) (ys : List Str), vs = [v, .ref e] ∧ FdA K H v fd ∧ SqL K H e (ys.map V.str) ∧ wordB fd.nm = true ∧ fd.nm ∉ ys ∧ ∀ H', Same H H' → Q (.bl true) H'
def spFields (K : PySem.W.Frag) : Sp := fun vs H Q _ => ∃ (s : Addr) (v : V) (fvs : List V) (fs : List FD), vs = [v] ∧ H s ≠ none ∧ Sq K (Off s H) v fvs ∧ Al (FdA K (Off s H)) fvs fs ∧ FsOk fs ∧
  ∀ r rvs H', Same H H' → Tu K (Off s H') r rvs → Al (FdT K (Off s H')) rvs fs → Q r H'
theorem word_len {z : Str} (h : wordB z = true) : z.length ≤ sizeLine := by
  unfold wordB at h
  have h1 := (Bool.and_eq_true_iff.mp h).1
  have h2 := of_decide_eq_true (Bool.and_eq_true_iff.mp h1).2
  exact Nat.le_trans (show z.cps.size ≤ 8 from h2) (by decide)
theorem nm_new {zs : List Str} {i : Nat} {z : Str} (nd : zs.Nodup) (h : zs[i]? = some z) : z ∉ zs.take i := by
  have hi := (List.getElem?_eq_some_iff.mp h).1
  have := not_ahead nd hi
  rw [List.getD_eq_getElem?_getD, h] at this
  exact this
section
variable {P : Program} {w : World} {K : PySem.W.Frag} {mg : Str → Option Value} {base : Heap} {C : Cst}
theorem ok_field {f : Addr} {fd : FuncData} (F : DefX K mg "is_field" s_is_field ["item", "earlier"] f fd) (T : Txt K mg) (Cs : Csts K w mg C) (c_is_list : Cal P w K mg base CX0 1 "is_list" (spList K)) (c_is_word : Cal P w K mg base CX0 1 "is_word" (spWord K)) : Cal P w K mg base CX0 2 "is_field" (spField K) := by
  refine cal_mk F sc_is_field (fun vs H Q E h => ?_) (fun cdv A outer sh H vs Q E hr h => ?_)
  · obtain ⟨v, e, fd, ys, rfl, _⟩ := h
    rfl
  · obtain ⟨v, e, fd, ys, rfl, ⟨a, rfl, hf⟩, he, hw, hn, q⟩ := h
    refine ⟨_, (pss_cons (ps_if (pt_cut (PW.pt (pw_or (pt_not (pt_val (pe_c c_is_list hr (by first | decide | assumption) rfl (pa_cons (pv 0) pa_nil)))) (pw_or1 (pt_cmpR op_ne (pe_callB call_len_seq (by rfl) T.len (by decide +kernel) (pa_cons (pv 0) pa_nil)) pe_int (nomark _))))))
(pss_one (ps_ret pe_bl))
pss_nil)
(pss_cons (ps_asg (pv 0) (pg_sq (by rfl) (pgs_cons (pg_name (i := 2) sc_is_field.nd rfl (Or.inl rfl)) (pgs_cons (pg_name (i := 3) sc_is_field.nd rfl (Or.inl rfl)) (pgs_cons (pg_name (i := 4) sc_is_field.nd rfl (Or.inl rfl)) pgs_nil)))))
(pss_one (ps_ret (pe_cut (pe_and (pe_c c_is_word hr (by first | decide | assumption) rfl (pa_cons (pv 2) pa_nil)) (pe_and (pe_cmpR op_notIn_seq (pv 2) (pv 1) (by rfl)) (pe_and (pe_cmpR op_in_seq (pv 3) (pe_cst rfl Cs.SORTS) (by rfl)) (pe_one (pe_callB call_isi (by rfl) T.isinstance (by decide +kernel) (pa_cons (pv 4) (pa_cons (pe_tyv (n := "bool") (by rfl) T.bool (by decide +kernel)) pa_nil)))))))))))), ?_⟩
    refine ⟨fun t H' => t = false ∧ Same H H', ⟨_, rfl, .ref a, _, rfl, ⟨a, rfl, hf⟩, fun H1 e1 => ⟨true, rfl, iteF ?_⟩⟩, ?_⟩
    · exact ⟨_, rfl, a, _, rfl, hf.elim (fun h => .inl (e1.seq h)) (fun h => .inr (same_t e1 h)), rfl, _, rfl, rfl, e1⟩
    rintro _ H1 ⟨rfl, e1⟩
    refine iteF ?_
    have hf1 : SqL K H1 a (FdV fd) ∨ SqT K H1 a (FdV fd) := hf.elim (fun h => .inl (e1.seq h)) (fun h => .inr (same_t e1 h))
    refine ⟨_, rfl, _, ⟨a, rfl, hf1⟩, rfl, _, _, rfl, _, _, rfl, _, _, rfl, rfl, ?_⟩
    refine ⟨fun v H2 => v = .bl true ∧ Same H H2, ?_, fun v H2 e => by rw [e.1]; exact q _ e.2⟩
    refine ⟨_, rfl, _, rfl, .inl ⟨_, rfl, word_len hw, fun H2 e2 => ?_⟩⟩
    rw [hw]
    refine ⟨_, rfl, iteT ?_⟩
    have e02 := e1.trans e2
    refine ⟨_, rfl, _, rfl, e, _, rfl, .inl (e02.seq he), rfl, flat_strs _, ?_⟩
    rw [inV_strs, decide_eq_false hn]
    refine ⟨_, rfl, iteT ?_⟩
    refine ⟨_, rfl, C.sorts, _, rfl, .inr (Cs.t_sorts _), rfl, rfl, true, ?_, iteT ?_⟩
    · cases fd.many <;> decide
    · exact ⟨_, rfl, _, _, _, _, true, rfl, .ty _, .base (.bl _), kit_ty (by decide +kernel), rfl, e02⟩
theorem ok_fields {f : Addr} {fd : FuncData} (F : DefX K mg "kept_fields" s_kept_fields ["fields"] f fd) (T : Txt K mg) (Cs : Csts K w mg C) (c_is_list : Cal P w K mg base CX0 1 "is_list" (spList K)) (c_is_field : Cal P w K mg base CX0 2 "is_field" (spField K)) : Cal P w K mg base CX0 3 "kept_fields" (spFields K) := by
  refine cal_mk F sc_kept_fields (fun vs H Q E h => ?_) (fun cdv A outer sh H vs Q E hr h => ?_)
  · obtain ⟨s, v, fvs, fs, rfl, _⟩ := h
    rfl
  · obtain ⟨s, v, fvs, fs, rfl, hs, ⟨a, rfl, hv⟩, hal, hok, k⟩ := h
    refine ⟨_, (pss_cons (ps_if (pt_cut (PW.pt (pw_or (pt_not (pt_val (pe_c c_is_list hr (by first | decide | assumption) rfl (pa_cons (pv 0) pa_nil)))) (pw_or1 (pt_cmpR op_eq (pe_callB call_len_seq (by rfl) T.len (by decide +kernel) (pa_cons (pv 0) pa_nil)) pe_int (nomark _))))))
(pss_one (ps_never))
pss_nil)
(pss_cons (ps_set (i := 1) sc_kept_fields.nd rfl (Or.inl rfl) (pe_lst pa_nil))
(pss_cons (ps_for PassesOwn.never rfl (pi_enV (by rfl) T.enumerate (pa_cons (pv 0) pa_nil)) (pg_tup (by rfl) (pgs_cons (pg_name (i := 2) sc_kept_fields.nd rfl (Or.inl rfl)) (pgs_cons (pg_name (i := 3) sc_kept_fields.nd rfl (Or.inl rfl)) pgs_nil)))
(pss_cons (ps_setLc (i := 5) (own := [("field", 4)]) (g := (gName 4)) (tt := tYes) rfl sc_kept_fields.nd rfl rfl (sw_true rfl rfl rfl (by decide +kernel)) (pi_list (pv 1)) (blkOk_by (own := [("field", 4)]) (N := ["fields", "kept", "index", "item", "field", "earlier"]) (sc := defScope s_kept_fields) (by decide +kernel)) (fun _ _ _ _ _ => (pg_name (i := 4) sc_kept_fields.nd rfl (Or.inl rfl))) (fun _ _ _ _ _ => pts_nil) (fun _ _ _ _ _ => (pe_ix (ix_tupK (K := K) rfl) (pv 4) pe_int (fun _ _ => rfl))))
(pss_cons (ps_if (pt_cut (PW.pt (pw_or (pt_cmpR op_ge (pv 2) (pe_cst rfl Cs.MOST_FIELDS) (nomark _)) (pw_or1 (pt_not (pt_val (pe_c c_is_field hr (by first | decide | assumption) rfl (pa_cons (pv 3) (pa_cons (pv 5) pa_nil)))))))))
(pss_one (ps_never))
pss_nil)
(pss_one (ps_expr (pe_bm PySem.F.plainAttrs_list PySem.F.slot_list_append PySem.F.type_list_append mt_append (pv 1) (pa_cons (pe_callTy call_tuple_of (by rfl) T.tuple (by decide +kernel) (pa_cons (pv 3) pa_nil)) pa_nil)))))))
(pss_one (ps_ret (pe_callTy call_tuple_of (by rfl) T.tuple (by decide +kernel) (pa_cons (pv 1) pa_nil))))))), ?_⟩
    have hv0 : SqL K H a fvs ∨ SqT K H a fvs := hv.elim (fun h => .inl (off_same.seq h)) (fun h => .inr (same_t off_same h))
    have len3 : fvs.length = fs.length := hal.1
    have l1 := hok.pos
    have l3 := hok.le
    refine ⟨fun t H' => t = false ∧ Same H H', ⟨_, rfl, .ref a, _, rfl, ⟨a, rfl, hv0⟩, fun H1 e1 => ⟨true, rfl, iteF ?_⟩⟩, ?_⟩
    · exact ⟨_, rfl, a, _, rfl, hv0.elim (fun h => .inl (e1.seq h)) (fun h => .inr (same_t e1 h)), rfl, _, rfl, decide_eq_false (fun e => by have := V.int.inj e; omega), e1⟩
    rintro _ H1 ⟨rfl, e1⟩
    refine iteF ?_
    refine ⟨by show 0 ≤ sizeLine; decide, fun D hD => ?_⟩
    have hsD : D ≠ s := fun e => by
      cases q : H s with
      | none => exact hs q
      | some o => rw [e, e1 _ _ q] at hD; cases hD
    have hD0 := none_of e1 hD
    refine ⟨_, rfl, a, fvs, Off s H, rfl, hv, off_same.trans (same_new e1 hD), fun J G wk hG => ?_⟩
    refine for_it wk (fun i σ H2 => Same H H2 ∧ ∃ kvs : List V, H2 D = some (.lst kvs) ∧ Al (FdT K (Off D (Off s H2))) kvs (fs.take i) ∧ ∃ x2 x3 x4 x5, σ = [some (.ref a), some (.ref D), x2, x3, x4, x5])
      ⟨same_new e1 hD, [], upd_same, Al.nil, none, none, none, none, rfl⟩ (fun i σ H2 _ h => hG _ (off_same.trans h.1)) ?_ ?_
    · rintro i x σ H2 H3 hi ⟨e2, kvs, d2, al, x2, x3, x4, x5, rfl⟩ ⟨U, _, y, rfl, hU, rfl, h1, hy⟩
      obtain rfl := Option.some.inj h1
      obtain ⟨f, hf, hfa⟩ := hal.get hy
      have hfm := List.mem_of_getElem? hf
      have e3 : Same H2 (upd H2 U (.tup [.int (i : Nat), y])) := same_new (Same.refl H2) hU
      refine ⟨U, _, rfl, SqT.of upd_same, rfl, _, _, rfl, _, _, rfl, rfl, ?_⟩
      refine ⟨_, rfl, D, rfl, ⟨_, SqL.of (e3 _ _ d2)⟩, fun D2 hD2 => ?_⟩
      refine lc_list (K := K) (a := D) (xs := kvs) (fun j H4 => Same H2 H4 ∧ H4 D2 = some (.lst ((((fs.take i).take j).map (·.nm)).map V.str))) ⟨same_new e3 hD2, upd_same⟩ (fun j H4 _ h => SqL.of (h.1 _ _ d2)) ?_ ?_
      · rintro j v H4 hv4 ⟨e4, d4⟩
        obtain ⟨g, hg, u, rfl, hu⟩ := al.get hv4
        have hu4 : SqT K H4 u (FdV g) := same_t (off_same.trans (off_same.trans e4)) hu
        refine ⟨rfl, ?_⟩
        refine ⟨_, rfl, u, _, 0, .str g.nm, rfl, rfl, hu4, rfl, _, d4, ?_, fun b o hb => ?_, ?_⟩
        · rw [List.length_map, List.length_map, List.length_take, List.length_take]
          exact Nat.lt_of_le_of_lt (by omega : _ ≤ 3) (by decide)
        · rw [upd_ne (ne_of_none (e3 _ _ hb) hD2)]
          exact e4 _ _ hb
        · rw [upd_same, List.take_succ (i := j), hg]
          simp
      rintro H4 ⟨e4, d4⟩
      rw [show kvs.length = (fs.take i).length from al.1, List.take_length] at d4
      have hi3 : i < fs.length := by
        have : i < fvs.length := hi
        omega
      have e24 := e2.trans e4
      refine ⟨fun t H' => t = false ∧ Same H4 H', ⟨_, rfl, _, _, rfl, rfl, _, rfl, iteB (decide_eq_false (by omega)) ?_⟩, ?_⟩
      · refine ⟨_, rfl, _, rfl, y, D2, f, _, rfl, FdA.keep (off_same.trans e24) hfa, SqL.of d4, hok.word f hfm, ?_, fun H5 e5 => ⟨true, rfl, rfl, e5⟩⟩
        rw [List.map_take]
        exact nm_new hok.nd (by rw [List.getElem?_map, hf]; rfl)
      rintro _ H5 ⟨rfl, e5⟩
      refine iteF ?_
      have e25 := e24.trans e5
      have d5 := (e4.trans e5) _ _ d2
      have kl : kvs.length < sizeLine := by
        rw [al.1, List.length_take]
        exact Nat.lt_of_le_of_lt (by omega : _ ≤ 3) (by decide)
      have tk : fs.take (i + 1) = fs.take i ++ [f] := by
        rw [List.take_succ, hf]
        rfl
      have fin : ∀ v H6, Same H5 H6 → FdT K (Off D (Off s H6)) v f → Same H (upd H6 D (.lst (kvs ++ [v]))) ∧ upd H6 D (.lst (kvs ++ [v])) D = some (.lst (kvs ++ [v])) ∧ Al (FdT K (Off D (Off s (upd H6 D (.lst (kvs ++ [v])))))) (kvs ++ [v]) (fs.take (i + 1)) := fun v H6 e6 hf6 => by
        refine ⟨fun b o hb => ?_, upd_same, ?_⟩
        · rw [upd_ne (ne_of_none hb hD0)]
          exact e6 _ _ (e25 _ _ hb)
        · rw [off_upd hsD, off_put, tk]
          exact (al.mono fun _ _ h => FdT.keep (same_off (same_off (e4.trans (e5.trans e6)))) h).snoc hf6
      refine ⟨_, rfl, .inl ⟨rfl, _, SqL.of d5⟩, _, rfl, ?_⟩
      obtain ⟨b, rfl, hb⟩ := hfa
      rcases hb with hb | hb
      · refine ⟨b, _, rfl, .inl ⟨(off_same.trans e25).seq hb, fun l hl => ?_⟩⟩
        have ls : l ≠ s := fun e => by
          cases q : H s with
          | none => exact hs q
          | some o => rw [e, e25 _ _ q] at hl; cases hl
        have lD : l ≠ D := fun e => by rw [e, d5] at hl; cases hl
        obtain ⟨p1, p2, p3⟩ := fin (.ref l) (upd H5 l (.tup (FdV f))) (same_new (Same.refl H5) hl) (Tu.tup (by rw [off_ne lD, off_ne ls, upd_same]))
        exact ⟨D, kvs, _, rfl, rfl, (upd_ne (Ne.symm lD)).trans d5, kl, p1, _, p2, p3, _, _, _, _, rfl⟩
      · obtain ⟨p1, p2, p3⟩ := fin (.ref b) H5 (Same.refl H5) ⟨b, rfl, same_t (same_offN (same_off e25) (off_none hD0)) hb⟩
        exact ⟨b, _, rfl, .inr ⟨same_t (off_same.trans e25) hb, ⟨D, kvs, _, rfl, rfl, d5, kl, p1, _, p2, p3, _, _, _, _, rfl⟩⟩⟩
    · rintro σ H2 ⟨e2, kvs, d2, al, x2, x3, x4, x5, rfl⟩
      refine ⟨_, rfl, D, kvs, rfl, .inl ⟨SqL.of d2, fun p hp => ?_⟩⟩
      have ps : p ≠ s := fun e => by
        cases q : H s with
        | none => exact hs q
        | some o => rw [e, e2 _ _ q] at hp; cases hp
      rw [len3, List.take_length] at al
      have e3 : Same H2 (upd H2 p (.tup kvs)) := same_new (Same.refl H2) hp
      refine k _ kvs _ (e2.trans e3) (Tu.tup (by rw [off_ne ps, upd_same])) (al.mono fun _ _ h => FdT.keep (off_same.trans (same_off e3)) h)
end
end MK
set_option Elab.async false
set_option linter.all false
set_option autoImplicit false
set_option maxRecDepth 100000
set_option maxHeartbeats 4000000
namespace MK
open PySem PySem.Spec PyProof.Rows L2
local macro_rules | `(tactic| walk_at "x") => `(tactic| dsimp only [tSeq, tAsg, tRet, tDrop, tLst, tTup, tCons, tOp, tUn, tIfS])
/-! ### moves, deeds, same -/
abbrev s_is_many : Stmt := topS 32
theorem sc_is_many : FnScope ["field", "sorts"] ["field", "sorts"] (defScope s_is_many) := ⟨rfl, rfl, rfl, by decide +kernel, rfl, by decide +kernel, by decide +kernel⟩
abbrev s_is_deed : Stmt := topS 30
theorem sc_is_deed : FnScope ["pair", "sorts", "deed", "field"] ["pair", "sorts"] (defScope s_is_deed) := ⟨rfl, rfl, rfl, by decide +kernel, rfl, by decide +kernel, by decide +kernel⟩
abbrev s_are_moves : Stmt := topS 28
theorem sc_are_moves : FnScope ["moves", "modes", "move"] ["moves", "modes"] (defScope s_are_moves) := ⟨rfl, rfl, rfl, by decide +kernel, rfl, by decide +kernel, by decide +kernel⟩
abbrev s_has_call_form : Stmt := topS 27
theorem sc_has_call_form : FnScope ["item", "name", "hand", "moves", "deeds", "same"] ["item"] (defScope s_has_call_form) := ⟨rfl, rfl, rfl, by decide +kernel, rfl, by decide +kernel, by decide +kernel⟩
def spMany : Sp := fun vs H Q _ => ∃ (z : Str) (so : Addr) (fs : List FD), vs = [.str z, .ref so] ∧ H so = some (.dK (sortsV fs)) ∧ (fs.map (·.nm)).Nodup ∧ (∃ f ∈ fs, f.nm = z ∧ f.many = true) ∧ Q (.bl true) H
def spDeed (K : PySem.W.Frag) : Sp := fun vs H Q _ => ∃ (v : V) (so : Addr) (fs : List FD) (d : Str × Str), vs = [v, .ref so] ∧ DeA K H v d ∧ H so = some (.dK (sortsV fs)) ∧ (fs.map (·.nm)).Nodup ∧ DeOk fs d ∧ ∀ H', Same H H' → Q (.bl true) H'
def spMoves (K : PySem.W.Frag) : Sp := fun vs H Q _ => ∃ (v : V) (n : Nat) (ms : List Int), vs = [v, .int n] ∧ Sq K H v (ms.map V.int) ∧ ms.length = n ∧ n ≤ 4 ∧ (∀ m ∈ ms, -1 ≤ m ∧ m < n) ∧ ∀ H', Same H H' → Q (.bl true) H'
def spCallForm (K : PySem.W.Frag) : Sp := fun vs H Q _ => ∃ (v : V) (cd : CD), vs = [v] ∧ CdA K H v cd ∧ ∀ H', Same H H' → Q (.bl true) H'
theorem sod_deed {z : Str} {b : Bool} (h : b ∈ deedSorts z) : ∃ l, sodOf z = some l ∧ sortS b ∈ l := by
  unfold deedSorts at h
  unfold sodOf
  split at h
  · rw [if_pos (by assumption)]
    exact ⟨_, rfl, by rw [List.mem_singleton.mp h]; decide⟩
  rw [if_neg (by assumption)]
  split at h
  · rw [if_pos (by assumption)]
    exact ⟨_, rfl, by rw [List.mem_singleton.mp h]; decide⟩
  rw [if_neg (by assumption)]
  split at h
  · rw [if_pos (by assumption)]
    exact ⟨_, rfl, by rw [List.mem_singleton.mp h]; decide⟩
  rw [if_neg (by assumption)]
  split at h
  · rw [if_pos (by assumption)]
    exact ⟨_, rfl, by rw [List.mem_singleton.mp h]; decide⟩
  rw [if_neg (by assumption)]
  split at h
  · rw [if_pos (by assumption)]
    exact ⟨_, rfl, by cases b <;> decide⟩
  · cases h
theorem sq_at {K : PySem.W.Frag} {H H' : Hp} {a : Addr} {xs : List V} (e : Same H H') (h : SqL K H a xs ∨ SqT K H a xs) : SqL K H' a xs ∨ SqT K H' a xs := h.elim (fun h => .inl (e.seq h)) (fun h => .inr (same_t e h))
section
variable {P : Program} {w : World} {K : PySem.W.Frag} {mg : Str → Option Value} {base : Heap} {C : Cst}
theorem ok_many {f : Addr} {fd : FuncData} (F : DefX K mg "is_many" s_is_many ["field", "sorts"] f fd) (T : Txt K mg) : Cal P w K mg base CX0 1 "is_many" spMany := by
  refine cal_mk F sc_is_many (fun vs H Q E h => ?_) (fun cdv A outer sh H vs Q E hr h => ?_)
  · obtain ⟨z, so, fs, rfl, _⟩ := h
    rfl
  · obtain ⟨z, so, fs, rfl, hso, nd, ⟨g, gm, rfl, gt⟩, q⟩ := h
    refine ⟨_, (pss_one (ps_ret (pe_cut (pe_and (pe_callB call_isi (by rfl) T.isinstance (by decide +kernel) (pa_cons (pv 0) (pa_cons (pe_tyv (n := "str") (by rfl) T.str (by decide +kernel)) pa_nil))) (pe_and (pe_cmp (pc_din (hu_of hr) (pv 0) (pv 1)) rfl) (pe_one (pe_cmpR op_eq (pe_dget (hu_of hr) (pv 1) (pv 0) (fun _ _ => rfl)) pe_str (nomark _)))))))), ?_⟩
    refine ⟨fun v H2 => v = .bl true ∧ H2 = H, ?_, fun v H2 e => by rw [e.1, e.2]; exact q⟩
    have hg : DGet H so (.str g.nm) (some (.str (sortS g.many))) := by
      have := DGet.k (k := .inr g.nm) hso
      rw [sorts_get nd gm] at this
      exact this
    refine ⟨_, rfl, _, _, _, _, true, rfl, .ty _, .base (.str _), kit_ty (by decide +kernel), true, rfl, iteT ?_⟩
    refine ⟨_, rfl, _, rfl, so, _, rfl, hg, true, rfl, iteT ?_⟩
    refine ⟨_, rfl, _, rfl, so, _, rfl, hg, rfl, ?_, rfl⟩
    rw [gt]
    rfl
theorem ok_deed {f : Addr} {fd : FuncData} (F : DefX K mg "is_deed" s_is_deed ["pair", "sorts"] f fd) (T : Txt K mg) (Cs : Csts K w mg C) (c_is_list : Cal P w K mg base CX0 1 "is_list" (spList K)) : Cal P w K mg base CX0 2 "is_deed" (spDeed K) := by
  obtain ⟨es, n, KD⟩ := Cs.sodD
  refine cal_mk F sc_is_deed (fun vs H Q E h => ?_) (fun cdv A outer sh H vs Q E hr h => ?_)
  · obtain ⟨v, so, fs, d, rfl, _⟩ := h
    rfl
  · obtain ⟨v, so, fs, d, rfl, ⟨a, rfl, hd⟩, hso, nd, ⟨g, gm, ge, gd⟩, q⟩ := h
    refine ⟨_, (pss_cons (ps_if (pt_cut (PW.pt (pw_or (pt_not (pt_val (pe_c c_is_list hr (by first | decide | assumption) rfl (pa_cons (pv 0) pa_nil)))) (pw_or1 (pt_cmpR op_ne (pe_callB call_len_seq (by rfl) T.len (by decide +kernel) (pa_cons (pv 0) pa_nil)) pe_int (nomark _))))))
(pss_one (ps_ret pe_bl))
pss_nil)
(pss_cons (ps_asg (pv 0) (pg_sq (by rfl) (pgs_cons (pg_name (i := 2) sc_is_deed.nd rfl (Or.inl rfl)) (pgs_cons (pg_name (i := 3) sc_is_deed.nd rfl (Or.inl rfl)) pgs_nil))))
(pss_cons (ps_if (pt_cut (PW.pt (pw_or (pt_not (pt_val (pe_callB call_isi (by rfl) T.isinstance (by decide +kernel) (pa_cons (pv 2) (pa_cons (pe_tyv (n := "str") (by rfl) T.str (by decide +kernel)) pa_nil))))) (pw_or1 (pt_cmpR (op_notIn_kd KD) (pv 2) (pe_cst rfl Cs.SORTS_OF_DEEDS) (by rfl))))))
(pss_one (ps_ret pe_bl))
pss_nil)
(pss_one (ps_ret (pe_cut (pe_and (pe_callB call_isi (by rfl) T.isinstance (by decide +kernel) (pa_cons (pv 3) (pa_cons (pe_tyv (n := "str") (by rfl) T.str (by decide +kernel)) pa_nil))) (pe_and (pe_cmp (pc_din (hu_of hr) (pv 3) (pv 1)) rfl) (pe_one (pe_cmpR op_in_seq (pe_dget (hu_of hr) (pv 1) (pv 3) (fun _ _ => rfl)) (pe_kget KD (pe_cst rfl Cs.SORTS_OF_DEEDS) (pv 2) (fun _ _ => rfl)) (by rfl))))))))))), ?_⟩
    refine ⟨fun t H' => t = false ∧ Same H H', ⟨_, rfl, .ref a, _, rfl, ⟨a, rfl, hd⟩, fun H1 e1 => ⟨true, rfl, iteF ⟨_, rfl, a, _, rfl, sq_at e1 hd, rfl, _, rfl, rfl, e1⟩⟩⟩, ?_⟩
    rintro _ H1 ⟨rfl, e1⟩
    refine iteF ?_
    refine ⟨_, rfl, _, ⟨a, rfl, sq_at e1 hd⟩, rfl, _, _, rfl, _, _, rfl, rfl, ?_⟩
    obtain ⟨l, hl, hml⟩ := sod_deed gd
    obtain ⟨sa, l', hns, hl', hsa⟩ := (Cs.sodN d.1).resolve_left fun q => by rw [q.2] at hl; cases hl
    obtain rfl : l' = l := by rw [hl'] at hl; exact Option.some.inj hl
    refine ⟨fun t H' => t = false ∧ H' = H1, ⟨_, rfl, _, _, _, _, true, rfl, .ty _, .base (.str _), kit_ty (by decide +kernel), true, rfl, iteF ⟨_, rfl, _, _, rfl, rfl, hns, _, rfl, rfl, rfl⟩⟩, ?_⟩
    rintro _ H1 ⟨rfl, rfl⟩
    refine iteF ?_
    have hg : DGet H1 so (.str d.2) (some (.str (sortS g.many))) := by
      have := DGet.k (k := .inr g.nm) (e1 _ _ hso)
      rw [sorts_get nd gm] at this
      rw [← ge]
      exact this
    refine ⟨fun v H2 => v = .bl true ∧ H2 = H1, ?_, fun v H2 e => by rw [e.1, e.2]; exact q _ e1⟩
    refine ⟨_, rfl, _, _, _, _, true, rfl, .ty _, .base (.str _), kit_ty (by decide +kernel), true, rfl, iteT ?_⟩
    refine ⟨_, rfl, _, rfl, so, _, rfl, hg, true, rfl, iteT ?_⟩
    refine ⟨_, rfl, _, rfl, so, _, rfl, hg, _, rfl, _, _, .ref sa, rfl, rfl, hns, rfl, ?_⟩
    refine ⟨sa, _, rfl, .inr (hsa _), rfl, flat_strs _, ?_, rfl⟩
    rw [inV_strs, decide_eq_true hml]
    rfl
theorem ok_moves {f : Addr} {fd : FuncData} (F : DefX K mg "are_moves" s_are_moves ["moves", "modes"] f fd) (T : Txt K mg) (c_is_integer : Cal P w K mg base CX0 1 "is_integer" spInt) : Cal P w K mg base CX0 2 "are_moves" (spMoves K) := by
  refine cal_mk F sc_are_moves (fun vs H Q E h => ?_) (fun cdv A outer sh H vs Q E hr h => ?_)
  · obtain ⟨v, n, ms, rfl, _⟩ := h
    rfl
  · obtain ⟨v, n, ms, rfl, ⟨a, rfl, hm⟩, rfl, n4, hz, q⟩ := h
    refine ⟨_, (pss_cons (ps_if (pt_cmpR op_ne (pe_callB call_len_seq (by rfl) T.len (by decide +kernel) (pa_cons (pv 0) pa_nil)) (pv 1) (nomark _))
(pss_one (ps_ret pe_bl))
pss_nil)
(pss_one (ps_ret (pe_callB (cr_all rfl) (by rfl) T.all (by decide +kernel) (pa_cons (pe_lc (own := [("move", 2)]) (g := (gName 2)) (tt := tYes) rfl sc_are_moves.nd (pi_sqV (pv 0)) (blkOk_by (own := [("move", 2)]) (N := ["moves", "modes", "move"]) (sc := defScope s_are_moves) (by decide +kernel)) (fun _ _ _ _ _ => (pg_name (i := 2) sc_are_moves.nd rfl (Or.inl rfl))) (fun _ _ _ _ _ => pts_nil) (fun _ _ _ _ _ => (pe_cut (pe_and (pe_c c_is_integer hr (by first | decide | assumption) rfl (pa_cons (pv 2) pa_nil)) (pe_one (pe_chain op_le op_lt (pe_un un_neg pe_int) (pv 2) (pv 1))))))) pa_nil))))), ?_⟩
    refine ⟨_, rfl, a, _, rfl, hm, _, rfl, rfl, _, rfl, iteB ?_ ?_⟩
    · rw [List.length_map, decide_eq_true rfl]
      rfl
    refine ⟨_, rfl, a, _, H, rfl, hm, Same.refl H, fun J G wk hG D hD => ?_⟩
    refine lc_it wk (fun i H2 => Same H H2 ∧ H2 D = some (.lst ((List.replicate i true).map V.bl))) ⟨same_new (Same.refl H) hD, upd_same⟩ (fun i H2 _ h => hG _ h.1) ?_ ?_
    · rintro i x H3 H2 hi ⟨e2, d2⟩ ⟨rfl, hx⟩
      rw [List.getElem?_map] at hx
      obtain ⟨m, hm2, rfl⟩ := Option.map_eq_some_iff.mp hx
      have hmz := hz m (List.mem_of_getElem? hm2)
      have hi4 : i < 4 := by
        have : i < (ms.map V.int).length := hi
        rw [List.length_map] at this
        omega
      refine ⟨rfl, ?_⟩
      refine ⟨fun v H4 => v = .bl true ∧ H4 = H2, ?_, ?_⟩
      · refine ⟨_, rfl, m, rfl, true, rfl, iteT ?_⟩
        refine ⟨_, rfl, _, rfl, _, _, rfl, rfl, _, rfl, iteA (decide_eq_true (by omega)) ⟨_, rfl, _, _, rfl, rfl, ?_, rfl⟩⟩
        exact congrArg V.bl (decide_eq_true hmz.2)
      · rintro _ _ ⟨rfl, rfl⟩
        refine ⟨_, d2, ?_, fun b o hb => ?_, ?_⟩
        · rw [List.length_map, List.length_replicate]
          exact Nat.lt_trans hi4 (by decide)
        · rw [upd_ne (ne_of_none hb hD)]
          exact e2 _ _ hb
        · rw [upd_same, List.replicate_succ', List.map_append]
          rfl
    · rintro H2 ⟨e2, d2⟩
      refine ⟨D, _, rfl, SqL.of d2, ?_⟩
      rw [show (List.replicate (ms.map V.int).length true).all id = true by simp]
      exact q _ e2
theorem ok_callForm {f : Addr} {fd : FuncData} (F : DefX K mg "has_call_form" s_has_call_form ["item"] f fd) (T : Txt K mg) (c_is_list : Cal P w K mg base CX0 1 "is_list" (spList K)) : Cal P w K mg base CX0 2 "has_call_form" (spCallForm K) := by
  refine cal_mk F sc_has_call_form (fun vs H Q E h => ?_) (fun cdv A outer sh H vs Q E hr h => ?_)
  · obtain ⟨v, cd, rfl, _⟩ := h
    rfl
  · obtain ⟨v, cd, rfl, ⟨m, d, s, ds, ⟨a, rfl, h1⟩, h2, h3, h4, h5⟩, q⟩ := h
    refine ⟨_, (pss_cons (ps_if (pt_cut (PW.pt (pw_or (pt_not (pt_val (pe_c c_is_list hr (by first | decide | assumption) rfl (pa_cons (pv 0) pa_nil)))) (pw_or1 (pt_cmpR op_ne (pe_callB call_len_seq (by rfl) T.len (by decide +kernel) (pa_cons (pv 0) pa_nil)) pe_int (nomark _))))))
(pss_one (ps_ret pe_bl))
pss_nil)
(pss_cons (ps_asg (pv 0) (pg_sq (by rfl) (pgs_cons (pg_name (i := 1) sc_has_call_form.nd rfl (Or.inl rfl)) (pgs_cons (pg_name (i := 2) sc_has_call_form.nd rfl (Or.inl rfl)) (pgs_cons (pg_name (i := 3) sc_has_call_form.nd rfl (Or.inl rfl)) (pgs_cons (pg_name (i := 4) sc_has_call_form.nd rfl (Or.inl rfl)) (pgs_cons (pg_name (i := 5) sc_has_call_form.nd rfl (Or.inl rfl)) pgs_nil)))))))
(pss_cons (ps_if (pt_cut (PW.pt (pw_or (pt_not (pt_val (pe_callB call_isi (by rfl) T.isinstance (by decide +kernel) (pa_cons (pv 1) (pa_cons (pe_tyv (n := "str") (by rfl) T.str (by decide +kernel)) pa_nil))))) (pw_or1 (pt_not (pt_val (pe_callB call_isi (by rfl) T.isinstance (by decide +kernel) (pa_cons (pv 2) (pa_cons (pe_tyv (n := "str") (by rfl) T.str (by decide +kernel)) pa_nil)))))))))
(pss_one (ps_ret pe_bl))
pss_nil)
(pss_one (ps_ret (pe_cut (pe_and (pe_c c_is_list hr (by first | decide | assumption) rfl (pa_cons (pv 3) pa_nil)) (pe_and (pe_c c_is_list hr (by first | decide | assumption) rfl (pa_cons (pv 4) pa_nil)) (pe_one (pe_c c_is_list hr (by first | decide | assumption) rfl (pa_cons (pv 5) pa_nil))))))))))), ?_⟩
    obtain ⟨ma, rfl, h2⟩ := h2
    obtain ⟨da, rfl, h3⟩ := h3
    obtain ⟨sa, rfl, h5⟩ := h5
    refine ⟨fun t H' => t = false ∧ Same H H', ⟨_, rfl, .ref a, _, rfl, ⟨a, rfl, h1⟩, fun H1 e1 => ⟨true, rfl, iteF ⟨_, rfl, a, _, rfl, sq_at e1 h1, rfl, _, rfl, rfl, e1⟩⟩⟩, ?_⟩
    rintro _ H1 ⟨rfl, e1⟩
    refine iteF ?_
    refine ⟨_, rfl, _, ⟨a, rfl, sq_at e1 h1⟩, rfl, _, _, rfl, _, _, rfl, _, _, rfl, _, _, rfl, _, _, rfl, rfl, ?_⟩
    refine ⟨fun t H' => t = false ∧ H' = H1, ⟨_, rfl, _, _, _, _, true, rfl, .ty _, .base (.str _), kit_ty (by decide +kernel), true, rfl, iteF ⟨_, rfl, _, _, _, _, true, rfl, .ty _, .base (.str _), kit_ty (by decide +kernel), true, rfl, rfl, rfl⟩⟩, ?_⟩
    rintro _ H1 ⟨rfl, rfl⟩
    refine iteF ?_
    refine ⟨fun v H2 => v = .bl true ∧ Same H H2, ?_, fun v H2 e => by rw [e.1]; exact q _ e.2⟩
    refine ⟨_, rfl, .ref ma, _, rfl, ⟨ma, rfl, sq_at e1 h2⟩, fun H2 e2 => ⟨true, rfl, iteT ?_⟩⟩
    refine ⟨_, rfl, .ref da, _, rfl, ⟨da, rfl, sq_at (e1.trans e2) h3⟩, fun H3 e3 => ⟨true, rfl, iteT ?_⟩⟩
    exact ⟨_, rfl, .ref sa, _, rfl, ⟨sa, rfl, sq_at ((e1.trans e2).trans e3) h5⟩, fun H4 e4 => ⟨rfl, ((e1.trans e2).trans e3).trans e4⟩⟩
end
end MK
set_option Elab.async false
set_option linter.all false
set_option autoImplicit false
set_option maxRecDepth 100000
set_option maxHeartbeats 4000000
namespace MK
open PySem PySem.Spec PyProof.Rows L2
local macro_rules | `(tactic| walk_at "x") => `(tactic| dsimp only [tSeq, tAsg, tRet, tDrop, tLst, tTup, tCons, tOp, tUn, tIfS])
/-! ### deeds and same, whole; a call -/
abbrev s_are_deeds : Stmt := topS 29
theorem sc_are_deeds : FnScope ["deeds", "sorts", "pair", "deed", "field", "worded"] ["deeds", "sorts"] (defScope s_are_deeds) := ⟨rfl, rfl, rfl, by decide +kernel, rfl, by decide +kernel, by decide +kernel⟩
abbrev s_is_same : Stmt := topS 31
theorem sc_is_same : FnScope ["same", "hand", "sorts", "field"] ["same", "hand", "sorts"] (defScope s_is_same) := ⟨rfl, rfl, rfl, by decide +kernel, rfl, by decide +kernel, by decide +kernel⟩
abbrev s_kept_call : Stmt := topS 33
theorem sc_kept_call : FnScope ["call", "name", "hand", "moves", "deeds", "same", "pair"] ["call"] (defScope s_kept_call) := ⟨rfl, rfl, rfl, by decide +kernel, rfl, by decide +kernel, by decide +kernel⟩
abbrev s_wrong_part : Stmt := topS 26
theorem sc_wrong_part : FnScope ["item", "earlier", "sorts", "modes", "name", "hand", "moves", "deeds", "same"] ["item", "earlier", "sorts", "modes"] (defScope s_wrong_part) := ⟨rfl, rfl, rfl, by decide +kernel, rfl, by decide +kernel, by decide +kernel⟩
def spDeedsOk (K : PySem.W.Frag) : Sp := fun vs H Q _ => ∃ (v : V) (so : Addr) (fs : List FD) (dvs : List V) (ds : List (Str × Str)), vs = [v, .ref so] ∧ Sq K H v dvs ∧ Al (DeA K H) dvs ds ∧ H so = some (.dK (sortsV fs)) ∧ (fs.map (·.nm)).Nodup ∧ (∀ d ∈ ds, DeOk fs d) ∧ ds.length ≤ 4 ∧ (worded ds).Nodup ∧ ∀ H', Same H H' → Q (.bl true) H'
def spSameOk (K : PySem.W.Frag) : Sp := fun vs H Q _ => ∃ (v : V) (so : Addr) (fs : List FD) (hd : Str) (zs : List Str), vs = [v, .str hd, .ref so] ∧ Sq K H v (zs.map V.str) ∧ H so = some (.dK (sortsV fs)) ∧ (fs.map (·.nm)).Nodup ∧ (∀ z ∈ zs, ∃ f ∈ fs, f.nm = z ∧ f.many = true) ∧ zs.length < 100 ∧ (hd = "self" → zs = []) ∧ zs.Nodup ∧ ∀ H', Same H H' → Q (.bl true) H'
def spKeptCall (K : PySem.W.Frag) : Sp := fun vs H Q _ => ∃ (s : Addr) (v : V) (cd : CD), vs = [v] ∧ H s ≠ none ∧ CdA K (Off s H) v cd ∧ cd.deeds.length ≤ 4 ∧ ∀ r H', Same H H' → CdT K (Off s H') r cd → Q r H'
def spWrong (K : PySem.W.Frag) : Sp := fun vs H Q _ => ∃ (v : V) (e so : Addr) (n : Nat) (fs : List FD) (ys : List Str) (cd : CD), vs = [v, .ref e, .ref so, .int n] ∧ CdA K H v cd ∧ SqL K H e (ys.map V.str) ∧ H so = some (.dK (sortsV fs)) ∧ FsOk fs ∧ n ≤ 4 ∧ CdOk fs n cd ∧ cd.nm ∉ ys ∧ ∀ H', Same H H' → Q .non H'
section
variable {P : Program} {w : World} {K : PySem.W.Frag} {mg : Str → Option Value} {base : Heap} {C : Cst}
theorem ok_deedsOk {f : Addr} {fd : FuncData} (F : DefX K mg "are_deeds" s_are_deeds ["deeds", "sorts"] f fd) (T : Txt K mg) (Cs : Csts K w mg C) (c_is_deed : Cal P w K mg base CX0 2 "is_deed" (spDeed K)) : Cal P w K mg base CX0 3 "are_deeds" (spDeedsOk K) := by
  refine cal_mk F sc_are_deeds (fun vs H Q E h => ?_) (fun cdv A outer sh H vs Q E hr h => ?_)
  · obtain ⟨v, so, fs, dvs, ds, rfl, _⟩ := h
    rfl
  · obtain ⟨v, so, fs, dvs, ds, rfl, ⟨a, rfl, hd⟩, hal, hso, nd, hok, d4, wnd, q⟩ := h
    refine ⟨_, (pss_cons (ps_if (pt_cut (PW.pt (pw_or (pt_cmpR op_gt (pe_callB call_len_seq (by rfl) T.len (by decide +kernel) (pa_cons (pv 0) pa_nil)) (pe_cst rfl Cs.MOST_DEEDS) (nomark _)) (pw_or1 (pt_not (pt_val (pe_callB (cr_all rfl) (by rfl) T.all (by decide +kernel) (pa_cons (pe_lc (own := [("pair", 2)]) (g := (gName 2)) (tt := tYes) rfl sc_are_deeds.nd (pi_sqV (pv 0)) (blkOk_by (own := [("pair", 2)]) (N := ["deeds", "sorts", "pair", "deed", "field", "worded"]) (sc := defScope s_are_deeds) (by decide +kernel)) (fun _ _ _ _ _ => (pg_name (i := 2) sc_are_deeds.nd rfl (Or.inl rfl))) (fun _ _ _ _ _ => pts_nil) (fun _ _ _ _ _ => (pe_c c_is_deed hr (by first | decide | assumption) rfl (pa_cons (pv 2) (pa_cons (pv 1) pa_nil))))) pa_nil))))))))
(pss_one (ps_ret pe_bl))
pss_nil)
(pss_cons (ps_setLc (i := 5) (own := [("deed", 3), ("field", 4)]) (g := (gSq K 2 (gCons (gName 3) (gCons (gName 4) gNil)))) rfl sc_are_deeds.nd rfl rfl (sw_true rfl rfl rfl (by decide +kernel)) (pi_sqV (pv 0)) (blkOk_by (own := [("deed", 3), ("field", 4)]) (N := ["deeds", "sorts", "pair", "deed", "field", "worded"]) (sc := defScope s_are_deeds) (by decide +kernel)) (fun _ _ _ _ _ => (pg_sq (by rfl) (pgs_cons (pg_name (i := 3) sc_are_deeds.nd rfl (Or.inl rfl)) (pgs_cons (pg_name (i := 4) sc_are_deeds.nd rfl (Or.inl rfl)) pgs_nil)))) (fun _ _ _ _ _ => (pts_one (pt_cmpR (op_in_seqK (K := K) rfl) (pv 3) (pe_cst rfl Cs.LIST_WORD_DEEDS) (by rfl)))) (fun _ _ _ _ _ => (pv 4)))
(pss_one (ps_ret (pe_cmpR op_eq (pe_lenS rfl (by rfl) T.len (by rfl) T.set (pv 5)) (pe_callB call_len_seq (by rfl) T.len (by decide +kernel) (pa_cons (pv 5) pa_nil)) (nomark _)))))), ?_⟩
    have dl : dvs.length ≤ 4 := by rw [hal.1]; exact d4
    refine ⟨fun t H' => t = false ∧ Same H H', ⟨_, rfl, a, _, rfl, hd, _, _, rfl, rfl, _, rfl, iteB (decide_eq_false (by omega)) ?_⟩, ?_⟩
    · refine ⟨_, rfl, a, _, H, rfl, hd, Same.refl H, fun J G wk hG D hD => ?_⟩
      refine lc_it wk (fun i H2 => Same H H2 ∧ H2 D = some (.lst ((List.replicate i true).map V.bl))) ⟨same_new (Same.refl H) hD, upd_same⟩ (fun i H2 _ h => hG _ h.1) ?_ ?_
      · rintro i x H3 H2 hi ⟨e2, d2⟩ ⟨rfl, hx⟩
        obtain ⟨dd, hdd, hda⟩ := hal.get hx
        refine ⟨rfl, ?_⟩
        refine ⟨_, rfl, _, rfl, x, so, fs, dd, rfl, DeA.keep e2 hda, e2 _ _ hso, nd, hok dd (List.mem_of_getElem? hdd), fun H4 e4 => ⟨_, e4 _ _ d2, ?_, fun b o hb => ?_, ?_⟩⟩
        · rw [List.length_map, List.length_replicate]
          exact Nat.lt_trans (Nat.lt_of_lt_of_le hi dl) (by decide)
        · rw [upd_ne (ne_of_none hb hD)]
          exact e4 _ _ (e2 _ _ hb)
        · rw [upd_same, List.replicate_succ', List.map_append]
          rfl
      · rintro H2 ⟨e2, d2⟩
        refine ⟨D, _, rfl, SqL.of d2, true, ?_, rfl, e2⟩
        simp
    rintro _ H1 ⟨rfl, e1⟩
    refine iteF ?_
    refine ⟨_, rfl, a, _, H, rfl, hd, e1, fun J G wk hG D hD => ?_⟩
    refine lc_it wk (fun i H2 => Same H H2 ∧ H2 D = some (.lst ((worded (ds.take i)).map V.str))) ⟨same_new e1 hD, upd_same⟩ (fun i H2 _ h => hG _ h.1) ?_ ?_
    · rintro i x H3 H2 hi ⟨e2, d2⟩ ⟨rfl, hx⟩
      obtain ⟨dd, hdd, hda⟩ := hal.get hx
      have tk : worded (ds.take (i + 1)) = worded (ds.take i) ++ (if dd.1 = ("add" : Str) ∨ dd.1 = ("strike" : Str) then [dd.2] else []) := by
        rw [List.take_succ, hdd]
        exact worded_snoc _ _
      refine ⟨DeV dd, DeA.keep e2 hda, rfl, _, _, rfl, _, _, rfl, rfl, rfl, ?_⟩
      refine ⟨_, rfl, C.lwd, _, rfl, .inr (Cs.t_lwd _), rfl, rfl, _, rfl, ?_⟩
      rw [show ([.str "add", .str "strike"] : List V) = (["add", "strike"] : List Str).map V.str from rfl, inV_strs]
      refine ite2 (fun h1 => ?_) (fun h1 => ?_)
      · have hm : dd.1 = ("add" : Str) ∨ dd.1 = ("strike" : Str) := by
          have := of_decide_eq_true h1
          simpa using this
        refine ⟨_, rfl, _, d2, ?_, fun b o hb => ?_, ?_⟩
        · rw [List.length_map]
          have : (worded (ds.take i)).length ≤ (ds.take i).length := by unfold worded; rw [List.length_map]; exact List.length_filter_le ..
          have h2 : (ds.take i).length ≤ ds.length := List.length_take_le' ..
          exact Nat.lt_of_le_of_lt (by omega : _ ≤ 4) (by decide)
        · rw [upd_ne (ne_of_none hb (none_of e1 hD))]
          exact e2 _ _ hb
        · rw [upd_same, tk, if_pos hm, List.map_append]
          rfl
      · have hm : ¬ (dd.1 = ("add" : Str) ∨ dd.1 = ("strike" : Str)) := fun q => h1 (decide_eq_true (by simpa using q))
        refine ⟨e2, ?_⟩
        rw [tk, if_neg hm, List.append_nil]
        exact d2
    · rintro H2 ⟨e2, d2⟩
      rw [hal.1, List.take_length] at d2
      have wl : (worded ds).length < 1000 := by
        have : (worded ds).length ≤ ds.length := by unfold worded; rw [List.length_map]; exact List.length_filter_le ..
        omega
      refine ⟨_, rfl, worded ds, Sq.lst d2, wnd, wl, _, rfl, D, _, rfl, .inl (SqL.of d2), rfl, ?_⟩
      rw [List.length_map, decide_eq_true rfl]
      exact q _ e2
theorem ok_sameOk {f : Addr} {fd : FuncData} (F : DefX K mg "is_same" s_is_same ["same", "hand", "sorts"] f fd) (T : Txt K mg) (c_is_many : Cal P w K mg base CX0 1 "is_many" spMany) : Cal P w K mg base CX0 2 "is_same" (spSameOk K) := by
  refine cal_mk F sc_is_same (fun vs H Q E h => ?_) (fun cdv A outer sh H vs Q E hr h => ?_)
  · obtain ⟨v, so, fs, hd, zs, rfl, _⟩ := h
    rfl
  · obtain ⟨v, so, fs, hd, zs, rfl, ⟨a, rfl, hz⟩, hso, nd, hok, z9, hself, znd, q⟩ := h
    refine ⟨_, (pss_cons (ps_if (pt_not (pt_val (pe_callB (cr_all rfl) (by rfl) T.all (by decide +kernel) (pa_cons (pe_lc (own := [("field", 3)]) (g := (gName 3)) (tt := tYes) rfl sc_is_same.nd (pi_sqV (pv 0)) (blkOk_by (own := [("field", 3)]) (N := ["same", "hand", "sorts", "field"]) (sc := defScope s_is_same) (by decide +kernel)) (fun _ _ _ _ _ => (pg_name (i := 3) sc_is_same.nd rfl (Or.inl rfl))) (fun _ _ _ _ _ => pts_nil) (fun _ _ _ _ _ => (pe_c c_is_many hr (by first | decide | assumption) rfl (pa_cons (pv 3) (pa_cons (pv 2) pa_nil))))) pa_nil))))
(pss_one (ps_ret pe_bl))
pss_nil)
(pss_cons (ps_if (pt_cut (PW.pt (pw_and (pt_cmpR op_eq (pv 1) pe_str (nomark _)) (pw_and1 (pt_cmpR op_gt (pe_callB call_len_seq (by rfl) T.len (by decide +kernel) (pa_cons (pv 0) pa_nil)) pe_int (nomark _))))))
(pss_one (ps_ret pe_bl))
pss_nil)
(pss_one (ps_ret (pe_cmpR op_eq (pe_lenS rfl (by rfl) T.len (by rfl) T.set (pv 0)) (pe_callB call_len_seq (by rfl) T.len (by decide +kernel) (pa_cons (pv 0) pa_nil)) (nomark _)))))), ?_⟩
    refine ⟨_, rfl, a, _, H, rfl, hz, Same.refl H, fun J G wk hG D hD => ?_⟩
    refine lc_it wk (fun i H2 => Same H H2 ∧ H2 D = some (.lst ((List.replicate i true).map V.bl))) ⟨same_new (Same.refl H) hD, upd_same⟩ (fun i H2 _ h => hG _ h.1) ?_ ?_
    · rintro i x H3 H2 hi ⟨e2, d2⟩ ⟨rfl, hx⟩
      rw [List.getElem?_map] at hx
      obtain ⟨z, hz2, rfl⟩ := Option.map_eq_some_iff.mp hx
      have hi9 : i < 100 := by
        have : i < (zs.map V.str).length := hi
        rw [List.length_map] at this
        omega
      refine ⟨rfl, ?_⟩
      refine ⟨_, rfl, _, rfl, z, so, fs, rfl, e2 _ _ hso, nd, hok z (List.mem_of_getElem? hz2), _, d2, ?_, fun b o hb => ?_, ?_⟩
      · rw [List.length_map, List.length_replicate]
        exact Nat.lt_trans hi9 (by decide)
      · rw [upd_ne (ne_of_none hb hD)]
        exact e2 _ _ hb
      · rw [upd_same, List.replicate_succ', List.map_append]
        rfl
    · rintro H2 ⟨e2, d2⟩
      refine ⟨D, _, rfl, SqL.of d2, true, by simp, iteF ?_⟩
      refine ⟨fun t H' => t = false ∧ H' = H2, ⟨_, rfl, rfl, _, rfl, ite2 (fun h1 => ?_) (fun h1 => ⟨rfl, rfl⟩)⟩, ?_⟩
      · obtain rfl := hself (V.str.inj (of_decide_eq_true h1))
        exact ⟨_, rfl, a, _, rfl, sq_at e2 hz, _, _, rfl, rfl, _, rfl, rfl, rfl⟩
      rintro _ H2 ⟨rfl, rfl⟩
      refine iteF ?_
      refine ⟨_, rfl, zs, ⟨a, rfl, sq_at e2 hz⟩, znd, by omega, _, rfl, a, _, rfl, sq_at e2 hz, rfl, ?_⟩
      rw [List.length_map, decide_eq_true rfl]
      exact q _ e2
theorem ok_keptCall {f : Addr} {fd : FuncData} (F : DefX K mg "kept_call" s_kept_call ["call"] f fd) (T : Txt K mg) : Cal P w K mg base CX0 1 "kept_call" (spKeptCall K) := by
  refine cal_mk F sc_kept_call (fun vs H Q E h => ?_) (fun cdv A outer sh H vs Q E hr h => ?_)
  · obtain ⟨s, v, cd, rfl, _⟩ := h
    rfl
  · obtain ⟨s, v, cd, rfl, hs, ⟨m, d, sm, ds, ⟨a, rfl, h1⟩, h2, h3, h4, h5⟩, d4, k⟩ := h
    refine ⟨_, (pss_cons (ps_asg (pv 0) (pg_sq (by rfl) (pgs_cons (pg_name (i := 1) sc_kept_call.nd rfl (Or.inl rfl)) (pgs_cons (pg_name (i := 2) sc_kept_call.nd rfl (Or.inl rfl)) (pgs_cons (pg_name (i := 3) sc_kept_call.nd rfl (Or.inl rfl)) (pgs_cons (pg_name (i := 4) sc_kept_call.nd rfl (Or.inl rfl)) (pgs_cons (pg_name (i := 5) sc_kept_call.nd rfl (Or.inl rfl)) pgs_nil)))))))
(pss_one (ps_ret (pe_tup (pa_cons (pv 1) (pa_cons (pv 2) (pa_cons (pe_cut (pe_callTy call_tuple_of (by rfl) T.tuple (by decide +kernel) (pa_cons (pv 3) pa_nil))) (pa_cons (pe_cut (pe_callTy call_tuple_of (by rfl) T.tuple (by decide +kernel) (pa_cons (pe_lc (own := [("pair", 6)]) (g := (gName 6)) (tt := tYes) rfl sc_kept_call.nd (pi_sqV (pv 4)) (blkOk_by (own := [("pair", 6)]) (N := ["call", "name", "hand", "moves", "deeds", "same", "pair"]) (sc := defScope s_kept_call) (by decide +kernel)) (fun _ _ _ _ _ => (pg_name (i := 6) sc_kept_call.nd rfl (Or.inl rfl))) (fun _ _ _ _ _ => pts_nil) (fun _ _ _ _ _ => (pe_cut (pe_callTy (call_tuple_ofK (K := K) rfl) (by rfl) T.tuple (by decide +kernel) (pa_cons (pv 6) pa_nil))))) pa_nil))) (pa_cons (pe_cut (pe_callTy call_tuple_of (by rfl) T.tuple (by decide +kernel) (pa_cons (pv 5) pa_nil))) pa_nil))))))))), ?_⟩
    have h10 : SqL K H a [.str cd.nm, .str cd.hand, m, d, sm] ∨ SqT K H a [.str cd.nm, .str cd.hand, m, d, sm] := sq_at off_same h1
    obtain ⟨da, rfl, h3⟩ := h3
    obtain ⟨ma, rfl, h2⟩ := h2
    obtain ⟨sa, rfl, h5⟩ := h5
    refine ⟨_, rfl, _, ⟨a, rfl, h10⟩, rfl, _, _, rfl, _, _, rfl, _, _, rfl, _, _, rfl, _, _, rfl, rfl, ?_⟩
    refine ⟨_, rfl, _, rfl, fun v H1 => Same H H1 ∧ Tu K (Off s H1) v (cd.moves.map V.int), ⟨_, rfl, rd_tupM (K := K) hs ⟨ma, rfl, h2⟩⟩, ?_⟩
    rintro mv H1 ⟨e1, tm⟩
    refine ⟨fun v H4 => Same H1 H4 ∧ ∃ tvs, Tu K (Off s H4) v tvs ∧ Al (DeT K (Off s H4)) tvs cd.deeds, ?_, ?_⟩
    · refine ⟨_, rfl, da, ds, Off s H, rfl, h3, off_same.trans e1, fun J G wk hG D hD => ?_⟩
      have Ds := ne_s hs e1 hD
      refine lc_it wk (fun i H2 => Same H1 H2 ∧ ∃ tvs : List V, H2 D = some (.lst tvs) ∧ Al (DeT K (Off D (Off s H2))) tvs (cd.deeds.take i)) ⟨same_new (Same.refl H1) hD, [], upd_same, Al.nil⟩ (fun i H2 _ h => hG _ ((off_same.trans e1).trans h.1)) ?_ ?_
      · rintro i x H3 H2 hi ⟨e2, tvs, d2, al⟩ ⟨rfl, hx⟩
        obtain ⟨dd, hdd, hda⟩ := h4.get hx
        have e12 := e1.trans e2
        refine ⟨rfl, ?_⟩
        refine ⟨fun v H4 => Same H2 H4 ∧ DeT K (Off s H4) v dd, ⟨_, rfl, rd_tupM (K := K) (kept_s hs e12) (DeA.keep (same_off e12) hda)⟩, ?_⟩
        rintro v H4 ⟨e4, tv⟩
        have d4' := e4 _ _ d2
        refine ⟨_, d4', ?_, fun b o hb => ?_, tvs ++ [v], upd_same, ?_⟩
        · rw [al.1]
          have : (cd.deeds.take i).length ≤ cd.deeds.length := List.length_take_le' ..
          exact Nat.lt_of_le_of_lt (by omega : _ ≤ 4) (by decide)
        · rw [upd_ne (ne_of_none hb hD)]
          exact e4 _ _ (e2 _ _ hb)
        · rw [off_upd Ds, off_put, List.take_succ, hdd]
          exact (al.mono fun _ _ h => DeT.keep (same_off (same_off e4)) h).snoc (Tu.offL tv ((off_ne Ds).trans d4'))
      · rintro H2 ⟨e2, tvs, d2, al⟩
        have e12 := e1.trans e2
        have al : Al (DeT K (Off D (Off s H2))) tvs cd.deeds := by
          have h := al
          rw [h4.1, List.take_length] at h
          exact h
        refine ⟨D, _, rfl, .inl ⟨SqL.of d2, fun l hl => ?_⟩⟩
        have e3 := same_new (Same.refl H2) hl (o := .tup tvs)
        refine ⟨e2.trans e3, tvs, Tu.tup ?_, al.mono fun _ _ h => DeT.keep (off_same.trans (same_off e3)) h⟩
        rw [off_ne (ne_s hs e12 hl), upd_same]
    rintro dv H2 ⟨e2, tvs, td, al⟩
    have e12 := e1.trans e2
    refine ⟨fun v H4 => Same H2 H4 ∧ Tu K (Off s H4) v (cd.same.map V.str), ⟨_, rfl, rd_tupM (K := K) (kept_s hs e12) (Sq.keep (same_off e12) ⟨sa, rfl, h5⟩)⟩, ?_⟩
    rintro sv H4 ⟨e4, ts⟩
    refine ⟨by show 5 ≤ sizeLine; decide, fun p hp => ?_⟩
    have e14 := e12.trans e4
    have e5 := same_new (Same.refl H4) hp (o := .tup [.str cd.nm, .str cd.hand, mv, dv, sv])
    refine k (.ref p) _ (e14.trans e5) ⟨mv, dv, sv, tvs, Tu.tup ?_, tm.keep (same_off (e2.trans (e4.trans e5))), td.keep (same_off (e4.trans e5)), al.mono fun _ _ h => DeT.keep (same_off (e4.trans e5)) h, ts.keep (same_off e5)⟩
    rw [off_ne (ne_s hs e14 hp), upd_same]
theorem ok_wrong {f : Addr} {fd : FuncData} (F : DefX K mg "wrong_part" s_wrong_part ["item", "earlier", "sorts", "modes"] f fd) (T : Txt K mg) (Cs : Csts K w mg C) (c_has_call_form : Cal P w K mg base CX0 2 "has_call_form" (spCallForm K)) (c_is_word : Cal P w K mg base CX0 1 "is_word" (spWord K))
    (c_are_moves : Cal P w K mg base CX0 2 "are_moves" (spMoves K)) (c_are_deeds : Cal P w K mg base CX0 3 "are_deeds" (spDeedsOk K)) (c_is_same : Cal P w K mg base CX0 2 "is_same" (spSameOk K)) : Cal P w K mg base CX0 4 "wrong_part" (spWrong K) := by
  refine cal_mk F sc_wrong_part (fun vs H Q E h => ?_) (fun cdv A outer sh H vs Q E hr h => ?_)
  · obtain ⟨v, e, so, n, fs, ys, cd, rfl, _⟩ := h
    rfl
  · obtain ⟨v, e, so, n, fs, ys, cd, rfl, ⟨m, d, sm, ds, ⟨a, rfl, h1⟩, ⟨ma, rfl, h2⟩, ⟨da, rfl, h3⟩, h4, ⟨sa, rfl, h5⟩⟩, he, hso, fok, n4, ok, hn, q⟩ := h
    refine ⟨_, (pss_cons (ps_if (pt_not (pt_val (pe_c c_has_call_form hr (by first | decide | assumption) rfl (pa_cons (pv 0) pa_nil))))
(pss_one (ps_ret pe_str))
pss_nil)
(pss_cons (ps_asg (pv 0) (pg_sq (by rfl) (pgs_cons (pg_name (i := 4) sc_wrong_part.nd rfl (Or.inl rfl)) (pgs_cons (pg_name (i := 5) sc_wrong_part.nd rfl (Or.inl rfl)) (pgs_cons (pg_name (i := 6) sc_wrong_part.nd rfl (Or.inl rfl)) (pgs_cons (pg_name (i := 7) sc_wrong_part.nd rfl (Or.inl rfl)) (pgs_cons (pg_name (i := 8) sc_wrong_part.nd rfl (Or.inl rfl)) pgs_nil)))))))
(pss_cons (ps_if (pt_cut (PW.pt (pw_or (pt_not (pt_val (pe_c c_is_word hr (by first | decide | assumption) rfl (pa_cons (pv 4) pa_nil)))) (pw_or1 (pt_cmpR op_in_seq (pv 4) (pv 1) (by rfl))))))
(pss_one (ps_ret pe_str))
pss_nil)
(pss_cons (ps_if (pt_cmpR op_notIn_seq (pv 5) (pe_cst rfl Cs.HANDS) (by rfl))
(pss_one (ps_ret pe_str))
pss_nil)
(pss_cons (ps_if (pt_not (pt_val (pe_c c_are_moves hr (by first | decide | assumption) rfl (pa_cons (pv 6) (pa_cons (pv 3) pa_nil)))))
(pss_one (ps_ret pe_str))
pss_nil)
(pss_cons (ps_if (pt_not (pt_val (pe_c c_are_deeds hr (by first | decide | assumption) rfl (pa_cons (pv 7) (pa_cons (pv 2) pa_nil)))))
(pss_one (ps_ret pe_str))
pss_nil)
(pss_cons (ps_if (pt_not (pt_val (pe_c c_is_same hr (by first | decide | assumption) rfl (pa_cons (pv 8) (pa_cons (pv 5) (pa_cons (pv 2) pa_nil))))))
(pss_one (ps_ret pe_str))
pss_nil)
(pss_one (ps_ret pe_non))))))))), ?_⟩
    have hcd : CdA K H (.ref a) cd := ⟨_, _, _, ds, ⟨a, rfl, h1⟩, ⟨ma, rfl, h2⟩, ⟨da, rfl, h3⟩, h4, ⟨sa, rfl, h5⟩⟩
    refine ⟨_, rfl, .ref a, cd, rfl, hcd, fun H1 e1 => ⟨true, rfl, iteF ?_⟩⟩
    refine ⟨_, rfl, _, ⟨a, rfl, sq_at e1 h1⟩, rfl, _, _, rfl, _, _, rfl, _, _, rfl, _, _, rfl, _, _, rfl, rfl, ?_⟩
    refine ⟨fun t H' => t = false ∧ Same H H', ⟨_, rfl, _, rfl, .inl ⟨_, rfl, word_len ok.word, fun H2 e2 => ?_⟩⟩, ?_⟩
    · rw [ok.word]
      refine ⟨true, rfl, iteF ⟨_, rfl, _, rfl, e, _, rfl, .inl ((e1.trans e2).seq he), rfl, flat_strs _, ?_⟩⟩
      rw [inV_strs, decide_eq_false hn]
      exact ⟨_, rfl, rfl, e1.trans e2⟩
    rintro _ H2 ⟨rfl, e2⟩
    refine iteF ?_
    refine ⟨_, rfl, C.hands, _, rfl, .inr (Cs.t_hands _), rfl, rfl, false, ?_, iteF ?_⟩
    · rcases ok.hand with h | h | h <;> rw [h] <;> decide
    refine ⟨_, rfl, _, rfl, .ref ma, n, cd.moves, rfl, ⟨ma, rfl, sq_at e2 h2⟩, ok.len, n4, ok.move, fun H3 e3 => ⟨true, rfl, iteF ?_⟩⟩
    have e23 := e2.trans e3
    refine ⟨_, rfl, _, rfl, .ref da, so, fs, ds, cd.deeds, rfl, ⟨da, rfl, sq_at e23 h3⟩, h4.mono fun _ _ h => DeA.keep e23 h, e23 _ _ hso, fok.nd, ok.deed, ok.deeds, ok.once, fun H4 e4 => ⟨true, rfl, iteF ?_⟩⟩
    have e24 := e23.trans e4
    have sl : cd.same.length < 100 := by
      have : cd.same.length ≤ (fs.map (·.nm)).length := len_sub ok.nd fun z hz => by
        obtain ⟨g, gm, rfl, _⟩ := ok.same z hz
        exact List.mem_map_of_mem gm
      rw [List.length_map] at this
      have := fok.le
      omega
    refine ⟨_, rfl, _, rfl, _, rfl, .ref sa, so, fs, cd.hand, cd.same, rfl, ⟨sa, rfl, sq_at e24 h5⟩, e24 _ _ hso, fok.nd, ok.same, sl, ok.self, ok.nd, fun H5 e5 => ⟨true, rfl, iteF ?_⟩⟩
    exact q _ (e24.trans e5)
end
end MK
set_option Elab.async false
set_option linter.all false
set_option autoImplicit false
set_option maxRecDepth 100000
set_option maxHeartbeats 4000000
namespace MK
open PySem PySem.Spec PyProof.Rows L2
local macro_rules | `(tactic| walk_at "x") => `(tactic| dsimp only [tSeq, tAsg, tRet, tDrop, tLst, tTup, tCons, tOp, tUn, tIfS])
/-! ### the calls -/
abbrev s_kept_calls : Stmt := topS 25
theorem sc_kept_calls : FnScope ["calls", "sorts", "modes", "kept", "index", "item", "call", "reason"] ["calls", "sorts", "modes"] (defScope s_kept_calls) := ⟨rfl, rfl, rfl, by decide +kernel, rfl, by decide +kernel, by decide +kernel⟩
def spCalls (K : PySem.W.Frag) : Sp := fun vs H Q _ => ∃ (s : Addr) (v : V) (so : Addr) (n : Nat) (fs : List FD) (cvs : List V) (cs : List CD), vs = [v, .ref so, .int n] ∧ H s ≠ none ∧ Sq K (Off s H) v cvs ∧ Al (CdA K (Off s H)) cvs cs ∧ H so = some (.dK (sortsV fs)) ∧ FsOk fs ∧ n ≤ 4 ∧
  1 ≤ cs.length ∧ cs.length ≤ 6 ∧ (∀ c ∈ cs, CdOk fs n c) ∧ (cs.map (·.nm)).Nodup ∧ ∀ r rvs H', Same H H' → Tu K (Off s H') r rvs → Al (CdT K (Off s H')) rvs cs → Q r H'
section
variable {P : Program} {w : World} {K : PySem.W.Frag} {mg : Str → Option Value} {base : Heap} {C : Cst}
theorem ok_calls {f : Addr} {fd : FuncData} (F : DefX K mg "kept_calls" s_kept_calls ["calls", "sorts", "modes"] f fd) (T : Txt K mg) (Cs : Csts K w mg C) (c_is_list : Cal P w K mg base CX0 1 "is_list" (spList K)) (c_wrong_part : Cal P w K mg base CX0 4 "wrong_part" (spWrong K)) (c_kept_call : Cal P w K mg base CX0 1 "kept_call" (spKeptCall K)) :
    Cal P w K mg base CX0 5 "kept_calls" (spCalls K) := by
  refine cal_mk F sc_kept_calls (fun vs H Q E h => ?_) (fun cdv A outer sh H vs Q E hr h => ?_)
  · obtain ⟨s, v, so, n, fs, cvs, cs, rfl, _⟩ := h
    rfl
  · obtain ⟨s, v, so, n, fs, cvs, cs, rfl, hs, ⟨a, rfl, hv⟩, hal, hso, fok, n4, c1, c6, cok, cnd, k⟩ := h
    refine ⟨_, (pss_cons (ps_if (pt_cut (PW.pt (pw_or (pt_not (pt_val (pe_c c_is_list hr (by first | decide | assumption) rfl (pa_cons (pv 0) pa_nil)))) (pw_or1 (pt_cmpR op_eq (pe_callB call_len_seq (by rfl) T.len (by decide +kernel) (pa_cons (pv 0) pa_nil)) pe_int (nomark _))))))
(pss_one (ps_never))
pss_nil)
(pss_cons (ps_set (i := 3) sc_kept_calls.nd rfl (Or.inl rfl) (pe_lst pa_nil))
(pss_cons (ps_for PassesOwn.never rfl (pi_enV (by rfl) T.enumerate (pa_cons (pv 0) pa_nil)) (pg_tup (by rfl) (pgs_cons (pg_name (i := 4) sc_kept_calls.nd rfl (Or.inl rfl)) (pgs_cons (pg_name (i := 5) sc_kept_calls.nd rfl (Or.inl rfl)) pgs_nil)))
(pss_cons (ps_if (pt_cmpR op_ge (pv 4) (pe_cst rfl Cs.MOST_CALLS) (nomark _))
(pss_one (ps_never))
pss_nil)
(pss_cons (ps_set (i := 7) sc_kept_calls.nd rfl (Or.inl rfl) (pe_c c_wrong_part hr (by first | decide | assumption) rfl (pa_cons (pv 5) (pa_cons (pe_lc (own := [("call", 6)]) (g := (gName 6)) (tt := tYes) rfl sc_kept_calls.nd (pi_list (pv 3)) (blkOk_by (own := [("call", 6)]) (N := ["calls", "sorts", "modes", "kept", "index", "item", "call", "reason"]) (sc := defScope s_kept_calls) (by decide +kernel)) (fun _ _ _ _ _ => (pg_name (i := 6) sc_kept_calls.nd rfl (Or.inl rfl))) (fun _ _ _ _ _ => pts_nil) (fun _ _ _ _ _ => (pe_ix (ix_tupK (K := K) rfl) (pv 6) pe_int (fun _ _ => rfl)))) (pa_cons (pv 1) (pa_cons (pv 2) pa_nil))))))
(pss_cons (ps_if (pt_cmpR op_notN (pv 7) pe_non (nomark _))
(pss_one (ps_never))
pss_nil)
(pss_one (ps_expr (pe_bm PySem.F.plainAttrs_list PySem.F.slot_list_append PySem.F.type_list_append mt_append (pv 3) (pa_cons (pe_c c_kept_call hr (by first | decide | assumption) rfl (pa_cons (pv 5) pa_nil)) pa_nil))))))))
(pss_one (ps_ret (pe_callTy call_tuple_of (by rfl) T.tuple (by decide +kernel) (pa_cons (pv 3) pa_nil))))))), ?_⟩
    have hv0 : SqL K H a cvs ∨ SqT K H a cvs := sq_at off_same hv
    have len3 : cvs.length = cs.length := hal.1
    refine ⟨fun t H' => t = false ∧ Same H H', ⟨_, rfl, .ref a, _, rfl, ⟨a, rfl, hv0⟩, fun H1 e1 => ⟨true, rfl, iteF ?_⟩⟩, ?_⟩
    · exact ⟨_, rfl, a, _, rfl, sq_at e1 hv0, rfl, _, rfl, decide_eq_false (fun e => by have := V.int.inj e; omega), e1⟩
    rintro _ H1 ⟨rfl, e1⟩
    refine iteF ?_
    refine ⟨by show 0 ≤ sizeLine; decide, fun D hD => ?_⟩
    have hsD : D ≠ s := ne_s hs e1 hD
    have hD0 := none_of e1 hD
    refine ⟨_, rfl, a, cvs, Off s H, rfl, hv, off_same.trans (same_new e1 hD), fun J G wk hG => ?_⟩
    refine for_it wk (fun i σ H2 => Same H H2 ∧ ∃ kvs : List V, H2 D = some (.lst kvs) ∧ Al (CdT K (Off D (Off s H2))) kvs (cs.take i) ∧ ∃ x4 x5 x6 x7, σ = [some (.ref a), some (.ref so), some (.int n), some (.ref D), x4, x5, x6, x7])
      ⟨same_new e1 hD, [], upd_same, Al.nil, none, none, none, none, rfl⟩ (fun i σ H2 _ h => hG _ (off_same.trans h.1)) ?_ ?_
    · rintro i x σ H2 H3 hi ⟨e2, kvs, d2, al, x4, x5, x6, x7, rfl⟩ ⟨U, _, y, rfl, hU, rfl, h1, hy⟩
      obtain rfl := Option.some.inj h1
      obtain ⟨c, hc, hca⟩ := hal.get hy
      have hcm := List.mem_of_getElem? hc
      have hi6 : i < cs.length := by
        have : i < cvs.length := hi
        omega
      have e3 : Same H2 (upd H2 U (.tup [.int (i : Nat), y])) := same_new (Same.refl H2) hU
      refine ⟨U, _, rfl, SqT.of upd_same, rfl, _, _, rfl, _, _, rfl, rfl, ?_⟩
      refine ⟨_, rfl, _, _, rfl, rfl, _, rfl, iteB (decide_eq_false (by omega)) ?_⟩
      refine ⟨_, rfl, _, rfl, D, rfl, ⟨_, SqL.of (e3 _ _ d2)⟩, fun D2 hD2 => ?_⟩
      refine lc_list (K := K) (a := D) (xs := kvs) (fun j H4 => Same H2 H4 ∧ H4 D2 = some (.lst ((((cs.take i).take j).map (·.nm)).map V.str))) ⟨same_new e3 hD2, upd_same⟩ (fun j H4 _ h => SqL.of (h.1 _ _ d2)) ?_ ?_
      · rintro j v H4 hv4 ⟨e4, d4⟩
        obtain ⟨g, hg, m', d', s', ds', ⟨u, rfl, hu⟩, _⟩ := al.get hv4
        have hu4 := same_t (off_same.trans (off_same.trans e4)) hu
        refine ⟨rfl, ?_⟩
        refine ⟨_, rfl, u, _, 0, .str g.nm, rfl, rfl, hu4, rfl, _, d4, ?_, fun b o hb => ?_, ?_⟩
        · rw [List.length_map, List.length_map, List.length_take, List.length_take]
          exact Nat.lt_of_le_of_lt (by omega : _ ≤ 6) (by decide)
        · rw [upd_ne (ne_of_none (e3 _ _ hb) hD2)]
          exact e4 _ _ hb
        · rw [upd_same, List.take_succ (i := j), hg]
          simp
      rintro H4 ⟨e4, d4⟩
      rw [show kvs.length = (cs.take i).length from al.1, List.take_length] at d4
      have e24 := e2.trans e4
      refine ⟨_, rfl, _, rfl, y, D2, so, n, fs, _, c, rfl, CdA.keep (off_same.trans e24) hca, SqL.of d4, e24 _ _ hso, fok, n4, cok c hcm, ?_, fun H5 e5 => ?_⟩
      · rw [List.map_take]
        exact nm_new cnd (by rw [List.getElem?_map, hc]; rfl)
      refine ⟨_, rfl, rfl, _, rfl, iteF ?_⟩
      have e25 := e24.trans e5
      have d5 := (e4.trans e5) _ _ d2
      refine ⟨_, rfl, .inl ⟨rfl, _, SqL.of d5⟩, _, rfl, s, y, c, rfl, kept_s hs e25, CdA.keep (same_off e25) hca, (cok c hcm).deeds, fun r H6 e6 hr6 => ?_⟩
      have kl : kvs.length < sizeLine := by
        rw [al.1, List.length_take]
        exact Nat.lt_of_le_of_lt (by omega : _ ≤ 6) (by decide)
      have d6 := e6 _ _ d5
      refine ⟨D, kvs, _, rfl, rfl, d6, kl, fun b o hb => ?_, _, upd_same, ?_, _, _, _, _, rfl⟩
      · rw [upd_ne (ne_of_none hb hD0)]
        exact e6 _ _ (e25 _ _ hb)
      · rw [off_upd hsD, off_put, List.take_succ, hc]
        exact (al.mono fun _ _ h => CdT.keep (same_off (same_off (e4.trans (e5.trans e6)))) h).snoc (CdT.off hr6 ((off_ne hsD).trans d6) no_lst)
    · rintro σ H2 ⟨e2, kvs, d2, al, x4, x5, x6, x7, rfl⟩
      refine ⟨_, rfl, D, kvs, rfl, .inl ⟨SqL.of d2, fun p hp => ?_⟩⟩
      have ps : p ≠ s := ne_s hs e2 hp
      rw [len3, List.take_length] at al
      have e3 : Same H2 (upd H2 p (.tup kvs)) := same_new (Same.refl H2) hp
      refine k _ kvs _ (e2.trans e3) (Tu.tup (by rw [off_ne ps, upd_same])) (al.mono fun _ _ h => CdT.keep (off_same.trans (same_off e3)) h)
end
end MK
set_option Elab.async false
set_option linter.all false
set_option autoImplicit false
set_option maxRecDepth 100000
set_option maxHeartbeats 4000000
namespace MK
open PySem PySem.Spec PyProof.Rows L2
local macro_rules | `(tactic| walk_at "x") => `(tactic| dsimp only [tSeq, tAsg, tRet, tDrop, tLst, tTup, tCons, tOp, tUn, tIfS])
/-! ### the kind is made -/
abbrev s_Kind_init : Stmt := inClass (topS 52) 0
theorem sc_Kind_init : FnScope ["self", "fields", "calls", "modes", "name", "sort", "need", "at", "field", "call"] ["self", "fields", "calls", "modes"] (defScope s_Kind_init) := ⟨rfl, rfl, rfl, by decide +kernel, rfl, by decide +kernel, by decide +kernel⟩
/-- the class of kinds -/
structure KCls (K : PySem.W.Frag) (KC : Addr) : Prop where
  cls : Cls K KC
  triples : NoAttr K KC "triples"
  sorts : NoAttr K KC "sorts"
  spots : NoAttr K KC "spots"
  modes : NoAttr K KC "modes"
  steps : NoAttr K KC "steps"
  table : NoAttr K KC "table"
def spKInit (K : PySem.W.Frag) (KC : Addr) : Sp := fun vs H Q _ => ∃ (s x dx : Addr) (fv cv : V) (n : Nat) (fvs cvs : List V) (fs : List FD) (cs : List CD), vs = [.ref x, fv, cv, .int n] ∧ x ≠ s ∧ H s ≠ none ∧ H x = some (.ins KC dx []) ∧
  Sq K (Off x (Off s H)) fv fvs ∧ Al (FdA K (Off x (Off s H))) fvs fs ∧ Sq K (Off x (Off s H)) cv cvs ∧ Al (CdA K (Off x (Off s H))) cvs cs ∧ KdOk fs n cs ∧ ∀ H', SameX x H H' → KdA K KC (Off s H') (.ref x) fs n cs → Q .non H'
section
variable {P : Program} {w : World} {K : PySem.W.Frag} {mg : Str → Option Value} {base : Heap} {C : Cst} {KC : Addr}
theorem run_kinit (T : Txt K mg) (Z : KCls K KC) (c_kept_fields : Cal P w K mg base CX0 3 "kept_fields" (spFields K)) (c_is_modes : Cal P w K mg base CX0 2 "is_modes" spModes) (c_kept_calls : Cal P w K mg base CX0 5 "kept_calls" (spCalls K))
    {f : Addr} {cdv : Value} {A : Around} {outer : List Env} {sh : Shared} {H : Hp} {vs : List V} {Q : VK} {E : XK} (hr : Room 5 (A.deeper (envOfC "Kind.__init__" (defScope s_Kind_init) sh.heap.objs.size f cdv))) (h : spKInit K KC vs H Q E) :
    ∃ t, PSs (cxOf CX0 P w K mg base ["self", "fields", "calls", "modes", "name", "sort", "need", "at", "field", "call"] "Kind.__init__" (defScope s_Kind_init) f cdv A outer sh H E).nox (defBody s_Kind_init) t ∧ t { nx := fun _ H' => Q .non H', rt := Q } (start ["self", "fields", "calls", "modes", "name", "sort", "need", "at", "field", "call"] vs) H := by
  obtain ⟨s, x, dx, fv, cv, n, fvs, cvs, fs, cs, rfl, xs, hs, hx, hf, hfs, hc, hcs, ok, k⟩ := h
  refine ⟨_, (pss_cons (ps_fld (pv 0) (pe_c c_kept_fields hr (by first | decide | assumption) rfl (pa_cons (pv 1) pa_nil)) rfl)
(pss_cons (ps_fld (pv 0) (pe_dc (own := [("name", 4), ("sort", 5), ("need", 6)]) (g := (gTup K 3 (gCons (gName 4) (gCons (gName 5) (gCons (gName 6) gNil))))) (tt := tYes) rfl sc_Kind_init.nd (pi_tup (pe_fld (pv 0) rfl)) (blkOk_by (own := [("name", 4), ("sort", 5), ("need", 6)]) (N := ["self", "fields", "calls", "modes", "name", "sort", "need", "at", "field", "call"]) (sc := defScope s_Kind_init) (by decide +kernel)) (fun _ _ _ _ _ => (pg_tup (by rfl) (pgs_cons (pg_name (i := 4) sc_Kind_init.nd rfl (Or.inl rfl)) (pgs_cons (pg_name (i := 5) sc_Kind_init.nd rfl (Or.inl rfl)) (pgs_cons (pg_name (i := 6) sc_Kind_init.nd rfl (Or.inl rfl)) pgs_nil))))) (fun _ _ _ _ _ => pts_nil) (fun _ _ _ _ _ => (pv 4)) (fun _ _ _ _ _ => (pv 5))) rfl)
(pss_cons (ps_fld (pv 0) (pe_dc (own := [("at", 7), ("field", 8)]) (g := (gTup K 2 (gCons (gName 7) (gCons (gName 8) gNil)))) (tt := tYes) rfl sc_Kind_init.nd (pi_enumT (by rfl) T.enumerate (pa_cons (pe_fld (pv 0) rfl) pa_nil)) (blkOk_by (own := [("at", 7), ("field", 8)]) (N := ["self", "fields", "calls", "modes", "name", "sort", "need", "at", "field", "call"]) (sc := defScope s_Kind_init) (by decide +kernel)) (fun _ _ _ _ _ => (pg_tup (by rfl) (pgs_cons (pg_name (i := 7) sc_Kind_init.nd rfl (Or.inl rfl)) (pgs_cons (pg_name (i := 8) sc_Kind_init.nd rfl (Or.inl rfl)) pgs_nil)))) (fun _ _ _ _ _ => pts_nil) (fun _ _ _ _ _ => (pe_ix (ix_tupK (K := K) rfl) (pv 8) pe_int (fun _ _ => rfl))) (fun _ _ _ _ _ => (pv 7))) rfl)
(pss_cons (ps_if (pt_not (pt_val (pe_c c_is_modes hr (by first | decide | assumption) rfl (pa_cons (pv 3) pa_nil))))
(pss_one (ps_never))
pss_nil)
(pss_cons (ps_fld (pv 0) (pv 3) rfl)
(pss_cons (ps_fld (pv 0) (pe_c c_kept_calls hr (by first | decide | assumption) rfl (pa_cons (pv 2) (pa_cons (pe_fld (pv 0) rfl) (pa_cons (pv 3) pa_nil)))) rfl)
(pss_one (ps_fld (pv 0) (pe_dc (own := [("call", 9)]) (g := (gName 9)) (tt := tYes) rfl sc_Kind_init.nd (pi_tup (pe_fld (pv 0) rfl)) (blkOk_by (own := [("call", 9)]) (N := ["self", "fields", "calls", "modes", "name", "sort", "need", "at", "field", "call"]) (sc := defScope s_Kind_init) (by decide +kernel)) (fun _ _ _ _ _ => (pg_name (i := 9) sc_Kind_init.nd rfl (Or.inl rfl))) (fun _ _ _ _ _ => pts_nil) (fun _ _ _ _ _ => (pe_ix (ix_tupK (K := K) rfl) (pv 9) pe_int (fun _ _ => rfl))) (fun _ _ _ _ _ => (pv 9))) rfl)))))))), ?_⟩
  have n1 := ok.pos
  have n4 := ok.le
  -- triples
  refine ⟨_, rfl, s, fv, fvs, fs, rfl, hs, hf.keep off_same, hfs.mono fun _ _ h => FdA.keep off_same h, ok.fields, fun r rvs H1 e1 tr al => ?_⟩
  have x1 := e1 _ _ hx
  refine ⟨_, rfl, x, KC, dx, [], rfl, x1, Z.cls, Z.triples, by decide, ?_⟩
  have hB1 : Off s H1 x = some (.ins KC dx []) := (off_ne xs).trans x1
  have tr1 : Tu K (Off x (Off s H1)) r rvs := tr.off hB1 no_ins
  have al1 : Al (FdT K (Off x (Off s H1))) rvs fs := al.mono fun _ _ h => Tu.off h hB1 no_ins
  obtain ⟨ra, rfl, tra⟩ := tr1
  have e01 : SameX x H (upd H1 x (.ins KC dx [("triples", .ref ra)])) := (same_sx e1).put
  have hB : ∀ {H' : Hp} {o : HO}, Off x (Off s (upd H' x o)) = Off x (Off s H') := by
    intro H' o
    rw [off_upd xs, off_put]
  have hs2 : upd H1 x (.ins KC dx [("triples", .ref ra)]) s ≠ none := by
    rw [upd_ne (Ne.symm xs)]
    exact kept_s hs e1
  have F2 : SqT K (Off x (Off s (upd H1 x (.ins KC dx [("triples", .ref ra)])))) ra rvs ∧ Al (FdT K (Off x (Off s (upd H1 x (.ins KC dx [("triples", .ref ra)]))))) rvs fs := by
    rw [hB]
    exact ⟨tra, al1⟩
  have C2 : Sq K (Off x (Off s (upd H1 x (.ins KC dx [("triples", .ref ra)])))) cv cvs ∧ Al (CdA K (Off x (Off s (upd H1 x (.ins KC dx [("triples", .ref ra)]))))) cvs cs := by
    rw [hB]
    exact ⟨hc.keep (same_off (same_off e1)), hcs.mono fun _ _ h => CdA.keep (same_off (same_off e1)) h⟩
  have x2 : upd H1 x (.ins KC dx [("triples", .ref ra)]) x = some (.ins KC dx [("triples", .ref ra)]) := upd_same
  show tSeq _ _ _ _ (upd H1 x (.ins KC dx [("triples", .ref ra)]))
  generalize upd H1 x (.ins KC dx [("triples", .ref ra)]) = H2 at e01 hs2 F2 C2 x2
  have rl : rvs.length ≤ 3 := by rw [al.1]; exact ok.fields.le
  -- sorts
  refine ⟨_, rfl, x, KC, dx, _, .ref ra, rfl, x2, Z.cls, Z.triples, rfl, ra, rfl, ⟨rvs, same_t (off_same.trans off_same) F2.1⟩, fun D hD => ?_⟩
  refine dc_it (walk_tup (K := K) (a := ra) (xs := rvs)) (fun i H' => Same H2 H' ∧ H' D = some (.dK ((sortsV fs).take i))) ⟨same_new (Same.refl H2) hD, upd_same⟩ (fun i H' _ h => same_t ((off_same.trans off_same).trans h.1) F2.1) ?_ ?_
  · rintro i v H3' H3 hi ⟨e3, d3⟩ ⟨rfl, hv⟩
    obtain ⟨f', hf', u, rfl, hu⟩ := F2.2.get hv
    refine ⟨u, FdV f', rfl, same_t ((off_same.trans off_same).trans e3) hu, rfl, _, _, rfl, _, _, rfl, _, _, rfl, rfl, rfl, ?_⟩
    refine ⟨_, rfl, _, rfl, _, .inr f'.nm, rfl, d3, ?_, fun b o hb => ?_, ?_⟩
    · exact Nat.lt_of_le_of_lt (Nat.le_trans (List.length_take_le' ..) (by rw [sorts_len]; exact ok.fields.le)) (by decide)
    · rw [upd_ne (ne_of_none hb hD)]
      exact e3 _ _ hb
    · rw [upd_same, put_take (sorts_nd ok.fields.nd) (sorts_at hf')]
  rintro H3 ⟨e3, d3⟩
  rw [show rvs.length = (sortsV fs).length by rw [sorts_len]; exact F2.2.1, List.take_length] at d3
  have x3 := e3 _ _ x2
  refine ⟨_, rfl, x, KC, dx, _, rfl, x3, Z.cls, Z.sorts, by simp, ?_⟩
  show tSeq _ _ _ _ (upd H3 x (.ins KC dx [("triples", .ref ra), ("sorts", .ref D)]))
  have Dx : D ≠ x := fun e => by rw [e, x3] at d3; cases d3
  have Ds : D ≠ s := ne_s hs2 (Same.refl H2) hD
  have e04 : SameX x H (upd H3 x (.ins KC dx [("triples", .ref ra), ("sorts", .ref D)])) := (e01.trans (same_sx e3)).put
  have b24 : Same (Off x (Off s H2)) (Off x (Off s (upd H3 x (.ins KC dx [("triples", .ref ra), ("sorts", .ref D)])))) := by
    rw [hB]
    exact same_off (same_off e3)
  have hs4 : upd H3 x (.ins KC dx [("triples", .ref ra), ("sorts", .ref D)]) s ≠ none := by
    rw [upd_ne (Ne.symm xs)]
    exact kept_s hs2 e3
  have d4 : Off x (Off s (upd H3 x (.ins KC dx [("triples", .ref ra), ("sorts", .ref D)]))) D = some (.dK (sortsV fs)) := by
    rw [hB, off_ne Dx, off_ne Ds]
    exact d3
  have x4 : upd H3 x (.ins KC dx [("triples", .ref ra), ("sorts", .ref D)]) x = some (.ins KC dx [("triples", .ref ra), ("sorts", .ref D)]) := upd_same
  generalize upd H3 x (.ins KC dx [("triples", .ref ra), ("sorts", .ref D)]) = H4 at e04 b24 hs4 d4 x4
  -- spots
  refine ⟨_, rfl, x, KC, dx, _, .ref ra, rfl, x4, Z.cls, Z.triples, rfl, ra, rvs, rfl, same_t (b24.trans (off_same.trans off_same)) F2.1, fun D2 hD2 => ?_⟩
  refine dc_it (walk_enumT (K := K) (a := ra) (xs := rvs)) (fun i H' => Same H4 H' ∧ H' D2 = some (.dK ((spotsV fs).take i))) ⟨same_new (Same.refl H4) hD2, upd_same⟩ (fun i H' _ h => same_t ((b24.trans (off_same.trans off_same)).trans h.1) F2.1) ?_ ?_
  · rintro i v H5 H5' hi ⟨e5, d5⟩ ⟨U, _, y, rfl, hU, rfl, h1, hy⟩
    obtain rfl := Option.some.inj h1
    obtain ⟨f', hf', u, rfl, hu⟩ := F2.2.get hy
    have e6 : Same H5 (upd H5 U (.tup [.int (i : Nat), .ref u])) := same_new (Same.refl H5) hU
    have hu6 : SqT K (upd H5 U (.tup [.int (i : Nat), .ref u])) u (FdV f') := same_t ((b24.trans (off_same.trans off_same)).trans (e5.trans e6)) hu
    refine ⟨U, _, rfl, SqT.of upd_same, rfl, _, _, rfl, _, _, rfl, rfl, rfl, ?_⟩
    refine ⟨_, rfl, u, _, 0, .str f'.nm, rfl, rfl, hu6, rfl, _, rfl, _, .inr f'.nm, rfl, e6 _ _ d5, ?_, fun b o hb => ?_, ?_⟩
    · exact Nat.lt_of_le_of_lt (Nat.le_trans (List.length_take_le' ..) (by rw [spots_len]; exact ok.fields.le)) (by decide)
    · rw [upd_ne (ne_of_none hb hD2)]
      exact e6 _ _ (e5 _ _ hb)
    · rw [upd_same, put_take (spots_nd ok.fields.nd) (spots_at hf')]
  rintro H5 ⟨e5, d5⟩
  rw [show rvs.length = (spotsV fs).length by rw [spots_len]; exact F2.2.1, List.take_length] at d5
  have x5 := e5 _ _ x4
  refine ⟨_, rfl, x, KC, dx, _, rfl, x5, Z.cls, Z.spots, by simp, ?_⟩
  show tSeq _ _ _ _ (upd H5 x (.ins KC dx [("triples", .ref ra), ("sorts", .ref D), ("spots", .ref D2)]))
  have D2x : D2 ≠ x := fun e => by rw [e, x5] at d5; cases d5
  have D2s : D2 ≠ s := ne_s hs4 (Same.refl H4) hD2
  have e06 : SameX x H (upd H5 x (.ins KC dx [("triples", .ref ra), ("sorts", .ref D), ("spots", .ref D2)])) := (e04.trans (same_sx e5)).put
  have b26 : Same (Off x (Off s H4)) (Off x (Off s (upd H5 x (.ins KC dx [("triples", .ref ra), ("sorts", .ref D), ("spots", .ref D2)])))) := by
    rw [hB]
    exact same_off (same_off e5)
  have hs6 : upd H5 x (.ins KC dx [("triples", .ref ra), ("sorts", .ref D), ("spots", .ref D2)]) s ≠ none := by
    rw [upd_ne (Ne.symm xs)]
    exact kept_s hs4 e5
  have d6 : Off x (Off s (upd H5 x (.ins KC dx [("triples", .ref ra), ("sorts", .ref D), ("spots", .ref D2)]))) D2 = some (.dK (spotsV fs)) := by
    rw [hB, off_ne D2x, off_ne D2s]
    exact d5
  have x6 : upd H5 x (.ins KC dx [("triples", .ref ra), ("sorts", .ref D), ("spots", .ref D2)]) x = some (.ins KC dx [("triples", .ref ra), ("sorts", .ref D), ("spots", .ref D2)]) := upd_same
  generalize upd H5 x (.ins KC dx [("triples", .ref ra), ("sorts", .ref D), ("spots", .ref D2)]) = H6 at e06 b26 hs6 d6 x6
  -- modes
  refine ⟨_, rfl, (n : Int), rfl, ?_⟩
  rw [decide_eq_true (by omega : (1 : Int) ≤ n), decide_eq_true (by omega : (n : Int) ≤ 4)]
  refine ⟨true, rfl, iteF ?_⟩
  refine ⟨_, rfl, _, rfl, x, KC, dx, _, rfl, x6, Z.cls, Z.modes, by simp, ?_⟩
  show tSeq _ _ _ _ (upd H6 x (.ins KC dx [("triples", .ref ra), ("sorts", .ref D), ("spots", .ref D2), ("modes", .int n)]))
  have e07 : SameX x H (upd H6 x (.ins KC dx [("triples", .ref ra), ("sorts", .ref D), ("spots", .ref D2), ("modes", .int n)])) := e06.put
  have b67 : Off x (Off s (upd H6 x (.ins KC dx [("triples", .ref ra), ("sorts", .ref D), ("spots", .ref D2), ("modes", .int n)]))) = Off x (Off s H6) := hB
  have hs7 : upd H6 x (.ins KC dx [("triples", .ref ra), ("sorts", .ref D), ("spots", .ref D2), ("modes", .int n)]) s ≠ none := by
    rw [upd_ne (Ne.symm xs)]
    exact hs6
  have x7 : upd H6 x (.ins KC dx [("triples", .ref ra), ("sorts", .ref D), ("spots", .ref D2), ("modes", .int n)]) x = some (.ins KC dx [("triples", .ref ra), ("sorts", .ref D), ("spots", .ref D2), ("modes", .int n)]) := upd_same
  generalize upd H6 x (.ins KC dx [("triples", .ref ra), ("sorts", .ref D), ("spots", .ref D2), ("modes", .int n)]) = H7 at e07 b67 hs7 x7
  have b47 : Same (Off x (Off s H4)) (Off x (Off s H7)) := by
    rw [b67]
    exact b26
  have b27 := b24.trans b47
  rw [← b67] at d6
  -- steps
  refine ⟨_, rfl, _, rfl, x, KC, dx, _, .ref D, rfl, x7, Z.cls, Z.sorts, rfl, _, rfl, s, cv, D, n, fs, cvs, cs, rfl, hs7, C2.1.keep (b27.trans off_same), C2.2.mono fun _ _ h => CdA.keep (b27.trans off_same) h, (b47.trans (off_same.trans off_same)) _ _ d4, ok.fields, n4, ok.cpos, ok.cle, ok.calls, ok.nd, fun r8 svs H8 e8 tr8 al8 => ?_⟩
  have x8 := e8 _ _ x7
  refine ⟨_, rfl, x, KC, dx, _, rfl, x8, Z.cls, Z.steps, by simp, ?_⟩
  have hB8 : Off s H8 x = some (.ins KC dx [("triples", .ref ra), ("sorts", .ref D), ("spots", .ref D2), ("modes", .int n)]) := (off_ne xs).trans x8
  have tr9 : Tu K (Off x (Off s H8)) r8 svs := tr8.off hB8 no_ins
  have al9 : Al (CdT K (Off x (Off s H8))) svs cs := al8.mono fun _ _ h => CdT.off h hB8 no_ins
  obtain ⟨rb, rfl, trb⟩ := tr9
  rw [show putF ("steps" : Str) (V.ref rb) ([("triples", .ref ra), ("sorts", .ref D), ("spots", .ref D2), ("modes", .int n)] : List (Str × V)) = ([("triples", .ref ra), ("sorts", .ref D), ("spots", .ref D2), ("modes", .int n), ("steps", .ref rb)] : List (Str × V)) from rfl]
  have e09 : SameX x H (upd H8 x (.ins KC dx [("triples", .ref ra), ("sorts", .ref D), ("spots", .ref D2), ("modes", .int n), ("steps", .ref rb)])) := (e07.trans (same_sx e8)).put
  have b89 : Off x (Off s (upd H8 x (.ins KC dx [("triples", .ref ra), ("sorts", .ref D), ("spots", .ref D2), ("modes", .int n), ("steps", .ref rb)]))) = Off x (Off s H8) := hB
  have hs9 : upd H8 x (.ins KC dx [("triples", .ref ra), ("sorts", .ref D), ("spots", .ref D2), ("modes", .int n), ("steps", .ref rb)]) s ≠ none := by
    rw [upd_ne (Ne.symm xs)]
    exact kept_s hs7 e8
  have x9 : upd H8 x (.ins KC dx [("triples", .ref ra), ("sorts", .ref D), ("spots", .ref D2), ("modes", .int n), ("steps", .ref rb)]) x = some (.ins KC dx [("triples", .ref ra), ("sorts", .ref D), ("spots", .ref D2), ("modes", .int n), ("steps", .ref rb)]) := upd_same
  generalize upd H8 x (.ins KC dx [("triples", .ref ra), ("sorts", .ref D), ("spots", .ref D2), ("modes", .int n), ("steps", .ref rb)]) = H9 at e09 b89 hs9 x9
  have b79 : Same (Off x (Off s H7)) (Off x (Off s H9)) := by
    rw [b89]
    exact same_off (same_off e8)
  rw [← b89] at trb al9
  have sl : svs.length ≤ 6 := by rw [al9.1]; exact ok.cle
  -- table
  refine ⟨_, rfl, x, KC, dx, _, .ref rb, rfl, x9, Z.cls, Z.steps, rfl, rb, rfl, ⟨svs, same_t (off_same.trans off_same) trb⟩, fun D3 hD3 => ?_⟩
  refine dc_it (walk_tup (K := K) (a := rb) (xs := svs)) (fun i H' => Same H9 H' ∧ H' D3 = some (.dK ((tableV cs svs).take i))) ⟨same_new (Same.refl H9) hD3, upd_same⟩ (fun i H' _ h => same_t ((off_same.trans off_same).trans h.1) trb) ?_ ?_
  · rintro i v Ha' Ha hi ⟨ea, da⟩ ⟨rfl, hv⟩
    obtain ⟨c', hc', m', d', s', ds', ⟨u, rfl, hu⟩, _⟩ := al9.get hv
    refine ⟨rfl, ?_⟩
    refine ⟨_, rfl, u, _, 0, .str c'.nm, rfl, rfl, same_t ((off_same.trans off_same).trans ea) hu, rfl, _, rfl, _, .inr c'.nm, rfl, da, ?_, fun b o hb => ?_, ?_⟩
    · exact Nat.lt_of_le_of_lt (Nat.le_trans (List.length_take_le' ..) (by rw [table_len al9.1]; exact ok.cle)) (by decide)
    · rw [upd_ne (ne_of_none hb hD3)]
      exact ea _ _ hb
    · rw [upd_same, put_take (table_nd ok.nd al9.1) (table_at hc' hv)]
  rintro Ha ⟨ea, da⟩
  rw [show svs.length = (tableV cs svs).length by rw [table_len al9.1]; exact al9.1, List.take_length] at da
  have xa := ea _ _ x9
  refine ⟨_, rfl, x, KC, dx, _, rfl, xa, Z.cls, Z.table, by simp, ?_⟩
  have D3x : D3 ≠ x := fun e => by rw [e, xa] at da; cases da
  have D3s : D3 ≠ s := ne_s hs9 (Same.refl H9) hD3
  show Q .non (upd Ha x (.ins KC dx [("triples", .ref ra), ("sorts", .ref D), ("spots", .ref D2), ("modes", .int n), ("steps", .ref rb), ("table", .ref D3)]))
  have b9a : Same (Off x (Off s H9)) (Off s (upd Ha x (.ins KC dx [("triples", .ref ra), ("sorts", .ref D), ("spots", .ref D2), ("modes", .int n), ("steps", .ref rb), ("table", .ref D3)]))) := by
    refine Same.trans (H1 := Off x (Off s (upd Ha x (.ins KC dx [("triples", .ref ra), ("sorts", .ref D), ("spots", .ref D2), ("modes", .int n), ("steps", .ref rb), ("table", .ref D3)])))) ?_ off_same
    rw [hB]
    exact same_off (same_off ea)
  refine k _ ((e09.trans (same_sx ea)).put) ⟨x, dx, D, D2, D3, .ref ra, .ref rb, rvs, svs, rfl, ?_, ⟨ra, rfl, same_t ((b27.trans b79).trans b9a) F2.1⟩, F2.2.mono fun _ _ h => FdT.keep ((b27.trans b79).trans b9a) h, ((b47.trans b79).trans b9a) _ _ d4, (b79.trans b9a) _ _ d6, ⟨rb, rfl, same_t b9a trb⟩, al9.mono fun _ _ h => CdT.keep b9a h, ?_⟩
  · rw [off_ne xs, upd_same]
  · rw [off_ne D3s, upd_ne D3x]
    exact da
end
end MK
set_option Elab.async false
set_option linter.all false
set_option autoImplicit false
set_option maxRecDepth 100000
set_option maxHeartbeats 4000000
namespace MK
open PySem PySem.Spec PyProof.Rows L2
local macro_rules | `(tactic| walk_at "x") => `(tactic| dsimp only [tSeq, tAsg, tRet, tDrop, tLst, tTup, tCons, tOp, tUn, tIfS])
/-! ### things in a drawn order -/
abbrev s_mix : Stmt := topS 58
theorem sc_mix : FnScope ["_law_state", "_law_things", "_law_left", "_law_found"] ["_law_state", "_law_things"] (defScope s_mix) := ⟨rfl, rfl, rfl, by decide +kernel, rfl, by decide +kernel, by decide +kernel⟩
def spMix (K : PySem.W.Frag) : Sp := fun vs H Q _ => ∃ (s c l : Addr) (ns : List Int) (zs : List Str), vs = [.ref s, .ref l] ∧ StA H s c ns ∧ ns.length ≤ 63 ∧ SqL K H l (zs.map V.str) ∧ zs.length < 1000 ∧ (∀ z ∈ zs, PyData.strOk z = true) ∧
  ∀ (a : Addr) (ys : List Str) H', ys.Perm zs → H a = none → H' a = some (.lst (ys.map V.str)) → SameX s H H' → StA H' s c ns → Q (.ref a) H'
section
variable {P : Program} {w : World} {K : PySem.W.Frag} {mg : Str → Option Value} {base : Heap}
def lenAt (a : Addr) (H : Hp) : Nat := match H a with
  | some (.lst xs) => xs.length
  | _ => 0
theorem StA.put {H : Hp} {s c a : Addr} {ns : List Int} {o : HO} (x : StA H s c ns) (h1 : a ≠ s) (h2 : a ≠ c) : StA (upd H a o) s c ns := by
  obtain ⟨n, e1, p, q, m, e2⟩ := x
  exact ⟨n, (upd_ne (Ne.symm h2)).trans e1, p, q, m, (upd_ne (Ne.symm h1)).trans e2⟩
theorem StA.ne {H : Hp} {s c a : Addr} {ns : List Int} (x : StA H s c ns) (h : H a = none) : a ≠ s ∧ a ≠ c := by
  obtain ⟨n, e1, p, q, m, e2⟩ := x
  exact ⟨fun e => (by rw [e, e2] at h; cases h), fun e => (by rw [e, e1] at h; cases h)⟩
theorem ok_mix {f : Addr} {fd : FuncData} (F : DefX K mg "_law_mix" s_mix ["_law_state", "_law_things"] f fd) (T : Txt K mg) (c_take : Cal P w K mg base CX0 2 "_law_take" spTake) : Cal P w K mg base CX0 3 "_law_mix" (spMix K) := by
  refine cal_mk F sc_mix (fun vs H Q E h => ?_) (fun cdv A outer sh H vs Q E hr h => ?_)
  · obtain ⟨s, c, l, ns, zs, rfl, _⟩ := h
    rfl
  · obtain ⟨s, c, l, ns, zs, rfl, h0, hl, hx, hz, hok, k⟩ := h
    refine ⟨_, (pss_cons (ps_par (i := 2) (j := 3) (by rfl) sc_mix.nd rfl rfl (by decide) rfl rfl (pa_cons (pe_callTy call_list_of (by rfl) T.list (by decide +kernel) (pa_cons (pv 1) pa_nil)) (pa_cons (pe_lst pa_nil) pa_nil)) (by rfl))
(pss_cons (ps_while PassesOwn.never (pt_cmpR (op_neD hr.units) (pv 2) (pe_lst pa_nil) (nomark _))
(pss_one (ps_expr (pe_bm PySem.F.plainAttrs_list PySem.F.slot_list_append PySem.F.type_list_append mt_append (pv 3) (pa_cons (pe_bm PySem.F.plainAttrs_list PySem.F.slot_list_pop PySem.F.type_list_pop mt_popAt (pv 2) (pa_cons (pe_c c_take hr (by first | decide | assumption) rfl (pa_cons (pv 0) (pa_cons (pe_callB call_len_seq (by rfl) T.len (by decide +kernel) (pa_cons (pv 2) pa_nil)) pa_nil))) pa_nil)) pa_nil)))))
(pss_one (ps_ret (pv 3))))), ?_⟩
    refine ⟨_, rfl, l, _, rfl, .inl hx, fun a ha => ?_⟩
    refine ⟨by show 0 ≤ sizeLine; decide, fun b hb => ?_⟩
    obtain ⟨ba, hb0⟩ := upd_none hb
    have hs0 : H s ≠ none := by
      obtain ⟨_, _, _, _, _, e⟩ := h0
      rw [e]
      exact nofun
    have sa : a ≠ s := fun e => hs0 (e ▸ ha)
    have sb : b ≠ s := fun e => hs0 (e ▸ hb0)
    have hb1 : upd (upd H a (.lst (zs.map V.str))) b (.lst []) a = some (.lst (zs.map V.str)) := by rw [upd_ne (Ne.symm ba), upd_same]
    refine ⟨_, _, rfl, ?_⟩
    refine while_by (fun σ H2 => SameX s H H2 ∧ StA H2 s c ns ∧ ∃ ls fs : List Str, (fs ++ ls).Perm zs ∧ H2 a = some (.lst (ls.map V.str)) ∧ H2 b = some (.lst (fs.map V.str)) ∧ σ = [some (.ref s), some (.ref l), some (.ref a), some (.ref b)]) (fun _ H2 => lenAt a H2) ?_ ?_ (fun σ H Q Q' h x => ?_)
    · refine ⟨((SameX.refl s H).putN ha).putN hb0, h0.keep (same_new (same_new (Same.refl H) ha) hb), zs, [], by simp, hb1, upd_same, rfl⟩
    · rintro σ H2 ⟨e2, h2, ls, fs, hp, ea, eb, rfl⟩
      have okl : ∀ z ∈ ls, PyData.strOk z = true := fun z m => hok z (hp.mem_iff.mp (List.mem_append_right _ m))
      refine ⟨_, rfl, by show 0 ≤ sizeLine; decide, fun p hp2 => ?_⟩
      have e3 : Same H2 (upd H2 p (.lst [])) := same_new (Same.refl H2) hp2
      refine ⟨_, _, .lst (SqL.of (e3 _ _ ea)) (dp_strs ls), .lst (SqL.of upd_same) .nil, strs_shaped ls okl, strs_shaped [] nofun, _, rfl, ?_⟩
      rw [eqv_nil]
      refine ite2 (fun h1 => ?_) (fun h1 => ?_)
      · cases ls with
        | nil => cases h1
        | cons z0 ls =>
        have lz : (z0 :: ls).length < 1000 := by
          have := hp.length_eq
          rw [List.length_append] at this
          omega
        refine ⟨_, rfl, (.inl ⟨rfl, _, SqL.of (e3 _ _ eb)⟩), _, rfl, (.inl ⟨rfl, _, SqL.of (e3 _ _ ea)⟩), _, rfl, _, rfl, a, _, rfl, .inl (SqL.of (e3 _ _ ea)), s, c, ns, _, rfl, h2.keep e3, hl, by rw [List.length_map, List.length_cons]; omega, by rw [List.length_map]; omega, fun d H4 hd e4 h4 => ?_⟩
        rw [List.length_map] at hd
        have hdl : d < (z0 :: ls).length := by omega
        have a4 := e4 _ _ (e3 _ _ ea) sa
        have b4 := e4 _ _ (e3 _ _ eb) sb
        refine ⟨a, _, _, d, .str (z0 :: ls)[d], rfl, rfl, a4, by omega, by omega, seqIndex_nat (by rw [List.length_map]; exact hdl), by rw [List.getElem?_map, List.getElem?_eq_getElem hdl]; rfl, ?_⟩
        have fl : fs.length < 1000 := by
          have := hp.length_eq
          rw [List.length_append] at this
          omega
        refine ⟨b, _, _, rfl, rfl, (upd_ne ba).trans b4, by rw [List.length_map]; exact Nat.lt_of_lt_of_le fl (by decide), ?_⟩
        refine ⟨⟨(((e2.trans (same_sx e3)).trans e4).putN ha).putN hb0, ?_, (z0 :: ls).eraseIdx d, fs ++ [(z0 :: ls)[d]], ?_, ?_, ?_, rfl⟩, ?_⟩
        · exact (h4.put (h0.ne ha).1 (h0.ne ha).2).put (h0.ne hb0).1 (h0.ne hb0).2
        · rw [List.append_assoc]
          exact ((perm_erase (z0 :: ls) d hdl).append_left fs).trans hp
        · rw [upd_ne (Ne.symm ba), upd_same, eraseIdx_mapV]
        · rw [upd_same, List.map_append]
          rfl
        · show lenAt a _ < lenAt a _
          unfold lenAt
          rw [upd_ne (Ne.symm ba), upd_same, ea]
          show (List.eraseIdx _ _).length < (List.map V.str (z0 :: ls)).length
          rw [List.length_eraseIdx, List.length_map, if_pos hdl]
          omega
      · cases ls with
        | cons z0 ls => exact absurd rfl h1
        | nil =>
        refine ⟨_, rfl, ?_⟩
        exact k b fs _ (by simpa using hp) hb0 (e3 _ _ eb) (e2.trans (same_sx e3)) (h2.keep e3)
    · obtain ⟨v, h1, h2, h3⟩ := x
      exact ⟨v, h1, h2, fun p hp => by
        obtain ⟨d, e, a1, a2, a3, a4, k, a5, a6⟩ := h3 p hp
        exact ⟨d, e, a1, a2, a3, a4, k, a5, h _ _ a6⟩⟩
end
end MK
set_option Elab.async false
set_option linter.all false
set_option autoImplicit false
set_option maxRecDepth 100000
set_option maxHeartbeats 4000000
namespace MK
open PySem PySem.Spec PyProof.Rows L2
local macro_rules | `(tactic| walk_at "x") => `(tactic| dsimp only [tSeq, tAsg, tRet, tDrop, tLst, tTup, tCons, tOp, tUn, tIfS])
/-! ### drawn deeds -/
abbrev s_deeds : Stmt := topS 61
theorem sc_deeds : FnScope ["_law_state", "_law_fields", "_law_many", "_law_found", "_law_busy", "_law_k", "_law_name", "_law_sort", "_law_need", "_law_some", "_law_deed"] ["_law_state", "_law_fields", "_law_many"] (defScope s_deeds) := ⟨rfl, rfl, rfl, by decide +kernel, rfl, by decide +kernel, by decide +kernel⟩
def spDeeds (K : PySem.W.Frag) : Sp := fun vs H Q _ => ∃ (s c l : Addr) (ns : List Int) (n : Int) (fvs : List V) (fs : List FD), vs = [.ref s, .ref l, .int n] ∧ StA H s c ns ∧ ns.length ≤ 63 ∧ Off s H l = some (.lst fvs) ∧ Al (FdT K (Off s H)) fvs fs ∧ 0 < fs.length ∧ fs.length < 10 ∧ 0 ≤ n ∧ n < 10 ∧
  ∀ (a : Addr) (ds : List (Str × Str)) (dvs : List V) H', H a = none → Off s H' a = some (.lst dvs) → Al (DeT K (Off s H')) dvs ds → (ds.length : Int) ≤ n → (∀ d ∈ ds, DeOk fs d) → (worded ds).Nodup → SameX s H H' → StA H' s c ns → Q (.ref a) H'
section
variable {P : Program} {w : World} {K : PySem.W.Frag} {mg : Str → Option Value} {base : Heap}
theorem ok_deeds {f : Addr} {fd : FuncData} (F : DefX K mg "_law_deeds" s_deeds ["_law_state", "_law_fields", "_law_many"] f fd) (T : Txt K mg) (c_take : Cal P w K mg base CX0 2 "_law_take" spTake) (c_one : Cal P w K mg base CX0 3 "_law_one" (spOne K)) : Cal P w K mg base CX0 4 "_law_deeds" (spDeeds K) := by
  refine cal_mk F sc_deeds (fun vs H Q E h => ?_) (fun cdv A outer sh H vs Q E hr h => ?_)
  · obtain ⟨s, c, l, ns, n, fvs, fs, rfl, _⟩ := h
    rfl
  · obtain ⟨s, c, l, ns, n, fvs, fs, rfl, h0, hl, hx, hfs, f0, f1, n0, n1, k⟩ := h
    refine ⟨_, (pss_cons (ps_par (i := 3) (j := 4) (by rfl) sc_deeds.nd rfl rfl (by decide) rfl rfl (pa_cons (pe_lst pa_nil) (pa_cons (pe_lst pa_nil) pa_nil)) (by rfl))
(pss_cons (ps_for PassesOwn.never rfl (pi_range1 (by rfl) T.range (pa_cons (pe_c c_take hr (by first | decide | assumption) rfl (pa_cons (pv 0) (pa_cons (pe_op op_add (pv 2) pe_int) pa_nil))) pa_nil)) (pg_name (i := 5) sc_deeds.nd rfl (Or.inl rfl))
(pss_cons (ps_asg (pe_c c_one hr (by first | decide | assumption) rfl (pa_cons (pv 0) (pa_cons (pv 1) pa_nil))) (pg_tup (by rfl) (pgs_cons (pg_name (i := 6) sc_deeds.nd rfl (Or.inl rfl)) (pgs_cons (pg_name (i := 7) sc_deeds.nd rfl (Or.inl rfl)) (pgs_cons (pg_name (i := 8) sc_deeds.nd rfl (Or.inl rfl)) pgs_nil)))))
(pss_cons (ps_set (i := 9) sc_deeds.nd rfl (Or.inl rfl) (pe_cut (pe_ifExp (pt_cmpR op_eq (pv 7) pe_str (nomark _)) (pe_lst (pa_cons pe_str (pa_cons pe_str pa_nil))) (pe_lst (pa_cons pe_str (pa_cons pe_str (pa_cons pe_str (pa_cons pe_str (pa_cons pe_str pa_nil)))))))))
(pss_cons (ps_set (i := 10) sc_deeds.nd rfl (Or.inl rfl) (pe_c c_one hr (by first | decide | assumption) rfl (pa_cons (pv 0) (pa_cons (pv 9) pa_nil))))
(pss_one (ps_if (pt_cut (PW.pt (pw_or (pt_cmpR op_notIn_seq (pv 10) (pe_tup (pa_cons pe_str (pa_cons pe_str pa_nil))) (by rfl)) (pw_or1 (pt_cmpR op_notIn_seq (pv 6) (pv 4) (by rfl))))))
(pss_cons (ps_set (i := 4) sc_deeds.nd rfl (Or.inl rfl) (pe_op op_cat (pv 4) (pe_op op_rep (pe_lst (pa_cons (pv 6) pa_nil)) (pe_callTy call_int1 (by rfl) T.int (by decide +kernel) (pa_cons (pe_cmpR op_in_seq (pv 10) (pe_tup (pa_cons pe_str (pa_cons pe_str pa_nil))) (by rfl)) pa_nil)))))
(pss_one (ps_expr (pe_bm PySem.F.plainAttrs_list PySem.F.slot_list_append PySem.F.type_list_append mt_append (pv 3) (pa_cons (pe_tup (pa_cons (pv 10) (pa_cons (pv 6) pa_nil))) pa_nil)))))
pss_nil))))))
(pss_one (ps_ret (pv 3))))), ?_⟩
    have ls : l ≠ s := fun e => by rw [e, off_s] at hx; cases hx
    refine ⟨by show 0 ≤ sizeLine; decide, fun a ha => ⟨by show 0 ≤ sizeLine; decide, fun b hb => ⟨_, _, rfl, ?_⟩⟩⟩
    obtain ⟨ba, hb0⟩ := upd_none hb
    obtain ⟨as, ac⟩ := h0.ne ha
    obtain ⟨bs, bc⟩ := h0.ne hb0
    have e1 : SameX s H (upd (upd H a (.lst [])) b (.lst [])) := ((SameX.refl s H).putN ha).putN hb0
    refine ⟨_, rfl, _, rfl, _, _, rfl, rfl, s, c, ns, n + 1, rfl, (h0.put as ac).put bs bc, hl, by omega, by omega, fun d H2 hd e2 h2 => ?_⟩
    have a2 := e2 _ _ ((upd_ne (Ne.symm ba)).trans upd_same) as
    have b2 := e2 _ _ upd_same bs
    refine ⟨(d : Int), rfl, by omega, by omega, ?_⟩
    refine for_it walk_range (fun i σ H2 => SameX s H H2 ∧ StA H2 s c ns ∧ ∃ (ds : List (Str × Str)) (dvs : List V) (b : Addr), H2 a = some (.lst dvs) ∧ H2 b = some (.lst ((worded ds).map V.str)) ∧ b ≠ s ∧ b ≠ a ∧
      Al (DeT K (Off a (Off s H2))) dvs ds ∧ ds.length ≤ i ∧ (∀ d ∈ ds, DeOk fs d) ∧ (worded ds).Nodup ∧ ∃ x5 x6 x7 x8 x9 x10, σ = [some (.ref s), some (.ref l), some (.int n), some (.ref a), some (.ref b), x5, x6, x7, x8, x9, x10])
      ⟨e1.trans e2, h2, [], [], b, a2, b2, bs, ba, Al.nil, Nat.le_refl _, nofun, List.nodup_nil, none, none, none, none, none, none, rfl⟩ (fun _ _ _ _ _ => trivial) ?_ ?_
    · rintro i x σ H3' H3 hi ⟨e3, h3, ds, dvs, b, ea, eb, bs, ba, hal, hln, hok, hnd, x5, x6, x7, x8, x9, x10, rfl⟩ ⟨rfl, rfl⟩
      have hi10 : i < 10 := by
        have : i < d := hi
        omega
      have fl : fvs.length < 10 := by rw [hfs.1]; exact f1
      refine ⟨_, rfl, _, rfl, s, c, l, ns, fvs, rfl, h3, hl, ls, .inl (SqL.of (e3 _ _ (off_get hx) ls)), by rw [hfs.1]; exact f0, by omega, fun j v H4 hj e4 h4 => ?_⟩
      obtain ⟨f, hfj, hft⟩ := hfs.get hj
      have e04 := e3.trans e4
      obtain ⟨u, rfl, hu⟩ := (FdT.keep e04.off hft)
      have hu : SqT K H4 u (FdV f) := same_t off_same hu
      refine ⟨u, _, rfl, hu, rfl, _, _, rfl, _, _, rfl, _, _, rfl, rfl, ?_⟩
      refine ⟨fun v H5 => ∃ (q : Addr) (zs : List Str), v = .ref q ∧ H4 q = none ∧ H5 = upd H4 q (.lst (zs.map V.str)) ∧ 0 < zs.length ∧ zs.length < 10 ∧ ∀ z ∈ zs, f.many ∈ deedSorts z, ?_, ?_⟩
      · refine ⟨_, rfl, rfl, _, rfl, ?_⟩
        refine ite2 (fun h1 => ⟨by show 2 ≤ sizeLine; decide, fun q hq => ⟨q, ["set", "clear"], rfl, hq, rfl, by decide, by decide, ?_⟩⟩) (fun h1 => ⟨by show 5 ≤ sizeLine; decide, fun q hq => ⟨q, ["add", "add", "strike", "clear", "fresh"], rfl, hq, rfl, by decide, by decide, ?_⟩⟩)
        · have h2 : sortS f.many = "one" := by
            have := of_decide_eq_true h1
            exact V.str.inj this
          have : f.many = false := by
            cases e : f.many with
            | false => rfl
            | true =>
              rw [e] at h2
              exact absurd h2 (by decide)
          rw [this]
          decide
        · have : f.many = true := by
            cases e : f.many with
            | true => rfl
            | false =>
              rw [e] at h1
              exact absurd rfl (fun h => h1 (decide_eq_true h))
          rw [this]
          decide
      rintro _ _ ⟨q, zs, rfl, hq, rfl, z0, z1, hz⟩
      have e5 : Same H4 (upd H4 q (.lst (zs.map V.str))) := same_new (Same.refl H4) hq
      have qs := (h4.ne hq).1
      -- the deed
      refine ⟨_, rfl, _, rfl, s, c, q, ns, _, rfl, h4.keep e5, hl, qs, .inl (SqL.of upd_same), by rw [List.length_map]; exact z0, by rw [List.length_map]; omega, fun j2 v H6 hj2 e6 h6 => ?_⟩
      rw [List.getElem?_map] at hj2
      obtain ⟨z, hz2, rfl⟩ := Option.map_eq_some_iff.mp hj2
      have hzm := hz z (List.mem_of_getElem? hz2)
      have e46 : SameX s H3 H6 := (e4.trans (same_sx e5)).trans e6
      have a6 := e46 _ _ ea as
      have b6 := e46 _ _ eb bs
      have hal6 : Al (DeT K (Off a (Off s H6))) dvs ds := hal.mono fun _ _ h => DeT.keep (same_off e46.off) h
      have kp : ∀ {H' : Hp}, Same H6 H' → SameX s H H' ∧ StA H' s c ns ∧ Al (DeT K (Off a (Off s H'))) dvs ds := fun e => ⟨(e3.trans e46).trans (same_sx e), h6.keep e, hal6.mono fun _ _ h => DeT.keep (same_off (same_off e)) h⟩
      have dl : dvs.length < 1000 := by rw [hal.1]; omega
      have wl : (worded ds).length < 1000 := by
        have : (worded ds).length ≤ ds.length := by unfold worded; rw [List.length_map]; exact List.length_filter_le ..
        omega
      -- the test
      refine ⟨fun t H7 => Same H6 H7 ∧ (t = true → (z = "add" ∨ z = "strike") → f.nm ∉ worded ds), ?_, ?_⟩
      · refine ⟨_, rfl, by show 2 ≤ sizeLine; decide, fun p hp => ?_⟩
        have e7 : Same H6 (upd H6 p (.tup [.str "add", .str "strike"])) := same_new (Same.refl H6) hp
        refine ⟨p, _, rfl, .inr (SqT.of upd_same), rfl, rfl, _, rfl, ?_⟩
        rw [show ([.str "add", .str "strike"] : List V) = (["add", "strike"] : List Str).map V.str from rfl, inV_strs]
        refine ite2 (fun h1 => ⟨e7, fun _ h2 => ?_⟩) (fun h1 => ?_)
        · have hm : z ∈ (["add", "strike"] : List Str) := by rcases h2 with rfl | rfl <;> decide
          rw [decide_eq_true hm] at h1
          cases h1
        · refine ⟨_, rfl, _, rfl, b, _, rfl, .inl (SqL.of (e7 _ _ b6)), rfl, flat_strs _, ?_⟩
          rw [inV_strs]
          refine ⟨_, rfl, e7, fun h2 _ hm => ?_⟩
          rw [decide_eq_true hm] at h2
          cases h2
      rintro t H7 ⟨e7, ht⟩
      refine ite2 (fun h1 => ?_) (fun h1 => ?_)
      · refine ⟨_, rfl, _, rfl, by show 1 ≤ sizeLine; decide, fun p hp => ?_⟩
        refine ⟨_, rfl, by show 2 ≤ sizeLine; decide, fun p2 hp2 => ⟨p2, _, rfl, .inr (SqT.of upd_same), rfl, rfl, .inr ⟨_, rfl, ?_⟩⟩⟩
        rw [show ([.str "add", .str "strike"] : List V) = (["add", "strike"] : List Str).map V.str from rfl, inV_strs]
        have e8 : Same H6 (upd (upd H7 p (.lst [.str f.nm])) p2 (.tup ((["add", "strike"] : List Str).map V.str))) := same_new (same_new e7 hp) hp2
        have p8 : upd (upd H7 p (.lst [.str f.nm])) p2 (.tup ((["add", "strike"] : List Str).map V.str)) p = some (.lst [.str f.nm]) := by
          rw [upd_ne (Ne.symm (upd_none hp2).1), upd_same]
        obtain ⟨m, hm, m1, hw⟩ : ∃ m : Nat, (if (if false = true then !decide (z ∈ (["add", "strike"] : List Str)) else decide (z ∈ (["add", "strike"] : List Str))) = true then (1 : Int) else 0) = (m : Int) ∧ m ≤ 1 ∧ worded (ds ++ [(z, f.nm)]) = worded ds ++ List.replicate m f.nm := by
          rw [worded_snoc]
          by_cases q : z ∈ (["add", "strike"] : List Str)
          · refine ⟨1, by rw [decide_eq_true q]; rfl, Nat.le_refl _, ?_⟩
            rw [if_pos (by simpa using q)]
            rfl
          · refine ⟨0, by rw [decide_eq_false q]; rfl, by decide, ?_⟩
            rw [if_neg (by simpa using q)]
            rfl
        refine ⟨p, m, _, rfl, congrArg V.int hm, p8, by omega, by omega, ?_, fun p3 hp3 => ?_⟩
        · rw [Int.toNat_natCast]
          show 1 * m ≤ sizeLine
          exact Nat.le_trans (by omega : 1 * m ≤ 1) (by decide)
        rw [Int.toNat_natCast, rep_flat]
        have e9 := same_new e8 hp3 (o := .lst ((List.replicate m f.nm).map V.str))
        refine ⟨b, p3, _, _, rfl, rfl, e9 _ _ b6, upd_same, ?_, fun p4 hp4 => ?_⟩
        · rw [List.length_map, List.length_map, List.length_replicate]
          exact Nat.le_trans (by omega : (worded ds).length + m ≤ 1001) (by decide)
        rw [← List.map_append, ← hw]
        have e10 := same_new e9 hp4 (o := .lst ((worded (ds ++ [(z, f.nm)])).map V.str))
        refine ⟨_, rfl, .inl ⟨rfl, _, SqL.of (e10 _ _ a6)⟩, _, rfl, _, rfl, by show 2 ≤ sizeLine; decide, fun p5 hp5 => ?_⟩
        have e11 := same_new e10 hp5 (o := .tup [.str z, .str f.nm])
        refine ⟨a, _, _, rfl, rfl, e11 _ _ a6, Nat.lt_of_lt_of_le dl (by decide), ?_⟩
        obtain ⟨k1, k2, k3⟩ := kp e11
        have n4 := (h6.keep e9).ne hp4
        have n4a : p4 ≠ a := fun e => by rw [e, e9 _ _ a6] at hp4; cases hp4
        have n5 := (h6.keep e10).ne hp5
        have n5a : p5 ≠ a := fun e => by rw [e, e10 _ _ a6] at hp5; cases hp5
        refine ⟨k1.putN ha, k2.put as ac, ds ++ [(z, f.nm)], dvs ++ [.ref p5], p4, upd_same, ?_, n4.1, n4a, ?_, ?_, ?_, ?_, _, _, _, _, _, _, rfl⟩
        · rw [upd_ne n4a, upd_ne (fun e => by rw [← e, upd_same] at hp5; cases hp5), upd_same]
        · rw [off_upd as, off_put]
          exact k3.snoc (Tu.tup (by rw [off_ne n5a, off_ne n5.1, upd_same]; rfl))
        · rw [List.length_append]
          exact Nat.succ_le_succ hln
        · intro d' hd'
          rcases List.mem_append.mp hd' with h | h
          · exact hok d' h
          · obtain rfl := List.mem_singleton.mp h
            exact ⟨f, List.mem_of_getElem? hfj, rfl, hzm⟩
        · rw [worded_snoc]
          by_cases q : z = ("add" : Str) ∨ z = ("strike" : Str)
          · rw [if_pos q]
            exact List.nodup_append.mpr ⟨hnd, by simp, fun x hx y hy e => ht h1 q (by have e2 : y = f.nm := List.mem_singleton.mp hy; rw [← e2, ← e]; exact hx)⟩
          · rw [if_neg q, List.append_nil]
            exact hnd
      · obtain ⟨k1, k2, k3⟩ := kp e7
        exact ⟨k1, k2, ds, dvs, b, e7 _ _ a6, e7 _ _ b6, bs, ba, k3, Nat.le_succ_of_le hln, hok, hnd, _, _, _, _, _, _, rfl⟩
    · rintro σ H3 ⟨e3, h3, ds, dvs, b, ea, eb, bs, ba, hal, hln, hok, hnd, x5, x6, x7, x8, x9, x10, rfl⟩
      refine ⟨_, rfl, ?_⟩
      have hd' : ds.length ≤ d := hln
      exact k a ds dvs H3 ha ((off_ne as).trans ea) (hal.mono fun _ _ h => DeT.keep off_same h) (by omega) hok hnd e3 h3
end
end MK
set_option Elab.async false
set_option linter.all false
set_option autoImplicit false
set_option maxRecDepth 100000
set_option maxHeartbeats 4000000
namespace MK
open PySem PySem.Spec PyProof.Rows L2
local macro_rules | `(tactic| walk_at "x") => `(tactic| dsimp only [tSeq, tAsg, tRet, tDrop, tLst, tTup, tCons, tOp, tUn, tIfS])
/-! ### a drawn call -/
abbrev s_call : Stmt := topS 62
theorem sc_call : FnScope ["_law_state", "_law_name", "_law_hand", "_law_fields", "_law_far", "_law_some", "_law_k", "_law_moves", "_law_x", "_law_lists", "_law_deeds_here"] ["_law_state", "_law_name", "_law_hand", "_law_fields", "_law_far"] (defScope s_call) := ⟨rfl, rfl, rfl, by decide +kernel, rfl, by decide +kernel, by decide +kernel⟩
def spCall (K : PySem.W.Frag) : Sp := fun vs H Q _ => ∃ (s c l : Addr) (ns : List Int) (nm hd : Str) (far : Nat) (fvs : List V) (fs : List FD), vs = [.ref s, .str nm, .str hd, .ref l, .int far] ∧ StA H s c ns ∧ ns.length ≤ 63 ∧ Off s H l = some (.lst fvs) ∧ Al (FdT K (Off s H)) fvs fs ∧ 0 < fs.length ∧ fs.length < 10 ∧
  (fs.map (·.nm)).Nodup ∧ 1 ≤ far ∧ far ≤ 4 ∧ wordB nm = true ∧ (hd = "self" ∨ hd = "new" ∨ hd = "last") ∧
  ∀ (v : V) (cd : CD) H', cd.nm = nm → cd.hand = hd → CdN K H (Off s H') v cd → CdOk fs far cd → SameX s H H' → StA H' s c ns → Q v H'
section
variable {P : Program} {w : World} {K : PySem.W.Frag} {mg : Str → Option Value} {base : Heap}
theorem ok_call {f : Addr} {fd : FuncData} (F : DefX K mg "_law_call" s_call ["_law_state", "_law_name", "_law_hand", "_law_fields", "_law_far"] f fd) (T : Txt K mg) (c_take : Cal P w K mg base CX0 2 "_law_take" spTake) (c_one : Cal P w K mg base CX0 3 "_law_one" (spOne K)) (c_deeds : Cal P w K mg base CX0 4 "_law_deeds" (spDeeds K)) : Cal P w K mg base CX0 5 "_law_call" (spCall K) := by
  refine cal_mk F sc_call (fun vs H Q E h => ?_) (fun cdv A outer sh H vs Q E hr h => ?_)
  · obtain ⟨s, c, l, ns, nm, hd, far, fvs, fs, rfl, _⟩ := h
    rfl
  · obtain ⟨s, c, l, ns, nm, hd, far, fvs, fs, rfl, h0, hl, hx, hfs, f0, f1, fnd, far0, far1, hw, hh, k⟩ := h
    refine ⟨_, (pss_cut (ps_set (i := 5) sc_call.nd rfl (Or.inr rfl) (pe_op op_cat (pe_op op_rep (pe_listRg rfl (by rfl) T.list (prg_1 (by rfl) T.range (pv 4))) pe_int) (pe_op op_rep (pe_lst (pa_cons (pe_un un_neg pe_int) pa_nil)) (pe_callTy call_int1 (by rfl) T.int (by decide +kernel) (pa_cons (pe_cmpR op_gt (pv 4) pe_int (nomark _)) pa_nil)))))
(pss_cut (ps_setLc (i := 7) (own := [("_law_k", 6)]) (g := (gName 6)) (tt := tYes) rfl sc_call.nd rfl rfl (sw_true rfl rfl rfl (by decide +kernel)) (pi_range1 (by rfl) T.range (pa_cons (pv 4) pa_nil)) (blkOk_by (own := [("_law_k", 6)]) (N := ["_law_state", "_law_name", "_law_hand", "_law_fields", "_law_far", "_law_some", "_law_k", "_law_moves", "_law_x", "_law_lists", "_law_deeds_here"]) (sc := defScope s_call) (by decide +kernel)) (fun _ _ _ _ _ => (pg_name (i := 6) sc_call.nd rfl (Or.inl rfl))) (fun _ _ _ _ _ => pts_nil) (fun _ _ _ _ _ => (pe_c c_one hr (by first | decide | assumption) rfl (pa_cons (pv 0) (pa_cons (pv 5) pa_nil)))))
(pss_cut (ps_setLc (i := 9) (own := [("_law_x", 8)]) (g := (gName 8)) rfl sc_call.nd rfl rfl (sw_true rfl rfl rfl (by decide +kernel)) (pi_list (pv 3)) (blkOk_by (own := [("_law_x", 8)]) (N := ["_law_state", "_law_name", "_law_hand", "_law_fields", "_law_far", "_law_some", "_law_k", "_law_moves", "_law_x", "_law_lists", "_law_deeds_here"]) (sc := defScope s_call) (by decide +kernel)) (fun _ _ _ _ _ => (pg_name (i := 8) sc_call.nd rfl (Or.inl rfl))) (fun _ _ _ _ _ => (pts_one (pt_cut (PW.pt (pw_and (pt_cmpR op_eq (pe_ix (ix_tupK (K := K) rfl) (pv 8) pe_int (fun _ _ => rfl)) pe_str (nomark _)) (pw_and1 (pt_cmpR op_eq (pe_c c_take hr (by first | decide | assumption) rfl (pa_cons (pv 0) (pa_cons pe_int pa_nil))) pe_int (nomark _)))))))) (fun _ _ _ _ _ => (pe_ix (ix_tupK (K := K) rfl) (pv 8) pe_int (fun _ _ => rfl))))
(pss_cons (ps_set (i := 10) sc_call.nd rfl (Or.inl rfl) (pe_c c_deeds hr (by first | decide | assumption) rfl (pa_cons (pv 0) (pa_cons (pv 3) (pa_cons (pe_c c_one hr (by first | decide | assumption) rfl (pa_cons (pv 0) (pa_cons (pe_lst (pa_cons pe_int (pa_cons pe_int (pa_cons pe_int (pa_cons pe_int pa_nil))))) pa_nil))) pa_nil)))))
(pss_one (ps_ret (pe_tup (pa_cons (pv 1) (pa_cons (pv 2) (pa_cons (pv 7) (pa_cons (pv 10) (pa_cons (pe_cut (pe_ifExp (pt_cmpR op_ne (pv 2) pe_str (nomark _)) (pv 9) (pe_lst pa_nil))) pa_nil)))))))))))), ?_⟩
    have ls : l ≠ s := fun e => by rw [e, off_s] at hx; cases hx
    have fl : fvs.length < 10 := by rw [hfs.1]; exact f1
    refine ⟨fun σ H5 => ∃ q5 x6 x7 x8 x9 x10, ∃ m : Nat, m ≤ 1 ∧ Same H H5 ∧ q5 ≠ s ∧ H5 q5 = some (.lst (smV (far : Int) m)) ∧ σ = [some (.ref s), some (.str nm), some (.str hd), some (.ref l), some (.int far), some (.ref q5), x6, x7, x8, x9, x10], ?_, ?_⟩
    · refine ⟨_, rfl, (far : Int), rfl, RgOk.of_le (by omega) (by omega) (by omega) (by omega), fun q hq => ?_⟩
      have e1 := same_new (Same.refl H) hq (o := .lst (rgV 0 (far : Int)))
      have rl : (rgV 0 (far : Int)).length = far := by rw [rgV_length, Int.sub_zero, Int.toNat_natCast]
      refine ⟨q, 3, _, rfl, rfl, upd_same, by decide, by decide, ?_, fun q2 hq2 => ?_⟩
      · rw [rl]
        exact Nat.le_trans (by show far * 3 ≤ 12; omega) (by decide)
      have e2 := same_new e1 hq2 (o := .lst (List.replicate 3 (rgV 0 (far : Int))).flatten)
      refine ⟨_, rfl, by show 1 ≤ sizeLine; decide, fun q3 hq3 => ?_⟩
      have e3 := same_new e2 hq3 (o := .lst [V.int (-1)])
      refine ⟨_, rfl, _, _, rfl, rfl, .inr ⟨_, rfl, ?_⟩⟩
      obtain ⟨m, hm, m1⟩ : ∃ m : Nat, (if decide ((far : Int) > 1) = true then (1 : Int) else 0) = (m : Int) ∧ m ≤ 1 := by
        by_cases q : (far : Int) > 1
        · exact ⟨1, by rw [decide_eq_true q]; rfl, Nat.le_refl _⟩
        · exact ⟨0, by rw [decide_eq_false q]; rfl, by decide⟩
      refine ⟨q3, m, _, rfl, congrArg V.int hm, upd_same, by omega, by omega, ?_, fun q4 hq4 => ?_⟩
      · rw [Int.toNat_natCast]
        exact Nat.le_trans (by show 1 * m ≤ 1; omega) (by decide)
      rw [Int.toNat_natCast]
      have e4 := same_new e3 hq4 (o := .lst (List.replicate m [V.int (-1)]).flatten)
      have z3 : q2 ≠ q3 := fun e => by rw [← e, upd_same] at hq3; cases hq3
      have z4 : q2 ≠ q4 := fun e => by rw [← e, upd_ne z3, upd_same] at hq4; cases hq4
      have sml := smV_len (far := (far : Int)) (m := m) (by omega)
      refine ⟨q2, q4, _, _, rfl, rfl, by rw [upd_ne z4, upd_ne z3, upd_same], upd_same, ?_, fun q5 hq5 => ?_⟩
      · have : (smV (far : Int) m).length ≤ sizeLine := Nat.le_trans (by omega : _ ≤ 13) (by decide)
        unfold smV at this
        rw [List.length_append] at this
        exact this
      exact ⟨q5, _, _, _, _, _, m, m1, same_new e4 hq5, ((h0.keep e4).ne hq5).1, upd_same, rfl⟩
    rintro _ H5 ⟨q5, x6, x7, x8, x9, x10, m, m1, e5, q5s, s5, rfl⟩
    have h5 := h0.keep e5
    have sml := smV_len (far := (far : Int)) (m := m) (by omega)
    have smm : ∀ x ∈ smV (far : Int) m, ∃ z : Int, x = .int z ∧ -1 ≤ z ∧ z < far := fun x h => smV_mem (by omega) h
    -- the moves
    refine ⟨fun σ H6 => ∃ (D : Addr) (ms : List Int) (x6 x8 x9 x10 : Option V), SameX s H H6 ∧ StA H6 s c ns ∧ D ≠ s ∧ H D = none ∧ H6 D = some (.lst (ms.map V.int)) ∧ ms.length = far ∧ (∀ z ∈ ms, -1 ≤ z ∧ z < far) ∧
      σ = [some (.ref s), some (.str nm), some (.str hd), some (.ref l), some (.int far), some (.ref q5), x6, some (.ref D), x8, x9, x10], ?_, ?_⟩
    · refine ⟨_, rfl, (far : Int), rfl, by omega, by omega, fun D hD => ?_⟩
      obtain ⟨Ds, Dc⟩ := h5.ne hD
      refine lc_it walk_range (fun i H6 => SameX s H H6 ∧ StA H6 s c ns ∧ H6 q5 = some (.lst (smV (far : Int) m)) ∧ ∃ ms : List Int, H6 D = some (.lst (ms.map V.int)) ∧ ms.length = i ∧ ∀ z ∈ ms, -1 ≤ z ∧ z < far)
        ⟨same_sx (same_new e5 hD), h5.put Ds Dc, same_new (Same.refl H5) hD _ _ s5, [], upd_same, rfl, nofun⟩ (fun _ _ _ _ => trivial) ?_ ?_
      · rintro i x H6' H6 hi ⟨e6, h6, s6, ms, hms, hlen, hz⟩ ⟨rfl, rfl⟩
        have hi4 : i < far := by
          have : i < (far : Int).toNat := hi
          omega
        refine ⟨rfl, ?_⟩
        refine ⟨_, rfl, _, rfl, s, c, q5, ns, _, rfl, h6, hl, q5s, .inl (SqL.of s6), by rw [sml]; omega, by rw [sml]; omega, fun d v H7 hd7 e7 h7 => ?_⟩
        obtain ⟨z, rfl, z0, z1⟩ := smm v (List.mem_of_getElem? hd7)
        refine ⟨_, e7 _ _ hms Ds, by rw [List.length_map]; exact Nat.lt_of_lt_of_le (by omega : ms.length < 4) (by decide), ?_⟩
        have q5D : q5 ≠ D := fun e => by rw [e, hD] at s5; cases s5
        refine ⟨(e6.trans e7).putN (none_of e5 hD), h7.put Ds Dc, (upd_ne q5D).trans (e7 _ _ s6 q5s), ms ++ [z], ?_, by rw [List.length_append, hlen]; rfl, ?_⟩
        · rw [upd_same, List.map_append]
          rfl
        · intro y hy
          rcases List.mem_append.mp hy with hy | hy
          · exact hz y hy
          · rw [List.mem_singleton.mp hy]
            exact ⟨z0, z1⟩
      · rintro H6 ⟨e6, h6, _, ms, hms, hlen, hz⟩
        exact ⟨D, ms, _, _, _, _, e6, h6, Ds, none_of e5 hD, hms, by rw [hlen]; exact Int.toNat_natCast far, hz, rfl⟩
    rintro _ H6 ⟨D, ms, x6, x8, x9, x10, e6, h6, Ds, Dn, hms, hml, hmz, rfl⟩
    -- the lists in common
    refine ⟨fun σ H7 => ∃ (D2 : Addr) (zs : List Str) (x6 x8 x10 : Option V), SameX s H H7 ∧ StA H7 s c ns ∧ D2 ≠ s ∧ H D2 = none ∧ H7 D = some (.lst (ms.map V.int)) ∧ H7 D2 = some (.lst (zs.map V.str)) ∧ zs.Nodup ∧ (∀ z ∈ zs, ∃ f ∈ fs, f.nm = z ∧ f.many = true) ∧
      σ = [some (.ref s), some (.str nm), some (.str hd), some (.ref l), some (.int far), some (.ref q5), x6, some (.ref D), x8, some (.ref D2), x10], ?_, ?_⟩
    · refine ⟨_, rfl, l, rfl, ⟨_, SqL.of (e6 _ _ (off_get hx) ls)⟩, fun D2 hD2 => ?_⟩
      obtain ⟨D2s, D2c⟩ := h6.ne hD2
      have D2D : D ≠ D2 := fun e => by rw [← e, hms] at hD2; cases hD2
      refine lc_list (K := K) (a := l) (xs := fvs) (fun i H7 => SameX s H6 H7 ∧ StA H7 s c ns ∧ ∃ zs : List Str, H7 D2 = some (.lst (zs.map V.str)) ∧ zs.length ≤ i ∧ zs.Sublist ((fs.take i).map (·.nm)) ∧ ∀ z ∈ zs, ∃ f ∈ fs, f.nm = z ∧ f.many = true)
        ⟨same_sx (same_new (Same.refl H6) hD2), h6.put D2s D2c, [], upd_same, Nat.le_refl _, List.nil_sublist _, nofun⟩ (fun i H7 _ h => SqL.of (h.1 _ _ (e6 _ _ (off_get hx) ls) ls)) ?_ ?_
      · rintro i v H7 hv7 ⟨e7, h7, zs, hzs, hzl, hsub, hzm⟩
        obtain ⟨f, hfi, hft⟩ := hfs.get hv7
        have il : i < fvs.length := (List.getElem?_eq_some_iff.mp hv7).1
        obtain ⟨u, rfl, hu0⟩ := FdT.keep (e6.trans e7).off hft
        have hu : SqT K H7 u (FdV f) := same_t off_same hu0
        refine ⟨rfl, ?_⟩
        refine ⟨fun t H8 => SameX s H7 H8 ∧ StA H8 s c ns ∧ (t = true → f.many = true), ?_, ?_⟩
        · refine ⟨_, rfl, u, _, 1, .str (sortS f.many), rfl, rfl, hu, rfl, rfl, _, rfl, ite2 (fun h1 => ?_) (fun h1 => ⟨SameX.refl s H7, h7, nofun⟩)⟩
          refine ⟨_, rfl, s, c, ns, 2, rfl, h7, hl, by decide, by decide, fun d H8 hd e8 h8 => ⟨rfl, _, rfl, e8, h8, fun _ => ?_⟩⟩
          cases e : f.many with
          | true => rfl
          | false =>
            rw [e] at h1
            exact absurd (V.str.inj (of_decide_eq_true h1)) (by decide)
        rintro t H8 ⟨e8, h8, ht⟩
        have fi : (fs.take (i + 1)).map (·.nm) = (fs.take i).map (·.nm) ++ [f.nm] := by
          rw [List.take_succ, hfi]
          simp
        refine ite2 (fun h1 => ?_) (fun h1 => ?_)
        · refine ⟨_, rfl, u, _, 0, .str f.nm, rfl, rfl, same_t off_same (same_t e8.off hu0), rfl, ?_⟩
          refine ⟨_, e8 _ _ hzs D2s, by rw [List.length_map]; exact Nat.lt_of_lt_of_le (by omega : zs.length < 10) (by decide), ?_⟩
          refine ⟨(e7.trans e8).putN hD2, h8.put D2s D2c, zs ++ [f.nm], ?_, by rw [List.length_append]; exact Nat.succ_le_succ hzl, ?_, ?_⟩
          · rw [upd_same, List.map_append]
            rfl
          · rw [fi]
            exact hsub.append (List.Sublist.refl _)
          · intro y hy
            rcases List.mem_append.mp hy with hy | hy
            · exact hzm y hy
            · rw [List.mem_singleton.mp hy]
              exact ⟨f, List.mem_of_getElem? hfi, rfl, ht h1⟩
        · refine ⟨e7.trans e8, h8, zs, e8 _ _ hzs D2s, Nat.le_succ_of_le hzl, ?_, hzm⟩
          rw [fi]
          exact hsub.trans (List.sublist_append_left _ _)
      · rintro H7 ⟨e7, h7, zs, hzs, hzl, hsub, hzm⟩
        refine ⟨D2, zs, _, _, _, e6.trans e7, h7, D2s, noneX e6 D2s hD2, e7 _ _ hms Ds, hzs, ?_, hzm, rfl⟩
        refine hsub.nodup (List.Nodup.sublist ?_ fnd)
        exact (List.take_sublist _ _).map _
    rintro _ H7 ⟨D2, zs, x6, x8, x10, e7, h7, D2s, D2n, hms7, hzs, hznd, hzm, rfl⟩
    -- the deeds
    refine ⟨_, rfl, _, rfl, _, rfl, by show 4 ≤ sizeLine; decide, fun b hb => ?_⟩
    have e8 := same_new (Same.refl H7) hb (o := .lst [.int 1, .int 2, .int 2, .int 4])
    refine ⟨s, c, b, ns, _, rfl, h7.keep e8, hl, (h7.ne hb).1, .inl (SqL.of upd_same), by decide, by decide, fun d v H8 hd8 e9 h8 => ?_⟩
    obtain ⟨n, rfl, n0, n1⟩ : ∃ n : Int, v = .int n ∧ 0 ≤ n ∧ n ≤ 4 := by
      have m := List.mem_of_getElem? hd8
      simp only [List.mem_cons, List.not_mem_nil, or_false] at m
      rcases m with rfl | rfl | rfl | rfl <;> exact ⟨_, rfl, by decide, by decide⟩
    have e78 := (same_sx (s := s) e8).trans e9
    have e08 := e7.trans e78
    refine ⟨s, c, l, ns, n, fvs, fs, rfl, h8, hl, ?_, hfs.mono fun _ _ h => FdT.keep e08.off h, f0, f1, n0, by omega, fun a ds dvs H9 ha hda hal hdl hdok hdnd e10 h9 => ?_⟩
    · rw [off_ne ls]
      exact e08 _ _ (off_get hx) ls
    have e79 := e78.trans e10
    -- what is handed
    refine ⟨_, rfl, _, rfl, _, rfl, _, rfl, ?_⟩
    refine ⟨fun v H10 => Same H9 H10 ∧ ∃ ys : List Str, LsN H (Off s H10) v (ys.map V.str) ∧ ys.Nodup ∧ (∀ z ∈ ys, ∃ f ∈ fs, f.nm = z ∧ f.many = true) ∧ (hd = "self" → ys = []), ?_, ?_⟩
    · refine ⟨_, rfl, rfl, _, rfl, ite2 (fun h1 => ?_) (fun h1 => ?_)⟩
      · refine ⟨_, rfl, Same.refl H9, zs, ⟨D2, rfl, D2n, ?_⟩, hznd, hzm, fun e => ?_⟩
        · rw [off_ne D2s]
          exact e79 _ _ hzs D2s
        · subst e
          exact absurd h1 (by decide)
      · refine ⟨by show 0 ≤ sizeLine; decide, fun p hp => ⟨same_new (Same.refl H9) hp, [], ⟨p, rfl, noneX (e08.trans e10) (h9.ne hp).1 hp, ?_⟩, List.nodup_nil, nofun, fun _ => rfl⟩⟩
        rw [off_ne (h9.ne hp).1, upd_same]
        rfl
    rintro v H10 ⟨e11, ys, hys, ynd, hym, hself⟩
    refine ⟨by show 5 ≤ sizeLine; decide, fun p hp => ?_⟩
    have e12 := same_new e11 hp (o := .tup [.str nm, .str hd, .ref D, .ref a, v])
    have ps := ((h9.keep e11).ne hp).1
    have e13 : Same (Off s H10) (Off s (upd H10 p (.tup [.str nm, .str hd, .ref D, .ref a, v]))) := same_off (same_new (Same.refl H10) hp)
    refine k (.ref p) ⟨nm, hd, ms, ds, ys⟩ _ rfl rfl ⟨.ref D, .ref a, v, dvs, Tu.tup ?_, ⟨D, rfl, Dn, ?_⟩, ⟨a, rfl, noneX e08 (h8.ne ha).1 ha, same_off e12 _ _ hda⟩, hal.mono fun _ _ h => DeT.keep (same_off e12) h, hys.keep e13⟩ ?_ (((e08.trans e10).trans (same_sx e12))) (h9.keep e12)
    · rw [off_ne ps, upd_same]
    · rw [off_ne Ds]
      exact e12 _ _ (e79 _ _ hms7 Ds)
    · exact ⟨hw, hh, hml, hmz, (by have : (ds.length : Int) ≤ 4 := Int.le_trans hdl n1; exact Int.ofNat_le.mp this), hdok, hdnd, hym, hself, ynd⟩
end
end MK

set_option Elab.async false
set_option linter.all false
set_option autoImplicit false
set_option maxRecDepth 100000
set_option maxHeartbeats 4000000
namespace MK
open PySem PySem.Spec PyProof.Rows L2
local macro_rules | `(tactic| walk_at "x") => `(tactic| dsimp only [tSeq, tAsg, tRet, tDrop, tLst, tTup, tCons, tOp, tUn, tIfS])
/-! ### Kind(..), the law's kinds -/
abbrev s_plan : Stmt := topS 60
theorem sc_plan : FnScope ["_law_fields", "_law_calls", "_law_far"] ["_law_fields", "_law_calls", "_law_far"] (defScope s_plan) := ⟨rfl, rfl, rfl, by decide +kernel, rfl, by decide +kernel, by decide +kernel⟩
structure KMk (P : Program) (w : World) (K : PySem.W.Frag) (mg : Str → Option Value) (base : Heap) (KC : Addr) : Prop where
  ex : ∃ (f : Addr) (fd : FuncData), Mk K KC f ∧ FnOk P w K mg base CX0 6 f fd ["self", "fields", "calls", "modes"] (spKInit K KC) ∧ KBn K fd ["self", "fields", "calls", "modes"] 3 ["modes"] (fun us ws => us ++ ws) (fun vs zs => vs ++ zs)
  g : mg "Kind" = some (.ref KC)
theorem pe_kind {X : Cx} {KC : Addr} {j : Nat} {p pos : Pos} {e : Expr} {es : List Expr} {kws : List Keyword} {t tk : TA} (c : KMk X.prog X.w X.K X.mg X.base KC) (hr : Room j X.A) (hk : 7 ≤ j) (hg : Gl X "Kind") (ha : PA X (e :: es) t) (hkw : PK X kws tk)
    (hall : (backToKw pos (keywordEach kws X.env)).all (·.1.isSome) = true := by rfl) (hks : (backToKw pos (keywordEach kws X.env)).filterMap (·.1) = (["modes"] : List Str) := by rfl)
    (he : starEach (e :: es) X.env = (false, eval e X.env) :: starEach es X.env := by rfl) (hpl : ((backTo pos (starEach (e :: es) X.env)).any (·.1) || (backToKw pos (keywordEach kws X.env)).any (·.1.isNone)) = false := by rfl) :
    PE X (.Call (.Name "Kind" p) (e :: es) kws pos) (tCutE (tMakeK KC 2 1 (spKInit X.K KC) (fun vs zs => vs ++ zs) E0 t tk)) := by
  obtain ⟨f, fd, M, F, hb⟩ := c.ex
  exact pe_cut <| pe_makeK (n := 2) M F (hr.mono hk) hg c.g hb pass0 ha hkw hall hks (by decide) he hpl
theorem rd_kind {K : PySem.W.Frag} {KC s : Addr} {H : Hp} {fv cv : V} {n : Nat} {fvs cvs : List V} {fs : List FD} {cs : List CD} {Q : VK} {E : XK} (hs : H s ≠ none) (hf : Sq K (Off s H) fv fvs) (hfs : Al (FdA K (Off s H)) fvs fs) (hc : Sq K (Off s H) cv cvs) (hcs : Al (CdA K (Off s H)) cvs cs) (ok : KdOk fs n cs)
    (q : ∀ v H', Same H H' → KdA K KC (Off s H') v fs n cs → Q v H') : ∀ x dx, H x = none → H dx = none → dx ≠ x → spKInit K KC (.ref x :: ([fv, cv] ++ [.int n])) (upd (upd H dx (.own x)) x (.ins KC dx [])) (fun v H3 => v = .non ∧ Q (.ref x) H3) E := by
  intro x dx hx hd ne
  have xs : x ≠ s := fun e => hs (e ▸ hx)
  have ds : dx ≠ s := fun e => hs (e ▸ hd)
  have b : Same (Off s H) (Off x (Off s (upd (upd H dx (.own x)) x (.ins KC dx [])))) := by
    rw [off_upd xs, off_put]
    exact same_offN (same_off (same_new (Same.refl H) hd)) (off_none hx)
  refine ⟨s, x, dx, fv, cv, n, fvs, cvs, fs, cs, rfl, xs, ?_, upd_same, hf.keep b, hfs.mono fun _ _ h => FdA.keep b h, hc.keep b, hcs.mono fun _ _ h => CdA.keep b h, ok, fun H' e kd => ⟨rfl, q _ _ (fun a o ha => ?_) kd⟩⟩
  · rw [upd_ne (Ne.symm xs), upd_ne (Ne.symm ds)]
    exact hs
  · refine e a o ?_ (fun z => by rw [z, hx] at ha; cases ha)
    rw [upd_ne (fun z => by rw [z, hx] at ha; cases ha), upd_ne (fun z => by rw [z, hd] at ha; cases ha)]
    exact ha
theorem rd_kindM {K : PySem.W.Frag} {KC s : Addr} {H : Hp} {fv cv : V} {n : Nat} {fvs cvs : List V} {fs : List FD} {cs : List CD} {E : XK} (hs : H s ≠ none) (hf : Sq K (Off s H) fv fvs) (hfs : Al (FdA K (Off s H)) fvs fs) (hc : Sq K (Off s H) cv cvs) (hcs : Al (CdA K (Off s H)) cvs cs) (ok : KdOk fs n cs) :
    ∀ x dx, H x = none → H dx = none → dx ≠ x → spKInit K KC (.ref x :: ([fv, cv] ++ [.int n])) (upd (upd H dx (.own x)) x (.ins KC dx [])) (fun v H3 => v = .non ∧ Same H H3 ∧ KdA K KC (Off s H3) (.ref x) fs n cs) E :=
  rd_kind (Q := fun v H' => Same H H' ∧ KdA K KC (Off s H') v fs n cs) hs hf hfs hc hcs ok fun _ _ e k => ⟨e, k⟩
theorem KdA.off {K : PySem.W.Frag} {KC p : Addr} {H : Hp} {v : V} {fs : List FD} {n : Nat} {cs : List CD} (h : KdA K KC H v fs n cs) (hp : H p = some (.dK [])) (f0 : 0 < fs.length) (c0 : 0 < cs.length) : KdA K KC (Off p H) v fs n cs := by
  obtain ⟨x, dx, so, sp, tb, t, st, tv, sv, h0, h1, h2, h3, h4, h5, h6, h7, h8⟩ := h
  have full : ∀ {a : Addr} {kvs : List (Key × V)}, H a = some (.dK kvs) → 0 < kvs.length → Off p H a = some (.dK kvs) := fun {a kvs} ha hl => by
    rw [off_ne (fun e => by
      rw [e, hp] at ha
      have := HO.dK.inj (Option.some.inj ha)
      rw [← this] at hl
      cases hl)]
    exact ha
  refine ⟨x, dx, so, sp, tb, t, st, tv, sv, h0, ?_, h2.off hp no_dK, h3.mono fun _ _ h => Tu.off h hp no_dK, full h4 (by rw [sorts_len]; exact f0), full h5 (by rw [spots_len]; exact f0), h6.off hp no_dK, h7.mono fun _ _ h => CdT.off h hp no_dK, full h8 (by rw [table_len h7.1]; exact c0)⟩
  rw [off_ne (fun e => by rw [e, hp] at h1; cases h1)]
  exact h1
/-- what the law holds of a kind -/
def planV (l1 l2 : Addr) (n : Nat) (kv : V) : List (Key × V) := [(.inr "fields", .ref l1), (.inr "calls", .ref l2), (.inr "modes", .int n), (.inr "known", kv)]
def PlanA (K : PySem.W.Frag) (KC : Addr) (H : Hp) (v : V) (fs : List FD) (n : Nat) (cs : List CD) : Prop := ∃ (p l1 l2 : Addr) (kv : V) (fvs cvs : List V), v = .ref p ∧ H p = some (.dK (planV l1 l2 n kv)) ∧ H l1 = some (.lst fvs) ∧ Al (FdT K H) fvs fs ∧ H l2 = some (.lst cvs) ∧ Al (CdL K H) cvs cs ∧
  KdA K KC H kv fs n cs
theorem PlanA.keep {K : PySem.W.Frag} {KC : Addr} {H H' : Hp} {v : V} {fs : List FD} {n : Nat} {cs : List CD} (e : Same H H') (h : PlanA K KC H v fs n cs) : PlanA K KC H' v fs n cs := by
  obtain ⟨p, l1, l2, kv, fvs, cvs, h0, h1, h2, h3, h4, h5, h6⟩ := h
  exact ⟨p, l1, l2, kv, fvs, cvs, h0, e _ _ h1, e _ _ h2, h3.mono fun _ _ h => FdT.keep e h, e _ _ h4, h5.mono fun _ _ h => CdL.keep e h, h6.keep e⟩
def spPlan (K : PySem.W.Frag) (KC : Addr) : Sp := fun vs H Q _ => ∃ (s l1 l2 : Addr) (n : Nat) (fvs cvs : List V) (fs : List FD) (cs : List CD), vs = [.ref l1, .ref l2, .int n] ∧ H s ≠ none ∧ Off s H l1 = some (.lst fvs) ∧ Al (FdT K (Off s H)) fvs fs ∧ Off s H l2 = some (.lst cvs) ∧ Al (CdL K (Off s H)) cvs cs ∧ KdOk fs n cs ∧
  ∀ v H', Same H H' → PlanA K KC (Off s H') v fs n cs → Q v H'
section
variable {P : Program} {w : World} {K : PySem.W.Frag} {mg : Str → Option Value} {base : Heap} {C : Cst} {KC : Addr}
theorem ok_plan {f : Addr} {fd : FuncData} (F : DefX K mg "_law_plan" s_plan ["_law_fields", "_law_calls", "_law_far"] f fd) (T : Txt K mg) (c_Kind : KMk P w K mg base KC) : Cal P w K mg base CX0 8 "_law_plan" (spPlan K KC) := by
  refine cal_mk F sc_plan (fun vs H Q E h => ?_) (fun cdv A outer sh H vs Q E hr h => ?_)
  · obtain ⟨s, l1, l2, n, fvs, cvs, fs, cs, rfl, _⟩ := h
    rfl
  · obtain ⟨s, l1, l2, n, fvs, cvs, fs, cs, rfl, hs, h1, hfs, h2, hcs, ok, k⟩ := h
    refine ⟨_, (pss_one (ps_ret (pe_disp (pps_cons pe_str (pv 0) (pps_cons pe_str (pv 1) (pps_cons pe_str (pv 2) (pps_cons pe_str (pe_kind c_Kind hr (by first | decide | assumption) rfl (pa_cons (pv 0) (pa_cons (pv 1) pa_nil)) (pk_cons (pv 2) pk_nil)) pps_nil)))) (by rfl) (by rfl) (fun z => by cases z) (by decide)))), ?_⟩
    intro p hp
    have e1 : Same H (upd H p (.dK [])) := same_new (Same.refl H) hp
    have ps : p ≠ s := ne_s hs (Same.refl H) hp
    have b1 := same_off (s := s) e1
    refine ⟨_, rfl, _, rfl, _, rfl, fun v H3 => Same (upd H p (.dK [])) H3 ∧ KdA K KC (Off s H3) v fs n cs, ⟨_, rfl, _, rfl, _, rfl, rfl, rfl, rd_kindM (s := s) (kept_s hs e1) (Ls.sq ⟨l1, rfl, b1 _ _ h1⟩) (hfs.mono fun _ _ h => FdT.a (FdT.keep b1 h)) (Ls.sq ⟨l2, rfl, b1 _ _ h2⟩) (hcs.mono fun _ _ h => CdL.a (CdL.keep b1 h)) ok⟩, ?_⟩
    rintro v H3 ⟨e3, kd⟩
    refine ⟨e3 _ _ upd_same, planV l1 l2 n v, rfl, by show 4 ≤ 15; decide, ?_⟩
    rw [show mergeK [] (planV l1 l2 n v) = planV l1 l2 n v from rfl]
    have pv := off_ne (s := s) (H := H3) ps
    have kd2 : KdA K KC (Off p (Off s H3)) v fs n cs := kd.off (pv.trans (e3 _ _ upd_same)) ok.fields.pos ok.cpos
    have b2 : Same (Off p (Off s H3)) (Off s (upd H3 p (.dK (planV l1 l2 n v)))) := by
      refine Same.trans (H1 := Off p (Off s (upd H3 p (.dK (planV l1 l2 n v))))) ?_ off_same
      rw [off_upd ps, off_put]
      exact fun _ _ h => h
    have b3 : Same (Off s H) (Off s (upd H3 p (.dK (planV l1 l2 n v)))) := by
      refine Same.trans (H1 := Off p (Off s H3)) (same_offN (same_off (e1.trans e3)) (off_none hp)) b2
    refine k _ _ (fun a o ha => ?_) ⟨p, l1, l2, v, fvs, cvs, rfl, ?_, b3 _ _ h1, hfs.mono fun _ _ h => FdT.keep b3 h, b3 _ _ h2, hcs.mono fun _ _ h => CdL.keep b3 h, kd2.keep b2⟩
    · rw [upd_ne (ne_of_none ha hp)]
      exact e3 _ _ (e1 _ _ ha)
    · rw [off_ne ps, upd_same]
end
end MK

set_option Elab.async false
set_option linter.all false
set_option autoImplicit false
set_option maxRecDepth 100000
set_option maxHeartbeats 4000000
namespace MK
open PySem PySem.Spec PyProof.Rows L2
local macro_rules | `(tactic| walk_at "x") => `(tactic| dsimp only [tSeq, tAsg, tRet, tDrop, tLst, tTup, tCons, tOp, tUn, tIfS])
/-! ### a drawn kind -/
abbrev s_kind : Stmt := topS 63
theorem sc_kind : FnScope ["_law_state", "_law_wide", "_law_many", "_law_far", "_law_fields", "_law_names", "_law_k", "_law_top", "_law_calls", "_law_name"] ["_law_state", "_law_wide", "_law_many", "_law_far"] (defScope s_kind) := ⟨rfl, rfl, rfl, by decide +kernel, rfl, by decide +kernel, by decide +kernel⟩
def fieldNames : List Str := ["a", "need", "many", "do", "quantity"]
def callNames : List Str := ["add", "put", "cut", "make", "jqzxvkgw"]
def spLawKind (K : PySem.W.Frag) (KC : Addr) : Sp := fun vs H Q _ => ∃ (s c : Addr) (ns : List Int) (wide many far : Nat), vs = [.ref s, .int wide, .int many, .int far] ∧ StA H s c ns ∧ ns.length ≤ 63 ∧ 1 ≤ wide ∧ wide ≤ 3 ∧ 2 ≤ many ∧ many ≤ 6 ∧ 1 ≤ far ∧ far ≤ 3 ∧
  ∀ v H' fs n cs, SameX s H H' → StA H' s c ns → KdOk fs n cs → fs.length ≤ wide → (∀ f ∈ fs, f.nm ∈ fieldNames) → n ≤ far → (∃ j, j < many ∧ cs.map (·.nm) = callNames.take j ++ (["build"] : List Str)) → (∃ cs' b, cs = cs' ++ [b] ∧ b.hand = ("last" : Str)) → PlanA K KC (Off s H') v fs n cs → Q v H'
section
variable {P : Program} {w : World} {K : PySem.W.Frag} {mg : Str → Option Value} {base : Heap} {C : Cst} {KC : Addr}
theorem ok_kind {f : Addr} {fd : FuncData} (F : DefX K mg "_law_kind" s_kind ["_law_state", "_law_wide", "_law_many", "_law_far"] f fd) (T : Txt K mg) (c_take : Cal P w K mg base CX0 2 "_law_take" spTake) (c_one : Cal P w K mg base CX0 3 "_law_one" (spOne K)) (c_mix : Cal P w K mg base CX0 3 "_law_mix" (spMix K))
    (c_call : Cal P w K mg base CX0 5 "_law_call" (spCall K)) (c_plan : Cal P w K mg base CX0 8 "_law_plan" (spPlan K KC)) : Cal P w K mg base CX0 9 "_law_kind" (spLawKind K KC) := by
  refine cal_mk F sc_kind (fun vs H Q E h => ?_) (fun cdv A outer sh H vs Q E hr h => ?_)
  · obtain ⟨s, c, ns, wide, many, far, rfl, _⟩ := h
    rfl
  · obtain ⟨s, c, ns, wide, many, far, rfl, h0, hl, w1, w3, m2, m6, f1, f3, k⟩ := h
    refine ⟨_, (pss_cons (ps_par (i := 4) (j := 5) (by rfl) sc_kind.nd rfl rfl (by decide) rfl rfl (pa_cons (pe_lst pa_nil) (pa_cons (pe_c c_mix hr (by first | decide | assumption) rfl (pa_cons (pv 0) (pa_cons (pe_lst (pa_cons pe_str (pa_cons pe_str (pa_cons pe_str (pa_cons pe_str (pa_cons pe_str pa_nil)))))) pa_nil))) pa_nil)) (by rfl))
(pss_cons (ps_for PassesOwn.never rfl (pi_range1 (by rfl) T.range (pa_cons (pe_op op_add pe_int (pe_c c_take hr (by first | decide | assumption) rfl (pa_cons (pv 0) (pa_cons (pv 1) pa_nil)))) pa_nil)) (pg_name (i := 6) sc_kind.nd rfl (Or.inl rfl))
(pss_one (ps_expr (pe_bm PySem.F.plainAttrs_list PySem.F.slot_list_append PySem.F.type_list_append mt_append (pv 4) (pa_cons (pe_tup (pa_cons (pe_ix ix_list (pv 5) (pv 6) (fun _ _ => rfl)) (pa_cons (pe_c c_one hr (by first | decide | assumption) rfl (pa_cons (pv 0) (pa_cons (pe_lst (pa_cons pe_str (pa_cons pe_str (pa_cons pe_str pa_nil)))) pa_nil))) (pa_cons (pe_cmpR op_eq (pe_c c_take hr (by first | decide | assumption) rfl (pa_cons (pv 0) (pa_cons pe_int pa_nil))) pe_int (nomark _)) pa_nil)))) pa_nil)))))
(pss_cons (ps_par (i := 7) (j := 8) (by rfl) sc_kind.nd rfl rfl (by decide) rfl rfl (pa_cons (pe_op op_add pe_int (pe_c c_take hr (by first | decide | assumption) rfl (pa_cons (pv 0) (pa_cons (pv 3) pa_nil)))) (pa_cons (pe_lst pa_nil) pa_nil)) (by rfl))
(pss_cons (ps_for PassesOwn.never rfl (pi_list (pe_slice sl_list (pe_lst (pa_cons pe_str (pa_cons pe_str (pa_cons pe_str (pa_cons pe_str (pa_cons pe_str pa_nil)))))) po_none (po_some (pe_op op_add pe_int (pe_c c_take hr (by first | decide | assumption) rfl (pa_cons (pv 0) (pa_cons (pe_op op_sub (pv 2) pe_int) pa_nil))))))) (pg_name (i := 9) sc_kind.nd rfl (Or.inl rfl))
(pss_one (ps_expr (pe_bm PySem.F.plainAttrs_list PySem.F.slot_list_append PySem.F.type_list_append mt_append (pv 8) (pa_cons (pe_c c_call hr (by first | decide | assumption) rfl (pa_cons (pv 0) (pa_cons (pv 9) (pa_cons (pe_c c_one hr (by first | decide | assumption) rfl (pa_cons (pv 0) (pa_cons (pe_lst (pa_cons pe_str (pa_cons pe_str (pa_cons pe_str (pa_cons pe_str (pa_cons pe_str pa_nil)))))) pa_nil))) (pa_cons (pv 4) (pa_cons (pv 7) pa_nil)))))) pa_nil)))))
(pss_cons (ps_expr (pe_bm PySem.F.plainAttrs_list PySem.F.slot_list_append PySem.F.type_list_append mt_append (pv 8) (pa_cons (pe_c c_call hr (by first | decide | assumption) rfl (pa_cons (pv 0) (pa_cons pe_str (pa_cons pe_str (pa_cons (pv 4) (pa_cons (pv 7) pa_nil)))))) pa_nil)))
(pss_one (ps_ret (pe_c c_plan hr (by first | decide | assumption) rfl (pa_cons (pv 4) (pa_cons (pv 8) (pa_cons (pv 7) pa_nil))))))))))), ?_⟩
    refine ⟨by show 0 ≤ sizeLine; decide, fun fa hfa => ?_⟩
    have e1 := same_new (Same.refl H) hfa (o := .lst [])
    have h1 := h0.keep e1
    obtain ⟨fas, fac⟩ := h0.ne hfa
    refine ⟨_, rfl, by show 5 ≤ sizeLine; decide, fun q hq => ?_⟩
    have e2 := same_new e1 hq (o := .lst (fieldNames.map V.str))
    have h2 := h0.keep e2
    refine ⟨s, c, q, ns, fieldNames, rfl, h2, hl, SqL.of upd_same, by decide, by decide +kernel, fun an ys H3 hp han hys e3 h3 => ⟨_, _, rfl, ?_⟩⟩
    have e03 : SameX s H H3 := (same_sx e2).trans e3
    have fq : fa ≠ q := fun e => by rw [← e, upd_same] at hq; cases hq
    have fan : fa ≠ an := fun e => by rw [← e, upd_ne fq, upd_same] at han; cases han
    have ans : an ≠ s := (h2.ne han).1
    have fa3 : H3 fa = some (.lst []) := e3 _ _ ((upd_ne fq).trans upd_same) fas
    -- the fields
    refine ⟨_, rfl, _, rfl, s, c, ns, wide, rfl, h3, hl, by omega, by omega, fun d H4 hd e4 h4 => ?_⟩
    refine ⟨_, _, rfl, rfl, _, rfl, by omega, by omega, ?_⟩
    refine for_it walk_range (fun i σ H2 => SameX s H H2 ∧ StA H2 s c ns ∧ H2 an = some (.lst (ys.map V.str)) ∧ ∃ (fs : List FD) (fvs : List V), H2 fa = some (.lst fvs) ∧ Al (FdT K (Off fa (Off s H2))) fvs fs ∧ fs.map (·.nm) = ys.take i ∧
      ∃ x6 x7 x8 x9, σ = [some (.ref s), some (.int wide), some (.int many), some (.int far), some (.ref fa), some (.ref an), x6, x7, x8, x9])
      ⟨e03.trans e4, h4, e4 _ _ hys ans, [], [], e4 _ _ fa3 fas, Al.nil, rfl, none, none, none, none, rfl⟩ (fun _ _ _ _ _ => trivial) ?_ ?_
    · rintro i x σ H5' H5 hi ⟨e5, h5, an5, fs, fvs, fa5, al, hnm, x6, x7, x8, x9, rfl⟩ ⟨rfl, rfl⟩
      have yl : ys.length = 5 := hp.length_eq
      have hi5 : i < 5 := by
        have : i < (1 + (d : Int)).toNat := hi
        omega
      have hiy : i < ys.length := by omega
      have fl : fs.length ≤ 5 := by
        have := congrArg List.length hnm
        rw [List.length_map, List.length_take] at this
        omega
      refine ⟨_, rfl, .inl ⟨rfl, _, SqL.of fa5⟩, _, rfl, _, rfl, an, _, _, .str ys[i], rfl, rfl, SqL.of an5, ?_, ?_⟩
      · rw [Int.zero_add]
        exact atI_nat (by rw [List.getElem?_map, List.getElem?_eq_getElem hiy]; rfl)
      refine ⟨_, rfl, by show 3 ≤ sizeLine; decide, fun q2 hq2 => ?_⟩
      have e6 := same_new (Same.refl H5) hq2 (o := .lst [.str "many", .str "many", .str "one"])
      refine ⟨s, c, q2, ns, _, rfl, h5.keep e6, hl, (h5.ne hq2).1, .inl (SqL.of upd_same), by decide, by decide, fun d2 v H7 hd7 e7 h7 => ?_⟩
      obtain ⟨b, rfl⟩ : ∃ b : Bool, v = .str (sortS b) := by
        have m := List.mem_of_getElem? hd7
        simp only [List.mem_cons, List.not_mem_nil, or_false] at m
        rcases m with rfl | rfl | rfl
        · exact ⟨true, rfl⟩
        · exact ⟨true, rfl⟩
        · exact ⟨false, rfl⟩
      refine ⟨_, rfl, s, c, ns, 2, rfl, h7, hl, by decide, by decide, fun d3 H8 _ e8 h8 => ⟨rfl, ?_⟩⟩
      refine ⟨by show 3 ≤ sizeLine; decide, fun p hp8 => ?_⟩
      have e58 : SameX s H5 H8 := ((same_sx e6).trans e7).trans e8
      have fa8 := e58 _ _ fa5 fas
      have ps := (h8.ne hp8).1
      have pfa : p ≠ fa := fun e => by rw [e, fa8] at hp8; cases hp8
      have pan : p ≠ an := fun e => by rw [e, e58 _ _ an5 ans] at hp8; cases hp8
      refine ⟨fa, _, _, rfl, rfl, (upd_ne (Ne.symm pfa)).trans fa8, by rw [al.1]; exact Nat.lt_of_le_of_lt fl (by decide), ?_⟩
      refine ⟨((e5.trans e58).trans (same_sx (same_new (Same.refl H8) hp8))).putN hfa, (h8.keep (same_new (Same.refl H8) hp8)).put fas fac, ?_, fs ++ [⟨ys[i], b, decide (V.int d3 = V.int 0)⟩], _, upd_same, ?_, ?_, _, _, _, _, rfl⟩
      · rw [upd_ne (Ne.symm fan), upd_ne (Ne.symm pan)]
        exact e58 _ _ an5 ans
      · rw [off_upd fas, off_put]
        have e9 : Same (Off fa (Off s H5)) (Off fa (Off s (upd H8 p (.tup [.str ys[i], .str (sortS b), .bl (decide (V.int d3 = V.int 0))])))) := same_off ((e58.trans (same_sx (same_new (Same.refl H8) hp8))).off)
        exact (al.mono fun _ _ h => FdT.keep e9 h).snoc (Tu.tup (by rw [off_ne pfa, off_ne ps, upd_same]; rfl))
      · rw [List.map_append, hnm, List.take_succ, List.getElem?_eq_getElem hiy]
        rfl
    rintro σ H5 ⟨e5, h5, _, fs, fvs, fa5, al, hnm, x6, x7, x8, x9, rfl⟩
    have yl : ys.length = 5 := hp.length_eq
    have dl : d < 3 := by omega
    have fsl : fs.length = d + 1 := by
      have := congrArg List.length hnm
      rw [List.length_map, List.length_take] at this
      omega
    have ynd : ys.Nodup := hp.nodup_iff.mpr (by decide +kernel)
    have hfn : ∀ f ∈ fs, f.nm ∈ fieldNames := fun f hf => by
      have m : f.nm ∈ fs.map (·.nm) := List.mem_map_of_mem hf
      rw [hnm] at m
      exact hp.mem_iff.mp (List.mem_of_mem_take m)
    have fok : FsOk fs := ⟨by omega, by omega, fun f hf => (by decide +kernel : ∀ z ∈ fieldNames, wordB z = true) _ (hfn f hf), by rw [hnm]; exact ynd.sublist (List.take_sublist _ _)⟩
    have al5 : Al (FdT K (Off s H5)) fvs fs := al.mono fun _ _ h => FdT.keep off_same h
    refine ⟨_, rfl, _, rfl, s, c, ns, far, rfl, h5, hl, by omega, by omega, fun d2 H6 hd2 e6 h6 => ⟨_, _, rfl, rfl, by show 0 ≤ sizeLine; decide, fun ca hca => ⟨_, _, rfl, ?_⟩⟩⟩
    obtain ⟨cas, cac⟩ := h6.ne hca
    have e7 := same_new (Same.refl H6) hca (o := .lst [])
    -- the calls
    refine ⟨by show 5 ≤ sizeLine; decide, fun q3 hq3 => ?_⟩
    have e8 := same_new e7 hq3 (o := .lst (callNames.map V.str))
    refine ⟨_, rfl, _, rfl, _, _, rfl, rfl, s, c, ns, (many : Int) - 1, rfl, h6.keep e8, hl, by omega, by omega, fun d4 H9 hd4 e9 h9 => ?_⟩
    have e79 : SameX s H6 H9 := (same_sx e8).trans e9
    have caq : ca ≠ q3 := fun e => by rw [← e, upd_same] at hq3; cases hq3
    have ca9 : H9 ca = some (.lst []) := e9 _ _ ((upd_ne caq).trans upd_same) cas
    have qs : q3 ≠ s := ((h6.keep e7).ne hq3).1
    refine ⟨_, _, rfl, rfl, _, rfl, q3, _, rfl, SqL.of (e9 _ _ upd_same qs), fun q4 hq4 => ?_⟩
    obtain ⟨q4s, q4c⟩ := h9.ne hq4
    have ca4 : ca ≠ q4 := fun e => by rw [← e, ca9] at hq4; cases hq4
    have cut : cutV (callNames.map V.str) none (some (1 + (d4 : Int))) = (callNames.take (d4 + 1)).map V.str := by
      have e : HT.sIx (callNames.map V.str).length (callNames.map V.str).length (some (1 + (d4 : Int))) = min (1 + d4) (callNames.map V.str).length := by
        rw [show (1 + (d4 : Int)) = ((1 + d4 : Nat) : Int) by omega]
        exact HT.sIx_nat _ _ _
      unfold cutV
      rw [HT.sIx_none, e, List.drop_zero, Nat.sub_zero, show min (1 + d4) (callNames.map V.str).length = d4 + 1 from (by show min (1 + d4) 5 = d4 + 1; omega), List.map_take]
    have e10 : Same H9 (upd H9 q4 (.lst (cutV (callNames.map V.str) none (some (1 + (d4 : Int)))))) := same_new (Same.refl H9) hq4
    have e610 := e79.trans (same_sx e10)
    have e510 := e6.trans e610
    refine ⟨q4, rfl, ⟨_, SqL.of upd_same⟩, ?_⟩
    refine for_list (K := K) (a := q4) (xs := (callNames.take (d4 + 1)).map V.str) (fun i σ H2 => SameX s H5 H2 ∧ StA H2 s c ns ∧ H2 q4 = some (.lst ((callNames.take (d4 + 1)).map V.str)) ∧ ∃ (cs : List CD) (cvs : List V), H2 ca = some (.lst cvs) ∧
      Al (CdL K (Off ca (Off s H2))) cvs cs ∧ (∀ c ∈ cs, CdOk fs (d2 + 1) c) ∧ cs.map (·.nm) = (callNames.take (d4 + 1)).take i ∧ ∃ x6 x9, σ = [some (.ref s), some (.int wide), some (.int many), some (.int far), some (.ref fa), some (.ref an), x6, some (.int ((d2 + 1 : Nat) : Int)), some (.ref ca), x9])
      ⟨e510, h9.keep e10, (by rw [upd_same]; exact congrArg (fun l => some (HO.lst l)) cut), [], [], (upd_ne ca4).trans ca9, Al.nil, nofun, rfl, _, _, (by rw [show ((d2 + 1 : Nat) : Int) = 1 + (d2 : Int) by omega]; rfl)⟩ (fun i σ H2 _ h => SqL.of h.2.2.1) ?_ ?_
    · rintro i x σ H2 hx' ⟨e2, h2, q42, cs, cvs, ca2, al, cok, hnm, x6, x9, rfl⟩
      rw [List.getElem?_map] at hx'
      obtain ⟨z, hz, rfl⟩ := Option.map_eq_some_iff.mp hx'
      have zm : z ∈ callNames := List.mem_of_mem_take (List.mem_of_getElem? hz)
      have cl : cs.length ≤ 5 := by
        have := congrArg List.length hnm
        rw [List.length_map, List.length_take, List.length_take] at this
        have : callNames.length = 5 := rfl
        omega
      refine ⟨_, rfl, .inl ⟨rfl, _, SqL.of ca2⟩, _, rfl, _, rfl, _, rfl, by show 5 ≤ sizeLine; decide, fun q5 hq5 => ?_⟩
      have e3 := same_new (Same.refl H2) hq5 (o := .lst [.str "self", .str "new", .str "self", .str "new", .str "last"])
      refine ⟨s, c, q5, ns, _, rfl, h2.keep e3, hl, (h2.ne hq5).1, .inl (SqL.of upd_same), by decide, by decide, fun d5 v Ha hda ea ha => ?_⟩
      obtain ⟨hd, rfl, hhd⟩ : ∃ hd : Str, v = .str hd ∧ (hd = "self" ∨ hd = "new" ∨ hd = "last") := by
        have m := List.mem_of_getElem? hda
        simp only [List.mem_cons, List.not_mem_nil, or_false] at m
        rcases m with rfl | rfl | rfl | rfl | rfl
        · exact ⟨_, rfl, .inl rfl⟩
        · exact ⟨_, rfl, .inr (.inl rfl)⟩
        · exact ⟨_, rfl, .inl rfl⟩
        · exact ⟨_, rfl, .inr (.inl rfl)⟩
        · exact ⟨_, rfl, .inr (.inr rfl)⟩
      have e2a : SameX s H2 Ha := (same_sx e3).trans ea
      have e5a := e2.trans e2a
      have caa := e2a _ _ ca2 cas
      refine ⟨_, rfl, _, rfl, s, c, fa, ns, z, hd, d2 + 1, fvs, fs, rfl, ha, hl, ?_, al5.mono fun _ _ h => FdT.keep e5a.off h, by omega, by omega, fok.nd, by omega, by omega, (by decide +kernel : ∀ z ∈ callNames, wordB z = true) z zm, hhd, fun v cd Hb cn ch cdn cdok eb hb => ?_⟩
      · rw [off_ne fas]
        exact e5a _ _ fa5 fas
      have cab := eb _ _ caa cas
      have e2b := e2a.trans eb
      refine ⟨ca, cvs, v, rfl, rfl, cab, by rw [al.1]; exact Nat.lt_of_le_of_lt cl (by decide), ?_⟩
      have q4ca : q4 ≠ ca := Ne.symm ca4
      refine ⟨(e2.trans e2b).putN (noneX e6 cas hca), hb.put cas cac, (upd_ne q4ca).trans (e2b _ _ q42 q4s), cs ++ [cd], cvs ++ [v], upd_same, ?_, ?_, ?_, _, _, rfl⟩
      · rw [off_upd cas, off_put]
        exact (al.mono fun _ _ h => CdL.keep (same_off e2b.off) h).snoc (cdn.off (caa) ((off_ne cas).trans cab)).l
      · intro c' hc'
        rcases List.mem_append.mp hc' with h | h
        · exact cok c' h
        · rw [List.mem_singleton.mp h]
          exact cdok
      · rw [List.map_append, hnm, List.take_succ (i := i), hz, ← cn]
        rfl
    · rintro σ H2 ⟨e2, h2, q42, cs, cvs, ca2, al, cok, hnm, x6, x9, rfl⟩
      rw [List.length_map, List.take_length] at hnm
      have jl : (callNames.take (d4 + 1)).length = d4 + 1 := by
        rw [List.length_take]
        show min (d4 + 1) 5 = d4 + 1
        omega
      have cl : cs.length = d4 + 1 := by
        have := congrArg List.length hnm
        rw [List.length_map, jl] at this
        exact this
      refine ⟨_, rfl, .inl ⟨rfl, _, SqL.of ca2⟩, _, rfl, _, rfl, _, rfl, s, c, fa, ns, "build", "last", d2 + 1, fvs, fs, rfl, h2, hl, ?_, al5.mono fun _ _ h => FdT.keep e2.off h, by omega, by omega, fok.nd, by omega, by omega, by decide +kernel, .inr (.inr rfl), fun v cd Hb cn ch cdn cdok eb hb => ?_⟩
      · rw [off_ne fas]
        exact e2 _ _ fa5 fas
      have cab := eb _ _ ca2 cas
      refine ⟨ca, cvs, v, rfl, rfl, cab, by rw [al.1, cl]; exact Nat.lt_of_le_of_lt (by omega : _ ≤ 6) (by decide), ?_⟩
      have faca : fa ≠ ca := fun e => by
        have := noneX e6 cas hca
        rw [← e, fa5] at this
        cases this
      have e5b := e2.trans eb
      have e5c : SameX s H5 (upd Hb ca (.lst (cvs ++ [v]))) := e5b.putN (noneX e6 cas hca)
      have hc := hb.put (o := .lst (cvs ++ [v])) cas cac
      have hsc : upd Hb ca (.lst (cvs ++ [v])) s ≠ none := by
        obtain ⟨_, _, _, _, _, e⟩ := hc
        rw [e]
        exact nofun
      have alc : Al (CdL K (Off s (upd Hb ca (.lst (cvs ++ [v]))))) (cvs ++ [v]) (cs ++ [cd]) := by
        have : Al (CdL K (Off ca (Off s (upd Hb ca (.lst (cvs ++ [v])))))) (cvs ++ [v]) (cs ++ [cd]) := by
          rw [off_upd cas, off_put]
          exact (al.mono fun _ _ h => CdL.keep (same_off eb.off) h).snoc (cdn.off ca2 ((off_ne cas).trans cab)).l
        exact this.mono fun _ _ h => CdL.keep off_same h
      have nms : (cs ++ [cd]).map (·.nm) = callNames.take (d4 + 1) ++ (["build"] : List Str) := by
        rw [List.map_append, hnm, ← cn]
        rfl
      have kok : KdOk fs (d2 + 1) (cs ++ [cd]) := by
        refine ⟨fok, by omega, by omega, by rw [List.length_append]; exact Nat.le_add_left .., by rw [List.length_append, cl]; show d4 + 1 + 1 ≤ 6; omega, fun c' hc' => ?_, ?_⟩
        · rcases List.mem_append.mp hc' with h | h
          · exact cok c' h
          · rw [List.mem_singleton.mp h]
            exact cdok
        · rw [nms]
          exact ((by decide +kernel : (callNames ++ (["build"] : List Str)).Nodup)).sublist ((List.take_sublist _ _).append (List.Sublist.refl _))
      refine ⟨_, rfl, _, rfl, _, rfl, s, fa, ca, d2 + 1, fvs, cvs ++ [v], fs, cs ++ [cd], rfl, hsc, ?_, al5.mono fun _ _ h => FdT.keep e5c.off h, ?_, alc, kok, fun v' H' e' pa => ?_⟩
      · rw [off_ne fas]
        exact e5c _ _ fa5 fas
      · rw [off_ne cas, upd_same]
      · exact k v' H' fs (d2 + 1) (cs ++ [cd]) ((e5.trans e5c).trans (same_sx e')) (hc.keep e') kok (by omega) hfn (by omega) ⟨d4 + 1, by omega, nms⟩ ⟨cs, cd, rfl, ch⟩ pa
end
end MK

set_option Elab.async false
set_option linter.all false
set_option autoImplicit false
set_option maxRecDepth 100000
set_option maxHeartbeats 4000000
namespace MK
open PySem PySem.Spec PyProof.Rows L2
local macro_rules | `(tactic| walk_at "x") => `(tactic| dsimp only [tSeq, tAsg, tRet, tDrop, tLst, tTup, tCons, tOp, tUn, tIfS])
/-! ### _law_same -/
abbrev s_same : Stmt := topS 59
theorem sc_same : FnScope ["_law_found", "_law_due", "_law_a", "_law_b"] ["_law_found", "_law_due"] (defScope s_same) := ⟨rfl, rfl, rfl, by decide +kernel, rfl, by decide +kernel, by decide +kernel⟩
def spSame (K : PySem.W.Frag) (n : Nat) : Sp := fun vs H Q _ => ∃ x y, vs = [x, y] ∧ Sm K H n x y ∧ ∀ H', Same H H' → Q (.bl true) H'
section
variable {P : Program} {w : World} {K : PySem.W.Frag} {mg : Str → Option Value} {base : Heap}
theorem ty2 {P1 P2 : Prop} (a : P1) (b : P2) : P1 ∧ P2 := ⟨a, b⟩
theorem any2 {t a b : String} {r1 r2 : Bool} (h1 : kitB t a = some r1) (h2 : kitB t b = some r2) : PySem.W.kitAny K (.type t) [.type a, .type b] = some (r1 || r2) := by
  refine kitAny_cons (kit_ty h1) (fun e => ?_) (fun e => by rw [e]; rfl)
  refine kitAny_cons (kit_ty h2) (fun e2 => ?_) (fun e2 => by rw [e2, Bool.or_true])
  rw [e, e2]
  rfl
theorem any4 {t a b c d : String} (h1 : kitB t a = some false) (h2 : kitB t b = some false) (h3 : kitB t c = some false) (h4 : kitB t d = some false) : PySem.W.kitAny K (.type t) [.type a, .type b, .type c, .type d] = some false :=
  kitAny_cons (kit_ty h1) (fun _ => kitAny_cons (kit_ty h2) (fun _ => kitAny_cons (kit_ty h3) (fun _ => kitAny_cons (kit_ty h4) (fun _ => rfl) nofun) nofun) nofun) nofun
/-- what the last rows of it see of flat things -/
structure FlatT (K : PySem.W.Frag) (H : Hp) (x y : V) (t : String) : Prop where
  tx : TyX K H x (.type t)
  ty : TyX K H y (.type t)
  l : kitB t "list" = some false
  u : kitB t "tuple" = some false
  i : (kitB t "int" = some false ∧ kitB t "bool" = some false) ∨ (kitB t "int" = some true ∧ ∃ b, kitB t "bool" = some b)
  eq : ∀ H', Same H H' → ∀ Q : VK, Q (.bl true) H' → (rEq x y H' Q ∨ ∃ a b kvs, x = .ref a ∧ y = .ref b ∧ H' a = some (.dK kvs) ∧ H' b = some (.dK kvs) ∧ (kvs.map (·.1)).Nodup ∧ (∀ p ∈ kvs, flatB p.2 = true) ∧ Q (.bl true) H')
theorem eq_refl {x : V} {H : Hp} {Q : VK} (h : scal x x = true) (q : Q (.bl true) H) : rEq x x H Q := ⟨h, by rw [decide_eq_true rfl]; exact q⟩
theorem flat_t {H : Hp} {x y : V} (h : Flat H x y) : ∃ t, FlatT K H x y t := by
  rcases h with ⟨rfl, h⟩ | ⟨a, b, kvs, rfl, rfl, ha, hb, hd, hv⟩
  · rcases h with rfl | ⟨b, rfl⟩ | ⟨i, rfl⟩ | ⟨z, rfl⟩
    · exact ⟨"NoneType", .base .non, .base .non, by decide +kernel, by decide +kernel, .inl ⟨by decide +kernel, by decide +kernel⟩, fun H' _ Q q => .inl (eq_refl rfl q)⟩
    · exact ⟨"bool", .base (.bl b), .base (.bl b), by decide +kernel, by decide +kernel, .inr ⟨by decide +kernel, true, by decide +kernel⟩, fun H' _ Q q => .inl (eq_refl rfl q)⟩
    · exact ⟨"int", .base (.int i), .base (.int i), by decide +kernel, by decide +kernel, .inr ⟨by decide +kernel, false, by decide +kernel⟩, fun H' _ Q q => .inl (eq_refl rfl q)⟩
    · exact ⟨"str", .base (.str z), .base (.str z), by decide +kernel, by decide +kernel, .inl ⟨by decide +kernel, by decide +kernel⟩, fun H' _ Q q => .inl (eq_refl rfl q)⟩
  · exact ⟨"dict", .base (.dK ha), .base (.dK hb), by decide +kernel, by decide +kernel, .inl ⟨by decide +kernel, by decide +kernel⟩, fun H' e Q q => .inr ⟨a, b, kvs, rfl, rfl, e _ _ ha, e _ _ hb, hd, hv, q⟩⟩
theorem ok_same0 {f : Addr} {fd : FuncData} (F : DefX K mg "_law_same" s_same ["_law_found", "_law_due"] f fd) (T : Txt K mg) (n k : Nat) (sp' : Sp) (c_same : Cal P w K mg base CX0 k "_law_same" sp') (hk : k ≤ n) (hsp : ∀ m, n = m + 1 → sp' = spSame K m) :
    Cal P w K mg base CX0 (n + 1) "_law_same" (spSame K n) := by
  refine cal_mk F sc_same (fun vs H Q E h => ?_) (fun cdv A outer s H vs Q E hr h => ?_)
  · obtain ⟨x, y, rfl, _⟩ := h
    rfl
  · obtain ⟨x, y, rfl, h, q⟩ := h
    refine ⟨_, (pss_cons (ps_if (pt_val (pe_callB call_isiT (by rfl) T.isinstance (by decide +kernel) (pa_cons (pv 1) (pa_cons (pe_tup (pa_cons (pe_tyv (n := "list") (by rfl) T.list (by decide +kernel)) (pa_cons (pe_tyv (n := "tuple") (by rfl) T.tuple (by decide +kernel)) pa_nil))) pa_nil))))
(pss_cons (ps_if (pt_cut (PW.pt (pw_or (pt_cmpR op_ne (pe_callB call_isi (by rfl) T.isinstance (by decide +kernel) (pa_cons (pv 0) (pa_cons (pe_tyv (n := "list") (by rfl) T.list (by decide +kernel)) pa_nil))) (pe_callB call_isi (by rfl) T.isinstance (by decide +kernel) (pa_cons (pv 1) (pa_cons (pe_tyv (n := "list") (by rfl) T.list (by decide +kernel)) pa_nil))) (nomark _)) (pw_or1 (pt_cmpR op_ne (pe_callB call_isi (by rfl) T.isinstance (by decide +kernel) (pa_cons (pv 0) (pa_cons (pe_tyv (n := "tuple") (by rfl) T.tuple (by decide +kernel)) pa_nil))) (pe_callB call_isi (by rfl) T.isinstance (by decide +kernel) (pa_cons (pv 1) (pa_cons (pe_tyv (n := "tuple") (by rfl) T.tuple (by decide +kernel)) pa_nil))) (nomark _))))))
(pss_one (ps_ret pe_bl))
pss_nil)
(pss_one (ps_ret (pe_cut (pe_and (pe_cmpR op_eq (pe_callB call_len_seq (by rfl) T.len (by decide +kernel) (pa_cons (pv 0) pa_nil)) (pe_callB call_len_seq (by rfl) T.len (by decide +kernel) (pa_cons (pv 1) pa_nil)) (nomark _)) (pe_one (pe_callB (cr_all rfl) (by rfl) T.all (by decide +kernel) (pa_cons (pe_lc (own := [("_law_a", 2), ("_law_b", 3)]) (g := (gTup K 2 (gCons (gName 2) (gCons (gName 3) gNil)))) (tt := tYes) rfl sc_same.nd (RZ.pi_zipA (by rfl) T.zip (pa_cons (pv 0) (pa_cons (pv 1) pa_nil))) (blkOk_by (own := [("_law_a", 2), ("_law_b", 3)]) (N := ["_law_found", "_law_due", "_law_a", "_law_b"]) (sc := defScope s_same) (by decide +kernel)) (fun _ _ _ _ _ => (pg_tup (by rfl) (pgs_cons (pg_name (i := 2) sc_same.nd rfl (Or.inl rfl)) (pgs_cons (pg_name (i := 3) sc_same.nd rfl (Or.inl rfl)) pgs_nil)))) (fun _ _ _ _ _ => pts_nil) (fun _ _ _ _ _ => (pe_c c_same hr (by first | decide | assumption) rfl (pa_cons (pv 2) (pa_cons (pv 3) pa_nil))))) pa_nil))))))))
pss_nil)
(pss_cons (ps_if (pt_val (pe_callB call_isi (by rfl) T.isinstance (by decide +kernel) (pa_cons (pv 1) (pa_cons (pe_tyv (n := "int") (by rfl) T.int (by decide +kernel)) pa_nil))))
(pss_one (ps_ret (pe_cut (pe_and (pe_callB call_isi (by rfl) T.isinstance (by decide +kernel) (pa_cons (pv 0) (pa_cons (pe_tyv (n := "int") (by rfl) T.int (by decide +kernel)) pa_nil))) (pe_and (pe_cmpR op_eq (pe_callB call_isi (by rfl) T.isinstance (by decide +kernel) (pa_cons (pv 0) (pa_cons (pe_tyv (n := "bool") (by rfl) T.bool (by decide +kernel)) pa_nil))) (pe_callB call_isi (by rfl) T.isinstance (by decide +kernel) (pa_cons (pv 1) (pa_cons (pe_tyv (n := "bool") (by rfl) T.bool (by decide +kernel)) pa_nil))) (nomark _)) (pe_one (pe_cmpR (OpR.or op_eq (op_eq_dict hr.units0)) (pv 0) (pv 1) (nomark _))))))))
pss_nil)
(pss_one (ps_ret (pe_cut (pe_and (pe_cmpR op_is_bl (pe_callB call_isiT (by rfl) T.isinstance (by decide +kernel) (pa_cons (pv 0) (pa_cons (pe_tup (pa_cons (pe_tyv (n := "bool") (by rfl) T.bool (by decide +kernel)) (pa_cons (pe_tyv (n := "int") (by rfl) T.int (by decide +kernel)) (pa_cons (pe_tyv (n := "list") (by rfl) T.list (by decide +kernel)) (pa_cons (pe_tyv (n := "tuple") (by rfl) T.tuple (by decide +kernel)) pa_nil))))) pa_nil))) pe_bl (nomark _)) (pe_one (pe_cmpR (OpR.or op_eq (op_eq_dict hr.units0)) (pv 0) (pv 1) (nomark _))))))))), ?_⟩
    have spl : Flat H x y ∨ ∃ m, n = m + 1 ∧ ∃ a b xs ys, x = V.ref a ∧ y = V.ref b ∧ ((SqL K H a xs ∧ SqL K H b ys) ∨ (SqT K H a xs ∧ SqT K H b ys)) ∧ xs.length = ys.length ∧ xs.length < 100000 ∧ ∀ (i : Nat) x y, xs[i]? = some x → ys[i]? = some y → Sm K H m x y := by
      cases n with
      | zero => exact .inl h
      | succ m =>
        rcases h with h | h
        · exact .inl h
        · exact .inr ⟨m, rfl, h⟩
    refine ⟨_, rfl, by show 2 ≤ sizeLine; decide, fun p hp => ?_⟩
    have e1 : Same H (upd H p (.tup [.ty "list", .ty "tuple"])) := same_new (Same.refl H) hp
    rcases spl with hf | ⟨m, hn, a, b, xs, ys, rfl, rfl, hs, hl, hz, hi⟩
    · obtain ⟨t, ft⟩ := flat_t (K := K) hf
      refine ⟨_, p, _, _, _, false, rfl, upd_same, .cons (.ty _) (.cons (.ty _) .nil), tyx_keep e1 ft.ty, any2 ft.l ft.u, false, rfl, iteF ?_⟩
      rcases ft.i with ⟨hi, hb⟩ | ⟨hi, bb, hb⟩
      · refine ⟨_, rfl, _, _, _, _, false, rfl, .ty _, tyx_keep e1 ft.ty, kit_ty hi, false, rfl, iteF ?_⟩
        refine ⟨fun v H2 => v = .bl true ∧ Same H H2, ?_, fun v H2 e => by rw [e.1]; exact q _ e.2⟩
        refine ⟨_, rfl, by show 4 ≤ sizeLine; decide, fun p2 hp2 => ?_⟩
        have e2 := same_new e1 hp2 (o := .tup [.ty "bool", .ty "int", .ty "list", .ty "tuple"])
        refine ⟨_, p2, _, _, _, false, rfl, upd_same, .cons (.ty _) (.cons (.ty _) (.cons (.ty _) (.cons (.ty _) .nil))), tyx_keep e2 ft.tx, any4 hb hi ft.l ft.u, _, _, rfl, rfl, _, rfl, iteT ?_⟩
        exact ⟨_, rfl, _, rfl, ft.eq _ e2 _ ⟨rfl, e2⟩⟩
      · refine ⟨_, rfl, _, _, _, _, true, rfl, .ty _, tyx_keep e1 ft.ty, kit_ty hi, true, rfl, iteT ?_⟩
        refine ⟨fun v H2 => v = .bl true ∧ Same H H2, ?_, fun v H2 e => by rw [e.1]; exact q _ e.2⟩
        refine ⟨_, rfl, _, _, _, _, true, rfl, .ty _, tyx_keep e1 ft.tx, kit_ty hi, true, rfl, iteT ?_⟩
        refine ⟨_, rfl, _, _, _, _, bb, rfl, .ty _, tyx_keep e1 ft.tx, kit_ty hb, _, rfl, _, _, _, _, bb, rfl, .ty _, tyx_keep e1 ft.ty, kit_ty hb, rfl, _, rfl, ?_⟩
        rw [decide_eq_true rfl]
        exact iteT ⟨_, rfl, _, rfl, ft.eq _ e1 _ ⟨rfl, e1⟩⟩
    · have hsp := hsp m hn
      subst hsp
      obtain ⟨t, tx, ty, h1, bl, bu⟩ : ∃ t, TyX K H (.ref a) (.type t) ∧ TyX K H (.ref b) (.type t) ∧ (∀ r1 r2, kitB t "list" = some r1 → kitB t "tuple" = some r2 → (r1 || r2) = true) ∧ (∃ r1, kitB t "list" = some r1) ∧ ∃ r2, kitB t "tuple" = some r2 := by
        rcases hs with ⟨h1, h2⟩ | ⟨h1, h2⟩
        · refine ⟨"list", tyx_l h1, tyx_l h2, fun r1 r2 q1 q2 => ?_, ⟨true, by decide +kernel⟩, ⟨false, by decide +kernel⟩⟩
          have z : kitB "list" "list" = some true := by decide +kernel
          rw [z] at q1
          cases q1
          rfl
        · refine ⟨"tuple", tyx_t h1, tyx_t h2, fun r1 r2 q1 q2 => ?_, ⟨false, by decide +kernel⟩, ⟨true, by decide +kernel⟩⟩
          have z : kitB "tuple" "tuple" = some true := by decide +kernel
          rw [z] at q2
          cases q2
          rw [Bool.or_true]
      obtain ⟨r1, b1⟩ := bl
      obtain ⟨r2, b2⟩ := bu
      refine ⟨_, p, _, _, _, true, rfl, upd_same, .cons (.ty _) (.cons (.ty _) .nil), tyx_keep e1 ty, by rw [← h1 r1 r2 b1 b2]; exact any2 b1 b2, true, rfl, iteT ?_⟩
      -- of the same kinds
      refine ⟨fun t H2 => t = false ∧ H2 = upd H p (.tup [.ty "list", .ty "tuple"]), ?_, ?_⟩
      · refine ⟨_, rfl, _, _, _, _, r1, rfl, .ty _, tyx_keep e1 tx, kit_ty b1, _, rfl, _, _, _, _, r1, rfl, .ty _, tyx_keep e1 ty, kit_ty b1, rfl, _, rfl, ?_⟩
        rw [decide_eq_true rfl]
        refine iteF ?_
        refine ⟨_, rfl, _, _, _, _, r2, rfl, .ty _, tyx_keep e1 tx, kit_ty b2, _, rfl, _, _, _, _, r2, rfl, .ty _, tyx_keep e1 ty, kit_ty b2, rfl, _, rfl, ?_⟩
        rw [decide_eq_true rfl]
        exact ⟨rfl, rfl⟩
      rintro _ _ ⟨rfl, rfl⟩
      refine iteF ?_
      have hs1 : (SqL K (upd H p (.tup [.ty "list", .ty "tuple"])) a xs ∧ SqL K (upd H p (.tup [.ty "list", .ty "tuple"])) b ys) ∨ (SqT K (upd H p (.tup [.ty "list", .ty "tuple"])) a xs ∧ SqT K (upd H p (.tup [.ty "list", .ty "tuple"])) b ys) := by
        rcases hs with ⟨q1, q2⟩ | ⟨q1, q2⟩
        · exact .inl ⟨e1.seq q1, e1.seq q2⟩
        · exact .inr ⟨same_t e1 q1, same_t e1 q2⟩
      refine ⟨fun v H2 => v = .bl true ∧ Same H H2, ?_, fun v H2 e => by rw [e.1]; exact q _ e.2⟩
      refine ⟨_, rfl, a, xs, rfl, hs1.imp (·.1) (·.1), _, rfl, b, ys, rfl, hs1.imp (·.2) (·.2), rfl, _, rfl, ?_⟩
      rw [hl, decide_eq_true rfl]
      refine iteT ?_
      have kp : ∀ H2 : Hp, Same H H2 → (SqL K H2 a xs ∧ SqL K H2 b ys) ∨ (SqT K H2 a xs ∧ SqT K H2 b ys) := fun H2 e => by
        rcases hs with ⟨q1, q2⟩ | ⟨q1, q2⟩
        · exact .inl ⟨e.seq q1, e.seq q2⟩
        · exact .inr ⟨same_t e q1, same_t e q2⟩
      rcases hs with ⟨q1, q2⟩ | ⟨q1, q2⟩
      all_goals
        refine ⟨_, rfl, _, rfl, a, b, xs, ys, rfl, ?_⟩
        first
          | refine .inl ⟨e1.seq q1, e1.seq q2, fun D hD => lc_it (walk_zip (n := xs.length) (by omega)) (fun i H2 => Same H H2 ∧ H D = none ∧ H2 D = some (.lst (List.replicate i (.bl true)))) ⟨same_new e1 hD, (upd_none hD).2, upd_same⟩ (fun i H2 _ e => ⟨e.1.seq q1, e.1.seq q2⟩) ?_ ?_⟩
          | refine .inr ⟨same_t e1 q1, same_t e1 q2, fun D hD => lc_it (walk_zipT (n := xs.length) (by omega)) (fun i H2 => Same H H2 ∧ H D = none ∧ H2 D = some (.lst (List.replicate i (.bl true)))) ⟨same_new e1 hD, (upd_none hD).2, upd_same⟩ (fun i H2 _ e => ⟨same_t e.1 q1, same_t e.1 q2⟩) ?_ ?_⟩
        · rintro i v H2 H3 hlt ⟨e2, d0, d2⟩ ⟨U, x', y', rfl, hU, rfl, hx, hy⟩
          refine ⟨U, _, rfl, SqT.of upd_same, rfl, _, _, rfl, _, _, rfl, rfl, rfl, ?_⟩
          have e3 := same_new e2 hU (o := .tup [x', y'])
          have ud : U ≠ D := fun z => by rw [z, d2] at hU; cases hU
          refine ⟨_, rfl, _, rfl, x', y', rfl, (hi i x' y' hx hy).keep e3, fun H4 e4 => ⟨List.replicate i (.bl true), e4 _ _ ((upd_ne ud.symm).trans d2), by rw [List.length_replicate, sizeLine_eq]; omega, fun c o hc => ?_, d0, ?_⟩⟩
          · have dc : c ≠ D := fun z => by rw [z, d0] at hc; cases hc
            rw [upd_ne dc]
            exact e4 _ _ (e3 _ _ hc)
          · rw [upd_same, List.replicate_succ']
        · rintro H2 ⟨e2, d0, d2⟩
          refine ⟨D, List.replicate xs.length true, rfl, ?_, ?_, e2⟩
          · rw [List.map_replicate]
            exact SqL.of d2
          · simp
theorem ok_same {f : Addr} {fd : FuncData} (F : DefX K mg "_law_same" s_same ["_law_found", "_law_due"] f fd) (T : Txt K mg) : ∀ n : Nat, Cal P w K mg base CX0 (n + 1) "_law_same" (spSame K n)
  | 0 => ok_same0 F T 0 0 _ (cal_bot F) (Nat.le_refl _) (fun _ h => nomatch h)
  | n + 1 => ok_same0 F T (n + 1) (n + 1) _ (ok_same F T n) (Nat.le_refl _) (fun m h => by cases h; rfl)
end
end MK

set_option Elab.async false
set_option linter.all false
set_option autoImplicit false
set_option maxRecDepth 100000
set_option maxHeartbeats 4000000
namespace MK
open PySem PySem.Spec PyProof.Rows L2
local macro_rules | `(tactic| walk_at "x") => `(tactic| dsimp only [tSeq, tAsg, tRet, tDrop, tLst, tTup, tCons, tOp, tUn, tIfS])
/-! ### kinds are equal -/
abbrev s_Kind_eq : Stmt := inClass (topS 52) 1
theorem sc_Kind_eq : FnScope ["self", "other"] ["self", "other"] (defScope s_Kind_eq) := ⟨rfl, rfl, rfl, by decide +kernel, rfl, by decide +kernel, by decide +kernel⟩
structure KIns (K : PySem.W.Frag) (KC : Addr) : Prop where
  ha : PySem.W.findIn K (.ref KC) "__class__" = some (some (.builtin "object.__class__"))
  hn : PySem.W.specialIn K (.builtin "object.__class__") "__get__" = some (some (.builtin "getset_descriptor.__get__"))
  htk : PySem.W.takesIn K (.builtin "object.__class__") = some true
  hm : PySem.W.mroIn K KC (.type "object") = some true
def spKEq (K : PySem.W.Frag) (KC : Addr) : Sp := fun vs H Q _ => ∃ (v w : V) (fs gs : List FD) (n m : Nat) (cs ds : List CD), vs = [v, w] ∧ KdA K KC H v fs n cs ∧ KdA K KC H w gs m ds ∧ KdOk fs n cs ∧ KdOk gs m ds ∧ Q (.bl (decide (fs = gs ∧ n = m ∧ cs = ds))) H
section
variable {P : Program} {w : World} {K : PySem.W.Frag} {mg : Str → Option Value} {base : Heap} {C : Cst} {KC : Addr}
theorem run_keq (T : Txt K mg) (Z : KCls K KC) (Y : KIns K KC) (gK : mg "Kind" = some (.ref KC)) {f : Addr} {cdv : Value} {A : Around} {outer : List Env} {sh : Shared} {H : Hp} {vs : List V} {Q : VK} {E : XK} (hr : Room 0 (A.deeper (envOfC "Kind.__eq__" (defScope s_Kind_eq) sh.heap.objs.size f cdv))) (h : spKEq K KC vs H Q E) :
    ∃ t, PSs (cxOf CX0 P w K mg base ["self", "other"] "Kind.__eq__" (defScope s_Kind_eq) f cdv A outer sh H E).nox (defBody s_Kind_eq) t ∧ t { nx := fun _ H' => Q .non H', rt := Q } (start ["self", "other"] vs) H := by
  obtain ⟨v, w', fs, gs, n, m, cs, ds, rfl, ⟨a, dx, so, sp, tb, t, st, tv, sv, rfl, h1, h2, h3, h4, h5, h6, h7, h8⟩, ⟨b, dy, so', sp', tb', t', st', tv', sv', rfl, g1, g2, g3, g4, g5, g6, g7, g8⟩, ok1, ok2, q⟩ := h
  refine ⟨_, (pss_one (ps_ret (pe_cut (pe_and (pe_callB call_isi (by rfl) T.isinstance (by decide +kernel) (pa_cons (pv 1) (pa_cons (pe_refv (by rfl) gK) pa_nil))) (pe_and (pe_cmpR (op_eqD hr.units) (pe_fld (pv 0) rfl) (pe_fld (pv 1) rfl) (nomark _)) (pe_and (pe_cmpR op_eq (pe_fld (pv 0) rfl) (pe_fld (pv 1) rfl) (nomark _)) (pe_one (pe_cmpR (op_eqD hr.units) (pe_fld (pv 0) rfl) (pe_fld (pv 1) rfl) (nomark _))))))))), ?_⟩
  refine ⟨fun v H2 => v = .bl (decide (fs = gs ∧ n = m ∧ cs = ds)) ∧ H2 = H, ?_, fun v H2 e => by rw [e.1, e.2]; exact q⟩
  refine ⟨_, rfl, _, _, _, _, true, rfl, .own _, .base (.ins g1 Z.cls Y.ha Y.hn Y.htk Y.hm), if_pos (beq_self_eq_true _), true, rfl, iteT ?_⟩
  refine ⟨_, rfl, a, KC, dx, _, t, rfl, h1, Z.cls, Z.triples, rfl, _, rfl, b, KC, dy, _, t', rfl, g1, Z.cls, Z.triples, rfl, _, _, dp_fs h2 h3, dp_fs g2 g3, shaped_fs ok1.fields, shaped_fs ok2.fields, ?_⟩
  rw [eqv_fs]
  refine ⟨_, rfl, ite2 (fun e => ?_) (fun e => ⟨?_, rfl⟩)⟩
  · have e := of_decide_eq_true e
    refine ⟨_, rfl, a, KC, dx, _, .int n, rfl, h1, Z.cls, Z.modes, rfl, _, rfl, b, KC, dy, _, .int m, rfl, g1, Z.cls, Z.modes, rfl, rfl, _, rfl, ite2 (fun e2 => ?_) (fun e2 => ⟨?_, rfl⟩)⟩
    · have e2 : n = m := by
        have := V.int.inj (of_decide_eq_true e2)
        omega
      refine ⟨_, rfl, a, KC, dx, _, st, rfl, h1, Z.cls, Z.steps, rfl, _, rfl, b, KC, dy, _, st', rfl, g1, Z.cls, Z.steps, rfl, _, _, dp_cs h6 h7, dp_cs g6 g7, shaped_cs ok1.fields ok1.calls, shaped_cs ok2.fields ok2.calls, ?_, rfl⟩
      rw [eqv_cs]
      exact congrArg V.bl (decide_eq_decide.mpr ⟨fun x => ⟨e, e2, x⟩, fun x => x.2.2⟩)
    · have e2 : ¬ n = m := fun x => e2 (decide_eq_true (by rw [x]))
      exact congrArg V.bl (decide_eq_false (p := fs = gs ∧ n = m ∧ cs = ds) fun x => e2 x.2.1).symm
  · have e : ¬ fs = gs := fun x => e (decide_eq_true x)
    exact congrArg V.bl (decide_eq_false (p := fs = gs ∧ n = m ∧ cs = ds) fun x => e x.1).symm
end
end MK
set_option Elab.async false
set_option linter.all false
set_option autoImplicit false
set_option maxRecDepth 100000
set_option maxHeartbeats 4000000
namespace MK
open PySem PySem.Spec PyProof.Rows L2
local macro_rules | `(tactic| walk_at "x") => `(tactic| dsimp only [tSeq, tAsg, tRet, tDrop, tLst, tTup, tCons, tOp, tUn, tIfS])
/-! ### a kind is written -/
abbrev s_call_lines : Stmt := topS 38
theorem sc_call_lines : FnScope ["call", "name", "hand", "moves", "deeds", "same", "move", "numbers", "lines", "deed", "field"] ["call"] (defScope s_call_lines) := ⟨rfl, rfl, rfl, by decide +kernel, rfl, by decide +kernel, by decide +kernel⟩
def spLines (K : PySem.W.Frag) : Sp := fun vs H Q _ => ∃ (v : V) (c : CD), vs = [v] ∧ CdT K H v c ∧ (∀ l ∈ itemsC c, LnGood l) ∧ c.deeds.length ≤ 4 ∧ c.same.length ≤ 3 ∧
  ∀ p H', Same H H' → H p = none → H' p = some (.lst ((itemsC c).map lnV)) → Q (.ref p) H'
section
variable {P : Program} {w : World} {K : PySem.W.Frag} {mg : Str → Option Value} {base : Heap} {C : Cst} {KC : Addr}
theorem ok_lines {f : Addr} {fd : FuncData} (F : DefX K mg "call_lines" s_call_lines ["call"] f fd) (T : Txt K mg) : Cal P w K mg base CX0 1 "call_lines" (spLines K) := by
  refine cal_mk F sc_call_lines (fun vs H Q E h => ?_) (fun cdv A outer sh H vs Q E hr h => ?_)
  · obtain ⟨v, c, rfl, _⟩ := h
    rfl
  · obtain ⟨v, c, rfl, ⟨m, d, s, dvs, ⟨ca, rfl, hca⟩, ⟨ma, rfl, hm⟩, ⟨da, rfl, hd⟩, al, ⟨sa, rfl, hs⟩⟩, good, dl, sl, q⟩ := h
    have gC : LnGood (.C c.nm c.hand c.moves) := good _ List.mem_cons_self
    have gD : ∀ x ∈ c.deeds, LnGood (.D x) := fun x hx => good _ (List.mem_cons_of_mem _ (List.mem_append_left _ (List.mem_map_of_mem hx)))
    have gS : ∀ x ∈ c.same, LnGood (.S x) := fun x hx => good _ (List.mem_cons_of_mem _ (List.mem_append_right _ (List.mem_map_of_mem hx)))
    have ml := gC.2.2.1
    have mr := gC.2.2.2
    refine ⟨_, (pss_cut (ps_asg (pv 0) (pg_tup (by rfl) (pgs_cons (pg_name (i := 1) sc_call_lines.nd rfl (Or.inl rfl)) (pgs_cons (pg_name (i := 2) sc_call_lines.nd rfl (Or.inl rfl)) (pgs_cons (pg_name (i := 3) sc_call_lines.nd rfl (Or.inl rfl)) (pgs_cons (pg_name (i := 4) sc_call_lines.nd rfl (Or.inl rfl)) (pgs_cons (pg_name (i := 5) sc_call_lines.nd rfl (Or.inl rfl)) pgs_nil)))))))
(pss_cut (ps_setLc (i := 7) (own := [("move", 6)]) (g := (gName 6)) (tt := tYes) rfl sc_call_lines.nd rfl rfl (sw_true rfl rfl rfl (by decide +kernel)) (pi_tup (pv 3)) (blkOk_by (own := [("move", 6)]) (N := ["call", "name", "hand", "moves", "deeds", "same", "move", "numbers", "lines", "deed", "field"]) (sc := defScope s_call_lines) (by decide +kernel)) (fun _ _ _ _ _ => (pg_name (i := 6) sc_call_lines.nd rfl (Or.inl rfl))) (fun _ _ _ _ _ => pts_nil) (fun _ _ _ _ _ => (pe_callTy call_str_int (by rfl) T.str (by decide +kernel) (pa_cons (pv 6) pa_nil))))
(pss_cut (ps_set (i := 8) sc_call_lines.nd rfl (Or.inl rfl) (pe_lst (pa_cons (pe_join pe_str (pe_lst (pa_cons pe_str (pa_cons (pv 1) (pa_cons (pv 2) (StX.pa_star (pv 7) pa_nil)))))) pa_nil)))
(pss_cut (ps_expr (pe_bm PySem.F.plainAttrs_list PySem.F.slot_list_extend PySem.F.type_list_extend mt_extend (pv 8) (pa_cons (pe_lc (own := [("deed", 9), ("field", 10)]) (g := (gTup K 2 (gCons (gName 9) (gCons (gName 10) gNil)))) (tt := tYes) rfl sc_call_lines.nd (pi_tup (pv 4)) (blkOk_by (own := [("deed", 9), ("field", 10)]) (N := ["call", "name", "hand", "moves", "deeds", "same", "move", "numbers", "lines", "deed", "field"]) (sc := defScope s_call_lines) (by decide +kernel)) (fun _ _ _ _ _ => (pg_tup (by rfl) (pgs_cons (pg_name (i := 9) sc_call_lines.nd rfl (Or.inl rfl)) (pgs_cons (pg_name (i := 10) sc_call_lines.nd rfl (Or.inl rfl)) pgs_nil)))) (fun _ _ _ _ _ => pts_nil) (fun _ _ _ _ _ => (pe_fsT (PJ.cons pe_str (PJ.cons (pe_fmt (pv 9)) (PJ.cons pe_str (PJ.cons (pe_fmt (pv 10)) PJ.nil))))))) pa_nil)))
(pss_cons (ps_expr (pe_bm PySem.F.plainAttrs_list PySem.F.slot_list_extend PySem.F.type_list_extend mt_extend (pv 8) (pa_cons (pe_lc (own := [("field", 10)]) (g := (gName 10)) (tt := tYes) rfl sc_call_lines.nd (pi_tup (pv 5)) (blkOk_by (own := [("field", 10)]) (N := ["call", "name", "hand", "moves", "deeds", "same", "move", "numbers", "lines", "deed", "field"]) (sc := defScope s_call_lines) (by decide +kernel)) (fun _ _ _ _ _ => (pg_name (i := 10) sc_call_lines.nd rfl (Or.inl rfl))) (fun _ _ _ _ _ => pts_nil) (fun _ _ _ _ _ => (pe_fsT (PJ.cons pe_str (PJ.cons (pe_fmt (pv 10)) PJ.nil))))) pa_nil)))
(pss_one (ps_ret (pv 8)))))))), ?_⟩
    refine ⟨fun σ H1 => σ = [some (.ref ca), some (.str c.nm), some (.str c.hand), some (.ref ma), some (.ref da), some (.ref sa), none, none, none, none, none] ∧ H = H1, ⟨_, rfl, ca, _, rfl, hca, rfl, _, _, rfl, _, _, rfl, _, _, rfl, _, _, rfl, _, _, rfl, rfl, rfl, rfl⟩, ?_⟩
    rintro _ _ ⟨rfl, rfl⟩
    refine ⟨fun σ H1 => ∃ D, σ = [some (.ref ca), some (.str c.nm), some (.str c.hand), some (.ref ma), some (.ref da), some (.ref sa), none, some (.ref D), none, none, none] ∧ Same H H1 ∧ H1 D = some (.lst ((c.moves.map numS).map V.str)), ?_, ?_⟩
    · refine ⟨_, rfl, ma, rfl, ⟨_, hm⟩, fun D hD => lc_mapT (ys := (c.moves.map numS).map V.str) hm hD (by simp) (by rw [List.length_map]; omega) (fun i x y H2 R hx hy e r => ?_) ⟨D, rfl, same_new (Same.refl H) hD, upd_same⟩⟩
      rw [List.getElem?_map] at hx
      rw [List.map_map, List.getElem?_map] at hy
      cases hi : c.moves[i]? with
      | none =>
        rw [hi] at hx
        cases hx
      | some n =>
        rw [hi] at hx hy
        cases hx
        cases hy
        have := mr n (List.mem_of_getElem? hi)
        exact ⟨rfl, _, rfl, n, rfl, log_small (by omega) (by omega), r⟩
    rintro _ H1 ⟨D, rfl, e1, d1⟩
    refine ⟨fun σ H2 => ∃ L, σ = [some (.ref ca), some (.str c.nm), some (.str c.hand), some (.ref ma), some (.ref da), some (.ref sa), none, some (.ref D), some (.ref L), none, none] ∧ Same H H2 ∧ H L = none ∧ H2 L = some (.lst [lnV (.C c.nm c.hand c.moves)]), ?_, ?_⟩
    · refine ⟨⟨_, rfl⟩, _, rfl, _, rfl, _, rfl, D, _, rfl, .inr (SqL.of d1), ?_, fun p hp => ⟨_, p, ([("call" : Str), c.nm, c.hand] : List Str) ++ c.moves.map numS, rfl, rfl, .inl ?_, ?_, ?_⟩⟩
      · rw [List.append_nil]
        show (_ :: _ :: _ :: _).length ≤ _
        rw [List.length_cons, List.length_cons, List.length_cons, List.length_map, List.length_map, sizeLine_eq]
        omega
      · rw [List.append_nil]
        exact SqL.of upd_same
      · have h1 := sum_le (k := 8) (xs := (([("call" : Str), c.nm, c.hand] : List Str) ++ c.moves.map numS).map (·.length)) fun x hx => by
          obtain ⟨z, hz, rfl⟩ := List.mem_map.mp hx
          exact (gC.ok.part z hz).le
        have h2 := gC.ok.few
        have h2 : (([("call" : Str), c.nm, c.hand] : List Str) ++ c.moves.map numS).length ≤ 8 := h2
        rw [List.length_map] at h1
        rw [show (" " : Str).length = 1 from rfl]
        omega
      · refine ⟨by show 1 ≤ sizeLine; decide, fun p2 hp2 => ⟨p2, rfl, same_new (same_new e1 hp) hp2, none_of (same_new e1 hp) hp2, ?_⟩⟩
        rw [upd_same]
        rfl
    rintro _ H2 ⟨L, rfl, e2, hL, l2⟩
    refine ⟨fun σ H3 => ∃ x9 x10, σ = [some (.ref ca), some (.str c.nm), some (.str c.hand), some (.ref ma), some (.ref da), some (.ref sa), none, some (.ref D), some (.ref L), x9, x10] ∧ Same H H3 ∧ H3 L = some (.lst ([lnV (.C c.nm c.hand c.moves)] ++ c.deeds.map fun d => lnV (.D d))), ?_, ?_⟩
    · have hd2 : SqT K H2 da dvs := same_t e2 hd
      refine ⟨_, rfl, .inl ⟨rfl, _, SqL.of l2⟩, _, rfl, da, rfl, ⟨_, hd2⟩, fun D2 hD2 => lc_mapT (ys := c.deeds.map fun d => lnV (.D d)) hd2 hD2 (by rw [List.length_map]; exact al.1.symm) (by rw [al.1]; omega) (fun i x y H3 R hx hy e r => ?_) ?_⟩
      · obtain ⟨d, hdi, u, rfl, hu⟩ := al.get hx
        rw [List.getElem?_map, hdi] at hy
        cases hy
        have g := gD d (List.mem_of_getElem? hdi)
        refine ⟨u, _, rfl, same_t (e2.trans e) hu, rfl, _, _, rfl, _, _, rfl, rfl, rfl, ?_⟩
        exact tfs_run (.cons .lit (.cons (.var rfl (word8 g.1)) (.cons .lit (.cons (.var rfl (word8 g.2)) .nil)))) (cat_D d) (line_len g) r
      · have n : D2 ≠ L := fun e => by rw [e, l2] at hD2; cases hD2
        refine ⟨L, D2, _, _, rfl, rfl, (upd_ne (Ne.symm n)).trans l2, upd_same, ?_, _, _, rfl, fun b o hb => ?_, upd_same⟩
        · rw [List.length_map, sizeLine_eq]
          show 1 + _ ≤ _
          omega
        · rw [upd_ne (fun e => by rw [e, hL] at hb; cases hb)]
          exact same_new e2 hD2 _ _ hb
    rintro _ H3 ⟨x9, x10, rfl, e3, l3⟩
    have hs3 : SqT K H3 sa (c.same.map V.str) := same_t e3 hs
    refine ⟨_, rfl, .inl ⟨rfl, _, SqL.of l3⟩, _, rfl, sa, rfl, ⟨_, hs3⟩, fun D2 hD2 => lc_mapT (ys := c.same.map fun x => lnV (.S x)) hs3 hD2 (by simp) (by rw [List.length_map]; omega) (fun i x y H4 R hx hy e r => ?_) ?_⟩
    · rw [List.getElem?_map] at hx hy
      cases hi : c.same[i]? with
      | none =>
        rw [hi] at hx
        cases hx
      | some z =>
        rw [hi] at hx hy
        cases hx
        cases hy
        have g := gS z (List.mem_of_getElem? hi)
        refine ⟨rfl, ?_⟩
        exact tfs_run (.cons .lit (.cons (.var rfl (word8 g)) .nil)) (cat_S z) (line_len g) r
    · have n : D2 ≠ L := fun e => by rw [e, l3] at hD2; cases hD2
      refine ⟨L, D2, _, _, rfl, rfl, (upd_ne (Ne.symm n)).trans l3, upd_same, ?_, _, rfl, q L _ (fun b o hb => ?_) hL ?_⟩
      · rw [List.length_append, List.length_map, List.length_map, sizeLine_eq]
        show 1 + _ + _ ≤ _
        omega
      · rw [upd_ne (fun e => by rw [e, hL] at hb; cases hb)]
        exact same_new e3 hD2 _ _ hb
      · rw [upd_same]
        show _ = some (HO.lst (List.map lnV (_ :: (_ ++ _))))
        rw [List.map_cons, List.map_append, List.map_map, List.map_map, List.append_assoc]
        rfl
end
end MK
set_option Elab.async false
set_option linter.all false
set_option autoImplicit false
set_option maxRecDepth 100000
set_option maxHeartbeats 4000000
namespace MK
open PySem PySem.Spec PyProof.Rows L2
local macro_rules | `(tactic| walk_at "x") => `(tactic| dsimp only [tSeq, tAsg, tRet, tDrop, tLst, tTup, tCons, tOp, tUn, tIfS])
abbrev s_written : Stmt := topS 37
theorem sc_written : FnScope ["modes", "fields", "calls", "lines", "name", "sort", "need", "call", "line"] ["modes", "fields", "calls"] (defScope s_written) := ⟨rfl, rfl, rfl, by decide +kernel, rfl, by decide +kernel, by decide +kernel⟩
def spWritten (K : PySem.W.Frag) : Sp := fun vs H Q _ => ∃ (n : Nat) (ta sa : Addr) (tv sv : List V) (fs : List FD) (cs : List CD), vs = [.int n, .ref ta, .ref sa] ∧ SqT K H ta tv ∧ Al (FdT K H) tv fs ∧ SqT K H sa sv ∧ Al (CdT K H) sv cs ∧ KdOk fs n cs ∧
  ∀ H', Same H H' → Q (.str (textK (items fs n cs))) H'
section
variable {P : Program} {w : World} {K : PySem.W.Frag} {mg : Str → Option Value} {base : Heap} {C : Cst} {KC : Addr}
theorem lines_len {fs : List FD} {n : Nat} {cs : List CD} (ok : KdOk fs n cs) {c : CD} {i : Nat} (hi : cs[i]? = some c) : (lnV (.M n) :: (fs.map (fun f => lnV (.F f)) ++ ((cs.take i).flatMap itemsC).map lnV)).length + ((itemsC c).map lnV).length ≤ sizeLine := by
  have h0 := items_few ok
  have e : cs = cs.take i ++ c :: cs.drop (i + 1) := by
    have hl := (List.getElem?_eq_some_iff.mp hi).1
    have := (List.getElem?_eq_some_iff.mp hi).2
    rw [← this, ← List.drop_eq_getElem_cons hl, List.take_append_drop]
  have h1 : (items fs n cs).length = 1 + fs.length + (cs.flatMap itemsC).length := by
    show (_ :: (_ ++ _)).length = _
    rw [List.length_cons, List.length_append, List.length_map]
    omega
  have h2 : (cs.flatMap itemsC).length = ((cs.take i).flatMap itemsC).length + (itemsC c).length + ((cs.drop (i + 1)).flatMap itemsC).length := by
    conv => lhs; rw [e]
    rw [List.flatMap_append, List.flatMap_cons, List.length_append, List.length_append]
    omega
  rw [List.length_cons, List.length_append, List.length_map, List.length_map, List.length_map, sizeLine_eq]
  omega
theorem take_app {α β : Type} (f : α → List β) {xs : List α} {i : Nat} {x : α} (h : xs[i]? = some x) : (xs.take (i + 1)).flatMap f = (xs.take i).flatMap f ++ f x := by
  rw [List.take_succ, h, List.flatMap_append]
  show _ ++ (f x ++ []) = _
  rw [List.append_nil]
theorem take_mapV {α : Type} (f : α → V) {xs : List α} {i : Nat} {x : α} (h : xs[i]? = some x) : (xs.take (i + 1)).map f = (xs.take i).map f ++ [f x] := by
  rw [List.take_succ, h, List.map_append]
  rfl
theorem ok_written {f : Addr} {fd : FuncData} (F : DefX K mg "written" s_written ["modes", "fields", "calls"] f fd) (T : Txt K mg) (c_call_lines : Cal P w K mg base CX0 1 "call_lines" (spLines K)) : Cal P w K mg base CX0 2 "written" (spWritten K) := by
  refine cal_mk F sc_written (fun vs H Q E h => ?_) (fun cdv A outer sh H vs Q E hr h => ?_)
  · obtain ⟨n, ta, sa, tv, sv, fs, cs, rfl, _⟩ := h
    rfl
  · obtain ⟨n, ta, sa, tv, sv, fs, cs, rfl, ht, at_, hs, as, ok, q⟩ := h
    have hn := ok.le
    refine ⟨_, (pss_cut (ps_set (i := 3) sc_written.nd rfl (Or.inl rfl) (pe_lst (pa_cons (pe_fsT (PJ.cons pe_str (PJ.cons (pe_fmt (pv 0)) PJ.nil))) pa_nil)))
(pss_cut (ps_for PassesOwn.never rfl (pi_tup (pv 1)) (pg_tup (by rfl) (pgs_cons (pg_name (i := 4) sc_written.nd rfl (Or.inl rfl)) (pgs_cons (pg_name (i := 5) sc_written.nd rfl (Or.inl rfl)) (pgs_cons (pg_name (i := 6) sc_written.nd rfl (Or.inl rfl)) pgs_nil))))
(pss_one (ps_expr (pe_bm PySem.F.plainAttrs_list PySem.F.slot_list_append PySem.F.type_list_append mt_append (pv 3) (pa_cons (pe_cut (pe_ifExp (pt_val (pv 6)) (pe_fsT (PJ.cons pe_str (PJ.cons (pe_fmt (pv 4)) (PJ.cons pe_str (PJ.cons (pe_fmt (pv 5)) (PJ.cons pe_str PJ.nil)))))) (pe_fsT (PJ.cons pe_str (PJ.cons (pe_fmt (pv 4)) (PJ.cons pe_str (PJ.cons (pe_fmt (pv 5)) PJ.nil))))))) pa_nil)))))
(pss_cut (ps_for PassesOwn.never rfl (pi_tup (pv 2)) (pg_name (i := 7) sc_written.nd rfl (Or.inl rfl))
(pss_one (ps_expr (pe_bm PySem.F.plainAttrs_list PySem.F.slot_list_extend PySem.F.type_list_extend mt_extend (pv 3) (pa_cons (pe_c c_call_lines hr (by first | decide | assumption) rfl (pa_cons (pv 7) pa_nil)) pa_nil)))))
(pss_one (ps_ret (pe_join pe_str (pe_lc (own := [("line", 8)]) (g := (gName 8)) (tt := tYes) rfl sc_written.nd (pi_list (pv 3)) (blkOk_by (own := [("line", 8)]) (N := ["modes", "fields", "calls", "lines", "name", "sort", "need", "call", "line"]) (sc := defScope s_written) (by decide +kernel)) (fun _ _ _ _ _ => (pg_name (i := 8) sc_written.nd rfl (Or.inl rfl))) (fun _ _ _ _ _ => pts_nil) (fun _ _ _ _ _ => (pe_fsT (PJ.cons (pe_fmt (pv 8)) (PJ.cons pe_str PJ.nil))))))))))), ?_⟩
    refine ⟨fun σ H2 => ∃ L, σ = [some (.int n), some (.ref ta), some (.ref sa), some (.ref L), none, none, none, none, none] ∧ Same H H2 ∧ H L = none ∧ H2 L = some (.lst [lnV (.M n)]), ?_, ?_⟩
    · dsimp only [tAsg, tLst, tCons]
      refine tfs_run (.cons .lit (.cons (.num (i := 0) (n := n) rfl (log_small (by omega) (by omega))) .nil)) (cat_M n) (line_len (l := .M n) hn) ?_
      exact ⟨by show 1 ≤ sizeLine; decide, fun L hL => ⟨L, rfl, same_new (Same.refl H) hL, hL, upd_same⟩⟩
    rintro _ H1 ⟨L, rfl, e1, hL, l1⟩
    refine ⟨fun σ H2 => ∃ x4 x5 x6, σ = [some (.int n), some (.ref ta), some (.ref sa), some (.ref L), x4, x5, x6, none, none] ∧ Same H H2 ∧ H2 L = some (.lst (lnV (.M n) :: fs.map fun f => lnV (.F f))), ?_, ?_⟩
    · refine ⟨_, rfl, ta, rfl, ⟨_, same_t e1 ht⟩, for_tup (K := K) (a := ta) (xs := tv) (fun i σ H2 => ∃ x4 x5 x6, σ = [some (.int n), some (.ref ta), some (.ref sa), some (.ref L), x4, x5, x6, none, none] ∧ Same H H2 ∧ H2 L = some (.lst (lnV (.M n) :: (fs.take i).map fun f => lnV (.F f))))
        ⟨none, none, none, rfl, e1, l1⟩ (fun i σ H2 _ ⟨_, _, _, _, h, _⟩ => same_t h ht) ?_ ?_⟩
      · rintro i x σ H2 hx ⟨x4, x5, x6, rfl, e2, l2⟩
        obtain ⟨f, hf, u, rfl, hu⟩ := at_.get hx
        have hfm := List.mem_of_getElem? hf
        have g : LnGood (.F f) := ok.fields.word f hfm
        refine ⟨u, _, rfl, same_t e2 hu, rfl, _, _, rfl, _, _, rfl, _, _, rfl, rfl, ?_⟩
        refine ⟨_, rfl, .inl ⟨rfl, _, SqL.of l2⟩, fun v H3 => v = lnV (.F f) ∧ H2 = H3, ?_, ?_⟩
        · refine ⟨_, rfl, f.need, rfl, ite2 (fun e => ?_) (fun e => ?_)⟩
          · exact tfs_run (.cons .lit (.cons (.var rfl (word8 g)) (.cons .lit (.cons (.var rfl (sort_len _)) (.cons .lit .nil))))) (cat_Fn f e) (line_len g) ⟨rfl, rfl⟩
          · exact tfs_run (.cons .lit (.cons (.var rfl (word8 g)) (.cons .lit (.cons (.var rfl (sort_len _)) .nil)))) (cat_F f (Bool.eq_false_iff.mpr e)) (line_len g) ⟨rfl, rfl⟩
        · rintro _ _ ⟨rfl, rfl⟩
          refine ⟨L, _, _, rfl, rfl, l2, ?_, _, _, _, rfl, fun b o hb => ?_, ?_⟩
          · have h1 := ok.fields.le
            rw [List.length_cons, List.length_map, List.length_take, sizeLine_eq]
            omega
          · rw [upd_ne (fun e => by rw [e, hL] at hb; cases hb)]
            exact e2 _ _ hb
          · rw [upd_same, take_mapV _ hf]
            rfl
      · rintro σ H2 ⟨x4, x5, x6, rfl, e2, l2⟩
        rw [at_.1, List.take_length] at l2
        exact ⟨_, _, _, rfl, e2, l2⟩
    rintro _ H2 ⟨x4, x5, x6, rfl, e2, l2⟩
    refine ⟨fun σ H3 => ∃ x7, σ = [some (.int n), some (.ref ta), some (.ref sa), some (.ref L), x4, x5, x6, x7, none] ∧ Same H H3 ∧ H3 L = some (.lst ((items fs n cs).map lnV)), ?_, ?_⟩
    · refine ⟨_, rfl, sa, rfl, ⟨_, same_t e2 hs⟩, for_tup (K := K) (a := sa) (xs := sv) (fun i σ H3 => ∃ x7, σ = [some (.int n), some (.ref ta), some (.ref sa), some (.ref L), x4, x5, x6, x7, none] ∧ Same H H3 ∧ H3 L = some (.lst (lnV (.M n) :: (fs.map (fun f => lnV (.F f)) ++ ((cs.take i).flatMap itemsC).map lnV))))
        ⟨none, rfl, e2, ?_⟩ (fun i σ H3 _ ⟨_, _, h, _⟩ => same_t h hs) ?_ ?_⟩
      · rw [l2]
        show _ = some (HO.lst (_ :: (_ ++ [])))
        rw [List.append_nil]
      · rintro i x σ H3 hx ⟨x7, rfl, e3, l3⟩
        obtain ⟨c, hc, hv⟩ := as.get hx
        have hcm := List.mem_of_getElem? hc
        refine ⟨_, rfl, .inl ⟨rfl, _, SqL.of l3⟩, _, rfl, _, c, rfl, CdT.keep e3 hv, call_good ok hcm, (ok.calls c hcm).deeds, same_few ok.fields (ok.calls c hcm), fun p H4 e4 hp hp4 => ?_⟩
        refine ⟨L, p, _, _, rfl, rfl, e4 _ _ l3, hp4, lines_len ok hc, _, rfl, fun b o hb => ?_, ?_⟩
        · rw [upd_ne (fun e => by rw [e, hL] at hb; cases hb)]
          exact e4 _ _ (e3 _ _ hb)
        · rw [upd_same, take_app _ hc, List.map_append, List.cons_append, List.append_assoc]
      · rintro σ H3 ⟨x7, rfl, e3, l3⟩
        rw [as.1, List.take_length] at l3
        refine ⟨_, rfl, e3, ?_⟩
        rw [l3]
        show _ = some (HO.lst (List.map lnV (_ :: (_ ++ _))))
        rw [List.map_cons, List.map_append, List.map_map]
        rfl
    rintro _ H3 ⟨x7, rfl, e3, l3⟩
    have good := items_good ok
    refine ⟨⟨_, rfl⟩, _, rfl, L, rfl, ⟨_, SqL.of l3⟩, fun D hD => lc_mapL (ys := (items fs n cs).map fun l => V.str (nlS l.text)) (SqL.of l3) hD (by simp) (by rw [List.length_map]; have := items_few ok; omega) (fun i x y H4 R hx hy e r => ?_) ?_⟩
    · rw [List.getElem?_map] at hx hy
      cases hi : (items fs n cs)[i]? with
      | none =>
        rw [hi] at hx
        cases hx
      | some l =>
        rw [hi] at hx hy
        cases hx
        cases hy
        have g := good l (List.mem_of_getElem? hi)
        refine ⟨rfl, ?_⟩
        exact tfs_run (.cons (.var rfl (line_len g)) (.cons .lit .nil)) (cat_nl l.text) (nl_le g) r
    · have bd := all_len (fun l m => (good l m).ok) (show (items fs n cs).length ≤ 100 by have := items_few ok; omega)
      have e0 : ("" : Str) = Str.empty := by decide +kernel
      refine ⟨("" : Str), D, (items fs n cs).map fun l => nlS l.text, rfl, rfl, .inl ?_, ?_, ?_⟩
      · rw [List.map_map]
        exact SqL.of upd_same
      · rw [e0]
        exact Nat.le_trans bd (by decide : 7300 ≤ 16777216)
      · rw [e0]
        exact q _ (same_new e3 hD)
end
end MK
set_option Elab.async false
set_option linter.all false
set_option autoImplicit false
set_option maxRecDepth 100000
set_option maxHeartbeats 4000000
namespace MK
open PySem PySem.Spec PyProof.Rows L2
local macro_rules | `(tactic| walk_at "x") => `(tactic| dsimp only [tSeq, tAsg, tRet, tDrop, tLst, tTup, tCons, tOp, tUn, tIfS])
/-! ### the parts of a line -/
abbrev s_is_number : Stmt := topS 48
theorem sc_is_number : FnScope ["part", "sign"] ["part"] (defScope s_is_number) := ⟨rfl, rfl, rfl, by decide +kernel, rfl, by decide +kernel, by decide +kernel⟩
abbrev s_number_of : Stmt := topS 49
theorem sc_number_of : FnScope ["part", "number", "sign"] ["part"] (defScope s_number_of) := ⟨rfl, rfl, rfl, by decide +kernel, rfl, by decide +kernel, by decide +kernel⟩
abbrev s_move_of : Stmt := topS 50
theorem sc_move_of : FnScope ["part"] ["part"] (defScope s_move_of) := ⟨rfl, rfl, rfl, by decide +kernel, rfl, by decide +kernel, by decide +kernel⟩
abbrev s_are_words : Stmt := topS 47
theorem sc_are_words : FnScope ["parts", "part"] ["parts"] (defScope s_are_words) := ⟨rfl, rfl, rfl, by decide +kernel, rfl, by decide +kernel, by decide +kernel⟩
def spNumber : Sp := fun vs H Q _ => ∃ d : Nat, vs = [.str (digS d)] ∧ d < 10 ∧ ∀ H', Same H H' → Q (.bl true) H'
def spNumOf : Sp := fun vs H Q _ => ∃ d : Nat, vs = [.str (digS d)] ∧ d < 10 ∧ Q (.int d) H
def spMove : Sp := fun vs H Q _ => ∃ i : Int, vs = [.str (numS i)] ∧ -1 ≤ i ∧ i ≤ 4 ∧ Q (.int i) H
def spWords (K : PySem.W.Frag) : Sp := fun vs H Q _ => ∃ (p : Addr) (zs : List Str), vs = [.ref p] ∧ SqL K H p (zs.map V.str) ∧ zs.length ≤ 8 ∧ (∀ z ∈ zs, wordB z = true) ∧ ∀ H', Same H H' → Q (.bl true) H'
theorem dig_in : ∀ d : Nat, d < 10 → decide ((48 + d) ∈ ("0123456789" : Str).cps.toList) = true := fun d h => (by decide +kernel : ∀ d : Fin 10, decide ((48 + d.val) ∈ ("0123456789" : Str).cps.toList) = true) ⟨d, h⟩
theorem dig_ne : ∀ d : Nat, d < 10 → decide (V.str (digS d) = V.str "") = false := fun d h => (by decide +kernel : ∀ d : Fin 10, decide (V.str (digS d.val) = V.str "") = false) ⟨d, h⟩
theorem dig_neg : ∀ d : Nat, d < 10 → decide (V.str (digS d) = V.str "-1") = false := fun d h => (by decide +kernel : ∀ d : Fin 10, decide (V.str (digS d.val) = V.str "-1") = false) ⟨d, h⟩
section
variable {P : Program} {w : World} {K : PySem.W.Frag} {mg : Str → Option Value} {base : Heap} {C : Cst} {KC : Addr}
theorem ok_number {f : Addr} {fd : FuncData} (F : DefX K mg "is_number" s_is_number ["part"] f fd) (T : Txt K mg) (cD : ∃ u, mg "DIGITS" = some u ∧ RelV (.str "0123456789") u) : Cal P w K mg base CX0 1 "is_number" spNumber := by
  refine cal_mk F sc_is_number (fun vs H Q E h => ?_) (fun cdv A outer sh H vs Q E hr h => ?_)
  · obtain ⟨d, rfl, _⟩ := h
    rfl
  · obtain ⟨d, rfl, hd, q⟩ := h
    refine ⟨_, (pss_cons (ps_if (pt_cut (PW.pt (pw_or (pt_cmpR op_eq (pv 0) pe_str (nomark _)) (pw_or1 (pt_not (pt_val (pe_callB (cr_all rfl) (by rfl) T.all (by decide +kernel) (pa_cons (pe_lc (own := [("sign", 1)]) (g := (gName 1)) (tt := tYes) rfl sc_is_number.nd (pi_str (pv 0)) (blkOk_by (own := [("sign", 1)]) (N := ["part", "sign"]) (sc := defScope s_is_number) (by decide +kernel)) (fun _ _ _ _ _ => (pg_name (i := 1) sc_is_number.nd rfl (Or.inl rfl))) (fun _ _ _ _ _ => pts_nil) (fun _ _ _ _ _ => (pe_cmpR op_in_sign (pv 1) (pe_cst rfl cD) (by rfl)))) pa_nil))))))))
(pss_one (ps_ret pe_bl))
pss_nil)
(pss_one (ps_ret (pe_cut (pe_or (pe_cmpR op_eq (pv 0) pe_str (nomark _)) (pe_one (pe_cmpR op_ne (pe_ix ix_str (pv 0) pe_int (fun _ _ => rfl)) pe_str (nomark _)))))))), ?_⟩
    refine ⟨fun t H' => t = false ∧ Same H H', ⟨_, rfl, rfl, ?_⟩, ?_⟩
    · refine ⟨_, rfl, iteB (dig_ne d hd) ?_⟩
      refine ⟨_, rfl, _, rfl, fun D hD => ?_⟩
      refine lc_it (walk_str (z := digS d)) (fun i H2 => Same H H2 ∧ H2 D = some (.lst (List.replicate i (.bl true)))) ⟨same_new (Same.refl H) hD, upd_same⟩ (fun _ _ _ _ => trivial) ?_ ?_
      · rintro i x H3 H2 hi ⟨e2, d2⟩ ⟨rfl, c, hc, rfl⟩
        have hi0 : i = 0 := by
          have : i < 1 := hi
          omega
        subst hi0
        obtain rfl : 48 + d = c := Option.some.inj hc
        refine ⟨rfl, ?_⟩
        refine ⟨_, rfl, _, _, rfl, rfl, _, d2, by show 0 < sizeLine; decide, ?_, ?_⟩
        · intro b o hb
          rw [upd_ne (ne_of_none hb hD)]
          exact e2 _ _ hb
        · rw [upd_same]
          show some (HO.lst [V.bl (decide ((48 + d) ∈ ("0123456789" : Str).cps.toList))]) = some (HO.lst [V.bl true])
          rw [dig_in d hd]
      · rintro H2 ⟨e2, d2⟩
        refine ⟨D, [true], rfl, SqL.of d2, _, rfl, rfl, e2⟩
    rintro _ H1 ⟨rfl, e1⟩
    refine iteF ?_
    refine ⟨fun v H2 => v = .bl true ∧ Same H H2, ?_, fun v H2 e => by rw [e.1]; exact q _ e.2⟩
    refine ⟨_, rfl, rfl, ?_⟩
    refine ⟨_, rfl, ite2 (fun e => ⟨rfl, e1⟩) (fun e => ?_)⟩
    · have ne : 48 + d ≠ 48 := fun z => e (decide_eq_true (by
        show V.str (⟨#[48 + d]⟩ : Str) = V.str ⟨#[48]⟩
        rw [z]))
      refine ⟨_, rfl, _, _, 48 + d, rfl, rfl, by show 1 ≤ sizeLine; decide, rfl, rfl, ?_, e1⟩
      exact congrArg (fun b => V.bl (!b)) (decide_eq_false fun z => ne (by
        have := congrArg (fun s : Str => s.cps.toList) (V.str.inj z)
        exact (List.cons.inj this).1))
theorem ok_number_of {f : Addr} {fd : FuncData} (F : DefX K mg "number_of" s_number_of ["part"] f fd) (T : Txt K mg) : Cal P w K mg base CX0 1 "number_of" spNumOf := by
  refine cal_mk F sc_number_of (fun vs H Q E h => ?_) (fun cdv A outer sh H vs Q E hr h => ?_)
  · obtain ⟨d, rfl, _⟩ := h
    rfl
  · obtain ⟨d, rfl, hd, q⟩ := h
    refine ⟨_, (pss_cons (ps_set (i := 1) sc_number_of.nd rfl (Or.inl rfl) pe_int)
(pss_cons (ps_for PassesOwn.never rfl (pi_str (pv 0)) (pg_name (i := 2) sc_number_of.nd rfl (Or.inl rfl))
(pss_one (ps_set (i := 1) sc_number_of.nd rfl (Or.inl rfl) (pe_op op_add (pe_op op_mul (pv 1) pe_int) (pe_callTy call_int_str (by rfl) T.int (by decide +kernel) (pa_cons (pv 2) pa_nil))))))
(pss_one (ps_ret (pv 1))))), ?_⟩
    refine ⟨_, rfl, ?_⟩
    refine ⟨_, rfl, ?_⟩
    refine for_it (walk_str (z := digS d)) (fun i σ H2 => H2 = H ∧ ∃ x2, σ = [some (.str (digS d)), some (.int (if i = 0 then 0 else (d : Int))), x2]) ⟨rfl, none, rfl⟩ (fun _ _ _ _ _ => trivial) ?_ ?_
    · rintro i x σ H3 H2 hi ⟨rfl, x2, rfl⟩ ⟨rfl, c, hc, rfl⟩
      have hi0 : i = 0 := by
        have : i < 1 := hi
        omega
      subst hi0
      obtain rfl : 48 + d = c := Option.some.inj hc
      refine ⟨_, rfl, _, _, rfl, rfl, .inr (by decide), _, rfl, _, d, rfl, int_dig hd, by show 1 ≤ 640; decide, ?_⟩
      refine ⟨_, _, rfl, rfl, rfl, some (.str ⟨#[48 + d]⟩), ?_⟩
      show [some (V.str (digS d)), some (V.int (0 * 10 + (d : Int))), some (V.str ⟨#[48 + d]⟩)] = _
      rw [show (0 : Int) * 10 + (d : Int) = d by omega]
      rfl
    · rintro σ H2 ⟨rfl, x2, rfl⟩
      exact ⟨_, rfl, q⟩
theorem ok_move_of {f : Addr} {fd : FuncData} (F : DefX K mg "move_of" s_move_of ["part"] f fd) (T : Txt K mg) (c_number_of : Cal P w K mg base CX0 1 "number_of" spNumOf) : Cal P w K mg base CX0 2 "move_of" spMove := by
  refine cal_mk F sc_move_of (fun vs H Q E h => ?_) (fun cdv A outer sh H vs Q E hr h => ?_)
  · obtain ⟨i, rfl, _⟩ := h
    rfl
  · obtain ⟨i, rfl, h1, h2, q⟩ := h
    refine ⟨_, (pss_one (ps_ret (pe_cut (pe_ifExp (pt_cmpR op_eq (pv 0) pe_str (nomark _)) (pe_un un_neg pe_int) (pe_c c_number_of hr (by first | decide | assumption) rfl (pa_cons (pv 0) pa_nil)))))), ?_⟩
    refine ⟨fun v H2 => v = .int i ∧ H2 = H, ?_, fun v H2 e => by rw [e.1, e.2]; exact q⟩
    refine ⟨_, rfl, rfl, _, rfl, ?_⟩
    by_cases e : i = -1
    · subst e
      rw [numS_neg]
      exact iteT ⟨_, rfl, rfl, rfl⟩
    · obtain ⟨d, rfl⟩ := Int.eq_ofNat_of_zero_le (show 0 ≤ i by omega)
      have hd : d < 5 := by omega
      rw [numS_dig hd]
      refine iteB (dig_neg d (by omega)) ?_
      exact ⟨_, rfl, d, rfl, by omega, rfl, rfl⟩
theorem ok_words {f : Addr} {fd : FuncData} (F : DefX K mg "are_words" s_are_words ["parts"] f fd) (T : Txt K mg) (c_is_word : Cal P w K mg base CX0 1 "is_word" (spWord K)) : Cal P w K mg base CX0 2 "are_words" (spWords K) := by
  refine cal_mk F sc_are_words (fun vs H Q E h => ?_) (fun cdv A outer sh H vs Q E hr h => ?_)
  · obtain ⟨p, zs, rfl, _⟩ := h
    rfl
  · obtain ⟨p, zs, rfl, hp, len, good, q⟩ := h
    refine ⟨_, (pss_one (ps_ret (pe_callB (cr_all rfl) (by rfl) T.all (by decide +kernel) (pa_cons (pe_lc (own := [("part", 1)]) (g := (gName 1)) (tt := tYes) rfl sc_are_words.nd (pi_list (pv 0)) (blkOk_by (own := [("part", 1)]) (N := ["parts", "part"]) (sc := defScope s_are_words) (by decide +kernel)) (fun _ _ _ _ _ => (pg_name (i := 1) sc_are_words.nd rfl (Or.inl rfl))) (fun _ _ _ _ _ => pts_nil) (fun _ _ _ _ _ => (pe_c c_is_word hr (by first | decide | assumption) rfl (pa_cons (pv 1) pa_nil)))) pa_nil)))), ?_⟩
    refine ⟨_, rfl, p, rfl, ⟨_, hp⟩, fun D hD => ?_⟩
    refine lc_it (walk_list (K := K) (a := p) (xs := zs.map V.str)) (fun i H2 => Same H H2 ∧ H2 D = some (.lst (List.replicate i (.bl true)))) ⟨same_new (Same.refl H) hD, upd_same⟩ (fun i H2 _ e => e.1.seq hp) ?_ ?_
    · rintro i x H3 H2 hi ⟨e2, d2⟩ ⟨rfl, hx⟩
      rw [List.getElem?_map] at hx
      obtain ⟨z, hz, rfl⟩ := Option.map_eq_some_iff.mp hx
      have hw := good z (List.mem_of_getElem? hz)
      refine ⟨rfl, ?_⟩
      refine ⟨_, rfl, _, rfl, .inl ⟨_, rfl, word_len hw, fun H4 e4 => ?_⟩⟩
      rw [List.length_map] at hi
      refine ⟨_, e4 _ _ d2, ?_, fun b o hb => ?_, ?_⟩
      · rw [List.length_replicate, sizeLine_eq]
        omega
      · rw [upd_ne (ne_of_none hb hD)]
        exact e4 _ _ (e2 _ _ hb)
      · rw [upd_same, hw, List.replicate_succ']
    · rintro H2 ⟨e2, d2⟩
      refine ⟨D, List.replicate zs.length true, rfl, ?_, ?_⟩
      · rw [List.map_replicate]
        rw [List.length_map] at d2
        exact SqL.of d2
      · rw [show (List.replicate zs.length true).all id = true by simp]
        exact q _ e2
end
end MK
set_option Elab.async false
set_option linter.all false
set_option autoImplicit false
set_option maxRecDepth 100000
set_option maxHeartbeats 4000000
namespace MK
open PySem PySem.Spec PyProof.Rows L2
local macro_rules | `(tactic| walk_at "x") => `(tactic| dsimp only [tSeq, tAsg, tRet, tDrop, tLst, tTup, tCons, tOp, tUn, tIfS])
/-! ### what is put into a draft -/
abbrev s_Draft_init : Stmt := inClass (topS 39) 0
theorem sc_Draft_init : FnScope ["self"] ["self"] (defScope s_Draft_init) := ⟨rfl, rfl, rfl, by decide +kernel, rfl, by decide +kernel, by decide +kernel⟩
abbrev s_put_modes : Stmt := topS 42
theorem sc_put_modes : FnScope ["draft", "parts"] ["draft", "parts"] (defScope s_put_modes) := ⟨rfl, rfl, rfl, by decide +kernel, rfl, by decide +kernel, by decide +kernel⟩
abbrev s_put_field : Stmt := topS 43
theorem sc_put_field : FnScope ["draft", "parts", "need"] ["draft", "parts"] (defScope s_put_field) := ⟨rfl, rfl, rfl, by decide +kernel, rfl, by decide +kernel, by decide +kernel⟩
structure DCls (K : PySem.W.Frag) (DC : Addr) : Prop where
  cls : Cls K DC
  modes : NoAttr K DC "modes"
  fields : NoAttr K DC "field_items"
  calls : NoAttr K DC "call_items"
def spDInit (K : PySem.W.Frag) (DC : Addr) : Sp := fun vs H Q _ => ∃ x dx : Addr, vs = [.ref x] ∧ H x = some (.ins DC dx []) ∧
  ∀ lf lc H', SameX x H H' → H lf = none → H lc = none → lf ≠ lc → H' x = some (.ins DC dx (drV none lf lc)) → H' lf = some (.lst []) → H' lc = some (.lst []) → Q .non H'
def spPut (K : PySem.W.Frag) (DC : Addr) (k : Nat) : Sp := fun vs H Q _ => ∃ (dr p : Addr) (M : List Addr) (st st1 : Dra) (l : Ln), vs = [.ref dr, .ref p] ∧ DrT K DC H M dr st ∧ SqL K H p (ptV l) ∧ l.kd = k ∧ LnGood l ∧ Step st l st1 ∧
  ∀ M' H', Same (Hid M H) (Hid M' H') → DrT K DC H' M' dr st1 → Q (.bl true) H'
section
variable {P : Program} {w : World} {K : PySem.W.Frag} {mg : Str → Option Value} {base : Heap} {C : Cst} {DC : Addr}
theorem run_dinit (Z : DCls K DC) {f : Addr} {cdv : Value} {A : Around} {outer : List Env} {sh : Shared} {H : Hp} {vs : List V} {Q : VK} {E : XK} (hr : Room 0 (A.deeper (envOfC "Draft.__init__" (defScope s_Draft_init) sh.heap.objs.size f cdv))) (h : spDInit K DC vs H Q E) :
    ∃ t, PSs (cxOf CX0 P w K mg base ["self"] "Draft.__init__" (defScope s_Draft_init) f cdv A outer sh H E).nox (defBody s_Draft_init) t ∧ t { nx := fun _ H' => Q .non H', rt := Q } (start ["self"] vs) H := by
  obtain ⟨x, dx, rfl, hx, q⟩ := h
  refine ⟨_, (pss_cons (ps_fld (pv 0) pe_non rfl)
(pss_cons (ps_fld (pv 0) (pe_lst pa_nil) rfl)
(pss_one (ps_fld (pv 0) (pe_lst pa_nil) rfl)))), ?_⟩
  refine ⟨_, rfl, x, DC, dx, [], rfl, hx, Z.cls, Z.modes, by decide, ?_⟩
  show tSeq _ _ _ _ (upd H x (.ins DC dx [("modes", .non)]))
  refine ⟨by show 0 ≤ sizeLine; decide, fun lf hf => ?_⟩
  have fx : lf ≠ x := fun e => by rw [e, upd_same] at hf; cases hf
  rw [upd_ne fx] at hf
  have h1 : upd (upd H x (.ins DC dx [("modes", .non)])) lf (.lst []) x = some (.ins DC dx [("modes", .non)]) := (upd_ne (Ne.symm fx)).trans upd_same
  refine ⟨_, rfl, x, DC, dx, _, rfl, h1, Z.cls, Z.fields, by decide, ?_⟩
  rw [show putF ("field_items" : Str) (V.ref lf) ([("modes", .non)] : List (Str × V)) = ([("modes", .non), ("field_items", .ref lf)] : List (Str × V)) from rfl]
  refine ⟨by show 0 ≤ sizeLine; decide, fun lc hc => ?_⟩
  have cx : lc ≠ x := fun e => by rw [e, upd_same] at hc; cases hc
  rw [upd_ne cx] at hc
  have cf : lc ≠ lf := fun e => by rw [e, upd_same] at hc; cases hc
  rw [upd_ne cf, upd_ne cx] at hc
  refine ⟨_, rfl, x, DC, dx, [("modes", .non), ("field_items", .ref lf)], rfl, (upd_ne (Ne.symm cx)).trans upd_same, Z.cls, Z.calls, by show 2 < 1000; decide, ?_⟩
  refine q lf lc _ (fun b o hb n => ?_) hf hc (Ne.symm cf) upd_same ?_ ?_
  · rw [upd_ne n, upd_ne (fun e => by rw [e, hc] at hb; cases hb), upd_ne n, upd_ne (fun e => by rw [e, hf] at hb; cases hb), upd_ne n]
    exact hb
  · rw [upd_ne fx, upd_ne (Ne.symm cf), upd_ne fx, upd_same]
  · rw [upd_ne cx, upd_same]
theorem ok_put_modes {f : Addr} {fd : FuncData} (F : DefX K mg "put_modes" s_put_modes ["draft", "parts"] f fd) (T : Txt K mg) (Z : DCls K DC) (c_is_number : Cal P w K mg base CX0 1 "is_number" spNumber) (c_number_of : Cal P w K mg base CX0 1 "number_of" spNumOf) : Cal P w K mg base CX0 2 "put_modes" (spPut K DC 0) := by
  refine cal_mk F sc_put_modes (fun vs H Q E h => ?_) (fun cdv A outer sh H vs Q E hr h => ?_)
  · obtain ⟨dr, p, M, st, st1, l, rfl, _⟩ := h
    rfl
  · obtain ⟨dr, p, M, st, st1, l, rfl, ⟨dx, lf, lc, fvs, cvs, D⟩, hp, hk, good, stp, q⟩ := h
    cases stp with
    | f => exact absurd hk (fun e => by cases e)
    | c => exact absurd hk (fun e => by cases e)
    | d => exact absurd hk (fun e => by cases e)
    | s => exact absurd hk (fun e => by cases e)
    | @m n =>
      have hn : n ≤ 4 := good
      have en : numS (n : Int) = digS n := numS_dig (by omega)
      refine ⟨_, (pss_cons (ps_if (pt_cut (PW.pt (pw_or (pt_cmpR op_notN (pe_fld (pv 0) rfl) pe_non (nomark _)) (pw_or (pt_cmpR op_ne (pe_callB call_len_seq (by rfl) T.len (by decide +kernel) (pa_cons (pv 1) pa_nil)) pe_int (nomark _)) (pw_or1 (pt_not (pt_val (pe_c c_is_number hr (by first | decide | assumption) rfl (pa_cons (pe_ix ix_list (pv 1) pe_int (fun _ _ => rfl)) pa_nil)))))))))
(pss_one (ps_ret pe_bl))
pss_nil)
(pss_cons (ps_fld (pv 0) (pe_c c_number_of hr (by first | decide | assumption) rfl (pa_cons (pe_ix ix_list (pv 1) pe_int (fun _ _ => rfl)) pa_nil)) rfl)
(pss_one (ps_ret pe_bl)))), ?_⟩
      refine ⟨fun t H' => t = false ∧ Same H H', ?_, ?_⟩
      · refine ⟨_, rfl, dr, DC, dx, _, .non, rfl, D.at_, Z.cls, Z.modes, rfl, rfl, _, rfl, iteB rfl ?_⟩
        refine ⟨_, rfl, p, _, rfl, .inl hp, rfl, _, rfl, iteB rfl ?_⟩
        refine ⟨_, rfl, p, _, 1, _, rfl, rfl, hp, at_one, n, congrArg (fun z => [V.str z]) en, by omega, fun H1 e1 => ⟨true, rfl, rfl, e1⟩⟩
      rintro _ H1 ⟨rfl, e1⟩
      refine iteF ?_
      have D1 := D.keep e1
      refine ⟨_, rfl, p, _, 1, _, rfl, rfl, e1.seq hp, at_one, n, congrArg (fun z => [V.str z]) en, by omega, _, rfl, dr, DC, dx, _, rfl, D1.at_, Z.cls, Z.modes, by show 3 < 1000; decide, ?_⟩
      exact q M _ (hid_put e1 D.mem.1) (DrA.setModes D1).t
theorem ok_put_field {f : Addr} {fd : FuncData} (F : DefX K mg "put_field" s_put_field ["draft", "parts"] f fd) (T : Txt K mg) (Z : DCls K DC) (c_are_words : Cal P w K mg base CX0 2 "are_words" (spWords K)) : Cal P w K mg base CX0 3 "put_field" (spPut K DC 1) := by
  refine cal_mk F sc_put_field (fun vs H Q E h => ?_) (fun cdv A outer sh H vs Q E hr h => ?_)
  · obtain ⟨dr, p, M, st, st1, l, rfl, _⟩ := h
    rfl
  · obtain ⟨dr, p, M, st, st1, l, rfl, ⟨dx, lf, lc, fvs, cvs, D⟩, hp, hk, good, stp, q⟩ := h
    cases stp with
    | m => exact absurd hk (fun e => by cases e)
    | c => exact absurd hk (fun e => by cases e)
    | d => exact absurd hk (fun e => by cases e)
    | s => exact absurd hk (fun e => by cases e)
    | @f n fs f few =>
      have hw : wordB f.nm = true := good
      have nl := need_len f
      rw [f_parts] at hp nl
      refine ⟨_, (pss_cons (ps_set (i := 2) sc_put_field.nd rfl (Or.inl rfl) (pe_cmpR (op_eqD hr.units) (pe_slice sl_list (pv 1) (po_some pe_int) po_none) (pe_lst (pa_cons pe_str pa_nil)) (nomark _)))
(pss_cons (ps_if (pt_cut (PW.pt (pw_or (pt_cmpR op_ne (pe_callB call_len_seq (by rfl) T.len (by decide +kernel) (pa_cons (pv 1) pa_nil)) (pe_cut (pe_ifExp (pt_val (pv 2)) pe_int pe_int)) (nomark _)) (pw_or1 (pt_not (pt_val (pe_c c_are_words hr (by first | decide | assumption) rfl (pa_cons (pe_slice sl_list (pv 1) (po_some pe_int) (po_some pe_int)) pa_nil))))))))
(pss_one (ps_ret pe_bl))
pss_nil)
(pss_cons (ps_if (pt_cmpR op_gt (pe_callB call_len_seq (by rfl) T.len (by decide +kernel) (pa_cons (pe_fld (pv 0) rfl) pa_nil)) pe_int (nomark _))
(pss_one (ps_ret pe_bl))
pss_nil)
(pss_cons (ps_expr (pe_bm PySem.F.plainAttrs_list PySem.F.slot_list_append PySem.F.type_list_append mt_append (pe_fld (pv 0) rfl) (pa_cons (pe_tup (pa_cons (pe_ix ix_list (pv 1) pe_int (fun _ _ => rfl)) (pa_cons (pe_ix ix_list (pv 1) pe_int (fun _ _ => rfl)) (pa_cons (pv 2) pa_nil)))) pa_nil)))
(pss_one (ps_ret pe_bl)))))), ?_⟩
      refine ⟨_, rfl, 3, rfl, p, _, rfl, hp, fun q1 hq1 => ?_⟩
      rw [cutP_from]
      have e1 : Same H (upd H q1 (.lst ((needL f.need).map V.str))) := same_new (Same.refl H) hq1
      refine ⟨by show 1 ≤ sizeLine; decide, fun q2 hq2 => ?_⟩
      have e2 := same_new e1 hq2 (o := .lst [.str "need"])
      have s1 : SqL K (upd (upd H q1 (.lst ((needL f.need).map V.str))) q2 (.lst [.str "need"])) q1 ((needL f.need).map V.str) := SqL.of (same_new (Same.refl _) hq2 _ _ upd_same)
      refine ⟨_, _, .lst s1 (dp_strs _), .lst (SqL.of upd_same) (dp_strs ["need"]), need_shaped _, need_shaped1, ?_⟩
      rw [show PyData.eqv (.list ((needL f.need).map PyData.str)) (.list ((["need"] : List Str).map PyData.str)) = f.need from need_eqv _]
      generalize upd (upd H q1 (.lst ((needL f.need).map V.str))) q2 (.lst [.str "need"]) = H2 at e2
      refine ⟨fun t H' => t = false ∧ Same H2 H', ?_, ?_⟩
      · refine ⟨_, rfl, p, _, rfl, .inl (e2.seq hp), ?_⟩
        refine ⟨fun v H' => v = .int ((if f.need then 4 else 3 : Nat) : Int) ∧ H' = H2, ⟨_, rfl, f.need, rfl, ite2 (fun e => ⟨by rw [e]; rfl, rfl⟩) (fun e => ⟨by rw [if_neg e]; rfl, rfl⟩)⟩, ?_⟩
        rintro _ _ ⟨rfl, rfl⟩
        refine ⟨rfl, _, rfl, ?_⟩
        rw [nl, decide_eq_true rfl]
        refine iteF ?_
        refine ⟨_, rfl, 1, rfl, 3, rfl, p, _, rfl, e2.seq hp, fun q3 hq3 => ?_⟩
        rw [cutP_two]
        refine ⟨q3, [f.nm, sortS f.many], rfl, SqL.of upd_same, by show 2 ≤ 8; decide, fun z m => ?_, fun H3 e3 => ⟨true, rfl, rfl, (same_new (Same.refl _) hq3).trans e3⟩⟩
        simp only [List.mem_cons, List.not_mem_nil, or_false] at m
        rcases m with rfl | rfl
        · exact hw
        · exact sort_word _
      rintro _ H3 ⟨rfl, e3⟩
      refine iteF ?_
      have e03 := e2.trans e3
      have D3 := D.keep e03
      obtain rfl : cvs = [] := by
        rcases D.cs with g | ⟨_, _, cs0, c, _, g, _⟩
        · exact g.1
        · exact absurd (congrArg List.length g) (by rw [List.length_append]; exact Nat.noConfusion)
      refine ⟨_, rfl, dr, DC, dx, _, .ref lc, rfl, D3.at_, Z.cls, Z.calls, rfl, lc, _, rfl, .inl (SqL.of D3.cl), _, _, rfl, rfl, _, rfl, iteB (by decide) ?_⟩
      refine ⟨_, rfl, dr, DC, dx, _, .ref lf, rfl, D3.at_, Z.cls, Z.fields, rfl, .inl ⟨rfl, _, SqL.of D3.fl⟩, ?_⟩
      refine ⟨_, rfl, p, _, 1, _, rfl, rfl, e03.seq hp, at_one, _, rfl, p, _, 2, _, rfl, rfl, e03.seq hp, at_two, _, rfl, by show 3 ≤ sizeLine; decide, fun t ht => ?_⟩
      have D4 := D3.keep (same_new (Same.refl H3) ht (o := .tup (FdV f)))
      refine ⟨lf, fvs, .ref t, rfl, rfl, D4.fl, ?_, ?_⟩
      · rw [D4.fs.1, sizeLine_eq]
        have few : fs.length ≤ 100 := few
        show fs.length < _
        omega
      · have hv : FdT K (Hid M (upd H3 t (.tup (FdV f)))) (.ref t) f := ⟨t, rfl, SqT.of (hid_get upd_same (D3.new ht))⟩
        exact q M _ (hid_put (same_new e03 ht) D.mem.2.1) (D4.addField hv).t
end
end MK
set_option Elab.async false
set_option linter.all false
set_option autoImplicit false
set_option maxRecDepth 100000
set_option maxHeartbeats 4000000
namespace MK
open PySem PySem.Spec PyProof.Rows L2
local macro_rules | `(tactic| walk_at "x") => `(tactic| dsimp only [tSeq, tAsg, tRet, tDrop, tLst, tTup, tCons, tOp, tUn, tIfS])
/-! ### calls, deeds, same -/
abbrev s_put_call : Stmt := topS 44
theorem sc_put_call : FnScope ["draft", "parts", "part", "moves"] ["draft", "parts"] (defScope s_put_call) := ⟨rfl, rfl, rfl, by decide +kernel, rfl, by decide +kernel, by decide +kernel⟩
abbrev s_put_deed : Stmt := topS 45
theorem sc_put_deed : FnScope ["draft", "parts", "name", "hand", "moves", "deeds", "same"] ["draft", "parts"] (defScope s_put_deed) := ⟨rfl, rfl, rfl, by decide +kernel, rfl, by decide +kernel, by decide +kernel⟩
abbrev s_put_same : Stmt := topS 46
theorem sc_put_same : FnScope ["draft", "parts", "name", "hand", "moves", "deeds", "same"] ["draft", "parts"] (defScope s_put_same) := ⟨rfl, rfl, rfl, by decide +kernel, rfl, by decide +kernel, by decide +kernel⟩
section
variable {P : Program} {w : World} {K : PySem.W.Frag} {mg : Str → Option Value} {base : Heap} {C : Cst} {DC : Addr}
theorem ok_put_call {f : Addr} {fd : FuncData} (F : DefX K mg "put_call" s_put_call ["draft", "parts"] f fd) (T : Txt K mg) (Z : DCls K DC) (c_are_words : Cal P w K mg base CX0 2 "are_words" (spWords K)) (c_is_number : Cal P w K mg base CX0 1 "is_number" spNumber) (c_move_of : Cal P w K mg base CX0 2 "move_of" spMove) : Cal P w K mg base CX0 3 "put_call" (spPut K DC 2) := by
  refine cal_mk F sc_put_call (fun vs H Q E h => ?_) (fun cdv A outer sh H vs Q E hr h => ?_)
  · obtain ⟨dr, p, M, st, st1, l, rfl, _⟩ := h
    rfl
  · obtain ⟨dr, p, M, st, st1, l, rfl, ⟨dx, lf, lc, fvs, cvs, D⟩, hp, hk, good, stp, q⟩ := h
    cases stp with
    | m => exact absurd hk (fun e => by cases e)
    | f => exact absurd hk (fun e => by cases e)
    | d => exact absurd hk (fun e => by cases e)
    | s => exact absurd hk (fun e => by cases e)
    | @c n fs cs nm hand mv few =>
      obtain ⟨w1, w2, ml, mr⟩ := good
      rw [c_parts] at hp
      refine ⟨_, (pss_cons (ps_if (pt_cut (PW.pt (pw_or (pt_cmpR op_lt (pe_callB call_len_seq (by rfl) T.len (by decide +kernel) (pa_cons (pv 1) pa_nil)) pe_int (nomark _)) (pw_or1 (pt_not (pt_val (pe_c c_are_words hr (by first | decide | assumption) rfl (pa_cons (pe_slice sl_list (pv 1) (po_some pe_int) (po_some pe_int)) pa_nil))))))))
(pss_one (ps_ret pe_bl))
pss_nil)
(pss_cons (ps_if (pt_not (pt_val (pe_callB (cr_all rfl) (by rfl) T.all (by decide +kernel) (pa_cons (pe_lc (own := [("part", 2)]) (g := (gName 2)) (tt := tYes) rfl sc_put_call.nd (pi_list (pe_slice sl_list (pv 1) (po_some pe_int) po_none)) (blkOk_by (own := [("part", 2)]) (N := ["draft", "parts", "part", "moves"]) (sc := defScope s_put_call) (by decide +kernel)) (fun _ _ _ _ _ => (pg_name (i := 2) sc_put_call.nd rfl (Or.inl rfl))) (fun _ _ _ _ _ => pts_nil) (fun _ _ _ _ _ => (pe_cut (pe_or (pe_cmpR op_eq (pv 2) pe_str (nomark _)) (pe_one (pe_c c_is_number hr (by first | decide | assumption) rfl (pa_cons (pv 2) pa_nil))))))) pa_nil))))
(pss_one (ps_ret pe_bl))
pss_nil)
(pss_cut (ps_setLc (i := 3) (own := [("part", 2)]) (g := (gName 2)) (tt := tYes) rfl sc_put_call.nd rfl rfl (sw_true rfl rfl rfl (by decide +kernel)) (pi_list (pe_slice sl_list (pv 1) (po_some pe_int) po_none)) (blkOk_by (own := [("part", 2)]) (N := ["draft", "parts", "part", "moves"]) (sc := defScope s_put_call) (by decide +kernel)) (fun _ _ _ _ _ => (pg_name (i := 2) sc_put_call.nd rfl (Or.inl rfl))) (fun _ _ _ _ _ => pts_nil) (fun _ _ _ _ _ => (pe_c c_move_of hr (by first | decide | assumption) rfl (pa_cons (pv 2) pa_nil))))
(pss_cons (ps_expr (pe_bm PySem.F.plainAttrs_list PySem.F.slot_list_append PySem.F.type_list_append mt_append (pe_fld (pv 0) rfl) (pa_cons (pe_tup (pa_cons (pe_ix ix_list (pv 1) pe_int (fun _ _ => rfl)) (pa_cons (pe_ix ix_list (pv 1) pe_int (fun _ _ => rfl)) (pa_cons (pv 3) (pa_cons (pe_lst pa_nil) (pa_cons (pe_lst pa_nil) pa_nil)))))) pa_nil)))
(pss_one (ps_ret pe_bl)))))), ?_⟩
      refine ⟨fun t H' => t = false ∧ Same H H', ?_, ?_⟩
      · refine ⟨_, rfl, p, _, rfl, .inl hp, _, _, rfl, rfl, _, rfl, iteB (decide_eq_false ?_) ?_⟩
        · rw [List.length_cons, List.length_cons, List.length_cons]
          omega
        refine ⟨_, rfl, 1, rfl, 3, rfl, p, _, rfl, hp, fun q3 hq3 => ?_⟩
        rw [cutP_two]
        refine ⟨q3, [nm, hand], rfl, SqL.of upd_same, by show 2 ≤ 8; decide, fun z m => ?_, fun H3 e3 => ⟨true, rfl, rfl, (same_new (Same.refl _) hq3).trans e3⟩⟩
        simp only [List.mem_cons, List.not_mem_nil, or_false] at m
        rcases m with rfl | rfl
        · exact w1
        · exact w2
      rintro _ H1 ⟨rfl, e1⟩
      refine iteF ?_
      refine ⟨_, rfl, 3, rfl, p, _, rfl, e1.seq hp, fun q1 hq1 => ?_⟩
      rw [cutP_from]
      have s1 : SqL K (upd H1 q1 (.lst ((mv.map numS).map V.str))) q1 ((mv.map numS).map V.str) := SqL.of upd_same
      have e2 := same_new e1 hq1 (o := .lst ((mv.map numS).map V.str))
      generalize upd H1 q1 (.lst ((mv.map numS).map V.str)) = H2 at s1 e2
      refine ⟨q1, rfl, ⟨_, s1⟩, fun D1 hD1 => ?_⟩
      refine lc_it (walk_list (K := K) (a := q1) (xs := (mv.map numS).map V.str)) (fun i H3 => Same H2 H3 ∧ H3 D1 = some (.lst (List.replicate i (.bl true)))) ⟨same_new (Same.refl H2) hD1, upd_same⟩ (fun i H3 _ e => e.1.seq s1) ?_ ?_
      · rintro i x H4 H3 hi ⟨e3, d3⟩ ⟨rfl, hx⟩
        rw [List.getElem?_map, List.getElem?_map] at hx
        obtain ⟨z, hz, rfl⟩ := Option.map_eq_some_iff.mp hx
        obtain ⟨k, hk2, rfl⟩ := Option.map_eq_some_iff.mp hz
        have hr := mr k (List.mem_of_getElem? hk2)
        refine ⟨rfl, ?_⟩
        have fin : ∀ H5, Same H3 H5 → ∃ acc, H5 D1 = some (.lst acc) ∧ acc.length < sizeLine ∧ Same H2 (upd H5 D1 (.lst (acc ++ [V.bl true]))) ∧ upd H5 D1 (.lst (acc ++ [V.bl true])) D1 = some (.lst (List.replicate (i + 1) (.bl true))) := fun H5 e5 => by
          rw [List.length_map, List.length_map] at hi
          refine ⟨_, e5 _ _ d3, ?_, fun b o hb => ?_, ?_⟩
          · rw [List.length_replicate, sizeLine_eq]
            omega
          · rw [upd_ne (ne_of_none hb hD1)]
            exact e5 _ _ (e3 _ _ hb)
          · rw [upd_same, List.replicate_succ']
        refine ⟨fun v H5 => v = .bl true ∧ Same H3 H5, ?_, ?_⟩
        · refine ⟨_, rfl, rfl, ?_⟩
          by_cases e : k = -1
          · subst e
            rw [numS_neg]
            exact ⟨_, rfl, iteT ⟨rfl, Same.refl _⟩⟩
          · obtain ⟨d, rfl⟩ := Int.eq_ofNat_of_zero_le (show 0 ≤ k by omega)
            rw [numS_dig (by omega)]
            exact ⟨_, rfl, iteB (dig_neg d (by omega)) ⟨_, rfl, d, rfl, by omega, fun H5 e5 => ⟨rfl, e5⟩⟩⟩
        · rintro _ H5 ⟨rfl, e5⟩
          exact fin H5 e5
      rintro H3 ⟨e3, d3⟩
      rw [List.length_map, List.length_map] at d3
      refine ⟨D1, List.replicate mv.length true, rfl, ?_, true, ?_, ?_⟩
      · rw [List.map_replicate]
        exact SqL.of d3
      · simp
      refine iteF ?_
      have e03 := e2.trans e3
      refine ⟨fun σ H5 => ∃ x2 m, σ = [some (.ref dr), some (.ref p), x2, some (.ref m)] ∧ Same H H5 ∧ H m = none ∧ H5 m = some (.lst (mv.map V.int)), ?_, ?_⟩
      · refine ⟨_, rfl, 3, rfl, p, _, rfl, e03.seq hp, fun q2 hq2 => ?_⟩
        rw [cutP_from]
        have s2 : SqL K (upd H3 q2 (.lst ((mv.map numS).map V.str))) q2 ((mv.map numS).map V.str) := SqL.of upd_same
        have e4 := same_new e03 hq2 (o := .lst ((mv.map numS).map V.str))
        refine ⟨q2, rfl, ⟨_, s2⟩, fun D2 hD2 => lc_mapL (ys := mv.map V.int) s2 hD2 (by simp) (by rw [List.length_map, List.length_map]; omega) (fun i x y H5 R hx hy e r => ?_) ⟨_, D2, rfl, same_new e4 hD2, none_of e4 hD2, upd_same⟩⟩
        rw [List.getElem?_map, List.getElem?_map] at hx
        rw [List.getElem?_map] at hy
        obtain ⟨z, hz, rfl⟩ := Option.map_eq_some_iff.mp hx
        obtain ⟨k, hk2, rfl⟩ := Option.map_eq_some_iff.mp hz
        rw [hk2] at hy
        cases hy
        have hr := mr k (List.mem_of_getElem? hk2)
        exact ⟨rfl, _, rfl, k, rfl, hr.1, hr.2, r⟩
      rintro _ H5 ⟨x2, m, rfl, e5, m0, m5⟩
      have D5 := D.keep e5
      refine ⟨_, rfl, dr, DC, dx, _, .ref lc, rfl, D5.at_, Z.cls, Z.calls, rfl, .inl ⟨rfl, _, SqL.of D5.cl⟩, ?_⟩
      refine ⟨_, rfl, p, _, 1, _, rfl, rfl, e5.seq hp, at_one, _, rfl, p, _, 2, _, rfl, rfl, e5.seq hp, at_two, _, rfl, by show 0 ≤ sizeLine; decide, fun dl hdl => ⟨by show 0 ≤ sizeLine; decide, fun sl hsl => ⟨by show 5 ≤ sizeLine; decide, fun t ht => ?_⟩⟩⟩
      have e6 := same_new e5 hdl (o := .lst [])
      have e7 := same_new e6 hsl (o := .lst [])
      have e8 := same_new e7 ht (o := .tup [.str nm, .str hand, .ref m, .ref dl, .ref sl])
      have n1 : dl ≠ sl := fun e => by rw [← e, upd_same] at hsl; cases hsl
      have n2 : t ≠ sl := fun e => by rw [e, upd_same] at ht; cases ht
      have n3 : t ≠ dl := fun e => by rw [e, upd_ne n1, upd_same] at ht; cases ht
      have dm : dl ≠ m := fun e => by rw [e, m5] at hdl; cases hdl
      have sm : sl ≠ m := fun e => by rw [e, upd_ne (Ne.symm dm), m5] at hsl; cases hsl
      have tm : t ≠ m := fun e => by rw [e, upd_ne (Ne.symm sm), upd_ne (Ne.symm dm), m5] at ht; cases ht
      have add := D.addCall (nm := nm) (hand := hand) (mv := mv) e8 m0 (none_of e5 hdl) (none_of e6 hsl) (none_of e7 ht) n1 upd_same ((upd_ne (Ne.symm tm)).trans ((upd_ne (Ne.symm sm)).trans ((upd_ne (Ne.symm dm)).trans m5))) ((upd_ne (Ne.symm n3)).trans ((upd_ne n1).trans upd_same)) ((upd_ne (Ne.symm n2)).trans upd_same) dm sm
      have D8 := D.keep e8
      refine ⟨lc, cvs, .ref t, rfl, rfl, D8.cl, ?_, q _ _ add.2 add.1.t⟩
      rw [(D8.given).2.2.2.1, sizeLine_eq]
      show cs.length < _
      omega
theorem ok_put_deed {f : Addr} {fd : FuncData} (F : DefX K mg "put_deed" s_put_deed ["draft", "parts"] f fd) (T : Txt K mg) (Z : DCls K DC) (c_are_words : Cal P w K mg base CX0 2 "are_words" (spWords K)) : Cal P w K mg base CX0 3 "put_deed" (spPut K DC 3) := by
  refine cal_mk F sc_put_deed (fun vs H Q E h => ?_) (fun cdv A outer sh H vs Q E hr h => ?_)
  · obtain ⟨dr, p, M, st, st1, l, rfl, _⟩ := h
    rfl
  · obtain ⟨dr, p, M, st, st1, l, rfl, ⟨dx, lf, lc, fvs, cvs, D⟩, hp, hk, good, stp, q⟩ := h
    cases stp with
    | m => exact absurd hk (fun e => by cases e)
    | f => exact absurd hk (fun e => by cases e)
    | c => exact absurd hk (fun e => by cases e)
    | s => exact absurd hk (fun e => by cases e)
    | @d n fs cs nm hand mv ds d few few2 =>
      obtain ⟨w1, w2⟩ := good
      have hp : SqL K H p [.str "do", .str d.1, .str d.2] := hp
      refine ⟨_, (pss_cons (ps_if (pt_cut (PW.pt (pw_or (pt_cmpR op_ne (pe_callB call_len_seq (by rfl) T.len (by decide +kernel) (pa_cons (pv 1) pa_nil)) pe_int (nomark _)) (pw_or (pt_not (pt_val (pe_c c_are_words hr (by first | decide | assumption) rfl (pa_cons (pe_slice sl_list (pv 1) (po_some pe_int) po_none) pa_nil)))) (pw_or1 (pt_cmpR op_eq (pe_callB call_len_seq (by rfl) T.len (by decide +kernel) (pa_cons (pe_fld (pv 0) rfl) pa_nil)) pe_int (nomark _)))))))
(pss_one (ps_ret pe_bl))
pss_nil)
(pss_cons (ps_asg (pe_ix ix_list (pe_fld (pv 0) rfl) (pe_un un_neg pe_int) (fun _ _ => rfl)) (pg_tup (by rfl) (pgs_cons (pg_name (i := 2) sc_put_deed.nd rfl (Or.inl rfl)) (pgs_cons (pg_name (i := 3) sc_put_deed.nd rfl (Or.inl rfl)) (pgs_cons (pg_name (i := 4) sc_put_deed.nd rfl (Or.inl rfl)) (pgs_cons (pg_name (i := 5) sc_put_deed.nd rfl (Or.inl rfl)) (pgs_cons (pg_name (i := 6) sc_put_deed.nd rfl (Or.inl rfl)) pgs_nil)))))))
(pss_cons (ps_if (pt_cmpR op_gt (pe_callB call_len_seq (by rfl) T.len (by decide +kernel) (pa_cons (pv 6) pa_nil)) pe_int (nomark _))
(pss_one (ps_ret pe_bl))
pss_nil)
(pss_cons (ps_expr (pe_bm PySem.F.plainAttrs_list PySem.F.slot_list_append PySem.F.type_list_append mt_append (pv 5) (pa_cons (pe_tup (pa_cons (pe_ix ix_list (pv 1) pe_int (fun _ _ => rfl)) (pa_cons (pe_ix ix_list (pv 1) pe_int (fun _ _ => rfl)) pa_nil))) pa_nil)))
(pss_one (ps_ret pe_bl)))))), ?_⟩
      obtain ⟨cvs0, v, rfl, ha, t, m, dl, sl, dvs, rfl, h1, h2, h3, h4, h5, h6⟩ := D.cs.last
      refine ⟨fun t H' => t = false ∧ Same H H', ?_, ?_⟩
      · refine ⟨_, rfl, p, _, rfl, .inl hp, rfl, _, rfl, iteB rfl ?_⟩
        refine ⟨_, rfl, 1, rfl, p, _, rfl, hp, fun q3 hq3 => ?_⟩
        rw [show cutV [V.str "do", .str d.1, .str d.2] (some 1) none = [V.str d.1, .str d.2] from rfl]
        refine ⟨q3, [d.1, d.2], rfl, SqL.of upd_same, by show 2 ≤ 8; decide, fun z m => ?_, fun H3 e3 => ⟨true, rfl, iteF ?_⟩⟩
        · simp only [List.mem_cons, List.not_mem_nil, or_false] at m
          rcases m with rfl | rfl
          · exact w1
          · exact w2
        have e03 := (same_new (Same.refl _) hq3).trans e3
        have D3 := D.keep e03
        refine ⟨_, rfl, dr, DC, dx, _, .ref lc, rfl, D3.at_, Z.cls, Z.calls, rfl, lc, _, rfl, .inl (SqL.of D3.cl), rfl, _, rfl, decide_eq_false (fun e => ?_), e03⟩
        have e := V.int.inj e
        rw [List.length_append] at e
        have : [V.ref t].length = 1 := rfl
        omega
      rintro _ H1 ⟨rfl, e1⟩
      refine iteF ?_
      have D1 := D.keep e1
      refine ⟨_, rfl, dr, DC, dx, _, .ref lc, rfl, D1.at_, Z.cls, Z.calls, rfl, _, rfl, lc, _, -1, _, rfl, rfl, SqL.of D1.cl, atI_last _ _, t, _, rfl, SqT.of (e1 _ _ (hid_same _ _ h1)), rfl, _, _, rfl, _, _, rfl, _, _, rfl, _, _, rfl, _, _, rfl, rfl, ?_⟩
      refine ⟨_, rfl, sl, _, rfl, .inl (SqL.of (e1 _ _ h6)), _, _, rfl, rfl, _, rfl, iteB rfl ?_⟩
      refine ⟨_, rfl, .inl ⟨rfl, _, SqL.of (e1 _ _ h4)⟩, _, rfl, p, _, 1, _, rfl, rfl, e1.seq hp, at_one, _, rfl, p, _, 2, _, rfl, rfl, e1.seq hp, at_two, by show 2 ≤ sizeLine; decide, fun u hu => ?_⟩
      have e2 := same_new e1 hu (o := .tup (DeV d))
      have D2 := D.keep e2
      refine ⟨dl, dvs, .ref u, rfl, rfl, e2 _ _ h4, ?_, ?_⟩
      · rw [h5.1, sizeLine_eq]
        show ds.length < _
        omega
      · have hv : DeT K (Hid M (upd H1 u (.tup (DeV d)))) (.ref u) d := ⟨u, rfl, SqT.of (hid_get upd_same ((D.keep e1).new hu))⟩
        have kp := hid_keep (M := M) e2
        exact q M _ (hid_put e2 h3.1) (D2.addDeed (ha.mono fun _ _ h => CdA.keep kp h) (kp _ _ h1) (kp _ _ h2) h3 (e2 _ _ h4) (h5.mono fun _ _ h => DeT.keep kp h) (e2 _ _ h6) hv).t
theorem ok_put_same {f : Addr} {fd : FuncData} (F : DefX K mg "put_same" s_put_same ["draft", "parts"] f fd) (T : Txt K mg) (Z : DCls K DC) (c_are_words : Cal P w K mg base CX0 2 "are_words" (spWords K)) : Cal P w K mg base CX0 3 "put_same" (spPut K DC 4) := by
  refine cal_mk F sc_put_same (fun vs H Q E h => ?_) (fun cdv A outer sh H vs Q E hr h => ?_)
  · obtain ⟨dr, p, M, st, st1, l, rfl, _⟩ := h
    rfl
  · obtain ⟨dr, p, M, st, st1, l, rfl, ⟨dx, lf, lc, fvs, cvs, D⟩, hp, hk, good, stp, q⟩ := h
    cases stp with
    | m => exact absurd hk (fun e => by cases e)
    | f => exact absurd hk (fun e => by cases e)
    | c => exact absurd hk (fun e => by cases e)
    | d => exact absurd hk (fun e => by cases e)
    | @s n fs cs nm hand mv ds ss x few few2 =>
      have w1 : wordB x = true := good
      have hp : SqL K H p [.str "same", .str x] := hp
      refine ⟨_, (pss_cons (ps_if (pt_cut (PW.pt (pw_or (pt_cmpR op_ne (pe_callB call_len_seq (by rfl) T.len (by decide +kernel) (pa_cons (pv 1) pa_nil)) pe_int (nomark _)) (pw_or (pt_not (pt_val (pe_c c_are_words hr (by first | decide | assumption) rfl (pa_cons (pe_slice sl_list (pv 1) (po_some pe_int) po_none) pa_nil)))) (pw_or1 (pt_cmpR op_eq (pe_callB call_len_seq (by rfl) T.len (by decide +kernel) (pa_cons (pe_fld (pv 0) rfl) pa_nil)) pe_int (nomark _)))))))
(pss_one (ps_ret pe_bl))
pss_nil)
(pss_cons (ps_asg (pe_ix ix_list (pe_fld (pv 0) rfl) (pe_un un_neg pe_int) (fun _ _ => rfl)) (pg_tup (by rfl) (pgs_cons (pg_name (i := 2) sc_put_same.nd rfl (Or.inl rfl)) (pgs_cons (pg_name (i := 3) sc_put_same.nd rfl (Or.inl rfl)) (pgs_cons (pg_name (i := 4) sc_put_same.nd rfl (Or.inl rfl)) (pgs_cons (pg_name (i := 5) sc_put_same.nd rfl (Or.inl rfl)) (pgs_cons (pg_name (i := 6) sc_put_same.nd rfl (Or.inl rfl)) pgs_nil)))))))
(pss_cons (ps_expr (pe_bm PySem.F.plainAttrs_list PySem.F.slot_list_append PySem.F.type_list_append mt_append (pv 6) (pa_cons (pe_ix ix_list (pv 1) pe_int (fun _ _ => rfl)) pa_nil)))
(pss_one (ps_ret pe_bl))))), ?_⟩
      obtain ⟨cvs0, v, rfl, ha, t, m, dl, sl, dvs, rfl, h1, h2, h3, h4, h5, h6⟩ := D.cs.last
      refine ⟨fun t H' => t = false ∧ Same H H', ?_, ?_⟩
      · refine ⟨_, rfl, p, _, rfl, .inl hp, rfl, _, rfl, iteB rfl ?_⟩
        refine ⟨_, rfl, 1, rfl, p, _, rfl, hp, fun q3 hq3 => ?_⟩
        rw [show cutV [V.str "same", .str x] (some 1) none = [V.str x] from rfl]
        refine ⟨q3, [x], rfl, SqL.of upd_same, by show 1 ≤ 8; decide, fun z m => ?_, fun H3 e3 => ⟨true, rfl, iteF ?_⟩⟩
        · rw [List.mem_singleton.mp m]
          exact w1
        have e03 := (same_new (Same.refl _) hq3).trans e3
        have D3 := D.keep e03
        refine ⟨_, rfl, dr, DC, dx, _, .ref lc, rfl, D3.at_, Z.cls, Z.calls, rfl, lc, _, rfl, .inl (SqL.of D3.cl), rfl, _, rfl, decide_eq_false (fun e => ?_), e03⟩
        have e := V.int.inj e
        rw [List.length_append] at e
        have : [V.ref t].length = 1 := rfl
        omega
      rintro _ H1 ⟨rfl, e1⟩
      refine iteF ?_
      have D1 := D.keep e1
      refine ⟨_, rfl, dr, DC, dx, _, .ref lc, rfl, D1.at_, Z.cls, Z.calls, rfl, _, rfl, lc, _, -1, _, rfl, rfl, SqL.of D1.cl, atI_last _ _, t, _, rfl, SqT.of (e1 _ _ (hid_same _ _ h1)), rfl, _, _, rfl, _, _, rfl, _, _, rfl, _, _, rfl, _, _, rfl, rfl, ?_⟩
      have kp := hid_keep (M := M) e1
      refine ⟨_, rfl, .inl ⟨rfl, _, SqL.of (e1 _ _ h6)⟩, _, rfl, p, _, 1, _, rfl, rfl, e1.seq hp, at_one, sl, _, .str x, rfl, rfl, e1 _ _ h6, ?_, ?_⟩
      · rw [List.length_map, sizeLine_eq]
        show ss.length < _
        omega
      · exact q M _ (hid_put e1 h3.2.1) (D1.addSame (ha.mono fun _ _ h => CdA.keep kp h) (kp _ _ h1) (kp _ _ h2) h3 (e1 _ _ h4) (h5.mono fun _ _ h => DeT.keep kp h) (e1 _ _ h6)).t
end
end MK
set_option Elab.async false
set_option linter.all false
set_option autoImplicit false
set_option maxRecDepth 100000
set_option maxHeartbeats 4000000
namespace MK
open PySem PySem.Spec PyProof.Rows L2
local macro_rules | `(tactic| walk_at "x") => `(tactic| dsimp only [tSeq, tAsg, tRet, tDrop, tLst, tTup, tCons, tOp, tUn, tIfS])
/-! ### a text is read -/
abbrev s_put_line : Stmt := topS 41
theorem sc_put_line : FnScope ["draft", "parts", "head"] ["draft", "parts"] (defScope s_put_line) := ⟨rfl, rfl, rfl, by decide +kernel, rfl, by decide +kernel, by decide +kernel⟩
abbrev s_read_draft : Stmt := topS 40
theorem sc_read_draft : FnScope ["text", "lines", "draft", "number", "line"] ["text"] (defScope s_read_draft) := ⟨rfl, rfl, rfl, by decide +kernel, rfl, by decide +kernel, by decide +kernel⟩
def spPutLine (K : PySem.W.Frag) (DC : Addr) : Sp := fun vs H Q _ => ∃ (dr p : Addr) (M : List Addr) (st st1 : Dra) (l : Ln), vs = [.ref dr, .ref p] ∧ DrT K DC H M dr st ∧ SqL K H p (ptV l) ∧ LnGood l ∧ Step st l st1 ∧
  ∀ M' H', Same (Hid M H) (Hid M' H') → DrT K DC H' M' dr st1 → Q (.bl true) H'
theorem walk_enumF {K : PySem.W.Frag} {m : Nat} {a : Addr} {xs : List V} : Walk (IteF K m a) xs.length (fun H => SqL K H a xs) (YPair (fun i => some (.int ((i + m : Nat) : Int))) (fun i => xs[i]?)) := by
  refine ⟨fun i _ hi q => ⟨xs, xs[i], q, by simp [hi]⟩, fun _ q => ⟨xs, q, Nat.le_refl _⟩, fun i H v H' _ q y => ?_⟩
  obtain ⟨T, x, h1, h2, h3, h4⟩ := y
  exact ⟨T, .int ((i + m : Nat) : Int), x, h1, h2, h3, rfl, h4 xs q⟩
theorem cut_init {xs : List V} {v : V} : cutV (xs ++ [v]) none (some (-1)) = xs := by
  unfold cutV
  rw [HT.sIx_none]
  have e : HT.sIx (xs ++ [v]).length (xs ++ [v]).length (some (-1)) = xs.length := by
    unfold HT.sIx
    have l : (xs ++ [v]).length = xs.length + 1 := by simp
    rw [l]
    show (if (-1 : Int) < 0 then ((-1 : Int) + ((xs.length + 1 : Nat) : Int)).toNat else _) = _
    rw [if_pos (by decide)]
    omega
  rw [e, Nat.sub_zero, List.drop_zero]
  simp
structure DMk (P : Program) (w : World) (K : PySem.W.Frag) (mg : Str → Option Value) (base : Heap) (DC : Addr) : Prop where
  ex : ∃ (f : Addr) (fd : FuncData), Mk K DC f ∧ FnOk P w K mg base CX0 1 f fd ["self"] (spDInit K DC) ∧ Binds K fd ["self"] []
  g : mg "Draft" = some (.ref DC)
theorem pe_draft {X : Cx} {DC : Addr} {j : Nat} {p pos : Pos} (c : DMk X.prog X.w X.K X.mg X.base DC) (hr : Room j X.A) (hk : 2 ≤ j) (hg : Gl X "Draft") : PE X (.Call (.Name "Draft" p) [] [] pos) (tMake DC (spDInit X.K DC) [] E0 tNil) := by
  obtain ⟨f, fd, M, F, hb⟩ := c.ex
  exact pe_make0 M F (hr.mono hk) hg c.g hb .nil pass0
def spRead (K : PySem.W.Frag) (DC : Addr) : Sp := fun vs H Q _ => ∃ (ls : List Ln) (fin : Dra), vs = [.str (textK ls)] ∧ ls ≠ [] ∧ ls.length ≤ 100 ∧ (∀ l ∈ ls, LnGood l) ∧ Goes ⟨none, [], []⟩ ls fin ∧
  ∀ dr M H', Same H (Hid M H') → DrT K DC H' M dr fin → Q (.ref dr) H'
theorem Step.some' {a b : Dra} {l : Ln} (h : Step a l b) (n : l.kd ≠ 0) : ∃ m, a.modes = some m := by
  cases h with
  | m => exact absurd rfl n
  | @f m => exact ⟨m, rfl⟩
  | @c m => exact ⟨m, rfl⟩
  | @d m => exact ⟨m, rfl⟩
  | @s m => exact ⟨m, rfl⟩
def hdS (k : Nat) : Str := (["modes", "field", "call", "do", "same"] : List Str).getD k ""
theorem hd_is {i k : Nat} (hk : k < 5) (hi : i < 5) (n : k ≠ i) : decide (V.str (hdS k) = V.str (hdS i)) = false := by
  have h := (by decide +kernel : ∀ k i : Fin 5, k.val ≠ i.val → decide (V.str (hdS k.val) = V.str (hdS i.val)) = false)
  exact h ⟨k, hk⟩ ⟨i, hi⟩ n
theorem Ln.kd_lt (l : Ln) : l.kd < 5 := by
  cases l
  · show 0 < 5
    decide
  · show 1 < 5
    decide
  · show 2 < 5
    decide
  · show 3 < 5
    decide
  · show 4 < 5
    decide
theorem Goes.step {ls : List Ln} {a b : Dra} {l : Ln} {i : Nat} (h : Goes a (ls.drop i) b) (hl : ls[i]? = some l) : ∃ c, Step a l c ∧ Goes c (ls.drop (i + 1)) b := by
  rw [step_tail hl] at h
  cases h with
  | cons s g => exact ⟨_, s, g⟩
section
variable {P : Program} {w : World} {K : PySem.W.Frag} {mg : Str → Option Value} {base : Heap} {C : Cst} {DC : Addr}
theorem ok_put_line {f : Addr} {fd : FuncData} (F : DefX K mg "put_line" s_put_line ["draft", "parts"] f fd) (T : Txt K mg) (Z : DCls K DC) (c_put_modes : Cal P w K mg base CX0 2 "put_modes" (spPut K DC 0)) (c_put_field : Cal P w K mg base CX0 3 "put_field" (spPut K DC 1)) (c_put_call : Cal P w K mg base CX0 3 "put_call" (spPut K DC 2)) (c_put_deed : Cal P w K mg base CX0 3 "put_deed" (spPut K DC 3)) (c_put_same : Cal P w K mg base CX0 3 "put_same" (spPut K DC 4)) : Cal P w K mg base CX0 4 "put_line" (spPutLine K DC) := by
  refine cal_mk F sc_put_line (fun vs H Q E h => ?_) (fun cdv A outer sh H vs Q E hr h => ?_)
  · obtain ⟨dr, p, M, st, st1, l, rfl, _⟩ := h
    rfl
  · obtain ⟨dr, p, M, st, st1, l, rfl, D, hp, good, stp, q⟩ := h
    have put : ∀ k, l.kd = k → spPut K DC k [.ref dr, .ref p] H Q E0 := fun k e => ⟨dr, p, M, st, st1, l, rfl, D, hp, e, good, stp, q⟩
    refine ⟨_, (pss_cons (ps_set (i := 2) sc_put_line.nd rfl (Or.inl rfl) (pe_ix ix_list (pv 1) pe_int (fun _ _ => rfl)))
(pss_cons (ps_if (pt_cmpR op_eq (pv 2) pe_str (nomark _))
(pss_one (ps_ret (pe_c c_put_modes hr (by first | decide | assumption) rfl (pa_cons (pv 0) (pa_cons (pv 1) pa_nil)))))
pss_nil)
(pss_cons (ps_if (pt_cmpR op_isN (pe_fld (pv 0) rfl) pe_non (nomark _))
(pss_one (ps_ret pe_bl))
pss_nil)
(pss_cons (ps_if (pt_cmpR op_eq (pv 2) pe_str (nomark _))
(pss_one (ps_ret (pe_c c_put_field hr (by first | decide | assumption) rfl (pa_cons (pv 0) (pa_cons (pv 1) pa_nil)))))
pss_nil)
(pss_cons (ps_if (pt_cmpR op_eq (pv 2) pe_str (nomark _))
(pss_one (ps_ret (pe_c c_put_call hr (by first | decide | assumption) rfl (pa_cons (pv 0) (pa_cons (pv 1) pa_nil)))))
pss_nil)
(pss_cons (ps_if (pt_cmpR op_eq (pv 2) pe_str (nomark _))
(pss_one (ps_ret (pe_c c_put_deed hr (by first | decide | assumption) rfl (pa_cons (pv 0) (pa_cons (pv 1) pa_nil)))))
pss_nil)
(pss_cons (ps_if (pt_cmpR op_eq (pv 2) pe_str (nomark _))
(pss_one (ps_ret (pe_c c_put_same hr (by first | decide | assumption) rfl (pa_cons (pv 0) (pa_cons (pv 1) pa_nil)))))
pss_nil)
(pss_one (ps_ret pe_bl))))))))), ?_⟩
    have hd : ∃ (z : Str) (r : List V), ptV l = .str z :: r ∧ z = hdS l.kd := by
      cases l <;> exact ⟨_, _, rfl, rfl⟩
    obtain ⟨z, r, ez, hz⟩ := hd
    rw [ez] at hp
    refine ⟨_, rfl, p, _, 0, .str z, rfl, rfl, hp, at_zero, ?_⟩
    by_cases h0 : l.kd = 0
    · rw [h0] at hz
      subst hz
      exact ⟨_, rfl, rfl, _, rfl, iteA (by decide +kernel) ⟨_, rfl, _, rfl, put 0 h0⟩⟩
    obtain ⟨m, hm⟩ := stp.some' h0
    have n0 : decide (V.str z = V.str "modes") = false := by
      rw [hz]
      exact hd_is (i := 0) l.kd_lt (by decide) h0
    refine ⟨_, rfl, rfl, _, rfl, iteB n0 ?_⟩
    obtain ⟨dx, lf, lc, fvs, cvs, D⟩ := D
    have at_ := D.at_
    rw [hm] at at_
    refine ⟨_, rfl, dr, DC, dx, _, .int m, rfl, at_, Z.cls, Z.modes, rfl, rfl, _, rfl, iteB rfl ?_⟩
    by_cases h1 : l.kd = 1
    · rw [h1] at hz
      subst hz
      exact ⟨_, rfl, rfl, _, rfl, iteA (by decide +kernel) ⟨_, rfl, _, rfl, put 1 h1⟩⟩
    have n1 : decide (V.str z = V.str "field") = false := by
      rw [hz]
      exact hd_is (i := 1) l.kd_lt (by decide) h1
    refine ⟨_, rfl, rfl, _, rfl, iteB n1 ?_⟩
    by_cases h2 : l.kd = 2
    · rw [h2] at hz
      subst hz
      exact ⟨_, rfl, rfl, _, rfl, iteA (by decide +kernel) ⟨_, rfl, _, rfl, put 2 h2⟩⟩
    have n2 : decide (V.str z = V.str "call") = false := by
      rw [hz]
      exact hd_is (i := 2) l.kd_lt (by decide) h2
    refine ⟨_, rfl, rfl, _, rfl, iteB n2 ?_⟩
    by_cases h3 : l.kd = 3
    · rw [h3] at hz
      subst hz
      exact ⟨_, rfl, rfl, _, rfl, iteA (by decide +kernel) ⟨_, rfl, _, rfl, put 3 h3⟩⟩
    have n3 : decide (V.str z = V.str "do") = false := by
      rw [hz]
      exact hd_is (i := 3) l.kd_lt (by decide) h3
    refine ⟨_, rfl, rfl, _, rfl, iteB n3 ?_⟩
    have h4 : l.kd = 4 := by
      have := l.kd_lt
      omega
    rw [h4] at hz
    subst hz
    exact ⟨_, rfl, rfl, _, rfl, iteA (by decide +kernel) ⟨_, rfl, _, rfl, put 4 h4⟩⟩
theorem ok_read {f : Addr} {fd : FuncData} (F : DefX K mg "read_draft" s_read_draft ["text"] f fd) (T : Txt K mg) (Z : DCls K DC) (c_Draft : DMk P w K mg base DC) (c_put_line : Cal P w K mg base CX0 4 "put_line" (spPutLine K DC)) : Cal P w K mg base CX0 5 "read_draft" (spRead K DC) := by
  refine cal_mk F sc_read_draft (fun vs H Q E h => ?_) (fun cdv A outer sh H vs Q E hr h => ?_)
  · obtain ⟨ls, fin, rfl, _⟩ := h
    rfl
  · obtain ⟨ls, fin, rfl, ne, few, good, go, q⟩ := h
    have ok : ∀ l ∈ ls, LnOk l := fun l m => (good l m).ok
    refine ⟨_, (pss_cons (ps_if (pt_not (pt_val (pe_callB call_isi (by rfl) T.isinstance (by decide +kernel) (pa_cons (pv 0) (pa_cons (pe_tyv (n := "str") (by rfl) T.str (by decide +kernel)) pa_nil)))))
(pss_one (ps_never))
pss_nil)
(pss_cons (ps_set (i := 1) sc_read_draft.nd rfl (Or.inl rfl) (pe_split (pv 0) pe_str))
(pss_cons (ps_set (i := 2) sc_read_draft.nd rfl (Or.inl rfl) (pe_draft c_Draft hr (by first | decide | assumption) rfl))
(pss_cons (ps_for PassesOwn.never rfl (pi_enumF (m := 1) (by decide) (by rfl) T.enumerate (pa_cons (pe_slice sl_list (pv 1) po_none (po_some (pe_un un_neg pe_int))) pa_nil) (pk_cons pe_int pk_nil)) (pg_tup (by rfl) (pgs_cons (pg_name (i := 3) sc_read_draft.nd rfl (Or.inl rfl)) (pgs_cons (pg_name (i := 4) sc_read_draft.nd rfl (Or.inl rfl)) pgs_nil)))
(pss_one (ps_if (pt_not (pt_val (pe_c c_put_line hr (by first | decide | assumption) rfl (pa_cons (pv 2) (pa_cons (pe_split (pv 4) pe_str) pa_nil)))))
(pss_one (ps_never))
pss_nil)))
(pss_cons (ps_if (pt_cut (PW.pt (pw_or (pt_cmpR op_ne (pe_ix ix_list (pv 1) (pe_un un_neg pe_int) (fun _ _ => rfl)) pe_str (nomark _)) (pw_or1 (pt_cmpR op_eq (pe_callB call_len_seq (by rfl) T.len (by decide +kernel) (pa_cons (pv 1) pa_nil)) pe_int (nomark _))))))
(pss_one (ps_never))
pss_nil)
(pss_one (ps_ret (pv 2)))))))), ?_⟩
    refine ⟨_, rfl, _, _, _, _, true, rfl, .ty _, .base (.str _), kit_ty (by decide +kernel), true, rfl, iteF ?_⟩
    refine ⟨_, rfl, ⟨_, rfl⟩, _, ("\n" : Str), rfl, rfl, by decide +kernel, ?_, fun a ha => ?_⟩
    · have := textK_len ok few
      rw [sizeLine_eq]
      omega
    rw [split_lines ok, List.map_append, List.map_map]
    have e1 := same_new (Same.refl H) ha (o := .lst (ls.map lnV ++ [.str Str.empty]))
    have a1 : upd H a (.lst (ls.map lnV ++ [.str Str.empty])) a = some (.lst (ls.map lnV ++ [.str Str.empty])) := upd_same
    show tSeq _ _ _ _ (upd H a (.lst (ls.map lnV ++ [.str Str.empty])))
    generalize upd H a (.lst (ls.map lnV ++ [.str Str.empty])) = H1 at e1 a1
    intro x dx hx hdx dxx
    refine ⟨x, dx, rfl, upd_same, fun lf lc H2 e2 hf hc fc x2 f2 c2 => ⟨rfl, ?_⟩⟩
    have up : ∀ b o, H1 b = some o → b ≠ x ∧ b ≠ dx ∧ b ≠ lf ∧ b ≠ lc ∧ H2 b = some o := fun b o hb => by
      have n1 : b ≠ x := fun e => by rw [e, hx] at hb; cases hb
      have n2 : b ≠ dx := fun e => by rw [e, hdx] at hb; cases hb
      have hb2 : upd (upd H1 dx (.own x)) x (.ins DC dx []) b = some o := by rw [upd_ne n1, upd_ne n2]; exact hb
      exact ⟨n1, n2, (fun e => by rw [e, hf] at hb2; cases hb2), (fun e => by rw [e, hc] at hb2; cases hb2), e2 _ _ hb2 n1⟩
    have s2 : Same H1 (Hid [x, lf, lc] H2) := fun b o hb => by
      obtain ⟨n1, n2, n3, n4, h2⟩ := up b o hb
      exact hid_get h2 (by simp [n1, n3, n4])
    have D2 : DrA K DC H2 [x, lf, lc] x dx lf lc [] [] ⟨none, [], []⟩ := { live := fun b hb => by
                                                                             simp only [List.mem_cons, List.not_mem_nil, or_false] at hb
                                                                             rcases hb with rfl | rfl | rfl
                                                                             · rw [x2]; exact nofun
                                                                             · rw [f2]; exact nofun
                                                                             · rw [c2]; exact nofun
                                                                           mem := ⟨by simp, by simp, by simp, fc⟩, at_ := x2, fl := f2, fs := Al.nil, cl := c2, cs := .inl ⟨rfl, rfl⟩ }
    have s2' : SqL K H2 a (ls.map lnV ++ [.str Str.empty]) := SqL.of (hid_same _ _ (s2 _ _ a1))
    refine ⟨_, rfl, _, rfl, -1, rfl, a, _, rfl, s2', fun b hb => ?_⟩
    rw [cut_init]
    have b3 : upd H2 b (.lst (ls.map lnV)) b = some (.lst (ls.map lnV)) := upd_same
    have e3 := same_new (Same.refl H2) hb (o := .lst (ls.map lnV))
    have s3 : Same H1 (Hid [x, lf, lc] (upd H2 b (.lst (ls.map lnV)))) := s2.trans (hid_keep e3)
    have D3 := D2.keep e3
    have b3' : Hid [x, lf, lc] (upd H2 b (.lst (ls.map lnV))) b = some (.lst (ls.map lnV)) := hid_get b3 (D2.new hb)
    generalize upd H2 b (.lst (ls.map lnV)) = H3 at b3 s3 D3 b3'
    refine ⟨b, ls.map lnV, rfl, rfl, SqL.of b3, ?_⟩
    refine for_it (walk_enumF (K := K) (m := 1) (a := b) (xs := ls.map lnV)) (fun i σ H4 => ∃ (M : List Addr) (st : Dra) (x3 x4 : Option V), σ = [some (.str (textK ls)), some (.ref a), some (.ref x), x3, x4] ∧ Same H1 (Hid M H4) ∧ Hid M H4 b = some (.lst (ls.map lnV)) ∧ DrT K DC H4 M x st ∧ Goes st (ls.drop i) fin)
      ⟨_, _, none, none, rfl, s3, b3', D3.t, go⟩ (fun i σ H4 _ h => ?_) ?_ ?_
    · obtain ⟨M, st, x3, x4, rfl, _, hb4, _⟩ := h
      exact SqL.of (hid_same _ _ hb4)
    · rintro i v σ H4 H5 hi ⟨M, st, x3, x4, rfl, s4, b4, D4, g4⟩ ⟨U, _, y, rfl, hU, rfl, h1, hy⟩
      obtain rfl := Option.some.inj h1
      have hy : (ls.map lnV)[i]? = some y := hy
      rw [List.getElem?_map] at hy
      obtain ⟨l, hl, rfl⟩ := Option.map_eq_some_iff.mp hy
      have lm := List.mem_of_getElem? hl
      obtain ⟨st1, stp, g5⟩ := g4.step hl
      have e5 := same_new (Same.refl H4) hU (o := .tup [.int ((i + 1 : Nat) : Int), lnV l])
      refine ⟨U, _, rfl, SqT.of upd_same, rfl, _, _, rfl, _, _, rfl, rfl, ?_⟩
      refine ⟨_, rfl, _, rfl, ⟨_, rfl⟩, l.text, (" " : Str), rfl, rfl, by decide +kernel, ?_, fun p hp => ?_⟩
      · have := text_len (ok l lm)
        rw [sizeLine_eq]
        omega
      rw [split_parts (ok l lm)]
      have e6 := same_new e5 hp (o := .lst (l.parts.map V.str))
      obtain ⟨ddx, dlf, dlc, dfvs, dcvs, D4⟩ := D4
      refine ⟨x, p, M, st, st1, l, rfl, (D4.keep e6).t, SqL.of upd_same, good l lm, stp, fun M' H6 e7 D6 => ⟨true, rfl, iteF ?_⟩⟩
      have kp : Same (Hid M H4) (Hid M' H6) := (hid_keep e6).trans e7
      exact ⟨M', st1, _, _, rfl, s4.trans kp, kp _ _ b4, D6, g5⟩
    · rintro σ H4 ⟨M, st, x3, x4, rfl, s4, b4, D4, g4⟩
      rw [List.length_map, List.drop_length] at g4
      cases g4
      have s4' : SqL K H4 a (ls.map lnV ++ [.str Str.empty]) := SqL.of (hid_same _ _ (s4 _ _ a1))
      refine ⟨fun t H' => t = false ∧ H' = H4, ?_, ?_⟩
      · refine ⟨_, rfl, _, rfl, a, _, -1, _, rfl, rfl, s4', atI_last _ _, rfl, _, rfl, iteB (by decide +kernel) ?_⟩
        refine ⟨_, rfl, a, _, rfl, .inl s4', rfl, _, rfl, decide_eq_false (fun e => ?_), rfl⟩
        have e := V.int.inj e
        have l0 : 0 < ls.length := List.length_pos_iff.mpr ne
        rw [List.length_append, List.length_map] at e
        have : [V.str Str.empty].length = 1 := rfl
        omega
      rintro _ _ ⟨rfl, rfl⟩
      refine iteF ?_
      exact ⟨_, rfl, q x M _ (e1.trans s4) D4⟩
end
end MK
set_option Elab.async false
set_option linter.all false
set_option autoImplicit false
set_option maxRecDepth 100000
set_option maxHeartbeats 4000000
namespace MK
open PySem PySem.Spec PyProof.Rows L2
local macro_rules | `(tactic| walk_at "x") => `(tactic| dsimp only [tSeq, tAsg, tRet, tDrop, tLst, tTup, tCons, tOp, tUn, tIfS])
/-! ### the law's lines; Kind.text, Kind.of_text -/
abbrev s_lines : Stmt := topS 64
theorem sc_lines : FnScope ["_law_p", "_law_found", "_law_name", "_law_sort", "_law_need", "_law_hand", "_law_moves", "_law_deeds_here", "_law_same_here", "_law_x"] ["_law_p"] (defScope s_lines) := ⟨rfl, rfl, rfl, by decide +kernel, rfl, by decide +kernel, by decide +kernel⟩
abbrev s_Kind_text : Stmt := inClass (topS 52) 11
theorem sc_Kind_text : FnScope ["self"] ["self"] (defScope s_Kind_text) := ⟨rfl, rfl, rfl, by decide +kernel, rfl, by decide +kernel, by decide +kernel⟩
abbrev s_Kind_of_text : Stmt := inClass (topS 52) 12
theorem sc_Kind_of_text : FnScope ["text", "draft"] ["text"] (defScope s_Kind_of_text) := ⟨rfl, rfl, rfl, by decide +kernel, rfl, by decide +kernel, by decide +kernel⟩
def spLL (K : PySem.W.Frag) (KC : Addr) : Sp := fun vs H Q _ => ∃ (v : V) (fs : List FD) (n : Nat) (cs : List CD), vs = [v] ∧ PlanA K KC H v fs n cs ∧ KdOk fs n cs ∧ ∀ p H', Same H H' → H' p = some (.lst ((items fs n cs).map lnV)) → Q (.ref p) H'
def spKText (K : PySem.W.Frag) (KC : Addr) : Sp := fun vs H Q _ => ∃ (v : V) (fs : List FD) (n : Nat) (cs : List CD), vs = [v] ∧ KdA K KC H v fs n cs ∧ KdOk fs n cs ∧ ∀ H', Same H H' → Q (.str (textK (items fs n cs))) H'
def spKOf (K : PySem.W.Frag) (KC : Addr) : Sp := fun vs H Q _ => ∃ (fs : List FD) (n : Nat) (cs : List CD), vs = [.str (textK (items fs n cs))] ∧ KdOk fs n cs ∧ ∀ v H', Same H H' → KdA K KC H' v fs n cs → Q v H'
section
variable {P : Program} {w : World} {K : PySem.W.Frag} {mg : Str → Option Value} {base : Heap} {C : Cst} {KC DC : Addr}
theorem ok_llines {f : Addr} {fd : FuncData} (F : DefX K mg "_law_lines" s_lines ["_law_p"] f fd) (T : Txt K mg) : Cal P w K mg base CX0 1 "_law_lines" (spLL K KC) := by
  refine cal_mk F sc_lines (fun vs H Q E h => ?_) (fun cdv A outer sh H vs Q E hr h => ?_)
  · obtain ⟨v, fs, n, cs, rfl, _⟩ := h
    rfl
  · obtain ⟨v, fs, n, cs, rfl, ⟨p, l1, l2, kv, fvs, cvs, rfl, hp, h1, a1, h2, a2, _⟩, ok, q⟩ := h
    have hn := ok.le
    refine ⟨_, (pss_cut (ps_set (i := 1) sc_lines.nd rfl (Or.inl rfl) (pe_lst (pa_cons (pe_op op_add_str pe_str (pe_callTy call_str_int (by rfl) T.str (by decide +kernel) (pa_cons (pe_dget (hu_of hr) (pv 0) pe_str (fun _ _ => rfl)) pa_nil))) pa_nil)))
(pss_cut (ps_for PassesOwn.never rfl (pi_list (pe_dget (hu_of hr) (pv 0) pe_str (fun _ _ => rfl))) (pg_tup (by rfl) (pgs_cons (pg_name (i := 2) sc_lines.nd rfl (Or.inl rfl)) (pgs_cons (pg_name (i := 3) sc_lines.nd rfl (Or.inl rfl)) (pgs_cons (pg_name (i := 4) sc_lines.nd rfl (Or.inl rfl)) pgs_nil))))
(pss_one (ps_expr (pe_bm PySem.F.plainAttrs_list PySem.F.slot_list_append PySem.F.type_list_append mt_append (pv 1) (pa_cons (pe_op op_add_str (pe_op op_add_str (pe_op op_add_str (pe_op op_add_str pe_str (pv 2)) pe_str) (pv 3)) (pe_op op_repS pe_str (pe_callTy call_int1 (by rfl) T.int (by decide +kernel) (pa_cons (pv 4) pa_nil)))) pa_nil)))))
(pss_cons (ps_for PassesOwn.never rfl (pi_list (pe_dget (hu_of hr) (pv 0) pe_str (fun _ _ => rfl))) (pg_tup (by rfl) (pgs_cons (pg_name (i := 2) sc_lines.nd rfl (Or.inl rfl)) (pgs_cons (pg_name (i := 5) sc_lines.nd rfl (Or.inl rfl)) (pgs_cons (pg_name (i := 6) sc_lines.nd rfl (Or.inl rfl)) (pgs_cons (pg_name (i := 7) sc_lines.nd rfl (Or.inl rfl)) (pgs_cons (pg_name (i := 8) sc_lines.nd rfl (Or.inl rfl)) pgs_nil))))))
(pss_cut (ps_expr (pe_bm PySem.F.plainAttrs_list PySem.F.slot_list_append PySem.F.type_list_append mt_append (pv 1) (pa_cons (pe_join pe_str (pe_op op_cat (pe_lst (pa_cons pe_str (pa_cons (pv 2) (pa_cons (pv 5) pa_nil)))) (pe_lc (own := [("_law_x", 9)]) (g := (gName 9)) (tt := tYes) rfl sc_lines.nd (pi_list (pv 6)) (blkOk_by (own := [("_law_x", 9)]) (N := ["_law_p", "_law_found", "_law_name", "_law_sort", "_law_need", "_law_hand", "_law_moves", "_law_deeds_here", "_law_same_here", "_law_x"]) (sc := defScope s_lines) (by decide +kernel)) (fun _ _ _ _ _ => (pg_name (i := 9) sc_lines.nd rfl (Or.inl rfl))) (fun _ _ _ _ _ => pts_nil) (fun _ _ _ _ _ => (pe_callTy call_str_int (by rfl) T.str (by decide +kernel) (pa_cons (pv 9) pa_nil)))))) pa_nil)))
(pss_cut (ps_expr (pe_bm PySem.F.plainAttrs_list PySem.F.slot_list_extend PySem.F.type_list_extend mt_extend (pv 1) (pa_cons (pe_lc (own := [("_law_x", 9)]) (g := (gName 9)) (tt := tYes) rfl sc_lines.nd (pi_list (pv 7)) (blkOk_by (own := [("_law_x", 9)]) (N := ["_law_p", "_law_found", "_law_name", "_law_sort", "_law_need", "_law_hand", "_law_moves", "_law_deeds_here", "_law_same_here", "_law_x"]) (sc := defScope s_lines) (by decide +kernel)) (fun _ _ _ _ _ => (pg_name (i := 9) sc_lines.nd rfl (Or.inl rfl))) (fun _ _ _ _ _ => pts_nil) (fun _ _ _ _ _ => (pe_op op_add_str (pe_op op_add_str (pe_op op_add_str pe_str (pe_ix (ix_tupK (K := K) rfl) (pv 9) pe_int (fun _ _ => rfl))) pe_str) (pe_ix (ix_tupK (K := K) rfl) (pv 9) pe_int (fun _ _ => rfl))))) pa_nil)))
(pss_one (ps_expr (pe_bm PySem.F.plainAttrs_list PySem.F.slot_list_extend PySem.F.type_list_extend mt_extend (pv 1) (pa_cons (pe_lc (own := [("_law_x", 9)]) (g := (gName 9)) (tt := tYes) rfl sc_lines.nd (pi_list (pv 8)) (blkOk_by (own := [("_law_x", 9)]) (N := ["_law_p", "_law_found", "_law_name", "_law_sort", "_law_need", "_law_hand", "_law_moves", "_law_deeds_here", "_law_same_here", "_law_x"]) (sc := defScope s_lines) (by decide +kernel)) (fun _ _ _ _ _ => (pg_name (i := 9) sc_lines.nd rfl (Or.inl rfl))) (fun _ _ _ _ _ => pts_nil) (fun _ _ _ _ _ => (pe_op op_add_str pe_str (pv 9)))) pa_nil)))))))
(pss_one (ps_ret (pv 1)))))), ?_⟩
    refine ⟨fun σ H2 => ∃ L, σ = [some (.ref p), some (.ref L), none, none, none, none, none, none, none, none] ∧ Same H H2 ∧ H L = none ∧ H2 L = some (.lst [lnV (.M n)]), ?_, ?_⟩
    · refine ⟨_, rfl, p, .int n, rfl, DGet.k (k := .inr "modes") hp, n, rfl, log_small (by omega) (by omega), _, _, rfl, rfl, ?_, ?_⟩
      · have h1 := (num_part (i := (n : Int)) (by omega) (by omega)).le
        have h0 : ("modes " : Str).length = 6 := rfl
        rw [h0, sizeLine_eq]
        have h1 : (Str.ofString (toString (n : Int))).length ≤ 8 := h1
        omega
      · refine ⟨by show 1 ≤ sizeLine; decide, fun L hL => ⟨L, rfl, same_new (Same.refl H) hL, hL, ?_⟩⟩
        rw [upd_same]
        exact congrArg (fun z => some (HO.lst [V.str z])) (textM n)
    rintro _ H1 ⟨L, rfl, e1, hL, l1'⟩
    refine ⟨fun σ H2 => ∃ x2 x3 x4, σ = [some (.ref p), some (.ref L), x2, x3, x4, none, none, none, none, none] ∧ Same H H2 ∧ H2 L = some (.lst (lnV (.M n) :: fs.map fun f => lnV (.F f))), ?_, ?_⟩
    · refine ⟨_, rfl, p, .ref l1, rfl, DGet.k (k := .inr "fields") (e1 _ _ hp), l1, rfl, ⟨_, SqL.of (e1 _ _ h1)⟩, for_list (K := K) (a := l1) (xs := fvs) (fun i σ H2 => ∃ x2 x3 x4, σ = [some (.ref p), some (.ref L), x2, x3, x4, none, none, none, none, none] ∧ Same H H2 ∧ H2 L = some (.lst (lnV (.M n) :: (fs.take i).map fun f => lnV (.F f))))
        ⟨none, none, none, rfl, e1, l1'⟩ (fun i σ H2 _ ⟨_, _, _, _, h, _⟩ => SqL.of (h _ _ h1)) ?_ ?_⟩
      · rintro i x σ H2 hx ⟨x2, x3, x4, rfl, e2, l2'⟩
        obtain ⟨f, hf, u, rfl, hu⟩ := a1.get hx
        have hw : wordB f.nm = true := ok.fields.word f (List.mem_of_getElem? hf)
        have wl := (word_part hw).le
        have sl : (sortS f.many).length ≤ 8 := by cases f.many <;> decide +kernel
        have k0 : ("field " : Str).length = 6 := rfl
        have k1 : (" " : Str).length = 1 := rfl
        have k2 : (" need" : Str).length = 5 := rfl
        have k3 : Str.empty.length = 0 := rfl
        refine ⟨u, _, rfl, same_t e2 hu, rfl, _, _, rfl, _, _, rfl, _, _, rfl, rfl, ?_⟩
        have fin : Same H (upd H2 L (.lst ((lnV (.M n) :: (fs.take i).map fun f => lnV (.F f)) ++ [lnV (.F f)]))) ∧ upd H2 L (.lst ((lnV (.M n) :: (fs.take i).map fun f => lnV (.F f)) ++ [lnV (.F f)])) L = some (.lst (lnV (.M n) :: (fs.take (i + 1)).map fun f => lnV (.F f))) := by
          refine ⟨fun b o hb => ?_, ?_⟩
          · rw [upd_ne (fun e => by rw [e, hL] at hb; cases hb)]
            exact e2 _ _ hb
          · rw [upd_same, take_mapV _ hf]
            rfl
        have few : (lnV (.M n) :: (fs.take i).map fun f => lnV (.F f)).length < sizeLine := by
          have h1 := ok.fields.le
          rw [List.length_cons, List.length_map, List.length_take, sizeLine_eq]
          omega
        refine ⟨_, rfl, .inl ⟨rfl, _, SqL.of l2'⟩, _, rfl, _, _, rfl, rfl, ?_, _, _, rfl, rfl, ?_, _, rfl, _, _, rfl, rfl, ?_, _, rfl, .inr ⟨f.need, rfl, _, _, rfl, rfl, ?_⟩⟩
        · rw [sizeLine_eq]
          omega
        · rw [sizeLine_eq, len_add]
          omega
        · rw [sizeLine_eq, len_add, len_add]
          omega
        · cases e : f.need with
          | true =>
            refine .inr ⟨rfl, _, _, rfl, rfl, ?_, L, _, _, rfl, rfl, l2', few, ?_⟩
            · rw [sizeLine_eq, len_add, len_add, len_add]
              omega
            · rw [textFn f e]
              exact ⟨_, _, _, rfl, fin⟩
          | false =>
            refine .inl ⟨by decide, by decide, _, _, rfl, rfl, ?_, L, _, _, rfl, rfl, l2', few, ?_⟩
            · rw [sizeLine_eq, len_add, len_add, len_add]
              omega
            · rw [emp_r, textF f e]
              exact ⟨_, _, _, rfl, fin⟩
      · rintro σ H2 ⟨x4, x5, x6, rfl, e2, l2'⟩
        rw [a1.1, List.take_length] at l2'
        exact ⟨_, _, _, rfl, e2, l2'⟩
    rintro _ H2 ⟨x2, x3, x4, rfl, e2, l2'⟩
    refine ⟨_, rfl, p, .ref l2, rfl, DGet.k (k := .inr "calls") (e2 _ _ hp), l2, rfl, ⟨_, SqL.of (e2 _ _ h2)⟩, for_list (K := K) (a := l2) (xs := cvs) (fun i σ H3 => ∃ x2 x5 x6 x7 x8 x9, σ = [some (.ref p), some (.ref L), x2, x3, x4, x5, x6, x7, x8, x9] ∧ Same H H3 ∧ H3 L = some (.lst (lnV (.M n) :: (fs.map (fun f => lnV (.F f)) ++ ((cs.take i).flatMap itemsC).map lnV))))
      ⟨_, none, none, none, none, none, rfl, e2, ?_⟩ (fun i σ H3 _ ⟨_, _, _, _, _, _, _, h, _⟩ => SqL.of (h _ _ h2)) ?_ ?_⟩
    · rw [l2']
      show _ = some (HO.lst (_ :: (_ ++ [])))
      rw [List.append_nil]
    · rintro i x σ H3 hx ⟨y2, x5, x6, x7, x8, x9, rfl, e3, l3⟩
      obtain ⟨c, hc, m, d, s, dvs, ⟨u, rfl, hu⟩, ⟨ma, rfl, hm⟩, ⟨da, rfl, hd⟩, al, ⟨sa, rfl, hs⟩⟩ := a2.get hx
      have hcm := List.mem_of_getElem? hc
      have good := call_good ok hcm
      have gC : LnGood (.C c.nm c.hand c.moves) := good _ List.mem_cons_self
      have gD : ∀ x ∈ c.deeds, LnGood (.D x) := fun x hx => good _ (List.mem_cons_of_mem _ (List.mem_append_left _ (List.mem_map_of_mem hx)))
      have gS : ∀ x ∈ c.same, LnGood (.S x) := fun x hx => good _ (List.mem_cons_of_mem _ (List.mem_append_right _ (List.mem_map_of_mem hx)))
      have ml := gC.2.2.1
      have mr := gC.2.2.2
      have dl := (ok.calls c hcm).deeds
      have sl := same_few ok.fields (ok.calls c hcm)
      have ll := lines_len ok hc
      have ll2 : (lnV (.M n) :: (fs.map (fun f => lnV (.F f)) ++ ((cs.take i).flatMap itemsC).map lnV)).length + 1 + c.deeds.length + c.same.length ≤ sizeLine := by
        have e : ((itemsC c).map lnV).length = 1 + c.deeds.length + c.same.length := by
          rw [List.length_map]
          show (_ :: (_ ++ _)).length = _
          rw [List.length_cons, List.length_append, List.length_map, List.length_map]
          omega
        rw [e] at ll
        omega
      have fin0 : ∀ zs : List V, lnV (.M n) :: (fs.map (fun f => lnV (.F f)) ++ ((cs.take (i + 1)).flatMap itemsC).map lnV) = (lnV (.M n) :: (fs.map (fun f => lnV (.F f)) ++ ((cs.take i).flatMap itemsC).map lnV)) ++ ([lnV (.C c.nm c.hand c.moves)] ++ (c.deeds.map (fun d => lnV (.D d)) ++ c.same.map fun x => lnV (.S x))) := fun _ => by
        rw [take_app _ hc, List.map_append, List.cons_append, List.append_assoc]
        show _ = _ :: (_ ++ (_ ++ (_ :: (_ ++ _))))
        show _ :: (_ ++ (_ ++ List.map lnV (_ :: (_ ++ _)))) = _
        rw [List.map_cons, List.map_append, List.map_map, List.map_map]
        rfl
      generalize lnV (.M n) :: (fs.map (fun f => lnV (.F f)) ++ ((cs.take i).flatMap itemsC).map lnV) = acc at l3 ll2 fin0
      refine ⟨u, _, rfl, same_t e3 hu, rfl, _, _, rfl, _, _, rfl, _, _, rfl, _, _, rfl, _, _, rfl, rfl, ?_⟩
      have hm3 : SqL K H3 ma (c.moves.map V.int) := SqL.of (e3 _ _ hm)
      refine ⟨fun σ H4 => ∃ x9, σ = [some (.ref p), some (.ref L), some (.str c.nm), x3, x4, some (.str c.hand), some (.ref ma), some (.ref da), some (.ref sa), x9] ∧ Same H H4 ∧ H4 L = some (.lst (acc ++ [lnV (.C c.nm c.hand c.moves)])), ?_, ?_⟩
      · refine ⟨_, rfl, .inl ⟨rfl, _, SqL.of l3⟩, ⟨_, rfl⟩, _, rfl, _, rfl, by show 3 ≤ sizeLine; decide, fun q1 hq1 => ?_⟩
        have e4 := same_new e3 hq1 (o := .lst [.str "call", .str c.nm, .str c.hand])
        have hm4 : SqL K (upd H3 q1 (.lst [.str "call", .str c.nm, .str c.hand])) ma (c.moves.map V.int) := SqL.of (e4 _ _ hm)
        have l4 : upd H3 q1 (.lst [.str "call", .str c.nm, .str c.hand]) L = some (.lst acc) := same_new (Same.refl H3) hq1 _ _ l3
        have q14 : upd H3 q1 (.lst [.str "call", .str c.nm, .str c.hand]) q1 = some (.lst [.str "call", .str c.nm, .str c.hand]) := upd_same
        generalize upd H3 q1 (.lst [.str "call", .str c.nm, .str c.hand]) = H4 at e4 hm4 l4 q14
        refine ⟨_, rfl, ma, rfl, ⟨_, hm4⟩, fun D hD => lc_mapL (ys := (c.moves.map numS).map V.str) hm4 hD (by simp) (by rw [List.length_map]; omega) (fun i x y H5 R hx hy e r => ?_) ?_⟩
        · rw [List.getElem?_map] at hx
          rw [List.map_map, List.getElem?_map] at hy
          obtain ⟨k, hk, rfl⟩ := Option.map_eq_some_iff.mp hx
          rw [hk] at hy
          cases hy
          have := mr k (List.mem_of_getElem? hk)
          exact ⟨rfl, _, rfl, k, rfl, log_small (by omega) (by omega), r⟩
        have n1 : q1 ≠ D := fun e => by rw [← e, q14] at hD; cases hD
        refine ⟨q1, D, _, _, rfl, rfl, (upd_ne n1).trans q14, upd_same, ?_, fun q2 hq2 => ?_⟩
        · rw [List.length_map, List.length_map, sizeLine_eq]
          show 3 + _ ≤ _
          omega
        have e6 := same_new (same_new (Same.refl H4) hD) hq2 (o := .lst ([.str "call", .str c.nm, .str c.hand] ++ (c.moves.map numS).map V.str))
        refine ⟨_, q2, ([("call" : Str), c.nm, c.hand] : List Str) ++ c.moves.map numS, rfl, rfl, .inl ?_, ?_, ?_⟩
        · exact SqL.of upd_same
        · have h1 := sum_le (k := 8) (xs := (([("call" : Str), c.nm, c.hand] : List Str) ++ c.moves.map numS).map (·.length)) fun x hx => by
            obtain ⟨z, hz, rfl⟩ := List.mem_map.mp hx
            exact (gC.ok.part z hz).le
          have h2 := gC.ok.few
          have h2 : (([("call" : Str), c.nm, c.hand] : List Str) ++ c.moves.map numS).length ≤ 8 := h2
          rw [List.length_map] at h1
          rw [show (" " : Str).length = 1 from rfl]
          omega
        · refine ⟨L, _, _, rfl, rfl, e6 _ _ l4, by omega, _, rfl, fun b o hb => ?_, upd_same⟩
          rw [upd_ne (fun e => by rw [e, hL] at hb; cases hb)]
          exact e6 _ _ (e4 _ _ hb)
      rintro _ H4 ⟨y9, rfl, e4, l4⟩
      have hd4 : SqL K H4 da dvs := SqL.of (e4 _ _ hd)
      refine ⟨fun σ H5 => ∃ x9, σ = [some (.ref p), some (.ref L), some (.str c.nm), x3, x4, some (.str c.hand), some (.ref ma), some (.ref da), some (.ref sa), x9] ∧ Same H H5 ∧ H5 L = some (.lst (acc ++ [lnV (.C c.nm c.hand c.moves)] ++ c.deeds.map fun d => lnV (.D d))), ?_, ?_⟩
      · refine ⟨_, rfl, .inl ⟨rfl, _, SqL.of l4⟩, _, rfl, da, rfl, ⟨_, hd4⟩, fun D hD => lc_mapL (ys := c.deeds.map fun d => lnV (.D d)) hd4 hD (by rw [List.length_map]; exact al.1.symm) (by rw [al.1]; omega) (fun i x y H5 R hx hy e r => ?_) ?_⟩
        · obtain ⟨d, hdi, u, rfl, hu⟩ := al.get hx
          rw [List.getElem?_map, hdi] at hy
          cases hy
          have g := gD d (List.mem_of_getElem? hdi)
          have hu5 : SqT K H5 u (DeV d) := same_t (e4.trans e) hu
          have w1 := (word_part g.1).le
          have w2 := (word_part g.2).le
          have k0 : ("do " : Str).length = 3 := rfl
          have k1 : (" " : Str).length = 1 := rfl
          refine ⟨rfl, _, rfl, u, _, 0, .str d.1, rfl, rfl, hu5, rfl, _, _, rfl, rfl, ?_, _, _, rfl, rfl, ?_, _, rfl, u, _, 1, .str d.2, rfl, rfl, hu5, rfl, _, _, rfl, rfl, ?_, ?_⟩
          · rw [sizeLine_eq]
            omega
          · rw [sizeLine_eq, len_add]
            omega
          · rw [sizeLine_eq, len_add, len_add]
            omega
          · rw [textD d]
            exact r
        · have n : D ≠ L := fun e => by rw [e, l4] at hD; cases hD
          refine ⟨L, D, _, _, rfl, rfl, (upd_ne (Ne.symm n)).trans l4, upd_same, ?_, _, rfl, fun b o hb => ?_, upd_same⟩
          · rw [List.length_append, List.length_map]
            show acc.length + 1 + _ ≤ _
            omega
          · rw [upd_ne (fun e => by rw [e, hL] at hb; cases hb)]
            exact same_new e4 hD _ _ hb
      rintro _ H5 ⟨z9, rfl, e5, l5⟩
      have hs5 : SqL K H5 sa (c.same.map V.str) := SqL.of (e5 _ _ hs)
      refine ⟨_, rfl, .inl ⟨rfl, _, SqL.of l5⟩, _, rfl, sa, rfl, ⟨_, hs5⟩, fun D hD => lc_mapL (ys := c.same.map fun x => lnV (.S x)) hs5 hD (by simp) (by rw [List.length_map]; omega) (fun i x y H6 R hx hy e r => ?_) ?_⟩
      · rw [List.getElem?_map] at hx hy
        obtain ⟨z, hz, rfl⟩ := Option.map_eq_some_iff.mp hx
        rw [hz] at hy
        cases hy
        have g := gS z (List.mem_of_getElem? hz)
        have w1 := (word_part (z := z) g).le
        have k0 : ("same " : Str).length = 5 := rfl
        refine ⟨rfl, _, rfl, _, _, rfl, rfl, ?_, ?_⟩
        · rw [sizeLine_eq]
          omega
        · rw [textS z]
          exact r
      · have n : D ≠ L := fun e => by rw [e, l5] at hD; cases hD
        refine ⟨L, D, _, _, rfl, rfl, (upd_ne (Ne.symm n)).trans l5, upd_same, ?_, _, _, _, _, _, _, rfl, fun b o hb => ?_, ?_⟩
        · rw [List.length_append, List.length_append, List.length_map, List.length_map]
          show acc.length + 1 + _ + _ ≤ _
          omega
        · rw [upd_ne (fun e => by rw [e, hL] at hb; cases hb)]
          exact same_new e5 hD _ _ hb
        · rw [upd_same, fin0 [], List.append_assoc, List.append_assoc]
    · rintro σ H3 ⟨y2, x5, x6, x7, x8, x9, rfl, e3, l3⟩
      rw [a2.1, List.take_length] at l3
      refine ⟨_, rfl, q L _ e3 ?_⟩
      rw [l3]
      show _ = some (HO.lst (List.map lnV (_ :: (_ ++ _))))
      rw [List.map_cons, List.map_append, List.map_map]
      rfl
theorem run_ktext (T : Txt K mg) (Z : KCls K KC) (c_written : Cal P w K mg base CX0 2 "written" (spWritten K)) {f : Addr} {cdv : Value} {A : Around} {outer : List Env} {sh : Shared} {H : Hp} {vs : List V} {Q : VK} {E : XK} (hr : Room 2 (A.deeper (envOfC "Kind.text" (defScope s_Kind_text) sh.heap.objs.size f cdv))) (h : spKText K KC vs H Q E) :
    ∃ t, PSs (cxOf CX0 P w K mg base ["self"] "Kind.text" (defScope s_Kind_text) f cdv A outer sh H E).nox (defBody s_Kind_text) t ∧ t { nx := fun _ H' => Q .non H', rt := Q } (start ["self"] vs) H := by
  obtain ⟨v, fs, n, cs, rfl, ⟨a, dx, so, sp, tb, t, st, tv, sv, rfl, h1, ⟨ta, rfl, h2⟩, h3, h4, h5, ⟨sa, rfl, h6⟩, h7, h8⟩, ok, q⟩ := h
  refine ⟨_, (pss_one (ps_ret (pe_c c_written hr (by first | decide | assumption) rfl (pa_cons (pe_fld (pv 0) rfl) (pa_cons (pe_fld (pv 0) rfl) (pa_cons (pe_fld (pv 0) rfl) pa_nil)))))), ?_⟩
  exact ⟨_, rfl, a, KC, dx, _, .int n, rfl, h1, Z.cls, Z.modes, rfl, _, rfl, a, KC, dx, _, .ref ta, rfl, h1, Z.cls, Z.triples, rfl, _, rfl, a, KC, dx, _, .ref sa, rfl, h1, Z.cls, Z.steps, rfl, n, ta, sa, tv, sv, fs, cs, rfl, h2, h3, h6, h7, ok, q⟩
theorem run_kof (T : Txt K mg) (Z : DCls K DC) (c_read_draft : Cal P w K mg base CX0 5 "read_draft" (spRead K DC)) (c_Kind : KMk P w K mg base KC) {f : Addr} {cdv : Value} {A : Around} {outer : List Env} {sh : Shared} {H : Hp} {vs : List V} {Q : VK} {E : XK} (hr : Room 7 (A.deeper (envOfC "Kind.of_text" (defScope s_Kind_of_text) sh.heap.objs.size f cdv))) (h : spKOf K KC vs H Q E) :
    ∃ t, PSs (cxOf CX0 P w K mg base ["text", "draft"] "Kind.of_text" (defScope s_Kind_of_text) f cdv A outer sh H E).nox (defBody s_Kind_of_text) t ∧ t { nx := fun _ H' => Q .non H', rt := Q } (start ["text", "draft"] vs) H := by
  obtain ⟨fs, n, cs, rfl, ok, q⟩ := h
  refine ⟨_, (pss_cons (ps_set (i := 1) sc_Kind_of_text.nd rfl (Or.inl rfl) (pe_c c_read_draft hr (by first | decide | assumption) rfl (pa_cons (pv 0) pa_nil)))
(pss_one (ps_ret (pe_kind c_Kind hr (by first | decide | assumption) rfl (pa_cons (pe_fld (pv 1) rfl) (pa_cons (pe_fld (pv 1) rfl) pa_nil)) (pk_cons (pe_fld (pv 1) rfl) pk_nil))))), ?_⟩
  refine ⟨_, rfl, items fs n cs, _, rfl, (fun e => nomatch e), (by have := items_few ok; omega), items_good ok, items_go ok, fun dr M H1 e1 ⟨dx, lf, lc, fvs, cvs, D⟩ => ?_⟩
  obtain ⟨g1, g2, g3, g4⟩ := D.given
  have ns : H1 dr ≠ none := by
    rw [D.at_]
    exact nofun
  refine ⟨fun v H2 => Same H1 H2 ∧ KdA K KC (Off dr H2) v fs n cs, ?_, ?_⟩
  · exact ⟨_, rfl, dr, DC, dx, _, .ref lf, rfl, D.at_, Z.cls, Z.fields, rfl, _, rfl, dr, DC, dx, _, .ref lc, rfl, D.at_, Z.cls, Z.calls, rfl, _, rfl, dr, DC, dx, _, .int n, rfl, D.at_, Z.cls, Z.modes, rfl, rfl, rfl, rd_kindM (s := dr) ns g1 g2 g3 g4 ok⟩
  · rintro v H2 ⟨e2, kd⟩
    exact q v H2 ((e1.trans hid_same).trans e2) (kd.keep off_same)
end
end MK
set_option Elab.async false
set_option linter.all false
set_option autoImplicit false
set_option maxRecDepth 100000
set_option maxHeartbeats 4000000
namespace MK
open PySem PySem.Spec PyProof.Rows L2 ClX
local macro_rules | `(tactic| walk_at "x") => `(tactic| dsimp only [tSeq, tAsg, tRet, tDrop, tLst, tTup, tCons, tOp, tUn, tIfS])
/-! ### the law -/
abbrev s_law : Stmt := topS 65
theorem sc_law : FnScope ["_law_script", "_law_state", "_law_turn", "_law_p", "_law_line", "_law_due"] ["_law_script"] (defScope s_law) := ⟨rfl, rfl, rfl, by decide +kernel, rfl, by decide +kernel, by decide +kernel⟩
def spLaw (K : PySem.W.Frag) : Sp := fun vs H Q _ => ∃ (a : Addr) (ns : List Int), vs = [.ref a] ∧ SqL K H a (ns.map V.int) ∧ ns.length ≤ 63 ∧ ∀ H', Q (.bl true) H'
theorem KdA.is_ins {K : PySem.W.Frag} {KC : Addr} {H : Hp} {v : V} {fs : List FD} {n : Nat} {cs : List CD} (h : KdA K KC H v fs n cs) : ∃ a dx gs, v = .ref a ∧ H a = some (.ins KC dx gs) ∧ gs.lookup ("text" : Str) = none := by
  obtain ⟨x, dx, so, sp, tb, t, st, tv, sv, h0, h1, _⟩ := h
  exact ⟨x, dx, _, h0, h1, rfl⟩
section
variable {P : Program} {w : World} {K : PySem.W.Frag} {mg : Str → Option Value} {base : Heap} {C : Cst} {KC DC ft pf fo fq : Addr} {mc : Value} {fdt fdo fdq : FuncData}
theorem ok_law {f : Addr} {fd : FuncData} (F : DefX K mg "law" s_law ["_law_script"] f fd) (T : Txt K mg) (Z : KCls K KC) (gK : mg "Kind" = some (.ref KC)) (c_fresh : Cal P w K mg base CX0 1 "_law_fresh" (spFresh K)) (c_kind : Cal P w K mg base CX0 9 "_law_kind" (spLawKind K KC)) (c_same : Cal P w K mg base CX0 1 "_law_same" (spSame K 0)) (c_lines : Cal P w K mg base CX0 1 "_law_lines" (spLL K KC))
    (H_text : Meth K KC "text" ft ∧ FnOk P w K mg base CX0 3 ft fdt ["self"] (spKText K KC) ∧ Binds K fdt ["self"] [])
    (H_of : CRead K KC mc ∧ SMet K KC mc "of_text" pf fo ∧ FnOk P w K mg base CX0 8 fo fdo ["text"] (spKOf K KC) ∧ Binds K fdo ["text"] [] ∧ KBinds K fdo ["text"] ["text"] (fun us ws => us ++ ws) (fun vs zs => vs ++ zs))
    (H_eq : FnOk P w K mg base CX0 1 fq fdq ["self", "other"] (spKEq K KC) ∧ PySem.W.findIn K (.ref KC) "__ne__" = some (some (.builtin "object.__ne__")) ∧ PySem.W.findIn K (.ref KC) "__eq__" = some (some (.ref fq)) ∧ PySem.W.isFn K (.ref fq) = true ∧ PySem.W.subIn K (.ref KC) (.type "object") = some true ∧ Binds K fdq ["self", "other"] []) :
    FnOk P w K mg base CX0 10 f fd ["_law_script"] (spLaw K) := by
  refine F.fn.ok sc_law (fun vs H Q E h => by obtain ⟨a, ns, rfl, _⟩ := h; rfl) fun cdv A outer sh H vs Q E hr h => ?_
  obtain ⟨a, ns, rfl, hS, hn, k⟩ := h
  refine ⟨_, (pss_cons (ps_set (i := 1) sc_law.nd rfl (Or.inl rfl) (pe_c c_fresh hr (by first | decide | assumption) rfl (pa_cons (pv 0) pa_nil)))
(pss_cons (ps_for PassesOwn.never rfl (pi_range1 (by rfl) T.range (pa_cons pe_int pa_nil)) (pg_name (i := 2) sc_law.nd rfl (Or.inl rfl))
(pss_cons (ps_set (i := 3) sc_law.nd rfl (Or.inl rfl) (pe_c c_kind hr (by first | decide | assumption) rfl (pa_cons (pv 1) (pa_cons pe_int (pa_cons pe_int (pa_cons pe_int pa_nil))))))
(pss_cut (ps_set (i := 5) sc_law.nd rfl (Or.inl rfl) (pe_join pe_str (pe_lc (own := [("_law_line", 4)]) (g := (gName 4)) (tt := tYes) rfl sc_law.nd (pi_list (pe_c c_lines hr (by first | decide | assumption) rfl (pa_cons (pv 3) pa_nil))) (blkOk_by (own := [("_law_line", 4)]) (N := ["_law_script", "_law_state", "_law_turn", "_law_p", "_law_line", "_law_due"]) (sc := defScope s_law) (by decide +kernel)) (fun _ _ _ _ _ => (pg_name (i := 4) sc_law.nd rfl (Or.inl rfl))) (fun _ _ _ _ _ => pts_nil) (fun _ _ _ _ _ => (pe_op op_add_str (pv 4) pe_str)))))
(pss_cons (ps_if (pt_cut (PW.pt (pw_or (pt_not (pt_val (pe_c c_same hr (by first | decide | assumption) rfl (pa_cons (pe_meth0 (pe_dget (hu_of hr) (pv 3) pe_str (fun _ _ => rfl)) Z.cls H_text.1 H_text.2.1 (hr.mono (by decide)) H_text.2.2 .nil pass0) (pa_cons (pv 5) pa_nil))))) (pw_or1 (pt_cmpR (op_neOwn H_eq.1 H_eq.2.1 H_eq.2.2.1 H_eq.2.2.2.1 H_eq.2.2.2.2.1 H_eq.2.2.2.2.2 (hr.mono (by decide))) (pe_smeth (pe_refv (by rfl) gK) H_of.1 H_of.2.1 H_of.2.2.1 H_of.2.2.2.1 (hr.mono (by decide)) pass0 (pa_cons (pv 5) pa_nil)) (pe_dget (hu_of hr) (pv 3) pe_str (fun _ _ => rfl)) (nomark _))))))
(pss_one (ps_ret pe_bl))
pss_nil)
(pss_one (ps_if (pt_not (pt_val (pe_c c_same hr (by first | decide | assumption) rfl (pa_cons (pe_meth0 (pe_smethK (pe_refv (by rfl) gK) H_of.1 H_of.2.1 H_of.2.2.1 H_of.2.2.2.2 (hr.mono (by decide)) pass0 (pk_cons (pv 5) pk_nil)) Z.cls H_text.1 H_text.2.1 (hr.mono (by decide)) H_text.2.2 .nil pass0) (pa_cons (pv 5) pa_nil)))))
(pss_one (ps_ret pe_bl))
pss_nil))))))
(pss_one (ps_ret pe_bl)))), ?_⟩
  refine ⟨_, rfl, a, ns, rfl, hS, hn, fun s c H0 e0 hs0 hc0 hS0 => ?_⟩
  refine ⟨5, rfl, by decide, by decide, for_range (n := 5) (fun i σ H2 => StA H2 s c ns ∧ ∃ x2 x3 x4 x5, σ = [some (.ref a), some (.ref s), x2, x3, x4, x5]) ⟨hS0, _, _, _, _, rfl⟩ ?_ ?_⟩
  · rintro i σ H2 hi ⟨h1, x2, x3, x4, x5, rfl⟩
    refine ⟨_, rfl, s, c, ns, 3, 6, 3, rfl, h1, hn, by decide, by decide, by decide, by decide, by decide, by decide, fun p H3 fs n cs e3 hS3 ok _ _ _ _ _ pl => ?_⟩
    have pl := pl.keep off_same
    have few := items_few ok
    have good := items_good ok
    refine ⟨fun σ H4 => ∃ x2 x4, σ = [some (.ref a), some (.ref s), x2, some p, x4, some (.str (textK (items fs n cs)))] ∧ Same H3 H4, ?_, ?_⟩
    · refine ⟨⟨_, rfl⟩, _, rfl, p, fs, n, cs, rfl, pl, ok, fun L H4 e4 l4 => ⟨L, rfl, ⟨_, SqL.of l4⟩, fun D hD => lc_mapL (ys := (items fs n cs).map fun l => V.str (nlS l.text)) (SqL.of l4) hD (by simp) (by rw [List.length_map]; omega) (fun i x y H5 R hx hy e r => ?_) ?_⟩⟩
      · rw [List.getElem?_map] at hx hy
        obtain ⟨l, hl, rfl⟩ := Option.map_eq_some_iff.mp hx
        rw [hl] at hy
        cases hy
        have tl := text_len (good l (List.mem_of_getElem? hl)).ok
        refine ⟨rfl, _, rfl, _, _, rfl, rfl, ?_, r⟩
        rw [show ("\n" : Str).length = 1 from rfl, sizeLine_eq]
        omega
      · have bd := all_len (fun l m => (good l m).ok) (show (items fs n cs).length ≤ 100 by omega)
        have e0 : ("" : Str) = Str.empty := by decide +kernel
        refine ⟨("" : Str), D, (items fs n cs).map fun l => nlS l.text, rfl, rfl, .inl ?_, ?_, ?_⟩
        · rw [List.map_map]
          exact SqL.of upd_same
        · rw [e0]
          exact Nat.le_trans bd (by decide : 7300 ≤ 16777216)
        · rw [e0]
          exact ⟨_, _, rfl, same_new e4 hD⟩
    rintro _ H4 ⟨x2, x4, rfl, e4⟩
    obtain ⟨pa, l1, l2, kv, fvs, cvs, rfl, p1, p2, p3, p4, p5, kd⟩ := pl
    have sm : ∀ H : Hp, Sm K H 0 (.str (textK (items fs n cs))) (.str (textK (items fs n cs))) := fun H => .inl ⟨rfl, .inr (.inr (.inr ⟨_, rfl⟩))⟩
    obtain ⟨ka, kdx, kgs, rfl, kat, klk⟩ := kd.is_ins
    refine ⟨fun t H5 => t = false ∧ Same H4 H5, ?_, ?_⟩
    · refine ⟨_, rfl, pa, .ref ka, rfl, DGet.k (k := .inr "known") (e4 _ _ p1), ka, kdx, kgs, rfl, e4 _ _ kat, klk, .ref ka, fs, n, cs, rfl, kd.keep e4, ok, fun H5 e5 => ⟨_, rfl, _, _, rfl, sm _, fun H6 e6 => ⟨true, rfl, iteF ?_⟩⟩⟩
      have e46 := e5.trans e6
      refine ⟨rfl, _, rfl, fs, n, cs, rfl, ok, fun v H7 e7 kd7 => ⟨_, rfl, pa, .ref ka, rfl, DGet.k (k := .inr "known") ((e4.trans (e46.trans e7)) _ _ p1), ?_⟩⟩
      obtain ⟨va, vdx, vgs, rfl, vat, _⟩ := kd7.is_ins
      refine ⟨va, vdx, vgs, ka, kdx, kgs, rfl, rfl, vat, (e4.trans (e46.trans e7)) _ _ kat, .ref va, .ref ka, fs, fs, n, n, cs, cs, rfl, kd7, kd.keep (e4.trans (e46.trans e7)), ok, ok, _, rfl, _, rfl, ?_, e46.trans e7⟩
      rw [decide_eq_true (⟨rfl, rfl, rfl⟩ : fs = fs ∧ n = n ∧ cs = cs)]
      rfl
    rintro _ H5 ⟨rfl, e5⟩
    refine iteF ?_
    refine ⟨rfl, _, rfl, fs, n, cs, rfl, ok, fun v H6 e6 kd6 => ?_⟩
    obtain ⟨va, vdx, vgs, rfl, vat, vlk⟩ := kd6.is_ins
    refine ⟨va, vdx, vgs, rfl, vat, vlk, .ref va, fs, n, cs, rfl, kd6, ok, fun H7 e7 => ⟨_, rfl, _, _, rfl, sm _, fun H8 e8 => ⟨true, rfl, iteF ?_⟩⟩⟩
    exact ⟨hS3.keep (e4.trans (e5.trans (e6.trans (e7.trans e8)))), _, _, _, _, rfl⟩
  · rintro σ H2 ⟨h1, x2, x3, x4, x5, rfl⟩
    exact k _
end
end MK

set_option Elab.async false
set_option linter.all false
set_option autoImplicit false
set_option maxRecDepth 100000
set_option maxHeartbeats 4000000
namespace MK
open PySem PySem.Spec PyProof.Rows L2
local macro_rules | `(tactic| walk_at "x") => `(tactic| dsimp only [tSeq, tAsg, tRet, tDrop, tLst, tTup, tCons, tOp, tUn, tIfS])
/-! ### what the top has written -/
section
variable {K : PySem.W.Frag} {h : Heap} {mg : Str → Option Value}
theorem def_mk {x : Str} {st : Stmt} {ps : List Str} {f : Addr} {oc : Value} {od an : Option Addr} {osl : Array (Option Value)} {kV doc pm cdv ct : Value} (X : K.In h) (G : h.Ns mainGlobals mg) (a : PySem.W.nsIn K mainGlobals x = some (some (.ref f)))
    (l : K.lookup f = some ⟨oc, od, .func (PySem.W.fnOf x x (defArgs st) (defBody st) (defScope st) .none kV doc pm an cdv ct), osl⟩) (c : PySem.W.codeIn K cdv x = true) (k : PySem.W.keepIn K (.ref f) = true)
    (b : ∀ (kV doc pm : Value) (an : Option Addr) (cdv ct : Value) (us : List Value), us.length = ps.length → bindArgs (PySem.W.fnOf x x (defArgs st) (defBody st) (defScope st) .none kV doc pm an cdv ct) ⟨us, []⟩ = pure (ps.zip us)) :
    DefX K mg x st ps f (PySem.W.fnOf x x (defArgs st) (defBody st) (defScope st) .none kV doc pm an cdv ct) :=
  have F := fun_mk (st := st) l c k
  ⟨F, PySem.W.mg_of X G a, F.binds b⟩
theorem rec_at {p f : Addr} {od : Option Addr} {vs : Array Value} {sl : Array (Option Value)} (l : K.lookup p = some ⟨.type "staticmethod", od, .fields vs, sl⟩) (e : vs[0]? = some (.ref f)) : ∃ rest, PySem.W.recIn K p "staticmethod" = some (.ref f :: rest) := by
  refine ⟨vs.toList.drop 1, ?_⟩
  unfold PySem.W.recIn
  rw [l]
  show (if ("staticmethod" == "staticmethod") = true then some vs.toList else none) = _
  rw [if_pos (by decide)]
  rw [← Array.getElem?_toList] at e
  have h := (List.getElem?_eq_some_iff.mp e).1
  have z := List.drop_eq_getElem_cons h
  rw [List.drop_zero, (List.getElem?_eq_some_iff.mp e).2] at z
  exact congrArg some z
end
theorem sod_all {K : PySem.W.Frag} {w : World} {a : Addr} (h : He.dicW K a = some (He.keysIn w.params ["set", "add", "strike", "fresh", "clear"])) (h1 : ∃ b, PySem.W.nsIn K a "set" = some (some (.ref b)) ∧ ∀ H, SqT K H b ((["one"] : List Str).map V.str)) (h2 : ∃ b, PySem.W.nsIn K a "add" = some (some (.ref b)) ∧ ∀ H, SqT K H b ((["many"] : List Str).map V.str))
    (h3 : ∃ b, PySem.W.nsIn K a "strike" = some (some (.ref b)) ∧ ∀ H, SqT K H b ((["many"] : List Str).map V.str)) (h4 : ∃ b, PySem.W.nsIn K a "fresh" = some (some (.ref b)) ∧ ∀ H, SqT K H b ((["many"] : List Str).map V.str)) (h5 : ∃ b, PySem.W.nsIn K a "clear" = some (some (.ref b)) ∧ ∀ H, SqT K H b ((["one", "many"] : List Str).map V.str)) :
    ∀ z : Str, (PySem.W.nsIn K a z = some none ∧ sodOf z = none) ∨ ∃ b l, PySem.W.nsIn K a z = some (some (.ref b)) ∧ sodOf z = some l ∧ ∀ H, SqT K H b (l.map V.str) := fun z => by
  by_cases e1 : z = ("set" : Str)
  · obtain ⟨b, x, y⟩ := h1
    exact .inr ⟨b, _, e1 ▸ x, by rw [e1]; decide +kernel, y⟩
  by_cases e2 : z = ("add" : Str)
  · obtain ⟨b, x, y⟩ := h2
    exact .inr ⟨b, _, e2 ▸ x, by rw [e2]; decide +kernel, y⟩
  by_cases e3 : z = ("strike" : Str)
  · obtain ⟨b, x, y⟩ := h3
    exact .inr ⟨b, _, e3 ▸ x, by rw [e3]; decide +kernel, y⟩
  by_cases e4 : z = ("fresh" : Str)
  · obtain ⟨b, x, y⟩ := h4
    exact .inr ⟨b, _, e4 ▸ x, by rw [e4]; decide +kernel, y⟩
  by_cases e5 : z = ("clear" : Str)
  · obtain ⟨b, x, y⟩ := h5
    exact .inr ⟨b, _, e5 ▸ x, by rw [e5]; decide +kernel, y⟩
  refine .inl ⟨ns_none h fun m => ?_, ?_⟩
  · simp only [List.mem_cons, List.not_mem_nil, or_false] at m
    rcases m with m | m | m | m | m
    · exact e1 m
    · exact e2 m
    · exact e3 m
    · exact e4 m
    · exact e5 m
  · unfold sodOf
    rw [if_neg e1, if_neg e2, if_neg e3, if_neg e4, if_neg e5]
theorem all_mk {l : PySem.W.OpenLaw} {w : World} {K : PySem.W.Frag} {h : Heap} {mg : Str → Option Value} {fa : Addr} (X : K.In h) (G : h.Ns mainGlobals mg) (hfa : mg "law" = some (.ref fa))
    {f_fresh : Addr} {od_fresh an_fresh : Option Addr} {sl_fresh : Array (Option Value)} {oc_fresh kV_fresh dc_fresh pm_fresh cd_fresh ct_fresh : Value}
    {f_fill : Addr} {od_fill an_fill : Option Addr} {sl_fill : Array (Option Value)} {oc_fill kV_fill dc_fill pm_fill cd_fill ct_fill : Value}
    {f_take : Addr} {od_take an_take : Option Addr} {sl_take : Array (Option Value)} {oc_take kV_take dc_take pm_take cd_take ct_take : Value}
    {f_one : Addr} {od_one an_one : Option Addr} {sl_one : Array (Option Value)} {oc_one kV_one dc_one pm_one cd_one ct_one : Value}
    {f_mix : Addr} {od_mix an_mix : Option Addr} {sl_mix : Array (Option Value)} {oc_mix kV_mix dc_mix pm_mix cd_mix ct_mix : Value}
    {f_same : Addr} {od_same an_same : Option Addr} {sl_same : Array (Option Value)} {oc_same kV_same dc_same pm_same cd_same ct_same : Value}
    {f_plan : Addr} {od_plan an_plan : Option Addr} {sl_plan : Array (Option Value)} {oc_plan kV_plan dc_plan pm_plan cd_plan ct_plan : Value}
    {f_deeds : Addr} {od_deeds an_deeds : Option Addr} {sl_deeds : Array (Option Value)} {oc_deeds kV_deeds dc_deeds pm_deeds cd_deeds ct_deeds : Value}
    {f_call : Addr} {od_call an_call : Option Addr} {sl_call : Array (Option Value)} {oc_call kV_call dc_call pm_call cd_call ct_call : Value}
    {f_kind : Addr} {od_kind an_kind : Option Addr} {sl_kind : Array (Option Value)} {oc_kind kV_kind dc_kind pm_kind cd_kind ct_kind : Value}
    {f_lines : Addr} {od_lines an_lines : Option Addr} {sl_lines : Array (Option Value)} {oc_lines kV_lines dc_lines pm_lines cd_lines ct_lines : Value}
    {f_law : Addr} {od_law an_law : Option Addr} {sl_law : Array (Option Value)} {oc_law kV_law dc_law pm_law cd_law ct_law : Value}
    {f_is_word : Addr} {od_is_word an_is_word : Option Addr} {sl_is_word : Array (Option Value)} {oc_is_word kV_is_word dc_is_word pm_is_word cd_is_word ct_is_word : Value}
    {f_is_integer : Addr} {od_is_integer an_is_integer : Option Addr} {sl_is_integer : Array (Option Value)} {oc_is_integer kV_is_integer dc_is_integer pm_is_integer cd_is_integer ct_is_integer : Value}
    {f_is_list : Addr} {od_is_list an_is_list : Option Addr} {sl_is_list : Array (Option Value)} {oc_is_list kV_is_list dc_is_list pm_is_list cd_is_list ct_is_list : Value}
    {f_is_modes : Addr} {od_is_modes an_is_modes : Option Addr} {sl_is_modes : Array (Option Value)} {oc_is_modes kV_is_modes dc_is_modes pm_is_modes cd_is_modes ct_is_modes : Value}
    {f_is_field : Addr} {od_is_field an_is_field : Option Addr} {sl_is_field : Array (Option Value)} {oc_is_field kV_is_field dc_is_field pm_is_field cd_is_field ct_is_field : Value}
    {f_kept_fields : Addr} {od_kept_fields an_kept_fields : Option Addr} {sl_kept_fields : Array (Option Value)} {oc_kept_fields kV_kept_fields dc_kept_fields pm_kept_fields cd_kept_fields ct_kept_fields : Value}
    {f_is_many : Addr} {od_is_many an_is_many : Option Addr} {sl_is_many : Array (Option Value)} {oc_is_many kV_is_many dc_is_many pm_is_many cd_is_many ct_is_many : Value}
    {f_is_deed : Addr} {od_is_deed an_is_deed : Option Addr} {sl_is_deed : Array (Option Value)} {oc_is_deed kV_is_deed dc_is_deed pm_is_deed cd_is_deed ct_is_deed : Value}
    {f_are_moves : Addr} {od_are_moves an_are_moves : Option Addr} {sl_are_moves : Array (Option Value)} {oc_are_moves kV_are_moves dc_are_moves pm_are_moves cd_are_moves ct_are_moves : Value}
    {f_has_call_form : Addr} {od_has_call_form an_has_call_form : Option Addr} {sl_has_call_form : Array (Option Value)} {oc_has_call_form kV_has_call_form dc_has_call_form pm_has_call_form cd_has_call_form ct_has_call_form : Value}
    {f_are_deeds : Addr} {od_are_deeds an_are_deeds : Option Addr} {sl_are_deeds : Array (Option Value)} {oc_are_deeds kV_are_deeds dc_are_deeds pm_are_deeds cd_are_deeds ct_are_deeds : Value}
    {f_is_same : Addr} {od_is_same an_is_same : Option Addr} {sl_is_same : Array (Option Value)} {oc_is_same kV_is_same dc_is_same pm_is_same cd_is_same ct_is_same : Value}
    {f_kept_call : Addr} {od_kept_call an_kept_call : Option Addr} {sl_kept_call : Array (Option Value)} {oc_kept_call kV_kept_call dc_kept_call pm_kept_call cd_kept_call ct_kept_call : Value}
    {f_wrong_part : Addr} {od_wrong_part an_wrong_part : Option Addr} {sl_wrong_part : Array (Option Value)} {oc_wrong_part kV_wrong_part dc_wrong_part pm_wrong_part cd_wrong_part ct_wrong_part : Value}
    {f_kept_calls : Addr} {od_kept_calls an_kept_calls : Option Addr} {sl_kept_calls : Array (Option Value)} {oc_kept_calls kV_kept_calls dc_kept_calls pm_kept_calls cd_kept_calls ct_kept_calls : Value}
    {f_written : Addr} {od_written an_written : Option Addr} {sl_written : Array (Option Value)} {oc_written kV_written dc_written pm_written cd_written ct_written : Value}
    {f_call_lines : Addr} {od_call_lines an_call_lines : Option Addr} {sl_call_lines : Array (Option Value)} {oc_call_lines kV_call_lines dc_call_lines pm_call_lines cd_call_lines ct_call_lines : Value}
    {f_read_draft : Addr} {od_read_draft an_read_draft : Option Addr} {sl_read_draft : Array (Option Value)} {oc_read_draft kV_read_draft dc_read_draft pm_read_draft cd_read_draft ct_read_draft : Value}
    {f_put_line : Addr} {od_put_line an_put_line : Option Addr} {sl_put_line : Array (Option Value)} {oc_put_line kV_put_line dc_put_line pm_put_line cd_put_line ct_put_line : Value}
    {f_put_modes : Addr} {od_put_modes an_put_modes : Option Addr} {sl_put_modes : Array (Option Value)} {oc_put_modes kV_put_modes dc_put_modes pm_put_modes cd_put_modes ct_put_modes : Value}
    {f_put_field : Addr} {od_put_field an_put_field : Option Addr} {sl_put_field : Array (Option Value)} {oc_put_field kV_put_field dc_put_field pm_put_field cd_put_field ct_put_field : Value}
    {f_put_call : Addr} {od_put_call an_put_call : Option Addr} {sl_put_call : Array (Option Value)} {oc_put_call kV_put_call dc_put_call pm_put_call cd_put_call ct_put_call : Value}
    {f_put_deed : Addr} {od_put_deed an_put_deed : Option Addr} {sl_put_deed : Array (Option Value)} {oc_put_deed kV_put_deed dc_put_deed pm_put_deed cd_put_deed ct_put_deed : Value}
    {f_put_same : Addr} {od_put_same an_put_same : Option Addr} {sl_put_same : Array (Option Value)} {oc_put_same kV_put_same dc_put_same pm_put_same cd_put_same ct_put_same : Value}
    {f_are_words : Addr} {od_are_words an_are_words : Option Addr} {sl_are_words : Array (Option Value)} {oc_are_words kV_are_words dc_are_words pm_are_words cd_are_words ct_are_words : Value}
    {f_is_number : Addr} {od_is_number an_is_number : Option Addr} {sl_is_number : Array (Option Value)} {oc_is_number kV_is_number dc_is_number pm_is_number cd_is_number ct_is_number : Value}
    {f_number_of : Addr} {od_number_of an_number_of : Option Addr} {sl_number_of : Array (Option Value)} {oc_number_of kV_number_of dc_number_of pm_number_of cd_number_of ct_number_of : Value}
    {f_move_of : Addr} {od_move_of an_move_of : Option Addr} {sl_move_of : Array (Option Value)} {oc_move_of kV_move_of dc_move_of pm_move_of cd_move_of ct_move_of : Value}
    {C_Kind : Addr}
    {C_Draft : Addr}
    {f_kinit : Addr} {od_kinit an_kinit : Option Addr} {sl_kinit : Array (Option Value)} {oc_kinit kV_kinit dc_kinit pm_kinit cd_kinit ct_kinit : Value}
    {f_keq : Addr} {od_keq an_keq : Option Addr} {sl_keq : Array (Option Value)} {oc_keq kV_keq dc_keq pm_keq cd_keq ct_keq : Value}
    {f_ktext : Addr} {od_ktext an_ktext : Option Addr} {sl_ktext : Array (Option Value)} {oc_ktext kV_ktext dc_ktext pm_ktext cd_ktext ct_ktext : Value}
    {f_dinit : Addr} {od_dinit an_dinit : Option Addr} {sl_dinit : Array (Option Value)} {oc_dinit kV_dinit dc_dinit pm_dinit cd_dinit ct_dinit : Value}
    {p_of : Addr} {od_pof : Option Addr} {vs_pof : Array Value} {sl_pof : Array (Option Value)}
    {f_kof : Addr} {od_kof an_kof : Option Addr} {sl_kof : Array (Option Value)} {oc_kof kV_kof dc_kof pm_kof cd_kof ct_kof : Value}
    {tk_MOST_LETTERS : Tok}
    {tk_MOST_FIELDS : Tok}
    {tk_MOST_MODES : Tok}
    {tk_MOST_CALLS : Tok}
    {tk_MOST_DEEDS : Tok}
    {tk_DIG : Tok}
    {A_sorts : Addr}
    {A_hands : Addr}
    {A_lwd : Addr}
    {A_sod : Addr}
    {A_sod_set : Addr}
    {A_sod_add : Addr}
    {A_sod_strike : Addr}
    {A_sod_fresh : Addr}
    {A_sod_clear : Addr}
    (a_fresh : PySem.W.nsIn K mainGlobals "_law_fresh" = some (some (.ref f_fresh)))
    (l_fresh : K.lookup f_fresh = some ⟨oc_fresh, od_fresh, .func (PySem.W.fnOf "_law_fresh" "_law_fresh" (defArgs s_fresh) (defBody s_fresh) (defScope s_fresh) .none kV_fresh dc_fresh pm_fresh an_fresh cd_fresh ct_fresh), sl_fresh⟩)
    (c_fresh : PySem.W.codeIn K cd_fresh "_law_fresh" = true)
    (k_fresh : PySem.W.keepIn K (.ref f_fresh) = true)
    (a_fill : PySem.W.nsIn K mainGlobals "_law_fill" = some (some (.ref f_fill)))
    (l_fill : K.lookup f_fill = some ⟨oc_fill, od_fill, .func (PySem.W.fnOf "_law_fill" "_law_fill" (defArgs s_fill) (defBody s_fill) (defScope s_fill) .none kV_fill dc_fill pm_fill an_fill cd_fill ct_fill), sl_fill⟩)
    (c_fill : PySem.W.codeIn K cd_fill "_law_fill" = true)
    (k_fill : PySem.W.keepIn K (.ref f_fill) = true)
    (a_take : PySem.W.nsIn K mainGlobals "_law_take" = some (some (.ref f_take)))
    (l_take : K.lookup f_take = some ⟨oc_take, od_take, .func (PySem.W.fnOf "_law_take" "_law_take" (defArgs s_take) (defBody s_take) (defScope s_take) .none kV_take dc_take pm_take an_take cd_take ct_take), sl_take⟩)
    (c_take : PySem.W.codeIn K cd_take "_law_take" = true)
    (k_take : PySem.W.keepIn K (.ref f_take) = true)
    (a_one : PySem.W.nsIn K mainGlobals "_law_one" = some (some (.ref f_one)))
    (l_one : K.lookup f_one = some ⟨oc_one, od_one, .func (PySem.W.fnOf "_law_one" "_law_one" (defArgs s_one) (defBody s_one) (defScope s_one) .none kV_one dc_one pm_one an_one cd_one ct_one), sl_one⟩)
    (c_one : PySem.W.codeIn K cd_one "_law_one" = true)
    (k_one : PySem.W.keepIn K (.ref f_one) = true)
    (a_mix : PySem.W.nsIn K mainGlobals "_law_mix" = some (some (.ref f_mix)))
    (l_mix : K.lookup f_mix = some ⟨oc_mix, od_mix, .func (PySem.W.fnOf "_law_mix" "_law_mix" (defArgs s_mix) (defBody s_mix) (defScope s_mix) .none kV_mix dc_mix pm_mix an_mix cd_mix ct_mix), sl_mix⟩)
    (c_mix : PySem.W.codeIn K cd_mix "_law_mix" = true)
    (k_mix : PySem.W.keepIn K (.ref f_mix) = true)
    (a_same : PySem.W.nsIn K mainGlobals "_law_same" = some (some (.ref f_same)))
    (l_same : K.lookup f_same = some ⟨oc_same, od_same, .func (PySem.W.fnOf "_law_same" "_law_same" (defArgs s_same) (defBody s_same) (defScope s_same) .none kV_same dc_same pm_same an_same cd_same ct_same), sl_same⟩)
    (c_same : PySem.W.codeIn K cd_same "_law_same" = true)
    (k_same : PySem.W.keepIn K (.ref f_same) = true)
    (a_plan : PySem.W.nsIn K mainGlobals "_law_plan" = some (some (.ref f_plan)))
    (l_plan : K.lookup f_plan = some ⟨oc_plan, od_plan, .func (PySem.W.fnOf "_law_plan" "_law_plan" (defArgs s_plan) (defBody s_plan) (defScope s_plan) .none kV_plan dc_plan pm_plan an_plan cd_plan ct_plan), sl_plan⟩)
    (c_plan : PySem.W.codeIn K cd_plan "_law_plan" = true)
    (k_plan : PySem.W.keepIn K (.ref f_plan) = true)
    (a_deeds : PySem.W.nsIn K mainGlobals "_law_deeds" = some (some (.ref f_deeds)))
    (l_deeds : K.lookup f_deeds = some ⟨oc_deeds, od_deeds, .func (PySem.W.fnOf "_law_deeds" "_law_deeds" (defArgs s_deeds) (defBody s_deeds) (defScope s_deeds) .none kV_deeds dc_deeds pm_deeds an_deeds cd_deeds ct_deeds), sl_deeds⟩)
    (c_deeds : PySem.W.codeIn K cd_deeds "_law_deeds" = true)
    (k_deeds : PySem.W.keepIn K (.ref f_deeds) = true)
    (a_call : PySem.W.nsIn K mainGlobals "_law_call" = some (some (.ref f_call)))
    (l_call : K.lookup f_call = some ⟨oc_call, od_call, .func (PySem.W.fnOf "_law_call" "_law_call" (defArgs s_call) (defBody s_call) (defScope s_call) .none kV_call dc_call pm_call an_call cd_call ct_call), sl_call⟩)
    (c_call : PySem.W.codeIn K cd_call "_law_call" = true)
    (k_call : PySem.W.keepIn K (.ref f_call) = true)
    (a_kind : PySem.W.nsIn K mainGlobals "_law_kind" = some (some (.ref f_kind)))
    (l_kind : K.lookup f_kind = some ⟨oc_kind, od_kind, .func (PySem.W.fnOf "_law_kind" "_law_kind" (defArgs s_kind) (defBody s_kind) (defScope s_kind) .none kV_kind dc_kind pm_kind an_kind cd_kind ct_kind), sl_kind⟩)
    (c_kind : PySem.W.codeIn K cd_kind "_law_kind" = true)
    (k_kind : PySem.W.keepIn K (.ref f_kind) = true)
    (a_lines : PySem.W.nsIn K mainGlobals "_law_lines" = some (some (.ref f_lines)))
    (l_lines : K.lookup f_lines = some ⟨oc_lines, od_lines, .func (PySem.W.fnOf "_law_lines" "_law_lines" (defArgs s_lines) (defBody s_lines) (defScope s_lines) .none kV_lines dc_lines pm_lines an_lines cd_lines ct_lines), sl_lines⟩)
    (c_lines : PySem.W.codeIn K cd_lines "_law_lines" = true)
    (k_lines : PySem.W.keepIn K (.ref f_lines) = true)
    (a_law : PySem.W.nsIn K mainGlobals "law" = some (some (.ref f_law)))
    (l_law : K.lookup f_law = some ⟨oc_law, od_law, .func (PySem.W.fnOf "law" "law" (defArgs s_law) (defBody s_law) (defScope s_law) .none kV_law dc_law pm_law an_law cd_law ct_law), sl_law⟩)
    (c_law : PySem.W.codeIn K cd_law "law" = true)
    (k_law : PySem.W.keepIn K (.ref f_law) = true)
    (a_is_word : PySem.W.nsIn K mainGlobals "is_word" = some (some (.ref f_is_word)))
    (l_is_word : K.lookup f_is_word = some ⟨oc_is_word, od_is_word, .func (PySem.W.fnOf "is_word" "is_word" (defArgs s_is_word) (defBody s_is_word) (defScope s_is_word) .none kV_is_word dc_is_word pm_is_word an_is_word cd_is_word ct_is_word), sl_is_word⟩)
    (c_is_word : PySem.W.codeIn K cd_is_word "is_word" = true)
    (k_is_word : PySem.W.keepIn K (.ref f_is_word) = true)
    (a_is_integer : PySem.W.nsIn K mainGlobals "is_integer" = some (some (.ref f_is_integer)))
    (l_is_integer : K.lookup f_is_integer = some ⟨oc_is_integer, od_is_integer, .func (PySem.W.fnOf "is_integer" "is_integer" (defArgs s_is_integer) (defBody s_is_integer) (defScope s_is_integer) .none kV_is_integer dc_is_integer pm_is_integer an_is_integer cd_is_integer ct_is_integer), sl_is_integer⟩)
    (c_is_integer : PySem.W.codeIn K cd_is_integer "is_integer" = true)
    (k_is_integer : PySem.W.keepIn K (.ref f_is_integer) = true)
    (a_is_list : PySem.W.nsIn K mainGlobals "is_list" = some (some (.ref f_is_list)))
    (l_is_list : K.lookup f_is_list = some ⟨oc_is_list, od_is_list, .func (PySem.W.fnOf "is_list" "is_list" (defArgs s_is_list) (defBody s_is_list) (defScope s_is_list) .none kV_is_list dc_is_list pm_is_list an_is_list cd_is_list ct_is_list), sl_is_list⟩)
    (c_is_list : PySem.W.codeIn K cd_is_list "is_list" = true)
    (k_is_list : PySem.W.keepIn K (.ref f_is_list) = true)
    (a_is_modes : PySem.W.nsIn K mainGlobals "is_modes" = some (some (.ref f_is_modes)))
    (l_is_modes : K.lookup f_is_modes = some ⟨oc_is_modes, od_is_modes, .func (PySem.W.fnOf "is_modes" "is_modes" (defArgs s_is_modes) (defBody s_is_modes) (defScope s_is_modes) .none kV_is_modes dc_is_modes pm_is_modes an_is_modes cd_is_modes ct_is_modes), sl_is_modes⟩)
    (c_is_modes : PySem.W.codeIn K cd_is_modes "is_modes" = true)
    (k_is_modes : PySem.W.keepIn K (.ref f_is_modes) = true)
    (a_is_field : PySem.W.nsIn K mainGlobals "is_field" = some (some (.ref f_is_field)))
    (l_is_field : K.lookup f_is_field = some ⟨oc_is_field, od_is_field, .func (PySem.W.fnOf "is_field" "is_field" (defArgs s_is_field) (defBody s_is_field) (defScope s_is_field) .none kV_is_field dc_is_field pm_is_field an_is_field cd_is_field ct_is_field), sl_is_field⟩)
    (c_is_field : PySem.W.codeIn K cd_is_field "is_field" = true)
    (k_is_field : PySem.W.keepIn K (.ref f_is_field) = true)
    (a_kept_fields : PySem.W.nsIn K mainGlobals "kept_fields" = some (some (.ref f_kept_fields)))
    (l_kept_fields : K.lookup f_kept_fields = some ⟨oc_kept_fields, od_kept_fields, .func (PySem.W.fnOf "kept_fields" "kept_fields" (defArgs s_kept_fields) (defBody s_kept_fields) (defScope s_kept_fields) .none kV_kept_fields dc_kept_fields pm_kept_fields an_kept_fields cd_kept_fields ct_kept_fields), sl_kept_fields⟩)
    (c_kept_fields : PySem.W.codeIn K cd_kept_fields "kept_fields" = true)
    (k_kept_fields : PySem.W.keepIn K (.ref f_kept_fields) = true)
    (a_is_many : PySem.W.nsIn K mainGlobals "is_many" = some (some (.ref f_is_many)))
    (l_is_many : K.lookup f_is_many = some ⟨oc_is_many, od_is_many, .func (PySem.W.fnOf "is_many" "is_many" (defArgs s_is_many) (defBody s_is_many) (defScope s_is_many) .none kV_is_many dc_is_many pm_is_many an_is_many cd_is_many ct_is_many), sl_is_many⟩)
    (c_is_many : PySem.W.codeIn K cd_is_many "is_many" = true)
    (k_is_many : PySem.W.keepIn K (.ref f_is_many) = true)
    (a_is_deed : PySem.W.nsIn K mainGlobals "is_deed" = some (some (.ref f_is_deed)))
    (l_is_deed : K.lookup f_is_deed = some ⟨oc_is_deed, od_is_deed, .func (PySem.W.fnOf "is_deed" "is_deed" (defArgs s_is_deed) (defBody s_is_deed) (defScope s_is_deed) .none kV_is_deed dc_is_deed pm_is_deed an_is_deed cd_is_deed ct_is_deed), sl_is_deed⟩)
    (c_is_deed : PySem.W.codeIn K cd_is_deed "is_deed" = true)
    (k_is_deed : PySem.W.keepIn K (.ref f_is_deed) = true)
    (a_are_moves : PySem.W.nsIn K mainGlobals "are_moves" = some (some (.ref f_are_moves)))
    (l_are_moves : K.lookup f_are_moves = some ⟨oc_are_moves, od_are_moves, .func (PySem.W.fnOf "are_moves" "are_moves" (defArgs s_are_moves) (defBody s_are_moves) (defScope s_are_moves) .none kV_are_moves dc_are_moves pm_are_moves an_are_moves cd_are_moves ct_are_moves), sl_are_moves⟩)
    (c_are_moves : PySem.W.codeIn K cd_are_moves "are_moves" = true)
    (k_are_moves : PySem.W.keepIn K (.ref f_are_moves) = true)
    (a_has_call_form : PySem.W.nsIn K mainGlobals "has_call_form" = some (some (.ref f_has_call_form)))
    (l_has_call_form : K.lookup f_has_call_form = some ⟨oc_has_call_form, od_has_call_form, .func (PySem.W.fnOf "has_call_form" "has_call_form" (defArgs s_has_call_form) (defBody s_has_call_form) (defScope s_has_call_form) .none kV_has_call_form dc_has_call_form pm_has_call_form an_has_call_form cd_has_call_form ct_has_call_form), sl_has_call_form⟩)
    (c_has_call_form : PySem.W.codeIn K cd_has_call_form "has_call_form" = true)
    (k_has_call_form : PySem.W.keepIn K (.ref f_has_call_form) = true)
    (a_are_deeds : PySem.W.nsIn K mainGlobals "are_deeds" = some (some (.ref f_are_deeds)))
    (l_are_deeds : K.lookup f_are_deeds = some ⟨oc_are_deeds, od_are_deeds, .func (PySem.W.fnOf "are_deeds" "are_deeds" (defArgs s_are_deeds) (defBody s_are_deeds) (defScope s_are_deeds) .none kV_are_deeds dc_are_deeds pm_are_deeds an_are_deeds cd_are_deeds ct_are_deeds), sl_are_deeds⟩)
    (c_are_deeds : PySem.W.codeIn K cd_are_deeds "are_deeds" = true)
    (k_are_deeds : PySem.W.keepIn K (.ref f_are_deeds) = true)
    (a_is_same : PySem.W.nsIn K mainGlobals "is_same" = some (some (.ref f_is_same)))
    (l_is_same : K.lookup f_is_same = some ⟨oc_is_same, od_is_same, .func (PySem.W.fnOf "is_same" "is_same" (defArgs s_is_same) (defBody s_is_same) (defScope s_is_same) .none kV_is_same dc_is_same pm_is_same an_is_same cd_is_same ct_is_same), sl_is_same⟩)
    (c_is_same : PySem.W.codeIn K cd_is_same "is_same" = true)
    (k_is_same : PySem.W.keepIn K (.ref f_is_same) = true)
    (a_kept_call : PySem.W.nsIn K mainGlobals "kept_call" = some (some (.ref f_kept_call)))
    (l_kept_call : K.lookup f_kept_call = some ⟨oc_kept_call, od_kept_call, .func (PySem.W.fnOf "kept_call" "kept_call" (defArgs s_kept_call) (defBody s_kept_call) (defScope s_kept_call) .none kV_kept_call dc_kept_call pm_kept_call an_kept_call cd_kept_call ct_kept_call), sl_kept_call⟩)
    (c_kept_call : PySem.W.codeIn K cd_kept_call "kept_call" = true)
    (k_kept_call : PySem.W.keepIn K (.ref f_kept_call) = true)
    (a_wrong_part : PySem.W.nsIn K mainGlobals "wrong_part" = some (some (.ref f_wrong_part)))
    (l_wrong_part : K.lookup f_wrong_part = some ⟨oc_wrong_part, od_wrong_part, .func (PySem.W.fnOf "wrong_part" "wrong_part" (defArgs s_wrong_part) (defBody s_wrong_part) (defScope s_wrong_part) .none kV_wrong_part dc_wrong_part pm_wrong_part an_wrong_part cd_wrong_part ct_wrong_part), sl_wrong_part⟩)
    (c_wrong_part : PySem.W.codeIn K cd_wrong_part "wrong_part" = true)
    (k_wrong_part : PySem.W.keepIn K (.ref f_wrong_part) = true)
    (a_kept_calls : PySem.W.nsIn K mainGlobals "kept_calls" = some (some (.ref f_kept_calls)))
    (l_kept_calls : K.lookup f_kept_calls = some ⟨oc_kept_calls, od_kept_calls, .func (PySem.W.fnOf "kept_calls" "kept_calls" (defArgs s_kept_calls) (defBody s_kept_calls) (defScope s_kept_calls) .none kV_kept_calls dc_kept_calls pm_kept_calls an_kept_calls cd_kept_calls ct_kept_calls), sl_kept_calls⟩)
    (c_kept_calls : PySem.W.codeIn K cd_kept_calls "kept_calls" = true)
    (k_kept_calls : PySem.W.keepIn K (.ref f_kept_calls) = true)
    (a_written : PySem.W.nsIn K mainGlobals "written" = some (some (.ref f_written)))
    (l_written : K.lookup f_written = some ⟨oc_written, od_written, .func (PySem.W.fnOf "written" "written" (defArgs s_written) (defBody s_written) (defScope s_written) .none kV_written dc_written pm_written an_written cd_written ct_written), sl_written⟩)
    (c_written : PySem.W.codeIn K cd_written "written" = true)
    (k_written : PySem.W.keepIn K (.ref f_written) = true)
    (a_call_lines : PySem.W.nsIn K mainGlobals "call_lines" = some (some (.ref f_call_lines)))
    (l_call_lines : K.lookup f_call_lines = some ⟨oc_call_lines, od_call_lines, .func (PySem.W.fnOf "call_lines" "call_lines" (defArgs s_call_lines) (defBody s_call_lines) (defScope s_call_lines) .none kV_call_lines dc_call_lines pm_call_lines an_call_lines cd_call_lines ct_call_lines), sl_call_lines⟩)
    (c_call_lines : PySem.W.codeIn K cd_call_lines "call_lines" = true)
    (k_call_lines : PySem.W.keepIn K (.ref f_call_lines) = true)
    (a_read_draft : PySem.W.nsIn K mainGlobals "read_draft" = some (some (.ref f_read_draft)))
    (l_read_draft : K.lookup f_read_draft = some ⟨oc_read_draft, od_read_draft, .func (PySem.W.fnOf "read_draft" "read_draft" (defArgs s_read_draft) (defBody s_read_draft) (defScope s_read_draft) .none kV_read_draft dc_read_draft pm_read_draft an_read_draft cd_read_draft ct_read_draft), sl_read_draft⟩)
    (c_read_draft : PySem.W.codeIn K cd_read_draft "read_draft" = true)
    (k_read_draft : PySem.W.keepIn K (.ref f_read_draft) = true)
    (a_put_line : PySem.W.nsIn K mainGlobals "put_line" = some (some (.ref f_put_line)))
    (l_put_line : K.lookup f_put_line = some ⟨oc_put_line, od_put_line, .func (PySem.W.fnOf "put_line" "put_line" (defArgs s_put_line) (defBody s_put_line) (defScope s_put_line) .none kV_put_line dc_put_line pm_put_line an_put_line cd_put_line ct_put_line), sl_put_line⟩)
    (c_put_line : PySem.W.codeIn K cd_put_line "put_line" = true)
    (k_put_line : PySem.W.keepIn K (.ref f_put_line) = true)
    (a_put_modes : PySem.W.nsIn K mainGlobals "put_modes" = some (some (.ref f_put_modes)))
    (l_put_modes : K.lookup f_put_modes = some ⟨oc_put_modes, od_put_modes, .func (PySem.W.fnOf "put_modes" "put_modes" (defArgs s_put_modes) (defBody s_put_modes) (defScope s_put_modes) .none kV_put_modes dc_put_modes pm_put_modes an_put_modes cd_put_modes ct_put_modes), sl_put_modes⟩)
    (c_put_modes : PySem.W.codeIn K cd_put_modes "put_modes" = true)
    (k_put_modes : PySem.W.keepIn K (.ref f_put_modes) = true)
    (a_put_field : PySem.W.nsIn K mainGlobals "put_field" = some (some (.ref f_put_field)))
    (l_put_field : K.lookup f_put_field = some ⟨oc_put_field, od_put_field, .func (PySem.W.fnOf "put_field" "put_field" (defArgs s_put_field) (defBody s_put_field) (defScope s_put_field) .none kV_put_field dc_put_field pm_put_field an_put_field cd_put_field ct_put_field), sl_put_field⟩)
    (c_put_field : PySem.W.codeIn K cd_put_field "put_field" = true)
    (k_put_field : PySem.W.keepIn K (.ref f_put_field) = true)
    (a_put_call : PySem.W.nsIn K mainGlobals "put_call" = some (some (.ref f_put_call)))
    (l_put_call : K.lookup f_put_call = some ⟨oc_put_call, od_put_call, .func (PySem.W.fnOf "put_call" "put_call" (defArgs s_put_call) (defBody s_put_call) (defScope s_put_call) .none kV_put_call dc_put_call pm_put_call an_put_call cd_put_call ct_put_call), sl_put_call⟩)
    (c_put_call : PySem.W.codeIn K cd_put_call "put_call" = true)
    (k_put_call : PySem.W.keepIn K (.ref f_put_call) = true)
    (a_put_deed : PySem.W.nsIn K mainGlobals "put_deed" = some (some (.ref f_put_deed)))
    (l_put_deed : K.lookup f_put_deed = some ⟨oc_put_deed, od_put_deed, .func (PySem.W.fnOf "put_deed" "put_deed" (defArgs s_put_deed) (defBody s_put_deed) (defScope s_put_deed) .none kV_put_deed dc_put_deed pm_put_deed an_put_deed cd_put_deed ct_put_deed), sl_put_deed⟩)
    (c_put_deed : PySem.W.codeIn K cd_put_deed "put_deed" = true)
    (k_put_deed : PySem.W.keepIn K (.ref f_put_deed) = true)
    (a_put_same : PySem.W.nsIn K mainGlobals "put_same" = some (some (.ref f_put_same)))
    (l_put_same : K.lookup f_put_same = some ⟨oc_put_same, od_put_same, .func (PySem.W.fnOf "put_same" "put_same" (defArgs s_put_same) (defBody s_put_same) (defScope s_put_same) .none kV_put_same dc_put_same pm_put_same an_put_same cd_put_same ct_put_same), sl_put_same⟩)
    (c_put_same : PySem.W.codeIn K cd_put_same "put_same" = true)
    (k_put_same : PySem.W.keepIn K (.ref f_put_same) = true)
    (a_are_words : PySem.W.nsIn K mainGlobals "are_words" = some (some (.ref f_are_words)))
    (l_are_words : K.lookup f_are_words = some ⟨oc_are_words, od_are_words, .func (PySem.W.fnOf "are_words" "are_words" (defArgs s_are_words) (defBody s_are_words) (defScope s_are_words) .none kV_are_words dc_are_words pm_are_words an_are_words cd_are_words ct_are_words), sl_are_words⟩)
    (c_are_words : PySem.W.codeIn K cd_are_words "are_words" = true)
    (k_are_words : PySem.W.keepIn K (.ref f_are_words) = true)
    (a_is_number : PySem.W.nsIn K mainGlobals "is_number" = some (some (.ref f_is_number)))
    (l_is_number : K.lookup f_is_number = some ⟨oc_is_number, od_is_number, .func (PySem.W.fnOf "is_number" "is_number" (defArgs s_is_number) (defBody s_is_number) (defScope s_is_number) .none kV_is_number dc_is_number pm_is_number an_is_number cd_is_number ct_is_number), sl_is_number⟩)
    (c_is_number : PySem.W.codeIn K cd_is_number "is_number" = true)
    (k_is_number : PySem.W.keepIn K (.ref f_is_number) = true)
    (a_number_of : PySem.W.nsIn K mainGlobals "number_of" = some (some (.ref f_number_of)))
    (l_number_of : K.lookup f_number_of = some ⟨oc_number_of, od_number_of, .func (PySem.W.fnOf "number_of" "number_of" (defArgs s_number_of) (defBody s_number_of) (defScope s_number_of) .none kV_number_of dc_number_of pm_number_of an_number_of cd_number_of ct_number_of), sl_number_of⟩)
    (c_number_of : PySem.W.codeIn K cd_number_of "number_of" = true)
    (k_number_of : PySem.W.keepIn K (.ref f_number_of) = true)
    (a_move_of : PySem.W.nsIn K mainGlobals "move_of" = some (some (.ref f_move_of)))
    (l_move_of : K.lookup f_move_of = some ⟨oc_move_of, od_move_of, .func (PySem.W.fnOf "move_of" "move_of" (defArgs s_move_of) (defBody s_move_of) (defScope s_move_of) .none kV_move_of dc_move_of pm_move_of an_move_of cd_move_of ct_move_of), sl_move_of⟩)
    (c_move_of : PySem.W.codeIn K cd_move_of "move_of" = true)
    (k_move_of : PySem.W.keepIn K (.ref f_move_of) = true)
    (aC_Kind : PySem.W.nsIn K mainGlobals "Kind" = some (some (.ref C_Kind)))
    (aC_Draft : PySem.W.nsIn K mainGlobals "Draft" = some (some (.ref C_Draft)))
    (m_kinit : PySem.W.findIn K (.ref C_Kind) "__init__" = some (some (.ref f_kinit)))
    (l_kinit : K.lookup f_kinit = some ⟨oc_kinit, od_kinit, .func (PySem.W.fnOf "__init__" "Kind.__init__" (defArgs s_Kind_init) (defBody s_Kind_init) (defScope s_Kind_init) .none kV_kinit dc_kinit pm_kinit an_kinit cd_kinit ct_kinit), sl_kinit⟩)
    (c_kinit : PySem.W.codeIn K cd_kinit "Kind.__init__" = true)
    (k_kinit : PySem.W.keepIn K (.ref f_kinit) = true)
    (fn_kinit : PySem.W.isFn K (.ref f_kinit) = true)
    (m_keq : PySem.W.findIn K (.ref C_Kind) "__eq__" = some (some (.ref f_keq)))
    (l_keq : K.lookup f_keq = some ⟨oc_keq, od_keq, .func (PySem.W.fnOf "__eq__" "Kind.__eq__" (defArgs s_Kind_eq) (defBody s_Kind_eq) (defScope s_Kind_eq) .none kV_keq dc_keq pm_keq an_keq cd_keq ct_keq), sl_keq⟩)
    (c_keq : PySem.W.codeIn K cd_keq "Kind.__eq__" = true)
    (k_keq : PySem.W.keepIn K (.ref f_keq) = true)
    (fn_keq : PySem.W.isFn K (.ref f_keq) = true)
    (m_ktext : PySem.W.findIn K (.ref C_Kind) "text" = some (some (.ref f_ktext)))
    (l_ktext : K.lookup f_ktext = some ⟨oc_ktext, od_ktext, .func (PySem.W.fnOf "text" "Kind.text" (defArgs s_Kind_text) (defBody s_Kind_text) (defScope s_Kind_text) .none kV_ktext dc_ktext pm_ktext an_ktext cd_ktext ct_ktext), sl_ktext⟩)
    (c_ktext : PySem.W.codeIn K cd_ktext "Kind.text" = true)
    (k_ktext : PySem.W.keepIn K (.ref f_ktext) = true)
    (fn_ktext : PySem.W.isFn K (.ref f_ktext) = true)
    (m_dinit : PySem.W.findIn K (.ref C_Draft) "__init__" = some (some (.ref f_dinit)))
    (l_dinit : K.lookup f_dinit = some ⟨oc_dinit, od_dinit, .func (PySem.W.fnOf "__init__" "Draft.__init__" (defArgs s_Draft_init) (defBody s_Draft_init) (defScope s_Draft_init) .none kV_dinit dc_dinit pm_dinit an_dinit cd_dinit ct_dinit), sl_dinit⟩)
    (c_dinit : PySem.W.codeIn K cd_dinit "Draft.__init__" = true)
    (k_dinit : PySem.W.keepIn K (.ref f_dinit) = true)
    (fn_dinit : PySem.W.isFn K (.ref f_dinit) = true)
    (m_kof : PySem.W.findIn K (.ref C_Kind) "of_text" = some (some (.ref p_of)))
    (l_pof : K.lookup p_of = some ⟨.type "staticmethod", od_pof, .fields vs_pof, sl_pof⟩)
    (v_pof : vs_pof[0]? = some (.ref f_kof))
    (l_kof : K.lookup f_kof = some ⟨oc_kof, od_kof, .func (PySem.W.fnOf "of_text" "Kind.of_text" (defArgs s_Kind_of_text) (defBody s_Kind_of_text) (defScope s_Kind_of_text) .none kV_kof dc_kof pm_kof an_kof cd_kof ct_kof), sl_kof⟩)
    (c_kof : PySem.W.codeIn K cd_kof "Kind.of_text" = true)
    (k_kof : PySem.W.keepIn K (.ref f_kof) = true)
    (g_kof : PySem.W.findCls K (.ref C_Kind) (.type "type") "of_text" = some (.get (.builtin "staticmethod.__get__") (.ref p_of) .none (.ref C_Kind)))
    (r_kof : PySem.W.readsIn K C_Kind (.type "type") = true)
    (ga_kof : PySem.W.specialIn K (.ref C_Kind) "__getattribute__" = some (some (.builtin "type.__getattribute__")))
    (kc_mk : PySem.W.makesIn K C_Kind = true)
    (kc_kp : PySem.W.keepIn K (.ref C_Kind) = true)
    (kc_pg : PySem.W.plainGet K C_Kind Str.empty = true)
    (kc_hd : PySem.W.hasDictIn K C_Kind = true)
    (kc_po : PySem.W.plainOver K C_Kind = true)
    (kc_sa : PySem.W.findIn K (.ref C_Kind) "__setattr__" = some (some (.builtin "object.__setattr__")))
    (kc_n_triples : PySem.W.findIn K (.ref C_Kind) "triples" = some none)
    (kc_n_sorts : PySem.W.findIn K (.ref C_Kind) "sorts" = some none)
    (kc_n_spots : PySem.W.findIn K (.ref C_Kind) "spots" = some none)
    (kc_n_modes : PySem.W.findIn K (.ref C_Kind) "modes" = some none)
    (kc_n_steps : PySem.W.findIn K (.ref C_Kind) "steps" = some none)
    (kc_n_table : PySem.W.findIn K (.ref C_Kind) "table" = some none)
    (dc_mk : PySem.W.makesIn K C_Draft = true)
    (dc_kp : PySem.W.keepIn K (.ref C_Draft) = true)
    (dc_pg : PySem.W.plainGet K C_Draft Str.empty = true)
    (dc_hd : PySem.W.hasDictIn K C_Draft = true)
    (dc_po : PySem.W.plainOver K C_Draft = true)
    (dc_sa : PySem.W.findIn K (.ref C_Draft) "__setattr__" = some (some (.builtin "object.__setattr__")))
    (dc_n_modes : PySem.W.findIn K (.ref C_Draft) "modes" = some none)
    (dc_n_field_items : PySem.W.findIn K (.ref C_Draft) "field_items" = some none)
    (dc_n_call_items : PySem.W.findIn K (.ref C_Draft) "call_items" = some none)
    (kc_ha : PySem.W.findIn K (.ref C_Kind) "__class__" = some (some (.builtin "object.__class__")))
    (kc_hn : PySem.W.specialIn K (.builtin "object.__class__") "__get__" = some (some (.builtin "getset_descriptor.__get__")))
    (kc_ht : PySem.W.takesIn K (.builtin "object.__class__") = some true)
    (kc_hm : PySem.W.mroIn K C_Kind (.type "object") = some true)
    (kc_ne : PySem.W.findIn K (.ref C_Kind) "__ne__" = some (some (.builtin "object.__ne__")))
    (kc_ob : PySem.W.subIn K (.ref C_Kind) (.type "object") = some true)
    (z_len : PySem.W.nsIn K mainGlobals "len" = some none)
    (z_int : PySem.W.nsIn K mainGlobals "int" = some none)
    (z_enumerate : PySem.W.nsIn K mainGlobals "enumerate" = some none)
    (z_list : PySem.W.nsIn K mainGlobals "list" = some none)
    (z_tuple : PySem.W.nsIn K mainGlobals "tuple" = some none)
    (z_isinstance : PySem.W.nsIn K mainGlobals "isinstance" = some none)
    (z_range : PySem.W.nsIn K mainGlobals "range" = some none)
    (z_all : PySem.W.nsIn K mainGlobals "all" = some none)
    (z_zip : PySem.W.nsIn K mainGlobals "zip" = some none)
    (z_ValueError : PySem.W.nsIn K mainGlobals "ValueError" = some none)
    (z_bool : PySem.W.nsIn K mainGlobals "bool" = some none)
    (z_str : PySem.W.nsIn K mainGlobals "str" = some none)
    (z_set : PySem.W.nsIn K mainGlobals "set" = some none)
    (z_any : PySem.W.nsIn K mainGlobals "any" = some none)
    (v_MOST_LETTERS : PySem.W.nsIn K mainGlobals "MOST_LETTERS" = some (some (.int 8 tk_MOST_LETTERS)))
    (v_MOST_FIELDS : PySem.W.nsIn K mainGlobals "MOST_FIELDS" = some (some (.int 3 tk_MOST_FIELDS)))
    (v_MOST_MODES : PySem.W.nsIn K mainGlobals "MOST_MODES" = some (some (.int 4 tk_MOST_MODES)))
    (v_MOST_CALLS : PySem.W.nsIn K mainGlobals "MOST_CALLS" = some (some (.int 6 tk_MOST_CALLS)))
    (v_MOST_DEEDS : PySem.W.nsIn K mainGlobals "MOST_DEEDS" = some (some (.int 4 tk_MOST_DEEDS)))
    (v_DIGITS : PySem.W.nsIn K mainGlobals "DIGITS" = some (some (.str "0123456789" tk_DIG)))
    (v_SORTS : PySem.W.nsIn K mainGlobals "SORTS" = some (some (.ref A_sorts)))
    (tu_sorts : tupB K A_sorts ["one", "many"] = true)
    (v_HANDS : PySem.W.nsIn K mainGlobals "HANDS" = some (some (.ref A_hands)))
    (tu_hands : tupB K A_hands ["self", "new", "last"] = true)
    (v_LIST_WORD_DEEDS : PySem.W.nsIn K mainGlobals "LIST_WORD_DEEDS" = some (some (.ref A_lwd)))
    (tu_lwd : tupB K A_lwd ["add", "strike"] = true)
    (v_sod : PySem.W.nsIn K mainGlobals "SORTS_OF_DEEDS" = some (some (.ref A_sod)))
    (sd_set : PySem.W.nsIn K A_sod "set" = some (some (.ref A_sod_set)))
    (td_set : tupB K A_sod_set ["one"] = true)
    (sd_add : PySem.W.nsIn K A_sod "add" = some (some (.ref A_sod_add)))
    (td_add : tupB K A_sod_add ["many"] = true)
    (sd_strike : PySem.W.nsIn K A_sod "strike" = some (some (.ref A_sod_strike)))
    (td_strike : tupB K A_sod_strike ["many"] = true)
    (sd_fresh : PySem.W.nsIn K A_sod "fresh" = some (some (.ref A_sod_fresh)))
    (td_fresh : tupB K A_sod_fresh ["many"] = true)
    (sd_clear : PySem.W.nsIn K A_sod "clear" = some (some (.ref A_sod_clear)))
    (td_clear : tupB K A_sod_clear ["one", "many"] = true)
    (dsod : He.dicW K A_sod = some (He.keysIn w.params ["set", "add", "strike", "fresh", "clear"]))
    : ∃ fd : FuncData, (∀ (s : Shared) (v : Value), BindsTo s fd ⟨[v], []⟩ [("_law_script", v)]) ∧ ∀ base : Heap, K.In base → base.Ns mainGlobals mg → FnOk l.prog w K mg base CX0 10 fa fd ["_law_script"] (spLaw K) := by
  have e := hfa.symm.trans (PySem.W.mg_of X G a_law)
  cases e
  have T : Txt K mg := ⟨PySem.W.mg_none_of X G z_len, PySem.W.mg_none_of X G z_int, PySem.W.mg_none_of X G z_enumerate, PySem.W.mg_none_of X G z_list, PySem.W.mg_none_of X G z_tuple, PySem.W.mg_none_of X G z_isinstance, PySem.W.mg_none_of X G z_range, PySem.W.mg_none_of X G z_all, PySem.W.mg_none_of X G z_zip, PySem.W.mg_none_of X G z_ValueError, PySem.W.mg_none_of X G z_bool, PySem.W.mg_none_of X G z_str, PySem.W.mg_none_of X G z_set, PySem.W.mg_none_of X G z_any⟩
  have F_fresh := def_mk (st := s_fresh) (ps := ["_law_script"]) X G a_fresh l_fresh c_fresh k_fresh fun _ _ _ _ _ _ us hl => match us, hl with | [_], _ => rfl
  have F_fill := def_mk (st := s_fill) (ps := ["_law_state"]) X G a_fill l_fill c_fill k_fill fun _ _ _ _ _ _ us hl => match us, hl with | [_], _ => rfl
  have F_take := def_mk (st := s_take) (ps := ["_law_state", "_law_many"]) X G a_take l_take c_take k_take fun _ _ _ _ _ _ us hl => match us, hl with | [_, _], _ => rfl
  have F_one := def_mk (st := s_one) (ps := ["_law_state", "_law_things"]) X G a_one l_one c_one k_one fun _ _ _ _ _ _ us hl => match us, hl with | [_, _], _ => rfl
  have F_mix := def_mk (st := s_mix) (ps := ["_law_state", "_law_things"]) X G a_mix l_mix c_mix k_mix fun _ _ _ _ _ _ us hl => match us, hl with | [_, _], _ => rfl
  have F_same := def_mk (st := s_same) (ps := ["_law_found", "_law_due"]) X G a_same l_same c_same k_same fun _ _ _ _ _ _ us hl => match us, hl with | [_, _], _ => rfl
  have F_plan := def_mk (st := s_plan) (ps := ["_law_fields", "_law_calls", "_law_far"]) X G a_plan l_plan c_plan k_plan fun _ _ _ _ _ _ us hl => match us, hl with | [_, _, _], _ => rfl
  have F_deeds := def_mk (st := s_deeds) (ps := ["_law_state", "_law_fields", "_law_many"]) X G a_deeds l_deeds c_deeds k_deeds fun _ _ _ _ _ _ us hl => match us, hl with | [_, _, _], _ => rfl
  have F_call := def_mk (st := s_call) (ps := ["_law_state", "_law_name", "_law_hand", "_law_fields", "_law_far"]) X G a_call l_call c_call k_call fun _ _ _ _ _ _ us hl => match us, hl with | [_, _, _, _, _], _ => rfl
  have F_kind := def_mk (st := s_kind) (ps := ["_law_state", "_law_wide", "_law_many", "_law_far"]) X G a_kind l_kind c_kind k_kind fun _ _ _ _ _ _ us hl => match us, hl with | [_, _, _, _], _ => rfl
  have F_lines := def_mk (st := s_lines) (ps := ["_law_p"]) X G a_lines l_lines c_lines k_lines fun _ _ _ _ _ _ us hl => match us, hl with | [_], _ => rfl
  have F_law := def_mk (st := s_law) (ps := ["_law_script"]) X G a_law l_law c_law k_law fun _ _ _ _ _ _ us hl => match us, hl with | [_], _ => rfl
  have F_is_word := def_mk (st := s_is_word) (ps := ["thing"]) X G a_is_word l_is_word c_is_word k_is_word fun _ _ _ _ _ _ us hl => match us, hl with | [_], _ => rfl
  have F_is_integer := def_mk (st := s_is_integer) (ps := ["thing"]) X G a_is_integer l_is_integer c_is_integer k_is_integer fun _ _ _ _ _ _ us hl => match us, hl with | [_], _ => rfl
  have F_is_list := def_mk (st := s_is_list) (ps := ["thing"]) X G a_is_list l_is_list c_is_list k_is_list fun _ _ _ _ _ _ us hl => match us, hl with | [_], _ => rfl
  have F_is_modes := def_mk (st := s_is_modes) (ps := ["modes"]) X G a_is_modes l_is_modes c_is_modes k_is_modes fun _ _ _ _ _ _ us hl => match us, hl with | [_], _ => rfl
  have F_is_field := def_mk (st := s_is_field) (ps := ["item", "earlier"]) X G a_is_field l_is_field c_is_field k_is_field fun _ _ _ _ _ _ us hl => match us, hl with | [_, _], _ => rfl
  have F_kept_fields := def_mk (st := s_kept_fields) (ps := ["fields"]) X G a_kept_fields l_kept_fields c_kept_fields k_kept_fields fun _ _ _ _ _ _ us hl => match us, hl with | [_], _ => rfl
  have F_is_many := def_mk (st := s_is_many) (ps := ["field", "sorts"]) X G a_is_many l_is_many c_is_many k_is_many fun _ _ _ _ _ _ us hl => match us, hl with | [_, _], _ => rfl
  have F_is_deed := def_mk (st := s_is_deed) (ps := ["pair", "sorts"]) X G a_is_deed l_is_deed c_is_deed k_is_deed fun _ _ _ _ _ _ us hl => match us, hl with | [_, _], _ => rfl
  have F_are_moves := def_mk (st := s_are_moves) (ps := ["moves", "modes"]) X G a_are_moves l_are_moves c_are_moves k_are_moves fun _ _ _ _ _ _ us hl => match us, hl with | [_, _], _ => rfl
  have F_has_call_form := def_mk (st := s_has_call_form) (ps := ["item"]) X G a_has_call_form l_has_call_form c_has_call_form k_has_call_form fun _ _ _ _ _ _ us hl => match us, hl with | [_], _ => rfl
  have F_are_deeds := def_mk (st := s_are_deeds) (ps := ["deeds", "sorts"]) X G a_are_deeds l_are_deeds c_are_deeds k_are_deeds fun _ _ _ _ _ _ us hl => match us, hl with | [_, _], _ => rfl
  have F_is_same := def_mk (st := s_is_same) (ps := ["same", "hand", "sorts"]) X G a_is_same l_is_same c_is_same k_is_same fun _ _ _ _ _ _ us hl => match us, hl with | [_, _, _], _ => rfl
  have F_kept_call := def_mk (st := s_kept_call) (ps := ["call"]) X G a_kept_call l_kept_call c_kept_call k_kept_call fun _ _ _ _ _ _ us hl => match us, hl with | [_], _ => rfl
  have F_wrong_part := def_mk (st := s_wrong_part) (ps := ["item", "earlier", "sorts", "modes"]) X G a_wrong_part l_wrong_part c_wrong_part k_wrong_part fun _ _ _ _ _ _ us hl => match us, hl with | [_, _, _, _], _ => rfl
  have F_kept_calls := def_mk (st := s_kept_calls) (ps := ["calls", "sorts", "modes"]) X G a_kept_calls l_kept_calls c_kept_calls k_kept_calls fun _ _ _ _ _ _ us hl => match us, hl with | [_, _, _], _ => rfl
  have F_written := def_mk (st := s_written) (ps := ["modes", "fields", "calls"]) X G a_written l_written c_written k_written fun _ _ _ _ _ _ us hl => match us, hl with | [_, _, _], _ => rfl
  have F_call_lines := def_mk (st := s_call_lines) (ps := ["call"]) X G a_call_lines l_call_lines c_call_lines k_call_lines fun _ _ _ _ _ _ us hl => match us, hl with | [_], _ => rfl
  have F_read_draft := def_mk (st := s_read_draft) (ps := ["text"]) X G a_read_draft l_read_draft c_read_draft k_read_draft fun _ _ _ _ _ _ us hl => match us, hl with | [_], _ => rfl
  have F_put_line := def_mk (st := s_put_line) (ps := ["draft", "parts"]) X G a_put_line l_put_line c_put_line k_put_line fun _ _ _ _ _ _ us hl => match us, hl with | [_, _], _ => rfl
  have F_put_modes := def_mk (st := s_put_modes) (ps := ["draft", "parts"]) X G a_put_modes l_put_modes c_put_modes k_put_modes fun _ _ _ _ _ _ us hl => match us, hl with | [_, _], _ => rfl
  have F_put_field := def_mk (st := s_put_field) (ps := ["draft", "parts"]) X G a_put_field l_put_field c_put_field k_put_field fun _ _ _ _ _ _ us hl => match us, hl with | [_, _], _ => rfl
  have F_put_call := def_mk (st := s_put_call) (ps := ["draft", "parts"]) X G a_put_call l_put_call c_put_call k_put_call fun _ _ _ _ _ _ us hl => match us, hl with | [_, _], _ => rfl
  have F_put_deed := def_mk (st := s_put_deed) (ps := ["draft", "parts"]) X G a_put_deed l_put_deed c_put_deed k_put_deed fun _ _ _ _ _ _ us hl => match us, hl with | [_, _], _ => rfl
  have F_put_same := def_mk (st := s_put_same) (ps := ["draft", "parts"]) X G a_put_same l_put_same c_put_same k_put_same fun _ _ _ _ _ _ us hl => match us, hl with | [_, _], _ => rfl
  have F_are_words := def_mk (st := s_are_words) (ps := ["parts"]) X G a_are_words l_are_words c_are_words k_are_words fun _ _ _ _ _ _ us hl => match us, hl with | [_], _ => rfl
  have F_is_number := def_mk (st := s_is_number) (ps := ["part"]) X G a_is_number l_is_number c_is_number k_is_number fun _ _ _ _ _ _ us hl => match us, hl with | [_], _ => rfl
  have F_number_of := def_mk (st := s_number_of) (ps := ["part"]) X G a_number_of l_number_of c_number_of k_number_of fun _ _ _ _ _ _ us hl => match us, hl with | [_], _ => rfl
  have F_move_of := def_mk (st := s_move_of) (ps := ["part"]) X G a_move_of l_move_of c_move_of k_move_of fun _ _ _ _ _ _ us hl => match us, hl with | [_], _ => rfl
  have F_kinit := fun_mk (st := s_Kind_init) l_kinit c_kinit k_kinit
  have F_keq := fun_mk (st := s_Kind_eq) l_keq c_keq k_keq
  have B_keq : Binds K _ ["self", "other"] [] := F_keq.binds fun _ _ _ _ _ _ us hl => match us, hl with | [_, _], _ => rfl
  have F_ktext := fun_mk (st := s_Kind_text) l_ktext c_ktext k_ktext
  have B_ktext : Binds K _ ["self"] [] := F_ktext.binds fun _ _ _ _ _ _ us hl => match us, hl with | [_], _ => rfl
  have F_dinit := fun_mk (st := s_Draft_init) l_dinit c_dinit k_dinit
  have B_dinit : Binds K _ ["self"] [] := F_dinit.binds fun _ _ _ _ _ _ us hl => match us, hl with | [_], _ => rfl
  have F_kof := fun_mk (st := s_Kind_of_text) l_kof c_kof k_kof
  have B_kof : Binds K _ ["text"] [] := F_kof.binds fun _ _ _ _ _ _ us hl => match us, hl with | [_], _ => rfl
  have Z : KCls K C_Kind := ⟨⟨kc_pg, kc_hd, kc_po, kc_sa⟩, kc_n_triples, kc_n_sorts, kc_n_spots, kc_n_modes, kc_n_steps, kc_n_table⟩
  have ZD : DCls K C_Draft := ⟨⟨dc_pg, dc_hd, dc_po, dc_sa⟩, dc_n_modes, dc_n_field_items, dc_n_call_items⟩
  have Y : KIns K C_Kind := ⟨kc_ha, kc_hn, kc_ht, kc_hm⟩
  have gK := PySem.W.mg_of X G aC_Kind
  have Cs : Csts K w mg ⟨A_sorts, A_hands, A_sod, 0, A_lwd⟩ :=
    { MOST_LETTERS := ⟨_, PySem.W.mg_of X G v_MOST_LETTERS, _, rfl⟩,
      MOST_FIELDS := ⟨_, PySem.W.mg_of X G v_MOST_FIELDS, _, rfl⟩,
      MOST_MODES := ⟨_, PySem.W.mg_of X G v_MOST_MODES, _, rfl⟩,
      MOST_CALLS := ⟨_, PySem.W.mg_of X G v_MOST_CALLS, _, rfl⟩,
      MOST_DEEDS := ⟨_, PySem.W.mg_of X G v_MOST_DEEDS, _, rfl⟩,
      SORTS := ⟨_, PySem.W.mg_of X G v_SORTS, rfl⟩,
      HANDS := ⟨_, PySem.W.mg_of X G v_HANDS, rfl⟩,
      SORTS_OF_DEEDS := ⟨_, PySem.W.mg_of X G v_sod, rfl⟩,
      LIST_WORD_DEEDS := ⟨_, PySem.W.mg_of X G v_LIST_WORD_DEEDS, rfl⟩,
      t_sorts := tupB_ok tu_sorts,
      t_hands := tupB_ok tu_hands,
      t_lwd := tupB_ok tu_lwd,
      sodD := He.dicW_ok dsod,
      sodN := sod_all dsod ⟨_, sd_set, tupB_ok td_set⟩ ⟨_, sd_add, tupB_ok td_add⟩ ⟨_, sd_strike, tupB_ok td_strike⟩ ⟨_, sd_fresh, tupB_ok td_fresh⟩ ⟨_, sd_clear, tupB_ok td_clear⟩ }
  refine ⟨PySem.W.fnOf "law" "law" (defArgs s_law) (defBody s_law) (defScope s_law) .none kV_law dc_law pm_law an_law cd_law ct_law, fun s v => .of_eq rfl, fun base _ _ => ?_⟩
  have c_fresh := ok_fresh (P := l.prog) (w := w) (base := base) F_fresh T
  have c_fill := ok_fill (P := l.prog) (w := w) (base := base) F_fill T
  have c_take := ok_take F_take T c_fill
  have c_one := ok_one F_one T c_take
  have c_mix := ok_mix F_mix T c_take
  have c_deeds := ok_deeds F_deeds T c_take c_one
  have c_call := ok_call F_call T c_take c_one c_deeds
  have c_same := ok_same (P := l.prog) (w := w) (base := base) F_same T 0
  have c_is_word := ok_word (P := l.prog) (w := w) (base := base) F_is_word T Cs
  have c_is_integer := ok_integer (P := l.prog) (w := w) (base := base) F_is_integer T
  have c_is_list := ok_list (P := l.prog) (w := w) (base := base) F_is_list T
  have c_is_modes := ok_modes F_is_modes T Cs c_is_integer
  have c_is_field := ok_field F_is_field T Cs c_is_list c_is_word
  have c_kept_fields := ok_fields F_kept_fields T Cs c_is_list c_is_field
  have c_is_many := ok_many (P := l.prog) (w := w) (base := base) F_is_many T
  have c_is_deed := ok_deed F_is_deed T Cs c_is_list
  have c_are_moves := ok_moves F_are_moves T c_is_integer
  have c_has_call_form := ok_callForm F_has_call_form T c_is_list
  have c_are_deeds := ok_deedsOk F_are_deeds T Cs c_is_deed
  have c_is_same := ok_sameOk F_is_same T c_is_many
  have c_kept_call := ok_keptCall (P := l.prog) (w := w) (base := base) F_kept_call T
  have c_wrong_part := ok_wrong F_wrong_part T Cs c_has_call_form c_is_word c_are_moves c_are_deeds c_is_same
  have c_kept_calls := ok_calls F_kept_calls T Cs c_is_list c_wrong_part c_kept_call
  have I_kinit : FnOk l.prog w K mg base CX0 6 f_kinit _ ["self", "fields", "calls", "modes"] (spKInit K C_Kind) := F_kinit.ok sc_Kind_init (fun vs H Q E h => by obtain ⟨_, _, _, _, _, _, _, _, _, _, rfl, _⟩ := h; rfl) fun cdv A outer s H vs Q E hr h => run_kinit T Z c_kept_fields c_is_modes c_kept_calls hr h
  have c_Kind : KMk l.prog w K mg base C_Kind := ⟨⟨f_kinit, _, ⟨kc_mk, m_kinit, fn_kinit, kc_kp⟩, I_kinit, ⟨fun s us ws _ h1 h2 => match us, ws, h1, h2 with | [_, _, _], [_], _, _ => .of_eq rfl, fun r r2 => r.append r2⟩⟩, gK⟩
  have c_plan := ok_plan F_plan T c_Kind
  have c_kind := ok_kind F_kind T c_take c_one c_mix c_call c_plan
  have c_call_lines := ok_lines (P := l.prog) (w := w) (base := base) F_call_lines T
  have c_written := ok_written F_written T c_call_lines
  have c_is_number := ok_number (P := l.prog) (w := w) (base := base) F_is_number T ⟨_, PySem.W.mg_of X G v_DIGITS, _, rfl⟩
  have c_number_of := ok_number_of (P := l.prog) (w := w) (base := base) F_number_of T
  have c_move_of := ok_move_of F_move_of T c_number_of
  have c_are_words := ok_words F_are_words T c_is_word
  have c_put_modes := ok_put_modes F_put_modes T ZD c_is_number c_number_of
  have c_put_field := ok_put_field F_put_field T ZD c_are_words
  have c_put_call := ok_put_call F_put_call T ZD c_are_words c_is_number c_move_of
  have c_put_deed := ok_put_deed F_put_deed T ZD c_are_words
  have c_put_same := ok_put_same F_put_same T ZD c_are_words
  have c_put_line := ok_put_line F_put_line T ZD c_put_modes c_put_field c_put_call c_put_deed c_put_same
  have I_dinit : FnOk l.prog w K mg base CX0 1 f_dinit _ ["self"] (spDInit K C_Draft) := F_dinit.ok sc_Draft_init (fun vs H Q E h => by obtain ⟨_, _, rfl, _⟩ := h; rfl) fun cdv A outer s H vs Q E hr h => run_dinit ZD hr h
  have c_Draft : DMk l.prog w K mg base C_Draft := ⟨⟨f_dinit, _, ⟨dc_mk, m_dinit, fn_dinit, dc_kp⟩, I_dinit, B_dinit⟩, PySem.W.mg_of X G aC_Draft⟩
  have c_read := ok_read F_read_draft T ZD c_Draft c_put_line
  have I_text : FnOk l.prog w K mg base CX0 3 f_ktext _ ["self"] (spKText K C_Kind) := F_ktext.ok sc_Kind_text (fun vs H Q E h => by obtain ⟨_, _, _, _, rfl, _⟩ := h; rfl) fun cdv A outer s H vs Q E hr h => run_ktext T Z c_written hr h
  have I_of : FnOk l.prog w K mg base CX0 8 f_kof _ ["text"] (spKOf K C_Kind) := F_kof.ok sc_Kind_of_text (fun vs H Q E h => by obtain ⟨_, _, _, rfl, _⟩ := h; rfl) fun cdv A outer s H vs Q E hr h => run_kof T ZD c_read c_Kind hr h
  have I_eq : FnOk l.prog w K mg base CX0 1 f_keq _ ["self", "other"] (spKEq K C_Kind) := F_keq.ok sc_Kind_eq (fun vs H Q E h => by obtain ⟨_, _, _, _, _, _, _, _, rfl, _⟩ := h; rfl) fun cdv A outer s H vs Q E hr h => run_keq T Z Y gK hr h
  have c_lines := ok_llines (P := l.prog) (w := w) (base := base) (KC := C_Kind) F_lines T
  exact ok_law F_law T Z gK c_fresh c_kind c_same c_lines ⟨⟨m_ktext, fn_ktext, k_ktext⟩, I_text, B_ktext⟩ ⟨⟨r_kof, ga_kof⟩, ⟨g_kof, rec_at l_pof v_pof, k_kof⟩, I_of, B_kof, ⟨fun s us ws _ h => match us, ws, h with | [], [_], _ => .of_eq rfl | [_], [], _ => .of_eq rfl | [], [], h => absurd h (by decide) | [], _ :: _ :: _, h => absurd h (by simp) | [_], _ :: _, h => absurd h (by simp) | _ :: _ :: _, _, h => absurd h (by simp), fun r r2 => r.append r2⟩⟩ ⟨I_eq, kc_ne, m_keq, fn_keq, kc_ob, B_keq⟩
theorem walk {l : PySem.W.OpenLaw} {q : Program} {loose : List Str} {XP : (Str → Option Value) → Heap → Prop} {YP : World → Heap → Prop} {d : DefRec} {K : Params → PySem.W.Frag} (hn : l.most = some 63) (hdf : d.params.defaults = [])
    (hY : ∀ (w : World) (h : Heap), YP w h → (K w.params).In h)
    (F : ∀ (w : World) (mg : Str → Option Value) (fa : Addr) (h : Heap), (K w.params).In h → h.Ns mainGlobals mg → mg d.name = some (.ref fa) →
      ∃ fd : FuncData, (∀ (s : Shared) (u : Value), BindsTo s fd ⟨[u], []⟩ [("_law_script", u)]) ∧ ∀ base : Heap, (K w.params).In base → base.Ns mainGlobals mg → FnOk l.prog w (K w.params) mg base CX0 10 fa fd ["_law_script"] (spLaw (K w.params))) :
    PySem.W.WalkO q loose XP YP l.row.toRowW d [] (fun f vs => PySem.call f vs) :=
  L2.walk_of (n := 63) (k := 10) (x := "_law_script") (CX := fun _ => CX0) (sp := fun w => spLaw (K w.params)) hn (by decide) hdf ⟨rfl, by decide, by decide⟩ hY F (fun _ _ a ns hl _ hS => ⟨a, ns, rfl, hS, hl, fun _ => rfl⟩) fun _ _ _ _ _ z => z
end MK
open PySem PySem.W PyProof.Rows in
set_option maxRecDepth 100000 in
set_option maxHeartbeats 0 in
theorem PySem.Challenge.cw_makerlines_k05_kind_texts_holds : PySem.Challenge.rw_makerlines_k05_kind_texts.Holds := by
  w_on; o_law; k_head; (case hw => w_witness2)
  k_fill
  refine MK.walk (l := PySem.Challenge.rw_makerlines_k05_kind_texts) rfl rfl (fun w h Y => PySem.W.kIn_of Y) ?F
  case F =>
    intro w mg fa h KX G hmg
    refine' MK.all_mk KX G hmg ?a_fresh ?l_fresh ?c_fresh ?k_fresh ?a_fill ?l_fill ?c_fill ?k_fill ?a_take ?l_take ?c_take ?k_take ?a_one ?l_one ?c_one ?k_one ?a_mix ?l_mix ?c_mix ?k_mix ?a_same ?l_same ?c_same ?k_same ?a_plan ?l_plan ?c_plan ?k_plan ?a_deeds ?l_deeds ?c_deeds ?k_deeds ?a_call ?l_call ?c_call ?k_call ?a_kind ?l_kind ?c_kind ?k_kind ?a_lines ?l_lines ?c_lines ?k_lines ?a_law ?l_law ?c_law ?k_law ?a_is_word ?l_is_word ?c_is_word ?k_is_word ?a_is_integer ?l_is_integer ?c_is_integer ?k_is_integer ?a_is_list ?l_is_list ?c_is_list ?k_is_list ?a_is_modes ?l_is_modes ?c_is_modes ?k_is_modes ?a_is_field ?l_is_field ?c_is_field ?k_is_field ?a_kept_fields ?l_kept_fields ?c_kept_fields ?k_kept_fields ?a_is_many ?l_is_many ?c_is_many ?k_is_many ?a_is_deed ?l_is_deed ?c_is_deed ?k_is_deed ?a_are_moves ?l_are_moves ?c_are_moves ?k_are_moves ?a_has_call_form ?l_has_call_form ?c_has_call_form ?k_has_call_form ?a_are_deeds ?l_are_deeds ?c_are_deeds ?k_are_deeds ?a_is_same ?l_is_same ?c_is_same ?k_is_same ?a_kept_call ?l_kept_call ?c_kept_call ?k_kept_call ?a_wrong_part ?l_wrong_part ?c_wrong_part ?k_wrong_part ?a_kept_calls ?l_kept_calls ?c_kept_calls ?k_kept_calls ?a_written ?l_written ?c_written ?k_written ?a_call_lines ?l_call_lines ?c_call_lines ?k_call_lines ?a_read_draft ?l_read_draft ?c_read_draft ?k_read_draft ?a_put_line ?l_put_line ?c_put_line ?k_put_line ?a_put_modes ?l_put_modes ?c_put_modes ?k_put_modes ?a_put_field ?l_put_field ?c_put_field ?k_put_field ?a_put_call ?l_put_call ?c_put_call ?k_put_call ?a_put_deed ?l_put_deed ?c_put_deed ?k_put_deed ?a_put_same ?l_put_same ?c_put_same ?k_put_same ?a_are_words ?l_are_words ?c_are_words ?k_are_words ?a_is_number ?l_is_number ?c_is_number ?k_is_number ?a_number_of ?l_number_of ?c_number_of ?k_number_of ?a_move_of ?l_move_of ?c_move_of ?k_move_of ?aC_Kind ?aC_Draft ?m_kinit ?l_kinit ?c_kinit ?k_kinit ?fn_kinit ?m_keq ?l_keq ?c_keq ?k_keq ?fn_keq ?m_ktext ?l_ktext ?c_ktext ?k_ktext ?fn_ktext ?m_dinit ?l_dinit ?c_dinit ?k_dinit ?fn_dinit ?m_kof ?l_pof ?v_pof ?l_kof ?c_kof ?k_kof ?g_kof ?r_kof ?ga_kof ?kc_mk ?kc_kp ?kc_pg ?kc_hd ?kc_po ?kc_sa ?kc_n_triples ?kc_n_sorts ?kc_n_spots ?kc_n_modes ?kc_n_steps ?kc_n_table ?dc_mk ?dc_kp ?dc_pg ?dc_hd ?dc_po ?dc_sa ?dc_n_modes ?dc_n_field_items ?dc_n_call_items ?kc_ha ?kc_hn ?kc_ht ?kc_hm ?kc_ne ?kc_ob ?z_len ?z_int ?z_enumerate ?z_list ?z_tuple ?z_isinstance ?z_range ?z_all ?z_zip ?z_ValueError ?z_bool ?z_str ?z_set ?z_any ?v_MOST_LETTERS ?v_MOST_FIELDS ?v_MOST_MODES ?v_MOST_CALLS ?v_MOST_DEEDS ?v_DIGITS ?v_SORTS ?tu_sorts ?v_HANDS ?tu_hands ?v_LIST_WORD_DEEDS ?tu_lwd ?v_sod ?sd_set ?td_set ?sd_add ?td_add ?sd_strike ?td_strike ?sd_fresh ?td_fresh ?sd_clear ?td_clear ?dsod
    (case a_fresh => k_is)
    (case l_fresh => k_is)
    (case c_fresh => k_is)
    (case k_fresh => k_is)
    (case a_fill => k_is)
    (case l_fill => k_is)
    (case c_fill => k_is)
    (case k_fill => k_is)
    (case a_take => k_is)
    (case l_take => k_is)
    (case c_take => k_is)
    (case k_take => k_is)
    (case a_one => k_is)
    (case l_one => k_is)
    (case c_one => k_is)
    (case k_one => k_is)
    (case a_mix => k_is)
    (case l_mix => k_is)
    (case c_mix => k_is)
    (case k_mix => k_is)
    (case a_same => k_is)
    (case l_same => k_is)
    (case c_same => k_is)
    (case k_same => k_is)
    (case a_plan => k_is)
    (case l_plan => k_is)
    (case c_plan => k_is)
    (case k_plan => k_is)
    (case a_deeds => k_is)
    (case l_deeds => k_is)
    (case c_deeds => k_is)
    (case k_deeds => k_is)
    (case a_call => k_is)
    (case l_call => k_is)
    (case c_call => k_is)
    (case k_call => k_is)
    (case a_kind => k_is)
    (case l_kind => k_is)
    (case c_kind => k_is)
    (case k_kind => k_is)
    (case a_lines => k_is)
    (case l_lines => k_is)
    (case c_lines => k_is)
    (case k_lines => k_is)
    (case a_law => k_is)
    (case l_law => k_is)
    (case c_law => k_is)
    (case k_law => k_is)
    (case a_is_word => k_is)
    (case l_is_word => k_is)
    (case c_is_word => k_is)
    (case k_is_word => k_is)
    (case a_is_integer => k_is)
    (case l_is_integer => k_is)
    (case c_is_integer => k_is)
    (case k_is_integer => k_is)
    (case a_is_list => k_is)
    (case l_is_list => k_is)
    (case c_is_list => k_is)
    (case k_is_list => k_is)
    (case a_is_modes => k_is)
    (case l_is_modes => k_is)
    (case c_is_modes => k_is)
    (case k_is_modes => k_is)
    (case a_is_field => k_is)
    (case l_is_field => k_is)
    (case c_is_field => k_is)
    (case k_is_field => k_is)
    (case a_kept_fields => k_is)
    (case l_kept_fields => k_is)
    (case c_kept_fields => k_is)
    (case k_kept_fields => k_is)
    (case a_is_many => k_is)
    (case l_is_many => k_is)
    (case c_is_many => k_is)
    (case k_is_many => k_is)
    (case a_is_deed => k_is)
    (case l_is_deed => k_is)
    (case c_is_deed => k_is)
    (case k_is_deed => k_is)
    (case a_are_moves => k_is)
    (case l_are_moves => k_is)
    (case c_are_moves => k_is)
    (case k_are_moves => k_is)
    (case a_has_call_form => k_is)
    (case l_has_call_form => k_is)
    (case c_has_call_form => k_is)
    (case k_has_call_form => k_is)
    (case a_are_deeds => k_is)
    (case l_are_deeds => k_is)
    (case c_are_deeds => k_is)
    (case k_are_deeds => k_is)
    (case a_is_same => k_is)
    (case l_is_same => k_is)
    (case c_is_same => k_is)
    (case k_is_same => k_is)
    (case a_kept_call => k_is)
    (case l_kept_call => k_is)
    (case c_kept_call => k_is)
    (case k_kept_call => k_is)
    (case a_wrong_part => k_is)
    (case l_wrong_part => k_is)
    (case c_wrong_part => k_is)
    (case k_wrong_part => k_is)
    (case a_kept_calls => k_is)
    (case l_kept_calls => k_is)
    (case c_kept_calls => k_is)
    (case k_kept_calls => k_is)
    (case a_written => k_is)
    (case l_written => k_is)
    (case c_written => k_is)
    (case k_written => k_is)
    (case a_call_lines => k_is)
    (case l_call_lines => k_is)
    (case c_call_lines => k_is)
    (case k_call_lines => k_is)
    (case a_read_draft => k_is)
    (case l_read_draft => k_is)
    (case c_read_draft => k_is)
    (case k_read_draft => k_is)
    (case a_put_line => k_is)
    (case l_put_line => k_is)
    (case c_put_line => k_is)
    (case k_put_line => k_is)
    (case a_put_modes => k_is)
    (case l_put_modes => k_is)
    (case c_put_modes => k_is)
    (case k_put_modes => k_is)
    (case a_put_field => k_is)
    (case l_put_field => k_is)
    (case c_put_field => k_is)
    (case k_put_field => k_is)
    (case a_put_call => k_is)
    (case l_put_call => k_is)
    (case c_put_call => k_is)
    (case k_put_call => k_is)
    (case a_put_deed => k_is)
    (case l_put_deed => k_is)
    (case c_put_deed => k_is)
    (case k_put_deed => k_is)
    (case a_put_same => k_is)
    (case l_put_same => k_is)
    (case c_put_same => k_is)
    (case k_put_same => k_is)
    (case a_are_words => k_is)
    (case l_are_words => k_is)
    (case c_are_words => k_is)
    (case k_are_words => k_is)
    (case a_is_number => k_is)
    (case l_is_number => k_is)
    (case c_is_number => k_is)
    (case k_is_number => k_is)
    (case a_number_of => k_is)
    (case l_number_of => k_is)
    (case c_number_of => k_is)
    (case k_number_of => k_is)
    (case a_move_of => k_is)
    (case l_move_of => k_is)
    (case c_move_of => k_is)
    (case k_move_of => k_is)
    (case aC_Kind => k_is)
    (case aC_Draft => k_is)
    (case m_kinit => k_is)
    (case l_kinit => k_is)
    (case c_kinit => k_is)
    (case k_kinit => k_is)
    (case fn_kinit => k_is)
    (case m_keq => k_is)
    (case l_keq => k_is)
    (case c_keq => k_is)
    (case k_keq => k_is)
    (case fn_keq => k_is)
    (case m_ktext => k_is)
    (case l_ktext => k_is)
    (case c_ktext => k_is)
    (case k_ktext => k_is)
    (case fn_ktext => k_is)
    (case m_dinit => k_is)
    (case l_dinit => k_is)
    (case c_dinit => k_is)
    (case k_dinit => k_is)
    (case fn_dinit => k_is)
    (case m_kof => k_is)
    (case l_pof => k_is)
    (case v_pof => exact rfl)
    (case l_kof => k_is)
    (case c_kof => k_is)
    (case k_kof => k_is)
    (case g_kof => kernel_rfl)
    (case r_kof => kernel_rfl)
    (case ga_kof => k_is)
    (case kc_mk => k_is)
    (case kc_kp => k_is)
    (case kc_pg => k_is)
    (case kc_hd => k_is)
    (case kc_po => k_is)
    (case kc_sa => k_is)
    (case kc_n_triples => k_is)
    (case kc_n_sorts => k_is)
    (case kc_n_spots => k_is)
    (case kc_n_modes => k_is)
    (case kc_n_steps => k_is)
    (case kc_n_table => k_is)
    (case dc_mk => k_is)
    (case dc_kp => k_is)
    (case dc_pg => k_is)
    (case dc_hd => k_is)
    (case dc_po => k_is)
    (case dc_sa => k_is)
    (case dc_n_modes => k_is)
    (case dc_n_field_items => k_is)
    (case dc_n_call_items => k_is)
    (case kc_ha => k_is)
    (case kc_hn => k_is)
    (case kc_ht => k_is)
    (case kc_hm => k_is)
    (case kc_ne => k_is)
    (case kc_ob => k_is)
    (case z_len => k_is)
    (case z_int => k_is)
    (case z_enumerate => k_is)
    (case z_list => k_is)
    (case z_tuple => k_is)
    (case z_isinstance => k_is)
    (case z_range => k_is)
    (case z_all => k_is)
    (case z_zip => k_is)
    (case z_ValueError => k_is)
    (case z_bool => k_is)
    (case z_str => k_is)
    (case z_set => k_is)
    (case z_any => k_is)
    (case v_MOST_LETTERS => k_is)
    (case v_MOST_FIELDS => k_is)
    (case v_MOST_MODES => k_is)
    (case v_MOST_CALLS => k_is)
    (case v_MOST_DEEDS => k_is)
    (case v_DIGITS => k_is)
    (case v_SORTS => k_is)
    (case tu_sorts => kernel_rfl)
    (case v_HANDS => k_is)
    (case tu_hands => kernel_rfl)
    (case v_LIST_WORD_DEEDS => k_is)
    (case tu_lwd => kernel_rfl)
    (case v_sod => k_is)
    (case sd_set => k_is)
    (case td_set => kernel_rfl)
    (case sd_add => k_is)
    (case td_add => kernel_rfl)
    (case sd_strike => k_is)
    (case td_strike => kernel_rfl)
    (case sd_fresh => k_is)
    (case td_fresh => kernel_rfl)
    (case sd_clear => k_is)
    (case td_clear => kernel_rfl)
    (case dsod => kernel_rfl)
#print axioms PySem.Challenge.cw_makerlines_k05_kind_texts_holds
