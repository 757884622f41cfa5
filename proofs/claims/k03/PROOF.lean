import PyProof.Rows.All
import Wide.All
import OpenK.AllK
import Wide.FinOn
import HandS.Base
import HandS.Call
import HandS.List
import HandS.Iter
import KE.GoesEnum
import HandS.Exc
import HandS.ExcInit
import HandS.ExcIs
import HandS.IsInst
import HandS.ForMost
import HandS.ExcValue
import KE.KExcIs
import HandS.Defaults
import HandS.TupLe
import HandS.Zip
import HandS.Walk
import HandS.More
import HandS.NoneIn
import HandS.Conv
import HandS.Strs
import HandS.DictComp
import OpenK.KMeth
import HandS.OwnEq
import PyProof.InstNe
import PyProof.EqKinds
import HandS.HotCalls
import HandS.ExcField
import HandS.Lambda
import HandS.HeadHook3
import HandS.EndTab
import HandS.EndOwn
import HandS.MakeKwOnly
import HandS.IterNext
import HandS.OwnIter
import HandS.IterVal
import HandS.WordsExc
import HandS.Text
import HandS.Dict
import HandS.Small
import HandS.WordsDict
import PySem.Challenge.RW_makerlines_k03_kinds_refused
set_option Elab.async false
set_option linter.all false
set_option maxRecDepth 100000
set_option maxHeartbeats 4000000
/-! enumerate of a tuple -/
namespace MK
open PySem PySem.Spec PyProof.Rows L2

/-- the tuple at a as it stands at each turn, each item in a new pair -/
def IteT (K : PySem.W.Frag) (a : Addr) : It :=
  ⟨fun i H => ∃ (xs : List V) (x : V), SqT K H a xs ∧ xs[i]? = some x, fun i H v H' => ∃ T x, v = .ref T ∧ H T = none ∧ H' = upd H T (.tup [.int (i : Nat), x]) ∧ ∀ xs, SqT K H a xs → xs[i]? = some x, fun i H => ∃ xs : List V, SqT K H a xs ∧ xs.length ≤ i⟩
theorem turn_enumT {P : Program} {w : World} {K : PySem.W.Frag} {elts : List Expr} {kk : Nat} {tpos : Pos} (a e it : Addr) :
    Turn P w K (.Tuple elts kk tpos) (IteT K a) [e, it] e (fun i h => (∃ old, IsEnum h e it ((i : Nat) : Int) old) ∧ h.IsTupleIter it a i ∧ e ≠ it ∧ a ≠ it ∧ a ≠ e) where
  mem := by simp
  obj := fun i h st b hb => by
    obtain ⟨⟨old, he⟩, ⟨o, ho, hc, hd⟩, _⟩ := st
    have e' : b = e ∨ b = it := by simpa using hb
    rcases e' with z | z
    · rw [z]; exact ⟨_, he, fun v q => nomatch q⟩
    · rw [z]; exact ⟨o, ho, fun v q => by rw [hd] at q; cases q⟩
  keep := fun i h h' st k => let ⟨⟨old, he⟩, hi, hne⟩ := st; ⟨⟨old, k e (by simp) _ he⟩, hi.at fun o q => k it (by simp) o q, hne⟩
  item := by
    intro X hP hw hK hc i pins s σ H E I hf st hg
    subst hP hw hK
    obtain ⟨⟨old, he⟩, hit, hne, hai, hae⟩ := st
    obtain ⟨xs, x, hq, hx⟩ := hg
    obtain ⟨its, rv, p, hz⟩ := I.tuple hq
    obtain ⟨u, hu, ru⟩ := rv.get hx
    have hel : e < s.heap.objs.size := Heap.lt_size he
    have hil : it < s.heap.objs.size := by obtain ⟨_, q, _⟩ := hit; exact Heap.lt_size q
    have D := Draws.tuple (prog := X.prog) (w := X.w) (A := X.A.in1) (show X.A.in1.handled = none from I.ok.hd hc) it a hai its.toArray
    have hsz : i < its.toArray.size := by
      have := (List.getElem?_eq_some_iff.mp hu).1
      simpa using this
    refine wpAny_pyNext_enum_itemD D he ⟨hit, p⟩ hsz hne (by simp [hne, Ne.symm hae]) fun v h' tk hv ho st' hT hsz' hk => ?_
    have hv : its.toArray[i]? = some v := hv
    have ev : v = u := by
      have hu' : its.toArray[i]? = some u := by simpa using hu
      rw [hu'] at hv
      exact (Option.some.inj hv).symm
    subst ev
    refine ⟨_, rfl, wpAny_letOwnedTupleGo_enum (s := { s with heap := h', toks := tk + 1 }) ho fun h'' he' sb => ?_⟩
    have hT2 : h''.get? s.heap.objs.size = some { cls := .type "tuple", data := .seq #[.int i tk, v] } := (sb.2 _ (Nat.ne_of_gt hel)).trans hT
    have new : ObjOk X.prog X.w (upd H s.heap.objs.size (.tup [.int (i : Nat), x])) h'' s.heap.objs.size (.tup [.int (i : Nat), x]) :=
      ⟨by show 2 ≤ sizeLine; decide, [.int i tk, v], .cons ⟨_, rfl⟩ (.cons ru .nil), ⟨_, hT2, rfl, _, rfl⟩⟩
    have I1 : Inv X pins σ (upd H s.heap.objs.size (.tup [.int (i : Nat), x])) { s with heap := h'', toks := tk + 1 } :=
      I.turnedNew (ch := [e, it]) (fun b ob hb q => (sb.2 b (fun z => hb (by simp [z]))).trans (hk b ob (fun z => hb (by simp [z])) (fun z => hb (by simp [z])) q)) hf (Nat.le_refl _) new
    refine ⟨.ref s.heap.objs.size, _, I1, rfl, ⟨_, x, rfl, I.hok.fresh (Nat.le_refl _), rfl, fun ys hy => by rw [I.tuple_inj hy hq]; exact hx⟩, ⟨⟨v, ?_⟩, st'.1.at fun o q => (sb.2 it (Ne.symm hne)).trans q, hne, hai, hae⟩, fun b hb => ?_⟩
    · have e1 : ((i + 1 : Nat) : Int) = (i : Int) + 1 := by omega
      rw [e1]; exact he'
    · have hb' : b < s.heap.objs.size := by
        have e' : b = e ∨ b = it := by simpa using hb
        rcases e' with z | z
        · rw [z]; exact hel
        · rw [z]; exact hil
      rw [upd_ne (Nat.ne_of_lt hb')]
      exact (hf b hb).1
  done := by
    intro X hP hw hK hc i pins s σ H E I hf st hg
    subst hP hw hK
    obtain ⟨⟨old, he⟩, hit, hne, hai, hae⟩ := st
    obtain ⟨xs, hq, hx⟩ := hg
    obtain ⟨its, rv, p, hz⟩ := I.tuple hq
    obtain ⟨f0, f1, f2, f3, f4, f5⟩ := hf it (by simp)
    have hl := rv.length
    have D : Draws X.prog X.w X.A.in1 it [it, a] i (fun _ _ => False) (fun j h => j = i ∧ h.IsTupleIter it a i ∧ IsTup h a its.toArray) :=
      { live := fun _ _ st => let ⟨_, ⟨o, ho, _⟩, _⟩ := st; ⟨o, ho⟩
        frame := fun _ _ _ st hk => ⟨st.1, st.2.1.at fun o e => hk it (by simp) o e, by
          obtain ⟨o, ho, r⟩ := st.2.2
          exact ⟨o, hk a (by simp) o ho, r⟩⟩
        item := fun j s Q E hi st hQ => absurd st.1 (Nat.ne_of_lt hi)
        done := fun s Q E st hE => wpAny_nextOf_tuple_end (show X.A.in1.handled = none from I.ok.hd hc) st.2.1 st.2.2 (by simp; omega) hE }
    exact wpAny_pyNext_enum_endD D he ⟨rfl, hit, p⟩ fun h' eb => ⟨rfl, I.turned (t' := s.toks) (fun b o hb q => eb b o hb q) f0 f1 f3 f4 f5⟩
  self := fun A i s Q E st h => let ⟨⟨_, he⟩, _⟩ := st; wpAny_pyIter_enum he h
def iEnumT (K : PySem.W.Frag) (ta : TA) : TI := fun σ H R => ta σ H fun vs H1 => ∃ a xs, vs = [.ref a] ∧ SqT K H1 a xs ∧ R (IteT K a) H1
theorem boot_enumerate' : bootBuiltins "enumerate" = some (.type "enumerate") := by decide +kernel
theorem meets_enum1 {v : Value} {o : Obj} {H : Heap → Prop} (B : Begins v o H) :
    Meets (Builtin.«enumerate.__new__» ⟨[.type "enumerate", v], []⟩) (fun _ R s => H s.heap ∧
      R (.ok (.ret (.ref (s.heap.push o).objs.size))) { s with heap := (s.heap.push o).push { cls := .type "enumerate", data := .fields #[.none, .bool false, .ref s.heap.objs.size, rawInt 0, .none, .none] } }) :=
  .of_wp fun prog w A R s h => by
    obtain ⟨hp, g, d, tk, os⟩ := s; obtain ⟨h1, h⟩ := h
    have hsub := sub_enumerate
    have it : ∀ {A' : Around} {E : Value → Shared → Prop} {Q : Value → Shared → Prop}, Q (.ref hp.objs.size) ⟨hp.push o, g, d, tk, os⟩ → wpAny (model prog w) A' (pyIter v) Q E ⟨hp, g, d, tk, os⟩ :=
      fun q => B.iter prog w _ _ ⟨hp, g, d, tk, os⟩ _ h1 q
    wp_walk using it
    refine wpAny_stack_any fun st => wpAny_pure ?_
    split
    · rename_i c _ _ _ _ _
      cases (c == Value.type "enumerate") <;> (wp_walk using it; exact ⟨_, rfl, h⟩)
    · wp_walk using it
      exact ⟨_, rfl, h⟩
theorem call_enumerate_tuple {prog : Program} {w : World} {A : Around} {E : Value → Shared → Prop} {s : Shared} {l : Addr} {items : Array Value} {Q : Value → Shared → Prop} (hL : IsTup s.heap l items)
    (h : ∀ h', IsEnum h' (s.heap.objs.size + 1) s.heap.objs.size 0 .none → h'.IsTupleIter s.heap.objs.size l 0 → h'.objs.size = s.heap.objs.size + 2 →
      (∀ b o, s.heap.get? b = some o → h'.get? b = some o) → Q (.ref (s.heap.objs.size + 1)) { s with heap := h' }) :
    wpAny (model prog w) A (call (.type "enumerate") [.ref l]) Q E s := by
  have B := begins_tuple l items
  refine callType_new F.called_enumerate (by decide) (F.typeCall_enumerate_1 _) (F.newCall_enumerate_1 _) (fun obj => F.args_object_init_2 obj _) F.entry_enumerate_new (meets_enum1 B) ⟨hL, ?_⟩
  let o : Obj := { cls := .type "tuple_iterator", data := .fields #[.ref l, .int 0 0] }
  have hz : (s.heap.push o).objs.size = s.heap.objs.size + 1 := Heap.size_push ..
  show _ ∧ _
  rw [hz]
  have he : IsEnum ((s.heap.push o).push { cls := .type "enumerate", data := .fields #[.none, .bool false, .ref s.heap.objs.size, rawInt 0, .none, .none] }) (s.heap.objs.size + 1) s.heap.objs.size 0 .none := by
    have q := Heap.get?_push_size (s.heap.push o) (o := { cls := .type "enumerate", data := .fields #[.none, .bool false, .ref s.heap.objs.size, rawInt 0, .none, .none] }) rfl
    rw [hz] at q; exact q
  exact ⟨⟨_, he, rfl⟩, h _ he ⟨_, Heap.get?_push_of_some _ (Heap.get?_push_size _ rfl), rfl, rfl⟩ (by rw [Heap.size_push, hz]) fun b o x => Heap.get?_push_of_some _ (Heap.get?_push_of_some _ x)⟩
theorem pi_enumT {X : Cx} {e : Expr} {ta : TA} {p pos tpos : Pos} {elts : List Expr} {kk : Nat} (hg : Gl X "enumerate") (hm : X.mg "enumerate" = none) (ha : PA X [e] ta) (hs : starEach [e] X.env = [(false, eval e X.env)] := by rfl) :
    PI X (.Tuple elts kk tpos) (.Call (.Name "enumerate" p) [e] [] pos) (iEnumT X.K ta) := by
  refine ⟨fun pins s σ H R I h => ?_⟩
  refine Call_ (ld_blt I hg hm boot_enumerate' (PyProof.Rows.callWith_type1 (thn (ha.run pos pins s σ H _ I h) fun us s1 ⟨vs, H1, I1, r1, q1⟩ => ?_) hs rfl))
  obtain ⟨a, xs, ex, hq, q⟩ := q1
  subst ex
  cases r1 with
  | cons r rr =>
    cases rr
    cases r
    obtain ⟨its, rv, p', hz⟩ := I1.tuple hq
    have hal : a < s1.heap.objs.size := by obtain ⟨_, q, _⟩ := p'; exact Heap.lt_size q
    refine call_enumerate_tuple p' fun h' he hit hsz hk => wpAny_pyIter_enum he ?_
    have I2 : Inv X pins σ H1 { s1 with heap := h' } := I1.kept (t' := s1.toks) hk
    refine ⟨s1.heap.objs.size + 1, [s1.heap.objs.size + 1, s1.heap.objs.size], _, _, H1, rfl, I2, turn_enumT a (s1.heap.objs.size + 1) s1.heap.objs.size, ⟨⟨.none, he⟩, hit, Nat.succ_ne_self _, Nat.ne_of_lt hal, Nat.ne_of_lt (Nat.lt_succ_of_lt hal)⟩, fun b hb => ?_, q⟩
    have e' : b = s1.heap.objs.size + 1 ∨ b = s1.heap.objs.size := by simpa using hb
    have hle : s1.heap.objs.size ≤ b := by
      rcases e' with z | z
      · rw [z]; exact Nat.le_add_right _ _
      · rw [z]; exact Nat.le_refl _
    exact I1.fpOk hle (I1.hok.fresh hle)
end MK
set_option Elab.async false
set_option linter.all false
set_option maxRecDepth 100000
set_option maxHeartbeats 4000000
/-! errors as values: made by place and by name, read, asked for their class -/
namespace MK
open PySem PySem.Spec PyProof.Rows PySem.HandSPX
open PySem.W (Looks)
section
variable {prog : Program} {w : World} {M : Model} {A : Around} {E : Value → Shared → Prop} {R : Result → Shared → Prop} {h : Heap} {g : Array GenState} {d : Drawn} {t : Nat} {os : OsState}
variable {nm q : Str} {C N : Addr} {bs bm bmB : List Value} {hdct : Bool} {sn : List Str} {sub : List Value} {ab : Bool} {col : Option Bool} {dd : Option Addr} {k0 k1 k2 k3 k5 : Option Value} {B newId initId : String}

theorem check_newK (F : ExcBaseFacts B newId initId bmB) (hT : ∀ X : String, bm.contains (.type X) = bmB.contains (.type X)) {rest : List Value} {kw : List (Str × Value)} {Q : Unit → Shared → Prop}
    (hC : h.get? C = some (excClassObj nm q C N bs bm hdct sn sub ab col dd k0 k1 k2 k3 k5 newId)) (hq : Q () ⟨h, g, d, t, os⟩) : wpAny M A (checkBuiltinCall newId ⟨.ref C :: rest, kw⟩) Q E ⟨h, g, d, t, os⟩ := by
  have hB : (Value.ref C :: bm).contains (.type B) = true := by rw [List.contains_cons, hT, F.hasB, Bool.or_true]
  have hs := F.noStar
  simp only [checkBuiltinCall, F.newKind, F.newSplit, F.newRow]
  repeat (first | refine wpAny_loadPart_at hC ?_ | (refine wpAny_isSubtype_exc hC ?_; rw [hB]) | refine wpAny_staticBase_exc hC ?_ | refine wpAny_madeBy_exc hC ?_ | simp only [bne_self_eq_false, Bool.false_eq_true, if_false] | wp_step)
  exact hq
theorem newK (F : ExcBaseFacts B newId initId bmB) (hT : ∀ X : String, bm.contains (.type X) = bmB.contains (.type X)) {rest : List Value} {kw : List (Str × Value)}
    (hC : h.get? C = some (excClassObj nm q C N bs bm hdct sn sub ab col dd k0 k1 k2 k3 k5 newId))
    (hq : R (.ok (.ret (.ref (h.objs.size + 1)))) ⟨(h.push (W.kdv_tup rest)).push (excO C h.objs.size), g, d, t, os⟩) (hrest : rest.length ≤ sizeLine) :
    codeAny (model prog w) A (.builtin newId ⟨.ref C :: rest, kw⟩) R ⟨h, g, d, t, os⟩ := by
  have he := F.ends
  have cB : (Value.ref C :: bm).contains (.type B) = true := by rw [List.contains_cons, hT, F.hasB, Bool.or_true]
  have cA : (Value.ref C :: bm).contains (.type "AttributeError") = false := by rw [List.contains_cons, hT, F.noAttr]; rfl
  have cN : (Value.ref C :: bm).contains (.type "NameError") = false := by rw [List.contains_cons, hT, F.noName]; rfl
  refine codeAny_builtinAt F.entry ?_
  unfold Builtin.«BaseException.__new__»
  refine PySem.wpAt_bind ?_
  show PySem.wpAt _ _ _ (stack >>= _) _ _ _
  refine PySem.wpAt_bind (PySem.wpAt_stack fun p below => PySem.wpAt_of_wpAny ?_)
  wp_walk
  refine PySem.wpAt_of_wpAny ?_
  rw [F.owner]
  repeat (first | with_reducible refine wpAny_madeHere_exc F.canon hC ?_ | with_reducible refine wpAny_loadPart_at hC ?_ | (with_reducible refine wpAny_isSubtype_exc hC ?_; first | rw [cB] | rw [cA] | rw [cN]) | wp_step)
  show R _ _
  rw [Heap.size_push]
  exact hq
theorem type_callK (F : ExcBaseFacts B newId initId bmB) (hT : ∀ X : String, bm.contains (.type X) = bmB.contains (.type X)) {rest : List Value} {kw : List (Str × Value)} {fI : Addr} {Q : Fin → Shared → Prop}
    (hC : h.get? C = some (excClassObj nm q C N bs bm hdct sn sub ab col dd k0 k1 k2 k3 k5 newId))
    (hi : Looks (model prog w) h (typeLookup (.ref C) "__init__") (some (.ref fI))) (hb : ∀ self, Looks (model prog w) h (bindSpecial (.ref fI) self) (.ref fI, [self])) (hrest : rest.length ≤ sizeLine)
    (hq : codeAny (model prog w) A (.call (.ref fI) ⟨.ref (h.objs.size + 1) :: rest, kw⟩)
      (fun r s' => match r with | .ok (.ret v) => v = .none ∧ Q (.done (.ret (.ref (h.objs.size + 1)))) s' | .ok _ => False | .error e => E e s')
      ⟨(h.push (W.kdv_tup rest)).push (excO C h.objs.size), g, d, t, os⟩) :
    wpAny (model prog w) A (Builtin.«type.__call__» ⟨.ref C :: rest, kw⟩) Q E ⟨h, g, d, t, os⟩ := by
  repeat (first | with_reducible refine wpAny_loadPart_at hC ?_ | with_reducible refine wpAny_madeBy_exc hC ?_ | wp_step)
  refine codeAny_call_builtin_code (Code.quiet_builtin _ F.quiet) (check_newK F hT hC ?_)
  refine newK F hT hC ?_ hrest
  show wpAny _ _ _ _ _ _
  have kp : ∀ b o, h.get? b = some o → ((h.push (W.kdv_tup rest)).push (excO C h.objs.size)).get? b = some o := fun b o e => Heap.get?_push_of_some _ (Heap.get?_push_of_some _ e)
  have C1 := kp _ _ hC
  have hg : ((h.push (W.kdv_tup rest)).push (excO C h.objs.size)).get? (h.objs.size + 1) = some (excO C h.objs.size) := by heap_get
  have cC : (Value.ref C :: bm).contains (.ref C) = true := by simp
  have i1 := hi.keeps kp
  have b1 := (hb (.ref (h.objs.size + 1))).keeps kp
  unfold isInstance
  repeat (first | with_reducible refine wpAny_loadPart_at hg ?_ | (with_reducible refine wpAny_isSubtype_exc C1 ?_; rw [cC]) | wp_step)
  show wpAny _ _ (typeLookup (.ref C) _) _ _ _
  refine i1.at ?_
  refine wpAny_holding (wpAny_bind (b1.at ?_))
  refine wpAny_bind (wpAny_call (codeAny_mono hq fun r s' z => ?_))
  rcases r with e | (v | _ | _ | _) <;> first | exact z | exact z.elim | skip
  obtain ⟨rfl, z⟩ := z
  first
    | exact wpAny_pure (wpAny_pure z)
    | (wp_walk; exact z)
theorem check_tcK {rest : List Value} {kw : List (Str × Value)} {Q : Unit → Shared → Prop} (hC : h.get? C = some (excClassObj nm q C N bs bm hdct sn sub ab col dd k0 k1 k2 k3 k5 newId))
    (hq : Q () ⟨h, g, d, t, os⟩) : wpAny M A (checkBuiltinCall "type.__call__" ⟨.ref C :: rest, kw⟩) Q E ⟨h, g, d, t, os⟩ := by
  have f3 := tc_sub
  have hT : (⟨h, g, d, t, os⟩ : Shared).TypeIs (.ref C) "type" := ⟨_, hC, rfl⟩
  simp only [checkBuiltinCall, tc_kind, tc_split]
  repeat (any_goals (first | assumption | with_reducible refine wpAny_loadPart_at hC ?_ | with_reducible refine wpAny_onRaise ?_ | with_reducible refine wpAny_map ?_ | wp_step))
theorem callK (F : ExcBaseFacts B newId initId bmB) (hT : ∀ X : String, bm.contains (.type X) = bmB.contains (.type X)) {rest : List Value} {kw : List (Str × Value)} {fI : Addr}
    (hC : h.get? C = some (excClassObj nm q C N bs bm hdct sn sub ab col dd k0 k1 k2 k3 k5 newId))
    (hi : Looks (model prog w) h (typeLookup (.ref C) "__init__") (some (.ref fI))) (hb : ∀ self, Looks (model prog w) h (bindSpecial (.ref fI) self) (.ref fI, [self])) (hrest : rest.length ≤ sizeLine)
    (hq : codeAny (model prog w) (A.under (.builtin "type.__call__" ⟨.ref C :: rest, kw⟩)) (.call (.ref fI) ⟨.ref (h.objs.size + 1) :: rest, kw⟩) (W.InitBack (h.objs.size + 1) R)
      ⟨(h.push (W.kdv_tup rest)).push (excO C h.objs.size), g, d, t, os⟩) :
    codeAny (model prog w) A (.call (.ref C) ⟨rest, kw⟩) R ⟨h, g, d, t, os⟩ := by
  have f1 := tc_lookup
  have f2 := tc_bind (.ref C)
  have hTy : (⟨h, g, d, t, os⟩ : Shared).TypeIs (.ref C) "type" := ⟨_, hC, rfl⟩
  refine codeAny_of_tree ?_
  show wpAny _ _ (callAny (.ref C) _) _ _ _
  repeat (any_goals (first | assumption | with_reducible refine wpAny_loadPart_at hC ?_ | wp_step))
  refine ⟨rfl, ?_⟩
  refine codeAny_call_builtin_at (Code.quiet_builtin _ (by decide +kernel)) entry_typeCall (check_tcK hC (type_callK F hT hC hi hb hrest ?_))
  refine codeAny_mono hq fun r s' z => ?_
  rcases r with e | (v | _ | _ | _) <;> exact z
end
end MK
set_option Elab.async false
set_option linter.all false
set_option maxRecDepth 100000
set_option maxHeartbeats 4000000
/-! errors as values: made by place and by name, read, asked for their class -/
namespace MK
open PySem PySem.Spec PyProof.Rows L2
/-- an error's class over ValueError whose __init__ is the def at fI -/
structure ErrC (K : PySem.W.Frag) (C fI : Addr) : Prop where
  cls : OexC K C
  ini : PySem.W.findIn K (.ref C) "__init__" = some (some (.ref fI))
  fn : PySem.W.typeIn K (.ref fI) = some (.type "function")
/-- C(e, .., k = v, ..) as a value -/
def tErr (C : Addr) (n m : Nat) (sp : Sp) (gV : List V → List V → List V) (E : XK) (t tk : TA) : TE := fun σ H Q => t σ H fun vs H1 => tk σ H1 fun zs H2 => vs.length = n ∧ zs.length = m ∧
  ∀ a, H2 a = none → sp (gV (.ref a :: vs) zs) (upd H2 a (exo a C none)) (fun v H3 => v = .non ∧ Q (.ref a) H3) E
section
variable {X : Cx} {CX : CXT} {k n : Nat} {f C : Addr} {fd : FuncData} {ps ks : List Str} {sp : Sp} {E : XK} {x : Str} {p pos : Pos} {e : Expr} {es : List Expr} {kws : List Keyword} {t tk : TA} {g : List Value → List Value → List Value} {gV : List V → List V → List V}
theorem run_err {pins : List (Addr × Obj)} {σ : L2.St} {H : Hp} {s : Shared} {Q : VK} {us ws : List Value} {vs zs : List V} (T : ErrC X.K C f) (F : FnOk X.prog X.w X.K X.mg X.base CX k f fd ps sp) (hr : Room (k + 1) X.A) (hb : KBn X.K fd ps (n + 1) ks g gV) (hx : Passes CX X E)
    (I : Inv X pins σ H s) (r : Vals vs us) (rz : Vals zs ws) (l1 : vs.length = n) (l2 : zs.length = ks.length) (hn : n ≤ 1000)
    (h : ∀ a, H a = none → sp (gV (.ref a :: vs) zs) (upd H a (exo a C none)) (fun v H2 => v = .non ∧ Q (.ref a) H2) E) :
    wpAny (model X.prog X.w) X.A (call (.ref C) us (ks.zip ws)) (EP X pins σ Q) X.xe s := by
  obtain ⟨nm, q, N, bs, bm, sn, sub, ab, col, dd, k0, k1, k2, k3, k5, hC, hbm⟩ := T.cls.cls
  obtain ⟨hp, g0, dr, tk, os⟩ := s
  have hsz : hp.objs.size ≤ hp.objs.size + 1 := Nat.le_succ _
  have hq := h (hp.objs.size + 1) (I.hok.fresh hsz)
  have kk : ∀ b o, hp.get? b = some o → ((hp.push (PySem.W.kdv_tup us)).push (PySem.HandSPX.excO C hp.objs.size)).get? b = some o := fun b o e => Heap.get?_push_of_some _ (Heap.get?_push_of_some _ e)
  have hget : ((hp.push (PySem.W.kdv_tup us)).push (PySem.HandSPX.excO C hp.objs.size)).get? (hp.objs.size + 1) = some (PySem.HandSPX.excO C hp.objs.size) := by heap_get
  have I2 : Inv X pins σ (upd H (hp.objs.size + 1) (exo (hp.objs.size + 1) C none)) ⟨(hp.push (PySem.W.kdv_tup us)).push (PySem.HandSPX.excO C hp.objs.size), g0, dr, tk, os⟩ :=
    I.laid (t' := tk) (a := hp.objs.size + 1) (o := exo (hp.objs.size + 1) C none) (h' := (hp.push (PySem.W.kdv_tup us)).push (PySem.HandSPX.excO C hp.objs.size)) kk hsz (exo_ok hget)
  have r1 : Vals (V.ref (hp.objs.size + 1) :: vs) (Value.ref (hp.objs.size + 1) :: us) := .cons rfl r
  have r2 := hb.rel r1 rz
  have n1 : (Value.ref (hp.objs.size + 1) :: us).length = n + 1 := by rw [List.length_cons, ← r.length, l1]
  have hus : us.length ≤ sizeLine := by
    rw [← r.length, l1, sizeLine_eq]
    omega
  refine wpAny_call (callK PySem.F.excBase_ValueError (fun Y => PySem.HandSPX.refsVE_contains Y bm hbm) (I.kIn _ _ hC) (PySem.W.looks_findIn I.kIn T.ini) (fun self => PySem.W.bind_fn I.kIn self T.fn) hus
    (codeAny_mono (F.run _ X.stack _ _ ⟨Value.ref (hp.objs.size + 1) :: us, ks.zip ws⟩ (g (Value.ref (hp.objs.size + 1) :: us) ws) _ _ E (hr.make C us (ks.zip ws)) (I2.env0.make C us (ks.zip ws))
      (hb.to _ (Value.ref (hp.objs.size + 1) :: us) ws I2.kIn n1 (rz.length.symm.trans l2)) r2 hq) fun r s' hq' => ?_))
  cases r with
  | error e => exact hx pins σ _ _ e s' I2 hq'
  | ok fl =>
    cases fl with
    | ret u =>
      obtain ⟨v, H', I3, rv, ev, q3⟩ := I2.after hq'
      subst ev
      exact ⟨rv, ⟨V.ref (hp.objs.size + 1), H', I3, rfl, q3⟩⟩
    | next => exact False.elim hq'
    | brk => exact False.elim hq'
    | cont => exact False.elim hq'
/-- C(k = v, ..) -/
theorem pe_errK0 (T : ErrC X.K C f) (F : FnOk X.prog X.w X.K X.mg X.base CX k f fd ps sp) (hr : Room (k + 1) X.A) (hg : Gl X x) (hm : X.mg x = some (.ref C)) (hb : KBn X.K fd ps 1 ks g gV) (hx : Passes CX X E) (hkw : PK X kws tk)
    (hall : (backToKw pos (keywordEach kws X.env)).all (·.1.isSome) = true := by rfl) (hks : (backToKw pos (keywordEach kws X.env)).filterMap (·.1) = ks := by rfl) (hdb : (x == ("__debug__" : Str)) = false := by decide)
    (hpl : ((backTo pos (starEach [] X.env)).any (·.1) || (backToKw pos (keywordEach kws X.env)).any (·.1.isNone)) = false := by rfl) :
    PE X (.Call (.Name x p) [] kws pos) (tErr C 0 ks.length sp gV E tNil tk) := by
  refine ⟨fun pins s σ H Q I h => ?_⟩
  refine wpAny_Call_Name_kw (ld_glob I hg hm ?_ hdb)
  refine PySem.W.callWith_KW0 (h₀ := X.base) I.ok.mod.kin T.cls.kC hall ?_ hpl
  refine thn (hkw.run pos pins s σ H _ I h) fun ws s2 ⟨zs, H2, I2, rz, l1, l2, q2⟩ => ⟨I2.kIn, ?_⟩
  rw [hks]
  exact run_err (us := []) (vs := []) T F hr hb hx I2 .nil rz rfl l2 (Nat.zero_le _) q2
/-- C(e, ..) -/
theorem pe_err (T : ErrC X.K C f) (F : FnOk X.prog X.w X.K X.mg X.base CX k f fd ps sp) (hr : Room (k + 1) X.A) (hg : Gl X x) (hm : X.mg x = some (.ref C)) (hb : KBn X.K fd ps (n + 1) [] g gV) (hx : Passes CX X E) (ha : PA X (e :: es) t) (hn : n ≤ 1000)
    (hdb : (x == ("__debug__" : Str)) = false := by decide) (he : starEach (e :: es) X.env = (false, eval e X.env) :: starEach es X.env := by rfl) (hpl : (backTo pos (starEach es X.env)).any (·.1) = false := by rfl) :
    PE X (.Call (.Name x p) (e :: es) [] pos) (tErr C n 0 sp gV E t tNil) := by
  refine ⟨fun pins s σ H Q I h => ?_⟩
  refine wpAny_Call_Name_kw (ld_glob I hg hm ?_ hdb)
  refine PySem.W.callWith_K (h₀ := X.base) I.ok.mod.kin T.cls.kC (thn (ha.run pos pins s σ H _ I h) fun us s1 ⟨vs, H1, I1, r, l1, _, q⟩ => ⟨I1.kIn, ?_⟩) he hpl
  exact run_err (ks := []) (ws := []) (zs := []) T F hr hb hx I1 r .nil l1 rfl hn q
/-- e.f of such an error -/
structure ErrF (K : PySem.W.Frag) (C : Addr) : Prop where
  ga : PySem.W.findIn K (.ref C) "__getattribute__" = some (some (.builtin "BaseException.__getattribute__"))
  gg : PySem.W.findIn K (.ref C) "__getattr__" = some none
  exC : PySem.W.subIn K (.ref C) (.type "BaseException") = some true
  hdC : PySem.W.hasDictIn K C = true
def tErrF (K : PySem.W.Frag) (n : Str) (te : TE) : TE := fun σ H Q => te σ H fun x H1 => ∃ (a C dd : Addr) (fs : List (Str × V)) (v : V), x = .ref a ∧ H1 a = some (exo a C (some dd)) ∧ H1 dd = some (exd dd fs) ∧ ErrF K C ∧
  PySem.W.findIn K (.ref C) n = some none ∧ fs.lookup n = some v ∧ Q v H1
theorem pe_errF {n : Str} {te : TE} (he : PE X e te) (hb : attributeBase e n X.env (eval e X.env) = eval e X.env := by rfl) : PE X (.Attribute e n pos) (tErrF X.K n te) := by
  refine ⟨fun pins s σ H Q I h => ?_⟩
  refine attr_of hb (thn (he.run pins s σ H _ I h) fun u s1 hh => ?_)
  obtain ⟨x, H1, I1, rx, a, C, dd, fs, v, ex, ea, ed, T, hno, l, q⟩ := hh
  subst ex
  obtain rfl : u = Value.ref a := rx
  obtain ⟨t1, hoe⟩ := exo_at I1.hok ea
  obtain ⟨mA, hns, hr⟩ := exd_at I1.hok ed
  obtain ⟨od, ho, hl⟩ := lookIn_ns hns
  obtain ⟨u, hu, ru⟩ := RelO.some_of (v := v) (o := mA n) (by rw [← l]; exact hr n)
  have J : PySem.W.InstAt s1.heap a _ C (some od) := ⟨hoe, rfl, rfl, ho⟩
  exact HandSPX.exc_get I1.kIn J T.ga T.gg T.exC (PySem.W.findObj_own T.hdC hno rfl (by rw [hl, hu])) (handed_of ru) ⟨v, H1, I1.tok _, ru, q⟩
/-- C() of a class without an __init__ of its own -/
theorem pe_exc0 {bmB : List Value} {B newId initId : String} (F : ExcBaseFacts B newId initId bmB) (q : PySem.W.excIn X.K C bmB newId = true) (gC : X.mg x = some (.ref C)) (kC : PySem.W.keepIn X.K (.ref C) = true) (hg : Gl X x)
    (hdb : (x == ("__debug__" : Str)) = false := by decide) :
    PE X (.Call (.Name x p) [] [] pos) (fun σ H Q => ∀ a, H a = none → Q (.ref a) (upd H a (exo a C none))) := by
  refine ⟨fun pins s σ H Q I h => ?_⟩
  refine wpAny_Call_Name_kw (ld_glob I hg gC ?_ hdb)
  refine PySem.W.callWith_K0 I.kIn kC ?_
  show wpAny _ _ (call (.ref C) []) _ _ _
  obtain ⟨bm, N, nm, qn, bs, hdct, sn, sub, ab, col, dd, k0, k1, k2, k3, k5, mN, hC, hN, hni, T⟩ := exc_obj I.kIn q
  refine wpAny_call_exc_subT F T hC hN hni (fun h' a hm => ?_) (by show 0 ≤ sizeLine; exact Nat.zero_le _)
  have hn : H a = none := I.hok.gone hm.new
  obtain ⟨t, ht, _, _⟩ := hm.there
  exact ⟨.ref a, upd H a (exo a C none), I.laidN hm.keeps hm.new hn (exo_ok ht), rfl, h a hn⟩
/-- what isinstance asks of an error's class -/
structure ErrI (K : PySem.W.Frag) (C : Addr) : Prop where
  cl : (PySem.W.clsIn K C).isSome = true
  ga : PySem.W.findIn K (.ref C) "__getattribute__" = some (some (.builtin "BaseException.__getattribute__"))
  gg : PySem.W.findIn K (.ref C) "__getattr__" = some none
  ex : PySem.W.subIn K (.ref C) (.type "BaseException") = some true
  ca : PySem.W.findIn K (.ref C) "__class__" = some (some (.builtin "object.__class__"))
  sp : PySem.W.specialIn K (.builtin "object.__class__") "__get__" = some (some (.builtin "getset_descriptor.__get__"))
  tk : PySem.W.takesIn K (.builtin "object.__class__") = some true
  ob : PySem.W.mroIn K C (.type "object") = some true
def rIsErr (K : PySem.W.Frag) : List V → Hp → VK → Prop := fun xs H Q => ∃ (a C : Addr) (d : Option Addr) (c : V) (cv : Value) (b : Bool), xs = [.ref a, c] ∧ H a = some (exo a C d) ∧ (∀ dd, d = some dd → ∃ fs, H dd = some (exd dd fs)) ∧ ErrI K C ∧
  ClsV c cv ∧ PySem.W.kitOne K (.ref C) cv = some b ∧ Q (.bl b) H
theorem call_isErr : CallR X (.builtin "isinstance") (rIsErr X.K) := by
  intro pins s σ H xs us Q I r h
  obtain ⟨a, C, d, c, cv, b, rfl, ha, hd, T, k, e, q⟩ := h
  obtain ⟨u1, u2, rfl, r1, r2⟩ := vals2 r
  have e2 := k.eq r2
  subst e2
  obtain rfl : u1 = Value.ref a := r1
  obtain ⟨t1, ho⟩ := exo_at I.hok ha
  have go : ∀ od : Option Obj, PySem.W.InstAt s.heap a { cls := .ref C, dict := d, data := .fields #[.ref t1, .none, .none, .none, .bool false, .none] } C od → wpAny (model X.prog X.w) X.A (call (.builtin "isinstance") [Value.ref a, u2]) (EP X pins σ Q) X.xe s := fun od J =>
    PySem.W.kia_one (PySem.W.kitx_exc (od := od) T.cl T.ga T.gg T.ex T.ca T.sp T.tk T.ob) I.kIn J e (fun z => nomatch z) fun tk => ⟨.bl b, H, I.tok tk, rfl, q⟩
  cases d with
  | none => exact go none ⟨ho, rfl, rfl, trivial⟩
  | some dd =>
    obtain ⟨fs, hfs⟩ := hd dd rfl
    obtain ⟨mA, hns, _⟩ := exd_at I.hok hfs
    obtain ⟨od, hod, _⟩ := lookIn_ns hns
    exact go (some od) ⟨ho, rfl, rfl, hod⟩
end
end MK
set_option Elab.async false
set_option linter.all false
set_option maxRecDepth 100000
set_option maxHeartbeats 4000000
/-! defs by their names, what is kept -/
namespace MK
open PySem PySem.Spec PyProof.Rows L2
section
variable {P : Program} {w : World} {K : PySem.W.Frag} {mg : Str → Option Value} {base : Heap} {CX : CXT}
/-- a def of the module that may be called by its name -/
structure Cal (P : Program) (w : World) (K : PySem.W.Frag) (mg : Str → Option Value) (base : Heap) (CX : CXT) (k : Nat) (x : Str) (sp : Sp) : Prop where
  ex : ∃ (f : Addr) (fd : FuncData) (ps : List Str), FnOk P w K mg base CX k f fd ps sp ∧ mg x = some (.ref f) ∧ PySem.W.keepIn K (.ref f) = true ∧ Binds K fd ps []
/-- what the top left of a def: its text, its name, how its arguments bind -/
structure DefX (K : PySem.W.Frag) (mg : Str → Option Value) (x : Str) (st : Stmt) (ps : List Str) (f : Addr) (fd : FuncData) : Prop where
  fn : Fun K x x st f fd
  mgf : mg x = some (.ref f)
  bi : Binds K fd ps []
theorem cal_mk {x : Str} {st : Stmt} {f : Addr} {fd : FuncData} {N ps : List Str} {k : Nat} {sp : Sp} (F : DefX K mg x st ps f fd) (S : FnScope N ps (defScope st)) (len : ∀ vs H Q E, sp vs H Q E → vs.length = ps.length)
    (hbody : ∀ (cdv : Value) (A : Around) (outer : List Env) (s : Shared) (H : Hp) (vs : List V) (Q : VK) (E : XK), Room k (A.deeper (envOfC x (defScope st) s.heap.objs.size f cdv)) → sp vs H Q E →
      ∃ t, PSs (cxOf CX0 P w K mg base N x (defScope st) f cdv A outer s H E).nox (defBody st) t ∧ t { nx := fun _ H' => Q .non H', rt := Q } (start N vs) H) : Cal P w K mg base CX0 (k + 1) x sp :=
  ⟨f, fd, ps, F.fn.ok S len hbody, F.mgf, F.fn.kp, F.bi⟩
end
section
variable {X : Cx} {k j : Nat} {x : Str} {sp : Sp} {p pos : Pos} {e : Expr} {es : List Expr} {t : TA}
theorem pe_c (c : Cal X.prog X.w X.K X.mg X.base CX0 k x sp) (hr : Room j X.A) (hk : k ≤ j) (hg : Gl X x) (ha : PA X (e :: es) t)
    (hdb : (x == ("__debug__" : Str)) = false := by decide) (he : starEach (e :: es) X.env = (false, eval e X.env) :: starEach es X.env := by rfl) (hpl : (backTo pos (starEach es X.env)).any (·.1) = false := by rfl) :
    PE X (.Call (.Name x p) (e :: es) [] pos) (tCall sp [] E0 t) := by
  obtain ⟨f, fd, ps, F, hm, kp, b⟩ := c.ex
  exact pe_call F (hr.mono hk) hg hm kp b .nil pass0 ha hdb he hpl
/-- a str times a small int -/
theorem op_repS : OpR X (binaryOp .Mult) (fun x y H Q => ∃ (z : Str) (n : Int), x = .str z ∧ y = .int n ∧ ((n ≤ 0 ∧ -(2 ^ 63) ≤ n ∧ Q (.str Str.empty) H) ∨ (n = 1 ∧ Q (.str z) H))) := by
  intro pins s σ H x y v u Q I rx ry h
  obtain ⟨z, n, rfl, rfl, h⟩ := h
  obtain ⟨t, rfl⟩ := rx
  obtain ⟨t', rfl⟩ := ry
  rcases h with ⟨h1, h2, q⟩ | ⟨rfl, q⟩
  · exact PySem.P.mul_str_none (by omega) (by omega) ⟨.str Str.empty, H, I.tok _, ⟨_, rfl⟩, q⟩
  · refine PySem.P.mul_str (by decide) (fun _ h => absurd h (by simp)) (fun _ h => absurd h (by simp)) ?_
    show Made.post (Made.val (Value.str z t)) _ _
    exact ⟨.str z, H, I, ⟨_, rfl⟩, q⟩
end
/-- a statement, then the rest, Mid between them: what follows is shown once -/
def tCut (t u : TS) : TS := fun D σ H => ∃ Mid : L2.St → Hp → Prop, t { D with nx := Mid } σ H ∧ ∀ σ' H', Mid σ' H' → u D σ' H'
theorem pss_cut {X : Cx} {st : Stmt} {rest : List Stmt} {t u : TS} (h1 : PS X st t) (h2 : PSs X rest u) : PSs X (st :: rest) (tCut t u) := by
  refine ⟨fun pins s σ H D I h => ?_⟩
  obtain ⟨Mid, a, b⟩ := h
  refine wpAny_execs_cons (thn (h1.run pins s σ H { D with nx := Mid } I a) fun f s1 q => ?_)
  cases f with
  | next =>
    obtain ⟨σ', H', I', q⟩ := q
    exact h2.run pins s1 σ' H' D I' (b σ' H' q)
  | ret v => exact q
  | brk => exact q
  | cont => exact q
/-- the name of a built-in class, as a value -/
theorem pe_tyv {X : Cx} {x : Str} {n : String} {pos : Pos} (hg : Gl X x) (hm : X.mg x = none) (hv : bootBuiltins x = some (.type n)) (hn : x ≠ "__name__" := by decide) (hd : (x == ("__debug__" : Str)) = false := by decide) : PE X (.Name x pos) (tC (.ty n)) :=
  pe_bltn hg hm hv rfl hn hd
/-- an expression, a test, with a word between it and what follows -/
def tCutE (te : TE) : TE := fun σ H Q => ∃ Mid : V → Hp → Prop, te σ H Mid ∧ ∀ v H', Mid v H' → Q v H'
def tCutT (tt : TT) : TT := fun σ H Q => ∃ Mid : Bool → Hp → Prop, tt σ H Mid ∧ ∀ b H', Mid b H' → Q b H'
theorem pe_cut {X : Cx} {e : Expr} {te : TE} (h : PE X e te) : PE X e (tCutE te) := by
  refine ⟨fun pins s σ H Q I ⟨Mid, a, b⟩ => ?_⟩
  exact thn (h.run pins s σ H Mid I a) fun u s1 ⟨v, H1, I1, r1, q1⟩ => ⟨v, H1, I1, r1, b v H1 q1⟩
theorem pt_cut {X : Cx} {e : Expr} {tt : TT} (h : PT X e tt) : PT X e (tCutT tt) := by
  refine ⟨fun pins s σ H Q I ⟨Mid, a, b⟩ => ?_⟩
  exact thn (h.run pins s σ H Mid I a) fun u s1 ⟨H1, I1, q1⟩ => ⟨H1, I1, b u H1 q1⟩
/-- all that was tracked is as it was, but what stands at s -/
def SameX (s : Addr) (H H' : Hp) : Prop := ∀ b o, H b = some o → b ≠ s → H' b = some o
theorem SameX.refl (s : Addr) (H : Hp) : SameX s H H := fun _ _ h _ => h
theorem SameX.trans {s : Addr} {H H1 H2 : Hp} (a : SameX s H H1) (b : SameX s H1 H2) : SameX s H H2 := fun c o h n => b c o (a c o h n) n
theorem SameX.new {s p : Addr} {o : HO} {H H1 : Hp} (a : SameX s H H1) (h : H1 p = none) : SameX s H (upd H1 p o) := fun c u hc n => by
  have e := a c u hc n
  rw [upd_ne (ne_of_none e h)]
  exact e
theorem SameX.put {s : Addr} {o : HO} {H H1 : Hp} (a : SameX s H H1) : SameX s H (upd H1 s o) := fun c u hc n => by
  rw [upd_ne n]
  exact a c u hc n
theorem same_sx {s : Addr} {H H1 : Hp} (a : Same H H1) : SameX s H H1 := fun c u hc _ => a c u hc
theorem SameX.none {s p : Addr} {H H1 : Hp} (a : SameX s H H1) (n : p ≠ s) (h : H1 p = Option.none) : H p = Option.none := by
  cases e : H p with
  | none => rfl
  | some o =>
    rw [a p o e n] at h
    cases h
theorem same_new {p : Addr} {o : HO} {H H1 : Hp} (a : Same H H1) (h : H1 p = none) : Same H (upd H1 p o) := fun c u hc => by
  have e := a c u hc
  rw [upd_ne (ne_of_none e h)]
  exact e
theorem SameX.l {K : PySem.W.Frag} {s a : Addr} {xs : List V} {H H1 : Hp} (e : SameX s H H1) (n : a ≠ s) (h : SqL K H a xs) : SqL K H1 a xs := by
  rcases h with (h | ⟨o, h⟩) | h
  · exact .inl (.inl (e _ _ h n))
  · exact .inl (.inr ⟨o, e _ _ h n⟩)
  · exact .inr h
theorem SameX.t {K : PySem.W.Frag} {s a : Addr} {xs : List V} {H H1 : Hp} (e : SameX s H H1) (n : a ≠ s) (h : SqT K H a xs) : SqT K H1 a xs := by
  rcases h with (h | ⟨o, h⟩) | h
  · exact .inl (.inl (e _ _ h n))
  · exact .inl (.inr ⟨o, e _ _ h n⟩)
  · exact .inr h
theorem walk_enumT {K : PySem.W.Frag} {a : Addr} {xs : List V} : Walk (IteT K a) xs.length (fun H => SqT K H a xs) (YPair (fun i => some (.int (i : Nat))) (fun i => xs[i]?)) := by
  refine ⟨fun i _ hi q => ⟨xs, xs[i], q, by simp [hi]⟩, fun _ q => ⟨xs, q, Nat.le_refl _⟩, fun i H v H' _ q y => ?_⟩
  obtain ⟨T, x, h1, h2, h3, h4⟩ := y
  exact ⟨T, .int (i : Nat), x, h1, h2, h3, rfl, h4 xs q⟩
theorem upd_none {H : Hp} {a b : Addr} {o : HO} (h : upd H a o b = none) : b ≠ a ∧ H b = none := by
  by_cases e : b = a
  · rw [e, upd_same] at h
    cases h
  · rw [upd_ne e] at h
    exact ⟨e, h⟩
/-! ### things that are the same, as the laws ask: equal, and of the same kinds -/
section
variable {K : PySem.W.Frag}
/-- nothing in it that is walked -/
def Flat (H : Hp) (x y : V) : Prop := (x = y ∧ (x = .non ∨ (∃ b, x = .bl b) ∨ (∃ i, x = .int i) ∨ ∃ z, x = .str z)) ∨
  ∃ a b kvs, x = .ref a ∧ y = .ref b ∧ H a = some (.dK kvs) ∧ H b = some (.dK kvs) ∧ (kvs.map (·.1)).Nodup ∧ ∀ p ∈ kvs, flatB p.2 = true
def Sm (K : PySem.W.Frag) (H : Hp) : Nat → V → V → Prop
  | 0, x, y => Flat H x y
  | n + 1, x, y => Flat H x y ∨ ∃ a b xs ys, x = .ref a ∧ y = .ref b ∧ ((SqL K H a xs ∧ SqL K H b ys) ∨ (SqT K H a xs ∧ SqT K H b ys)) ∧ xs.length = ys.length ∧ xs.length < 100000 ∧ ∀ (i : Nat) x y, xs[i]? = some x → ys[i]? = some y → Sm K H n x y
theorem same_t {H H' : Hp} {a : Addr} {xs : List V} (e : Same H H') (h : SqT K H a xs) : SqT K H' a xs := by
  rcases h with (h | ⟨o, h⟩) | h
  · exact .inl (.inl (e _ _ h))
  · exact .inl (.inr ⟨o, e _ _ h⟩)
  · exact .inr h
theorem Flat.keep {H H' : Hp} {x y : V} (e : Same H H') (h : Flat H x y) : Flat H' x y := by
  rcases h with h | ⟨a, b, kvs, h1, h2, h3, h4, h5⟩
  · exact .inl h
  · exact .inr ⟨a, b, kvs, h1, h2, e _ _ h3, e _ _ h4, h5⟩
theorem Sm.keep {H H' : Hp} (e : Same H H') : ∀ {n : Nat} {x y : V}, Sm K H n x y → Sm K H' n x y
  | 0, _, _, h => Flat.keep e h
  | n + 1, _, _, h => by
    rcases h with h | ⟨a, b, xs, ys, h1, h2, h3, h4, h5, h6⟩
    · exact .inl (h.keep e)
    · refine .inr ⟨a, b, xs, ys, h1, h2, ?_, h4, h5, fun i x y q1 q2 => Sm.keep e (h6 i x y q1 q2)⟩
      rcases h3 with ⟨p, q⟩ | ⟨p, q⟩
      · exact .inl ⟨e.seq p, e.seq q⟩
      · exact .inr ⟨same_t e p, same_t e q⟩
theorem tyx_l {H : Hp} {a : Addr} {xs : List V} (h : SqL K H a xs) : TyX K H (.ref a) (.type "list") := by
  rcases h with (h | ⟨o, h⟩) | ⟨o, its, n, hk, hc, _⟩
  · exact .base (.lst h)
  · exact .base (.frz h)
  · exact .kList hk hc
theorem tyx_t {H : Hp} {a : Addr} {xs : List V} (h : SqT K H a xs) : TyX K H (.ref a) (.type "tuple") := by
  rcases h with (h | ⟨o, h⟩) | ⟨o, its, n, hk, hc, _⟩
  · exact .base (.tup h)
  · exact .fTuple h
  · exact .kTuple hk hc
theorem tyx_keep {H H' : Hp} {x : V} {t : Value} (e : Same H H') (h : TyX K H x t) : TyX K H' x t := by
  cases h with
  | base h =>
    cases h with
    | non => exact .base .non
    | bl b => exact .base (.bl b)
    | int i => exact .base (.int i)
    | str z => exact .base (.str z)
    | flt z => exact .base (.flt z)
    | lst h => exact .base (.lst (e _ _ h))
    | frz h => exact .base (.frz (e _ _ h))
    | tup h => exact .base (.tup (e _ _ h))
    | dK h => exact .base (.dK (e _ _ h))
    | dT h => exact .base (.dT (e _ _ h))
    | ins h cl ha hn ht hm => exact .base (.ins (e _ _ h) cl ha hn ht hm)
  | byt b => exact .byt b
  | set h => exact .set (e _ _ h)
  | kList h c => exact .kList h c
  | kTuple h c => exact .kTuple h c
  | kDict h c => exact .kDict h c
  | fTuple h => exact .fTuple (e _ _ h)
  | fDict h => exact .fDict (e _ _ h)
theorem walk_zipT {a b : Addr} {xs ys : List V} {n : Nat} (hn : n = min xs.length ys.length) : Walk (RZ.ItzT K a b) n (fun H => SqT K H a xs ∧ SqT K H b ys) (YPair (fun i => xs[i]?) (fun i => ys[i]?)) := by
  subst hn
  refine ⟨fun i _ hi q => ?_, fun _ q => ⟨xs, ys, q.1, q.2, by omega⟩, fun i H v H' _ q y => ?_⟩
  · have h1 : i < xs.length := by omega
    have h2 : i < ys.length := by omega
    exact ⟨xs, ys, xs[i], ys[i], q.1, q.2, by simp [h1], by simp [h2]⟩
  · obtain ⟨T, x, y, h1, h2, h3, h4, h5⟩ := y
    exact ⟨T, x, y, h1, h2, h3, h4 xs q.1, h5 ys q.2⟩
end
/-- a def that is never called so -/
theorem cal_bot {P : Program} {w : World} {K : PySem.W.Frag} {mg : Str → Option Value} {base : Heap} {x : Str} {st : Stmt} {ps : List Str} {f : Addr} {fd : FuncData} (F : DefX K mg x st ps f fd) : Cal P w K mg base CX0 0 x (fun _ _ _ _ => False) :=
  ⟨f, fd, ps, ⟨fun _ _ _ _ h => h.elim, fun _ _ _ _ _ _ _ _ _ _ _ _ _ h => h.elim⟩, F.mgf, F.fn.kp, F.bi⟩
end MK
set_option Elab.async false
set_option linter.all false
set_option maxRecDepth 100000
set_option maxHeartbeats 4000000
/-! errors as values, by the names of their classes -/
namespace MK
open PySem PySem.Spec PyProof.Rows L2
theorem exo_lst {e C : Addr} {d : Option Addr} {xs : List V} : exo e C d ≠ .lst xs := fun z => by
  have z' : HO.ext _ = HO.lst xs := z
  cases z'
theorem exd_lst {e : Addr} {fs : List (Str × V)} {xs : List V} : exd e fs ≠ .lst xs := fun z => by
  have z' : HO.ext _ = HO.lst xs := z
  cases z'
/-- an error of the class at C stands at a; its attributes, the latest first -/
def Err (H : Hp) (C a : Addr) (fs : List (Str × V)) : Prop := ∃ d, H a = some (exo a C (some d)) ∧ H d = some (exd d fs)
theorem Err.keep {H H' : Hp} {C a : Addr} {fs : List (Str × V)} (e : Same H H') (h : Err H C a fs) : Err H' C a fs := by
  obtain ⟨d, h1, h2⟩ := h
  exact ⟨d, e _ _ h1, e _ _ h2⟩
theorem Err.put {H : Hp} {C a p : Addr} {fs : List (Str × V)} {xs zs : List V} (hp : H p = some (.lst xs)) (h : Err H C a fs) : Err (upd H p (.lst zs)) C a fs := by
  obtain ⟨d, h1, h2⟩ := h
  exact ⟨d, by rw [upd_ne (at_ne hp h1 (Ne.symm exo_lst))]; exact h1, by rw [upd_ne (at_ne hp h2 (Ne.symm exd_lst))]; exact h2⟩
/-- an error of the class at C without attributes -/
def Err0 (H : Hp) (C a : Addr) : Prop := H a = some (exo a C none)
/-- what the __init__ of an error with one attribute promises; with two -/
def spErr1 (C : Addr) (f : Str) : Sp := fun vs H Q _ => ∃ (a : Addr) (v : V), vs = [.ref a, v] ∧ H a = some (exo a C none) ∧ ∀ d, H d = none → d ≠ a → Q .non (upd (upd H d (exd d [(f, v)])) a (exo a C (some d)))
def spErr2 (C : Addr) (f g : Str) : Sp := fun vs H Q _ => ∃ (a : Addr) (v u : V), vs = [.ref a, v, u] ∧ H a = some (exo a C none) ∧ ∀ d, H d = none → d ≠ a →
  Q .non (upd (upd (upd H d (exd d [(f, v)])) a (exo a C (some d))) d (exd d [(g, u), (f, v)]))
/-- an error's class by its name: n values by place, the names ks -/
structure ErrCal (P : Program) (w : World) (K : PySem.W.Frag) (mg : Str → Option Value) (base : Heap) (k : Nat) (x : Str) (C : Addr) (sp : Sp) (n : Nat) (ks : List Str) (g : List Value → List Value → List Value) (gV : List V → List V → List V) : Prop where
  ex : ∃ (f : Addr) (fd : FuncData) (ps : List Str), ErrC K C f ∧ FnOk P w K mg base CX0 k f fd ps sp ∧ mg x = some (.ref C) ∧ KBn K fd ps (n + 1) ks g gV
structure Exc0 (K : PySem.W.Frag) (mg : Str → Option Value) (x : Str) (C : Addr) : Prop where
  q : PySem.W.excIn K C PySem.HandSPX.veTail "ValueError.__new__" = true
  mgC : mg x = some (.ref C)
  kp : PySem.W.keepIn K (.ref C) = true
section
variable {X : Cx} {k j n : Nat} {x : Str} {C : Addr} {sp : Sp} {p pos : Pos} {e : Expr} {es : List Expr} {t tk : TA} {kws : List Keyword} {ks : List Str} {g : List Value → List Value → List Value} {gV : List V → List V → List V}
theorem pe_errKC (c : ErrCal X.prog X.w X.K X.mg X.base k x C sp 0 ks g gV) (hr : Room j X.A) (hk : k + 1 ≤ j) (hg : Gl X x) (hkw : PK X kws tk)
    (hall : (backToKw pos (keywordEach kws X.env)).all (·.1.isSome) = true := by rfl) (hks : (backToKw pos (keywordEach kws X.env)).filterMap (·.1) = ks := by rfl) (hdb : (x == ("__debug__" : Str)) = false := by decide)
    (hpl : ((backTo pos (starEach [] X.env)).any (·.1) || (backToKw pos (keywordEach kws X.env)).any (·.1.isNone)) = false := by rfl) :
    PE X (.Call (.Name x p) [] kws pos) (tErr C 0 ks.length sp gV E0 tNil tk) := by
  obtain ⟨f, fd, ps, T, F, hm, b⟩ := c.ex
  exact pe_errK0 T F (hr.mono hk) hg hm b pass0 hkw hall hks hdb hpl
theorem pe_errC (c : ErrCal X.prog X.w X.K X.mg X.base k x C sp n [] g gV) (hr : Room j X.A) (hk : k + 1 ≤ j) (hg : Gl X x) (ha : PA X (e :: es) t) (hn : n ≤ 1000 := by decide)
    (hdb : (x == ("__debug__" : Str)) = false := by decide) (he : starEach (e :: es) X.env = (false, eval e X.env) :: starEach es X.env := by rfl) (hpl : (backTo pos (starEach es X.env)).any (·.1) = false := by rfl) :
    PE X (.Call (.Name x p) (e :: es) [] pos) (tErr C n 0 sp gV E0 t tNil) := by
  obtain ⟨f, fd, ps, T, F, hm, b⟩ := c.ex
  exact pe_err T F (hr.mono hk) hg hm b pass0 ha hn hdb he hpl
theorem pe_errFK {K : PySem.W.Frag} {n : Str} {te : TE} (he : PE X e te) (hK : X.K = K := by rfl) (hb : attributeBase e n X.env (eval e X.env) = eval e X.env := by rfl) : PE X (.Attribute e n pos) (tErrF K n te) := by
  subst hK
  exact pe_errF he hb
theorem pe_refv {a : Addr} (hg : Gl X x) (hm : X.mg x = some (.ref a)) (hd : (x == ("__debug__" : Str)) = false := by decide) : PE X (.Name x pos) (tC (.ref a)) := pe_glob hg hm rfl hd
theorem pe_x0 (c : Exc0 X.K X.mg x C) (hg : Gl X x) (hdb : (x == ("__debug__" : Str)) = false := by decide) : PE X (.Call (.Name x p) [] [] pos) (fun σ H Q => ∀ a, H a = none → Q (.ref a) (upd H a (exo a C none))) :=
  pe_exc0 PySem.F.excBase_ValueError c.q c.mgC c.kp hg hdb
end
/-! readings -/
section
variable {C : Addr} {f h : Str} {σ : L2.St} {H : Hp} {Q : VK} {t tk : TA} {v u : V} {E : XK}
theorem rd_errK (ht : ∀ R : List V → Hp → Prop, R [v] H → tk σ H R) (q : ∀ a H', H a = none → Same H H' → Err H' C a [(f, v)] → Q (.ref a) H') : tErr C 0 1 (spErr1 C f) (fun vs zs => vs ++ zs) E tNil tk σ H Q := by
  refine ht _ ⟨rfl, rfl, fun a ha => ⟨a, v, rfl, upd_same, fun d hd da => ⟨rfl, ?_⟩⟩⟩
  have hd' := (upd_none hd).2
  refine q a _ ha (fun b o hb => ?_) ⟨d, upd_same, (upd_ne da).trans upd_same⟩
  have ba := ne_of_none hb ha
  have bd := ne_of_none hb hd'
  rw [upd_ne ba, upd_ne bd, upd_ne ba]
  exact hb
theorem rd_err1 (ht : ∀ R : List V → Hp → Prop, R [v] H → t σ H R) (q : ∀ a H', H a = none → Same H H' → Err H' C a [(f, v)] → Q (.ref a) H') : tErr C 1 0 (spErr1 C f) (fun vs _ => vs) E t tNil σ H Q := by
  refine ht _ ⟨rfl, rfl, fun a ha => ⟨a, v, rfl, upd_same, fun d hd da => ⟨rfl, ?_⟩⟩⟩
  have hd' := (upd_none hd).2
  refine q a _ ha (fun b o hb => ?_) ⟨d, upd_same, (upd_ne da).trans upd_same⟩
  have ba := ne_of_none hb ha
  have bd := ne_of_none hb hd'
  rw [upd_ne ba, upd_ne bd, upd_ne ba]
  exact hb
theorem same_err2 {a d : Addr} {o1 o2 o3 o4 : HO} (ha : H a = none) (hd : H d = none) : Same H (upd (upd (upd (upd H a o1) d o2) a o3) d o4) := fun b o hb => by
  have ba := ne_of_none hb ha
  have bd := ne_of_none hb hd
  rw [upd_ne bd, upd_ne ba, upd_ne bd, upd_ne ba]
  exact hb
theorem rd_err2 (ht : ∀ R : List V → Hp → Prop, R [v, u] H → t σ H R) (q : ∀ a H', H a = none → Same H H' → Err H' C a [(h, u), (f, v)] → Q (.ref a) H') : tErr C 2 0 (spErr2 C f h) (fun vs _ => vs) E t tNil σ H Q := by
  refine ht _ ⟨rfl, rfl, fun a ha => ⟨a, v, u, rfl, upd_same, fun d hd da => ⟨rfl, ?_⟩⟩⟩
  exact q a _ ha (same_err2 ha (upd_none hd).2) ⟨d, (upd_ne da.symm).trans upd_same, upd_same⟩
/-- the names the other way about -/
theorem rd_errK2 (ht : ∀ R : List V → Hp → Prop, R [u, v] H → tk σ H R) (q : ∀ a H', H a = none → Same H H' → Err H' C a [(h, u), (f, v)] → Q (.ref a) H') : tErr C 0 2 (spErr2 C f h) (fun vs zs => vs ++ zs.reverse) E tNil tk σ H Q := by
  refine ht _ ⟨rfl, rfl, fun a ha => ⟨a, v, u, rfl, upd_same, fun d hd da => ⟨rfl, ?_⟩⟩⟩
  exact q a _ ha (same_err2 ha (upd_none hd).2) ⟨d, (upd_ne da.symm).trans upd_same, upd_same⟩
theorem rd_errF {K : PySem.W.Frag} {te : TE} {a : Addr} {fs : List (Str × V)} (ht : ∀ R : VK, R (.ref a) H → te σ H R) (he : Err H C a fs) (hF : ErrF K C) (hn : PySem.W.findIn K (.ref C) f = some none) (hl : fs.lookup f = some v) (q : Q v H) : tErrF K f te σ H Q := by
  obtain ⟨d, h1, h2⟩ := he
  exact ht _ ⟨a, C, d, fs, v, rfl, h1, h2, hF, hn, hl, q⟩
end
/-! lists of truth values, compared -/
theorem dp_bools {K : PySem.W.Frag} {H : Hp} : ∀ bs : List Bool, DpAll K H (bs.map V.bl) (bs.map PyData.bool)
  | [] => .nil
  | b :: bs => .cons (.bl b) (dp_bools bs)
theorem bools_lay : ∀ bs : List Bool, PyData.canLayAll0 (bs.map PyData.bool) = true
  | [] => rfl
  | b :: bs => by
    rw [List.map_cons]
    unfold PyData.canLayAll0 PyData.canLay0
    rw [Bool.true_and]
    exact bools_lay bs
theorem bools_depth : ∀ bs : List Bool, PyData.depthAll (bs.map PyData.bool) = 0
  | [] => rfl
  | b :: bs => by
    rw [List.map_cons]
    unfold PyData.depthAll
    rw [bools_depth bs]
    rfl
theorem bools_shaped (bs : List Bool) : SeqAt.shaped (.list (bs.map PyData.bool)) = true := by
  have h1 : PyData.canLay0 (.list (bs.map PyData.bool)) = true := by
    unfold PyData.canLay0
    exact bools_lay bs
  have h2 : PyData.depth (.list (bs.map PyData.bool)) ≤ 64 := by
    unfold PyData.depth
    rw [bools_depth bs]
    decide
  unfold SeqAt.shaped
  rw [h1, decide_eq_true h2]
  rfl
theorem bools_eqv (bs : List Bool) : PyData.eqv (.list (bs.map PyData.bool)) (.list (bs.map PyData.bool)) = true :=
  SeqAt.eqv_refl _ (SeqAt.canLay_of_shaped (bools_shaped bs))
/-! what the written part says of an error's class, by one look -/
def oexB (K : PySem.W.Frag) (C : Addr) : Bool := match K.lookup C with
  | some ⟨.type "type", _, .cls cd, sl⟩ => (match cd.mro, sl.toList with
    | .ref C' :: bm, [_, _, _, _, some (.builtin n), _] => C' == C && (n == "ValueError.__new__" && (!cd.hasDel && (cd.hasDict && PySem.HandSPX.refsVE bm)))
    | _, _ => false)
  | _ => false
theorem oexB_ok {K : PySem.W.Frag} {C : Addr} (h : oexB K C = true) :
    ∃ nm q N bs bm sn sub ab col dd k0 k1 k2 k3 k5, K.lookup C = some (excClassObj nm q C N bs bm true sn sub ab col dd k0 k1 k2 k3 k5 "ValueError.__new__") ∧ PySem.HandSPX.refsVE bm = true := by
  unfold oexB at h
  split at h
  · rename_i dd cd sl ho
    split at h
    · rename_i C' bm k0 k1 k2 k3 n k5 hm hs
      simp only [Bool.and_eq_true, beq_iff_eq, Bool.not_eq_true'] at h
      obtain ⟨rfl, rfl, hdel, hdict, hb⟩ := h
      obtain ⟨nm, bs, mro, ns, qn, hd, sn, sub, ab, col, del⟩ := cd
      dsimp only at hm hdel hdict
      subst hm hdel hdict
      have hsl : sl = #[k0, k1, k2, k3, some (.builtin "ValueError.__new__"), k5] := by
        obtain ⟨z⟩ := sl
        simp only at hs
        rw [hs]
      subst hsl
      exact ⟨_, _, _, _, _, _, _, _, _, _, _, _, _, _, _, ho, hb⟩
    · cases h
  · cases h
def errB (K : PySem.W.Frag) (C : Addr) : Bool :=
  decide (PySem.W.findIn K (.ref C) "__setattr__" = some (some (.builtin "object.__setattr__"))) && (decide (PySem.W.subIn K (.ref C) (.type "BaseException") = some true) && (decide (PySem.W.typeIn K (.ref C) = some (.type "type")) && (PySem.W.keepIn K (.ref C) &&
  (decide (PySem.W.findIn K (.ref C) "__getattribute__" = some (some (.builtin "BaseException.__getattribute__"))) && (decide (PySem.W.findIn K (.ref C) "__getattr__" = some none) && (PySem.W.hasDictIn K C && ((PySem.W.clsIn K C).isSome &&
  (decide (PySem.W.findIn K (.ref C) "__class__" = some (some (.builtin "object.__class__"))) && (decide (PySem.W.specialIn K (.builtin "object.__class__") "__get__" = some (some (.builtin "getset_descriptor.__get__"))) &&
  (decide (PySem.W.takesIn K (.builtin "object.__class__") = some true) && decide (PySem.W.mroIn K C (.type "object") = some true)))))))))))
theorem errB_ok {K : PySem.W.Frag} {C : Addr} (h : errB K C = true) (o : oexB K C = true) : OexC K C ∧ ErrF K C ∧ ErrI K C := by
  simp only [errB, Bool.and_eq_true, decide_eq_true_eq] at h
  obtain ⟨h1, h2, h3, h4, h5, h6, h7, h8, h9, h10, h11, h12⟩ := h
  exact ⟨⟨oexB_ok o, h1, h2, h3, h4⟩, ⟨h5, h6, h2, h7⟩, ⟨h8, h5, h6, h2, h9, h10, h11, h12⟩⟩
theorem errI_of {K : PySem.W.Frag} {C : Addr} (h : errB K C = true) : ErrI K C := by
  simp only [errB, Bool.and_eq_true, decide_eq_true_eq] at h
  obtain ⟨h1, h2, h3, h4, h5, h6, h7, h8, h9, h10, h11, h12⟩ := h
  exact ⟨h8, h5, h6, h2, h9, h10, h11, h12⟩
/-- which class is one of which -/
def kitsB (K : PySem.W.Frag) (cs : List Addr) (M : Addr) : Bool :=
  ((List.range cs.length).all fun i => (List.range cs.length).all fun j => decide (PySem.W.kitOne K (.ref (cs.getD i 0)) (.ref (cs.getD j 0)) = some (decide (j = i)))) &&
  (((List.range cs.length).all fun i => decide (PySem.W.kitOne K (.ref M) (.ref (cs.getD i 0)) = some false) && (decide (PySem.W.kitOne K (.ref (cs.getD i 0)) (.ref M) = some true) && decide (PySem.W.kitOne K (.ref (cs.getD i 0)) (.type "ValueError") = some true))) &&
  decide (PySem.W.kitOne K (.ref M) (.type "ValueError") = some true))
theorem getD_of {l : List Addr} {i : Nat} {a : Addr} (h : l[i]? = some a) : i < l.length ∧ l.getD i 0 = a := by
  obtain ⟨h1, h2⟩ := List.getElem?_eq_some_iff.mp h
  exact ⟨h1, by rw [List.getD_eq_getElem?_getD, h]; rfl⟩
theorem kitsB_ok {K : PySem.W.Frag} {cs : List Addr} {M : Addr} (h : kitsB K cs M = true) :
    (∀ (i j : Nat) (C D : Addr), cs[i]? = some C → cs[j]? = some D → PySem.W.kitOne K (.ref C) (.ref D) = some (decide (j = i))) ∧ (∀ (j : Nat) (D : Addr), cs[j]? = some D → PySem.W.kitOne K (.ref M) (.ref D) = some false) ∧
    (∀ (i : Nat) (C : Addr), cs[i]? = some C → PySem.W.kitOne K (.ref C) (.ref M) = some true) ∧ (∀ (i : Nat) (C : Addr), cs[i]? = some C → PySem.W.kitOne K (.ref C) (.type "ValueError") = some true) ∧ PySem.W.kitOne K (.ref M) (.type "ValueError") = some true := by
  simp only [kitsB, Bool.and_eq_true, decide_eq_true_eq, List.all_eq_true, List.mem_range] at h
  obtain ⟨h1, h2, h3⟩ := h
  refine ⟨fun i j C D hC hD => ?_, fun j D hD => ?_, fun i C hC => ?_, fun i C hC => ?_, h3⟩
  · have z := h1 i (getD_of hC).1 j (getD_of hD).1
    rw [(getD_of hC).2, (getD_of hD).2] at z
    exact z
  · have z := (h2 j (getD_of hD).1).1
    rw [(getD_of hD).2] at z
    exact z
  · have z := (h2 i (getD_of hC).1).2.1
    rw [(getD_of hC).2] at z
    exact z
  · have z := (h2 i (getD_of hC).1).2.2
    rw [(getD_of hC).2] at z
    exact z
end MK
set_option Elab.async false
set_option linter.all false
set_option autoImplicit false
set_option maxRecDepth 100000
set_option maxHeartbeats 4000000
/-! kinds as data, and where they stand -/
namespace MK
open PySem PySem.Spec PyProof.Rows L2
/-- all but what stands at s -/
def Off (s : Addr) (H : Hp) : Hp := fun b => if b = s then none else H b
theorem off_ne {s b : Addr} {H : Hp} (h : b ≠ s) : Off s H b = H b := if_neg h
theorem off_s {s : Addr} {H : Hp} : Off s H s = none := if_pos rfl
theorem off_same {s : Addr} {H : Hp} : Same (Off s H) H := fun b o h => by
  by_cases e : b = s
  · rw [e, off_s] at h
    cases h
  · rw [off_ne e] at h
    exact h
theorem SameX.off {s : Addr} {H H' : Hp} (e : SameX s H H') : Same (Off s H) (Off s H') := fun b o h => by
  by_cases q : b = s
  · rw [q, off_s] at h
    cases h
  · rw [off_ne q] at h ⊢
    exact e _ _ h q
theorem same_off {s : Addr} {H H' : Hp} (e : Same H H') : Same (Off s H) (Off s H') := (same_sx e).off
theorem off_upd {s a : Addr} {o : HO} {H : Hp} (h : a ≠ s) : Off s (upd H a o) = upd (Off s H) a o := by
  funext b
  by_cases e : b = s
  · subst e
    rw [off_s, upd_ne (Ne.symm h), off_s]
  · by_cases q : b = a
    · subst q
      rw [off_ne e, upd_same, upd_same]
    · rw [off_ne e, upd_ne q, upd_ne q, off_ne e]
theorem off_get {s a : Addr} {o : HO} {H : Hp} (h : Off s H a = some o) : H a = some o := off_same _ _ h
theorem off_none {s a : Addr} {H : Hp} (h : H a = none) : Off s H a = none := by
  by_cases e : a = s
  · rw [e, off_s]
  · rw [off_ne e]
    exact h
theorem SameX.putN {s a : Addr} {o : HO} {H H1 : Hp} (e : SameX s H H1) (h : H a = Option.none) : SameX s H (upd H1 a o) := fun b u hb n => by
  rw [upd_ne (fun q => by rw [q, h] at hb; cases hb)]
  exact e _ _ hb n
/-! ### sequences -/
section
variable {K : PySem.W.Frag}
def Sq (K : PySem.W.Frag) (H : Hp) (v : V) (xs : List V) : Prop := ∃ a, v = .ref a ∧ (SqL K H a xs ∨ SqT K H a xs)
def Tu (K : PySem.W.Frag) (H : Hp) (v : V) (xs : List V) : Prop := ∃ a, v = .ref a ∧ SqT K H a xs
theorem Tu.sq {H : Hp} {v : V} {xs : List V} (h : Tu K H v xs) : Sq K H v xs := by
  obtain ⟨a, e, h⟩ := h
  exact ⟨a, e, .inr h⟩
theorem Tu.keep {H H' : Hp} {v : V} {xs : List V} (e : Same H H') (h : Tu K H v xs) : Tu K H' v xs := by
  obtain ⟨a, r, h⟩ := h
  exact ⟨a, r, same_t e h⟩
theorem Sq.keep {H H' : Hp} {v : V} {xs : List V} (e : Same H H') (h : Sq K H v xs) : Sq K H' v xs := by
  obtain ⟨a, r, h⟩ := h
  rcases h with h | h
  · exact ⟨a, r, .inl (e.seq h)⟩
  · exact ⟨a, r, .inr (same_t e h)⟩
theorem Sq.lst {H : Hp} {a : Addr} {xs : List V} (h : H a = some (.lst xs)) : Sq K H (.ref a) xs := ⟨a, rfl, .inl (SqL.of h)⟩
theorem Tu.tup {H : Hp} {a : Addr} {xs : List V} (h : H a = some (.tup xs)) : Tu K H (.ref a) xs := ⟨a, rfl, SqT.of h⟩
end
/-- item by item -/
def Al {α : Type} (R : V → α → Prop) (xs : List V) (ys : List α) : Prop := xs.length = ys.length ∧ ∀ (i : Nat) x y, xs[i]? = some x → ys[i]? = some y → R x y
section
variable {α : Type} {R S : V → α → Prop} {xs : List V} {ys : List α}
theorem Al.nil : Al R [] [] := ⟨rfl, fun i x y h => by simp at h⟩
theorem Al.mono (h : Al R xs ys) (f : ∀ x y, R x y → S x y) : Al S xs ys := ⟨h.1, fun i x y h1 h2 => f _ _ (h.2 i x y h1 h2)⟩
theorem Al.snoc {x : V} {y : α} (h : Al R xs ys) (r : R x y) : Al R (xs ++ [x]) (ys ++ [y]) := by
  refine ⟨by simp [h.1], fun i u v h1 h2 => ?_⟩
  by_cases q : i < xs.length
  · rw [List.getElem?_append_left q] at h1
    rw [List.getElem?_append_left (h.1 ▸ q)] at h2
    exact h.2 i u v h1 h2
  · have q2 : ys.length ≤ i := by have := h.1; omega
    rw [List.getElem?_append_right (by omega)] at h1
    rw [List.getElem?_append_right q2] at h2
    rw [← h.1] at h2
    cases hz : i - xs.length with
    | zero =>
      rw [hz] at h1 h2
      simp at h1 h2
      rw [← h1, ← h2]
      exact r
    | succ n =>
      rw [hz] at h1
      simp at h1
theorem Al.get (h : Al R xs ys) {i : Nat} {x : V} (hx : xs[i]? = some x) : ∃ y, ys[i]? = some y ∧ R x y := by
  have hi : i < xs.length := (List.getElem?_eq_some_iff.mp hx).1
  have hj : i < ys.length := h.1 ▸ hi
  exact ⟨ys[i], List.getElem?_eq_getElem hj, h.2 i x _ hx (List.getElem?_eq_getElem hj)⟩
theorem Al.get' (h : Al R xs ys) {i : Nat} {y : α} (hy : ys[i]? = some y) : ∃ x, xs[i]? = some x ∧ R x y := by
  have hi : i < ys.length := (List.getElem?_eq_some_iff.mp hy).1
  have hj : i < xs.length := h.1.symm ▸ hi
  exact ⟨xs[i], List.getElem?_eq_getElem hj, h.2 i _ y (List.getElem?_eq_getElem hj) hy⟩
theorem Al.map {f : α → V} (g : ∀ y, R (f y) y) : Al R (ys.map f) ys := ⟨by simp, fun i x y h1 h2 => by
  rw [List.getElem?_map, h2] at h1
  cases h1
  exact g y⟩
theorem Al.mem (h : Al R xs ys) {x : V} (hx : x ∈ xs) : ∃ y ∈ ys, R x y := by
  obtain ⟨i, hi⟩ := List.mem_iff_getElem?.mp hx
  obtain ⟨y, hy, r⟩ := h.get hi
  exact ⟨y, List.mem_of_getElem? hy, r⟩
end
theorem off_put {a : Addr} {o : HO} {H : Hp} : Off a (upd H a o) = Off a H := by
  funext b
  by_cases e : b = a
  · rw [e, off_s, off_s]
  · rw [off_ne e, off_ne e, upd_ne e]
theorem inV_strs (z : Str) (zs : List Str) : inV (.str z) (zs.map V.str) = decide (z ∈ zs) := by
  rw [Bool.eq_iff_iff, decide_eq_true_iff]
  unfold inV
  rw [List.any_map, List.any_eq_true]
  constructor
  · rintro ⟨y, m, e⟩
    have e : (y == z) = true := e
    rw [beq_iff_eq] at e
    exact e ▸ m
  · intro m
    exact ⟨z, m, beq_self_eq_true z⟩
theorem flat_strs (zs : List Str) : (zs.map V.str).all flatV = true := by
  rw [List.all_map, List.all_eq_true]
  exact fun _ _ => rfl
theorem rep_flat (z : Str) : ∀ m : Nat, (List.replicate m [V.str z]).flatten = (List.replicate m z).map V.str
  | 0 => rfl
  | m + 1 => by
    rw [List.replicate_succ, List.flatten_cons, rep_flat z m, List.replicate_succ]
    rfl
theorem none_of {H H1 : Hp} {a : Addr} (e : Same H H1) (h : H1 a = none) : H a = none := by
  cases q : H a with
  | none => rfl
  | some o =>
    rw [e _ _ q] at h
    cases h
theorem noneX {s : Addr} {H H1 : Hp} {a : Addr} (e : SameX s H H1) (n : a ≠ s) (h : H1 a = none) : H a = none := by
  cases q : H a with
  | none => rfl
  | some o =>
    rw [e _ _ q n] at h
    cases h
theorem seqIndex_nat {d n : Nat} (h : d < n) : seqIndex? (d : Int) n = some d := by
  rw [PySem.seqIndex_of (by omega) (by omega)]
  rfl
theorem eraseIdx_mapV {α β : Type} (f : α → β) : ∀ (l : List α) (d : Nat), (l.map f).eraseIdx d = (l.eraseIdx d).map f
  | [], _ => rfl
  | _ :: _, 0 => rfl
  | x :: xs, d + 1 => by
    show f x :: (xs.map f).eraseIdx d = f x :: (xs.eraseIdx d).map f
    rw [eraseIdx_mapV f xs d]
theorem perm_erase {α : Type} : ∀ (l : List α) (d : Nat) (h : d < l.length), (l[d] :: l.eraseIdx d).Perm l
  | x :: xs, 0, _ => List.Perm.refl _
  | x :: xs, d + 1, h => by
    show (xs[d]'(by simpa using h) :: x :: xs.eraseIdx d).Perm (x :: xs)
    exact (List.Perm.swap _ _ _).trans ((perm_erase xs d _).cons x)
/-! ### rules with the frag said -/
section
variable {X : Cx} {K : PySem.W.Frag}
theorem ix_tupK (h : X.K = K) : IxR X (rIxT K) := by subst h; exact ix_tup
theorem ix_seqK (h : X.K = K) : IxR X (rIx K) := by subst h; exact ix_seq
theorem op_in_seqK (h : X.K = K) : OpR X (compareOp .In) (rIn K false) := by subst h; exact op_in_seq
theorem op_notIn_seqK (h : X.K = K) : OpR X (compareOp .NotIn) (rIn K true) := by subst h; exact op_notIn_seq
theorem call_isiK (h : X.K = K) : CallR X (.builtin "isinstance") (rIsi K) := by subst h; exact call_isi
theorem call_isiTK (h : X.K = K) : CallR X (.builtin "isinstance") (rIsiT K) := by subst h; exact call_isiT
theorem call_len_seqK (h : X.K = K) : CallR X (.builtin "len") (fun xs H Q => ∃ p ys, xs = [.ref p] ∧ (SqL K H p ys ∨ SqT K H p ys) ∧ Q (.int ys.length) H) := by subst h; exact call_len_seq
end
/-! ### fields, calls -/
structure FD where
  nm : Str
  many : Bool
  need : Bool
deriving DecidableEq
structure CD where
  nm : Str
  hand : Str
  moves : List Int
  deeds : List (Str × Str)
  same : List Str
deriving DecidableEq
def sortS (b : Bool) : Str := if b then "many" else "one"
section
variable {K : PySem.W.Frag}
def FdV (f : FD) : List V := [.str f.nm, .str (sortS f.many), .bl f.need]
def DeV (d : Str × Str) : List V := [.str d.1, .str d.2]
def FdA (K : PySem.W.Frag) (H : Hp) (v : V) (f : FD) : Prop := Sq K H v (FdV f)
def FdT (K : PySem.W.Frag) (H : Hp) (v : V) (f : FD) : Prop := Tu K H v (FdV f)
def DeA (K : PySem.W.Frag) (H : Hp) (v : V) (d : Str × Str) : Prop := Sq K H v (DeV d)
def DeT (K : PySem.W.Frag) (H : Hp) (v : V) (d : Str × Str) : Prop := Tu K H v (DeV d)
def CdA (K : PySem.W.Frag) (H : Hp) (v : V) (c : CD) : Prop := ∃ m d s ds, Sq K H v [.str c.nm, .str c.hand, m, d, s] ∧ Sq K H m (c.moves.map V.int) ∧ Sq K H d ds ∧ Al (DeA K H) ds c.deeds ∧ Sq K H s (c.same.map V.str)
def CdT (K : PySem.W.Frag) (H : Hp) (v : V) (c : CD) : Prop := ∃ m d s ds, Tu K H v [.str c.nm, .str c.hand, m, d, s] ∧ Tu K H m (c.moves.map V.int) ∧ Tu K H d ds ∧ Al (DeT K H) ds c.deeds ∧ Tu K H s (c.same.map V.str)
theorem FdA.keep {H H' : Hp} {v : V} {f : FD} (e : Same H H') (h : FdA K H v f) : FdA K H' v f := Sq.keep e h
theorem FdT.keep {H H' : Hp} {v : V} {f : FD} (e : Same H H') (h : FdT K H v f) : FdT K H' v f := Tu.keep e h
theorem DeA.keep {H H' : Hp} {v : V} {f : Str × Str} (e : Same H H') (h : DeA K H v f) : DeA K H' v f := Sq.keep e h
theorem DeT.keep {H H' : Hp} {v : V} {f : Str × Str} (e : Same H H') (h : DeT K H v f) : DeT K H' v f := Tu.keep e h
theorem CdA.keep {H H' : Hp} {v : V} {c : CD} (e : Same H H') (h : CdA K H v c) : CdA K H' v c := by
  obtain ⟨m, d, s, ds, h1, h2, h3, h4, h5⟩ := h
  exact ⟨m, d, s, ds, h1.keep e, h2.keep e, h3.keep e, h4.mono fun _ _ h => DeA.keep e h, h5.keep e⟩
theorem CdT.keep {H H' : Hp} {v : V} {c : CD} (e : Same H H') (h : CdT K H v c) : CdT K H' v c := by
  obtain ⟨m, d, s, ds, h1, h2, h3, h4, h5⟩ := h
  exact ⟨m, d, s, ds, h1.keep e, h2.keep e, h3.keep e, h4.mono fun _ _ h => DeT.keep e h, h5.keep e⟩
theorem FdT.a {H : Hp} {v : V} {f : FD} (h : FdT K H v f) : FdA K H v f := Tu.sq h
theorem DeT.a {H : Hp} {v : V} {f : Str × Str} (h : DeT K H v f) : DeA K H v f := Tu.sq h
theorem CdT.a {H : Hp} {v : V} {c : CD} (h : CdT K H v c) : CdA K H v c := by
  obtain ⟨m, d, s, ds, h1, h2, h3, h4, h5⟩ := h
  exact ⟨m, d, s, ds, h1.sq, h2.sq, h3.sq, h4.mono fun _ _ h => DeT.a h, h5.sq⟩
end
/-! ### what makes them a kind -/
def letterB (c : Nat) : Bool := decide (97 ≤ c) && decide (c ≤ 122)
def wordB (z : Str) : Bool := decide (1 ≤ z.cps.size) && decide (z.cps.size ≤ 8) && z.cps.toList.all letterB
def deedSorts (z : Str) : List Bool :=
  if z = "set" then [false] else if z = "add" then [true] else if z = "strike" then [true] else if z = "fresh" then [true] else if z = "clear" then [false, true] else []
def worded (ds : List (Str × Str)) : List Str := (ds.filter fun d => decide (d.1 = ("add" : Str)) || decide (d.1 = ("strike" : Str))).map (·.2)
structure FsOk (fs : List FD) : Prop where
  pos : 1 ≤ fs.length
  le : fs.length ≤ 3
  word : ∀ f ∈ fs, wordB f.nm = true
  nd : (fs.map (·.nm)).Nodup
structure CdOk (fs : List FD) (n : Nat) (c : CD) : Prop where
  word : wordB c.nm = true
  hand : c.hand = "self" ∨ c.hand = "new" ∨ c.hand = "last"
  len : c.moves.length = n
  move : ∀ m ∈ c.moves, -1 ≤ m ∧ m < n
  deeds : c.deeds.length ≤ 4
  deed : ∀ d ∈ c.deeds, ∃ f ∈ fs, f.nm = d.2 ∧ f.many ∈ deedSorts d.1
  once : (worded c.deeds).Nodup
  same : ∀ x ∈ c.same, ∃ f ∈ fs, f.nm = x ∧ f.many = true
  self : c.hand = "self" → c.same = []
  nd : c.same.Nodup
structure KdOk (fs : List FD) (n : Nat) (cs : List CD) : Prop where
  fields : FsOk fs
  pos : 1 ≤ n
  le : n ≤ 4
  cpos : 1 ≤ cs.length
  cle : cs.length ≤ 6
  calls : ∀ c ∈ cs, CdOk fs n c
  nd : (cs.map (·.nm)).Nodup
def DeOk (fs : List FD) (d : Str × Str) : Prop := ∃ f ∈ fs, f.nm = d.2 ∧ f.many ∈ deedSorts d.1
theorem worded_snoc (ds : List (Str × Str)) (d : Str × Str) : worded (ds ++ [d]) = worded ds ++ (if d.1 = ("add" : Str) ∨ d.1 = ("strike" : Str) then [d.2] else []) := by
  unfold worded
  rw [List.filter_append, List.map_append]
  congr 1
  by_cases h : d.1 = ("add" : Str) ∨ d.1 = ("strike" : Str)
  · rw [if_pos h]
    rcases h with h | h <;> simp [h]
  · rw [if_neg h]
    rw [not_or] at h
    simp [h.1, h.2]
/-- a list that may be changed -/
def Ls (H : Hp) (v : V) (xs : List V) : Prop := ∃ a, v = .ref a ∧ H a = some (.lst xs)
theorem Ls.sq {K : PySem.W.Frag} {H : Hp} {v : V} {xs : List V} (h : Ls H v xs) : Sq K H v xs := by
  obtain ⟨a, e, h⟩ := h
  exact ⟨a, e, .inl (SqL.of h)⟩
theorem Ls.keep {H H' : Hp} {v : V} {xs : List V} (e : Same H H') (h : Ls H v xs) : Ls H' v xs := by
  obtain ⟨a, r, h⟩ := h
  exact ⟨a, r, e _ _ h⟩
/-- a call as the laws draw them: a tuple with lists in it -/
def CdL (K : PySem.W.Frag) (H : Hp) (v : V) (c : CD) : Prop := ∃ m d s ds, Tu K H v [.str c.nm, .str c.hand, m, d, s] ∧ Ls H m (c.moves.map V.int) ∧ Ls H d ds ∧ Al (DeT K H) ds c.deeds ∧ Ls H s (c.same.map V.str)
theorem CdL.keep {K : PySem.W.Frag} {H H' : Hp} {v : V} {c : CD} (e : Same H H') (h : CdL K H v c) : CdL K H' v c := by
  obtain ⟨m, d, s, ds, h1, h2, h3, h4, h5⟩ := h
  exact ⟨m, d, s, ds, h1.keep e, h2.keep e, h3.keep e, h4.mono fun _ _ h => DeT.keep e h, h5.keep e⟩
theorem CdL.a {K : PySem.W.Frag} {H : Hp} {v : V} {c : CD} (h : CdL K H v c) : CdA K H v c := by
  obtain ⟨m, d, s, ds, h1, h2, h3, h4, h5⟩ := h
  exact ⟨m, d, s, ds, h1.sq, h2.sq, h3.sq, h4.mono fun _ _ h => DeT.a h, h5.sq⟩
/-- the modes that are drawn from -/
def smV (far : Int) (m : Nat) : List V := (List.replicate 3 (rgV 0 far)).flatten ++ (List.replicate m [V.int (-1)]).flatten
theorem rgV_mem {far : Int} {x : V} (h : x ∈ rgV 0 far) : ∃ z : Int, x = .int z ∧ 0 ≤ z ∧ z < far := by
  unfold rgV at h
  obtain ⟨i, hi, rfl⟩ := List.mem_map.mp h
  rw [List.mem_range] at hi
  exact ⟨_, rfl, by omega, by omega⟩
theorem smV_mem {far : Int} {m : Nat} {x : V} (hf : 0 < far) (h : x ∈ smV far m) : ∃ z : Int, x = .int z ∧ -1 ≤ z ∧ z < far := by
  unfold smV at h
  rcases List.mem_append.mp h with h | h
  · obtain ⟨l, hl, hx⟩ := List.mem_flatten.mp h
    obtain ⟨_, rfl⟩ := List.mem_replicate.mp hl
    obtain ⟨z, e, h0, h1⟩ := rgV_mem hx
    exact ⟨z, e, by omega, h1⟩
  · obtain ⟨l, hl, hx⟩ := List.mem_flatten.mp h
    obtain ⟨_, rfl⟩ := List.mem_replicate.mp hl
    exact ⟨-1, List.mem_singleton.mp hx, by omega, by omega⟩
theorem smV_len {far : Int} {m : Nat} (hf : 0 < far) : (smV far m).length = 3 * far.toNat + m := by
  unfold smV
  have h3 : (List.replicate 3 (rgV 0 far)).flatten.length = 3 * far.toNat := by
    show (rgV 0 far ++ (rgV 0 far ++ (rgV 0 far ++ []))).length = _
    rw [List.length_append, List.length_append, List.length_append, rgV_length]
    show (far - 0).toNat + ((far - 0).toNat + ((far - 0).toNat + 0)) = _
    rw [Int.sub_zero]
    omega
  have h4 : ∀ k : Nat, (List.replicate k [V.int (-1)]).flatten.length = k := fun k => by
    induction k with
    | zero => rfl
    | succ k ih =>
      rw [List.replicate_succ, List.flatten_cons, List.length_append, ih]
      show 1 + k = k + 1
      omega
  rw [List.length_append, h3, h4]
/-! ### texts, deep ones -/
theorem dp_strs {K : PySem.W.Frag} {H : Hp} : ∀ zs : List Str, DpAll K H (zs.map V.str) (zs.map PyData.str)
  | [] => .nil
  | z :: zs => .cons (.str z) (dp_strs zs)
theorem strs_lay : ∀ zs : List Str, (∀ z ∈ zs, PyData.strOk z = true) → PyData.canLayAll0 (zs.map PyData.str) = true
  | [], _ => rfl
  | z :: zs, h => by
    rw [List.map_cons]
    unfold PyData.canLayAll0 PyData.canLay0
    rw [h z (List.mem_cons_self ..), Bool.true_and]
    exact strs_lay zs fun y hy => h y (List.mem_cons_of_mem _ hy)
theorem strs_depth : ∀ zs : List Str, PyData.depthAll (zs.map PyData.str) = 0
  | [] => rfl
  | z :: zs => by
    rw [List.map_cons]
    unfold PyData.depthAll
    rw [strs_depth zs]
    rfl
theorem strs_shaped (zs : List Str) (h : ∀ z ∈ zs, PyData.strOk z = true) : SeqAt.shaped (.list (zs.map PyData.str)) = true := by
  have h1 : PyData.canLay0 (.list (zs.map PyData.str)) = true := by
    unfold PyData.canLay0
    exact strs_lay zs h
  have h2 : PyData.depth (.list (zs.map PyData.str)) ≤ 64 := by
    unfold PyData.depth
    rw [strs_depth zs]
    decide
  unfold SeqAt.shaped
  rw [h1, decide_eq_true h2]
  rfl
theorem eqv_nil (zs : List Str) : PyData.eqv (.list (zs.map PyData.str)) (.list []) = zs.isEmpty := by
  cases zs <;> simp [PyData.eqv, PyData.eqvAll]
end MK
set_option Elab.async false
set_option linter.all false
set_option autoImplicit false
set_option maxRecDepth 100000
set_option maxHeartbeats 4000000
/-! set(texts), the texts distinct; len(set(texts)) -/
namespace MK
open PySem PySem.Spec PyProof.Rows L2
theorem take_next {zs : List Str} {i : Nat} (hi : i < zs.length) (y : Str) : decide (y ∈ zs.take (i + 1)) = (decide (y ∈ zs.take i) || decide (y = zs.getD i Str.empty)) := by
  have e : zs.take (i + 1) = zs.take i ++ [zs.getD i Str.empty] := by
    rw [List.take_add_one, List.getElem?_eq_getElem hi, List.getD_eq_getElem?_getD, List.getElem?_eq_getElem hi]
    rfl
  rw [e, Bool.eq_iff_iff]
  simp
theorem not_ahead {zs : List Str} {i : Nat} (nd : zs.Nodup) (hi : i < zs.length) : zs.getD i Str.empty ∉ zs.take i := by
  rw [List.getD_eq_getElem?_getD, List.getElem?_eq_getElem hi]
  intro m
  obtain ⟨j, hj⟩ := List.mem_iff_getElem?.mp m
  rw [List.getElem?_take] at hj
  split at hj
  · rename_i lt
    have hjl : j < zs.length := by omega
    rw [List.getElem?_eq_getElem hjl] at hj
    exact (List.pairwise_iff_getElem.mp nd j i hjl hi lt) (Option.some.inj hj)
  · cases hj
section
variable {prog : Program} {w : World} {A : Around} {R : Result → Shared → Prop} {I S : Addr} {fp wr : List Addr} {G : Array GenState → Array GenState → Prop} {n : Nat} {P : Nat → Value → Prop} {St : Nat → Shared → Prop} {zs : List Str}
theorem all_added (W : WalksS prog w A.in1 I fp wr G n P St) (off : S ∉ fp) (len : zs.length = n) (nd : zs.Nodup) (few : n < 1000) (at_ : ∀ i v, P i v → ∃ t, v = .str (zs.getD i Str.empty) t) :
    ∀ (left i : Nat) (s : Shared), i + left = n → St i s → s.heap.SetOf (strKind prog w) S (fun y => decide (y ∈ zs.take i)) i →
      (∀ s1, Moved (S :: wr) G s s1 → s1.heap.SetOf (strKind prog w) S (fun y => decide (y ∈ zs)) n → R (.ok (.ret .none)) s1) → codeAny (model prog w) A (.builtin "set.update.loop" ⟨[.ref S, .ref I], []⟩) R s := by
  intro left
  have off2 : S ∉ wr := fun m => off (W.sub _ m)
  induction left with
  | zero =>
    intro i s e st so k
    obtain rfl : i = n := e
    refine codeAny_builtin PyProof.Rows.F.entry_set_update_loop ?_
    rw [Around.under_plainId PyProof.Rows.F.plain_set_update_loop _]
    refine wpAny_bind (W.done s _ _ st fun s1 mv => wpAny_pure (k s1 (mv.mono fun b m => List.mem_cons_of_mem _ m) ?_))
    obtain ⟨o, es, ep, t, g, more⟩ := so
    have so1 : s1.heap.SetOf (strKind prog w) S (fun y => decide (y ∈ zs.take i)) i := ⟨o, es, ep, t, mv.heap S _ off2 g, more⟩
    rw [← len, List.take_length] at so1
    rw [← len]
    exact so1
  | succ left ih =>
    intro i s e st so k
    have lt : i < n := by omega
    have ltz : i < zs.length := by omega
    refine codeAny_builtin PyProof.Rows.F.entry_set_update_loop ?_
    rw [Around.under_plainId PyProof.Rows.F.plain_set_update_loop _]
    refine wpAny_bind (W.item i s _ _ lt st fun v s1 pv st1 mv => ?_)
    obtain ⟨t, rfl⟩ := at_ i v pv
    have so1 : s1.heap.SetOf (strKind prog w) S (fun y => decide (y ∈ zs.take i)) i := by
      obtain ⟨o, es, ep, tb, g, more⟩ := so
      exact ⟨o, es, ep, tb, mv.heap S _ off2 g, more⟩
    refine wpAny_bind (wpAny_holding ?_)
    unfold setAdd
    refine wpAny_holding (wpAny_bind ((strKind prog w).pyHash (k := zs.getD i Str.empty) (strKind_is _ _ _ _) ?_))
    refine wpAny_setAddHashed_of (knd := strKind prog w) (s := { s1 with toks := s1.toks + 1 }) (strKind_is _ _ _ _) rfl so1 (by unfold scanBound; omega) fun h2 only so2 => ?_
    have so3 : h2.SetOf (strKind prog w) S (fun y => decide (y ∈ zs.take (i + 1))) (i + 1) := by
      refine SetOf_congr so2 (fun y => (take_next ltz y).symm) ?_
      rw [decide_eq_false (not_ahead nd ltz)]
      rfl
    have keep : ∀ b, b ≠ S → ∀ o, s1.heap.get? b = some o → h2.get? b = some o := fun b ne o g => by
      rw [only.2 b ne]
      exact g
    refine wpAny_pure ⟨plainId_quiet PyProof.Rows.F.plain_set_update_loop _, ih (i + 1) _ (by omega) (W.frame _ s1 _ _ st1 (Nat.le_succ _) fun b m o g => keep b (fun q => off (q ▸ m)) o g) so3 fun s3 mv3 so4 => ?_⟩
    exact k s3 (Moved.trans W.gtrans ((mv.mono fun b m => List.mem_cons_of_mem _ m).then_heap (Nat.le_succ _) fun b o m g => keep b (fun q => m (by rw [q]; exact List.mem_cons_self)) o g) mv3) so4
end
section
variable {prog : Program} {w : World} {A : Around} {E : Value → Shared → Prop} {s : Shared} {l : Addr} {its : Array Value} {zs : List Str}
/-- a new set -/
def set0 (led : Bool) : Obj := { cls := .type "set", dict := none, data := .set #[] 0 (.fresh 0 0 led) }
def newS (s : Shared) (led : Bool) : Shared := { s with heap := s.heap.push (set0 led) }
/-- what set(texts) leaves -/
def Laid (prog : Program) (w : World) (s : Shared) (zs : List Str) (h : Heap) : Prop := h.SetOf (strKind prog w) s.heap.objs.size (fun y => decide (y ∈ zs)) zs.length ∧ ∀ b o, b < s.heap.objs.size → s.heap.get? b = some o → h.get? b = some o
theorem set_texts {Q : Value → Shared → Prop} (calm : A.handled = none) (hl : s.heap.IsList l its) (hz : StrsAre its.toList zs) (nd : zs.Nodup) (few : zs.length < 1000)
    (k : ∀ (h : Heap) (tk : Nat), Laid prog w s zs h → Q (.ref s.heap.objs.size) { s with heap := h, toks := tk }) : wpAny (model prog w) A (call (.type "set") [.ref l]) Q E s := by
  obtain ⟨c, tl, hmro⟩ := PySem.F.called_set.mro
  have m1 := PySem.F.called_set.made
  have m2 := PySem.F.called_set.sub
  refine wpAny_call (codeAny_of_tree (show wpAny _ _ (callAny (.type "set") _) _ _ _ from ?_))
  refine wpAny_pure ⟨Code.quiet_builtin _ (by decide +kernel), codeAny_builtin PySem.F.entry_type_call ?_⟩
  rw [Around.under_plain (weight_type_call_type "set" [.ref l] []) rfl]
  have m3 := PySem.F.called_set.notType
  have m4 := PySem.F.called_set.canCreate
  have m5 := PySem.F.typeCall_set_1 (.ref l)
  repeat (any_goals (first | assumption | wp_step))
  refine codeAny_mono (code_set_new_1 (.ref l) (E := E) (Q₁ := fun v s1 => ∃ led : Bool, v = .ref s.heap.objs.size ∧ s1 = newS s led) fun led => ⟨led, rfl, rfl⟩) fun r s1 hr => ?_
  cases r with
  | error e => exact hr
  | ok fl =>
    cases fl with
    | next => exact hr.elim
    | brk => exact hr.elim
    | cont => exact hr.elim
    | ret v =>
      obtain ⟨led, rfl, rfl⟩ := hr
      have at0 : (s.heap.push (set0 led)).get? s.heap.objs.size = some (set0 led) := Heap.get?_push_size _ rfl
      have ty0 : Shared.TypeIs (newS s led) (.ref s.heap.objs.size) "set" := ⟨_, at0, rfl⟩
      have m6 := PySem.F.called_set.init.lookup
      have m7 := PySem.F.called_set.init.bind (.ref s.heap.objs.size)
      unfold newS at ty0 ⊢
      repeat (any_goals (first | assumption | wp_step))
      refine codeAny_mono (codeAny_call_builtin (R := wants (fun v s2 => v = .none ∧ ∃ h tk, s2 = { s with heap := h, toks := tk } ∧ Laid prog w s zs h) E) PySem.F.called_set.init.plain PySem.F.entry_set_init (check_set_init_1 ty0 ?_)) fun r2 s2 h2 => ?_
      · obtain ⟨⟨cl, di, da, sl⟩, g, rfl, nl, rfl⟩ := hl
        have g0 : (s.heap.push (set0 led)).get? l = some { cls := .type "list", dict := di, data := .seq its nl, slots := sl } := Heap.get?_push_of_some _ g
        have n1 := PySem.F.sub_list_set
        have n2 := PySem.F.sub_list_frozenset
        have n3 : (Value.type "list" == Value.type "dict") = false := by decide
        have l0 : (s.heap.push (set0 led)).IsList l its := ⟨_, g0, rfl, nl, rfl⟩
        unfold Builtin.«set.__init__» noKeywords Builtin.Frozenset.updateFrom
        generalize hit : pyIter = it
        wp_walk
        subst hit
        refine wpAny_pyIter_list l0 (wpAny_bind (wpAny_runValue ?_))
        have below : l < s.heap.objs.size := Heap.lt_size g
        have sz : (s.heap.push (set0 led)).objs.size = s.heap.objs.size + 1 := Heap.size_push ..
        have d1 : l ≠ (s.heap.push (set0 led)).objs.size := Nat.ne_of_lt (by rw [sz]; exact Nat.lt_succ_of_lt below)
        have d2 : s.heap.objs.size ∉ [(s.heap.push (set0 led)).objs.size, l] := by
          rw [sz]
          intro m
          rcases List.mem_cons.mp m with e | m
          · omega
          · exact absurd (List.mem_singleton.mp m) (Nat.ne_of_gt below)
        have lz : zs.length = its.size := by rw [← StrsAre.len_eq hz, Array.length_toList]
        refine all_added (S := s.heap.objs.size) ((Walks.list (by simp [calm]) _ l d1 its).toS) d2 lz nd (by omega) (fun i v e => SS.strs_at hz i v (by rw [Array.getElem?_toList]; exact e)) its.size 0 _ (Nat.zero_add _)
          ⟨⟨_, Heap.get?_push_size _ rfl, rfl, rfl⟩, l0.push _⟩ ?_ ?_
        · have g1 := Heap.get?_push_of_some { cls := .type "list_iterator", data := .fields #[.ref l, .int 0 0] } at0
          exact SetOf_congr ((setObjOf_fresh (knd := strKind prog w) led).setOf g1 (by unfold scanBound; omega)) (fun _ => rfl) rfl
        · rintro ⟨h, g', d', tk, os'⟩ mv so
          obtain rfl : g' = s.gens := mv.gens
          obtain rfl : d' = s.drawn := mv.drawn
          obtain rfl : os' = s.os := mv.os
          refine wpAny_pure (wpAny_pure ⟨rfl, h, tk, rfl, by rw [lz]; exact so, fun b o lt e => ?_⟩)
          refine mv.heap b o (fun m => ?_) (Heap.get?_push_of_some _ (Heap.get?_push_of_some _ e))
          rcases List.mem_cons.mp m with q | m
          · exact Nat.ne_of_lt lt q
          · rcases List.mem_cons.mp m with q | m
            · rw [sz] at q
              exact Nat.ne_of_lt (Nat.lt_succ_of_lt lt) q
            · cases m
      · cases r2 with
        | error e => exact h2
        | ok fl =>
          cases fl with
          | next => exact h2.elim
          | brk => exact h2.elim
          | cont => exact h2.elim
          | ret v =>
            obtain ⟨rfl, h, tk, rfl, laid⟩ := h2
            repeat (any_goals (first | assumption | wp_step))
            exact k h _ laid
end
end MK
set_option Elab.async false
set_option linter.all false
set_option autoImplicit false
set_option maxRecDepth 100000
set_option maxHeartbeats 4000000
namespace MK
open PySem PySem.Spec PyProof.Rows L2
section
variable {prog : Program} {w : World} {A : Around} {E : Value → Shared → Prop} {s : Shared} {l : Addr} {its : Array Value} {zs : List Str}
theorem set_textsT {Q : Value → Shared → Prop} (calm : A.handled = none) (hl : s.heap.IsTuple l its) (hz : StrsAre its.toList zs) (nd : zs.Nodup) (few : zs.length < 1000)
    (k : ∀ (h : Heap) (tk : Nat), Laid prog w s zs h → Q (.ref s.heap.objs.size) { s with heap := h, toks := tk }) : wpAny (model prog w) A (call (.type "set") [.ref l]) Q E s := by
  obtain ⟨c, tl, hmro⟩ := PySem.F.called_set.mro
  have m1 := PySem.F.called_set.made
  have m2 := PySem.F.called_set.sub
  refine wpAny_call (codeAny_of_tree (show wpAny _ _ (callAny (.type "set") _) _ _ _ from ?_))
  refine wpAny_pure ⟨Code.quiet_builtin _ (by decide +kernel), codeAny_builtin PySem.F.entry_type_call ?_⟩
  rw [Around.under_plain (weight_type_call_type "set" [.ref l] []) rfl]
  have m3 := PySem.F.called_set.notType
  have m4 := PySem.F.called_set.canCreate
  have m5 := PySem.F.typeCall_set_1 (.ref l)
  repeat (any_goals (first | assumption | wp_step))
  refine codeAny_mono (code_set_new_1 (.ref l) (E := E) (Q₁ := fun v s1 => ∃ led : Bool, v = .ref s.heap.objs.size ∧ s1 = newS s led) fun led => ⟨led, rfl, rfl⟩) fun r s1 hr => ?_
  cases r with
  | error e => exact hr
  | ok fl =>
    cases fl with
    | next => exact hr.elim
    | brk => exact hr.elim
    | cont => exact hr.elim
    | ret v =>
      obtain ⟨led, rfl, rfl⟩ := hr
      have at0 : (s.heap.push (set0 led)).get? s.heap.objs.size = some (set0 led) := Heap.get?_push_size _ rfl
      have ty0 : Shared.TypeIs (newS s led) (.ref s.heap.objs.size) "set" := ⟨_, at0, rfl⟩
      have m6 := PySem.F.called_set.init.lookup
      have m7 := PySem.F.called_set.init.bind (.ref s.heap.objs.size)
      unfold newS at ty0 ⊢
      repeat (any_goals (first | assumption | wp_step))
      refine codeAny_mono (codeAny_call_builtin (R := wants (fun v s2 => v = .none ∧ ∃ h tk, s2 = { s with heap := h, toks := tk } ∧ Laid prog w s zs h) E) PySem.F.called_set.init.plain PySem.F.entry_set_init (check_set_init_1 ty0 ?_)) fun r2 s2 h2 => ?_
      · obtain ⟨⟨cl, di, da, sl⟩, g, rfl, nl, rfl⟩ := hl
        have g0 : (s.heap.push (set0 led)).get? l = some { cls := .type "tuple", dict := di, data := .seq its nl, slots := sl } := Heap.get?_push_of_some _ g
        have n1 := PySem.F.sub_tuple_set
        have n2 := PySem.F.sub_tuple_frozenset
        have n3 : (Value.type "tuple" == Value.type "dict") = false := by decide
        have l0 : (s.heap.push (set0 led)).IsTuple l its := ⟨_, g0, rfl, nl, rfl⟩
        unfold Builtin.«set.__init__» noKeywords Builtin.Frozenset.updateFrom
        generalize hit : pyIter = it
        wp_walk
        subst hit
        refine wpAny_pyIter_tuple l0 (wpAny_bind (wpAny_runValue ?_))
        have below : l < s.heap.objs.size := Heap.lt_size g
        have sz : (s.heap.push (set0 led)).objs.size = s.heap.objs.size + 1 := Heap.size_push ..
        have d1 : l ≠ (s.heap.push (set0 led)).objs.size := Nat.ne_of_lt (by rw [sz]; exact Nat.lt_succ_of_lt below)
        have d2 : s.heap.objs.size ∉ [(s.heap.push (set0 led)).objs.size, l] := by
          rw [sz]
          intro m
          rcases List.mem_cons.mp m with e | m
          · omega
          · exact absurd (List.mem_singleton.mp m) (Nat.ne_of_gt below)
        have lz : zs.length = its.size := by rw [← StrsAre.len_eq hz, Array.length_toList]
        refine all_added (S := s.heap.objs.size) ((Walks.tuple (by simp [calm]) _ l d1 its).toS) d2 lz nd (by omega) (fun i v e => SS.strs_at hz i v (by rw [Array.getElem?_toList]; exact e)) its.size 0 _ (Nat.zero_add _)
          ⟨⟨_, Heap.get?_push_size _ rfl, rfl, rfl⟩, l0.push _⟩ ?_ ?_
        · have g1 := Heap.get?_push_of_some { cls := .type "tuple_iterator", data := .fields #[.ref l, .int 0 0] } at0
          exact SetOf_congr ((setObjOf_fresh (knd := strKind prog w) led).setOf g1 (by unfold scanBound; omega)) (fun _ => rfl) rfl
        · rintro ⟨h, g', d', tk, os'⟩ mv so
          obtain rfl : g' = s.gens := mv.gens
          obtain rfl : d' = s.drawn := mv.drawn
          obtain rfl : os' = s.os := mv.os
          refine wpAny_pure (wpAny_pure ⟨rfl, h, tk, rfl, by rw [lz]; exact so, fun b o lt e => ?_⟩)
          refine mv.heap b o (fun m => ?_) (Heap.get?_push_of_some _ (Heap.get?_push_of_some _ e))
          rcases List.mem_cons.mp m with q | m
          · exact Nat.ne_of_lt lt q
          · rcases List.mem_cons.mp m with q | m
            · rw [sz] at q
              exact Nat.ne_of_lt (Nat.lt_succ_of_lt lt) q
            · cases m
      · cases r2 with
        | error e => exact h2
        | ok fl =>
          cases fl with
          | next => exact h2.elim
          | brk => exact h2.elim
          | cont => exact h2.elim
          | ret v =>
            obtain ⟨rfl, h, tk, rfl, laid⟩ := h2
            repeat (any_goals (first | assumption | wp_step))
            exact k h _ laid
end
/-- len(set(xs)), xs a list or tuple of distinct texts -/
def tLenS (K : PySem.W.Frag) (ta : TE) : TE := fun σ H Q => ta σ H fun x H1 => ∃ zs : List Str, Sq K H1 x (zs.map V.str) ∧ zs.Nodup ∧ zs.length < 1000 ∧ Q (.int zs.length) H1
theorem pe_lenS {X : Cx} {a : Expr} {ta : TE} {p p2 q pos : Pos} (hc : X.calm = true) (hg : Gl X "len") (hm : X.mg "len" = none) (hg2 : Gl X "set") (hm2 : X.mg "set" = none) (ha : PE X a ta)
    (na : starEach [a] X.env = (false, eval a X.env) :: starEach [] X.env := by rfl) : PE X (.Call (.Name "len" p) [.Call (.Name "set" p2) [a] [] q] [] pos) (tLenS X.K ta) := by
  refine ⟨fun pins s σ H Q I h => Call_ (ld_blt I hg hm boot_len (callWith_builtin1 (args_cons (Call_ (ld_blt I hg2 hm2 boot_set ?_)) rfl) rfl rfl))⟩
  refine callWith_type1 (args_cons (thn (ha.run pins s σ H _ I h) fun v s1 ⟨x, H1, I1, r1, zs, ⟨l, e, sq⟩, nd, few, q⟩ => args_nil ?_) na) na rfl
  subst e
  cases r1
  have fin : ∀ (h : Heap) (tk : Nat), Laid X.prog X.w s1 zs h → wpAny (model X.prog X.w) X.A (spliced (backTo pos (starEach [] X.env)))
      (fun vs s2 => wpAny (model X.prog X.w) X.A (call (.builtin "len") (Value.ref s1.heap.objs.size :: vs)) (EP X pins σ Q) X.xe s2) X.xe { s1 with heap := h, toks := tk } := fun h tk ⟨so, kp⟩ => by
    obtain ⟨o, es, ep, t, g, ex, hd, _, _, _, fits, cnt⟩ := so
    have I2 : Inv X pins σ H1 { s1 with heap := h, toks := tk } := I1.kept fun b o e => kp b o (Heap.lt_size e) e
    exact args_nil (call_len_set g ex hd fits (by rw [cnt] <;> omega) ⟨.int zs.length, H1, I2.tok _, ⟨_, by rw [cnt]⟩, q⟩)
  rcases sq with sq | sq
  · obtain ⟨us, r, pl, _⟩ := I1.list sq
    exact set_texts (I1.ok.hd hc) pl.isList (by simpa using strsAre_of r) nd few fin
  · obtain ⟨us, r, pl, _⟩ := I1.tuple sq
    exact set_textsT (I1.ok.hd hc) pl (by simpa using strsAre_of r) nd few fin
end MK
set_option Elab.async false
set_option linter.all false
set_option autoImplicit false
set_option maxRecDepth 100000
set_option maxHeartbeats 4000000
namespace MK
open PySem PySem.Spec PyProof.Rows L2
/-- a constant of the module -/
theorem pe_cst {X : Cx} {x : Str} {pos : Pos} {v : V} (hg : Gl X x) (h : ∃ u, X.mg x = some u ∧ RelV v u) (hd : (x == ("__debug__" : Str)) = false := by decide) : PE X (.Name x pos) (tC v) := by
  obtain ⟨u, m, r⟩ := h
  exact pe_glob hg m r hd
theorem any_two {K : PySem.W.Frag} {t a b : String} {r1 r2 : Bool} (h1 : kitB t a = some r1) (h2 : kitB t b = some r2) : PySem.W.kitAny K (.type t) [.type a, .type b] = some (r1 || r2) := by
  refine kitAny_cons (kit_ty h1) (fun e => ?_) (fun e => by rw [e]; rfl)
  refine kitAny_cons (kit_ty h2) (fun e2 => ?_) (fun e2 => by rw [e2, Bool.or_true])
  rw [e, e2]
  rfl
/-- it is a list or a tuple -/
theorem sq_ty {K : PySem.W.Frag} {H : Hp} {a : Addr} {xs : List V} (h : SqL K H a xs ∨ SqT K H a xs) : ∃ t, TyX K H (.ref a) (.type t) ∧ PySem.W.kitAny K (.type t) [.type "list", .type "tuple"] = some true := by
  rcases h with h | h
  · exact ⟨"list", tyx_l h, any_two (r1 := true) (r2 := false) (by decide +kernel) (by decide +kernel)⟩
  · exact ⟨"tuple", tyx_t h, any_two (r1 := false) (r2 := true) (by decide +kernel) (by decide +kernel)⟩
/-- (a, b, ..) = a list or a tuple of that length -/
def gSq (K : PySem.W.Frag) (n : Nat) (t : TGs) : TG := fun v σ H Q => ∃ xs, Sq K H v xs ∧ xs.length = n ∧ t xs σ H Q
theorem pg_sq {X : Cx} {es : List Expr} {k : Nat} {t : TGs} {n : Nat} {pos : Pos} (hc : X.calm = true) (h : PGs X es t)
    (hn : (assignEach es X.env).length = n := by rfl) (hst : (assignEach es X.env).findIdx? (·.1) = none := by rfl) : PG X (.Tuple es k pos) (gSq X.K n t) := by
  refine ⟨fun pins s σ H v u Q I r ⟨xs, ⟨a, e, sq⟩, l, q⟩ => ?_⟩
  rcases sq with sq | sq
  · exact (pg_unl hc h hn hst).run pins s σ H v u Q I r ⟨a, xs, e, sq, l, q⟩
  · exact (pg_tup hc h hn hst).run pins s σ H v u Q I r ⟨a, xs, e, sq, l, q⟩
/-- what is walked is a list or a tuple, of which nothing changes on the way -/
def iSqS (K : PySem.W.Frag) (te : TE) : TI := fun σ H R => te σ H fun v H1 => ∃ (a : Addr) (xs : List V) (H0 : Hp), v = .ref a ∧ (SqL K H0 a xs ∨ SqT K H0 a xs) ∧ Same H0 H1 ∧
  ∀ (J : It) (G : Hp → Prop), Walk J xs.length G (YAt xs) → (∀ H', Same H0 H' → G H') → R J H1
def iEnS (K : PySem.W.Frag) (ta : TA) : TI := fun σ H R => ta σ H fun vs H1 => ∃ (a : Addr) (xs : List V) (H0 : Hp), vs = [.ref a] ∧ (SqL K H0 a xs ∨ SqT K H0 a xs) ∧ Same H0 H1 ∧
  ∀ (J : It) (G : Hp → Prop), Walk J xs.length G (YPair (fun i => some (.int (i : Nat))) (fun i => xs[i]?)) → (∀ H', Same H0 H' → G H') → R J H1
theorem pi_sqV {X : Cx} {tg e : Expr} {i : Nat} (h : PE X e (tVar i)) : PI X tg e (iSqS X.K (tVar i)) := by
  refine ⟨fun pins s σ H R I ⟨v, ev, a, xs, H0, r, sq, sm, k⟩ => ?_⟩
  subst r
  rcases sq with sq | sq
  · exact (pi_list h).run pins s σ H R I ⟨_, ev, a, rfl, ⟨xs, sm.seq sq⟩, k _ _ walk_list fun H' e' => e'.seq sq⟩
  · exact (pi_tup h).run pins s σ H R I ⟨_, ev, a, rfl, ⟨xs, same_t sm sq⟩, k _ _ walk_tup fun H' e' => same_t e' sq⟩
theorem pi_enV {X : Cx} {e : Expr} {i : Nat} {p pos tpos : Pos} {elts : List Expr} {kk : Nat} (hg : Gl X "enumerate") (hm : X.mg "enumerate" = none) (ha : PA X [e] (tCons (tVar i) tNil)) (hs : starEach [e] X.env = [(false, eval e X.env)] := by rfl) :
    PI X (.Tuple elts kk tpos) (.Call (.Name "enumerate" p) [e] [] pos) (iEnS X.K (tCons (tVar i) tNil)) := by
  refine ⟨fun pins s σ H R I ⟨v, ev, a, xs, H0, r, sq, sm, k⟩ => ?_⟩
  obtain ⟨rfl, _⟩ := List.cons.inj r
  rcases sq with sq | sq
  · exact (pi_enum hg hm ha hs).run pins s σ H R I ⟨_, ev, a, xs, rfl, sm.seq sq, k _ _ walk_enum fun H' e' => e'.seq sq⟩
  · exact (pi_enumT hg hm ha hs).run pins s σ H R I ⟨_, ev, a, xs, rfl, same_t sm sq, k _ _ walk_enumT fun H' e' => same_t e' sq⟩
theorem iteB {b : Bool} {A B : Prop} (e : b = false) (h : B) : if b = true then A else B := by
  subst e
  exact iteF h
theorem iteA {b : Bool} {A B : Prop} (e : b = true) (h : A) : if b = true then A else B := by
  subst e
  exact iteT h
/-- d[e], d a written dict of the module -/
def tKGet (K : PySem.W.Frag) (d : Addr) (td ty : TE) : TE := fun σ H Q => td σ H fun x H1 => ty σ H1 fun y H2 => ∃ (z : Str) (u0 : Value) (v0 : V), x = .ref d ∧ y = .str z ∧ PySem.W.nsIn K d z = some (some u0) ∧ RelV v0 u0 ∧ Q v0 H2
theorem pe_kget {X : Cx} {d : Addr} {es : Array DictEntry} {n : Nat} {o i : Expr} {pos : Pos} {td ty : TE} (D : KDict X.K X.w d es n) (ho : PE X o td) (hi : PE X i ty) (hs : NoSl i) : PE X (.Subscript o i pos) (tKGet X.K d td ty) := by
  refine ⟨fun pins s σ H Q I h => ?_⟩
  refine subD_of PySem.F.slot_dict_getitem.lookup hs (thn (ho.run pins s σ H _ I h) fun u s1 ⟨x, H1, I1, rx, q1⟩ => thn (hi.run pins s1 σ H1 _ I1 q1) fun iv s2 ⟨y, H2, I2, ry, z, u0, v0, ex, ey, eq, rv, q2⟩ => ?_)
  have rx' := rx
  rw [ex] at rx'
  obtain rfl : u = Value.ref d := rx'
  exact ⟨kd_type D I2, op_item_kd D pins s2 σ H2 x y _ iv Q I2 rx ry ⟨z, u0, v0, ex, ey, eq, rv, q2⟩⟩
/-- the dict of the sorts -/
def sortsV (fs : List FD) : List (Key × V) := fs.map fun f => (.inr f.nm, .str (sortS f.many))
theorem sorts_get : ∀ {fs : List FD}, (fs.map (·.nm)).Nodup → ∀ {f : FD}, f ∈ fs → valV (sortsV fs) (.inr f.nm) = some (.str (sortS f.many))
  | [], _, f, h => by cases h
  | g :: gs, nd, f, h => by
    rw [List.map_cons, List.nodup_cons] at nd
    rcases List.mem_cons.mp h with rfl | h
    · exact valV_pos rfl
    · have ne : ¬ g.nm = f.nm := fun e => nd.1 (e ▸ List.mem_map_of_mem h)
      show valV ((.inr g.nm, .str (sortS g.many)) :: sortsV gs) (.inr f.nm) = _
      rw [valV_neg (fun e => ne (Sum.inr.inj e))]
      exact sorts_get nd.2 h
theorem call_tuple_ofK {X : Cx} {K : PySem.W.Frag} (h : X.K = K) : CallR X (.type "tuple") (fun xs H Q => ∃ p ys, xs = [.ref p] ∧ ((SqL K H p ys ∧ ∀ l, H l = none → Q (.ref l) (upd H l (.tup ys))) ∨ (SqT K H p ys ∧ Q (.ref p) H))) := by subst h; exact call_tuple_of
theorem rd_tup {K : PySem.W.Frag} {s : Addr} {H : Hp} {x : V} {ys : List V} {Q : VK} (hs : H s ≠ none) (h : Sq K (Off s H) x ys) (q : ∀ v H', Same H H' → Tu K (Off s H') v ys → Q v H') :
    ∃ p zs, [x] = [.ref p] ∧ ((SqL K H p zs ∧ ∀ l, H l = none → Q (.ref l) (upd H l (.tup zs))) ∨ (SqT K H p zs ∧ Q (.ref p) H)) := by
  obtain ⟨p, rfl, h⟩ := h
  rcases h with h | h
  · refine ⟨p, ys, rfl, .inl ⟨off_same.seq h, fun l hl => q _ _ (same_new (Same.refl H) hl) (Tu.tup ?_)⟩⟩
    rw [off_ne (fun e : l = s => hs (by rw [← e]; exact hl)), upd_same]
  · exact ⟨p, ys, rfl, .inr ⟨same_t off_same h, q _ _ (Same.refl H) ⟨p, rfl, h⟩⟩⟩
theorem rd_tupM {K : PySem.W.Frag} {s : Addr} {H : Hp} {x : V} {ys : List V} (hs : H s ≠ none) (h : Sq K (Off s H) x ys) :
    ∃ p zs, [x] = [.ref p] ∧ ((SqL K H p zs ∧ ∀ l, H l = none → Same H (upd H l (.tup zs)) ∧ Tu K (Off s (upd H l (.tup zs))) (.ref l) ys) ∨ (SqT K H p zs ∧ Same H H ∧ Tu K (Off s H) (.ref p) ys)) :=
  rd_tup (Q := fun v H' => Same H H' ∧ Tu K (Off s H') v ys) hs h fun _ _ e t => ⟨e, t⟩
theorem ne_s {s d : Addr} {H H1 : Hp} (hs : H s ≠ none) (e : Same H H1) (h : H1 d = none) : d ≠ s := fun q => by
  cases z : H s with
  | none => exact hs z
  | some o => rw [q, e _ _ z] at h; cases h
theorem kept_s {s : Addr} {H H1 : Hp} (hs : H s ≠ none) (e : Same H H1) : H1 s ≠ none := by
  cases z : H s with
  | none => exact absurd z hs
  | some o => rw [e _ _ z]; exact nofun
theorem len_sub : ∀ {xs ys : List Str}, xs.Nodup → (∀ x ∈ xs, x ∈ ys) → xs.length ≤ ys.length
  | [], _, _, _ => Nat.zero_le _
  | x :: xs, ys, nd, h => by
    rw [List.nodup_cons] at nd
    have hx := h x (List.mem_cons_self ..)
    have := len_sub (ys := ys.erase x) nd.2 fun y hy => (List.mem_erase_of_ne (fun e : y = x => nd.1 (by rw [← e]; exact hy))).mpr (h y (List.mem_cons_of_mem _ hy))
    rw [List.length_erase_of_mem hx] at this
    have := List.length_pos_of_mem hx
    rw [List.length_cons]
    omega
theorem Tu.offL {K : PySem.W.Frag} {H : Hp} {v : V} {xs : List V} {d : Addr} {ys : List V} (h : Tu K H v xs) (hd : H d = some (.lst ys)) : Tu K (Off d H) v xs := by
  obtain ⟨b, rfl, h⟩ := h
  refine ⟨b, rfl, ?_⟩
  rcases h with (h | ⟨o, h⟩) | h
  · exact .inl (.inl ((off_ne (fun e => by rw [e, hd] at h; cases h)).trans h))
  · exact .inl (.inr ⟨o, (off_ne (fun e => by rw [e, hd] at h; cases h)).trans h⟩)
  · exact .inr h
/-- nothing that is a tuple -/
def NoTup (o : HO) : Prop := (∀ ys, o ≠ .tup ys) ∧ ∀ p ys, o ≠ .frz p (.tup ys)
theorem Tu.off {K : PySem.W.Frag} {H : Hp} {v : V} {xs : List V} {d : Addr} {o : HO} (h : Tu K H v xs) (hd : H d = some o) (no : NoTup o) : Tu K (Off d H) v xs := by
  obtain ⟨b, rfl, h⟩ := h
  refine ⟨b, rfl, ?_⟩
  rcases h with (h | ⟨p, h⟩) | h
  · exact .inl (.inl ((off_ne (fun e => by rw [e, hd] at h; exact no.1 _ (Option.some.inj h))).trans h))
  · exact .inl (.inr ⟨p, (off_ne (fun e => by rw [e, hd] at h; exact no.2 _ _ (Option.some.inj h))).trans h⟩)
  · exact .inr h
theorem CdT.off {K : PySem.W.Frag} {H : Hp} {v : V} {c : CD} {d : Addr} {o : HO} (h : CdT K H v c) (hd : H d = some o) (no : NoTup o) : CdT K (Off d H) v c := by
  obtain ⟨m, dv, s, ds, h1, h2, h3, h4, h5⟩ := h
  exact ⟨m, dv, s, ds, h1.off hd no, h2.off hd no, h3.off hd no, h4.mono fun _ _ h => Tu.off h hd no, h5.off hd no⟩
theorem no_lst {xs : List V} : NoTup (.lst xs) := ⟨fun _ h => HO.noConfusion h, fun _ _ h => HO.noConfusion h⟩
theorem no_ins {C dx : Addr} {fs : List (Str × V)} : NoTup (.ins C dx fs) := ⟨fun _ h => HO.noConfusion h, fun _ _ h => HO.noConfusion h⟩
theorem no_dK {kvs : List (Key × V)} : NoTup (.dK kvs) := ⟨fun _ h => HO.noConfusion h, fun _ _ h => HO.noConfusion h⟩
theorem same_offN {A B : Hp} {d : Addr} (e : Same A B) (h : A d = none) : Same A (Off d B) := fun b o hb => by
  rw [off_ne (fun q => by rw [q, h] at hb; cases hb)]
  exact e _ _ hb
/-- the i-th turn of a dict comprehension, over anything that is walked -/
theorem dc_it {J : It} {n : Nat} {G : Hp → Prop} {Y : Nat → Hp → V → Hp → Prop} (wk : Walk J n G Y) {g : TG} {tt : TT} {tk tv : TE} {vs : List Nat} {σ : L2.St} {H1 : Hp} {D : Addr} {Qd : Hp → Prop} (Pv : Nat → Hp → Prop) (h0 : Pv 0 (upd H1 D (.dK []))) (hG : ∀ i H, i ≤ n → Pv i H → G H)
    (hs : ∀ i x H H', i < n → Pv i H → Y i H x H' → g x (wipe σ vs) H' fun σ2 H2 => wipe σ2 vs = wipe σ vs ∧ tt σ2 H2 fun b H3 =>
      if b = true then tk σ2 H3 fun y H4 => tv σ2 H4 fun z H5 => ∃ kvs k, y = kV k ∧ H5 D = some (.dK kvs) ∧ kvs.length < sizeLine ∧ Pv (i + 1) (upd H5 D (.dK (putK kvs k z))) else Pv (i + 1) H3) (hd : ∀ H, Pv n H → Qd H) :
    ∃ W : Nat → Nat → Hp → Prop, (∃ m, W 0 m (upd H1 D (.dK []))) ∧ ∀ i m H, W i m H →
      (J.stop i H ∧ Qd H) ∨ (J.go i H ∧ ∃ Nx : Hp → Prop, (∀ H', Nx H' → ∃ m', m' < m ∧ W (i + 1) m' H') ∧ ∀ x H', J.yld i H x H' → g x (wipe σ vs) H' fun σ2 H2 => wipe σ2 vs = wipe σ vs ∧ tt σ2 H2 fun b H3 =>
        if b = true then tk σ2 H3 fun y H4 => tv σ2 H4 fun z H5 => ∃ kvs k, y = kV k ∧ H5 D = some (.dK kvs) ∧ kvs.length < sizeLine ∧ Nx (upd H5 D (.dK (putK kvs k z))) else Nx H3) := by
  refine ⟨fun i m H => m + i = n ∧ Pv i H, ⟨n, rfl, h0⟩, fun i m H ⟨e, p⟩ => ?_⟩
  cases m with
  | zero =>
    have e : i = n := by omega
    subst e
    exact .inl ⟨wk.stops _ (hG _ _ (Nat.le_refl _) p), hd _ p⟩
  | succ m =>
    have lt : i < n := by omega
    have gH := hG _ _ (Nat.le_of_lt lt) p
    exact .inr ⟨wk.goes _ _ lt gH, Pv (i + 1), fun H' p' => ⟨m, Nat.lt_succ_self m, by omega, p'⟩, fun x H' y => hs i x H H' lt p (wk.yields _ _ _ _ lt gH y)⟩
theorem putK_new {kvs : List (Key × V)} {k : Key} {v : V} (h : ∀ p ∈ kvs, p.1 ≠ k) : putK kvs k v = kvs ++ [(k, v)] := by
  unfold putK
  rw [if_neg]
  intro q
  obtain ⟨p, hp, e⟩ := List.any_eq_true.mp q
  exact h p hp (of_decide_eq_true e)
/-- the places of the fields, the calls by their names -/
def spotsV (fs : List FD) : List (Key × V) := (List.range fs.length).zipWith (fun i (f : FD) => ((.inr f.nm : Key), V.int (i : Nat))) fs
def tableV (cs : List CD) (sv : List V) : List (Key × V) := List.zipWith (fun (c : CD) v => ((.inr c.nm : Key), v)) cs sv
def KdA (K : PySem.W.Frag) (KC : Addr) (H : Hp) (v : V) (fs : List FD) (n : Nat) (cs : List CD) : Prop := ∃ (x dx so sp tb : Addr) (t st : V) (tv sv : List V), v = .ref x ∧
  H x = some (.ins KC dx [("triples", t), ("sorts", .ref so), ("spots", .ref sp), ("modes", .int n), ("steps", st), ("table", .ref tb)]) ∧ Tu K H t tv ∧ Al (FdT K H) tv fs ∧ H so = some (.dK (sortsV fs)) ∧ H sp = some (.dK (spotsV fs)) ∧
  Tu K H st sv ∧ Al (CdT K H) sv cs ∧ H tb = some (.dK (tableV cs sv))
theorem KdA.keep {K : PySem.W.Frag} {KC : Addr} {H H' : Hp} {v : V} {fs : List FD} {n : Nat} {cs : List CD} (e : Same H H') (h : KdA K KC H v fs n cs) : KdA K KC H' v fs n cs := by
  obtain ⟨x, dx, so, sp, tb, t, st, tv, sv, h0, h1, h2, h3, h4, h5, h6, h7, h8⟩ := h
  exact ⟨x, dx, so, sp, tb, t, st, tv, sv, h0, e _ _ h1, h2.keep e, h3.mono fun _ _ h => FdT.keep e h, e _ _ h4, e _ _ h5, h6.keep e, h7.mono fun _ _ h => CdT.keep e h, e _ _ h8⟩
theorem lt_sing (a b : Nat) : (decide ([a] < [b])) = decide (a < b) := by
  rw [Bool.eq_iff_iff, decide_eq_true_iff, decide_eq_true_iff]
  constructor
  · intro h
    cases h with
    | rel h => exact h
    | cons h => cases h
  · intro h
    exact List.Lex.rel h
theorem letter_le (c : Nat) : (!decide ((⟨#[c]⟩ : Str).cps.toList < ("a" : Str).cps.toList)) = decide (97 ≤ c) := by
  show (!decide ([c] < [97])) = _
  rw [lt_sing, Bool.eq_iff_iff]
  simp
theorem letter_ge (c : Nat) : (!decide (("z" : Str).cps.toList < (⟨#[c]⟩ : Str).cps.toList)) = decide (c ≤ 122) := by
  show (!decide ([122] < [c])) = _
  rw [lt_sing, Bool.eq_iff_iff]
  simp
theorem letters_take (xs : List Nat) (i : Nat) (c : Nat) (h : xs[i]? = some c) : (xs.take (i + 1)).map letterB = (xs.take i).map letterB ++ [letterB c] := by
  rw [List.take_succ, h]
  simp
end MK
set_option Elab.async false
set_option linter.all false
set_option autoImplicit false
set_option maxRecDepth 100000
set_option maxHeartbeats 400000
namespace MK
open PySem PySem.Spec PyProof.Rows L2
theorem put_take {full : List (Key × V)} {i : Nat} {k : Key} {v : V} (nd : (full.map (·.1)).Nodup) (h : full[i]? = some (k, v)) : putK (full.take i) k v = full.take (i + 1) := by
  rw [List.take_succ, h]
  refine putK_new fun p hp e => ?_
  obtain ⟨j, hj⟩ := List.mem_iff_getElem?.mp hp
  rw [List.getElem?_take] at hj
  split at hj
  · rename_i lt
    obtain ⟨hjl, ej⟩ := List.getElem?_eq_some_iff.mp hj
    obtain ⟨hil, ei⟩ := List.getElem?_eq_some_iff.mp h
    refine List.pairwise_iff_getElem.mp nd j i (by simpa using hjl) (by simpa using hil) lt ?_
    rw [List.getElem_map, List.getElem_map, ej, ei]
    exact e
  · cases hj
theorem inr_nodup : ∀ {zs : List Str}, zs.Nodup → (zs.map (Sum.inr : Str → Key)).Nodup
  | [], _ => List.nodup_nil
  | z :: zs, h => by
    rw [List.nodup_cons] at h
    rw [List.map_cons, List.nodup_cons]
    refine ⟨fun m => ?_, inr_nodup h.2⟩
    obtain ⟨y, hy, e⟩ := List.mem_map.mp m
    exact h.1 (Sum.inr.inj e ▸ hy)
theorem sorts_nd {fs : List FD} (h : (fs.map (·.nm)).Nodup) : ((sortsV fs).map (·.1)).Nodup := by
  have := inr_nodup h
  rw [List.map_map] at this
  unfold sortsV
  rw [List.map_map]
  exact this
theorem zip_keys {α β : Type} (g : α → β → Key × V) (q : β → Key) (e : ∀ a b, (g a b).1 = q b) : ∀ (as : List α) (bs : List β), as.length = bs.length → (List.zipWith g as bs).map (·.1) = bs.map q
  | [], [], _ => rfl
  | a :: as, b :: bs, h => by
    rw [List.zipWith_cons_cons, List.map_cons, List.map_cons, e, zip_keys g q e as bs (by simpa using h)]
  | [], _ :: _, h => by simp at h
  | _ :: _, [], h => by simp at h
theorem spots_nd {fs : List FD} (h : (fs.map (·.nm)).Nodup) : ((spotsV fs).map (·.1)).Nodup := by
  have := inr_nodup h
  rw [List.map_map] at this
  unfold spotsV
  rw [zip_keys _ (fun f => Sum.inr f.nm) (fun _ _ => rfl) _ _ (by rw [List.length_range])]
  exact this
theorem zip_keys2 {α β : Type} (g : α → β → Key × V) (q : α → Key) (e : ∀ a b, (g a b).1 = q a) : ∀ (as : List α) (bs : List β), as.length = bs.length → (List.zipWith g as bs).map (·.1) = as.map q
  | [], [], _ => rfl
  | a :: as, b :: bs, h => by
    rw [List.zipWith_cons_cons, List.map_cons, List.map_cons, e, zip_keys2 g q e as bs (by simpa using h)]
  | [], _ :: _, h => by simp at h
  | _ :: _, [], h => by simp at h
theorem table_nd {cs : List CD} {sv : List V} (h : (cs.map (·.nm)).Nodup) (l : sv.length = cs.length) : ((tableV cs sv).map (·.1)).Nodup := by
  have := inr_nodup h
  rw [List.map_map] at this
  unfold tableV
  rw [zip_keys2 _ (fun c => Sum.inr c.nm) (fun _ _ => rfl) _ _ l.symm]
  exact this
theorem sorts_at {fs : List FD} {i : Nat} {f : FD} (h : fs[i]? = some f) : (sortsV fs)[i]? = some (.inr f.nm, .str (sortS f.many)) := by
  unfold sortsV
  rw [List.getElem?_map, h]
  rfl
theorem spots_at {fs : List FD} {i : Nat} {f : FD} (h : fs[i]? = some f) : (spotsV fs)[i]? = some (.inr f.nm, .int (i : Nat)) := by
  unfold spotsV
  have hi := (List.getElem?_eq_some_iff.mp h).1
  rw [List.getElem?_zipWith, h, List.getElem?_range hi]
theorem table_at {cs : List CD} {sv : List V} {i : Nat} {c : CD} {v : V} (h : cs[i]? = some c) (hv : sv[i]? = some v) : (tableV cs sv)[i]? = some (.inr c.nm, v) := by
  unfold tableV
  rw [List.getElem?_zipWith, h, hv]
theorem sorts_len (fs : List FD) : (sortsV fs).length = fs.length := List.length_map ..
theorem spots_len (fs : List FD) : (spotsV fs).length = fs.length := by
  unfold spotsV
  rw [List.length_zipWith, List.length_range, Nat.min_self]
theorem table_len {cs : List CD} {sv : List V} (l : sv.length = cs.length) : (tableV cs sv).length = cs.length := by
  unfold tableV
  rw [List.length_zipWith, l, Nat.min_self]
/-- a new list -/
def LsN (H0 H : Hp) (v : V) (xs : List V) : Prop := ∃ a, v = .ref a ∧ H0 a = none ∧ H a = some (.lst xs)
theorem LsN.ls {H0 H : Hp} {v : V} {xs : List V} (h : LsN H0 H v xs) : Ls H v xs := by
  obtain ⟨a, e, _, h⟩ := h
  exact ⟨a, e, h⟩
theorem LsN.keep {H0 H H' : Hp} {v : V} {xs : List V} (e : Same H H') (h : LsN H0 H v xs) : LsN H0 H' v xs := by
  obtain ⟨a, r, n, h⟩ := h
  exact ⟨a, r, n, e _ _ h⟩
theorem LsN.off {H0 H : Hp} {v : V} {xs : List V} {d : Addr} {o : HO} (h : LsN H0 H v xs) (hd : H0 d = some o) : LsN H0 (Off d H) v xs := by
  obtain ⟨a, r, n, h⟩ := h
  exact ⟨a, r, n, (off_ne (fun e => by rw [e, hd] at n; cases n)).trans h⟩
/-- a drawn call whose lists are new -/
def CdN (K : PySem.W.Frag) (H0 H : Hp) (v : V) (c : CD) : Prop := ∃ m d s ds, Tu K H v [.str c.nm, .str c.hand, m, d, s] ∧ LsN H0 H m (c.moves.map V.int) ∧ LsN H0 H d ds ∧ Al (DeT K H) ds c.deeds ∧ LsN H0 H s (c.same.map V.str)
theorem CdN.l {K : PySem.W.Frag} {H0 H : Hp} {v : V} {c : CD} (h : CdN K H0 H v c) : CdL K H v c := by
  obtain ⟨m, d, s, ds, h1, h2, h3, h4, h5⟩ := h
  exact ⟨m, d, s, ds, h1, h2.ls, h3.ls, h4, h5.ls⟩
theorem CdN.off {K : PySem.W.Frag} {H0 H : Hp} {v : V} {c : CD} {d : Addr} {xs ys : List V} (h : CdN K H0 H v c) (h0 : H0 d = some (.lst xs)) (hd : H d = some (.lst ys)) : CdN K H0 (Off d H) v c := by
  obtain ⟨m, dv, s, ds, h1, h2, h3, h4, h5⟩ := h
  exact ⟨m, dv, s, ds, h1.off hd no_lst, h2.off h0, h3.off h0, h4.mono fun _ _ h => Tu.off h hd no_lst, h5.off h0⟩
end MK
set_option Elab.async false
set_option linter.all false
set_option autoImplicit false
set_option maxRecDepth 100000
set_option maxHeartbeats 400000
/-! x in o, o of an own class with its own __contains__ -/
namespace MK
open PySem PySem.Spec PyProof.Rows L2
def rInOwn (C : Addr) (sp : Sp) (neg : Bool) : R2 := fun x y H Q => ∃ a dx fs, y = .ref a ∧ H a = some (.ins C dx fs) ∧ sp [y, x] H (fun v H' => ∃ b, v = .bl b ∧ Q (.bl (if neg then !b else b)) H') E0
section
variable {X : Cx} {C f : Addr} {fd : FuncData} {ps : List Str} {k : Nat} {sp : Sp}
theorem op_inOwn (F : FnOk X.prog X.w X.K X.mg X.base CX0 k f fd ps sp) (hs : PySem.W.findIn X.K (.ref C) "__contains__" = some (some (.ref f))) (hf : PySem.W.isFn X.K (.ref f) = true) (hb : Binds X.K fd ps []) (hr : Room k X.A) : OpR X (compareOp .In) (rInOwn C sp false) := by
  intro pins s σ H x y v u Q I rx ry ⟨a, dx, fs, ey, ha, h⟩
  subst ey
  cases ry
  obtain ⟨mA, J, _⟩ := ins_get I.hok ha
  obtain ⟨od, J, _⟩ := J.look
  obtain ⟨m, hF⟩ := I.fr
  refine PySem.W.in_K hF I.ok.mod.kin J hs hf ?_
  have r2 : Vals [V.ref a, x] [Value.ref a, v] := .cons rfl (.cons rx .nil)
  refine thn (run_fn F hr hb .nil pass0 I r2 h) fun w s1 ⟨z, H1, I1, rz, b, ez, q⟩ => ?_
  subst ez
  cases rz
  exact wpAny_truthy_bool ⟨.bl b, H1, I1, rfl, q⟩
theorem op_notInOwn (F : FnOk X.prog X.w X.K X.mg X.base CX0 k f fd ps sp) (hs : PySem.W.findIn X.K (.ref C) "__contains__" = some (some (.ref f))) (hf : PySem.W.isFn X.K (.ref f) = true) (hb : Binds X.K fd ps []) (hr : Room k X.A) : OpR X (compareOp .NotIn) (rInOwn C sp true) := by
  intro pins s σ H x y v u Q I rx ry ⟨a, dx, fs, ey, ha, h⟩
  subst ey
  cases ry
  obtain ⟨mA, J, _⟩ := ins_get I.hok ha
  obtain ⟨od, J, _⟩ := J.look
  obtain ⟨m, hF⟩ := I.fr
  refine PySem.W.notIn_K hF I.ok.mod.kin J hs hf ?_
  have r2 : Vals [V.ref a, x] [Value.ref a, v] := .cons rfl (.cons rx .nil)
  refine thn (run_fn F hr hb .nil pass0 I r2 h) fun w s1 ⟨z, H1, I1, rz, b, ez, q⟩ => ?_
  subst ez
  cases rz
  exact wpAny_truthy_bool ⟨.bl (!b), H1, I1, rfl, q⟩
end
end MK
set_option Elab.async false
set_option linter.all false
set_option autoImplicit false
set_option maxRecDepth 100000
set_option maxHeartbeats 400000
/-! x == y of own instances, both answers -/
namespace MK
open PySem PySem.Spec PyProof.Rows L2
def rEqOwn (C : Addr) (sp : Sp) : R2 := fun x y H Q => ∃ a dx fs b dy gs, x = .ref a ∧ y = .ref b ∧ H a = some (.ins C dx fs) ∧ H b = some (.ins C dy gs) ∧ sp [x, y] H (fun v H' => ∃ r, v = .bl r ∧ Q v H') E0
theorem op_eqOwn {X : Cx} {C f : Addr} {fd : FuncData} {ps : List Str} {k : Nat} {sp : Sp} (F : FnOk X.prog X.w X.K X.mg X.base CX0 k f fd ps sp) (hs : PySem.W.findIn X.K (.ref C) "__eq__" = some (some (.ref f))) (hf : PySem.W.isFn X.K (.ref f) = true) (hb : Binds X.K fd ps []) (hr : Room k X.A) :
    OpR X (compareOp .Eq) (rEqOwn C sp) := by
  intro pins s σ H x y v u Q I rx ry ⟨a, dx, fs, b, dy, gs, ex, ey, ha, hb', h⟩
  subst ex
  subst ey
  cases rx
  cases ry
  obtain ⟨mA, J, _⟩ := ins_get I.hok ha
  obtain ⟨mB, J', _⟩ := ins_get I.hok hb'
  obtain ⟨od, J, _⟩ := J.look
  obtain ⟨od', J', _⟩ := J'.look
  obtain ⟨m, hF⟩ := I.fr
  refine PySem.W.cmp_K (op := .Eq) (tb := .ref C) hr.units0 hF I.ok.mod.kin J J'.type (by simp [PySem.W.notFirst]) hs hf ?_
  have r2 : Vals [V.ref a, V.ref b] [Value.ref a, Value.ref b] := .cons rfl (.cons rfl .nil)
  refine thn (run_fn F hr hb .nil pass0 I r2 h) fun w s1 ⟨z, H1, I1, rz, r, ez, q⟩ => ?_
  subst ez
  cases rz
  exact ⟨.bl r, H1, I1, rfl, q⟩
end MK
set_option Elab.async false
set_option linter.all false
set_option autoImplicit false
set_option maxRecDepth 100000
set_option maxHeartbeats 400000
/-! x != y of own instances with an own __eq__ and no __ne__ -/
namespace PySem.W
open PySem PySem.Spec PySem.Calls PyProof.Rows
section
variable {prog : Program} {w : World} {A : Around} {E : Value → Shared → Prop} {s : Shared} {K : Frag} {x C f : Addr} {ox : Obj} {od : Option Obj} {h₀ : Heap} {L : Addr} {m : Str → Option Value} {b tb : Value}
theorem ne_ownK {Q : Value → Shared → Prop} (hu : A.units + 1 < cLine) (Fh : Fr h₀ L s.heap m) (X₀ : K.In h₀) (I : InstAt s.heap x ox C od) (hb : Looks (model prog w) s.heap (typeOf b) tb) (hn : notFirst K C tb = true)
    (hs : findIn K (.ref C) "__ne__" = some (some (.builtin "object.__ne__"))) (he : findIn K (.ref C) "__eq__" = some (some (.ref f))) (hf : isFn K (.ref f) = true) (ho : subIn K (.ref C) (.type "object") = some true)
    (h : wpAny (model prog w) A.in1 (call (.ref f) [.ref x, b]) (fun v s' => ∃ r, v = .bool r ∧ Q (.bool (!r)) s') E s) : wpAny (model prog w) A (richCompare .NotEq (.ref x) b) Q E s := by
  have X := X₀.keeps Fh.keep
  have entry : wpAny (model prog w) A.in1 (Builtin.«object.__ne__» ⟨[.ref x, b], []⟩) (fun fin s' => ∃ r, fin = .done (.ret (.bool r)) ∧ Q (.bool r) s') E s := by
    unfold Builtin.«object.__ne__»
    refine wpAny_bind (wpAny_of_eq (a := ((Value.ref x : Value), [b])) (by first | rfl | (simp only [slotArgs]; rfl)) ?_)
    refine wpAny_bind (wpAny_cRoomFor hu ?_)
    refine wpAny_bind (ifBound_K X I he hf (wpAny_mono h (fun v s' hv => ?_) fun _ _ e => e))
    obtain ⟨r, rfl, q⟩ := hv
    refine wpAny_bind (wpAny_truthy_bool ?_)
    exact wpAny_pure ⟨_, rfl, q⟩
  have one : wpAny (model prog w) A (tryCompare (.ref x) "__ne__" b) (fun r s' => ∃ v, r = some v ∧ Q v s') E s := by
    unfold tryCompare
    refine wpAny_bind ?_
    simp only [callSpecialIfBound?, bindSpecialIfBound?]
    refine wpAny_holding (wpAny_bind (wpAny_bind (wpAny_bind (I.type.here ((looks_findIn X hs).here ?_)))))
    simp only [PySem.F.cmp_object.ne.bind]
    refine wpAny_bind (wpAny_askSetting (wpAny_ite ?_))
    have fin : wpAny (model prog w) A (call (.builtin "object.__ne__") ([.ref x] ++ [b]) >>= fun v => pure (some v)) (fun r s' => wpAny (model prog w) A (match r with
      | some .notImplemented | none => pure none
      | some r => pure (some r) : Sem (Option Value)) (fun r s' => ∃ v, r = some v ∧ Q v s') E s') E s := by
      refine wpAny_bind (wpAny_call (codeAny_call_builtin PySem.F.cmp_object.ne.plain PySem.F.cmpEntry_ne ?_))
      refine check_slot PySem.F.cmpKind_ne PySem.F.cmpSplit_ne (I.type.andThen (looks_subIn X ho)) (PySem.F.cmpArgs_ne _ _) ?_
      refine wpAny_mono entry (fun fin s' hv => ?_) fun _ _ e => e
      obtain ⟨r, rfl, q⟩ := hv
      exact wpAny_pure (wpAny_pure ⟨_, rfl, q⟩)
    split
    · exact wpAny_bind (wpAny_pure (wpAny_pure fin))
    · exact wpAny_tryCatch (wpAny_bind (wpAny_pure (wpAny_pure fin)))
  unfold richCompare
  simp only [oneThing_ref]
  refine wpAny_holding (wpAny_bind (wpAny_cRoomFor (Nat.lt_of_succ_lt hu) ?_))
  refine wpAny_bind (I.type.here (wpAny_bind (hb.here ?_)))
  split
  · rename_i q
    have e : subIn K tb (.ref C) = some false := by
      rcases Bool.or_eq_true_iff.mp hn with e | e
      · rw [beq_iff_eq.mp e] at q; simp at q
      · exact beq_iff_eq.mp e
    refine wpAny_bind ((looks_subIn X e).here ?_)
    simp only [Bool.false_eq_true, if_false]
    refine wpAny_bind (wpAny_mono one (fun r s' z => ?_) fun _ _ e => e)
    obtain ⟨v, rfl, hq⟩ := z
    exact wpAny_pure hq
  · refine wpAny_bind (wpAny_pure ?_)
    simp only [Bool.false_eq_true, if_false]
    refine wpAny_bind (wpAny_mono one (fun r s' z => ?_) fun _ _ e => e)
    obtain ⟨v, rfl, hq⟩ := z
    exact wpAny_pure hq
end
end PySem.W

namespace MK
open PySem PySem.Spec PyProof.Rows L2
def rNeOwn (C : Addr) (sp : Sp) : R2 := fun x y H Q => ∃ a dx fs b dy gs, x = .ref a ∧ y = .ref b ∧ H a = some (.ins C dx fs) ∧ H b = some (.ins C dy gs) ∧ sp [x, y] H (fun v H' => ∃ r, v = .bl r ∧ Q (.bl (!r)) H') E0
theorem op_neOwn {X : Cx} {C f : Addr} {fd : FuncData} {ps : List Str} {k : Nat} {sp : Sp} (F : FnOk X.prog X.w X.K X.mg X.base CX0 k f fd ps sp) (hn : PySem.W.findIn X.K (.ref C) "__ne__" = some (some (.builtin "object.__ne__"))) (hs : PySem.W.findIn X.K (.ref C) "__eq__" = some (some (.ref f)))
    (hf : PySem.W.isFn X.K (.ref f) = true) (ho : PySem.W.subIn X.K (.ref C) (.type "object") = some true) (hb : Binds X.K fd ps []) (hr : Room (k + 1) X.A) :
    OpR X (compareOp .NotEq) (rNeOwn C sp) := by
  intro pins s σ H x y v u Q I rx ry ⟨a, dx, fs, b, dy, gs, ex, ey, ha, hb', h⟩
  subst ex
  subst ey
  cases rx
  cases ry
  obtain ⟨mA, J, _⟩ := ins_get I.hok ha
  obtain ⟨mB, J', _⟩ := ins_get I.hok hb'
  obtain ⟨od, J, _⟩ := J.look
  obtain ⟨od', J', _⟩ := J'.look
  obtain ⟨m, hF⟩ := I.fr
  refine PySem.W.ne_ownK (tb := .ref C) (by have := hr.un; omega) hF I.ok.mod.kin J J'.type (by simp [PySem.W.notFirst]) hn hs hf ho ?_
  have r2 : Vals [V.ref a, V.ref b] [Value.ref a, Value.ref b] := .cons rfl (.cons rfl .nil)
  have hl : [Value.ref a, Value.ref b].length = ps.length := by rw [← r2.length]; exact F.len _ _ _ _ h
  refine wpAny_call (codeAny_mono (F.run X.A.in1 X.stack s H ⟨[.ref a, .ref b], []⟩ _ _ _ E0 hr.in1 I.env0.in1 (by have := hb s [.ref a, .ref b] I.kIn (by rw [List.append_nil]; exact hl); rw [List.append_nil] at this; exact this) r2 h) fun r s' hq => ?_)
  cases r with
  | error e => exact False.elim hq
  | ok fl =>
    cases fl with
    | ret u =>
      obtain ⟨v, H1, I1, rz, r, ez, q⟩ := I.after hq
      subst ez
      cases rz
      exact ⟨r, rfl, .bl (!r), H1, I1, rfl, q⟩
    | next => exact False.elim hq
    | brk => exact False.elim hq
    | cont => exact False.elim hq
end MK
set_option Elab.async false
set_option linter.all false
set_option autoImplicit false
set_option maxRecDepth 100000
set_option maxHeartbeats 400000
/-! a str is no dict; x not in a tuple of texts, for any x -/
namespace PySem.SeqAt
open AutoSeq1 (wpAny_loadPart')
open MeetsSeq MeetsSeq2 MeetsSeq3 SeqRoads2
section
variable {A : Around} {s : Shared}
theorem dict_eq_declines_str (l : Addr) (es : Array DictEntry) (n : Nat) (dd : Option Addr) (sl : Array (Option Value)) (b : Str) (u : Tok) :
    Meets (Builtin.«dict.__eq__» ⟨[.ref l, .str b u], []⟩) (fun _ R s => s.heap.get? l = some { cls := .type "dict", dict := dd, data := .dict es n, slots := sl } ∧ R (.ok (.ret .notImplemented)) s) :=
  .of_wp fun prog w A R s h => by obtain ⟨hp, g, d, tk, os⟩ := s; obtain ⟨hl, h⟩ := h; have f1 := F.sub_str_dict; wp_walk using wpAny_loadPart' hl, wpAny_load hl; exact ⟨_, rfl, h⟩
theorem str_eq_declines_dict (b : Str) (u : Tok) (l : Addr) (c : Value) (es : Array DictEntry) (n : Nat) (dd : Option Addr) (sl : Array (Option Value)) :
    Meets (Builtin.«str.__eq__» ⟨[.str b u, .ref l], []⟩) (fun _ R s => s.heap.get? l = some { cls := c, dict := dd, data := .dict es n, slots := sl } ∧ R (.ok (.ret .notImplemented)) s) :=
  .of_wp fun prog w A R s h => by obtain ⟨hp, g, d, tk, os⟩ := s; obtain ⟨hl, h⟩ := h; wp_walk using wpAny_loadPart' hl, wpAny_load hl; exact ⟨_, rfl, h⟩
theorem RcAt.str_dict {l : Addr} {o : Obj} {es : Array DictEntry} {n : Nat} (b : Str) (u : Tok) (ho : s.heap.get? l = some o) (hx : o.cls = .type "dict") (hd : o.data = .dict es n) (hu : A.units < cLine) : RcAt A s (.str b u) (.ref l) false := fun prog w E Q h => by
  obtain ⟨cls, dd, data, sl⟩ := o
  simp only at hx hd
  subst hx hd
  exact rc_eq_decline_or (k := false) (typeIs_str s b u) ⟨_, ho, rfl⟩ (by decide) F.sub_dict_str F.slot_str_eq F.slot_dict_eq_refl
    (fun _ hq => call_meets F.slot_str_eq (typeIs_str s b u) F.entry_str_eq (F.args_str_eq_2 _ _) (str_eq_declines_dict b u l (.type "dict") es n dd sl) ⟨ho, hq⟩)
    (fun _ hq => call_meets F.slot_dict_eq_refl ⟨_, ho, rfl⟩ F.entry_dict_eq (F.args_dict_eq_2 _ _) (dict_eq_declines_str l es n dd sl b u) ⟨ho, hq⟩)
    (fun _ hq => wpAny_of_eq (rfl : isSame (.str b u) (.ref l) = pure false) hq) (.inr hu) h
theorem EqAt.str_dict {l : Addr} {o : Obj} {es : Array DictEntry} {n : Nat} (b : Str) (u : Tok) (ho : s.heap.get? l = some o) (hx : o.cls = .type "dict") (hd : o.data = .dict es n) (hu : A.units < cLine) : EqAt A s (.str b u) (.ref l) false := fun prog w E Q h => by
  unfold eqBool
  refine wpAny_holding ?_
  refine wpAny_ite_split (fun hab => absurd (eq_of_beq hab) nofun) (fun _ => ?_)
  exact wpAny_bind (RcAt.str_dict b u ho hx hd hu prog w E _ (wpAny_truthy_bool h))
end
end PySem.SeqAt
namespace MK
open PySem PySem.Spec PyProof.Rows L2
theorem strs_vals : ∀ {zs : List Str} {us : List Value}, Vals (zs.map V.str) us → ∀ u ∈ us, ∃ z t, u = .str z t
  | [], _, .nil => fun u hu => by cases hu
  | z :: zs, _, .cons r t => fun u hu => by
    rcases List.mem_cons.mp hu with rfl | hu
    · obtain ⟨t, rfl⟩ := r
      exact ⟨z, t, rfl⟩
    · exact strs_vals t u hu
/-- x not in a tuple of texts -/
def rNotInS (K : PySem.W.Frag) : R2 := fun x y H Q => ∃ (p : Addr) (zs : List Str), y = .ref p ∧ SqT K H p (zs.map V.str) ∧ ((flatV x = true ∧ Q (.bl (!inV x (zs.map V.str))) H) ∨ (∃ (a : Addr) (xs : List V), x = .ref a ∧ SqL K H a xs ∧ Q (.bl true) H) ∨ ∃ (a : Addr) (kvs : List (Key × V)), x = .ref a ∧ H a = some (.dK kvs) ∧ Q (.bl true) H)
theorem op_notInS {X : Cx} (hu : X.A.units + 1 < cLine) : OpR X (compareOp .NotIn) (rNotInS X.K) := by
  intro pins s σ H x y v u Q I rx ry h
  obtain ⟨p, zs, rfl, hq, h⟩ := h
  cases ry
  rcases h with ⟨fx, q⟩ | ⟨a, xs, rfl, ha, q⟩ | ⟨a, kvs, rfl, ha, q⟩
  · exact op_notIn_seq pins s σ H x (V.ref p) v (Value.ref p) Q I rx (show RelV (V.ref p) (Value.ref p) from rfl) ⟨p, _, rfl, .inr hq, fx, by simp [flatV], q⟩
  · cases rx
    obtain ⟨its, r, pl, hz⟩ := I.tuple hq
    obtain ⟨its2, r2, pl2, hz2⟩ := I.list ha
    refine SeqAt.notIn_tupleAt (fun _ => false) pl (fun w hw => ?_) ⟨.bl true, H, I, ?_, q⟩
    · obtain ⟨z, t, rfl⟩ := strs_vals r w (by simpa using hw)
      exact SeqAt.EqAt.str_list z t pl2.isList (show X.A.units + 1 < cLine from hu)
    · show Value.bool _ = Value.bool _
      simp
  · cases rx
    obtain ⟨its, r, pl, hz⟩ := I.tuple hq
    obtain ⟨_, _, vs, _, o, es, ep, ho, hx, hd, _⟩ := (show ObjOk X.prog X.w H s.heap a (.dK kvs) from I.hok a _ ha)
    refine SeqAt.notIn_tupleAt (fun _ => false) pl (fun w hw => ?_) ⟨.bl true, H, I, ?_, q⟩
    · obtain ⟨z, t, rfl⟩ := strs_vals r w (by simpa using hw)
      exact SeqAt.EqAt.str_dict z t ho hx.1 hd (show X.A.units + 1 < cLine from hu)
    · show Value.bool _ = Value.bool _
      simp
end MK
set_option Elab.async false
set_option linter.all false
set_option autoImplicit false
set_option maxRecDepth 100000
set_option maxHeartbeats 1000000
/-! own errors that are raised, and held by an except suite that hands them on -/
namespace MK
open PySem PySem.Spec PyProof.Rows L2
/-- an error class whose __init__ is walked, raised with positional arguments -/
structure RaiseC (P : Program) (w : World) (K : PySem.W.Frag) (mg : Str → Option Value) (base : Heap) (k : Nat) (x : Str) (C : Addr) (sp : Sp) : Prop where
  ex : ∃ (f : Addr) (fd : FuncData) (ps : List Str), ErrC K C f ∧ FnOk P w K mg base CX0 k f fd ps sp ∧ mg x = some (.ref C) ∧ Binds K fd ps []
theorem ps_raiseC {X : Cx} {W : WX} {k j : Nat} {x : Str} {C : Addr} {sp : Sp} {p pos pos2 : Pos} {e : Expr} {es : List Expr} {ta : TA} (c : RaiseC X.prog X.w X.K X.mg X.base k x C sp) (hc : X.calm = true) (tk : Takes X W) (hr : Room j X.A) (hk : k + 1 ≤ j) (hg : Gl X x) (ha : PA X (e :: es) ta)
    (hdb : (x == ("__debug__" : Str)) = false := by decide) (he : starEach (e :: es) X.env = (false, eval e X.env) :: starEach es X.env := by rfl) (hpl : (backTo pos (starEach es X.env)).any (·.1) = false := by rfl) :
    PS X (.Raise (some (.Call (.Name x p) (e :: es) [] pos)) none pos2) (fun _ σ H => tMkO C sp [] ta σ H fun cls d H' => W cls d σ H') := by
  obtain ⟨f, fd, ps, T, F, hm, b⟩ := c.ex
  exact ps_raise hc tk (pmk_oex T.cls T.ini T.fn F (hr.mono hk) b .nil pass0 hg hm ha hdb he hpl)
theorem rd_raise1 {C : Addr} {f : Str} {ta : TA} {σ : L2.St} {H : Hp} {v : V} {W : XK} (ht : ∀ R : List V → Hp → Prop, R [v] H → ta σ H R) (q : ∀ d H', Same H H' → H d = none → H' d = some (.xd [(f, v)]) → W (.ref C) (some d) H') : tMkO C (spErr1 C f) [] ta σ H W := by
  refine ht _ ⟨by show 1 ≤ 1000; decide, fun a ha => ⟨a, v, rfl, upd_same, fun d hd hda => ⟨rfl, d, [(f, v)], upd_same, (upd_ne hda).trans upd_same, ?_, ?_⟩⟩⟩
  · rw [upd_ne hda] at hd
    exact hd
  · have hd' : H d = none := by rw [upd_ne hda] at hd; exact hd
    refine q d _ (fun b o hb => ?_) hd' upd_same
    have ba : b ≠ a := fun z => by rw [z, ha] at hb; cases hb
    have bd : b ≠ d := fun z => by rw [z, hd'] at hb; cases hb
    rw [upd_ne bd, del_ne ba, upd_ne ba, upd_ne bd, upd_ne ba]
    exact hb
/-! ### a caught error, known by its pin -/
section
variable {X : Cx} {a : Addr} {oe : Obj} {cls : Value} {d : Option Addr}
def tErrP (K : PySem.W.Frag) (a : Addr) (cls : Value) (d : Option Addr) (f : Str) (te : TE) : TE := fun σ H Q => te σ H fun x H1 => x = .ref a ∧ ∃ (C dd : Addr) (fs : List (Str × V)) (v : V), cls = .ref C ∧ d = some dd ∧ ErrF K C ∧ PySem.W.findIn K (.ref C) f = some none ∧ H1 dd = some (.xd fs) ∧ fs.lookup f = some v ∧ Q v H1
theorem pe_errP {e : Expr} {te : TE} {pos : Pos} {n : Str} (hp : (a, oe) ∈ X.pn) (hz : Zc cls d oe) (hf : ∃ vs, oe.data = .fields vs) (he : PE X e te) (hb : attributeBase e n X.env (eval e X.env) = eval e X.env := by rfl) :
    PE X (.Attribute e n pos) (tErrP X.K a cls d n te) := by
  refine ⟨fun pins s σ H Q I h => ?_⟩
  refine attr_of hb (thn (he.run pins s σ H _ I h) fun u s1 hh => ?_)
  obtain ⟨x, H1, I1, rx, ex, C, dd, fs, v, ec, ed, T, hno, ea, l, q⟩ := hh
  subst ex ec ed
  obtain rfl : u = Value.ref a := rx
  have hget := (I1.pin (a, oe) (List.mem_append_left _ hp)).1
  obtain ⟨vs, hd⟩ := hf
  obtain ⟨mA, hns, hr⟩ := (show ObjOk X.prog X.w H1 s1.heap dd (.xd fs) from I1.hok dd _ ea)
  obtain ⟨od, ho, hl⟩ := lookIn_ns hns
  obtain ⟨y, hy, ry⟩ := RelO.some_of (v := v) (o := mA n) (by rw [← l]; exact hr n)
  have J : PySem.W.InstAt s1.heap a oe C (some od) := ⟨hget, hz.1, by unfold PySem.W.notCls; rw [hd] <;> rfl, by rw [hz.2]; exact ho⟩
  exact HandSPX.exc_get I1.kIn J T.ga T.gg T.exC (PySem.W.findObj_own T.hdC hno rfl (by rw [hl, hy])) (handed_of ry) ⟨v, H1, I1.tok _, ry, q⟩
def rIsP (K : PySem.W.Frag) (a : Addr) (cls : Value) (d : Option Addr) : List V → Hp → VK → Prop := fun xs H Q => ∃ (C dd : Addr) (fs : List (Str × V)) (c : V) (cv : Value) (b : Bool), xs = [.ref a, c] ∧ cls = .ref C ∧ d = some dd ∧ H dd = some (.xd fs) ∧ ErrI K C ∧ ClsV c cv ∧ PySem.W.kitOne K (.ref C) cv = some b ∧ Q (.bl b) H
theorem call_isP (hp : (a, oe) ∈ X.pn) (hz : Zc cls d oe) (hf : ∃ vs, oe.data = .fields vs) : CallR X (.builtin "isinstance") (rIsP X.K a cls d) := by
  intro pins s σ H xs us Q I r h
  obtain ⟨C, dd, fs, c, cv, b, rfl, ec, ed, hfs, T, k, e, q⟩ := h
  subst ec ed
  obtain ⟨u1, u2, rfl, r1, r2⟩ := vals2 r
  have e2 := k.eq r2
  subst e2
  obtain rfl : u1 = Value.ref a := r1
  have hget := (I.pin (a, oe) (List.mem_append_left _ hp)).1
  obtain ⟨vs, hd⟩ := hf
  obtain ⟨mA, hns, _⟩ := (show ObjOk X.prog X.w H s.heap dd (.xd fs) from I.hok dd _ hfs)
  obtain ⟨od, hod, _⟩ := lookIn_ns hns
  have J : PySem.W.InstAt s.heap a oe C (some od) := ⟨hget, hz.1, by unfold PySem.W.notCls; rw [hd] <;> rfl, by rw [hz.2]; exact hod⟩
  exact PySem.W.kia_one (PySem.W.kitx_exc (od := some od) T.cl T.ga T.gg T.ex T.ca T.sp T.tk T.ob) I.kIn J e (fun z => nomatch z) fun tk => ⟨.bl b, H, I.tok tk, rfl, q⟩
end
/-! ### a def that a suite hands its error -/
/-- what is promised of a def called with a caught error at p.1, of the class cls with the dict d -/
abbrev SpP := Addr → Value → Option Addr → Sp
structure FnP (P : Program) (w : World) (K : PySem.W.Frag) (mg : Str → Option Value) (base : Heap) (k : Nat) (f : Addr) (fd : FuncData) (ps : List Str) (sp : SpP) : Prop where
  len : ∀ a cls d vs H Q, sp a cls d vs H Q E0 → vs.length = ps.length
  run : ∀ (A : Around) (outer : List Env) (s : Shared) (H : Hp) (args : Args) (us : List Value) (vs : List V) (Q : VK) (p : Addr × Obj) (cls : Value) (d : Option Addr), L2H.RoomH k A → L2H.PinOk outer H s p → Zc cls d p.2 → (∃ fs, p.2.data = .fields fs) →
    Env0 P w K mg base A outer s H → BindsTo s fd args (ps.zip us) → Vals vs us → sp p.1 cls d vs H Q E0 → codeAny (model P w) A (.call (.ref f) args) (CR CX0 outer P w H s Q E0) s
theorem fnP_of {P : Program} {w : World} {K : PySem.W.Frag} {mg : Str → Option Value} {base : Heap} {k : Nat} {x : Str} {st : Stmt} {f : Addr} {fd : FuncData} {N ps : List Str} {sp : SpP} (F : DefX K mg x st ps f fd) (S : FnScope N ps (defScope st))
    (len : ∀ a cls d vs H Q, sp a cls d vs H Q E0 → vs.length = ps.length)
    (hbody : ∀ (cdv : Value) (A : Around) (outer : List Env) (s : Shared) (H : Hp) (vs : List V) (Q : VK) (a : Addr) (oe : Obj) (cls : Value) (d : Option Addr), Zc cls d oe → (∃ fs, oe.data = .fields fs) → L2H.RoomH k (A.deeper (envOfC x (defScope st) s.heap.objs.size f cdv)) → sp a cls d vs H Q E0 →
      ∃ t, PSs (L2H.cxH CX0 P w K mg base N x (defScope st) f cdv A outer s H E0 (a, oe)) (defBody st) t ∧ t { nx := fun _ H' => Q .non H', rt := Q } (L2.start N vs) H) : FnP P w K mg base (k + 1) f fd ps sp := by
  obtain ⟨oc, od, kV, doc, pm, an, cdv, ct, osl, rfl, lk, hcd⟩ := F.fn.ex
  refine ⟨len, fun A outer s H args us vs Q p cls d hr hpin hz hf e0 hb r hsp => ?_⟩
  have vl := len _ _ _ _ _ _ hsp
  have kin := e0.mod.kin.keeps fun b o e => (e0.bs b o e).1
  have lim := e0.mod.nolimit.keeps fun b o e => (e0.bs b o e).1
  refine codeAny_call_function hr.depth (kin _ _ lk) rfl S.co S.gen rfl (PySem.W.codeRec_of kin hcd) (hb _ _ _ _ (wpAny_newFunctionEnv_cells S.kind (fun ⟨n, v⟩ hy => ?_) fun env he s1 x1 => ?_))
  · exact (S.par n (List.of_mem_zip hy).1).imp id fun q => ⟨q, PySem.W.cellsFrom_some _ _ _ (.inl q)⟩
  subst he
  refine ⟨lim.keeps x1.toInCall.keep, codeAny_func ?_⟩
  obtain ⟨t, ht, hq⟩ := hbody cdv A outer s H vs Q p.1 p.2 cls d hz hf (hr.deeper _) hsp
  have I := L2H.inv_startH (CX := CX0) (E := E0) (N := N) (f := f) (cd := cdv) (qual := x) S hpin e0 vl r x1
  have fin : ∀ {σ' : L2.St} {H' : Hp} {v : V} {u : Value} {s' : Shared}, Inv (L2H.cxH CX0 P w K mg base N x (defScope st) f cdv A outer s H E0 p) [] σ' H' s' → RelV v u → Q v H' → CE outer P w H s Q u s' :=
    fun J rv q => ⟨_, _, J.os, J.bare, J.base, J.hok, rv, q⟩
  refine wpAny_mono (ht.run [] s1 (L2.start N vs) H _ I hq) (fun fl s' hs => ?_) fun e s' hs => hs
  cases fl with
  | ret u => obtain ⟨v, σ', H', J, rv, q⟩ := hs; exact fin J rv q
  | next => obtain ⟨σ', H', J, q⟩ := hs; exact fin (v := V.non) (u := Value.none) J rfl q
  | brk => obtain ⟨_, _, _, q⟩ := hs; exact q.elim
  | cont => obtain ⟨_, _, _, q⟩ := hs; exact q.elim
/-- f(e), e the caught error -/
def tCallP (sp : SpP) (a : Addr) (cls : Value) (d : Option Addr) (ta : TA) : TE := fun σ H Q => ta σ H fun vs H1 => sp a cls d vs H1 Q E0
theorem pe_callP {X : Cx} {a : Addr} {oe : Obj} {cls : Value} {d : Option Addr} {k : Nat} {f : Addr} {fd : FuncData} {ps : List Str} {sp : SpP} {x : Str} {p pos : Pos} {e : Expr} {es : List Expr} {ta : TA} (hp : (a, oe) ∈ X.pn) (hz : Zc cls d oe) (hf : ∃ vs, oe.data = .fields vs)
    (F : FnP X.prog X.w X.K X.mg X.base k f fd ps sp) (hr : L2H.RoomH k X.A) (hg : Gl X x) (hm : X.mg x = some (.ref f)) (hk : PySem.W.keepIn X.K (.ref f) = true) (hb : Binds X.K fd ps []) (ha : PA X (e :: es) ta)
    (hdb : (x == ("__debug__" : Str)) = false := by decide) (he : starEach (e :: es) X.env = (false, eval e X.env) :: starEach es X.env := by rfl) (hpl : (backTo pos (starEach es X.env)).any (·.1) = false := by rfl) :
    PE X (.Call (.Name x p) (e :: es) [] pos) (tCallP sp a cls d ta) := by
  refine ⟨fun pins s σ H Q I h => wpAny_Call_Name_kw (ld_glob I hg hm (PySem.W.callWith_K (h₀ := X.base) I.ok.mod.kin hk (thn (ha.run pos pins s σ H _ I h) fun us s1 hh => ?_) he hpl) hdb)⟩
  obtain ⟨vs, H1, I1, r, q⟩ := hh
  refine ⟨I1.kIn, wpAny_call (codeAny_mono (F.run X.A X.stack s1 H1 ⟨us, []⟩ us vs Q (a, oe) cls d hr ?_ hz hf I1.env0 ?_ r q) fun z s' hq => ?_)⟩
  · have P1 := I1.pin (a, oe) (List.mem_append_left _ hp)
    exact ⟨P1.1, P1.2.1, fun z => (List.mem_cons.mp (I1.stkSub a z)).elim P1.2.2.1 P1.2.2.2.1, P1.2.2.2.2⟩
  · have hl : us.length = ps.length := r.length.symm.trans (F.len _ _ _ _ _ _ q)
    have b := hb s1 us I1.kIn (by rw [List.append_nil]; exact hl)
    rwa [List.append_nil] at b
  · cases z with
    | error e => exact False.elim hq
    | ok fl => cases fl with
      | ret u => exact I1.after hq
      | next => exact False.elim hq
      | brk => exact False.elim hq
      | cont => exact False.elim hq
end MK
set_option Elab.async false
set_option linter.all false
set_option autoImplicit false
set_option maxRecDepth 100000
set_option maxHeartbeats 400000
/-! heaps without the tables of code objects -/
namespace MK
open PySem PySem.Spec PyProof.Rows L2
def Nt (H : Hp) : Hp := fun b => match H b with
  | some (.tbl _) => none
  | x => x
theorem nt_of {H : Hp} {b : Addr} {o : HO} (h : H b = some o) (n : ∀ ps, o ≠ .tbl ps) : Nt H b = some o := by
  unfold Nt
  rw [h]
  cases o <;> first | rfl | exact absurd rfl (n _)
theorem nt_get {H : Hp} {b : Addr} {o : HO} (h : Nt H b = some o) : H b = some o ∧ ∀ ps, o ≠ .tbl ps := by
  unfold Nt at h
  split at h
  · cases h
  · rename_i e
    exact ⟨h, fun ps z => e ps (by rw [h, z])⟩
theorem nt_same {H : Hp} : Same (Nt H) H := fun _ _ h => (nt_get h).1
theorem same_nt {H H' : Hp} (e : Same H H') : Same (Nt H) (Nt H') := fun b o h => nt_of (e b o (nt_get h).1) (nt_get h).2
theorem ext_nt {H H' : Hp} (e : LamX.ExtN H H') : Same (Nt H) (Nt H') := fun b o h => nt_of (e b o (nt_get h).1 (nt_get h).2) (nt_get h).2
theorem ext_off {s : Addr} {H H' : Hp} (e : LamX.ExtN H H') : LamX.ExtN (Off s H) (Off s H') := fun b o h n => by
  by_cases q : b = s
  · rw [q, off_s] at h
    cases h
  · rw [off_ne q] at h ⊢
    exact e b o h n
/-- what is told of H, but of s and of tables -/
abbrev Nx (s : Addr) (H : Hp) : Hp := Nt (Off s H)
theorem SameX.nx {s : Addr} {H H' : Hp} (e : SameX s H H') : Same (Nx s H) (Nx s H') := same_nt e.off
theorem ext_nx {s : Addr} {H H' : Hp} (e : LamX.ExtN H H') : Same (Nx s H) (Nx s H') := ext_nt (ext_off e)
theorem nx_same {s : Addr} {H : Hp} : Same (Nx s H) (Off s H) := nt_same
section
variable {K : PySem.W.Frag} {H : Hp} {v : V} {xs : List V}
theorem sqt_nt {a : Addr} (h : SqT K H a xs) : SqT K (Nt H) a xs := by
  rcases h with ⟨h | ⟨o, h⟩⟩ | h
  · exact .inl (.inl (nt_of h nofun))
  · exact .inl (.inr ⟨o, nt_of h nofun⟩)
  · exact .inr h
theorem Tu.nt (h : Tu K H v xs) : Tu K (Nt H) v xs := by
  obtain ⟨a, r, h⟩ := h
  exact ⟨a, r, sqt_nt h⟩
theorem Ls.nt (h : Ls H v xs) : Ls (Nt H) v xs := by
  obtain ⟨a, r, h⟩ := h
  exact ⟨a, r, nt_of h nofun⟩
theorem CdT.nt {c : CD} (h : CdT K H v c) : CdT K (Nt H) v c := by
  obtain ⟨m, d, s, ds, h1, h2, h3, h4, h5⟩ := h
  exact ⟨m, d, s, ds, h1.nt, h2.nt, h3.nt, h4.mono fun _ _ h => Tu.nt h, h5.nt⟩
theorem CdL.nt {c : CD} (h : CdL K H v c) : CdL K (Nt H) v c := by
  obtain ⟨m, d, s, ds, h1, h2, h3, h4, h5⟩ := h
  exact ⟨m, d, s, ds, h1.nt, h2.nt, h3.nt, h4.mono fun _ _ h => Tu.nt h, h5.nt⟩
theorem KdA.nt {KC : Addr} {fs : List FD} {n : Nat} {cs : List CD} (h : KdA K KC H v fs n cs) : KdA K KC (Nt H) v fs n cs := by
  obtain ⟨x, dx, so, sp, tb, t, st, tv, sv, h0, h1, h2, h3, h4, h5, h6, h7, h8⟩ := h
  exact ⟨x, dx, so, sp, tb, t, st, tv, sv, h0, nt_of h1 nofun, h2.nt, h3.mono fun _ _ h => Tu.nt h, nt_of h4 nofun, nt_of h5 nofun, h6.nt, h7.mono fun _ _ h => CdT.nt h, nt_of h8 nofun⟩
end
/-! ### tables stay behind -/
theorem tab_sx {s : Addr} {H H' : Hp} {P : Addr} {q : Str} {xs : List V} (e : SameX s H H') (hs : H s = some (.lst xs)) (t : LamX.TabS H P q) : LamX.TabS H' P q := by
  obtain ⟨ps, h1, h2, h3⟩ := t
  have ne : ∀ {b : Addr} {o : HO}, H b = some o → (o ≠ .lst xs) → b ≠ s := fun hb n z => by
    rw [z, hs] at hb
    exact n (Option.some.inj hb).symm
  refine ⟨ps, e _ _ h1 (ne h1 nofun), h2, fun pos cv hc => ?_⟩
  obtain ⟨c, e1, e2⟩ := h3 pos cv hc
  exact ⟨c, e1, e _ _ e2 (ne e2 fun z => by
    unfold LamX.CodeO at z
    cases z)⟩
theorem passes_cx0 {X : Cx} : Passes (L2.CX X.prog X.w) X E0 := fun _ _ _ _ _ _ _ h => by
  obtain ⟨_, _, _, _, _, _, _, _, _, _, _, _, z⟩ := h
  exact z.elim
end MK
set_option Elab.async false
set_option linter.all false
set_option autoImplicit false
set_option maxRecDepth 100000
set_option maxHeartbeats 400000
/-! cuts of lists, item by item; one call of a kind exchanged -/
namespace MK
open PySem PySem.Spec PyProof.Rows L2
section
variable {α : Type} {R : V → α → Prop} {xs xs' : List V} {ys ys' : List α}
theorem Al.take (h : Al R xs ys) (i : Nat) : Al R (xs.take i) (ys.take i) := by
  refine ⟨by rw [List.length_take, List.length_take, h.1], fun j x y h1 h2 => ?_⟩
  rw [List.getElem?_take] at h1 h2
  split at h1
  · rename_i q
    rw [if_pos q] at h2
    exact h.2 j x y h1 h2
  · cases h1
theorem Al.drop (h : Al R xs ys) (i : Nat) : Al R (xs.drop i) (ys.drop i) := by
  refine ⟨by rw [List.length_drop, List.length_drop, h.1], fun j x y h1 h2 => ?_⟩
  rw [List.getElem?_drop] at h1 h2
  exact h.2 _ x y h1 h2
theorem Al.append (h : Al R xs ys) (h' : Al R xs' ys') : Al R (xs ++ xs') (ys ++ ys') := by
  refine ⟨by rw [List.length_append, List.length_append, h.1, h'.1], fun j x y h1 h2 => ?_⟩
  by_cases q : j < xs.length
  · rw [List.getElem?_append_left q] at h1
    rw [List.getElem?_append_left (h.1 ▸ q)] at h2
    exact h.2 j x y h1 h2
  · rw [List.getElem?_append_right (by omega)] at h1
    rw [List.getElem?_append_right (by have := h.1; omega)] at h2
    rw [← h.1] at h2
    exact h'.2 _ x y h1 h2
theorem Al.one {x : V} {y : α} (r : R x y) : Al R [x] [y] := (Al.nil (R := R)).snoc r
end
theorem cut_to (xs : List V) (i : Nat) : cutV xs none (some (i : Int)) = xs.take i := by
  have e := HT.sIx_nat xs.length xs.length i
  unfold cutV
  rw [HT.sIx_none, e, List.drop_zero, Nat.sub_zero]
  rcases Nat.le_total i xs.length with h | h
  · rw [Nat.min_eq_left h]
  · rw [Nat.min_eq_right h, List.take_of_length_le (Nat.le_refl _), List.take_of_length_le h]
theorem cut_from (xs : List V) (i : Nat) (h : i ≤ xs.length) : cutV xs (some (i : Int)) none = xs.drop i := by
  have e := HT.sIx_nat xs.length 0 i
  unfold cutV
  rw [HT.sIx_none, e, Nat.min_eq_left h]
  exact List.take_of_length_le (by rw [List.length_drop]; exact Nat.le_refl _)
end MK
set_option Elab.async false
set_option linter.all false
set_option autoImplicit false
set_option maxRecDepth 100000
set_option maxHeartbeats 1000000
/-! facts of the head: tuples of texts, dicts with text keys, the law's table of codes; the end -/
namespace MK
open PySem PySem.Spec PyProof.Rows L2
def strsB : List Str → List Value → Bool
  | [], [] => true
  | z :: zs, .str y _ :: us => decide (y = z) && strsB zs us
  | _, _ => false
theorem strsB_ok : ∀ {zs : List Str} {us : List Value}, strsB zs us = true → Vals (zs.map V.str) us
  | [], [], _ => .nil
  | z :: zs, .str y t :: us, h => by
    obtain ⟨h1, h2⟩ := Bool.and_eq_true_iff.mp (show (decide (y = z) && strsB zs us) = true from h)
    have e := of_decide_eq_true h1
    exact .cons ⟨t, by rw [e]⟩ (strsB_ok h2)
  | [], _ :: _, h => by cases h
  | _ :: _, [], h => by cases h
  | _ :: _, .none :: _, h => by cases h
  | _ :: _, .bool _ :: _, h => by cases h
  | _ :: _, .int _ _ :: _, h => by cases h
  | _ :: _, .ref _ :: _, h => by cases h
  | _ :: _, .type _ :: _, h => by cases h
  | _ :: _, .builtin _ :: _, h => by cases h
  | _ :: _, .notImplemented :: _, h => by cases h
  | _ :: _, .ellipsis :: _, h => by cases h
  | _ :: _, .float _ _ :: _, h => by cases h
def tupB (K : PySem.W.Frag) (a : Addr) (zs : List Str) : Bool := match K.lookup a with
  | some ⟨.type c, _, .seq its _, _⟩ => decide (c = "tuple") && (decide (its.size ≤ 100) && strsB zs its.toList)
  | _ => false
theorem tupB_ok {K : PySem.W.Frag} {a : Addr} {zs : List Str} (h : tupB K a zs = true) (H : Hp) : SqT K H a (zs.map V.str) := by
  unfold tupB at h
  split at h
  · rename_i c d its n sl q
    obtain ⟨h1, h2⟩ := Bool.and_eq_true_iff.mp h
    obtain ⟨h2, h3⟩ := Bool.and_eq_true_iff.mp h2
    have e := of_decide_eq_true h1
    exact .inr ⟨_, its, n, q, by rw [e], rfl, Nat.le_trans (of_decide_eq_true h2) (by decide), strsB_ok h3⟩
  · cases h
theorem keys_none {P : Params} {z : Str} : ∀ {l : List DictEntry} {ks : List Str}, l.map He.keyOf = He.keysIn P ks → z ∉ ks → l.find? (·.key.isStr z) = none ∧ l.any (·.refKey) = false
  | [], _, _, _ => ⟨rfl, rfl⟩
  | e :: r, [], h, _ => by cases h
  | e :: r, k :: ks, h, hz => by
    have h1 : He.keyOf e :: r.map He.keyOf = some (k, PyData.keyHash P k) :: He.keysIn P ks := h
    injection h1 with h2 h3
    obtain ⟨i1, i2⟩ := keys_none h3 fun m => hz (List.mem_cons_of_mem _ m)
    unfold He.keyOf at h2
    split at h2
    · rename_i x t q
      obtain ⟨h5, _⟩ := Prod.mk.inj (Option.some.inj h2)
      have ne : (x == z) = false := by
        rw [beq_eq_false_iff_ne, h5]
        exact fun e => hz (e ▸ List.mem_cons_self)
      constructor
      · rw [List.find?_cons]
        have : e.key.isStr z = false := by rw [q]; exact ne
        rw [this]
        exact i1
      · rw [List.any_cons, i2, Bool.or_false]
        unfold DictEntry.refKey
        rw [q]
    · cases h2
theorem ns_none {K : PySem.W.Frag} {w : World} {a : Addr} {ks : List Str} {z : Str} (h : He.dicW K a = some (He.keysIn w.params ks)) (hz : z ∉ ks) : PySem.W.nsIn K a z = some none := by
  obtain ⟨es, n, D⟩ := He.dicW_ok h
  have e := D.at_
  unfold He.dicW at h
  rw [e] at h
  have h1 : (match decide ((("dict" : String)) = "dict") && ((#[] : Array (Option Value)).isEmpty && !(a == sysModules)) with
    | true => some (es.toList.map He.keyOf)
    | false => none) = some (He.keysIn w.params ks) := h
  rw [D.low] at h1
  obtain ⟨i1, i2⟩ := keys_none (Option.some.inj h1) hz
  unfold PySem.W.nsIn
  rw [e]
  show (match es.toList.find? (·.key.isStr z) with
      | some e => some (some e.val)
      | none => if es.toList.any (·.refKey) then none else some none) = some none
  rw [i1]
  show (if es.toList.any (·.refKey) then none else some none) = some none
  rw [i2]
  rfl
theorem tabIn_of {K : PySem.W.Frag} {x : Str} {f c P : Addr} {oc e : Value} {od dd : Option Addr} {fd : FuncData} {osl sl : Array (Option Value)} {vs : Array Value} (h1 : PySem.W.nsIn K mainGlobals x = some (some (.ref f))) (h2 : K.lookup f = some ⟨oc, od, .func fd, osl⟩) (h3 : fd.code = .ref c)
    (h4 : K.lookup c = some ⟨e, dd, .fields vs, sl⟩) (h5 : vs[11]? = some (.ref P)) : PySem.W.tabIn K x = some (c, P) := by
  unfold PySem.W.tabIn
  rw [h1]
  show (match K.lookup f with
    | some ⟨_, _, .func fd, _⟩ => (match fd.code with
      | .ref c => (match K.lookup c with
        | some ⟨_, _, .fields vs, _⟩ => (match (vs[11]? : Option Value) with
          | some (.ref P) => some (c, P)
          | _ => none)
        | _ => none)
      | _ => none)
    | _ => none) = some (c, P)
  rw [h2]
  show (match fd.code with
      | .ref c => (match K.lookup c with
        | some ⟨_, _, .fields vs, _⟩ => (match (vs[11]? : Option Value) with
          | some (.ref P) => some (c, P)
          | _ => none)
        | _ => none)
      | _ => none) = some (c, P)
  rw [h3]
  show (match K.lookup c with
        | some ⟨_, _, .fields vs, _⟩ => (match (vs[11]? : Option Value) with
          | some (.ref P) => some (c, P)
          | _ => none)
        | _ => none) = some (c, P)
  rw [h4]
  show (match (vs[11]? : Option Value) with
          | some (.ref P) => some (c, P)
          | _ => none) = some (c, P)
  rw [h5]
/-- the end of a law that holds lambdas of its own -/
theorem walk_tab {l : PySem.W.OpenLaw} {k : Nat} {q : Program} {loose : List Str} {XP : (Str → Option Value) → Heap → Prop} {YP : World → Heap → Prop} {d : DefRec} {K : Params → PySem.W.Frag} {x : Str}
    (hn : l.most = some 63) (hdf : d.params.defaults = []) (hr : Room k callerA) (hrec : ((recsOf q).any fun e => e.name == d.name) = true) (hY : ∀ (w : World) (h : Heap), YP w h → (K w.params).In h)
    (F : ∀ (w : World) (mg : Str → Option Value) (fa : Addr) (h : Heap), (K w.params).In h → h.Ns mainGlobals mg → mg d.name = some (.ref fa) →
      ∃ (fd : FuncData) (c P : Addr) (sp : Sp), PySem.W.tabIn (K w.params) d.name = some (c, P) ∧ (K w.params).lookup P = none ∧ (∀ (s : Shared) (u : Value), BindsTo s fd ⟨[u], []⟩ [(x, u)]) ∧
        (∀ (H : Hp) (a : Addr) (ns : List Int), ns.length ≤ 63 → H P = some (.tbl #[]) → SqL (K w.params) H a (ns.map V.int) → sp [.ref a] H (fun v _ => v = .bl true) fun _ _ _ => False) ∧
        ∀ base : Heap, (K w.params).In base → base.Ns mainGlobals mg → LamX.TabB base mg c P → FnOk l.prog w (K w.params) mg base CX0 k fa fd [x] sp) :
    PySem.W.WalkO q loose XP YP l.row.toRowW d [] (fun f vs => PySem.call f vs) := by
  refine Att.attach_callB hn hdf fun w s₀ s₁ mg mb fa o pm cd doc a vs ns G Y ho hd hcd hmg hobj hints hlen hbits hg => ?_
  have KX := hY w _ Y
  obtain ⟨fd, c, P, sp, hT, nT, hb, hsp, hF⟩ := F w mg fa _ KX G.T.g hmg
  obtain ⟨dL, hr2⟩ : ∃ dL, (recsOf q).find? (fun e => e.name == d.name) = some dL := by
    have : ((recsOf q).find? (fun e => e.name == d.name)).isSome = true := by
      rw [List.find?_isSome]
      exact List.any_eq_true.mp hrec
    exact Option.isSome_iff_exists.mp this
  obtain ⟨C, hP⟩ := PySem.W.tab_of G.T KX hr2 hT
  have one : ∀ {Pr : Addr × Addr → Prop}, Pr (c, P) → ∀ p ∈ [(c, P)], Pr p := fun h p hp => by
    rw [List.mem_singleton.mp hp]
    exact h
  exact LamX.law_callTs (cs := [(c, P)]) KX G.T.g G.T.b G.T.builtins G.T.nolimit hg (one hP) (one nT) (one C) G.T.bmain hobj hints (Nat.le_trans hlen (by decide)) hr
    (fun base h1 h2 h3 => hF base h1 h2 (h3 _ List.mem_cons_self)) hb (fun H hH hS => hsp H a ns hlen (hH _ List.mem_cons_self) hS) fun H e s' h => h.elim
end MK
set_option Elab.async false
set_option linter.all false
set_option autoImplicit false
set_option maxRecDepth 100000
set_option maxHeartbeats 1000000
/-! len(o), o[x] of own instances -/
namespace MK
open PySem PySem.Spec PyProof.Rows L2
def rLenOwn (C : Addr) (sp : Sp) : List V → Hp → VK → Prop := fun xs H Q => ∃ a dx fs, xs = [.ref a] ∧ H a = some (.ins C dx fs) ∧ sp [.ref a] H (fun v H' => ∃ n : Nat, v = .int n ∧ n < 1000000 ∧ Q (.int n) H') E0
def rIxOwn (C : Addr) (sp : Sp) (E : XK) : R2 := fun x y H Q => ∃ a dx fs, x = .ref a ∧ H a = some (.ins C dx fs) ∧ sp [x, y] H Q E
section
variable {X : Cx} {C f : Addr} {fd : FuncData} {ps : List Str} {k : Nat} {sp : Sp} {CX : CXT} {E : XK}
theorem call_lenOwn (F : FnOk X.prog X.w X.K X.mg X.base CX0 k f fd ps sp) (hs : PySem.W.findIn X.K (.ref C) "__len__" = some (some (.ref f))) (hf : PySem.W.isFn X.K (.ref f) = true) (hb : Binds X.K fd ps []) (hr : Room (k + 1) X.A) : CallR X (.builtin "len") (rLenOwn C sp) := by
  intro pins s σ H xs us Q I r h
  obtain ⟨a, dx, fs, rfl, ha, h⟩ := h
  obtain ⟨u, rfl, ru⟩ := vals1 r
  cases ru
  obtain ⟨mA, J, _⟩ := ins_get I.hok ha
  obtain ⟨od, J, _⟩ := J.look
  obtain ⟨m, hF⟩ := I.fr
  refine PySem.W.len_K hF I.ok.mod.kin J hs hf ?_
  have r2 : Vals [V.ref a] [Value.ref a] := .cons rfl .nil
  have hl : [Value.ref a].length = ps.length := by rw [← r2.length]; exact F.len _ _ _ _ h
  refine wpAny_call (codeAny_mono (F.run X.A.in1 X.stack s H ⟨[.ref a], []⟩ _ _ _ E0 hr.in1 I.env0.in1 (by have := hb s [.ref a] I.kIn (by rw [List.append_nil]; exact hl); rw [List.append_nil] at this; exact this) r2 h) fun r s' hq => ?_)
  cases r with
  | error e => exact False.elim hq
  | ok fl =>
    cases fl with
    | ret u =>
      obtain ⟨v, H1, I1, rz, n, ez, hn, q⟩ := I.after hq
      subst ez
      obtain ⟨t, rfl⟩ := rz
      exact ⟨⟨by omega, by have : (n : Int) < 1000000 := by omega
                           omega⟩, .int n, H1, I1.tok _, ⟨_, rfl⟩, q⟩
    | next => exact False.elim hq
    | brk => exact False.elim hq
    | cont => exact False.elim hq
theorem pe_ixOwn {ea eb : Expr} {ta tb : TE} {pos : Pos} (ha : PE X ea ta) (he : PE X eb tb) (F : FnOk X.prog X.w X.K X.mg X.base CX k f fd ps sp) (hs : PySem.W.findIn X.K (.ref C) "__getitem__" = some (some (.ref f))) (hq : PySem.W.fnIn X.K f = true) (hf : PySem.W.isFn X.K (.ref f) = true) (hb : Binds X.K fd ps []) (hr : Room (k + 1) X.A) (hx : Passes CX X E)
    (hsl : ∀ (x : Addr) (i : Value), subscripted eb true (.ref x) i = runValue (.builtin "lifetime.subscript" ⟨[.ref x, i], []⟩)) : PE X (.Subscript ea eb pos) (tOp (rIxOwn C sp E) ta tb) := by
  refine ⟨fun pins s σ H Q I h => ?_⟩
  refine Subscript_ (binT ha he I h fun v u s2 x y H2 I2 rx ry q => ?_)
  obtain ⟨a, dx, fs, ex, ea', q⟩ := q
  subst ex
  obtain rfl : v = Value.ref a := rx
  obtain ⟨mA, J, _⟩ := ins_get I2.hok ea'
  obtain ⟨od, J, _⟩ := J.look
  obtain ⟨m, hF⟩ := I2.fr
  have r2 : Vals [V.ref a, y] [Value.ref a, u] := .cons rfl (.cons ry .nil)
  have hl : [Value.ref a, u].length = ps.length := by rw [← r2.length]; exact F.len _ _ _ _ q
  have hbd := hb s2 [.ref a, u] I2.kIn (by rw [List.append_nil]; exact hl)
  rw [List.append_nil] at hbd
  refine PySem.W.sub_K hF I2.ok.mod.kin J hs hq hf (wpAny_call (codeAny_mono (F.run X.A.in1 X.stack s2 H2 ⟨[.ref a, u], []⟩ _ _ _ E hr.in1 I2.env0.in1 hbd r2 q) fun r s' hq => ?_)) (hsl a u)
  cases r with
  | error e => exact hx pins σ H2 s2 e s' I2 hq
  | ok fl =>
    cases fl with
    | ret u => exact I2.after hq
    | next => exact False.elim hq
    | brk => exact False.elim hq
    | cont => exact False.elim hq
end
end MK
set_option Elab.async false
set_option linter.all false
set_option autoImplicit false
set_option maxRecDepth 100000
set_option maxHeartbeats 1000000
/-! for x in o, where o's own __iter__ returns the iterator of a dict of its -/
namespace MK
open PySem PySem.Spec PyProof.Rows L2 ItX
/-- what is promised of a def, told with the number of objects that there are when it is called -/
structure FnS (P : Program) (w : World) (K : PySem.W.Frag) (mg : Str → Option Value) (base : Heap) (k : Nat) (f : Addr) (fd : FuncData) (ps : List Str) (sp : Nat → Sp) : Prop where
  len : ∀ n vs H Q, sp n vs H Q E0 → vs.length = ps.length
  run : ∀ (A : Around) (outer : List Env) (s : Shared) (H : Hp) (us : List Value) (vs : List V) (Q : VK), Room k A → Env0 P w K mg base A outer s H → BindsTo s fd ⟨us, []⟩ (ps.zip us) → Vals vs us →
    sp s.heap.objs.size vs H Q E0 → codeAny (model P w) A (.call (.ref f) ⟨us, []⟩) (CR CX0 outer P w H s Q E0) s
theorem fnS_of {P : Program} {w : World} {K : PySem.W.Frag} {mg : Str → Option Value} {base : Heap} {k : Nat} {x qual : Str} {st : Stmt} {f : Addr} {fd : FuncData} {N ps : List Str} {sp : Nat → Sp} (F : Fun K x qual st f fd) (S : FnScope N ps (defScope st))
    (len : ∀ n vs H Q, sp n vs H Q E0 → vs.length = ps.length)
    (hbody : ∀ (cdv : Value) (A : Around) (outer : List Env) (s : Shared) (H : Hp) (vs : List V) (Q : VK), Room k (A.deeper (envOfC qual (defScope st) s.heap.objs.size f cdv)) → sp s.heap.objs.size vs H Q E0 →
      ∃ t, PSs (cxOf CX0 P w K mg base N qual (defScope st) f cdv A outer s H E0).nox (defBody st) t ∧ t { nx := fun _ H' => Q .non H', rt := Q } (start N vs) H) : FnS P w K mg base (k + 1) f fd ps sp := by
  obtain ⟨oc, od, kV, doc, pm, an, cdv, ct, osl, rfl, lk, hcd⟩ := F.ex
  refine ⟨len, fun A outer s H us vs Q hr e0 hb r hsp => ?_⟩
  have nn := len _ _ _ _ hsp
  have kin := e0.mod.kin.keeps fun b o e => (e0.bs b o e).1
  have noL := e0.mod.nolimit.keeps fun b o e => (e0.bs b o e).1
  have kinds : ∀ y ∈ ps.zip us, (defScope st).names.lookup y.1 = some .local ∨
      ((defScope st).names.lookup y.1 = some .cell ∧ ((cellsFrom (s.heap.objs.size + 1) (defScope st).names []).lookup y.1).isSome = true) := by
    rintro ⟨n, v⟩ hy
    rcases S.par n (List.of_mem_zip hy).1 with q | q
    · exact Or.inl q
    · exact Or.inr ⟨q, PySem.W.cellsFrom_some _ _ _ (Or.inl q)⟩
  refine codeAny_call_function hr.depth (kin _ _ lk) rfl S.co S.gen rfl (PySem.W.codeRec_of kin hcd)
    (hb _ _ _ _ ?_)
  refine wpAny_newFunctionEnv_cells S.kind kinds
    fun env he s1 x => ?_
  cases he
  refine ⟨noL.keeps x.toInCall.keep,
    codeAny_func ?_⟩
  obtain ⟨t, ht, hq⟩ := hbody cdv A outer s H vs Q (hr.deeper _) hsp
  have J0 := inv_start (CX := CX0) (E := E0) (qual := qual) (f := f) (cd := cdv)
    S hr.hd e0 nn r x
  refine wpAny_mono (ht.nox.run [] s1 _ H _ J0 hq)
    (fun fl s' hs => ?_) fun e s' hs => hs
  cases fl with
  | ret u =>
    obtain ⟨v, σ', H', J, rv, q⟩ := hs
    exact ⟨v, H', J.os, J.bare, J.base, J.hok, rv, q⟩
  | next =>
    obtain ⟨σ', H', J, q⟩ := hs
    exact ⟨V.non, H', J.os, J.bare, J.base, J.hok, rfl, q⟩
  | brk => exact hs.elim fun _ h => h.elim fun _ h => h.elim fun _ h => h.elim
  | cont => exact hs.elim fun _ h => h.elim fun _ h => h.elim fun _ h => h.elim
/-- a dict's iterator over its keys, new -/
def KitO (it d : Addr) (n ep : Nat) : HO := .ext fun h => h.IsKeyIter it d 0 n ep
theorem kit_ok {P : Program} {w : World} {H : Hp} {h : Heap} {d ep : Nat} {es : Array DictEntry} {n : Nat} (hz : es.size = n) :
    ObjOk P w H (h.push { cls := .type "dict_keyiterator", data := .fields #[.ref d, .int 0 0, .int es.size 0, .int ep 0] }) h.objs.size (KitO h.objs.size d n ep) := by
  refine ⟨?_, ⟨_, Heap.get?_push_size _ rfl⟩, fun h1 h2 x k => ?_⟩
  · refine ⟨_, Heap.get?_push_size _ rfl, rfl, ?_⟩
    rw [hz]
    rfl
  · obtain ⟨o, ho, hc⟩ := x
    exact ⟨o, k o ho, hc⟩
/-- iter(d), d locked -/
def rIterK (n : Nat) : List V → Hp → VK → Prop := fun xs H Q => ∃ (d : Addr) (o : Obj) (kvs : List (Key × V)), xs = [.ref d] ∧ H d = some (.frz o (.dK kvs)) ∧
  ∀ it es ep, o.data = .dict es ep → H it = none → n ≤ it → Q (.ref it) (upd H it (KitO it d kvs.length ep))
section
variable {X : Cx}
theorem call_iterK : CallR X (.builtin "iter") (rIterK X.s_0.heap.objs.size) := by
  intro pins s σ H xs us Q I r h
  obtain ⟨d, o, kvs, rfl, hd, q⟩ := h
  obtain ⟨u, rfl, ru⟩ := vals1 r
  cases ru
  obtain ⟨hs, hgd, hx, es, ep, vs, hdt, hsz, kv, hm⟩ := I.frzK hd
  refine Calls.call_function_entry (by decide +kernel) (by decide +kernel)
    PySem.W.kdk_entry_iter (PySem.W.kdk_args_iter _) ?_
  unfold Builtin.«iter»
  refine wpAny_bind (m := someArgs "iter" 1 2 _)
    (wpAny_of_eq (a := [Value.ref d]) (by first | rfl | kernel_rfl!) ?_)
  show wpAny _ _ (pyIter (.ref d) >>= _) _ _ _
  refine wpAny_bind (iter_keys hs hgd hx hdt ?_)
  refine wpAny_pure ⟨_, rfl, .ref s.heap.objs.size, _, I.laid (t' := s.toks) (fun b u e => Heap.get?_push_of_some _ e) (Nat.le_refl _) ?_, rfl, q _ es ep hdt (I.hok.fresh (Nat.le_refl _)) I.sz⟩
  exact kit_ok hsz
/-- the keys of the dict d of an own instance, through its own __iter__; d is locked -/
def iOwn (C : Addr) (fld : Str) (te : TE) : TI := fun σ H R => te σ H fun x H1 => ∃ (a dx d : Addr) (fs : List (Str × V)) (o : Obj) (kvs : List (Key × V)), x = .ref a ∧ H1 a = some (.ins C dx fs) ∧ fs.lookup fld = some (.ref d) ∧ H1 d = some (.frz o (.dK kvs)) ∧ R (Itk d o kvs) H1
/-- what the own __iter__ promises -/
def spIter (C : Addr) (fld : Str) (n : Nat) : Sp := fun vs H Q _ => ∃ (a dx d : Addr) (fs : List (Str × V)) (o : Obj) (kvs : List (Key × V)), vs = [.ref a] ∧ H a = some (.ins C dx fs) ∧ fs.lookup fld = some (.ref d) ∧ H d = some (.frz o (.dK kvs)) ∧
  ∀ it es ep, o.data = .dict es ep → H it = none → n ≤ it → Q (.ref it) (upd H it (KitO it d kvs.length ep))
theorem pi_own {tg e : Expr} {te : TE} {C f : Addr} {fd : FuncData} {ps : List Str} {fld : Str} {k : Nat} (he : PE X e te) (F : FnS X.prog X.w X.K X.mg X.base k f fd ps (spIter C fld)) (hs : PySem.W.findIn X.K (.ref C) "__iter__" = some (some (.ref f))) (hf : PySem.W.isFn X.K (.ref f) = true) (hb : Binds X.K fd ps []) (hr : Room k X.A) :
    PI X tg e (iOwn C fld te) := by
  refine ⟨fun pins s σ H R I h => ?_⟩
  refine thn (he.run pins s σ H _ I h) fun u s1 ⟨x, H1, I1, rx, a, dx, d, fs, o, kvs, ex, ha, hl, hd, q⟩ => ?_
  subst ex
  obtain rfl : u = Value.ref a := rx
  obtain ⟨mA, J, _⟩ := ins_get I1.hok ha
  obtain ⟨od, J, _⟩ := J.look
  obtain ⟨m, hF⟩ := I1.fr
  have r2 : Vals [V.ref a] [Value.ref a] := .cons rfl .nil
  obtain ⟨hs0, hgd, hx, es, ep, vs, hdt, hsz, kv, hm⟩ := I1.frzK hd
  have hsp : spIter C fld s1.heap.objs.size [.ref a] H1 (fun v H2 => ∃ it, v = .ref it ∧ H1 it = none ∧ s1.heap.objs.size ≤ it ∧ H2 = upd H1 it (KitO it d kvs.length ep)) E0 :=
    ⟨a, dx, d, fs, o, kvs, rfl, ha, hl, hd, fun it es' ep' he' hn hle => ⟨it, rfl, hn, hle, by rw [(dict_ep hdt he').2]⟩⟩
  have hln := F.len _ _ _ _ hsp
  have hbd := hb s1 [.ref a] I1.kIn (by rw [List.append_nil, ← r2.length]; exact hln)
  rw [List.append_nil] at hbd
  refine PySem.W.owit_iter hF I1.ok.mod.kin J hs hf (wpAny_call (codeAny_mono (F.run X.A X.stack s1 H1 [.ref a] _ _ hr I1.env0 hbd r2 hsp) fun r s' hq => ?_))
  cases r with
  | error e => exact False.elim hq
  | ok fl =>
    cases fl with
    | ret u =>
      obtain ⟨v, H2, I2, rz, it, ev, hn, hle, eH⟩ := I1.after hq
      subst ev eH
      obtain rfl : u = Value.ref it := rz
      have hit : upd H1 it (KitO it d kvs.length ep) it = some (KitO it d kvs.length ep) := upd_same
      have st : s'.heap.IsKeyIter it d 0 kvs.length ep := (show ObjOk X.prog X.w _ s'.heap it (KitO it d kvs.length ep) from I2.hok it _ hit).1
      unfold PySem.W.OwitIt
      refine (wpAny_specialOf (name := Str.ofString "__next__") st.typeIs PySem.F.slot_dict_keyiterator_next.lookup ?_)
      have hit' := hit
      unfold KitO at hit'
      have e1 : dropH (upd H1 it (KitO it d kvs.length ep)) it = H1 := by
        funext b
        by_cases z : b = it
        · rw [z, dropH_same, hn]
        · rw [dropH_ne z, upd_ne z]
      have I3 := inv_drop I2 hit'
      rw [e1] at I3
      refine ⟨it, [it], _, Itk d o kvs, H1, rfl, I3, turn_keys it hdt, st, fun b hb => ?_, q⟩
      have e : b = it := by simpa using hb
      rw [e, ← e1]
      exact inv_fp I2 hit (Nat.le_trans I1.sz hle)
    | next => exact False.elim hq
    | brk => exact False.elim hq
    | cont => exact False.elim hq
end
end MK
set_option Elab.async false
set_option linter.all false
set_option autoImplicit false
set_option maxRecDepth 100000
set_option maxHeartbeats 1000000
/-! lists within lists and tuples, by their addresses: what may be changed -/
namespace MK
open PySem PySem.Spec PyProof.Rows L2
def Prim (x : V) : Prop := x = .non ∨ (∃ b, x = .bl b) ∨ (∃ i, x = .int i) ∨ ∃ z, x = .str z
theorem prim_str (z : Str) : Prim (.str z) := .inr (.inr (.inr ⟨z, rfl⟩))
theorem prim_int (i : Int) : Prim (.int i) := .inr (.inr (.inl ⟨i, rfl⟩))
theorem prim_bl (b : Bool) : Prim (.bl b) := .inr (.inl ⟨b, rfl⟩)
/-- item by item, the addresses one behind another -/
def WL (R : V → List Addr → Prop) : List V → List Addr → Prop
  | [], L => L = []
  | x :: xs, L => ∃ L1 L2, L = L1 ++ L2 ∧ R x L1 ∧ WL R xs L2
theorem WL.mono {R S : V → List Addr → Prop} : ∀ {xs : List V} {L : List Addr}, (∀ x ∈ xs, ∀ M, (∀ b ∈ M, b ∈ L) → R x M → S x M) → WL R xs L → WL S xs L
  | [], _, _, h => h
  | x :: xs, L, f, ⟨M1, M2, e, r, h⟩ => ⟨M1, M2, e, f x List.mem_cons_self M1 (fun b hb => by rw [e]; exact List.mem_append_left _ hb) r,
      h.mono fun y hy M hM => f y (List.mem_cons_of_mem _ hy) M fun b hb => by rw [e]; exact List.mem_append_right _ (hM b hb)⟩
theorem WL.snoc {R : V → List Addr → Prop} : ∀ {xs : List V} {L : List Addr} {x : V} {M : List Addr}, WL R xs L → R x M → WL R (xs ++ [x]) (L ++ M)
  | [], L, x, M, h, r => ⟨M, [], by rw [show L = [] from h]; simp, r, rfl⟩
  | y :: ys, L, x, M, ⟨M1, M2, e, r1, h⟩, r => ⟨M1, M2 ++ M, by rw [e, List.append_assoc], r1, h.snoc r⟩
theorem WL.flat {R : V → List Addr → Prop} : ∀ {xs : List V}, (∀ x ∈ xs, R x []) → WL R xs []
  | [], _ => rfl
  | x :: xs, h => ⟨[], [], rfl, h x List.mem_cons_self, WL.flat fun y hy => h y (List.mem_cons_of_mem _ hy)⟩
theorem WL.mem {R : V → List Addr → Prop} : ∀ {xs : List V} {L : List Addr} {b : Addr}, WL R xs L → b ∈ L → ∃ x ∈ xs, ∃ M, R x M ∧ b ∈ M
  | [], L, b, h, hb => by rw [show L = [] from h] at hb; cases hb
  | x :: xs, L, b, ⟨M1, M2, e, r, h⟩, hb => by
    rw [e] at hb
    rcases List.mem_append.mp hb with hb | hb
    · exact ⟨x, List.mem_cons_self, M1, r, hb⟩
    · obtain ⟨y, hy, M, r2, m⟩ := h.mem hb
      exact ⟨y, List.mem_cons_of_mem _ hy, M, r2, m⟩
/-- to depth n, with L the addresses of its lists -/
def W (K : PySem.W.Frag) (H : Hp) : Nat → V → List Addr → Prop
  | 0, x, L => Prim x ∧ L = []
  | n + 1, x, L => (Prim x ∧ L = []) ∨ (∃ a xs Ls, x = .ref a ∧ H a = some (.lst xs) ∧ WL (W K H n) xs Ls ∧ L = a :: Ls ∧ xs.length < 1000) ∨
      (∃ a xs, x = .ref a ∧ SqT K H a xs ∧ WL (W K H n) xs L ∧ xs.length < 1000)
theorem W.prim {K : PySem.W.Frag} {H : Hp} {x : V} (h : Prim x) : ∀ n, W K H n x []
  | 0 => ⟨h, rfl⟩
  | _ + 1 => .inl ⟨h, rfl⟩
def LstAt (L : List Addr) (H : Hp) : Prop := ∀ b ∈ L, ∃ ys, H b = some (.lst ys)
theorem W.lsts {K : PySem.W.Frag} {H : Hp} : ∀ {n : Nat} {x : V} {L : List Addr}, W K H n x L → LstAt L H
  | 0, _, _, ⟨_, e⟩, b, hb => by rw [e] at hb; cases hb
  | n + 1, _, L, h, b, hb => by
    rcases h with ⟨_, e⟩ | ⟨a, xs, Ls, _, ha, hw, e, _⟩ | ⟨a, xs, _, _, hw, _⟩
    · rw [e] at hb; cases hb
    · rw [e] at hb
      rcases List.mem_cons.mp hb with rfl | hb
      · exact ⟨xs, ha⟩
      · obtain ⟨y, hy, M, r, m⟩ := hw.mem hb
        exact W.lsts r b m
    · obtain ⟨y, hy, M, r, m⟩ := hw.mem hb
      exact W.lsts r b m
/-- but for the lists at M all is as it was -/
def Chg (M : List Addr) (H H' : Hp) : Prop := (∀ b o, H b = some o → b ∉ M → H' b = some o) ∧ LstAt M H'
theorem Chg.nil {H H' : Hp} (e : Same H H') : Chg [] H H' := ⟨fun b o h _ => e b o h, nofun⟩
theorem Chg.trans {M N : List Addr} {H H1 H2 : Hp} (a : Chg M H H1) (b : Chg N H1 H2) : Chg (M ++ N) H H2 := by
  refine ⟨fun c o h hc => b.1 c o (a.1 c o h fun z => hc (List.mem_append_left _ z)) fun z => hc (List.mem_append_right _ z), fun c hc => ?_⟩
  by_cases z : c ∈ N
  · exact b.2 c z
  · obtain ⟨ys, h⟩ := a.2 c ((List.mem_append.mp hc).resolve_right z)
    exact ⟨ys, b.1 c _ h z⟩
theorem sqt_chg {K : PySem.W.Frag} {M : List Addr} {H H' : Hp} {a : Addr} {xs : List V} (c : Chg M H H') (l : LstAt M H) (h : SqT K H a xs) : SqT K H' a xs := by
  have no : ∀ {o : HO}, H a = some o → (∀ ys, o ≠ .lst ys) → a ∉ M := fun ha n z => by
    obtain ⟨ys, e⟩ := l a z
    rw [ha] at e
    exact n ys (Option.some.inj e)
  rcases h with (h | ⟨o, h⟩) | h
  · exact .inl (.inl (c.1 _ _ h (no h nofun)))
  · exact .inl (.inr ⟨o, c.1 _ _ h (no h nofun)⟩)
  · exact .inr h
theorem W.chg {K : PySem.W.Frag} {M : List Addr} {H H' : Hp} (c : Chg M H H') (l : LstAt M H) : ∀ {n : Nat} {x : V} {L : List Addr}, W K H n x L → (∀ b ∈ L, b ∉ M) → W K H' n x L
  | 0, _, _, h, _ => h
  | n + 1, _, L, h, d => by
    rcases h with h | ⟨a, xs, Ls, r, ha, hw, e, z⟩ | ⟨a, xs, r, ha, hw, z⟩
    · exact .inl h
    · refine .inr (.inl ⟨a, xs, Ls, r, c.1 _ _ ha (d a (by rw [e]; exact List.mem_cons_self)), hw.mono fun y _ N hN w => W.chg c l w fun b hb => d b (by rw [e]; exact List.mem_cons_of_mem _ (hN b hb)), e, z⟩)
    · exact .inr (.inr ⟨a, xs, r, sqt_chg c l ha, hw.mono fun y _ N hN w => W.chg c l w fun b hb => d b (hN b hb), z⟩)
theorem W.keep {K : PySem.W.Frag} {H H' : Hp} (e : Same H H') {n : Nat} {x : V} {L : List Addr} (h : W K H n x L) : W K H' n x L := h.chg (Chg.nil e) nofun fun _ _ => by simp
theorem prim_t {K : PySem.W.Frag} {H : Hp} {x : V} (h : Prim x) : ∃ t : String, TyX K H x (.type t) ∧ kitB t "list" = some false ∧ kitB t "tuple" = some false := by
  rcases h with rfl | ⟨b, rfl⟩ | ⟨i, rfl⟩ | ⟨z, rfl⟩
  · exact ⟨"NoneType", .base .non, by decide +kernel, by decide +kernel⟩
  · exact ⟨"bool", .base (.bl b), by decide +kernel, by decide +kernel⟩
  · exact ⟨"int", .base (.int i), by decide +kernel, by decide +kernel⟩
  · exact ⟨"str", .base (.str z), by decide +kernel, by decide +kernel⟩
/-- one address alone -/
def One (H : Hp) (a : Addr) : Hp := fun b => if b = a then H b else none
theorem one_at {H : Hp} {a : Addr} : One H a a = H a := if_pos rfl
theorem one_same {H H' : Hp} {a : Addr} (e : ∀ o, H a = some o → H' a = some o) : Same (One H a) H' := fun b o h => by
  unfold One at h
  split at h
  · rename_i q
    subst q
    exact e o h
  · cases h
theorem one_sqt {K : PySem.W.Frag} {H : Hp} {a : Addr} {xs : List V} (h : SqT K H a xs) : SqT K (One H a) a xs := by
  rcases h with (h | ⟨o, h⟩) | h
  · exact .inl (.inl (one_at.trans h))
  · exact .inl (.inr ⟨o, one_at.trans h⟩)
  · exact .inr h
end MK
set_option Elab.async false
set_option linter.all false
set_option autoImplicit false
set_option maxRecDepth 100000
set_option maxHeartbeats 400000
/-! x == y, x of an own class with its own __eq__, y of a built-in type -/
namespace MK
open PySem PySem.Spec PyProof.Rows L2
theorem ty_looks {X : Cx} {pins : List (Addr × Obj)} {σ : L2.St} {H : Hp} {s : Shared} {M : Model} {x : V} {u : Value} {t : String} (I : Inv X pins σ H s) (rx : RelV x u) (ty : TyOf X.K H x (.type t)) : PySem.W.Looks M s.heap (typeOf u) (.type t) := by
  have heapT : ∀ {a : Addr} {o : Obj} {t : String}, s.heap.get? a = some o → o.cls = .type t → PySem.W.Looks M s.heap (typeOf (.ref a)) (.type t) := fun h1 h2 => h2 ▸ (PySem.W.Looks.ld h1).andThen .now
  cases ty with
  | non =>
    cases (show u = Value.none from rx)
    exact .of_pure rfl
  | bl y =>
    cases (show u = Value.bool y from rx)
    exact .of_pure rfl
  | int i =>
    obtain ⟨t, q⟩ := (show ∃ t, u = Value.int i t from rx)
    cases q
    exact .of_pure rfl
  | str y =>
    obtain ⟨t, q⟩ := (show ∃ t, u = Value.str y t from rx)
    cases q
    exact .of_pure rfl
  | flt y =>
    obtain ⟨t, q⟩ := (show ∃ t, u = Value.float y t from rx)
    cases q
    exact .of_pure rfl
  | @lst a xs ea =>
    cases (show u = Value.ref a from rx)
    obtain ⟨_, _, n, _, h1⟩ := (show ObjOk X.prog X.w H s.heap a (.lst xs) from I.hok a _ ea)
    exact heapT h1 rfl
  | @frz a ob xs ea =>
    cases (show u = Value.ref a from rx)
    obtain ⟨_, _, _, n, _, h1⟩ := (show ObjOk X.prog X.w H s.heap a (.frz ob (.lst xs)) from I.hok a _ ea)
    exact heapT h1 rfl
  | @tup a xs ea =>
    cases (show u = Value.ref a from rx)
    obtain ⟨_, _, _, p⟩ := (show ObjOk X.prog X.w H s.heap a (.tup xs) from I.hok a _ ea)
    obtain ⟨o, h1, h2, _⟩ := p
    exact heapT h1 h2
  | @dK a kvs ea =>
    cases (show u = Value.ref a from rx)
    obtain ⟨_, _, vs, _, p⟩ := (show ObjOk X.prog X.w H s.heap a (.dK kvs) from I.hok a _ ea)
    obtain ⟨o, es, ep, h1, h2, _⟩ := p
    exact heapT h1 h2.1
  | @dT a kvs ea =>
    cases (show u = Value.ref a from rx)
    obtain ⟨_, _, xs, _, o, es, ep, h1, h2, _⟩ := (show ObjOk X.prog X.w H s.heap a (.dT kvs) from I.hok a _ ea)
    exact heapT h1 h2.1
def rEqOdd (K : PySem.W.Frag) (C : Addr) (sp : Sp) : R2 := fun x y H Q => ∃ (a dx : Addr) (fs : List (Str × V)) (t : String), x = .ref a ∧ H a = some (.ins C dx fs) ∧ TyOf K H y (.type t) ∧ PySem.W.notFirst K C (.type t) = true ∧ sp [x, y] H (fun v H' => ∃ r, v = .bl r ∧ Q v H') E0
theorem op_eqOdd {X : Cx} {C f : Addr} {fd : FuncData} {ps : List Str} {k : Nat} {sp : Sp} (F : FnOk X.prog X.w X.K X.mg X.base CX0 k f fd ps sp) (hs : PySem.W.findIn X.K (.ref C) "__eq__" = some (some (.ref f))) (hf : PySem.W.isFn X.K (.ref f) = true) (hb : Binds X.K fd ps []) (hr : Room k X.A) :
    OpR X (compareOp .Eq) (rEqOdd X.K C sp) := by
  intro pins s σ H x y v u Q I rx ry ⟨a, dx, fs, t, ex, ha, ty, nf, h⟩
  subst ex
  obtain rfl : v = Value.ref a := rx
  obtain ⟨mA, J, _⟩ := ins_get I.hok ha
  obtain ⟨od, J, _⟩ := J.look
  obtain ⟨m, hF⟩ := I.fr
  refine PySem.W.cmp_K (op := .Eq) (tb := .type t) hr.units0 hF I.ok.mod.kin J (ty_looks I ry ty) nf hs hf ?_
  have r2 : Vals [V.ref a, y] [Value.ref a, u] := .cons rfl (.cons ry .nil)
  refine thn (run_fn F hr hb .nil pass0 I r2 h) fun w s1 ⟨z, H1, I1, rz, r, ez, q⟩ => ?_
  subst ez
  cases rz
  exact ⟨.bl r, H1, I1, rfl, q⟩
end MK
set_option Elab.async false
set_option linter.all false
set_option autoImplicit false
set_option maxRecDepth 100000
set_option maxHeartbeats 4000000
/-! len(set(texts)), texts that may come twice -/
namespace MK
open PySem PySem.Spec PyProof.Rows L2
/-- how many unlike ones there are among the first i -/
def dc (zs : List Str) : Nat → Nat
  | 0 => 0
  | i + 1 => if decide (zs.getD i Str.empty ∈ zs.take i) = true then dc zs i else dc zs i + 1
theorem dc_le (zs : List Str) : ∀ i, dc zs i ≤ i
  | 0 => Nat.le_refl _
  | i + 1 => by
    have := dc_le zs i
    unfold dc
    split <;> omega
theorem dc_nodup (zs : List Str) : ∀ i, i ≤ zs.length → (dc zs i = i ↔ (zs.take i).Nodup)
  | 0, _ => by simp [dc]
  | i + 1, h => by
    have ih := dc_nodup zs i (by omega)
    have le := dc_le zs i
    have e : zs.take (i + 1) = zs.take i ++ [zs.getD i Str.empty] := by
      rw [List.take_add_one, List.getElem?_eq_getElem (by omega), List.getD_eq_getElem?_getD, List.getElem?_eq_getElem (by omega)]
      rfl
    rw [e]
    unfold dc
    by_cases m : zs.getD i Str.empty ∈ zs.take i
    · rw [if_pos (decide_eq_true m)]
      constructor
      · intro q
        omega
      · intro q
        exact absurd rfl ((List.nodup_append.mp q).2.2 _ m _ (by simp))
    · rw [if_neg (by rw [decide_eq_false m]; exact nofun)]
      constructor
      · intro q
        exact List.nodup_append.mpr ⟨ih.mp (by omega), by simp, fun a ha b hb e => by
          rw [List.mem_singleton.mp hb] at e
          exact m (e ▸ ha)⟩
      · intro q
        have := ih.mpr (List.nodup_append.mp q).1
        omega
section
variable {prog : Program} {w : World} {A : Around} {R : Result → Shared → Prop} {I S : Addr} {fp wr : List Addr} {G : Array GenState → Array GenState → Prop} {n : Nat} {P : Nat → Value → Prop} {St : Nat → Shared → Prop} {zs : List Str}
theorem all_addedG (W : WalksS prog w A.in1 I fp wr G n P St) (off : S ∉ fp) (len : zs.length = n) (few : n < 1000) (at_ : ∀ i v, P i v → ∃ t, v = .str (zs.getD i Str.empty) t) :
    ∀ (left i : Nat) (s : Shared), i + left = n → St i s → s.heap.SetOf (strKind prog w) S (fun y => decide (y ∈ zs.take i)) (dc zs i) →
      (∀ s1, Moved (S :: wr) G s s1 → s1.heap.SetOf (strKind prog w) S (fun y => decide (y ∈ zs)) (dc zs n) → R (.ok (.ret .none)) s1) → codeAny (model prog w) A (.builtin "set.update.loop" ⟨[.ref S, .ref I], []⟩) R s := by
  intro left
  have off2 : S ∉ wr := fun m => off (W.sub _ m)
  induction left with
  | zero =>
    intro i s e st so k
    obtain rfl : i = n := e
    refine codeAny_builtin PyProof.Rows.F.entry_set_update_loop ?_
    rw [Around.under_plainId PyProof.Rows.F.plain_set_update_loop _]
    refine wpAny_bind (W.done s _ _ st fun s1 mv => wpAny_pure (k s1 (mv.mono fun b m => List.mem_cons_of_mem _ m) ?_))
    obtain ⟨o, es, ep, t, g, more⟩ := so
    have so1 : s1.heap.SetOf (strKind prog w) S (fun y => decide (y ∈ zs.take i)) (dc zs i) := ⟨o, es, ep, t, mv.heap S _ off2 g, more⟩
    rw [← len, List.take_length] at so1
    rw [← len]
    exact so1
  | succ left ih =>
    intro i s e st so k
    have lt : i < n := by omega
    have ltz : i < zs.length := by omega
    refine codeAny_builtin PyProof.Rows.F.entry_set_update_loop ?_
    rw [Around.under_plainId PyProof.Rows.F.plain_set_update_loop _]
    refine wpAny_bind (W.item i s _ _ lt st fun v s1 pv st1 mv => ?_)
    obtain ⟨t, rfl⟩ := at_ i v pv
    have so1 : s1.heap.SetOf (strKind prog w) S (fun y => decide (y ∈ zs.take i)) (dc zs i) := by
      obtain ⟨o, es, ep, tb, g, more⟩ := so
      exact ⟨o, es, ep, tb, mv.heap S _ off2 g, more⟩
    refine wpAny_bind (wpAny_holding ?_)
    unfold setAdd
    refine wpAny_holding (wpAny_bind ((strKind prog w).pyHash (k := zs.getD i Str.empty) (strKind_is _ _ _ _) ?_))
    refine wpAny_setAddHashed_of (knd := strKind prog w) (s := { s1 with toks := s1.toks + 1 }) (strKind_is _ _ _ _) rfl so1 (by have := dc_le zs i; unfold scanBound; omega) fun h2 only so2 => ?_
    have so3 : h2.SetOf (strKind prog w) S (fun y => decide (y ∈ zs.take (i + 1))) (dc zs (i + 1)) := by
      refine SetOf_congr so2 (fun y => (take_next ltz y).symm) ?_
      rfl
    have keep : ∀ b, b ≠ S → ∀ o, s1.heap.get? b = some o → h2.get? b = some o := fun b ne o g => by
      rw [only.2 b ne]
      exact g
    refine wpAny_pure ⟨plainId_quiet PyProof.Rows.F.plain_set_update_loop _, ih (i + 1) _ (by omega) (W.frame _ s1 _ _ st1 (Nat.le_succ _) fun b m o g => keep b (fun q => off (q ▸ m)) o g) so3 fun s3 mv3 so4 => ?_⟩
    exact k s3 (Moved.trans W.gtrans ((mv.mono fun b m => List.mem_cons_of_mem _ m).then_heap (Nat.le_succ _) fun b o m g => keep b (fun q => m (by rw [q]; exact List.mem_cons_self)) o g) mv3) so4
end
section
variable {prog : Program} {w : World} {A : Around} {E : Value → Shared → Prop} {s : Shared} {l : Addr} {its : Array Value} {zs : List Str}
/-- what set(texts) leaves -/
def LaidG (prog : Program) (w : World) (s : Shared) (zs : List Str) (h : Heap) : Prop := h.SetOf (strKind prog w) s.heap.objs.size (fun y => decide (y ∈ zs)) (dc zs zs.length) ∧ ∀ b o, b < s.heap.objs.size → s.heap.get? b = some o → h.get? b = some o
theorem set_textsG {Q : Value → Shared → Prop} (calm : A.handled = none) (hl : s.heap.IsList l its) (hz : StrsAre its.toList zs) (few : zs.length < 1000)
    (k : ∀ (h : Heap) (tk : Nat), LaidG prog w s zs h → Q (.ref s.heap.objs.size) { s with heap := h, toks := tk }) : wpAny (model prog w) A (call (.type "set") [.ref l]) Q E s := by
  obtain ⟨c, tl, hmro⟩ := PySem.F.called_set.mro
  have m1 := PySem.F.called_set.made
  have m2 := PySem.F.called_set.sub
  refine wpAny_call (codeAny_of_tree (show wpAny _ _ (callAny (.type "set") _) _ _ _ from ?_))
  refine wpAny_pure ⟨Code.quiet_builtin _ (by decide +kernel), codeAny_builtin PySem.F.entry_type_call ?_⟩
  rw [Around.under_plain (weight_type_call_type "set" [.ref l] []) rfl]
  have m3 := PySem.F.called_set.notType
  have m4 := PySem.F.called_set.canCreate
  have m5 := PySem.F.typeCall_set_1 (.ref l)
  repeat (any_goals (first | assumption | wp_step))
  refine codeAny_mono (code_set_new_1 (.ref l) (E := E) (Q₁ := fun v s1 => ∃ led : Bool, v = .ref s.heap.objs.size ∧ s1 = newS s led) fun led => ⟨led, rfl, rfl⟩) fun r s1 hr => ?_
  cases r with
  | error e => exact hr
  | ok fl =>
    cases fl with
    | next => exact hr.elim
    | brk => exact hr.elim
    | cont => exact hr.elim
    | ret v =>
      obtain ⟨led, rfl, rfl⟩ := hr
      have at0 : (s.heap.push (set0 led)).get? s.heap.objs.size = some (set0 led) := Heap.get?_push_size _ rfl
      have ty0 : Shared.TypeIs (newS s led) (.ref s.heap.objs.size) "set" := ⟨_, at0, rfl⟩
      have m6 := PySem.F.called_set.init.lookup
      have m7 := PySem.F.called_set.init.bind (.ref s.heap.objs.size)
      unfold newS at ty0 ⊢
      repeat (any_goals (first | assumption | wp_step))
      refine codeAny_mono (codeAny_call_builtin (R := wants (fun v s2 => v = .none ∧ ∃ h tk, s2 = { s with heap := h, toks := tk } ∧ LaidG prog w s zs h) E) PySem.F.called_set.init.plain PySem.F.entry_set_init (check_set_init_1 ty0 ?_)) fun r2 s2 h2 => ?_
      · obtain ⟨⟨cl, di, da, sl⟩, g, rfl, nl, rfl⟩ := hl
        have g0 : (s.heap.push (set0 led)).get? l = some { cls := .type "list", dict := di, data := .seq its nl, slots := sl } := Heap.get?_push_of_some _ g
        have n1 := PySem.F.sub_list_set
        have n2 := PySem.F.sub_list_frozenset
        have n3 : (Value.type "list" == Value.type "dict") = false := by decide
        have l0 : (s.heap.push (set0 led)).IsList l its := ⟨_, g0, rfl, nl, rfl⟩
        unfold Builtin.«set.__init__» noKeywords Builtin.Frozenset.updateFrom
        generalize hit : pyIter = it
        wp_walk
        subst hit
        refine wpAny_pyIter_list l0 (wpAny_bind (wpAny_runValue ?_))
        have below : l < s.heap.objs.size := Heap.lt_size g
        have sz : (s.heap.push (set0 led)).objs.size = s.heap.objs.size + 1 := Heap.size_push ..
        have d1 : l ≠ (s.heap.push (set0 led)).objs.size := Nat.ne_of_lt (by rw [sz]; exact Nat.lt_succ_of_lt below)
        have d2 : s.heap.objs.size ∉ [(s.heap.push (set0 led)).objs.size, l] := by
          rw [sz]
          intro m
          rcases List.mem_cons.mp m with e | m
          · omega
          · exact absurd (List.mem_singleton.mp m) (Nat.ne_of_gt below)
        have lz : zs.length = its.size := by rw [← StrsAre.len_eq hz, Array.length_toList]
        refine all_addedG (S := s.heap.objs.size) ((Walks.list (by simp [calm]) _ l d1 its).toS) d2 lz (by omega) (fun i v e => SS.strs_at hz i v (by rw [Array.getElem?_toList]; exact e)) its.size 0 _ (Nat.zero_add _)
          ⟨⟨_, Heap.get?_push_size _ rfl, rfl, rfl⟩, l0.push _⟩ ?_ ?_
        · have g1 := Heap.get?_push_of_some { cls := .type "list_iterator", data := .fields #[.ref l, .int 0 0] } at0
          exact SetOf_congr ((setObjOf_fresh (knd := strKind prog w) led).setOf g1 (by unfold scanBound; omega)) (fun _ => rfl) rfl
        · rintro ⟨h, g', d', tk, os'⟩ mv so
          obtain rfl : g' = s.gens := mv.gens
          obtain rfl : d' = s.drawn := mv.drawn
          obtain rfl : os' = s.os := mv.os
          refine wpAny_pure (wpAny_pure ⟨rfl, h, tk, rfl, by rw [lz]; exact so, fun b o lt e => ?_⟩)
          refine mv.heap b o (fun m => ?_) (Heap.get?_push_of_some _ (Heap.get?_push_of_some _ e))
          rcases List.mem_cons.mp m with q | m
          · exact Nat.ne_of_lt lt q
          · rcases List.mem_cons.mp m with q | m
            · rw [sz] at q
              exact Nat.ne_of_lt (Nat.lt_succ_of_lt lt) q
            · cases m
      · cases r2 with
        | error e => exact h2
        | ok fl =>
          cases fl with
          | next => exact h2.elim
          | brk => exact h2.elim
          | cont => exact h2.elim
          | ret v =>
            obtain ⟨rfl, h, tk, rfl, laid⟩ := h2
            repeat (any_goals (first | assumption | wp_step))
            exact k h _ laid
end

end MK
set_option Elab.async false
set_option linter.all false
set_option autoImplicit false
set_option maxRecDepth 100000
set_option maxHeartbeats 4000000
namespace MK
open PySem PySem.Spec PyProof.Rows L2
section
variable {prog : Program} {w : World} {A : Around} {E : Value → Shared → Prop} {s : Shared} {l : Addr} {its : Array Value} {zs : List Str}
theorem set_textsGT {Q : Value → Shared → Prop} (calm : A.handled = none) (hl : s.heap.IsTuple l its) (hz : StrsAre its.toList zs) (few : zs.length < 1000)
    (k : ∀ (h : Heap) (tk : Nat), LaidG prog w s zs h → Q (.ref s.heap.objs.size) { s with heap := h, toks := tk }) : wpAny (model prog w) A (call (.type "set") [.ref l]) Q E s := by
  obtain ⟨c, tl, hmro⟩ := PySem.F.called_set.mro
  have m1 := PySem.F.called_set.made
  have m2 := PySem.F.called_set.sub
  refine wpAny_call (codeAny_of_tree (show wpAny _ _ (callAny (.type "set") _) _ _ _ from ?_))
  refine wpAny_pure ⟨Code.quiet_builtin _ (by decide +kernel), codeAny_builtin PySem.F.entry_type_call ?_⟩
  rw [Around.under_plain (weight_type_call_type "set" [.ref l] []) rfl]
  have m3 := PySem.F.called_set.notType
  have m4 := PySem.F.called_set.canCreate
  have m5 := PySem.F.typeCall_set_1 (.ref l)
  repeat (any_goals (first | assumption | wp_step))
  refine codeAny_mono (code_set_new_1 (.ref l) (E := E) (Q₁ := fun v s1 => ∃ led : Bool, v = .ref s.heap.objs.size ∧ s1 = newS s led) fun led => ⟨led, rfl, rfl⟩) fun r s1 hr => ?_
  cases r with
  | error e => exact hr
  | ok fl =>
    cases fl with
    | next => exact hr.elim
    | brk => exact hr.elim
    | cont => exact hr.elim
    | ret v =>
      obtain ⟨led, rfl, rfl⟩ := hr
      have at0 : (s.heap.push (set0 led)).get? s.heap.objs.size = some (set0 led) := Heap.get?_push_size _ rfl
      have ty0 : Shared.TypeIs (newS s led) (.ref s.heap.objs.size) "set" := ⟨_, at0, rfl⟩
      have m6 := PySem.F.called_set.init.lookup
      have m7 := PySem.F.called_set.init.bind (.ref s.heap.objs.size)
      unfold newS at ty0 ⊢
      repeat (any_goals (first | assumption | wp_step))
      refine codeAny_mono (codeAny_call_builtin (R := wants (fun v s2 => v = .none ∧ ∃ h tk, s2 = { s with heap := h, toks := tk } ∧ LaidG prog w s zs h) E) PySem.F.called_set.init.plain PySem.F.entry_set_init (check_set_init_1 ty0 ?_)) fun r2 s2 h2 => ?_
      · obtain ⟨⟨cl, di, da, sl⟩, g, rfl, nl, rfl⟩ := hl
        have g0 : (s.heap.push (set0 led)).get? l = some { cls := .type "tuple", dict := di, data := .seq its nl, slots := sl } := Heap.get?_push_of_some _ g
        have n1 := PySem.F.sub_tuple_set
        have n2 := PySem.F.sub_tuple_frozenset
        have n3 : (Value.type "tuple" == Value.type "dict") = false := by decide
        have l0 : (s.heap.push (set0 led)).IsTuple l its := ⟨_, g0, rfl, nl, rfl⟩
        unfold Builtin.«set.__init__» noKeywords Builtin.Frozenset.updateFrom
        generalize hit : pyIter = it
        wp_walk
        subst hit
        refine wpAny_pyIter_tuple l0 (wpAny_bind (wpAny_runValue ?_))
        have below : l < s.heap.objs.size := Heap.lt_size g
        have sz : (s.heap.push (set0 led)).objs.size = s.heap.objs.size + 1 := Heap.size_push ..
        have d1 : l ≠ (s.heap.push (set0 led)).objs.size := Nat.ne_of_lt (by rw [sz]; exact Nat.lt_succ_of_lt below)
        have d2 : s.heap.objs.size ∉ [(s.heap.push (set0 led)).objs.size, l] := by
          rw [sz]
          intro m
          rcases List.mem_cons.mp m with e | m
          · omega
          · exact absurd (List.mem_singleton.mp m) (Nat.ne_of_gt below)
        have lz : zs.length = its.size := by rw [← StrsAre.len_eq hz, Array.length_toList]
        refine all_addedG (S := s.heap.objs.size) ((Walks.tuple (by simp [calm]) _ l d1 its).toS) d2 lz (by omega) (fun i v e => SS.strs_at hz i v (by rw [Array.getElem?_toList]; exact e)) its.size 0 _ (Nat.zero_add _)
          ⟨⟨_, Heap.get?_push_size _ rfl, rfl, rfl⟩, l0.push _⟩ ?_ ?_
        · have g1 := Heap.get?_push_of_some { cls := .type "tuple_iterator", data := .fields #[.ref l, .int 0 0] } at0
          exact SetOf_congr ((setObjOf_fresh (knd := strKind prog w) led).setOf g1 (by unfold scanBound; omega)) (fun _ => rfl) rfl
        · rintro ⟨h, g', d', tk, os'⟩ mv so
          obtain rfl : g' = s.gens := mv.gens
          obtain rfl : d' = s.drawn := mv.drawn
          obtain rfl : os' = s.os := mv.os
          refine wpAny_pure (wpAny_pure ⟨rfl, h, tk, rfl, by rw [lz]; exact so, fun b o lt e => ?_⟩)
          refine mv.heap b o (fun m => ?_) (Heap.get?_push_of_some _ (Heap.get?_push_of_some _ e))
          rcases List.mem_cons.mp m with q | m
          · exact Nat.ne_of_lt lt q
          · rcases List.mem_cons.mp m with q | m
            · rw [sz] at q
              exact Nat.ne_of_lt (Nat.lt_succ_of_lt lt) q
            · cases m
      · cases r2 with
        | error e => exact h2
        | ok fl =>
          cases fl with
          | next => exact h2.elim
          | brk => exact h2.elim
          | cont => exact h2.elim
          | ret v =>
            obtain ⟨rfl, h, tk, rfl, laid⟩ := h2
            repeat (any_goals (first | assumption | wp_step))
            exact k h _ laid
end
/-- len(set(xs)), xs a list or tuple of distinct texts -/
def tLenG (K : PySem.W.Frag) (ta : TE) : TE := fun σ H Q => ta σ H fun x H1 => ∃ zs : List Str, Sq K H1 x (zs.map V.str) ∧ zs.length < 1000 ∧ Q (.int (dc zs zs.length : Nat)) H1
theorem pe_lenG {X : Cx} {a : Expr} {ta : TE} {p p2 q pos : Pos} (hc : X.calm = true) (hg : Gl X "len") (hm : X.mg "len" = none) (hg2 : Gl X "set") (hm2 : X.mg "set" = none) (ha : PE X a ta)
    (na : starEach [a] X.env = (false, eval a X.env) :: starEach [] X.env := by rfl) : PE X (.Call (.Name "len" p) [.Call (.Name "set" p2) [a] [] q] [] pos) (tLenG X.K ta) := by
  refine ⟨fun pins s σ H Q I h => Call_ (ld_blt I hg hm boot_len (callWith_builtin1 (args_cons (Call_ (ld_blt I hg2 hm2 boot_set ?_)) rfl) rfl rfl))⟩
  refine callWith_type1 (args_cons (thn (ha.run pins s σ H _ I h) fun v s1 ⟨x, H1, I1, r1, zs, ⟨l, e, sq⟩, few, q⟩ => args_nil ?_) na) na rfl
  subst e
  cases r1
  have fin : ∀ (h : Heap) (tk : Nat), LaidG X.prog X.w s1 zs h → wpAny (model X.prog X.w) X.A (spliced (backTo pos (starEach [] X.env)))
      (fun vs s2 => wpAny (model X.prog X.w) X.A (call (.builtin "len") (Value.ref s1.heap.objs.size :: vs)) (EP X pins σ Q) X.xe s2) X.xe { s1 with heap := h, toks := tk } := fun h tk ⟨so, kp⟩ => by
    obtain ⟨o, es, ep, t, g, ex, hd, _, _, _, fits, cnt⟩ := so
    have I2 : Inv X pins σ H1 { s1 with heap := h, toks := tk } := I1.kept fun b o e => kp b o (Heap.lt_size e) e
    exact args_nil (call_len_set g ex hd fits (by have := dc_le zs zs.length; rw [cnt] <;> omega) ⟨.int (dc zs zs.length : Nat), H1, I2.tok _, ⟨_, by rw [cnt]⟩, q⟩)
  rcases sq with sq | sq
  · obtain ⟨us, r, pl, _⟩ := I1.list sq
    exact set_textsG (I1.ok.hd hc) pl.isList (by simpa using strsAre_of r) few fin
  · obtain ⟨us, r, pl, _⟩ := I1.tuple sq
    exact set_textsGT (I1.ok.hd hc) pl (by simpa using strsAre_of r) few fin
end MK
set_option Elab.async false
set_option linter.all false
set_option autoImplicit false
set_option maxRecDepth 100000
set_option maxHeartbeats 1000000
/-! any data, as trees: what may stand in the place of fields and calls -/
namespace MK
open PySem PySem.Spec PyProof.Rows L2
inductive Dt where
  | non
  | bl (b : Bool)
  | int (i : Int)
  | str (z : Str)
  | lst (xs : List Dt)
  | tup (xs : List Dt)
  | dic
inductive Sh (K : PySem.W.Frag) (H : Hp) : V → Dt → Prop
  | non : Sh K H .non .non
  | bl (b : Bool) : Sh K H (.bl b) (.bl b)
  | int (i : Int) : Sh K H (.int i) (.int i)
  | str (z : Str) : z.length ≤ sizeLine → Sh K H (.str z) (.str z)
  | lst {a : Addr} {vs : List V} {xs : List Dt} : H a = some (.lst vs) → vs.length < 1000 → vs.length = xs.length → (∀ (i : Nat) x y, vs[i]? = some x → xs[i]? = some y → Sh K H x y) → Sh K H (.ref a) (.lst xs)
  | tup {a : Addr} {vs : List V} {xs : List Dt} : SqT K H a vs → vs.length < 1000 → vs.length = xs.length → (∀ (i : Nat) x y, vs[i]? = some x → xs[i]? = some y → Sh K H x y) → Sh K H (.ref a) (.tup xs)
  | dic {a : Addr} : H a = some (.dK []) → Sh K H (.ref a) .dic
def sqD : Dt → Option (List Dt)
  | .lst xs => some xs
  | .tup xs => some xs
  | _ => none
def isStr : Dt → Bool
  | .str _ => true
  | _ => false
def isInt : Dt → Bool
  | .int _ => true
  | _ => false
def isBl : Dt → Bool
  | .bl _ => true
  | _ => false
def isLst : Dt → Bool
  | .lst _ => true
  | _ => false
def isTup : Dt → Bool
  | .tup _ => true
  | _ => false
def isSq (d : Dt) : Bool := isLst d || isTup d
theorem isSq_iff (d : Dt) : isSq d = (sqD d).isSome := by cases d <;> rfl
section
variable {K : PySem.W.Frag} {H H' : Hp} {v : V} {d : Dt}
theorem Sh.keep (e : Same H H') (h : Sh K H v d) : Sh K H' v d := by
  induction h with
  | non => exact .non
  | bl b => exact .bl b
  | int i => exact .int i
  | str z h => exact .str z h
  | lst ha l1 l2 _ ih => exact .lst (e _ _ ha) l1 l2 ih
  | tup ha l1 l2 _ ih => exact .tup (same_t e ha) l1 l2 ih
  | dic ha => exact .dic (e _ _ ha)
/-- the type of it -/
theorem Sh.ty (h : Sh K H v d) : ∃ t, TyX K H v (.type t) ∧ kitB t "str" = some (isStr d) ∧ kitB t "int" = some (isInt d || isBl d) ∧ kitB t "bool" = some (isBl d) ∧ kitB t "list" = some (isLst d) ∧ kitB t "tuple" = some (isTup d) := by
  cases h with
  | non => exact ⟨"NoneType", .base .non, by decide +kernel, by decide +kernel, by decide +kernel, by decide +kernel, by decide +kernel⟩
  | bl b => exact ⟨"bool", .base (.bl b), by show _ = some false; decide +kernel, by show _ = some true; decide +kernel, by show _ = some true; decide +kernel, by show _ = some false; decide +kernel, by show _ = some false; decide +kernel⟩
  | int i => exact ⟨"int", .base (.int i), by show _ = some false; decide +kernel, by show _ = some true; decide +kernel, by show _ = some false; decide +kernel, by show _ = some false; decide +kernel, by show _ = some false; decide +kernel⟩
  | str z _ => exact ⟨"str", .base (.str z), by show _ = some true; decide +kernel, by show _ = some false; decide +kernel, by show _ = some false; decide +kernel, by show _ = some false; decide +kernel, by show _ = some false; decide +kernel⟩
  | lst ha => exact ⟨"list", tyx_l (SqL.of ha), by show _ = some false; decide +kernel, by show _ = some false; decide +kernel, by show _ = some false; decide +kernel, by show _ = some true; decide +kernel, by show _ = some false; decide +kernel⟩
  | tup ha => exact ⟨"tuple", tyx_t ha, by show _ = some false; decide +kernel, by show _ = some false; decide +kernel, by show _ = some false; decide +kernel, by show _ = some false; decide +kernel, by show _ = some true; decide +kernel⟩
  | dic ha => exact ⟨"dict", .base (.dK ha), by decide +kernel, by decide +kernel, by decide +kernel, by decide +kernel, by decide +kernel⟩
theorem Sh.sq (h : Sh K H v d) {xs : List Dt} (e : sqD d = some xs) : ∃ vs, Sq K H v vs ∧ Al (Sh K H) vs xs ∧ vs.length < 1000 := by
  cases h with
  | lst ha l1 l2 h => cases e; exact ⟨_, ⟨_, rfl, .inl (SqL.of ha)⟩, ⟨l2, h⟩, l1⟩
  | tup ha l1 l2 h => cases e; exact ⟨_, ⟨_, rfl, .inr ha⟩, ⟨l2, h⟩, l1⟩
  | non => cases e
  | bl b => cases e
  | int i => cases e
  | str z _ => cases e
  | dic _ => cases e
theorem Sh.str' {z : Str} (h : Sh K H v (.str z)) : v = .str z ∧ z.length ≤ sizeLine := by cases h; exact ⟨rfl, by assumption⟩
theorem Sh.int' {i : Int} (h : Sh K H v (.int i)) : v = .int i := by cases h; rfl
theorem Sh.bl' {b : Bool} (h : Sh K H v (.bl b)) : v = .bl b := by cases h; rfl
end
/-- it is one of such trees -/
def Sd (K : PySem.W.Frag) (H : Hp) (v : V) : Prop := ∃ d, Sh K H v d
theorem al_of {K : PySem.W.Frag} {H : Hp} : ∀ {vs : List V}, (∀ v ∈ vs, Sd K H v) → ∃ xs, Al (Sh K H) vs xs
  | [], _ => ⟨[], Al.nil⟩
  | v :: vs, h => by
    obtain ⟨d, hd⟩ := h v List.mem_cons_self
    obtain ⟨xs, hx⟩ := al_of fun w hw => h w (List.mem_cons_of_mem _ hw)
    refine ⟨d :: xs, by simp [hx.1], fun i x y h1 h2 => ?_⟩
    cases i with
    | zero =>
      cases h1
      cases h2
      exact hd
    | succ i => exact hx.2 i x y h1 h2
theorem sd_lst {K : PySem.W.Frag} {H : Hp} {a : Addr} {vs : List V} (ha : H a = some (.lst vs)) (l : vs.length < 1000) (h : ∀ v ∈ vs, Sd K H v) : Sd K H (.ref a) := by
  obtain ⟨xs, hx⟩ := al_of h
  exact ⟨.lst xs, .lst ha l hx.1 hx.2⟩
theorem sd_tup {K : PySem.W.Frag} {H : Hp} {a : Addr} {vs : List V} (ha : SqT K H a vs) (l : vs.length < 1000) (h : ∀ v ∈ vs, Sd K H v) : Sd K H (.ref a) := by
  obtain ⟨xs, hx⟩ := al_of h
  exact ⟨.tup xs, .tup ha l hx.1 hx.2⟩
theorem Sd.keep {K : PySem.W.Frag} {H H' : Hp} {v : V} (e : Same H H') (h : Sd K H v) : Sd K H' v := by
  obtain ⟨d, h⟩ := h
  exact ⟨d, h.keep e⟩
/-! ### fields -/
def wordD : Dt → Bool
  | .str z => wordB z
  | _ => false
def sortD : Dt → Bool
  | .str z => decide (z = "one") || decide (z = "many")
  | _ => false
def inNm (ys : List Str) : Dt → Bool
  | .str z => decide (z ∈ ys)
  | _ => false
def fieldB (ys : List Str) (d : Dt) : Bool := match sqD d with
  | some [n, s, b] => wordD n && (!inNm ys n && (sortD s && isBl b))
  | _ => false
/-- no list stands in the place of a sort -/
def flatD : Dt → Bool
  | .lst _ => false
  | .tup _ => false
  | .dic => false
  | _ => true
def FlatSort (d : Dt) : Prop := ∀ n s b, sqD d = some [n, s, b] → flatD s = true
def FdD (d : Dt) (f : FD) : Prop := ∃ s, sqD d = some [.str f.nm, .str s, .bl f.need] ∧ s = sortS f.many ∧ wordB f.nm = true
theorem fieldB_ok {ys : List Str} {d : Dt} (h : fieldB ys d = true) : ∃ f, FdD d f ∧ f.nm ∉ ys := by
  unfold fieldB at h
  split at h
  · rename_i n s b e
    simp only [Bool.and_eq_true, Bool.not_eq_true'] at h
    obtain ⟨h1, h2, h3, h4⟩ := h
    cases n <;> simp only [wordD] at h1 <;> try cases h1
    rename_i z
    cases s <;> simp only [sortD] at h3 <;> try cases h3
    rename_i t
    cases b <;> simp only [isBl] at h4 <;> try cases h4
    rename_i b
    have hz : z ∉ ys := of_decide_eq_false h2
    simp only [Bool.or_eq_true, decide_eq_true_eq] at h3
    rcases h3 with rfl | rfl
    · exact ⟨⟨z, false, b⟩, ⟨_, e, rfl, h1⟩, hz⟩
    · exact ⟨⟨z, true, b⟩, ⟨_, e, rfl, h1⟩, hz⟩
  · cases h
theorem fieldB_of {ys : List Str} {d : Dt} {f : FD} (h : FdD d f) (n : f.nm ∉ ys) : fieldB ys d = true := by
  obtain ⟨s, e, rfl, hw⟩ := h
  unfold fieldB
  rw [e]
  simp only [wordD, inNm, sortD, isBl, hw, decide_eq_false n]
  cases f.many <;> decide
theorem FdD.a {K : PySem.W.Frag} {H : Hp} {v : V} {d : Dt} {f : FD} (h : FdD d f) (s : Sh K H v d) : FdA K H v f := by
  obtain ⟨t, e, rfl, hw⟩ := h
  obtain ⟨vs, hs, hl, _⟩ := s.sq e
  obtain ⟨x, y, z, rfl⟩ : ∃ x y z, vs = [x, y, z] := by
    match vs, hl.1 with
    | [x, y, z], _ => exact ⟨x, y, z, rfl⟩
  rw [(hl.2 0 x _ rfl rfl).str'.1, (hl.2 1 y _ rfl rfl).str'.1, (hl.2 2 z _ rfl rfl).bl'] at hs
  exact hs
/-- the first i of ds are fields -/
structure PreF (ds : List Dt) (i : Nat) (fs : List FD) : Prop where
  len : fs.length = i
  le : i ≤ 3
  lt : i ≤ ds.length
  all : ∀ (j : Nat) d f, ds[j]? = some d → fs[j]? = some f → FdD d f
  nd : (fs.map (·.nm)).Nodup
/-- and the next one is none -/
def BadF (ds : List Dt) (i : Nat) (fs : List FD) : Prop := PreF ds i fs ∧ ∃ d, ds[i]? = some d ∧ (i = 3 ∨ fieldB (fs.map (·.nm)) d = false)
theorem preF_all (ds : List Dt) : ∀ n, n ≤ ds.length → (∃ fs, PreF ds n fs) ∨ ∃ i fs, i < n ∧ BadF ds i fs
  | 0, _ => .inl ⟨[], rfl, by decide, Nat.zero_le _, fun j d f _ h => by simp at h, List.nodup_nil⟩
  | n + 1, hn => by
    rcases preF_all ds n (by omega) with ⟨fs, h⟩ | ⟨i, fs, hi, h⟩
    · have hd : ds[n]? = some ds[n] := List.getElem?_eq_getElem (by omega)
      by_cases q : n = 3 ∨ fieldB (fs.map (·.nm)) ds[n] = false
      · exact .inr ⟨n, fs, Nat.lt_succ_self n, h, _, hd, q⟩
      · rw [not_or, Bool.not_eq_false] at q
        obtain ⟨f, hf, hn'⟩ := fieldB_ok q.2
        have := h.le
        refine .inl ⟨fs ++ [f], by simp [h.len], by omega, by omega, fun j d g h1 h2 => ?_, ?_⟩
        · by_cases e : j < fs.length
          · rw [List.getElem?_append_left e] at h2
            exact h.all j d g h1 h2
          · have hl := h.len
            rw [List.getElem?_append_right (by omega)] at h2
            obtain ⟨e2, _⟩ := List.getElem?_eq_some_iff.mp h2
            have e3 : j = n := by simp at e2; omega
            subst e3
            rw [hd] at h1
            cases h1
            rw [hl, Nat.sub_self] at h2
            cases h2
            exact hf
        · rw [List.map_append]
          refine List.nodup_append.mpr ⟨h.nd, by simp, fun a ha b hb => ?_⟩
          rw [List.map_singleton, List.mem_singleton] at hb
          intro e
          rw [e, hb] at ha
          exact hn' ha
    · exact .inr ⟨i, fs, by omega, h⟩
/-! ### calls -/
def callD (d : Dt) : Option (Str × Str × List Dt × List Dt × List Dt) := match sqD d with
  | some [.str a, .str b, m, e, s] => (match sqD m, sqD e, sqD s with
    | some ms, some ds, some ss => some (a, b, ms, ds, ss)
    | _, _, _ => none)
  | _ => none
def moveB (n : Nat) : Dt → Bool
  | .int i => decide (-1 ≤ i) && decide (i < n)
  | _ => false
def movesB (n : Nat) (ms : List Dt) : Bool := decide (ms.length = n) && ms.all (moveB n)
def manyB (fs : List FD) : Dt → Bool
  | .str z => fs.any fun f => decide (f.nm = z) && f.many
  | _ => false
def strD : Dt → Str
  | .str z => z
  | _ => Str.empty
def sameB (fs : List FD) (hd : Str) (ss : List Dt) : Bool := ss.all (manyB fs) && ((!decide (hd = "self") || ss.isEmpty) && decide ((ss.map strD).Nodup))
def deedD (d : Dt) : Option (Str × Str) := match sqD d with
  | some [.str a, .str b] => some (a, b)
  | _ => none
def deedB (fs : List FD) (d : Dt) : Bool := match deedD d with
  | some (a, b) => fs.any fun f => decide (f.nm = b) && decide (f.many ∈ deedSorts a)
  | none => false
def deE (d : Dt) : Str × Str := (deedD d).getD (Str.empty, Str.empty)
def deedsB (fs : List FD) (ds : List Dt) : Bool := decide (ds.length ≤ 4) && (ds.all (deedB fs) && decide ((worded (ds.map deE)).Nodup))
def handB (z : Str) : Bool := decide (z = "self") || (decide (z = "new") || decide (z = "last"))
def reasonD (fs : List FD) (n : Nat) (ys : List Str) (d : Dt) : Option Str := match callD d with
  | none => some "call"
  | some (a, b, ms, ds, ss) => if (!wordB a || decide (a ∈ ys)) = true then some "name" else if handB b = false then some "hand" else if movesB n ms = false then some "moves" else if deedsB fs ds = false then some "deed" else if sameB fs b ss = false then some "same" else none
theorem manyB_ok {fs : List FD} {d : Dt} (h : manyB fs d = true) : ∃ z, d = .str z ∧ ∃ f ∈ fs, f.nm = z ∧ f.many = true := by
  cases d <;> simp only [manyB] at h <;> try cases h
  rename_i z
  rw [List.any_eq_true] at h
  obtain ⟨f, hf, h⟩ := h
  rw [Bool.and_eq_true, decide_eq_true_iff] at h
  exact ⟨z, rfl, f, hf, h.1, h.2⟩
theorem deedB_ok {fs : List FD} {d : Dt} (h : deedB fs d = true) : sqD d = some [.str (deE d).1, .str (deE d).2] ∧ DeOk fs (deE d) := by
  unfold deedB at h
  split at h
  · rename_i a b e
    have e2 : deE d = (a, b) := by unfold deE; rw [e]; rfl
    rw [e2]
    unfold deedD at e
    split at e
    · rename_i x y e3
      cases e
      rw [List.any_eq_true] at h
      obtain ⟨f, hf, h⟩ := h
      simp only [Bool.and_eq_true, decide_eq_true_iff] at h
      exact ⟨e3, f, hf, h.1, h.2⟩
    · cases e
  · cases h
theorem al_strs {K : PySem.W.Frag} {H : Hp} {vs : List V} {ss : List Dt} (h : Al (Sh K H) vs ss) (a : ∀ d ∈ ss, ∃ z, d = Dt.str z) : vs = (ss.map strD).map V.str := by
  refine List.ext_getElem? fun i => ?_
  rw [List.getElem?_map, List.getElem?_map]
  by_cases q : i < vs.length
  · obtain ⟨d, hd, r⟩ := h.get (List.getElem?_eq_getElem q)
    obtain ⟨z, rfl⟩ := a d (List.mem_of_getElem? hd)
    rw [List.getElem?_eq_getElem q, hd, r.str'.1]
    rfl
  · rw [List.getElem?_eq_none (by omega), List.getElem?_eq_none (by have := h.1; omega)]
    rfl
def moveI : Dt → Int
  | .int i => i
  | _ => 0
theorem al_ints {K : PySem.W.Frag} {H : Hp} {vs : List V} {ss : List Dt} (h : Al (Sh K H) vs ss) (a : ∀ d ∈ ss, ∃ z, d = Dt.int z) : vs = (ss.map moveI).map V.int := by
  refine List.ext_getElem? fun i => ?_
  rw [List.getElem?_map, List.getElem?_map]
  by_cases q : i < vs.length
  · obtain ⟨d, hd, r⟩ := h.get (List.getElem?_eq_getElem q)
    obtain ⟨z, rfl⟩ := a d (List.mem_of_getElem? hd)
    rw [List.getElem?_eq_getElem q, hd, r.int']
    rfl
  · rw [List.getElem?_eq_none (by omega), List.getElem?_eq_none (by have := h.1; omega)]
    rfl
/-- the call that it is -/
def CdD (d : Dt) (c : CD) : Prop := ∃ ms ds ss, callD d = some (c.nm, c.hand, ms, ds, ss) ∧ c.moves = ms.map moveI ∧ (∀ x ∈ ms, ∃ z, x = Dt.int z) ∧ c.deeds = ds.map deE ∧ (∀ x ∈ ds, sqD x = some [.str (deE x).1, .str (deE x).2]) ∧ c.same = ss.map strD ∧ ∀ x ∈ ss, ∃ z, x = Dt.str z
theorem callD_some {d : Dt} {a b : Str} {ms ds ss : List Dt} (h : callD d = some (a, b, ms, ds, ss)) : ∃ m e s, sqD d = some [.str a, .str b, m, e, s] ∧ sqD m = some ms ∧ sqD e = some ds ∧ sqD s = some ss := by
  unfold callD at h
  split at h
  · rename_i a' b' m e s q
    split at h
    · rename_i ms' ds' ss' h1 h2 h3
      cases h
      exact ⟨m, e, s, q, h1, h2, h3⟩
    · cases h
  · cases h
theorem len5 {vs : List V} (h : vs.length = 5) : ∃ a b c d e, vs = [a, b, c, d, e] := by
  match vs, h with
  | [a, b, c, d, e], _ => exact ⟨a, b, c, d, e, rfl⟩
theorem Sh.call {K : PySem.W.Frag} {H : Hp} {v : V} {d : Dt} {a b : Str} {ms ds ss : List Dt} (h : Sh K H v d) (e : callD d = some (a, b, ms, ds, ss)) : ∃ m dv s mvs dvs svs, Sq K H v [.str a, .str b, m, dv, s] ∧ a.length ≤ sizeLine ∧
    Sq K H m mvs ∧ Al (Sh K H) mvs ms ∧ mvs.length < 1000 ∧ Sq K H dv dvs ∧ Al (Sh K H) dvs ds ∧ dvs.length < 1000 ∧ Sq K H s svs ∧ Al (Sh K H) svs ss ∧ svs.length < 1000 := by
  obtain ⟨m, e', s, q, h1, h2, h3⟩ := callD_some e
  obtain ⟨vs, hs, hl, _⟩ := h.sq q
  obtain ⟨x0, x1, x2, x3, x4, rfl⟩ := len5 hl.1
  obtain ⟨s2, a2, l2⟩ := (hl.2 2 x2 _ rfl rfl).sq h1
  obtain ⟨s3, a3, l3⟩ := (hl.2 3 x3 _ rfl rfl).sq h2
  obtain ⟨s4, a4, l4⟩ := (hl.2 4 x4 _ rfl rfl).sq h3
  have z := (hl.2 0 x0 _ rfl rfl).str'
  rw [z.1, (hl.2 1 x1 _ rfl rfl).str'.1] at hs
  exact ⟨x2, x3, x4, s2, s3, s4, hs, z.2, a2, l2.1, l2.2, a3, l3.1, l3.2, a4, l4.1, l4.2⟩
theorem CdD.a {K : PySem.W.Frag} {H : Hp} {v : V} {d : Dt} {c : CD} (h : CdD d c) (s : Sh K H v d) : CdA K H v c := by
  obtain ⟨ms, ds, ss, e, h1, h2, h3, h4, h5, h6⟩ := h
  obtain ⟨m, dv, sv, mvs, dvs, svs, g0, _, g1, g2, _, g3, g4, _, g5, g6, _⟩ := s.call e
  rw [al_ints g2 h2, ← h1] at g1
  rw [al_strs g6 h6, ← h5] at g5
  refine ⟨m, dv, sv, dvs, g0, g1, g3, ?_, g5⟩
  rw [h3]
  refine ⟨by rw [g4.1, List.length_map], fun i x y q1 q2 => ?_⟩
  rw [List.getElem?_map] at q2
  obtain ⟨w, hw, rfl⟩ := Option.map_eq_some_iff.mp q2
  obtain ⟨us, hu, hl, _⟩ := (g4.2 i x w q1 hw).sq (h4 w (List.mem_of_getElem? hw))
  obtain ⟨p, q, rfl⟩ : ∃ p q, us = [p, q] := by
    match us, hl.1 with
    | [p, q], _ => exact ⟨p, q, rfl⟩
  rw [(hl.2 0 p _ rfl rfl).str'.1, (hl.2 1 q _ rfl rfl).str'.1] at hu
  exact hu
theorem reason_none {fs : List FD} {n : Nat} {ys : List Str} {d : Dt} (h : reasonD fs n ys d = none) : ∃ c, CdD d c ∧ CdOk fs n c ∧ c.nm ∉ ys := by
  unfold reasonD at h
  split at h
  · cases h
  · rename_i a b ms ds ss e
    split at h
    · cases h
    rename_i c1
    split at h
    · cases h
    rename_i c2
    split at h
    · cases h
    rename_i c3
    split at h
    · cases h
    rename_i c4
    split at h
    · cases h
    rename_i c5
    rw [Bool.not_eq_false] at c2 c3 c4 c5
    rw [Bool.not_eq_true, Bool.or_eq_false_iff, Bool.not_eq_false', decide_eq_false_iff_not] at c1
    unfold movesB at c3
    unfold deedsB at c4
    unfold sameB at c5
    unfold handB at c2
    simp only [Bool.and_eq_true, Bool.or_eq_true, decide_eq_true_iff, List.all_eq_true, Bool.not_eq_true', decide_eq_false_iff_not] at c2 c3 c4 c5
    have hm : ∀ x ∈ ms, ∃ z, x = Dt.int z ∧ -1 ≤ z ∧ z < n := fun x hx => by
      have := c3.2 x hx
      cases x <;> simp only [moveB] at this <;> try cases this
      rw [Bool.and_eq_true, decide_eq_true_iff, decide_eq_true_iff] at this
      exact ⟨_, rfl, this.1, this.2⟩
    have hs : ∀ x ∈ ss, ∃ z, x = Dt.str z ∧ ∃ f ∈ fs, f.nm = z ∧ f.many = true := fun x hx => manyB_ok (c5.1 x hx)
    refine ⟨⟨a, b, ms.map moveI, ds.map deE, ss.map strD⟩, ⟨ms, ds, ss, e, rfl, fun x hx => ?_, rfl, fun x hx => (deedB_ok (c4.2.1 x hx)).1, rfl, fun x hx => ?_⟩, ⟨c1.1, c2, ?_, fun m h => ?_, ?_, fun x hx => ?_, c4.2.2, fun x hx => ?_, fun e => ?_, c5.2.2⟩, c1.2⟩
    · obtain ⟨z, e, _⟩ := hm x hx
      exact ⟨z, e⟩
    · obtain ⟨z, e, _⟩ := hs x hx
      exact ⟨z, e⟩
    · show (ms.map moveI).length = n
      rw [List.length_map]
      exact c3.1
    · obtain ⟨x, hx, rfl⟩ := List.mem_map.mp h
      obtain ⟨z, rfl, h1⟩ := hm x hx
      exact h1
    · show (ds.map deE).length ≤ 4
      rw [List.length_map]
      exact c4.1
    · obtain ⟨y, hy, rfl⟩ := List.mem_map.mp hx
      exact (deedB_ok (c4.2.1 y hy)).2
    · obtain ⟨y, hy, rfl⟩ := List.mem_map.mp hx
      obtain ⟨z, rfl, h1⟩ := hs y hy
      exact h1
    · have := c5.2.1.resolve_left fun q => q e
      rw [List.isEmpty_iff] at this
      show ss.map strD = []
      rw [this]
      rfl
structure PreC (fs : List FD) (n : Nat) (ds : List Dt) (i : Nat) (cs : List CD) : Prop where
  len : cs.length = i
  le : i ≤ 6
  lt : i ≤ ds.length
  all : ∀ (j : Nat) d c, ds[j]? = some d → cs[j]? = some c → CdD d c
  ok : ∀ c ∈ cs, CdOk fs n c
  nd : (cs.map (·.nm)).Nodup
def BadC (fs : List FD) (n : Nat) (ds : List Dt) (i : Nat) (cs : List CD) (r : Str) : Prop := PreC fs n ds i cs ∧ ∃ d, ds[i]? = some d ∧ ((i = 6 ∧ r = "call") ∨ (i < 6 ∧ reasonD fs n (cs.map (·.nm)) d = some r))
theorem preC_all (fs : List FD) (n : Nat) (ds : List Dt) : ∀ k, k ≤ ds.length → (∃ cs, PreC fs n ds k cs) ∨ ∃ i cs r, i < k ∧ BadC fs n ds i cs r
  | 0, _ => .inl ⟨[], rfl, by decide, Nat.zero_le _, fun j d f _ h => by simp at h, nofun, List.nodup_nil⟩
  | k + 1, hk => by
    rcases preC_all fs n ds k (by omega) with ⟨cs, h⟩ | ⟨i, cs, r, hi, h⟩
    · have hd : ds[k]? = some ds[k] := List.getElem?_eq_getElem (by omega)
      have hle := h.le
      by_cases q : k = 6
      · exact .inr ⟨k, cs, "call", Nat.lt_succ_self k, h, _, hd, .inl ⟨q, rfl⟩⟩
      cases er : reasonD fs n (cs.map (·.nm)) ds[k] with
      | some r => exact .inr ⟨k, cs, r, Nat.lt_succ_self k, h, _, hd, .inr ⟨by omega, er⟩⟩
      | none =>
        obtain ⟨c, hc, hok, hn⟩ := reason_none er
        refine .inl ⟨cs ++ [c], by simp [h.len], by omega, by omega, fun j d g h1 h2 => ?_, fun g hg => ?_, ?_⟩
        · by_cases e : j < cs.length
          · rw [List.getElem?_append_left e] at h2
            exact h.all j d g h1 h2
          · have hl := h.len
            rw [List.getElem?_append_right (by omega)] at h2
            obtain ⟨e2, _⟩ := List.getElem?_eq_some_iff.mp h2
            have e3 : j = k := by simp at e2; omega
            subst e3
            rw [hd] at h1
            cases h1
            rw [hl, Nat.sub_self] at h2
            cases h2
            exact hc
        · rcases List.mem_append.mp hg with hg | hg
          · exact h.ok g hg
          · rw [List.mem_singleton.mp hg]
            exact hok
        · rw [List.map_append]
          refine List.nodup_append.mpr ⟨h.nd, by simp, fun a ha b hb => ?_⟩
          rw [List.map_singleton, List.mem_singleton] at hb
          intro e
          rw [e, hb] at ha
          exact hn ha
    · exact .inr ⟨i, cs, r, by omega, h⟩
/-! ### what is due -/
def modesB : Dt → Bool
  | .int i => decide (1 ≤ i) && decide (i ≤ 4)
  | _ => false
inductive Due : Type
  | fld (i : Nat)
  | mod
  | cal (i : Nat) (r : Str)
  | told (fs : List FD) (n : Nat) (cs : List CD)
inductive DueOf (fd md cd : Dt) : Due → Prop
  | f0 : sqD fd = none ∨ sqD fd = some [] → DueOf fd md cd (.fld 0)
  | f {ds : List Dt} {i : Nat} {fs : List FD} : sqD fd = some ds → BadF ds i fs → DueOf fd md cd (.fld i)
  | m {ds : List Dt} {fs : List FD} : sqD fd = some ds → 1 ≤ ds.length → PreF ds ds.length fs → modesB md = false → DueOf fd md cd .mod
  | c0 {ds : List Dt} {fs : List FD} {n : Nat} : sqD fd = some ds → 1 ≤ ds.length → PreF ds ds.length fs → md = .int n → 1 ≤ n → n ≤ 4 → sqD cd = none ∨ sqD cd = some [] → DueOf fd md cd (.cal 0 "call")
  | c {ds es : List Dt} {fs : List FD} {n i : Nat} {cs : List CD} {r : Str} : sqD fd = some ds → 1 ≤ ds.length → PreF ds ds.length fs → md = .int n → 1 ≤ n → n ≤ 4 → sqD cd = some es → BadC fs n es i cs r → DueOf fd md cd (.cal i r)
  | told {ds es : List Dt} {fs : List FD} {n : Nat} {cs : List CD} : sqD fd = some ds → 1 ≤ ds.length → PreF ds ds.length fs → md = .int n → 1 ≤ n → n ≤ 4 → sqD cd = some es → 1 ≤ es.length → PreC fs n es es.length cs → DueOf fd md cd (.told fs n cs)
theorem modesB_ok {d : Dt} (h : modesB d = true) : ∃ n : Nat, d = .int n ∧ 1 ≤ n ∧ n ≤ 4 := by
  cases d <;> simp only [modesB] at h <;> try cases h
  rename_i i
  rw [Bool.and_eq_true, decide_eq_true_iff, decide_eq_true_iff] at h
  exact ⟨i.toNat, congrArg Dt.int (by omega), by omega, by omega⟩
theorem sq_cases (d : Dt) : (sqD d = none ∨ sqD d = some []) ∨ ∃ xs, sqD d = some xs ∧ 1 ≤ xs.length := by
  cases e : sqD d with
  | none => exact .inl (.inl rfl)
  | some xs =>
    cases xs with
    | nil => exact .inl (.inr rfl)
    | cons x xs => exact .inr ⟨_, rfl, by simp⟩
theorem due_all (fd md cd : Dt) : ∃ r, DueOf fd md cd r := by
  rcases sq_cases fd with h | ⟨ds, h1, l1⟩
  · exact ⟨_, .f0 h⟩
  rcases preF_all ds ds.length (Nat.le_refl _) with ⟨fs, h2⟩ | ⟨i, fs, _, h2⟩
  · cases h3 : modesB md with
    | false => exact ⟨_, .m h1 l1 h2 h3⟩
    | true =>
      obtain ⟨n, h4, h5, h6⟩ := modesB_ok h3
      rcases sq_cases cd with h | ⟨es, h7, l2⟩
      · exact ⟨_, .c0 h1 l1 h2 h4 h5 h6 h⟩
      rcases preC_all fs n es es.length (Nat.le_refl _) with ⟨cs, h8⟩ | ⟨i, cs, r, _, h8⟩
      · exact ⟨_, .told h1 l1 h2 h4 h5 h6 h7 l2 h8⟩
      · exact ⟨_, .c h1 l1 h2 h4 h5 h6 h7 h8⟩
  · exact ⟨_, .f h1 h2⟩
theorem PreF.ok {ds : List Dt} {i : Nat} {fs : List FD} (h : PreF ds i fs) (p : 1 ≤ i) : FsOk fs :=
  ⟨by rw [h.len]; exact p, by rw [h.len]; exact h.le, fun f hf => by
    obtain ⟨j, hj⟩ := List.mem_iff_getElem?.mp hf
    have hl := (List.getElem?_eq_some_iff.mp hj).1
    have h1 := h.len
    have h2 := h.lt
    obtain ⟨_, _, _, w⟩ := h.all j _ f (List.getElem?_eq_getElem (by omega)) hj
    exact w, h.nd⟩
theorem PreF.a {K : PySem.W.Frag} {H : Hp} {vs : List V} {ds : List Dt} {fs : List FD} (h : PreF ds ds.length fs) (a : Al (Sh K H) vs ds) : Al (FdA K H) vs fs :=
  ⟨by rw [a.1, h.len], fun i x f h1 h2 => by
    obtain ⟨d, hd, s⟩ := a.get h1
    exact (h.all i d f hd h2).a s⟩
theorem PreC.a {K : PySem.W.Frag} {H : Hp} {vs : List V} {fs : List FD} {n : Nat} {ds : List Dt} {cs : List CD} (h : PreC fs n ds ds.length cs) (a : Al (Sh K H) vs ds) : Al (CdA K H) vs cs :=
  ⟨by rw [a.1, h.len], fun i x f h1 h2 => by
    obtain ⟨d, hd, s⟩ := a.get h1
    exact (h.all i d f hd h2).a s⟩
theorem told_ok {ds es : List Dt} {fs : List FD} {n : Nat} {cs : List CD} (l1 : 1 ≤ ds.length) (h2 : PreF ds ds.length fs) (h5 : 1 ≤ n) (h6 : n ≤ 4) (l2 : 1 ≤ es.length) (h8 : PreC fs n es es.length cs) : KdOk fs n cs :=
  ⟨h2.ok l1, h5, h6, by rw [h8.len]; exact l2, by rw [h8.len]; exact h8.le, h8.ok, h8.nd⟩
theorem sorts_find (fs : List FD) (z : Str) : valV (sortsV fs) (.inr z) = (fs.find? fun f => decide (f.nm = z)).map fun f => V.str (sortS f.many) := by
  induction fs with
  | nil => rfl
  | cons g gs ih =>
    by_cases e : g.nm = z
    · rw [List.find?_cons_of_pos (by simpa using e)]
      exact valV_pos (congrArg Sum.inr e)
    · rw [List.find?_cons_of_neg (by simpa using e), ← ih]
      exact valV_neg fun q => e (Sum.inr.inj q)
theorem any_find {P : FD → Bool} (z : Str) : ∀ {fs : List FD}, (fs.map (·.nm)).Nodup → (fs.any fun f => decide (f.nm = z) && P f) = ((fs.find? fun f => decide (f.nm = z)).map P).getD false
  | [], _ => rfl
  | g :: gs, nd => by
    rw [List.map_cons, List.nodup_cons] at nd
    by_cases e : g.nm = z
    · rw [List.find?_cons_of_pos (by simpa using e), List.any_cons, decide_eq_true e, Bool.true_and]
      have : (gs.any fun f => decide (f.nm = z) && P f) = false := by
        rw [List.any_eq_false]
        intro f hf
        rw [decide_eq_false (fun q => nd.1 (by rw [e, ← q]; exact List.mem_map_of_mem hf)), Bool.false_and]
        exact nofun
      rw [this, Bool.or_false]
      rfl
    · rw [List.find?_cons_of_neg (by simpa using e), List.any_cons, decide_eq_false e, Bool.false_and, Bool.false_or]
      exact any_find z nd.2
def resV : Option Str → V
  | some r => .str r
  | none => .non
theorem reason_of {fs : List FD} {n : Nat} {ys : List Str} {d : Dt} {c : CD} (h : CdD d c) (ok : CdOk fs n c) (nn : c.nm ∉ ys) : reasonD fs n ys d = none := by
  obtain ⟨ms, ds, ss, e, h1, h2, h3, h4, h5, h6⟩ := h
  have l2 := ok.len
  have l3 := ok.move
  have l4 := ok.deeds
  have l5 := ok.deed
  have l6 := ok.once
  have l7 := ok.same
  have l8 := ok.self
  have l9 := ok.nd
  rw [h1] at l2 l3
  rw [h3] at l4 l5 l6
  rw [h5] at l7 l8 l9
  rw [List.length_map] at l2 l4
  unfold reasonD
  rw [e]
  dsimp only
  rw [if_neg (by rw [ok.word, decide_eq_false nn]; exact nofun), if_neg, if_neg, if_neg, if_neg]
  · rw [Bool.not_eq_false]
    unfold sameB
    simp only [Bool.and_eq_true, Bool.or_eq_true, decide_eq_true_iff, List.all_eq_true, Bool.not_eq_true', decide_eq_false_iff_not]
    refine ⟨fun x hx => ?_, ?_, l9⟩
    · obtain ⟨z, rfl⟩ := h6 x hx
      obtain ⟨f, hf, e1, e2⟩ := l7 z (List.mem_map.mpr ⟨_, hx, rfl⟩)
      exact List.any_eq_true.mpr ⟨f, hf, by rw [decide_eq_true e1, e2]; rfl⟩
    · by_cases q : c.hand = "self"
      · exact .inr (by rw [List.isEmpty_iff]; exact List.map_eq_nil_iff.mp (l8 q))
      · exact .inl q
  · rw [Bool.not_eq_false]
    unfold deedsB
    simp only [Bool.and_eq_true, decide_eq_true_iff, List.all_eq_true]
    refine ⟨l4, fun x hx => ?_, l6⟩
    obtain ⟨f, hf, e1, e2⟩ := l5 (deE x) (List.mem_map_of_mem hx)
    have : deedD x = some ((deE x).1, (deE x).2) := by
      unfold deedD
      rw [h4 x hx]
    unfold deedB
    rw [this]
    exact List.any_eq_true.mpr ⟨f, hf, by rw [decide_eq_true e1, decide_eq_true e2]; rfl⟩
  · rw [Bool.not_eq_false]
    unfold movesB
    simp only [Bool.and_eq_true, decide_eq_true_iff, List.all_eq_true]
    refine ⟨l2, fun x hx => ?_⟩
    obtain ⟨z, rfl⟩ := h2 x hx
    have := l3 z (List.mem_map.mpr ⟨_, hx, rfl⟩)
    show (decide (-1 ≤ z) && decide (z < (n : Int))) = true
    rw [decide_eq_true this.1, decide_eq_true this.2]
    rfl
  · rw [Bool.not_eq_false]
    unfold handB
    simp only [Bool.or_eq_true, decide_eq_true_iff]
    exact ok.hand
end MK
set_option Elab.async false
set_option linter.all false
set_option autoImplicit false
set_option maxRecDepth 100000
set_option maxHeartbeats 1000000
/-! defs of the module that raise -/
namespace MK
open PySem PySem.Spec PyProof.Rows L2
theorem cal_mkX {P : Program} {w : World} {K : PySem.W.Frag} {mg : Str → Option Value} {base : Heap} {x : Str} {st : Stmt} {f : Addr} {fd : FuncData} {N ps : List Str} {k : Nat} {sp : Sp} (F : DefX K mg x st ps f fd) (S : FnScope N ps (defScope st)) (len : ∀ vs H Q E, sp vs H Q E → vs.length = ps.length)
    (hbody : ∀ (cdv : Value) (A : Around) (outer : List Env) (s : Shared) (H : Hp) (vs : List V) (Q : VK) (E : XK), Room k (A.deeper (envOfC x (defScope st) s.heap.objs.size f cdv)) → sp vs H Q E →
      ∃ t, PSs (cxOf (L2.CX P w) P w K mg base N x (defScope st) f cdv A outer s H E) (defBody st) t ∧ t { nx := fun _ H' => Q .non H', rt := Q } (L2.start N vs) H) : Cal P w K mg base (L2.CX P w) (k + 1) x sp :=
  ⟨f, fd, ps, F.fn.okX S len hbody, F.mgf, F.fn.kp, F.bi⟩
theorem pe_cX {X : Cx} {k j : Nat} {x : Str} {sp : Sp} {p pos : Pos} {e : Expr} {es : List Expr} {t : TA} {E : XK} (hx : Passes (L2.CX X.prog X.w) X E) (c : Cal X.prog X.w X.K X.mg X.base (L2.CX X.prog X.w) k x sp) (hr : Room j X.A) (hk : k ≤ j) (hg : Gl X x) (ha : PA X (e :: es) t)
    (hdb : (x == ("__debug__" : Str)) = false := by decide) (he : starEach (e :: es) X.env = (false, eval e X.env) :: starEach es X.env := by rfl) (hpl : (backTo pos (starEach es X.env)).any (·.1) = false := by rfl) :
    PE X (.Call (.Name x p) (e :: es) [] pos) (tCall sp [] E t) := by
  obtain ⟨f, fd, ps, F, hm, kp, b⟩ := c.ex
  exact pe_call F (hr.mono hk) hg hm kp b .nil hx ha hdb he hpl
theorem rd_raise2 {C : Addr} {f g : Str} {ta : TA} {σ : L2.St} {H : Hp} {v u : V} {W : XK} (ht : ∀ R : List V → Hp → Prop, R [v, u] H → ta σ H R) (q : ∀ d H', Same H H' → H d = none → H' d = some (.xd [(g, u), (f, v)]) → W (.ref C) (some d) H') : tMkO C (spErr2 C f g) [] ta σ H W := by
  refine ht _ ⟨by show 2 ≤ 1000; decide, fun a ha => ⟨a, v, u, rfl, upd_same, fun d hd hda => ⟨rfl, d, [(g, u), (f, v)], ?_, upd_same, ?_, ?_⟩⟩⟩
  · exact (upd_ne hda.symm).trans upd_same
  · rw [upd_ne hda] at hd
    exact hd
  · have hd' : H d = none := by rw [upd_ne hda] at hd; exact hd
    refine q d _ (fun b o hb => ?_) hd' upd_same
    have ba : b ≠ a := fun z => by rw [z, ha] at hb; cases hb
    have bd : b ≠ d := fun z => by rw [z, hd'] at hb; cases hb
    rw [upd_ne bd, del_ne ba, upd_ne bd, upd_ne ba, upd_ne bd, upd_ne ba]
    exact hb
theorem fn_cx {P : Program} {w : World} {K : PySem.W.Frag} {mg : Str → Option Value} {base : Heap} {k : Nat} {f : Addr} {fd : FuncData} {ps : List Str} {sp : Sp} (F : FnOk P w K mg base CX0 k f fd ps sp) : FnOk P w K mg base (L2.CX P w) k f fd ps sp := by
  refine ⟨F.len, fun A outer s H args us vs Q E hr e0 hb hv hsp => codeAny_mono (F.run A outer s H args us vs Q E hr e0 hb hv hsp) fun z s' hq => ?_⟩
  cases z with
  | error e => exact False.elim hq
  | ok fl => cases fl with
    | ret u => exact hq
    | next => exact False.elim hq
    | brk => exact False.elim hq
    | cont => exact False.elim hq
theorem fn_or {P : Program} {w : World} {K : PySem.W.Frag} {mg : Str → Option Value} {base : Heap} {CX : CXT} {k : Nat} {f : Addr} {fd : FuncData} {ps : List Str} {sp1 sp2 : Sp} (F : FnOk P w K mg base CX k f fd ps sp1) (G : FnOk P w K mg base CX k f fd ps sp2) : FnOk P w K mg base CX k f fd ps fun vs H Q E => sp1 vs H Q E ∨ sp2 vs H Q E :=
  ⟨fun vs H Q E h => h.elim (F.len vs H Q E) (G.len vs H Q E), fun A outer s H args us vs Q E hr e0 hb hv hsp => hsp.elim (F.run A outer s H args us vs Q E hr e0 hb hv) (G.run A outer s H args us vs Q E hr e0 hb hv)⟩
theorem sl_sqK {X : Cx} {K : PySem.W.Frag} (h : X.K = K) : SlR X (fun x lo hi H Q => rSlL K x lo hi H Q ∨ rSlT K x lo hi H Q) := by
  subst h
  exact fun pins s σ H x v vl vu lo hi sl Q I r hs h1 h2 h => h.elim (sl_list pins s σ H x v vl vu lo hi sl Q I r hs h1 h2) (sl_tup pins s σ H x v vl vu lo hi sl Q I r hs h1 h2)
theorem ix_of {K : PySem.W.Frag} {H : Hp} {a : Addr} {xs : List V} {i : Nat} {v : V} {Q : VK} (h : SqL K H a xs ∨ SqT K H a xs) (e : xs[i]? = some v) (q : Q v H) : rIx K (.ref a) (.int (i : Nat)) H Q :=
  h.elim (fun h => .inl ⟨_, _, _, _, rfl, rfl, h, atI_nat e, q⟩) (fun h => .inr (.inl ⟨_, _, _, _, rfl, rfl, h, atI_nat e, q⟩))
/-- over what an expression gives, a list or a tuple -/
theorem pi_sqG {X : Cx} {tg e : Expr} {te : TE} (h : PE X e te) : PI X tg e (iSqS X.K te) := ⟨fun pins s σ H R I hw => thn (h.run pins s σ H _ I hw) fun u s2 ⟨x, H2, J, rx, a, xs, H0, ex, sq, sm, k⟩ => by
  subst ex
  cases rx
  have fr := J.fpOk (Nat.le_refl s2.heap.objs.size) (J.hok.fresh (Nat.le_refl _))
  rcases sq with sq | sq
  · obtain ⟨ys, -, pl, -⟩ := J.list (sm.seq sq)
    exact wpAny_pyIter_list pl.isList ⟨_, [_], _, _, H2, rfl, J.kept (t' := s2.toks) (fun _ _ z => Heap.get?_push_of_some _ z), turn_list a _, ⟨_, Heap.get?_push_size _ rfl, rfl, rfl⟩, fun b hb => (List.mem_singleton.mp hb) ▸ fr, k _ _ walk_list fun H' e' => e'.seq sq⟩
  · obtain ⟨ys, -, pl, -⟩ := J.tuple (same_t sm sq)
    exact wpAny_pyIter_tuple pl ⟨_, [_], _, _, H2, rfl, J.kept (t' := s2.toks) (fun _ _ z => Heap.get?_push_of_some _ z), turn_tuple a _, ⟨_, Heap.get?_push_size _ rfl, rfl, rfl⟩, fun b hb => (List.mem_singleton.mp hb) ▸ fr, k _ _ walk_tup fun H' e' => same_t e' sq⟩⟩
end MK
set_option Elab.async false
set_option linter.all false
set_option autoImplicit false
set_option maxRecDepth 100000
set_option maxHeartbeats 4000000
namespace MK
open PySem PySem.Spec PyProof.Rows L2
local macro_rules | `(tactic| walk_at "x") => `(tactic| dsimp only [tSeq, tAsg, tRet, tDrop, tLst, tTup, tCons, tOp, tUn, tIfS])
def topS (i : Nat) : Stmt := PySem.Challenge.pw_makerlines_k03_kinds_refused.main.body.getD i (.Pass ⟨0, 0, 0, 0⟩)
structure Txt (K : PySem.W.Frag) (mg : Str → Option Value) : Prop where
  len : mg "len" = none
  int : mg "int" = none
  enumerate : mg "enumerate" = none
  list : mg "list" = none
  tuple : mg "tuple" = none
  isinstance : mg "isinstance" = none
  range : mg "range" = none
  all : mg "all" = none
  zip : mg "zip" = none
  ValueError : mg "ValueError" = none
  bool : mg "bool" = none
  str : mg "str" = none
  set : mg "set" = none
  any : mg "any" = none
/-- what stands at the names of the program's own constants -/
structure Cst where
  sorts : Addr
  hands : Addr
  sod : Addr
  wd : Addr
  lwd : Addr
def sodOf (z : Str) : Option (List Str) :=
  if z = "set" then some ["one"] else if z = "add" then some ["many"] else if z = "strike" then some ["many"] else if z = "fresh" then some ["many"] else if z = "clear" then some ["one", "many"] else none
structure Csts (K : PySem.W.Frag) (w : World) (mg : Str → Option Value) (C : Cst) : Prop where
  MOST_LETTERS : ∃ u, mg "MOST_LETTERS" = some u ∧ RelV (.int 8) u
  MOST_FIELDS : ∃ u, mg "MOST_FIELDS" = some u ∧ RelV (.int 3) u
  MOST_MODES : ∃ u, mg "MOST_MODES" = some u ∧ RelV (.int 4) u
  MOST_CALLS : ∃ u, mg "MOST_CALLS" = some u ∧ RelV (.int 6) u
  MOST_DEEDS : ∃ u, mg "MOST_DEEDS" = some u ∧ RelV (.int 4) u
  SORTS : ∃ u, mg "SORTS" = some u ∧ RelV (.ref C.sorts) u
  HANDS : ∃ u, mg "HANDS" = some u ∧ RelV (.ref C.hands) u
  SORTS_OF_DEEDS : ∃ u, mg "SORTS_OF_DEEDS" = some u ∧ RelV (.ref C.sod) u
  WORD_DEEDS : ∃ u, mg "WORD_DEEDS" = some u ∧ RelV (.ref C.wd) u
  LIST_WORD_DEEDS : ∃ u, mg "LIST_WORD_DEEDS" = some u ∧ RelV (.ref C.lwd) u
  t_sorts : ∀ H, SqT K H C.sorts [.str "one", .str "many"]
  t_hands : ∀ H, SqT K H C.hands [.str "self", .str "new", .str "last"]
  t_wd : ∀ H, SqT K H C.wd [.str "set", .str "add", .str "strike"]
  t_lwd : ∀ H, SqT K H C.lwd [.str "add", .str "strike"]
  sodD : ∃ es n, KDict K w C.sod es n
  sodN : ∀ z : Str, (PySem.W.nsIn K C.sod z = some none ∧ sodOf z = none) ∨ ∃ a l, PySem.W.nsIn K C.sod z = some (some (.ref a)) ∧ sodOf z = some l ∧ ∀ H, SqT K H a (l.map V.str)
/-! ### the draws of a law: the state is a list at s, its cells a list at c -/
abbrev s_fresh : Stmt := topS 52
theorem sc_fresh : FnScope ["_law_script"] ["_law_script"] (defScope s_fresh) := ⟨rfl, rfl, rfl, by decide +kernel, rfl, by decide +kernel, by decide +kernel⟩
abbrev s_fill : Stmt := topS 53
theorem sc_fill : FnScope ["_law_state", "_law_cells", "_law_nth", "_law_seed", "_law_k", "_law_prime", "_law_far"] ["_law_state"] (defScope s_fill) := ⟨rfl, rfl, rfl, by decide +kernel, rfl, by decide +kernel, by decide +kernel⟩
abbrev s_take : Stmt := topS 54
theorem sc_take : FnScope ["_law_state", "_law_many", "_law_laps", "_law_digit"] ["_law_state", "_law_many"] (defScope s_take) := ⟨rfl, rfl, rfl, by decide +kernel, rfl, by decide +kernel, by decide +kernel⟩
abbrev s_one : Stmt := topS 55
theorem sc_one : FnScope ["_law_state", "_law_things"] ["_law_state", "_law_things"] (defScope s_one) := ⟨rfl, rfl, rfl, by decide +kernel, rfl, by decide +kernel, by decide +kernel⟩
/-- the state of the draws: at s, its cells ns at c -/
def StA (H : Hp) (s c : Addr) (ns : List Int) : Prop := c ≠ s ∧ H c = some (.lst (ns.map V.int)) ∧ ∃ (a b : Int) (m : Bool), H s = some (.lst [.ref c, .int a, .int b, .bl m])
theorem StA.keep {H H' : Hp} {s c : Addr} {ns : List Int} (x : StA H s c ns) (e : Same H H') : StA H' s c ns := by
  obtain ⟨n, h1, a, b, m, h2⟩ := x
  exact ⟨n, e _ _ h1, a, b, m, e _ _ h2⟩
theorem cut63 (ns : List Int) (h : ns.length ≤ 63) : cutV (ns.map V.int) none (some 63) = ns.map V.int := by
  have e : HT.sIx (ns.map V.int).length (ns.map V.int).length (some 63) = min 63 (ns.map V.int).length := HT.sIx_nat _ _ 63
  unfold cutV
  rw [HT.sIx_none, e, List.drop_zero, Nat.sub_zero]
  exact List.take_of_length_le (by rw [List.length_map]; omega)
def primes : List V := [.int 2147483647, .int 2147483629, .int 2147483587, .int 2147483579, .int 2147483563]
theorem primes_ok {i : Nat} {y : V} (h : primes[i]? = some y) : ∃ p : Int, y = .int p ∧ 0 < p ∧ p < 4294967296 := by
  have m := List.mem_of_getElem? h
  simp only [primes, List.mem_cons, List.not_mem_nil, or_false] at m
  rcases m with rfl | rfl | rfl | rfl | rfl <;> exact ⟨_, rfl, by decide, by decide⟩
def spFresh (K : PySem.W.Frag) : Sp := fun vs H Q _ => ∃ (a : Addr) (ns : List Int), vs = [.ref a] ∧ SqL K H a (ns.map V.int) ∧ ns.length ≤ 63 ∧
  ∀ s c H', Same H H' → H s = none → H c = none → StA H' s c ns → Q (.ref s) H'
def spFill : Sp := fun vs H Q _ => ∃ (s c : Addr) (ns : List Int), vs = [.ref s] ∧ StA H s c ns ∧ ns.length ≤ 63 ∧ ∀ H', SameX s H H' → StA H' s c ns → Q .non H'
def spTake : Sp := fun vs H Q _ => ∃ (s c : Addr) (ns : List Int) (n : Int), vs = [.ref s, .int n] ∧ StA H s c ns ∧ ns.length ≤ 63 ∧ 0 < n ∧ n < 1000000 ∧
  ∀ (d : Nat) H', (d : Int) < n → SameX s H H' → StA H' s c ns → Q (.int d) H'
def spOne (K : PySem.W.Frag) : Sp := fun vs H Q _ => ∃ (s c l : Addr) (ns : List Int) (xs : List V), vs = [.ref s, .ref l] ∧ StA H s c ns ∧ ns.length ≤ 63 ∧ l ≠ s ∧ (SqL K H l xs ∨ SqT K H l xs) ∧ 0 < xs.length ∧ xs.length < 1000000 ∧
  ∀ (d : Nat) (x : V) H', xs[d]? = some x → SameX s H H' → StA H' s c ns → Q x H'
section
variable {P : Program} {w : World} {K : PySem.W.Frag} {mg : Str → Option Value} {base : Heap}
theorem ok_fresh {f : Addr} {fd : FuncData} (F : DefX K mg "_law_fresh" s_fresh ["_law_script"] f fd) (T : Txt K mg) : Cal P w K mg base CX0 1 "_law_fresh" (spFresh K) := by
  refine cal_mk F sc_fresh (fun vs H Q E h => ?_) (fun cdv A outer s H vs Q E hr h => ?_)
  · obtain ⟨a, ns, rfl, _⟩ := h
    rfl
  · obtain ⟨a, ns, rfl, hs, hl, k⟩ := h
    refine ⟨_, (pss_one (ps_ret (pe_lst (pa_cons (pe_slice sl_list (pv 0) po_none (po_some pe_int)) (pa_cons pe_int (pa_cons pe_int (pa_cons pe_bl pa_nil))))))), ?_⟩
    refine ⟨_, rfl, _, rfl, a, _, rfl, hs, fun c hc => ⟨(by show 4 ≤ sizeLine; decide), fun t ht => ?_⟩⟩
    rw [cut63 ns hl] at ht ⊢
    obtain ⟨tc, htn⟩ := upd_none ht
    refine k t c _ (same_new (same_new (Same.refl H) hc) ht) htn hc ⟨tc.symm, ?_, 0, 0, false, upd_same⟩
    rw [upd_ne tc.symm, upd_same]
theorem ok_fill {f : Addr} {fd : FuncData} (F : DefX K mg "_law_fill" s_fill ["_law_state"] f fd) (T : Txt K mg) : Cal P w K mg base CX0 1 "_law_fill" spFill := by
  refine cal_mk F sc_fill (fun vs H Q E h => ?_) (fun cdv A outer s H vs Q E hr h => ?_)
  · obtain ⟨s, c, ns, rfl, _⟩ := h
    rfl
  · obtain ⟨s, c, ns, rfl, ⟨cs, hc, a, b, m, hs⟩, hl, k⟩ := h
    refine ⟨_, (pss_cons (ps_par (i := 1) (j := 2) (by rfl) sc_fill.nd rfl rfl (by decide) rfl rfl (pa_cons (pe_ix ix_list (pv 0) pe_int (fun _ _ => rfl)) (pa_cons (pe_ix ix_list (pv 0) pe_int (fun _ _ => rfl)) pa_nil)) (by rfl))
(pss_cons (ps_set (i := 3) sc_fill.nd rfl (Or.inl rfl) (pe_op op_add (pe_op op_mul pe_int (pv 2)) pe_int))
(pss_cut (ps_if (pt_cmpR op_gt (pe_callB call_len_seq (by rfl) T.len (by decide +kernel) (pa_cons (pv 1) pa_nil)) pe_int (nomark _))
(pss_one (ps_set (i := 3) sc_fill.nd rfl (Or.inl rfl) (pe_op op_add (pe_op op_mul pe_int (pe_op op_fdivN (pv 2) (pe_callB call_len_seq (by rfl) T.len (by decide +kernel) (pa_cons (pv 1) pa_nil)))) (pe_ix ix_list (pv 1) (pe_op op_modN (pe_callTy call_int1 (by rfl) T.int (by decide +kernel) (pa_cons (pv 2) pa_nil)) (pe_callB call_len_seq (by rfl) T.len (by decide +kernel) (pa_cons (pv 1) pa_nil))) (fun _ _ => rfl)))))
pss_nil)
(pss_cons (ps_asg (pe_op op_add (pv 2) pe_int) (pg_sub (pv 0) pe_int set_list))
(pss_cons (ps_asg (pe_cut (pe_or (pe_cmpR op_ge (pv 2) (pe_callB call_len_seq (by rfl) T.len (by decide +kernel) (pa_cons (pv 1) pa_nil)) (nomark _)) (pe_one (pe_cmpR op_lt (pv 3) (pe_op op_pow pe_int pe_int) (nomark _))))) (pg_sub (pv 0) pe_int set_list))
(pss_cons (ps_asg (pe_op op_sub (pv 3) (pe_op op_pow pe_int pe_int)) (pg_sub (pv 0) pe_int set_list))
(pss_one (ps_if (pt_val (pe_ix ix_list (pv 0) pe_int (fun _ _ => rfl)))
(pss_cons (ps_asg pe_int (pg_sub (pv 0) pe_int set_list))
(pss_one (ps_for PassesOwn.never rfl (pi_enumT (by rfl) T.enumerate (pa_cons (pe_tup (pa_cons pe_int (pa_cons pe_int (pa_cons pe_int (pa_cons pe_int (pa_cons pe_int pa_nil)))))) pa_nil)) (pg_tup (by rfl) (pgs_cons (pg_name (i := 4) sc_fill.nd rfl (Or.inl rfl)) (pgs_cons (pg_name (i := 5) sc_fill.nd rfl (Or.inl rfl)) pgs_nil)))
(pss_cons (ps_set (i := 6) sc_fill.nd rfl (Or.inl rfl) (pe_op op_modN (pe_callTy call_int1 (by rfl) T.int (by decide +kernel) (pa_cons (pe_op op_mul (pe_op op_add (pe_op op_add (pv 3) (pe_op op_mul (pe_op op_mul pe_int (pv 4)) (pv 4))) (pe_op op_mul pe_int (pv 4))) (pe_op op_add pe_int (pe_op op_mul pe_int (pv 4)))) pa_nil)) (pv 5)))
(pss_one (ps_asg (pe_op op_add (pe_op op_mul (pe_ix ix_list (pv 0) pe_int (fun _ _ => rfl)) (pv 5)) (pe_op op_modN (pe_callTy call_int1 (by rfl) T.int (by decide +kernel) (pa_cons (pe_op op_pow (pv 6) pe_int) pa_nil)) (pv 5))) (pg_sub (pv 0) pe_int set_list)))))))
pss_nil)))))))), ?_⟩
    have sq : ∀ {H' : Hp}, SameX s H H' → SqL K H' c (ns.map V.int) := fun e => .inl (.inl (e _ _ hc cs))
    have kd : ∀ (H' : Hp) (b' : Int) (m' : Bool) (a' : Int), SameX s H H' → H' s = some (.lst [.ref c, .int a', .int b', .bl m']) → Q .non H' := fun H' b' m' a' e h => k H' e ⟨cs, e _ _ hc cs, a', b', m', h⟩
    -- cells, nth = state[0], state[1]
    refine ⟨_, rfl, s, _, 0, .ref c, rfl, rfl, SqL.of hs, rfl, _, rfl, s, _, 1, .int a, rfl, rfl, SqL.of hs, rfl, _, _, rfl, ?_⟩
    refine ⟨_, rfl, _, _, rfl, rfl, .inl (by decide), _, _, rfl, rfl, ?_⟩
    -- the seed is some int
    refine ⟨fun σ' H' => H' = H ∧ ∃ z : Int, σ' = [some (.ref s), some (.ref c), some (.int a), some (.int z), none, none, none], ?_, ?_⟩
    · refine ⟨_, rfl, c, _, rfl, .inl (sq (SameX.refl s H)), _, _, rfl, rfl, _, rfl, ?_⟩
      refine ite2 (fun hp => ?_) (fun hn => ?_)
      · have hpos : 0 < ns.length := by
          have q : (0 : Int) < ((ns.map V.int).length : Int) := of_decide_eq_true hp
          rw [List.length_map] at q
          omega
        have hne : ((ns.map V.int).length : Int) ≠ 0 := by rw [List.length_map]; omega
        have hsm : ((ns.map V.int).length : Int).natAbs < 1073741824 := by rw [List.length_map]; omega
        have sq0 := sq (SameX.refl s H)
        obtain ⟨v, hv⟩ : ∃ v, atI (ns.map V.int) (a.fmod ((ns.map V.int).length : Int)) = some (V.int v) := by
          have h0 := Int.fmod_nonneg_of_pos a (b := ((ns.map V.int).length : Int)) (by rw [List.length_map]; omega)
          have h1 := Int.fmod_lt_of_pos a (b := ((ns.map V.int).length : Int)) (by rw [List.length_map]; omega)
          obtain ⟨j, hj⟩ := Int.eq_ofNat_of_zero_le h0
          rw [hj] at h1 ⊢
          rw [List.length_map] at h1
          have hjl : j < ns.length := by omega
          exact ⟨ns[j], atI_nat (by rw [List.getElem?_map, List.getElem?_eq_getElem hjl]; rfl)⟩
        refine ⟨_, rfl, _, rfl, c, _, rfl, .inl sq0, _, _, rfl, rfl, ⟨hne, hsm⟩, _, _, rfl, rfl, .inl (by decide), ?_⟩
        refine ⟨_, rfl, _, rfl, .inl ⟨_, rfl, _, rfl, c, _, rfl, .inl sq0, _, _, rfl, rfl, hne, ?_⟩⟩
        exact ⟨c, _, _, _, rfl, rfl, sq0, hv, _, _, rfl, rfl, rfl, _, rfl⟩
      · exact ⟨rfl, _, rfl⟩
    · rintro σ' H' ⟨rfl, z, rfl⟩
      have e1 : SameX s H' (upd H' s (.lst [.ref c, .int (a + 1), .int b, .bl m])) := (SameX.refl s H').put
      -- state[1] = nth + 1; state[3] = ..
      refine ⟨_, rfl, _, _, rfl, rfl, _, rfl, s, _, 1, 1, rfl, rfl, hs, rfl, ?_⟩
      refine ⟨fun v H2 => H2 = _ ∧ ∃ d : Bool, v = .bl d, ⟨_, rfl, _, rfl, c, _, rfl, .inl (sq e1), _, _, rfl, rfl, _, rfl, ite2 (fun _ => ⟨rfl, _, rfl⟩) (fun _ => ?_)⟩, ?_⟩
      · exact ⟨_, rfl, _, _, rfl, rfl, ⟨by decide, by decide, by decide⟩, _, _, rfl, rfl, rfl, _, rfl⟩
      rintro _ _ ⟨rfl, d, rfl⟩
      refine ⟨_, rfl, s, _, 3, 3, rfl, rfl, upd_same, rfl, ?_⟩
      rw [upd_upd]
      -- state[2] = seed - 10 ** 18
      refine ⟨_, rfl, _, _, rfl, rfl, ⟨by decide, by decide, by decide⟩, _, _, rfl, rfl, _, rfl, s, _, 2, 2, rfl, rfl, upd_same, rfl, ?_⟩
      rw [upd_upd]
      refine ⟨_, rfl, s, _, 3, .bl d, rfl, rfl, SqL.of upd_same, rfl, d, rfl, ite2 (fun _ => ?_) (fun _ => ?_)⟩
      · -- mixed
        refine ⟨_, rfl, s, _, 2, 2, rfl, rfl, upd_same, rfl, ?_⟩
        rw [upd_upd]
        refine ⟨by show 5 ≤ sizeLine; decide, fun t ht => ⟨t, _, rfl, SqT.of upd_same, ?_⟩⟩
        obtain ⟨ts, ht'⟩ := upd_none ht
        refine for_it walk_enumT (fun i σ H2 => SameX s H' H2 ∧ H2 t = some (.tup primes) ∧ (∃ b2 : Int, H2 s = some (.lst [.ref c, .int (a + 1), .int b2, .bl d])) ∧ ∃ x4 x5 x6, σ = [some (.ref s), some (.ref c), some (.int a), some (.int z), x4, x5, x6])
          ⟨((SameX.refl s H').put).new ht, upd_same, ⟨0, (upd_ne ts.symm).trans upd_same⟩, none, none, none, rfl⟩ (fun i σ H2 _ q => SqT.of q.2.1) ?_ ?_
        · rintro i x σ H2 H3 hi ⟨e2, e3, ⟨b2, e4⟩, x4, x5, x6, rfl⟩ ⟨U, _, y, rfl, hU, rfl, h1, hy⟩
          obtain rfl := Option.some.inj h1
          obtain ⟨p, rfl, p0, p1⟩ := primes_ok (i := i) hy
          have us : s ≠ U := fun q => by rw [q, hU] at e4; cases e4
          refine ⟨U, _, rfl, SqT.of upd_same, rfl, _, _, rfl, _, _, rfl, rfl, ?_⟩
          have hf0 : p ≠ 0 := by omega
          have hi5 : i < 5 := hi
          -- far
          refine ⟨_, rfl, _, rfl, _, _, rfl, rfl, .inl (by decide), _, rfl, _, _, rfl, rfl, .inr (by omega), _, _, rfl, rfl, _, rfl, _, _, rfl, rfl, .inl (by decide), _, _, rfl, rfl, ?_⟩
          refine ⟨_, rfl, _, _, rfl, rfl, .inl (by decide), _, _, rfl, rfl, _, _, rfl, rfl, .inr (by omega), .inl ⟨_, rfl, _, rfl, _, _, rfl, rfl, hf0, ?_⟩⟩
          have f0 := Int.fmod_nonneg_of_pos ((z + 10007 * (i : Int) * (i : Int) + 101 * (i : Int)) * (48271 + 2 * (i : Int))) (b := p) (by omega)
          have f1 := Int.fmod_lt_of_pos ((z + 10007 * (i : Int) * (i : Int) + 101 * (i : Int)) * (48271 + 2 * (i : Int))) (b := p) (by omega)
          have e5 : upd H2 U (.tup [.int (i : Nat), .int p]) s = some (.lst [.ref c, .int (a + 1), .int b2, .bl d]) := by rw [upd_ne us]; exact e4
          refine ⟨_, rfl, s, _, 2, .int b2, rfl, rfl, SqL.of e5, rfl, _, rfl, _, _, rfl, rfl, .inr (by omega), ?_⟩
          refine ⟨_, rfl, _, _, rfl, rfl, ⟨by decide, by decide, by omega⟩, .inl ⟨_, rfl, _, rfl, _, _, rfl, rfl, hf0, _, _, rfl, rfl, _, rfl, s, _, 2, 2, rfl, rfl, e5, rfl, ?_⟩⟩
          have tU : t ≠ U := fun q => by rw [q, hU] at e3; cases e3
          exact ⟨(e2.new hU).put, by rw [upd_ne ts, upd_ne tU]; exact e3, ⟨_, upd_same⟩, _, _, _, rfl⟩
        · rintro σ H2 ⟨e2, _, ⟨b2, e4⟩, _⟩
          exact kd _ _ _ _ e2 e4
      · exact kd _ _ _ _ (SameX.refl s H').put upd_same
def lapsOf (σ : L2.St) (_ : Hp) : Nat := match (σ[2]? : Option (Option V)) with
  | some (some (V.int l)) => (64 - l).toNat
  | _ => 0
theorem ok_take {f : Addr} {fd : FuncData} (F : DefX K mg "_law_take" s_take ["_law_state", "_law_many"] f fd) (T : Txt K mg) (c_fill : Cal P w K mg base CX0 1 "_law_fill" spFill) : Cal P w K mg base CX0 2 "_law_take" spTake := by
  refine cal_mk F sc_take (fun vs H Q E h => ?_) (fun cdv A outer s H vs Q E hr h => ?_)
  · obtain ⟨s, c, ns, n, rfl, _⟩ := h
    rfl
  · obtain ⟨s, c, ns, n, rfl, h0, hl, n0, n1, k⟩ := h
    refine ⟨_, (pss_cons (ps_set (i := 2) sc_take.nd rfl (Or.inl rfl) pe_int)
(pss_cons (ps_while PassesOwn.never (pt_cut (PW.pt (pw_and (pt_cmpR op_lt (pv 2) pe_int (nomark _)) (pw_and1 (pt_cut (PW.pt (pw_or (pt_cmpR op_eq (pe_ix ix_list (pv 0) pe_int (fun _ _ => rfl)) pe_int (nomark _)) (pw_or1 (pt_cut (PW.pt (pw_and (pt_val (pe_ix ix_list (pv 0) pe_int (fun _ _ => rfl))) (pw_and1 (pt_cmpR op_lt (pe_ix ix_list (pv 0) pe_int (fun _ _ => rfl)) (pe_op op_mul (pv 1) pe_int) (nomark _))))))))))))))
(pss_cons (ps_expr (pe_c c_fill hr (by first | decide | assumption) rfl (pa_cons (pv 0) pa_nil)))
(pss_cons (ps_aug (i := 2) sc_take.nd rfl (Or.inl rfl) pe_int ip_add)
(pss_one (ps_if (pt_cut (PW.pt (pw_and (pt_val (pe_ix ix_list (pv 0) pe_int (fun _ _ => rfl))) (pw_and1 (pt_cmpR op_lt (pe_ix ix_list (pv 0) pe_int (fun _ _ => rfl)) (pe_op op_mul (pv 1) pe_int) (nomark _))))))
(pss_one (ps_asg (pe_op op_add (pe_ix ix_list (pv 0) pe_int (fun _ _ => rfl)) (pe_op op_mul (pe_op op_mul (pv 1) pe_int) (pe_op op_add pe_int (pe_op op_modN (pe_callTy call_int1 (by rfl) T.int (by decide +kernel) (pa_cons (pe_ix ix_list (pv 0) pe_int (fun _ _ => rfl)) pa_nil)) pe_int)))) (pg_sub (pv 0) pe_int set_list)))
pss_nil)))))
(pss_cons (ps_set (i := 3) sc_take.nd rfl (Or.inl rfl) (pe_op op_modN (pe_callTy call_int1 (by rfl) T.int (by decide +kernel) (pa_cons (pe_ix ix_list (pv 0) pe_int (fun _ _ => rfl)) pa_nil)) (pv 1)))
(pss_cons (ps_asg (pe_op op_fdivN (pe_ix ix_list (pv 0) pe_int (fun _ _ => rfl)) (pv 1)) (pg_sub (pv 0) pe_int set_list))
(pss_one (ps_ret (pv 3))))))), ?_⟩
    show tWhile _ _ _ [some (.ref s), some (.int n), some (.int 0), none] H
    refine while_by (fun σ H2 => SameX s H H2 ∧ StA H2 s c ns ∧ ∃ l : Int, σ = [some (.ref s), some (.int n), some (.int l), none]) lapsOf ⟨SameX.refl s H, h0, 0, rfl⟩ ?_ (fun σ H Q Q' h x => ?_)
    · rintro σ H2 ⟨e2, ⟨cs, hc, a, b, m, hs⟩, l, rfl⟩
      refine ⟨fun t H3 => H3 = H2 ∧ (t = true → l < 64), ?_, ?_⟩
      · refine ⟨_, rfl, _, _, rfl, rfl, _, rfl, ite2 (fun h1 => ?_) (fun h1 => ⟨rfl, fun h => nomatch h⟩)⟩
        have hl64 : l < 64 := of_decide_eq_true h1
        refine ⟨fun t H3 => H3 = H2, ⟨_, rfl, s, _, 2, _, rfl, rfl, SqL.of hs, rfl, rfl, _, rfl, ite2 (fun _ => rfl) (fun _ => ?_)⟩, fun t H3 e => ⟨e, fun _ => hl64⟩⟩
        refine ⟨fun t H3 => H3 = H2, ⟨_, rfl, s, _, 3, _, rfl, rfl, SqL.of hs, rfl, m, rfl, ite2 (fun _ => ?_) (fun _ => rfl)⟩, fun t H3 e => e⟩
        exact ⟨_, rfl, s, _, 2, _, rfl, rfl, SqL.of hs, rfl, _, rfl, _, _, rfl, rfl, .inr (by decide), _, _, rfl, rfl, _, rfl, rfl⟩
      · rintro t H3 ⟨rfl, ht⟩
        refine ite2 (fun h1 => ?_) (fun h1 => ?_)
        · have hl64 := ht h1
          have dec : ∀ x : Option V, lapsOf [some (.ref s), some (.int n), some (.int (l + 1)), x] H3 < lapsOf [some (.ref s), some (.int n), some (.int l), none] H3 := fun x => by
            show (64 - (l + 1)).toNat < (64 - l).toNat
            omega
          refine ⟨_, rfl, s, c, ns, rfl, ⟨cs, hc, a, b, m, hs⟩, hl, fun H4 e4 h4 => ?_⟩
          obtain ⟨_, hc4, a4, b4, m4, hs4⟩ := id h4
          refine ⟨_, rfl, _, _, rfl, rfl, ?_⟩
          refine ⟨fun t H5 => H5 = H4, ⟨_, rfl, s, _, 3, _, rfl, rfl, SqL.of hs4, rfl, m4, rfl, ite2 (fun _ => ?_) (fun _ => rfl)⟩, ?_⟩
          · exact ⟨_, rfl, s, _, 2, _, rfl, rfl, SqL.of hs4, rfl, _, rfl, _, _, rfl, rfl, .inr (by decide), _, _, rfl, rfl, _, rfl, rfl⟩
          rintro t5 H5 rfl
          refine ite2 (fun _ => ?_) (fun _ => ?_)
          · refine ⟨_, rfl, s, _, 2, _, rfl, rfl, SqL.of hs4, rfl, _, rfl, _, _, rfl, rfl, .inr (by decide), ?_⟩
            refine ⟨_, rfl, s, _, 2, _, rfl, rfl, SqL.of hs4, rfl, .inl ⟨_, rfl, _, _, rfl, rfl, (by show (4093 : Int) ≠ 0; decide), _, _, rfl, rfl, _, _, rfl, rfl, .inl ?_, _, _, rfl, rfl, ?_⟩⟩
            · show -(2 ^ 64) < n * 4096 ∧ n * 4096 < 2 ^ 64
              omega
            refine ⟨_, rfl, s, _, 2, 2, rfl, rfl, hs4, rfl, ⟨(e2.trans e4).put, ⟨cs, ?_, _, _, _, upd_same⟩, _, rfl⟩, dec none⟩
            rw [upd_ne cs]
            exact hc4
          · exact ⟨⟨e2.trans e4, h4, _, rfl⟩, dec none⟩
        · refine ⟨_, rfl, s, _, 2, _, rfl, rfl, SqL.of hs, rfl, .inl ⟨_, rfl, _, rfl, _, _, rfl, rfl, by omega, ?_⟩⟩
          refine ⟨_, rfl, s, _, 2, _, rfl, rfl, SqL.of hs, rfl, _, rfl, _, _, rfl, rfl, ⟨by omega, by omega⟩, _, rfl, s, _, 2, 2, rfl, rfl, hs, rfl, _, rfl, ?_⟩
          have d0 := Int.fmod_nonneg_of_pos b (b := n) n0
          have d1 := Int.fmod_lt_of_pos b (b := n) n0
          obtain ⟨d, hd⟩ := Int.eq_ofNat_of_zero_le d0
          show Q (.int (b.fmod n)) _
          rw [hd]
          refine k d _ (by omega) e2.put ⟨cs, ?_, _, _, _, upd_same⟩
          rw [upd_ne cs]
          exact hc
    · obtain ⟨M, a, b⟩ := x
      exact ⟨M, a, fun b' H' m => h _ _ (b b' H' m)⟩
theorem ok_one {f : Addr} {fd : FuncData} (F : DefX K mg "_law_one" s_one ["_law_state", "_law_things"] f fd) (T : Txt K mg) (c_take : Cal P w K mg base CX0 2 "_law_take" spTake) : Cal P w K mg base CX0 3 "_law_one" (spOne K) := by
  refine cal_mk F sc_one (fun vs H Q E h => ?_) (fun cdv A outer s H vs Q E hr h => ?_)
  · obtain ⟨s, c, l, ns, xs, rfl, _⟩ := h
    rfl
  · obtain ⟨s, c, l, ns, xs, rfl, h0, hl, ls, hx, x0, x1, k⟩ := h
    refine ⟨_, (pss_one (ps_ret (pe_ix ix_seq (pv 1) (pe_c c_take hr (by first | decide | assumption) rfl (pa_cons (pv 0) (pa_cons (pe_callB call_len_seq (by rfl) T.len (by decide +kernel) (pa_cons (pv 1) pa_nil)) pa_nil))) (fun _ _ => rfl)))), ?_⟩
    refine ⟨_, rfl, _, rfl, _, rfl, l, xs, rfl, hx, s, c, ns, _, rfl, h0, hl, by omega, by omega, fun d H2 hd e2 h2 => ?_⟩
    have hdl : d < xs.length := by omega
    have hv : xs[d]? = some xs[d] := List.getElem?_eq_getElem hdl
    rcases hx with hx | hx
    · exact .inl ⟨l, xs, _, _, rfl, rfl, e2.l ls hx, atI_nat hv, k d _ H2 hv e2 h2⟩
    · exact .inr (.inl ⟨l, xs, _, _, rfl, rfl, e2.t ls hx, atI_nat hv, k d _ H2 hv e2 h2⟩)
end
end MK
set_option Elab.async false
set_option linter.all false
set_option autoImplicit false
set_option maxRecDepth 100000
set_option maxHeartbeats 4000000
namespace MK
open PySem PySem.Spec PyProof.Rows L2
local macro_rules | `(tactic| walk_at "x") => `(tactic| dsimp only [tSeq, tAsg, tRet, tDrop, tLst, tTup, tCons, tOp, tUn, tIfS])
/-! ### what counts as a word, an integer, a list -/
abbrev s_is_word : Stmt := topS 20
theorem sc_is_word : FnScope ["thing", "letter"] ["thing"] (defScope s_is_word) := ⟨rfl, rfl, rfl, by decide +kernel, rfl, by decide +kernel, by decide +kernel⟩
abbrev s_is_integer : Stmt := topS 21
theorem sc_is_integer : FnScope ["thing"] ["thing"] (defScope s_is_integer) := ⟨rfl, rfl, rfl, by decide +kernel, rfl, by decide +kernel, by decide +kernel⟩
abbrev s_is_list : Stmt := topS 22
theorem sc_is_list : FnScope ["thing"] ["thing"] (defScope s_is_list) := ⟨rfl, rfl, rfl, by decide +kernel, rfl, by decide +kernel, by decide +kernel⟩
abbrev s_is_modes : Stmt := topS 35
theorem sc_is_modes : FnScope ["modes"] ["modes"] (defScope s_is_modes) := ⟨rfl, rfl, rfl, by decide +kernel, rfl, by decide +kernel, by decide +kernel⟩
def NoStr (K : PySem.W.Frag) (H : Hp) (x : V) : Prop := ∃ t, TyX K H x (.type t) ∧ kitB t "str" = some false
def spWord (K : PySem.W.Frag) : Sp := fun vs H Q _ => ∃ x, vs = [x] ∧ ((∃ z, x = .str z ∧ z.length ≤ sizeLine ∧ ∀ H', Same H H' → Q (.bl (wordB z)) H') ∨ (NoStr K H x ∧ Q (.bl false) H))
def spInt : Sp := fun vs H Q _ => ∃ i, vs = [.int i] ∧ Q (.bl true) H
def spList (K : PySem.W.Frag) : Sp := fun vs H Q _ => ∃ x xs, vs = [x] ∧ Sq K H x xs ∧ ∀ H', Same H H' → Q (.bl true) H'
def spModes : Sp := fun vs H Q _ => ∃ i : Int, vs = [.int i] ∧ Q (.bl (decide (1 ≤ i) && decide (i ≤ 4))) H
section
variable {P : Program} {w : World} {K : PySem.W.Frag} {mg : Str → Option Value} {base : Heap} {C : Cst}
theorem ok_word {f : Addr} {fd : FuncData} (F : DefX K mg "is_word" s_is_word ["thing"] f fd) (T : Txt K mg) (Cs : Csts K w mg C) : Cal P w K mg base CX0 1 "is_word" (spWord K) := by
  refine cal_mk F sc_is_word (fun vs H Q E h => ?_) (fun cdv A outer sh H vs Q E hr h => ?_)
  · obtain ⟨x, rfl, _⟩ := h
    rfl
  · obtain ⟨x, rfl, h⟩ := h
    refine ⟨_, (pss_cons (ps_if (pt_cut (PW.pt (pw_or (pt_not (pt_val (pe_callB call_isi (by rfl) T.isinstance (by decide +kernel) (pa_cons (pv 0) (pa_cons (pe_tyv (n := "str") (by rfl) T.str (by decide +kernel)) pa_nil))))) (pw_or1 (pt_not (pt_chain op_le op_le pe_int (pe_callB call_len_str (by rfl) T.len (by decide +kernel) (pa_cons (pv 0) pa_nil)) (pe_cst rfl Cs.MOST_LETTERS)))))))
(pss_one (ps_ret pe_bl))
pss_nil)
(pss_one (ps_ret (pe_callB (cr_all rfl) (by rfl) T.all (by decide +kernel) (pa_cons (pe_lc (own := [("letter", 1)]) (g := (gName 1)) (tt := tYes) rfl sc_is_word.nd (pi_str (pv 0)) (blkOk_by (own := [("letter", 1)]) (N := ["thing", "letter"]) (sc := defScope s_is_word) (by decide +kernel)) (fun _ _ _ _ _ => (pg_name (i := 1) sc_is_word.nd rfl (Or.inl rfl))) (fun _ _ _ _ _ => pts_nil) (fun _ _ _ _ _ => (pe_chain op_le_str op_le_str pe_str (pv 1) pe_str))) pa_nil))))), ?_⟩
    rcases h with ⟨z, rfl, hz, q⟩ | ⟨⟨t, ty, kt⟩, q⟩
    · refine ⟨fun t H' => H' = H ∧ t = !(decide (1 ≤ z.cps.size) && decide (z.cps.size ≤ 8)), ?_, ?_⟩
      · refine ⟨_, rfl, _, _, _, _, true, rfl, .ty _, .base (.str z), kit_ty (by decide +kernel), true, rfl, iteF ?_⟩
        refine ⟨_, rfl, z, rfl, hz, _, _, rfl, rfl, _, rfl, ?_⟩
        have e1 : decide ((1 : Int) ≤ (z.length : Int)) = decide (1 ≤ z.cps.size) := decide_eq_decide.mpr (by show ((1 : Int) ≤ (z.cps.size : Int)) ↔ _; omega)
        have e2 : decide ((z.length : Int) ≤ 8) = decide (z.cps.size ≤ 8) := decide_eq_decide.mpr (by show (((z.cps.size : Nat) : Int) ≤ 8) ↔ _; omega)
        rw [e1]
        refine ite2 (fun h1 => ?_) (fun h1 => ?_)
        · refine ⟨_, _, rfl, rfl, _, rfl, rfl, ?_⟩
          rw [e2, h1, Bool.true_and]
        · refine ⟨_, rfl, rfl, ?_⟩
          rw [Bool.not_eq_true] at h1
          rw [h1, Bool.false_and]
      · rintro t H' ⟨rfl, rfl⟩
        refine ite2 (fun h1 => ?_) (fun h1 => ?_)
        · have e : wordB z = false := by
            rw [Bool.not_eq_true'] at h1
            unfold wordB
            rw [h1, Bool.false_and]
          have := q _ (Same.refl H')
          rw [e] at this
          exact this
        · rw [Bool.not_eq_true', Bool.not_eq_false] at h1
          have hs : z.cps.toList.length < 9 := by
            have := of_decide_eq_true (Bool.and_eq_true_iff.mp h1).2
            rw [Array.length_toList]
            omega
          refine ⟨_, rfl, z, rfl, fun D hD => ?_⟩
          refine lc_it walk_str (fun i H2 => Same H' H2 ∧ H2 D = some (.lst (((z.cps.toList.take i).map letterB).map V.bl))) ⟨same_new (Same.refl H') hD, by rw [upd_same]; rfl⟩ (fun _ _ _ _ => trivial) ?_ ?_
          · rintro i x H3 H2 hi ⟨e2, d2⟩ ⟨rfl, c, hc, rfl⟩
            refine ⟨rfl, ?_⟩
            refine ⟨_, rfl, _, _, rfl, rfl, _, rfl, ?_⟩
            rw [letter_le]
            have step : Same H' (upd H2 D (.lst (((z.cps.toList.take i).map letterB).map V.bl ++ [V.bl (letterB c)]))) ∧ upd H2 D (.lst (((z.cps.toList.take i).map letterB).map V.bl ++ [V.bl (letterB c)])) D = some (.lst (((z.cps.toList.take (i + 1)).map letterB).map V.bl)) := by
              refine ⟨fun b o hb => ?_, ?_⟩
              · rw [upd_ne (ne_of_none hb hD)]
                exact e2 _ _ hb
              · rw [upd_same, letters_take _ i c (by rw [Array.getElem?_toList]; exact hc), List.map_append]
                rfl
            have short : (((z.cps.toList.take i).map letterB).map V.bl).length < sizeLine := by
              rw [List.length_map, List.length_map]
              exact Nat.lt_of_le_of_lt (List.length_take_le' ..) (Nat.lt_trans hs (by decide))
            refine ite2 (fun h2 => ?_) (fun h2 => ?_)
            · refine ⟨_, _, rfl, rfl, _, d2, short, ?_⟩
              rw [letter_ge, show decide (c ≤ 122) = letterB c by unfold letterB; rw [h2, Bool.true_and]]
              exact step
            · refine ⟨_, d2, short, ?_⟩
              rw [Bool.not_eq_true] at h2
              rw [show false = letterB c by unfold letterB; rw [h2, Bool.false_and]]
              exact step
          · rintro H2 ⟨e2, d2⟩
            refine ⟨D, _, rfl, SqL.of d2, ?_⟩
            have := q _ e2
            unfold wordB at this
            rw [h1, Bool.true_and] at this
            have ev : ((z.cps.toList.take z.cps.size).map letterB).all id = z.cps.toList.all letterB := by
              rw [← Array.length_toList, List.take_length, List.all_map]
              rfl
            rw [ev]
            exact this
    · refine ⟨fun t H' => H' = H ∧ t = true, ?_, ?_⟩
      · refine ⟨_, rfl, _, _, _, _, false, rfl, .ty _, ty, kit_ty kt, false, rfl, iteT ⟨rfl, rfl⟩⟩
      · rintro _ _ ⟨rfl, rfl⟩
        exact iteT q
theorem ok_integer {f : Addr} {fd : FuncData} (F : DefX K mg "is_integer" s_is_integer ["thing"] f fd) (T : Txt K mg) : Cal P w K mg base CX0 1 "is_integer" spInt := by
  refine cal_mk F sc_is_integer (fun vs H Q E h => ?_) (fun cdv A outer sh H vs Q E hr h => ?_)
  · obtain ⟨i, rfl, _⟩ := h
    rfl
  · obtain ⟨i, rfl, q⟩ := h
    refine ⟨_, (pss_one (ps_ret (pe_cut (pe_and (pe_callB call_isi (by rfl) T.isinstance (by decide +kernel) (pa_cons (pv 0) (pa_cons (pe_tyv (n := "int") (by rfl) T.int (by decide +kernel)) pa_nil))) (pe_one (pe_not (pe_callB call_isi (by rfl) T.isinstance (by decide +kernel) (pa_cons (pv 0) (pa_cons (pe_tyv (n := "bool") (by rfl) T.bool (by decide +kernel)) pa_nil))))))))), ?_⟩
    refine ⟨fun v H2 => v = .bl true ∧ H2 = H, ?_, fun v H2 e => by rw [e.1, e.2]; exact q⟩
    refine ⟨_, rfl, _, _, _, _, true, rfl, .ty _, .base (.int i), kit_ty (by decide +kernel), true, rfl, iteT ?_⟩
    exact ⟨_, rfl, _, _, _, _, false, rfl, .ty _, .base (.int i), kit_ty (by decide +kernel), _, rfl, rfl, rfl⟩
theorem ok_list {f : Addr} {fd : FuncData} (F : DefX K mg "is_list" s_is_list ["thing"] f fd) (T : Txt K mg) : Cal P w K mg base CX0 1 "is_list" (spList K) := by
  refine cal_mk F sc_is_list (fun vs H Q E h => ?_) (fun cdv A outer sh H vs Q E hr h => ?_)
  · obtain ⟨x, xs, rfl, _⟩ := h
    rfl
  · obtain ⟨x, xs, rfl, ⟨a, rfl, sq⟩, q⟩ := h
    refine ⟨_, (pss_one (ps_ret (pe_callB call_isiT (by rfl) T.isinstance (by decide +kernel) (pa_cons (pv 0) (pa_cons (pe_tup (pa_cons (pe_tyv (n := "list") (by rfl) T.list (by decide +kernel)) (pa_cons (pe_tyv (n := "tuple") (by rfl) T.tuple (by decide +kernel)) pa_nil))) pa_nil))))), ?_⟩
    obtain ⟨t, ty, kt⟩ := sq_ty sq
    refine ⟨_, rfl, by show 2 ≤ sizeLine; decide, fun p hp => ?_⟩
    have e1 : Same H (upd H p (.tup [.ty "list", .ty "tuple"])) := same_new (Same.refl H) hp
    exact ⟨_, p, _, _, _, true, rfl, upd_same, .cons (.ty _) (.cons (.ty _) .nil), tyx_keep e1 ty, kt, q _ e1⟩
theorem ok_modes {f : Addr} {fd : FuncData} (F : DefX K mg "is_modes" s_is_modes ["modes"] f fd) (T : Txt K mg) (Cs : Csts K w mg C) (c_is_integer : Cal P w K mg base CX0 1 "is_integer" spInt) : Cal P w K mg base CX0 2 "is_modes" spModes := by
  refine cal_mk F sc_is_modes (fun vs H Q E h => ?_) (fun cdv A outer sh H vs Q E hr h => ?_)
  · obtain ⟨i, rfl, _⟩ := h
    rfl
  · obtain ⟨i, rfl, q⟩ := h
    refine ⟨_, (pss_one (ps_ret (pe_cut (pe_and (pe_c c_is_integer hr (by first | decide | assumption) rfl (pa_cons (pv 0) pa_nil)) (pe_one (pe_chain op_le op_le pe_int (pv 0) (pe_cst rfl Cs.MOST_MODES))))))), ?_⟩
    refine ⟨fun v H2 => v = .bl (decide (1 ≤ i) && decide (i ≤ 4)) ∧ H2 = H, ?_, fun v H2 e => by rw [e.1, e.2]; exact q⟩
    refine ⟨_, rfl, i, rfl, true, rfl, iteT ?_⟩
    refine ⟨_, rfl, _, _, rfl, rfl, _, rfl, ite2 (fun h1 => ?_) (fun h1 => ?_)⟩
    · refine ⟨_, _, rfl, rfl, ?_, rfl⟩
      rw [h1, Bool.true_and]
    · refine ⟨?_, rfl⟩
      rw [Bool.not_eq_true] at h1
      rw [h1, Bool.false_and]
end
end MK
set_option Elab.async false
set_option linter.all false
set_option autoImplicit false
set_option maxRecDepth 100000
set_option maxHeartbeats 4000000
namespace MK
open PySem PySem.Spec PyProof.Rows L2
local macro_rules | `(tactic| walk_at "x") => `(tactic| dsimp only [tSeq, tAsg, tRet, tDrop, tLst, tTup, tCons, tOp, tUn, tIfS])
/-! ### fields -/
abbrev s_is_field : Stmt := topS 34
theorem sc_is_field : FnScope ["item", "earlier", "name", "sort", "need"] ["item", "earlier"] (defScope s_is_field) := ⟨rfl, rfl, rfl, by decide +kernel, rfl, by decide +kernel, by decide +kernel⟩
abbrev s_kept_fields : Stmt := topS 33
theorem sc_kept_fields : FnScope ["fields", "kept", "index", "item", "field", "earlier"] ["fields"] (defScope s_kept_fields) := ⟨rfl, rfl, rfl, by decide +kernel, rfl, by decide +kernel, by decide +kernel⟩
/-- a field -/
def spField (K : PySem.W.Frag) : Sp := fun vs H Q _ => ∃ (v : V) (e : Addr) (fd : FD) (ys : List Str), vs = [v, .ref e] ∧ FdA K H v fd ∧ SqL K H e (ys.map V.str) ∧ wordB fd.nm = true ∧ fd.nm ∉ ys ∧ ∀ H', Same H H' → Q (.bl true) H'
def spFields (K : PySem.W.Frag) : Sp := fun vs H Q _ => ∃ (s : Addr) (v : V) (fvs : List V) (fs : List FD), vs = [v] ∧ H s ≠ none ∧ Sq K (Off s H) v fvs ∧ Al (FdA K (Off s H)) fvs fs ∧ FsOk fs ∧
  ∀ r rvs H', Same H H' → Tu K (Off s H') r rvs → Al (FdT K (Off s H')) rvs fs → Q r H'
theorem word_len {z : Str} (h : wordB z = true) : z.length ≤ sizeLine := by
  unfold wordB at h
  have h1 := (Bool.and_eq_true_iff.mp h).1
  have h2 := of_decide_eq_true (Bool.and_eq_true_iff.mp h1).2
  exact Nat.le_trans (show z.cps.size ≤ 8 from h2) (by decide)
theorem nm_new {zs : List Str} {i : Nat} {z : Str} (nd : zs.Nodup) (h : zs[i]? = some z) : z ∉ zs.take i := by
  have hi := (List.getElem?_eq_some_iff.mp h).1
  have := not_ahead nd hi
  rw [List.getD_eq_getElem?_getD, h] at this
  exact this
section
variable {P : Program} {w : World} {K : PySem.W.Frag} {mg : Str → Option Value} {base : Heap} {C : Cst}
theorem ok_field {f : Addr} {fd : FuncData} (F : DefX K mg "is_field" s_is_field ["item", "earlier"] f fd) (T : Txt K mg) (Cs : Csts K w mg C) (c_is_list : Cal P w K mg base CX0 1 "is_list" (spList K)) (c_is_word : Cal P w K mg base CX0 1 "is_word" (spWord K)) : Cal P w K mg base CX0 2 "is_field" (spField K) := by
  refine cal_mk F sc_is_field (fun vs H Q E h => ?_) (fun cdv A outer sh H vs Q E hr h => ?_)
  · obtain ⟨v, e, fd, ys, rfl, _⟩ := h
    rfl
  · obtain ⟨v, e, fd, ys, rfl, ⟨a, rfl, hf⟩, he, hw, hn, q⟩ := h
    refine ⟨_, (pss_cons (ps_if (pt_cut (PW.pt (pw_or (pt_not (pt_val (pe_c c_is_list hr (by first | decide | assumption) rfl (pa_cons (pv 0) pa_nil)))) (pw_or1 (pt_cmpR op_ne (pe_callB call_len_seq (by rfl) T.len (by decide +kernel) (pa_cons (pv 0) pa_nil)) pe_int (nomark _))))))
(pss_one (ps_ret pe_bl))
pss_nil)
(pss_cons (ps_asg (pv 0) (pg_sq (by rfl) (pgs_cons (pg_name (i := 2) sc_is_field.nd rfl (Or.inl rfl)) (pgs_cons (pg_name (i := 3) sc_is_field.nd rfl (Or.inl rfl)) (pgs_cons (pg_name (i := 4) sc_is_field.nd rfl (Or.inl rfl)) pgs_nil)))))
(pss_one (ps_ret (pe_cut (pe_and (pe_c c_is_word hr (by first | decide | assumption) rfl (pa_cons (pv 2) pa_nil)) (pe_and (pe_cmpR op_notIn_seq (pv 2) (pv 1) (by rfl)) (pe_and (pe_cmpR op_in_seq (pv 3) (pe_cst rfl Cs.SORTS) (by rfl)) (pe_one (pe_callB call_isi (by rfl) T.isinstance (by decide +kernel) (pa_cons (pv 4) (pa_cons (pe_tyv (n := "bool") (by rfl) T.bool (by decide +kernel)) pa_nil)))))))))))), ?_⟩
    refine ⟨fun t H' => t = false ∧ Same H H', ⟨_, rfl, .ref a, _, rfl, ⟨a, rfl, hf⟩, fun H1 e1 => ⟨true, rfl, iteF ?_⟩⟩, ?_⟩
    · exact ⟨_, rfl, a, _, rfl, hf.elim (fun h => .inl (e1.seq h)) (fun h => .inr (same_t e1 h)), rfl, _, rfl, rfl, e1⟩
    rintro _ H1 ⟨rfl, e1⟩
    refine iteF ?_
    have hf1 : SqL K H1 a (FdV fd) ∨ SqT K H1 a (FdV fd) := hf.elim (fun h => .inl (e1.seq h)) (fun h => .inr (same_t e1 h))
    refine ⟨_, rfl, _, ⟨a, rfl, hf1⟩, rfl, _, _, rfl, _, _, rfl, _, _, rfl, rfl, ?_⟩
    refine ⟨fun v H2 => v = .bl true ∧ Same H H2, ?_, fun v H2 e => by rw [e.1]; exact q _ e.2⟩
    refine ⟨_, rfl, _, rfl, .inl ⟨_, rfl, word_len hw, fun H2 e2 => ?_⟩⟩
    rw [hw]
    refine ⟨_, rfl, iteT ?_⟩
    have e02 := e1.trans e2
    refine ⟨_, rfl, _, rfl, e, _, rfl, .inl (e02.seq he), rfl, flat_strs _, ?_⟩
    rw [inV_strs, decide_eq_false hn]
    refine ⟨_, rfl, iteT ?_⟩
    refine ⟨_, rfl, C.sorts, _, rfl, .inr (Cs.t_sorts _), rfl, rfl, true, ?_, iteT ?_⟩
    · cases fd.many <;> decide
    · exact ⟨_, rfl, _, _, _, _, true, rfl, .ty _, .base (.bl _), kit_ty (by decide +kernel), rfl, e02⟩
theorem ok_fields {f : Addr} {fd : FuncData} (F : DefX K mg "kept_fields" s_kept_fields ["fields"] f fd) (T : Txt K mg) (Cs : Csts K w mg C) (c_is_list : Cal P w K mg base CX0 1 "is_list" (spList K)) (c_is_field : Cal P w K mg base CX0 2 "is_field" (spField K)) : Cal P w K mg base CX0 3 "kept_fields" (spFields K) := by
  refine cal_mk F sc_kept_fields (fun vs H Q E h => ?_) (fun cdv A outer sh H vs Q E hr h => ?_)
  · obtain ⟨s, v, fvs, fs, rfl, _⟩ := h
    rfl
  · obtain ⟨s, v, fvs, fs, rfl, hs, ⟨a, rfl, hv⟩, hal, hok, k⟩ := h
    refine ⟨_, (pss_cons (ps_if (pt_cut (PW.pt (pw_or (pt_not (pt_val (pe_c c_is_list hr (by first | decide | assumption) rfl (pa_cons (pv 0) pa_nil)))) (pw_or1 (pt_cmpR op_eq (pe_callB call_len_seq (by rfl) T.len (by decide +kernel) (pa_cons (pv 0) pa_nil)) pe_int (nomark _))))))
(pss_one (ps_never))
pss_nil)
(pss_cons (ps_set (i := 1) sc_kept_fields.nd rfl (Or.inl rfl) (pe_lst pa_nil))
(pss_cons (ps_for PassesOwn.never rfl (pi_enV (by rfl) T.enumerate (pa_cons (pv 0) pa_nil)) (pg_tup (by rfl) (pgs_cons (pg_name (i := 2) sc_kept_fields.nd rfl (Or.inl rfl)) (pgs_cons (pg_name (i := 3) sc_kept_fields.nd rfl (Or.inl rfl)) pgs_nil)))
(pss_cons (ps_setLc (i := 5) (own := [("field", 4)]) (g := (gName 4)) (tt := tYes) rfl sc_kept_fields.nd rfl rfl (sw_true rfl rfl rfl (by decide +kernel)) (pi_list (pv 1)) (blkOk_by (own := [("field", 4)]) (N := ["fields", "kept", "index", "item", "field", "earlier"]) (sc := defScope s_kept_fields) (by decide +kernel)) (fun _ _ _ _ _ => (pg_name (i := 4) sc_kept_fields.nd rfl (Or.inl rfl))) (fun _ _ _ _ _ => pts_nil) (fun _ _ _ _ _ => (pe_ix (ix_tupK (K := K) rfl) (pv 4) pe_int (fun _ _ => rfl))))
(pss_cons (ps_if (pt_cut (PW.pt (pw_or (pt_cmpR op_ge (pv 2) (pe_cst rfl Cs.MOST_FIELDS) (nomark _)) (pw_or1 (pt_not (pt_val (pe_c c_is_field hr (by first | decide | assumption) rfl (pa_cons (pv 3) (pa_cons (pv 5) pa_nil)))))))))
(pss_one (ps_never))
pss_nil)
(pss_one (ps_expr (pe_bm PySem.F.plainAttrs_list PySem.F.slot_list_append PySem.F.type_list_append mt_append (pv 1) (pa_cons (pe_callTy call_tuple_of (by rfl) T.tuple (by decide +kernel) (pa_cons (pv 3) pa_nil)) pa_nil)))))))
(pss_one (ps_ret (pe_callTy call_tuple_of (by rfl) T.tuple (by decide +kernel) (pa_cons (pv 1) pa_nil))))))), ?_⟩
    have hv0 : SqL K H a fvs ∨ SqT K H a fvs := hv.elim (fun h => .inl (off_same.seq h)) (fun h => .inr (same_t off_same h))
    have len3 : fvs.length = fs.length := hal.1
    have l1 := hok.pos
    have l3 := hok.le
    refine ⟨fun t H' => t = false ∧ Same H H', ⟨_, rfl, .ref a, _, rfl, ⟨a, rfl, hv0⟩, fun H1 e1 => ⟨true, rfl, iteF ?_⟩⟩, ?_⟩
    · exact ⟨_, rfl, a, _, rfl, hv0.elim (fun h => .inl (e1.seq h)) (fun h => .inr (same_t e1 h)), rfl, _, rfl, decide_eq_false (fun e => by have := V.int.inj e; omega), e1⟩
    rintro _ H1 ⟨rfl, e1⟩
    refine iteF ?_
    refine ⟨by show 0 ≤ sizeLine; decide, fun D hD => ?_⟩
    have hsD : D ≠ s := fun e => by
      cases q : H s with
      | none => exact hs q
      | some o => rw [e, e1 _ _ q] at hD; cases hD
    have hD0 := none_of e1 hD
    refine ⟨_, rfl, a, fvs, Off s H, rfl, hv, off_same.trans (same_new e1 hD), fun J G wk hG => ?_⟩
    refine for_it wk (fun i σ H2 => Same H H2 ∧ ∃ kvs : List V, H2 D = some (.lst kvs) ∧ Al (FdT K (Off D (Off s H2))) kvs (fs.take i) ∧ ∃ x2 x3 x4 x5, σ = [some (.ref a), some (.ref D), x2, x3, x4, x5])
      ⟨same_new e1 hD, [], upd_same, Al.nil, none, none, none, none, rfl⟩ (fun i σ H2 _ h => hG _ (off_same.trans h.1)) ?_ ?_
    · rintro i x σ H2 H3 hi ⟨e2, kvs, d2, al, x2, x3, x4, x5, rfl⟩ ⟨U, _, y, rfl, hU, rfl, h1, hy⟩
      obtain rfl := Option.some.inj h1
      obtain ⟨f, hf, hfa⟩ := hal.get hy
      have hfm := List.mem_of_getElem? hf
      have e3 : Same H2 (upd H2 U (.tup [.int (i : Nat), y])) := same_new (Same.refl H2) hU
      refine ⟨U, _, rfl, SqT.of upd_same, rfl, _, _, rfl, _, _, rfl, rfl, ?_⟩
      refine ⟨_, rfl, D, rfl, ⟨_, SqL.of (e3 _ _ d2)⟩, fun D2 hD2 => ?_⟩
      refine lc_list (K := K) (a := D) (xs := kvs) (fun j H4 => Same H2 H4 ∧ H4 D2 = some (.lst ((((fs.take i).take j).map (·.nm)).map V.str))) ⟨same_new e3 hD2, upd_same⟩ (fun j H4 _ h => SqL.of (h.1 _ _ d2)) ?_ ?_
      · rintro j v H4 hv4 ⟨e4, d4⟩
        obtain ⟨g, hg, u, rfl, hu⟩ := al.get hv4
        have hu4 : SqT K H4 u (FdV g) := same_t (off_same.trans (off_same.trans e4)) hu
        refine ⟨rfl, ?_⟩
        refine ⟨_, rfl, u, _, 0, .str g.nm, rfl, rfl, hu4, rfl, _, d4, ?_, fun b o hb => ?_, ?_⟩
        · rw [List.length_map, List.length_map, List.length_take, List.length_take]
          exact Nat.lt_of_le_of_lt (by omega : _ ≤ 3) (by decide)
        · rw [upd_ne (ne_of_none (e3 _ _ hb) hD2)]
          exact e4 _ _ hb
        · rw [upd_same, List.take_succ (i := j), hg]
          simp
      rintro H4 ⟨e4, d4⟩
      rw [show kvs.length = (fs.take i).length from al.1, List.take_length] at d4
      have hi3 : i < fs.length := by
        have : i < fvs.length := hi
        omega
      have e24 := e2.trans e4
      refine ⟨fun t H' => t = false ∧ Same H4 H', ⟨_, rfl, _, _, rfl, rfl, _, rfl, iteB (decide_eq_false (by omega)) ?_⟩, ?_⟩
      · refine ⟨_, rfl, _, rfl, y, D2, f, _, rfl, FdA.keep (off_same.trans e24) hfa, SqL.of d4, hok.word f hfm, ?_, fun H5 e5 => ⟨true, rfl, rfl, e5⟩⟩
        rw [List.map_take]
        exact nm_new hok.nd (by rw [List.getElem?_map, hf]; rfl)
      rintro _ H5 ⟨rfl, e5⟩
      refine iteF ?_
      have e25 := e24.trans e5
      have d5 := (e4.trans e5) _ _ d2
      have kl : kvs.length < sizeLine := by
        rw [al.1, List.length_take]
        exact Nat.lt_of_le_of_lt (by omega : _ ≤ 3) (by decide)
      have tk : fs.take (i + 1) = fs.take i ++ [f] := by
        rw [List.take_succ, hf]
        rfl
      have fin : ∀ v H6, Same H5 H6 → FdT K (Off D (Off s H6)) v f → Same H (upd H6 D (.lst (kvs ++ [v]))) ∧ upd H6 D (.lst (kvs ++ [v])) D = some (.lst (kvs ++ [v])) ∧ Al (FdT K (Off D (Off s (upd H6 D (.lst (kvs ++ [v])))))) (kvs ++ [v]) (fs.take (i + 1)) := fun v H6 e6 hf6 => by
        refine ⟨fun b o hb => ?_, upd_same, ?_⟩
        · rw [upd_ne (ne_of_none hb hD0)]
          exact e6 _ _ (e25 _ _ hb)
        · rw [off_upd hsD, off_put, tk]
          exact (al.mono fun _ _ h => FdT.keep (same_off (same_off (e4.trans (e5.trans e6)))) h).snoc hf6
      refine ⟨_, rfl, .inl ⟨rfl, _, SqL.of d5⟩, _, rfl, ?_⟩
      obtain ⟨b, rfl, hb⟩ := hfa
      rcases hb with hb | hb
      · refine ⟨b, _, rfl, .inl ⟨(off_same.trans e25).seq hb, fun l hl => ?_⟩⟩
        have ls : l ≠ s := fun e => by
          cases q : H s with
          | none => exact hs q
          | some o => rw [e, e25 _ _ q] at hl; cases hl
        have lD : l ≠ D := fun e => by rw [e, d5] at hl; cases hl
        obtain ⟨p1, p2, p3⟩ := fin (.ref l) (upd H5 l (.tup (FdV f))) (same_new (Same.refl H5) hl) (Tu.tup (by rw [off_ne lD, off_ne ls, upd_same]))
        exact ⟨D, kvs, _, rfl, rfl, (upd_ne (Ne.symm lD)).trans d5, kl, p1, _, p2, p3, _, _, _, _, rfl⟩
      · obtain ⟨p1, p2, p3⟩ := fin (.ref b) H5 (Same.refl H5) ⟨b, rfl, same_t (same_offN (same_off e25) (off_none hD0)) hb⟩
        exact ⟨b, _, rfl, .inr ⟨same_t (off_same.trans e25) hb, ⟨D, kvs, _, rfl, rfl, d5, kl, p1, _, p2, p3, _, _, _, _, rfl⟩⟩⟩
    · rintro σ H2 ⟨e2, kvs, d2, al, x2, x3, x4, x5, rfl⟩
      refine ⟨_, rfl, D, kvs, rfl, .inl ⟨SqL.of d2, fun p hp => ?_⟩⟩
      have ps : p ≠ s := fun e => by
        cases q : H s with
        | none => exact hs q
        | some o => rw [e, e2 _ _ q] at hp; cases hp
      rw [len3, List.take_length] at al
      have e3 : Same H2 (upd H2 p (.tup kvs)) := same_new (Same.refl H2) hp
      refine k _ kvs _ (e2.trans e3) (Tu.tup (by rw [off_ne ps, upd_same])) (al.mono fun _ _ h => FdT.keep (off_same.trans (same_off e3)) h)
end
end MK
set_option Elab.async false
set_option linter.all false
set_option autoImplicit false
set_option maxRecDepth 100000
set_option maxHeartbeats 4000000
namespace MK
open PySem PySem.Spec PyProof.Rows L2
local macro_rules | `(tactic| walk_at "x") => `(tactic| dsimp only [tSeq, tAsg, tRet, tDrop, tLst, tTup, tCons, tOp, tUn, tIfS])
/-! ### moves, deeds, same -/
abbrev s_is_many : Stmt := topS 43
theorem sc_is_many : FnScope ["field", "sorts"] ["field", "sorts"] (defScope s_is_many) := ⟨rfl, rfl, rfl, by decide +kernel, rfl, by decide +kernel, by decide +kernel⟩
abbrev s_is_deed : Stmt := topS 41
theorem sc_is_deed : FnScope ["pair", "sorts", "deed", "field"] ["pair", "sorts"] (defScope s_is_deed) := ⟨rfl, rfl, rfl, by decide +kernel, rfl, by decide +kernel, by decide +kernel⟩
abbrev s_are_moves : Stmt := topS 39
theorem sc_are_moves : FnScope ["moves", "modes", "move"] ["moves", "modes"] (defScope s_are_moves) := ⟨rfl, rfl, rfl, by decide +kernel, rfl, by decide +kernel, by decide +kernel⟩
abbrev s_has_call_form : Stmt := topS 38
theorem sc_has_call_form : FnScope ["item", "name", "hand", "moves", "deeds", "same"] ["item"] (defScope s_has_call_form) := ⟨rfl, rfl, rfl, by decide +kernel, rfl, by decide +kernel, by decide +kernel⟩
def spMany : Sp := fun vs H Q _ => ∃ (z : Str) (so : Addr) (fs : List FD), vs = [.str z, .ref so] ∧ H so = some (.dK (sortsV fs)) ∧ (fs.map (·.nm)).Nodup ∧ (∃ f ∈ fs, f.nm = z ∧ f.many = true) ∧ Q (.bl true) H
def spDeed (K : PySem.W.Frag) : Sp := fun vs H Q _ => ∃ (v : V) (so : Addr) (fs : List FD) (d : Str × Str), vs = [v, .ref so] ∧ DeA K H v d ∧ H so = some (.dK (sortsV fs)) ∧ (fs.map (·.nm)).Nodup ∧ DeOk fs d ∧ ∀ H', Same H H' → Q (.bl true) H'
def spMoves (K : PySem.W.Frag) : Sp := fun vs H Q _ => ∃ (v : V) (n : Nat) (ms : List Int), vs = [v, .int n] ∧ Sq K H v (ms.map V.int) ∧ ms.length = n ∧ n ≤ 4 ∧ (∀ m ∈ ms, -1 ≤ m ∧ m < n) ∧ ∀ H', Same H H' → Q (.bl true) H'
def spCallForm (K : PySem.W.Frag) : Sp := fun vs H Q _ => ∃ (v : V) (cd : CD), vs = [v] ∧ CdA K H v cd ∧ ∀ H', Same H H' → Q (.bl true) H'
theorem sod_deed {z : Str} {b : Bool} (h : b ∈ deedSorts z) : ∃ l, sodOf z = some l ∧ sortS b ∈ l := by
  unfold deedSorts at h
  unfold sodOf
  split at h
  · rw [if_pos (by assumption)]
    exact ⟨_, rfl, by rw [List.mem_singleton.mp h]; decide⟩
  rw [if_neg (by assumption)]
  split at h
  · rw [if_pos (by assumption)]
    exact ⟨_, rfl, by rw [List.mem_singleton.mp h]; decide⟩
  rw [if_neg (by assumption)]
  split at h
  · rw [if_pos (by assumption)]
    exact ⟨_, rfl, by rw [List.mem_singleton.mp h]; decide⟩
  rw [if_neg (by assumption)]
  split at h
  · rw [if_pos (by assumption)]
    exact ⟨_, rfl, by rw [List.mem_singleton.mp h]; decide⟩
  rw [if_neg (by assumption)]
  split at h
  · rw [if_pos (by assumption)]
    exact ⟨_, rfl, by cases b <;> decide⟩
  · cases h
theorem sq_at {K : PySem.W.Frag} {H H' : Hp} {a : Addr} {xs : List V} (e : Same H H') (h : SqL K H a xs ∨ SqT K H a xs) : SqL K H' a xs ∨ SqT K H' a xs := h.elim (fun h => .inl (e.seq h)) (fun h => .inr (same_t e h))
section
variable {P : Program} {w : World} {K : PySem.W.Frag} {mg : Str → Option Value} {base : Heap} {C : Cst}
theorem ok_many {f : Addr} {fd : FuncData} (F : DefX K mg "is_many" s_is_many ["field", "sorts"] f fd) (T : Txt K mg) : Cal P w K mg base CX0 1 "is_many" spMany := by
  refine cal_mk F sc_is_many (fun vs H Q E h => ?_) (fun cdv A outer sh H vs Q E hr h => ?_)
  · obtain ⟨z, so, fs, rfl, _⟩ := h
    rfl
  · obtain ⟨z, so, fs, rfl, hso, nd, ⟨g, gm, rfl, gt⟩, q⟩ := h
    refine ⟨_, (pss_one (ps_ret (pe_cut (pe_and (pe_callB call_isi (by rfl) T.isinstance (by decide +kernel) (pa_cons (pv 0) (pa_cons (pe_tyv (n := "str") (by rfl) T.str (by decide +kernel)) pa_nil))) (pe_and (pe_cmp (pc_din (hu_of hr) (pv 0) (pv 1)) rfl) (pe_one (pe_cmpR op_eq (pe_dget (hu_of hr) (pv 1) (pv 0) (fun _ _ => rfl)) pe_str (nomark _)))))))), ?_⟩
    refine ⟨fun v H2 => v = .bl true ∧ H2 = H, ?_, fun v H2 e => by rw [e.1, e.2]; exact q⟩
    have hg : DGet H so (.str g.nm) (some (.str (sortS g.many))) := by
      have := DGet.k (k := .inr g.nm) hso
      rw [sorts_get nd gm] at this
      exact this
    refine ⟨_, rfl, _, _, _, _, true, rfl, .ty _, .base (.str _), kit_ty (by decide +kernel), true, rfl, iteT ?_⟩
    refine ⟨_, rfl, _, rfl, so, _, rfl, hg, true, rfl, iteT ?_⟩
    refine ⟨_, rfl, _, rfl, so, _, rfl, hg, rfl, ?_, rfl⟩
    rw [gt]
    rfl
theorem ok_deed {f : Addr} {fd : FuncData} (F : DefX K mg "is_deed" s_is_deed ["pair", "sorts"] f fd) (T : Txt K mg) (Cs : Csts K w mg C) (c_is_list : Cal P w K mg base CX0 1 "is_list" (spList K)) : Cal P w K mg base CX0 2 "is_deed" (spDeed K) := by
  obtain ⟨es, n, KD⟩ := Cs.sodD
  refine cal_mk F sc_is_deed (fun vs H Q E h => ?_) (fun cdv A outer sh H vs Q E hr h => ?_)
  · obtain ⟨v, so, fs, d, rfl, _⟩ := h
    rfl
  · obtain ⟨v, so, fs, d, rfl, ⟨a, rfl, hd⟩, hso, nd, ⟨g, gm, ge, gd⟩, q⟩ := h
    refine ⟨_, (pss_cons (ps_if (pt_cut (PW.pt (pw_or (pt_not (pt_val (pe_c c_is_list hr (by first | decide | assumption) rfl (pa_cons (pv 0) pa_nil)))) (pw_or1 (pt_cmpR op_ne (pe_callB call_len_seq (by rfl) T.len (by decide +kernel) (pa_cons (pv 0) pa_nil)) pe_int (nomark _))))))
(pss_one (ps_ret pe_bl))
pss_nil)
(pss_cons (ps_asg (pv 0) (pg_sq (by rfl) (pgs_cons (pg_name (i := 2) sc_is_deed.nd rfl (Or.inl rfl)) (pgs_cons (pg_name (i := 3) sc_is_deed.nd rfl (Or.inl rfl)) pgs_nil))))
(pss_cons (ps_if (pt_cut (PW.pt (pw_or (pt_not (pt_val (pe_callB call_isi (by rfl) T.isinstance (by decide +kernel) (pa_cons (pv 2) (pa_cons (pe_tyv (n := "str") (by rfl) T.str (by decide +kernel)) pa_nil))))) (pw_or1 (pt_cmpR (op_notIn_kd KD) (pv 2) (pe_cst rfl Cs.SORTS_OF_DEEDS) (by rfl))))))
(pss_one (ps_ret pe_bl))
pss_nil)
(pss_one (ps_ret (pe_cut (pe_and (pe_callB call_isi (by rfl) T.isinstance (by decide +kernel) (pa_cons (pv 3) (pa_cons (pe_tyv (n := "str") (by rfl) T.str (by decide +kernel)) pa_nil))) (pe_and (pe_cmp (pc_din (hu_of hr) (pv 3) (pv 1)) rfl) (pe_one (pe_cmpR op_in_seq (pe_dget (hu_of hr) (pv 1) (pv 3) (fun _ _ => rfl)) (pe_kget KD (pe_cst rfl Cs.SORTS_OF_DEEDS) (pv 2) (fun _ _ => rfl)) (by rfl))))))))))), ?_⟩
    refine ⟨fun t H' => t = false ∧ Same H H', ⟨_, rfl, .ref a, _, rfl, ⟨a, rfl, hd⟩, fun H1 e1 => ⟨true, rfl, iteF ⟨_, rfl, a, _, rfl, sq_at e1 hd, rfl, _, rfl, rfl, e1⟩⟩⟩, ?_⟩
    rintro _ H1 ⟨rfl, e1⟩
    refine iteF ?_
    refine ⟨_, rfl, _, ⟨a, rfl, sq_at e1 hd⟩, rfl, _, _, rfl, _, _, rfl, rfl, ?_⟩
    obtain ⟨l, hl, hml⟩ := sod_deed gd
    obtain ⟨sa, l', hns, hl', hsa⟩ := (Cs.sodN d.1).resolve_left fun q => by rw [q.2] at hl; cases hl
    obtain rfl : l' = l := by rw [hl'] at hl; exact Option.some.inj hl
    refine ⟨fun t H' => t = false ∧ H' = H1, ⟨_, rfl, _, _, _, _, true, rfl, .ty _, .base (.str _), kit_ty (by decide +kernel), true, rfl, iteF ⟨_, rfl, _, _, rfl, rfl, hns, _, rfl, rfl, rfl⟩⟩, ?_⟩
    rintro _ H1 ⟨rfl, rfl⟩
    refine iteF ?_
    have hg : DGet H1 so (.str d.2) (some (.str (sortS g.many))) := by
      have := DGet.k (k := .inr g.nm) (e1 _ _ hso)
      rw [sorts_get nd gm] at this
      rw [← ge]
      exact this
    refine ⟨fun v H2 => v = .bl true ∧ H2 = H1, ?_, fun v H2 e => by rw [e.1, e.2]; exact q _ e1⟩
    refine ⟨_, rfl, _, _, _, _, true, rfl, .ty _, .base (.str _), kit_ty (by decide +kernel), true, rfl, iteT ?_⟩
    refine ⟨_, rfl, _, rfl, so, _, rfl, hg, true, rfl, iteT ?_⟩
    refine ⟨_, rfl, _, rfl, so, _, rfl, hg, _, rfl, _, _, .ref sa, rfl, rfl, hns, rfl, ?_⟩
    refine ⟨sa, _, rfl, .inr (hsa _), rfl, flat_strs _, ?_, rfl⟩
    rw [inV_strs, decide_eq_true hml]
    rfl
theorem ok_moves {f : Addr} {fd : FuncData} (F : DefX K mg "are_moves" s_are_moves ["moves", "modes"] f fd) (T : Txt K mg) (c_is_integer : Cal P w K mg base CX0 1 "is_integer" spInt) : Cal P w K mg base CX0 2 "are_moves" (spMoves K) := by
  refine cal_mk F sc_are_moves (fun vs H Q E h => ?_) (fun cdv A outer sh H vs Q E hr h => ?_)
  · obtain ⟨v, n, ms, rfl, _⟩ := h
    rfl
  · obtain ⟨v, n, ms, rfl, ⟨a, rfl, hm⟩, rfl, n4, hz, q⟩ := h
    refine ⟨_, (pss_cons (ps_if (pt_cmpR op_ne (pe_callB call_len_seq (by rfl) T.len (by decide +kernel) (pa_cons (pv 0) pa_nil)) (pv 1) (nomark _))
(pss_one (ps_ret pe_bl))
pss_nil)
(pss_one (ps_ret (pe_callB (cr_all rfl) (by rfl) T.all (by decide +kernel) (pa_cons (pe_lc (own := [("move", 2)]) (g := (gName 2)) (tt := tYes) rfl sc_are_moves.nd (pi_sqV (pv 0)) (blkOk_by (own := [("move", 2)]) (N := ["moves", "modes", "move"]) (sc := defScope s_are_moves) (by decide +kernel)) (fun _ _ _ _ _ => (pg_name (i := 2) sc_are_moves.nd rfl (Or.inl rfl))) (fun _ _ _ _ _ => pts_nil) (fun _ _ _ _ _ => (pe_cut (pe_and (pe_c c_is_integer hr (by first | decide | assumption) rfl (pa_cons (pv 2) pa_nil)) (pe_one (pe_chain op_le op_lt (pe_un un_neg pe_int) (pv 2) (pv 1))))))) pa_nil))))), ?_⟩
    refine ⟨_, rfl, a, _, rfl, hm, _, rfl, rfl, _, rfl, iteB ?_ ?_⟩
    · rw [List.length_map, decide_eq_true rfl]
      rfl
    refine ⟨_, rfl, a, _, H, rfl, hm, Same.refl H, fun J G wk hG D hD => ?_⟩
    refine lc_it wk (fun i H2 => Same H H2 ∧ H2 D = some (.lst ((List.replicate i true).map V.bl))) ⟨same_new (Same.refl H) hD, upd_same⟩ (fun i H2 _ h => hG _ h.1) ?_ ?_
    · rintro i x H3 H2 hi ⟨e2, d2⟩ ⟨rfl, hx⟩
      rw [List.getElem?_map] at hx
      obtain ⟨m, hm2, rfl⟩ := Option.map_eq_some_iff.mp hx
      have hmz := hz m (List.mem_of_getElem? hm2)
      have hi4 : i < 4 := by
        have : i < (ms.map V.int).length := hi
        rw [List.length_map] at this
        omega
      refine ⟨rfl, ?_⟩
      refine ⟨fun v H4 => v = .bl true ∧ H4 = H2, ?_, ?_⟩
      · refine ⟨_, rfl, m, rfl, true, rfl, iteT ?_⟩
        refine ⟨_, rfl, _, rfl, _, _, rfl, rfl, _, rfl, iteA (decide_eq_true (by omega)) ⟨_, rfl, _, _, rfl, rfl, ?_, rfl⟩⟩
        exact congrArg V.bl (decide_eq_true hmz.2)
      · rintro _ _ ⟨rfl, rfl⟩
        refine ⟨_, d2, ?_, fun b o hb => ?_, ?_⟩
        · rw [List.length_map, List.length_replicate]
          exact Nat.lt_trans hi4 (by decide)
        · rw [upd_ne (ne_of_none hb hD)]
          exact e2 _ _ hb
        · rw [upd_same, List.replicate_succ', List.map_append]
          rfl
    · rintro H2 ⟨e2, d2⟩
      refine ⟨D, _, rfl, SqL.of d2, ?_⟩
      rw [show (List.replicate (ms.map V.int).length true).all id = true by simp]
      exact q _ e2
theorem ok_callForm {f : Addr} {fd : FuncData} (F : DefX K mg "has_call_form" s_has_call_form ["item"] f fd) (T : Txt K mg) (c_is_list : Cal P w K mg base CX0 1 "is_list" (spList K)) : Cal P w K mg base CX0 2 "has_call_form" (spCallForm K) := by
  refine cal_mk F sc_has_call_form (fun vs H Q E h => ?_) (fun cdv A outer sh H vs Q E hr h => ?_)
  · obtain ⟨v, cd, rfl, _⟩ := h
    rfl
  · obtain ⟨v, cd, rfl, ⟨m, d, s, ds, ⟨a, rfl, h1⟩, h2, h3, h4, h5⟩, q⟩ := h
    refine ⟨_, (pss_cons (ps_if (pt_cut (PW.pt (pw_or (pt_not (pt_val (pe_c c_is_list hr (by first | decide | assumption) rfl (pa_cons (pv 0) pa_nil)))) (pw_or1 (pt_cmpR op_ne (pe_callB call_len_seq (by rfl) T.len (by decide +kernel) (pa_cons (pv 0) pa_nil)) pe_int (nomark _))))))
(pss_one (ps_ret pe_bl))
pss_nil)
(pss_cons (ps_asg (pv 0) (pg_sq (by rfl) (pgs_cons (pg_name (i := 1) sc_has_call_form.nd rfl (Or.inl rfl)) (pgs_cons (pg_name (i := 2) sc_has_call_form.nd rfl (Or.inl rfl)) (pgs_cons (pg_name (i := 3) sc_has_call_form.nd rfl (Or.inl rfl)) (pgs_cons (pg_name (i := 4) sc_has_call_form.nd rfl (Or.inl rfl)) (pgs_cons (pg_name (i := 5) sc_has_call_form.nd rfl (Or.inl rfl)) pgs_nil)))))))
(pss_cons (ps_if (pt_cut (PW.pt (pw_or (pt_not (pt_val (pe_callB call_isi (by rfl) T.isinstance (by decide +kernel) (pa_cons (pv 1) (pa_cons (pe_tyv (n := "str") (by rfl) T.str (by decide +kernel)) pa_nil))))) (pw_or1 (pt_not (pt_val (pe_callB call_isi (by rfl) T.isinstance (by decide +kernel) (pa_cons (pv 2) (pa_cons (pe_tyv (n := "str") (by rfl) T.str (by decide +kernel)) pa_nil)))))))))
(pss_one (ps_ret pe_bl))
pss_nil)
(pss_one (ps_ret (pe_cut (pe_and (pe_c c_is_list hr (by first | decide | assumption) rfl (pa_cons (pv 3) pa_nil)) (pe_and (pe_c c_is_list hr (by first | decide | assumption) rfl (pa_cons (pv 4) pa_nil)) (pe_one (pe_c c_is_list hr (by first | decide | assumption) rfl (pa_cons (pv 5) pa_nil))))))))))), ?_⟩
    obtain ⟨ma, rfl, h2⟩ := h2
    obtain ⟨da, rfl, h3⟩ := h3
    obtain ⟨sa, rfl, h5⟩ := h5
    refine ⟨fun t H' => t = false ∧ Same H H', ⟨_, rfl, .ref a, _, rfl, ⟨a, rfl, h1⟩, fun H1 e1 => ⟨true, rfl, iteF ⟨_, rfl, a, _, rfl, sq_at e1 h1, rfl, _, rfl, rfl, e1⟩⟩⟩, ?_⟩
    rintro _ H1 ⟨rfl, e1⟩
    refine iteF ?_
    refine ⟨_, rfl, _, ⟨a, rfl, sq_at e1 h1⟩, rfl, _, _, rfl, _, _, rfl, _, _, rfl, _, _, rfl, _, _, rfl, rfl, ?_⟩
    refine ⟨fun t H' => t = false ∧ H' = H1, ⟨_, rfl, _, _, _, _, true, rfl, .ty _, .base (.str _), kit_ty (by decide +kernel), true, rfl, iteF ⟨_, rfl, _, _, _, _, true, rfl, .ty _, .base (.str _), kit_ty (by decide +kernel), true, rfl, rfl, rfl⟩⟩, ?_⟩
    rintro _ H1 ⟨rfl, rfl⟩
    refine iteF ?_
    refine ⟨fun v H2 => v = .bl true ∧ Same H H2, ?_, fun v H2 e => by rw [e.1]; exact q _ e.2⟩
    refine ⟨_, rfl, .ref ma, _, rfl, ⟨ma, rfl, sq_at e1 h2⟩, fun H2 e2 => ⟨true, rfl, iteT ?_⟩⟩
    refine ⟨_, rfl, .ref da, _, rfl, ⟨da, rfl, sq_at (e1.trans e2) h3⟩, fun H3 e3 => ⟨true, rfl, iteT ?_⟩⟩
    exact ⟨_, rfl, .ref sa, _, rfl, ⟨sa, rfl, sq_at ((e1.trans e2).trans e3) h5⟩, fun H4 e4 => ⟨rfl, ((e1.trans e2).trans e3).trans e4⟩⟩
end
end MK
set_option Elab.async false
set_option linter.all false
set_option autoImplicit false
set_option maxRecDepth 100000
set_option maxHeartbeats 4000000
namespace MK
open PySem PySem.Spec PyProof.Rows L2
local macro_rules | `(tactic| walk_at "x") => `(tactic| dsimp only [tSeq, tAsg, tRet, tDrop, tLst, tTup, tCons, tOp, tUn, tIfS])
/-! ### deeds and same, whole; a call -/
abbrev s_are_deeds : Stmt := topS 40
theorem sc_are_deeds : FnScope ["deeds", "sorts", "pair", "deed", "field", "worded"] ["deeds", "sorts"] (defScope s_are_deeds) := ⟨rfl, rfl, rfl, by decide +kernel, rfl, by decide +kernel, by decide +kernel⟩
abbrev s_is_same : Stmt := topS 42
theorem sc_is_same : FnScope ["same", "hand", "sorts", "field"] ["same", "hand", "sorts"] (defScope s_is_same) := ⟨rfl, rfl, rfl, by decide +kernel, rfl, by decide +kernel, by decide +kernel⟩
abbrev s_kept_call : Stmt := topS 44
theorem sc_kept_call : FnScope ["call", "name", "hand", "moves", "deeds", "same", "pair"] ["call"] (defScope s_kept_call) := ⟨rfl, rfl, rfl, by decide +kernel, rfl, by decide +kernel, by decide +kernel⟩
abbrev s_wrong_part : Stmt := topS 37
theorem sc_wrong_part : FnScope ["item", "earlier", "sorts", "modes", "name", "hand", "moves", "deeds", "same"] ["item", "earlier", "sorts", "modes"] (defScope s_wrong_part) := ⟨rfl, rfl, rfl, by decide +kernel, rfl, by decide +kernel, by decide +kernel⟩
def spDeedsOk (K : PySem.W.Frag) : Sp := fun vs H Q _ => ∃ (v : V) (so : Addr) (fs : List FD) (dvs : List V) (ds : List (Str × Str)), vs = [v, .ref so] ∧ Sq K H v dvs ∧ Al (DeA K H) dvs ds ∧ H so = some (.dK (sortsV fs)) ∧ (fs.map (·.nm)).Nodup ∧ (∀ d ∈ ds, DeOk fs d) ∧ ds.length ≤ 4 ∧ (worded ds).Nodup ∧ ∀ H', Same H H' → Q (.bl true) H'
def spSameOk (K : PySem.W.Frag) : Sp := fun vs H Q _ => ∃ (v : V) (so : Addr) (fs : List FD) (hd : Str) (zs : List Str), vs = [v, .str hd, .ref so] ∧ Sq K H v (zs.map V.str) ∧ H so = some (.dK (sortsV fs)) ∧ (fs.map (·.nm)).Nodup ∧ (∀ z ∈ zs, ∃ f ∈ fs, f.nm = z ∧ f.many = true) ∧ zs.length < 100 ∧ (hd = "self" → zs = []) ∧ zs.Nodup ∧ ∀ H', Same H H' → Q (.bl true) H'
def spKeptCall (K : PySem.W.Frag) : Sp := fun vs H Q _ => ∃ (s : Addr) (v : V) (cd : CD), vs = [v] ∧ H s ≠ none ∧ CdA K (Off s H) v cd ∧ cd.deeds.length ≤ 4 ∧ ∀ r H', Same H H' → CdT K (Off s H') r cd → Q r H'
def spWrong (K : PySem.W.Frag) : Sp := fun vs H Q _ => ∃ (v : V) (e so : Addr) (n : Nat) (fs : List FD) (ys : List Str) (cd : CD), vs = [v, .ref e, .ref so, .int n] ∧ CdA K H v cd ∧ SqL K H e (ys.map V.str) ∧ H so = some (.dK (sortsV fs)) ∧ FsOk fs ∧ n ≤ 4 ∧ CdOk fs n cd ∧ cd.nm ∉ ys ∧ ∀ H', Same H H' → Q .non H'
section
variable {P : Program} {w : World} {K : PySem.W.Frag} {mg : Str → Option Value} {base : Heap} {C : Cst}
theorem ok_deedsOk {f : Addr} {fd : FuncData} (F : DefX K mg "are_deeds" s_are_deeds ["deeds", "sorts"] f fd) (T : Txt K mg) (Cs : Csts K w mg C) (c_is_deed : Cal P w K mg base CX0 2 "is_deed" (spDeed K)) : Cal P w K mg base CX0 3 "are_deeds" (spDeedsOk K) := by
  refine cal_mk F sc_are_deeds (fun vs H Q E h => ?_) (fun cdv A outer sh H vs Q E hr h => ?_)
  · obtain ⟨v, so, fs, dvs, ds, rfl, _⟩ := h
    rfl
  · obtain ⟨v, so, fs, dvs, ds, rfl, ⟨a, rfl, hd⟩, hal, hso, nd, hok, d4, wnd, q⟩ := h
    refine ⟨_, (pss_cons (ps_if (pt_cut (PW.pt (pw_or (pt_cmpR op_gt (pe_callB call_len_seq (by rfl) T.len (by decide +kernel) (pa_cons (pv 0) pa_nil)) (pe_cst rfl Cs.MOST_DEEDS) (nomark _)) (pw_or1 (pt_not (pt_val (pe_callB (cr_all rfl) (by rfl) T.all (by decide +kernel) (pa_cons (pe_lc (own := [("pair", 2)]) (g := (gName 2)) (tt := tYes) rfl sc_are_deeds.nd (pi_sqV (pv 0)) (blkOk_by (own := [("pair", 2)]) (N := ["deeds", "sorts", "pair", "deed", "field", "worded"]) (sc := defScope s_are_deeds) (by decide +kernel)) (fun _ _ _ _ _ => (pg_name (i := 2) sc_are_deeds.nd rfl (Or.inl rfl))) (fun _ _ _ _ _ => pts_nil) (fun _ _ _ _ _ => (pe_c c_is_deed hr (by first | decide | assumption) rfl (pa_cons (pv 2) (pa_cons (pv 1) pa_nil))))) pa_nil))))))))
(pss_one (ps_ret pe_bl))
pss_nil)
(pss_cons (ps_setLc (i := 5) (own := [("deed", 3), ("field", 4)]) (g := (gSq K 2 (gCons (gName 3) (gCons (gName 4) gNil)))) rfl sc_are_deeds.nd rfl rfl (sw_true rfl rfl rfl (by decide +kernel)) (pi_sqV (pv 0)) (blkOk_by (own := [("deed", 3), ("field", 4)]) (N := ["deeds", "sorts", "pair", "deed", "field", "worded"]) (sc := defScope s_are_deeds) (by decide +kernel)) (fun _ _ _ _ _ => (pg_sq (by rfl) (pgs_cons (pg_name (i := 3) sc_are_deeds.nd rfl (Or.inl rfl)) (pgs_cons (pg_name (i := 4) sc_are_deeds.nd rfl (Or.inl rfl)) pgs_nil)))) (fun _ _ _ _ _ => (pts_one (pt_cmpR (op_in_seqK (K := K) rfl) (pv 3) (pe_cst rfl Cs.LIST_WORD_DEEDS) (by rfl)))) (fun _ _ _ _ _ => (pv 4)))
(pss_one (ps_ret (pe_cmpR op_eq (pe_lenS rfl (by rfl) T.len (by rfl) T.set (pv 5)) (pe_callB call_len_seq (by rfl) T.len (by decide +kernel) (pa_cons (pv 5) pa_nil)) (nomark _)))))), ?_⟩
    have dl : dvs.length ≤ 4 := by rw [hal.1]; exact d4
    refine ⟨fun t H' => t = false ∧ Same H H', ⟨_, rfl, a, _, rfl, hd, _, _, rfl, rfl, _, rfl, iteB (decide_eq_false (by omega)) ?_⟩, ?_⟩
    · refine ⟨_, rfl, a, _, H, rfl, hd, Same.refl H, fun J G wk hG D hD => ?_⟩
      refine lc_it wk (fun i H2 => Same H H2 ∧ H2 D = some (.lst ((List.replicate i true).map V.bl))) ⟨same_new (Same.refl H) hD, upd_same⟩ (fun i H2 _ h => hG _ h.1) ?_ ?_
      · rintro i x H3 H2 hi ⟨e2, d2⟩ ⟨rfl, hx⟩
        obtain ⟨dd, hdd, hda⟩ := hal.get hx
        refine ⟨rfl, ?_⟩
        refine ⟨_, rfl, _, rfl, x, so, fs, dd, rfl, DeA.keep e2 hda, e2 _ _ hso, nd, hok dd (List.mem_of_getElem? hdd), fun H4 e4 => ⟨_, e4 _ _ d2, ?_, fun b o hb => ?_, ?_⟩⟩
        · rw [List.length_map, List.length_replicate]
          exact Nat.lt_trans (Nat.lt_of_lt_of_le hi dl) (by decide)
        · rw [upd_ne (ne_of_none hb hD)]
          exact e4 _ _ (e2 _ _ hb)
        · rw [upd_same, List.replicate_succ', List.map_append]
          rfl
      · rintro H2 ⟨e2, d2⟩
        refine ⟨D, _, rfl, SqL.of d2, true, ?_, rfl, e2⟩
        simp
    rintro _ H1 ⟨rfl, e1⟩
    refine iteF ?_
    refine ⟨_, rfl, a, _, H, rfl, hd, e1, fun J G wk hG D hD => ?_⟩
    refine lc_it wk (fun i H2 => Same H H2 ∧ H2 D = some (.lst ((worded (ds.take i)).map V.str))) ⟨same_new e1 hD, upd_same⟩ (fun i H2 _ h => hG _ h.1) ?_ ?_
    · rintro i x H3 H2 hi ⟨e2, d2⟩ ⟨rfl, hx⟩
      obtain ⟨dd, hdd, hda⟩ := hal.get hx
      have tk : worded (ds.take (i + 1)) = worded (ds.take i) ++ (if dd.1 = ("add" : Str) ∨ dd.1 = ("strike" : Str) then [dd.2] else []) := by
        rw [List.take_succ, hdd]
        exact worded_snoc _ _
      refine ⟨DeV dd, DeA.keep e2 hda, rfl, _, _, rfl, _, _, rfl, rfl, rfl, ?_⟩
      refine ⟨_, rfl, C.lwd, _, rfl, .inr (Cs.t_lwd _), rfl, rfl, _, rfl, ?_⟩
      rw [show ([.str "add", .str "strike"] : List V) = (["add", "strike"] : List Str).map V.str from rfl, inV_strs]
      refine ite2 (fun h1 => ?_) (fun h1 => ?_)
      · have hm : dd.1 = ("add" : Str) ∨ dd.1 = ("strike" : Str) := by
          have := of_decide_eq_true h1
          simpa using this
        refine ⟨_, rfl, _, d2, ?_, fun b o hb => ?_, ?_⟩
        · rw [List.length_map]
          have : (worded (ds.take i)).length ≤ (ds.take i).length := by unfold worded; rw [List.length_map]; exact List.length_filter_le ..
          have h2 : (ds.take i).length ≤ ds.length := List.length_take_le' ..
          exact Nat.lt_of_le_of_lt (by omega : _ ≤ 4) (by decide)
        · rw [upd_ne (ne_of_none hb (none_of e1 hD))]
          exact e2 _ _ hb
        · rw [upd_same, tk, if_pos hm, List.map_append]
          rfl
      · have hm : ¬ (dd.1 = ("add" : Str) ∨ dd.1 = ("strike" : Str)) := fun q => h1 (decide_eq_true (by simpa using q))
        refine ⟨e2, ?_⟩
        rw [tk, if_neg hm, List.append_nil]
        exact d2
    · rintro H2 ⟨e2, d2⟩
      rw [hal.1, List.take_length] at d2
      have wl : (worded ds).length < 1000 := by
        have : (worded ds).length ≤ ds.length := by unfold worded; rw [List.length_map]; exact List.length_filter_le ..
        omega
      refine ⟨_, rfl, worded ds, Sq.lst d2, wnd, wl, _, rfl, D, _, rfl, .inl (SqL.of d2), rfl, ?_⟩
      rw [List.length_map, decide_eq_true rfl]
      exact q _ e2
theorem ok_sameOk {f : Addr} {fd : FuncData} (F : DefX K mg "is_same" s_is_same ["same", "hand", "sorts"] f fd) (T : Txt K mg) (c_is_many : Cal P w K mg base CX0 1 "is_many" spMany) : Cal P w K mg base CX0 2 "is_same" (spSameOk K) := by
  refine cal_mk F sc_is_same (fun vs H Q E h => ?_) (fun cdv A outer sh H vs Q E hr h => ?_)
  · obtain ⟨v, so, fs, hd, zs, rfl, _⟩ := h
    rfl
  · obtain ⟨v, so, fs, hd, zs, rfl, ⟨a, rfl, hz⟩, hso, nd, hok, z9, hself, znd, q⟩ := h
    refine ⟨_, (pss_cons (ps_if (pt_not (pt_val (pe_callB (cr_all rfl) (by rfl) T.all (by decide +kernel) (pa_cons (pe_lc (own := [("field", 3)]) (g := (gName 3)) (tt := tYes) rfl sc_is_same.nd (pi_sqV (pv 0)) (blkOk_by (own := [("field", 3)]) (N := ["same", "hand", "sorts", "field"]) (sc := defScope s_is_same) (by decide +kernel)) (fun _ _ _ _ _ => (pg_name (i := 3) sc_is_same.nd rfl (Or.inl rfl))) (fun _ _ _ _ _ => pts_nil) (fun _ _ _ _ _ => (pe_c c_is_many hr (by first | decide | assumption) rfl (pa_cons (pv 3) (pa_cons (pv 2) pa_nil))))) pa_nil))))
(pss_one (ps_ret pe_bl))
pss_nil)
(pss_cons (ps_if (pt_cut (PW.pt (pw_and (pt_cmpR op_eq (pv 1) pe_str (nomark _)) (pw_and1 (pt_cmpR op_gt (pe_callB call_len_seq (by rfl) T.len (by decide +kernel) (pa_cons (pv 0) pa_nil)) pe_int (nomark _))))))
(pss_one (ps_ret pe_bl))
pss_nil)
(pss_one (ps_ret (pe_cmpR op_eq (pe_lenS rfl (by rfl) T.len (by rfl) T.set (pv 0)) (pe_callB call_len_seq (by rfl) T.len (by decide +kernel) (pa_cons (pv 0) pa_nil)) (nomark _)))))), ?_⟩
    refine ⟨_, rfl, a, _, H, rfl, hz, Same.refl H, fun J G wk hG D hD => ?_⟩
    refine lc_it wk (fun i H2 => Same H H2 ∧ H2 D = some (.lst ((List.replicate i true).map V.bl))) ⟨same_new (Same.refl H) hD, upd_same⟩ (fun i H2 _ h => hG _ h.1) ?_ ?_
    · rintro i x H3 H2 hi ⟨e2, d2⟩ ⟨rfl, hx⟩
      rw [List.getElem?_map] at hx
      obtain ⟨z, hz2, rfl⟩ := Option.map_eq_some_iff.mp hx
      have hi9 : i < 100 := by
        have : i < (zs.map V.str).length := hi
        rw [List.length_map] at this
        omega
      refine ⟨rfl, ?_⟩
      refine ⟨_, rfl, _, rfl, z, so, fs, rfl, e2 _ _ hso, nd, hok z (List.mem_of_getElem? hz2), _, d2, ?_, fun b o hb => ?_, ?_⟩
      · rw [List.length_map, List.length_replicate]
        exact Nat.lt_trans hi9 (by decide)
      · rw [upd_ne (ne_of_none hb hD)]
        exact e2 _ _ hb
      · rw [upd_same, List.replicate_succ', List.map_append]
        rfl
    · rintro H2 ⟨e2, d2⟩
      refine ⟨D, _, rfl, SqL.of d2, true, by simp, iteF ?_⟩
      refine ⟨fun t H' => t = false ∧ H' = H2, ⟨_, rfl, rfl, _, rfl, ite2 (fun h1 => ?_) (fun h1 => ⟨rfl, rfl⟩)⟩, ?_⟩
      · obtain rfl := hself (V.str.inj (of_decide_eq_true h1))
        exact ⟨_, rfl, a, _, rfl, sq_at e2 hz, _, _, rfl, rfl, _, rfl, rfl, rfl⟩
      rintro _ H2 ⟨rfl, rfl⟩
      refine iteF ?_
      refine ⟨_, rfl, zs, ⟨a, rfl, sq_at e2 hz⟩, znd, by omega, _, rfl, a, _, rfl, sq_at e2 hz, rfl, ?_⟩
      rw [List.length_map, decide_eq_true rfl]
      exact q _ e2
theorem ok_keptCall {f : Addr} {fd : FuncData} (F : DefX K mg "kept_call" s_kept_call ["call"] f fd) (T : Txt K mg) : Cal P w K mg base CX0 1 "kept_call" (spKeptCall K) := by
  refine cal_mk F sc_kept_call (fun vs H Q E h => ?_) (fun cdv A outer sh H vs Q E hr h => ?_)
  · obtain ⟨s, v, cd, rfl, _⟩ := h
    rfl
  · obtain ⟨s, v, cd, rfl, hs, ⟨m, d, sm, ds, ⟨a, rfl, h1⟩, h2, h3, h4, h5⟩, d4, k⟩ := h
    refine ⟨_, (pss_cons (ps_asg (pv 0) (pg_sq (by rfl) (pgs_cons (pg_name (i := 1) sc_kept_call.nd rfl (Or.inl rfl)) (pgs_cons (pg_name (i := 2) sc_kept_call.nd rfl (Or.inl rfl)) (pgs_cons (pg_name (i := 3) sc_kept_call.nd rfl (Or.inl rfl)) (pgs_cons (pg_name (i := 4) sc_kept_call.nd rfl (Or.inl rfl)) (pgs_cons (pg_name (i := 5) sc_kept_call.nd rfl (Or.inl rfl)) pgs_nil)))))))
(pss_one (ps_ret (pe_tup (pa_cons (pv 1) (pa_cons (pv 2) (pa_cons (pe_cut (pe_callTy call_tuple_of (by rfl) T.tuple (by decide +kernel) (pa_cons (pv 3) pa_nil))) (pa_cons (pe_cut (pe_callTy call_tuple_of (by rfl) T.tuple (by decide +kernel) (pa_cons (pe_lc (own := [("pair", 6)]) (g := (gName 6)) (tt := tYes) rfl sc_kept_call.nd (pi_sqV (pv 4)) (blkOk_by (own := [("pair", 6)]) (N := ["call", "name", "hand", "moves", "deeds", "same", "pair"]) (sc := defScope s_kept_call) (by decide +kernel)) (fun _ _ _ _ _ => (pg_name (i := 6) sc_kept_call.nd rfl (Or.inl rfl))) (fun _ _ _ _ _ => pts_nil) (fun _ _ _ _ _ => (pe_cut (pe_callTy (call_tuple_ofK (K := K) rfl) (by rfl) T.tuple (by decide +kernel) (pa_cons (pv 6) pa_nil))))) pa_nil))) (pa_cons (pe_cut (pe_callTy call_tuple_of (by rfl) T.tuple (by decide +kernel) (pa_cons (pv 5) pa_nil))) pa_nil))))))))), ?_⟩
    have h10 : SqL K H a [.str cd.nm, .str cd.hand, m, d, sm] ∨ SqT K H a [.str cd.nm, .str cd.hand, m, d, sm] := sq_at off_same h1
    obtain ⟨da, rfl, h3⟩ := h3
    obtain ⟨ma, rfl, h2⟩ := h2
    obtain ⟨sa, rfl, h5⟩ := h5
    refine ⟨_, rfl, _, ⟨a, rfl, h10⟩, rfl, _, _, rfl, _, _, rfl, _, _, rfl, _, _, rfl, _, _, rfl, rfl, ?_⟩
    refine ⟨_, rfl, _, rfl, fun v H1 => Same H H1 ∧ Tu K (Off s H1) v (cd.moves.map V.int), ⟨_, rfl, rd_tupM (K := K) hs ⟨ma, rfl, h2⟩⟩, ?_⟩
    rintro mv H1 ⟨e1, tm⟩
    refine ⟨fun v H4 => Same H1 H4 ∧ ∃ tvs, Tu K (Off s H4) v tvs ∧ Al (DeT K (Off s H4)) tvs cd.deeds, ?_, ?_⟩
    · refine ⟨_, rfl, da, ds, Off s H, rfl, h3, off_same.trans e1, fun J G wk hG D hD => ?_⟩
      have Ds := ne_s hs e1 hD
      refine lc_it wk (fun i H2 => Same H1 H2 ∧ ∃ tvs : List V, H2 D = some (.lst tvs) ∧ Al (DeT K (Off D (Off s H2))) tvs (cd.deeds.take i)) ⟨same_new (Same.refl H1) hD, [], upd_same, Al.nil⟩ (fun i H2 _ h => hG _ ((off_same.trans e1).trans h.1)) ?_ ?_
      · rintro i x H3 H2 hi ⟨e2, tvs, d2, al⟩ ⟨rfl, hx⟩
        obtain ⟨dd, hdd, hda⟩ := h4.get hx
        have e12 := e1.trans e2
        refine ⟨rfl, ?_⟩
        refine ⟨fun v H4 => Same H2 H4 ∧ DeT K (Off s H4) v dd, ⟨_, rfl, rd_tupM (K := K) (kept_s hs e12) (DeA.keep (same_off e12) hda)⟩, ?_⟩
        rintro v H4 ⟨e4, tv⟩
        have d4' := e4 _ _ d2
        refine ⟨_, d4', ?_, fun b o hb => ?_, tvs ++ [v], upd_same, ?_⟩
        · rw [al.1]
          have : (cd.deeds.take i).length ≤ cd.deeds.length := List.length_take_le' ..
          exact Nat.lt_of_le_of_lt (by omega : _ ≤ 4) (by decide)
        · rw [upd_ne (ne_of_none hb hD)]
          exact e4 _ _ (e2 _ _ hb)
        · rw [off_upd Ds, off_put, List.take_succ, hdd]
          exact (al.mono fun _ _ h => DeT.keep (same_off (same_off e4)) h).snoc (Tu.offL tv ((off_ne Ds).trans d4'))
      · rintro H2 ⟨e2, tvs, d2, al⟩
        have e12 := e1.trans e2
        have al : Al (DeT K (Off D (Off s H2))) tvs cd.deeds := by
          have h := al
          rw [h4.1, List.take_length] at h
          exact h
        refine ⟨D, _, rfl, .inl ⟨SqL.of d2, fun l hl => ?_⟩⟩
        have e3 := same_new (Same.refl H2) hl (o := .tup tvs)
        refine ⟨e2.trans e3, tvs, Tu.tup ?_, al.mono fun _ _ h => DeT.keep (off_same.trans (same_off e3)) h⟩
        rw [off_ne (ne_s hs e12 hl), upd_same]
    rintro dv H2 ⟨e2, tvs, td, al⟩
    have e12 := e1.trans e2
    refine ⟨fun v H4 => Same H2 H4 ∧ Tu K (Off s H4) v (cd.same.map V.str), ⟨_, rfl, rd_tupM (K := K) (kept_s hs e12) (Sq.keep (same_off e12) ⟨sa, rfl, h5⟩)⟩, ?_⟩
    rintro sv H4 ⟨e4, ts⟩
    refine ⟨by show 5 ≤ sizeLine; decide, fun p hp => ?_⟩
    have e14 := e12.trans e4
    have e5 := same_new (Same.refl H4) hp (o := .tup [.str cd.nm, .str cd.hand, mv, dv, sv])
    refine k (.ref p) _ (e14.trans e5) ⟨mv, dv, sv, tvs, Tu.tup ?_, tm.keep (same_off (e2.trans (e4.trans e5))), td.keep (same_off (e4.trans e5)), al.mono fun _ _ h => DeT.keep (same_off (e4.trans e5)) h, ts.keep (same_off e5)⟩
    rw [off_ne (ne_s hs e14 hp), upd_same]
theorem ok_wrong {f : Addr} {fd : FuncData} (F : DefX K mg "wrong_part" s_wrong_part ["item", "earlier", "sorts", "modes"] f fd) (T : Txt K mg) (Cs : Csts K w mg C) (c_has_call_form : Cal P w K mg base CX0 2 "has_call_form" (spCallForm K)) (c_is_word : Cal P w K mg base CX0 1 "is_word" (spWord K))
    (c_are_moves : Cal P w K mg base CX0 2 "are_moves" (spMoves K)) (c_are_deeds : Cal P w K mg base CX0 3 "are_deeds" (spDeedsOk K)) (c_is_same : Cal P w K mg base CX0 2 "is_same" (spSameOk K)) : Cal P w K mg base CX0 4 "wrong_part" (spWrong K) := by
  refine cal_mk F sc_wrong_part (fun vs H Q E h => ?_) (fun cdv A outer sh H vs Q E hr h => ?_)
  · obtain ⟨v, e, so, n, fs, ys, cd, rfl, _⟩ := h
    rfl
  · obtain ⟨v, e, so, n, fs, ys, cd, rfl, ⟨m, d, sm, ds, ⟨a, rfl, h1⟩, ⟨ma, rfl, h2⟩, ⟨da, rfl, h3⟩, h4, ⟨sa, rfl, h5⟩⟩, he, hso, fok, n4, ok, hn, q⟩ := h
    refine ⟨_, (pss_cons (ps_if (pt_not (pt_val (pe_c c_has_call_form hr (by first | decide | assumption) rfl (pa_cons (pv 0) pa_nil))))
(pss_one (ps_ret pe_str))
pss_nil)
(pss_cons (ps_asg (pv 0) (pg_sq (by rfl) (pgs_cons (pg_name (i := 4) sc_wrong_part.nd rfl (Or.inl rfl)) (pgs_cons (pg_name (i := 5) sc_wrong_part.nd rfl (Or.inl rfl)) (pgs_cons (pg_name (i := 6) sc_wrong_part.nd rfl (Or.inl rfl)) (pgs_cons (pg_name (i := 7) sc_wrong_part.nd rfl (Or.inl rfl)) (pgs_cons (pg_name (i := 8) sc_wrong_part.nd rfl (Or.inl rfl)) pgs_nil)))))))
(pss_cons (ps_if (pt_cut (PW.pt (pw_or (pt_not (pt_val (pe_c c_is_word hr (by first | decide | assumption) rfl (pa_cons (pv 4) pa_nil)))) (pw_or1 (pt_cmpR op_in_seq (pv 4) (pv 1) (by rfl))))))
(pss_one (ps_ret pe_str))
pss_nil)
(pss_cons (ps_if (pt_cmpR op_notIn_seq (pv 5) (pe_cst rfl Cs.HANDS) (by rfl))
(pss_one (ps_ret pe_str))
pss_nil)
(pss_cons (ps_if (pt_not (pt_val (pe_c c_are_moves hr (by first | decide | assumption) rfl (pa_cons (pv 6) (pa_cons (pv 3) pa_nil)))))
(pss_one (ps_ret pe_str))
pss_nil)
(pss_cons (ps_if (pt_not (pt_val (pe_c c_are_deeds hr (by first | decide | assumption) rfl (pa_cons (pv 7) (pa_cons (pv 2) pa_nil)))))
(pss_one (ps_ret pe_str))
pss_nil)
(pss_cons (ps_if (pt_not (pt_val (pe_c c_is_same hr (by first | decide | assumption) rfl (pa_cons (pv 8) (pa_cons (pv 5) (pa_cons (pv 2) pa_nil))))))
(pss_one (ps_ret pe_str))
pss_nil)
(pss_one (ps_ret pe_non))))))))), ?_⟩
    have hcd : CdA K H (.ref a) cd := ⟨_, _, _, ds, ⟨a, rfl, h1⟩, ⟨ma, rfl, h2⟩, ⟨da, rfl, h3⟩, h4, ⟨sa, rfl, h5⟩⟩
    refine ⟨_, rfl, .ref a, cd, rfl, hcd, fun H1 e1 => ⟨true, rfl, iteF ?_⟩⟩
    refine ⟨_, rfl, _, ⟨a, rfl, sq_at e1 h1⟩, rfl, _, _, rfl, _, _, rfl, _, _, rfl, _, _, rfl, _, _, rfl, rfl, ?_⟩
    refine ⟨fun t H' => t = false ∧ Same H H', ⟨_, rfl, _, rfl, .inl ⟨_, rfl, word_len ok.word, fun H2 e2 => ?_⟩⟩, ?_⟩
    · rw [ok.word]
      refine ⟨true, rfl, iteF ⟨_, rfl, _, rfl, e, _, rfl, .inl ((e1.trans e2).seq he), rfl, flat_strs _, ?_⟩⟩
      rw [inV_strs, decide_eq_false hn]
      exact ⟨_, rfl, rfl, e1.trans e2⟩
    rintro _ H2 ⟨rfl, e2⟩
    refine iteF ?_
    refine ⟨_, rfl, C.hands, _, rfl, .inr (Cs.t_hands _), rfl, rfl, false, ?_, iteF ?_⟩
    · rcases ok.hand with h | h | h <;> rw [h] <;> decide
    refine ⟨_, rfl, _, rfl, .ref ma, n, cd.moves, rfl, ⟨ma, rfl, sq_at e2 h2⟩, ok.len, n4, ok.move, fun H3 e3 => ⟨true, rfl, iteF ?_⟩⟩
    have e23 := e2.trans e3
    refine ⟨_, rfl, _, rfl, .ref da, so, fs, ds, cd.deeds, rfl, ⟨da, rfl, sq_at e23 h3⟩, h4.mono fun _ _ h => DeA.keep e23 h, e23 _ _ hso, fok.nd, ok.deed, ok.deeds, ok.once, fun H4 e4 => ⟨true, rfl, iteF ?_⟩⟩
    have e24 := e23.trans e4
    have sl : cd.same.length < 100 := by
      have : cd.same.length ≤ (fs.map (·.nm)).length := len_sub ok.nd fun z hz => by
        obtain ⟨g, gm, rfl, _⟩ := ok.same z hz
        exact List.mem_map_of_mem gm
      rw [List.length_map] at this
      have := fok.le
      omega
    refine ⟨_, rfl, _, rfl, _, rfl, .ref sa, so, fs, cd.hand, cd.same, rfl, ⟨sa, rfl, sq_at e24 h5⟩, e24 _ _ hso, fok.nd, ok.same, sl, ok.self, ok.nd, fun H5 e5 => ⟨true, rfl, iteF ?_⟩⟩
    exact q _ (e24.trans e5)
end
end MK
set_option Elab.async false
set_option linter.all false
set_option autoImplicit false
set_option maxRecDepth 100000
set_option maxHeartbeats 4000000
namespace MK
open PySem PySem.Spec PyProof.Rows L2
local macro_rules | `(tactic| walk_at "x") => `(tactic| dsimp only [tSeq, tAsg, tRet, tDrop, tLst, tTup, tCons, tOp, tUn, tIfS])
/-! ### the calls -/
abbrev s_kept_calls : Stmt := topS 36
theorem sc_kept_calls : FnScope ["calls", "sorts", "modes", "kept", "index", "item", "call", "reason"] ["calls", "sorts", "modes"] (defScope s_kept_calls) := ⟨rfl, rfl, rfl, by decide +kernel, rfl, by decide +kernel, by decide +kernel⟩
def spCalls (K : PySem.W.Frag) : Sp := fun vs H Q _ => ∃ (s : Addr) (v : V) (so : Addr) (n : Nat) (fs : List FD) (cvs : List V) (cs : List CD), vs = [v, .ref so, .int n] ∧ H s ≠ none ∧ Sq K (Off s H) v cvs ∧ Al (CdA K (Off s H)) cvs cs ∧ H so = some (.dK (sortsV fs)) ∧ FsOk fs ∧ n ≤ 4 ∧
  1 ≤ cs.length ∧ cs.length ≤ 6 ∧ (∀ c ∈ cs, CdOk fs n c) ∧ (cs.map (·.nm)).Nodup ∧ ∀ r rvs H', Same H H' → Tu K (Off s H') r rvs → Al (CdT K (Off s H')) rvs cs → Q r H'
section
variable {P : Program} {w : World} {K : PySem.W.Frag} {mg : Str → Option Value} {base : Heap} {C : Cst}
theorem ok_calls {f : Addr} {fd : FuncData} (F : DefX K mg "kept_calls" s_kept_calls ["calls", "sorts", "modes"] f fd) (T : Txt K mg) (Cs : Csts K w mg C) (c_is_list : Cal P w K mg base CX0 1 "is_list" (spList K)) (c_wrong_part : Cal P w K mg base CX0 4 "wrong_part" (spWrong K)) (c_kept_call : Cal P w K mg base CX0 1 "kept_call" (spKeptCall K)) :
    Cal P w K mg base CX0 5 "kept_calls" (spCalls K) := by
  refine cal_mk F sc_kept_calls (fun vs H Q E h => ?_) (fun cdv A outer sh H vs Q E hr h => ?_)
  · obtain ⟨s, v, so, n, fs, cvs, cs, rfl, _⟩ := h
    rfl
  · obtain ⟨s, v, so, n, fs, cvs, cs, rfl, hs, ⟨a, rfl, hv⟩, hal, hso, fok, n4, c1, c6, cok, cnd, k⟩ := h
    refine ⟨_, (pss_cons (ps_if (pt_cut (PW.pt (pw_or (pt_not (pt_val (pe_c c_is_list hr (by first | decide | assumption) rfl (pa_cons (pv 0) pa_nil)))) (pw_or1 (pt_cmpR op_eq (pe_callB call_len_seq (by rfl) T.len (by decide +kernel) (pa_cons (pv 0) pa_nil)) pe_int (nomark _))))))
(pss_one (ps_never))
pss_nil)
(pss_cons (ps_set (i := 3) sc_kept_calls.nd rfl (Or.inl rfl) (pe_lst pa_nil))
(pss_cons (ps_for PassesOwn.never rfl (pi_enV (by rfl) T.enumerate (pa_cons (pv 0) pa_nil)) (pg_tup (by rfl) (pgs_cons (pg_name (i := 4) sc_kept_calls.nd rfl (Or.inl rfl)) (pgs_cons (pg_name (i := 5) sc_kept_calls.nd rfl (Or.inl rfl)) pgs_nil)))
(pss_cons (ps_if (pt_cmpR op_ge (pv 4) (pe_cst rfl Cs.MOST_CALLS) (nomark _))
(pss_one (ps_never))
pss_nil)
(pss_cons (ps_set (i := 7) sc_kept_calls.nd rfl (Or.inl rfl) (pe_c c_wrong_part hr (by first | decide | assumption) rfl (pa_cons (pv 5) (pa_cons (pe_lc (own := [("call", 6)]) (g := (gName 6)) (tt := tYes) rfl sc_kept_calls.nd (pi_list (pv 3)) (blkOk_by (own := [("call", 6)]) (N := ["calls", "sorts", "modes", "kept", "index", "item", "call", "reason"]) (sc := defScope s_kept_calls) (by decide +kernel)) (fun _ _ _ _ _ => (pg_name (i := 6) sc_kept_calls.nd rfl (Or.inl rfl))) (fun _ _ _ _ _ => pts_nil) (fun _ _ _ _ _ => (pe_ix (ix_tupK (K := K) rfl) (pv 6) pe_int (fun _ _ => rfl)))) (pa_cons (pv 1) (pa_cons (pv 2) pa_nil))))))
(pss_cons (ps_if (pt_cmpR op_notN (pv 7) pe_non (nomark _))
(pss_one (ps_never))
pss_nil)
(pss_one (ps_expr (pe_bm PySem.F.plainAttrs_list PySem.F.slot_list_append PySem.F.type_list_append mt_append (pv 3) (pa_cons (pe_c c_kept_call hr (by first | decide | assumption) rfl (pa_cons (pv 5) pa_nil)) pa_nil))))))))
(pss_one (ps_ret (pe_callTy call_tuple_of (by rfl) T.tuple (by decide +kernel) (pa_cons (pv 3) pa_nil))))))), ?_⟩
    have hv0 : SqL K H a cvs ∨ SqT K H a cvs := sq_at off_same hv
    have len3 : cvs.length = cs.length := hal.1
    refine ⟨fun t H' => t = false ∧ Same H H', ⟨_, rfl, .ref a, _, rfl, ⟨a, rfl, hv0⟩, fun H1 e1 => ⟨true, rfl, iteF ?_⟩⟩, ?_⟩
    · exact ⟨_, rfl, a, _, rfl, sq_at e1 hv0, rfl, _, rfl, decide_eq_false (fun e => by have := V.int.inj e; omega), e1⟩
    rintro _ H1 ⟨rfl, e1⟩
    refine iteF ?_
    refine ⟨by show 0 ≤ sizeLine; decide, fun D hD => ?_⟩
    have hsD : D ≠ s := ne_s hs e1 hD
    have hD0 := none_of e1 hD
    refine ⟨_, rfl, a, cvs, Off s H, rfl, hv, off_same.trans (same_new e1 hD), fun J G wk hG => ?_⟩
    refine for_it wk (fun i σ H2 => Same H H2 ∧ ∃ kvs : List V, H2 D = some (.lst kvs) ∧ Al (CdT K (Off D (Off s H2))) kvs (cs.take i) ∧ ∃ x4 x5 x6 x7, σ = [some (.ref a), some (.ref so), some (.int n), some (.ref D), x4, x5, x6, x7])
      ⟨same_new e1 hD, [], upd_same, Al.nil, none, none, none, none, rfl⟩ (fun i σ H2 _ h => hG _ (off_same.trans h.1)) ?_ ?_
    · rintro i x σ H2 H3 hi ⟨e2, kvs, d2, al, x4, x5, x6, x7, rfl⟩ ⟨U, _, y, rfl, hU, rfl, h1, hy⟩
      obtain rfl := Option.some.inj h1
      obtain ⟨c, hc, hca⟩ := hal.get hy
      have hcm := List.mem_of_getElem? hc
      have hi6 : i < cs.length := by
        have : i < cvs.length := hi
        omega
      have e3 : Same H2 (upd H2 U (.tup [.int (i : Nat), y])) := same_new (Same.refl H2) hU
      refine ⟨U, _, rfl, SqT.of upd_same, rfl, _, _, rfl, _, _, rfl, rfl, ?_⟩
      refine ⟨_, rfl, _, _, rfl, rfl, _, rfl, iteB (decide_eq_false (by omega)) ?_⟩
      refine ⟨_, rfl, _, rfl, D, rfl, ⟨_, SqL.of (e3 _ _ d2)⟩, fun D2 hD2 => ?_⟩
      refine lc_list (K := K) (a := D) (xs := kvs) (fun j H4 => Same H2 H4 ∧ H4 D2 = some (.lst ((((cs.take i).take j).map (·.nm)).map V.str))) ⟨same_new e3 hD2, upd_same⟩ (fun j H4 _ h => SqL.of (h.1 _ _ d2)) ?_ ?_
      · rintro j v H4 hv4 ⟨e4, d4⟩
        obtain ⟨g, hg, m', d', s', ds', ⟨u, rfl, hu⟩, _⟩ := al.get hv4
        have hu4 := same_t (off_same.trans (off_same.trans e4)) hu
        refine ⟨rfl, ?_⟩
        refine ⟨_, rfl, u, _, 0, .str g.nm, rfl, rfl, hu4, rfl, _, d4, ?_, fun b o hb => ?_, ?_⟩
        · rw [List.length_map, List.length_map, List.length_take, List.length_take]
          exact Nat.lt_of_le_of_lt (by omega : _ ≤ 6) (by decide)
        · rw [upd_ne (ne_of_none (e3 _ _ hb) hD2)]
          exact e4 _ _ hb
        · rw [upd_same, List.take_succ (i := j), hg]
          simp
      rintro H4 ⟨e4, d4⟩
      rw [show kvs.length = (cs.take i).length from al.1, List.take_length] at d4
      have e24 := e2.trans e4
      refine ⟨_, rfl, _, rfl, y, D2, so, n, fs, _, c, rfl, CdA.keep (off_same.trans e24) hca, SqL.of d4, e24 _ _ hso, fok, n4, cok c hcm, ?_, fun H5 e5 => ?_⟩
      · rw [List.map_take]
        exact nm_new cnd (by rw [List.getElem?_map, hc]; rfl)
      refine ⟨_, rfl, rfl, _, rfl, iteF ?_⟩
      have e25 := e24.trans e5
      have d5 := (e4.trans e5) _ _ d2
      refine ⟨_, rfl, .inl ⟨rfl, _, SqL.of d5⟩, _, rfl, s, y, c, rfl, kept_s hs e25, CdA.keep (same_off e25) hca, (cok c hcm).deeds, fun r H6 e6 hr6 => ?_⟩
      have kl : kvs.length < sizeLine := by
        rw [al.1, List.length_take]
        exact Nat.lt_of_le_of_lt (by omega : _ ≤ 6) (by decide)
      have d6 := e6 _ _ d5
      refine ⟨D, kvs, _, rfl, rfl, d6, kl, fun b o hb => ?_, _, upd_same, ?_, _, _, _, _, rfl⟩
      · rw [upd_ne (ne_of_none hb hD0)]
        exact e6 _ _ (e25 _ _ hb)
      · rw [off_upd hsD, off_put, List.take_succ, hc]
        exact (al.mono fun _ _ h => CdT.keep (same_off (same_off (e4.trans (e5.trans e6)))) h).snoc (CdT.off hr6 ((off_ne hsD).trans d6) no_lst)
    · rintro σ H2 ⟨e2, kvs, d2, al, x4, x5, x6, x7, rfl⟩
      refine ⟨_, rfl, D, kvs, rfl, .inl ⟨SqL.of d2, fun p hp => ?_⟩⟩
      have ps : p ≠ s := ne_s hs e2 hp
      rw [len3, List.take_length] at al
      have e3 : Same H2 (upd H2 p (.tup kvs)) := same_new (Same.refl H2) hp
      refine k _ kvs _ (e2.trans e3) (Tu.tup (by rw [off_ne ps, upd_same])) (al.mono fun _ _ h => CdT.keep (off_same.trans (same_off e3)) h)
end
end MK
set_option Elab.async false
set_option linter.all false
set_option autoImplicit false
set_option maxRecDepth 100000
set_option maxHeartbeats 4000000
namespace MK
open PySem PySem.Spec PyProof.Rows L2
local macro_rules | `(tactic| walk_at "x") => `(tactic| dsimp only [tSeq, tAsg, tRet, tDrop, tLst, tTup, tCons, tOp, tUn, tIfS])
/-! ### the kind is made -/
abbrev s_Kind_init : Stmt := inClass (topS 50) 0
theorem sc_Kind_init : FnScope ["self", "fields", "calls", "modes", "name", "sort", "need", "at", "field", "call"] ["self", "fields", "calls", "modes"] (defScope s_Kind_init) := ⟨rfl, rfl, rfl, by decide +kernel, rfl, by decide +kernel, by decide +kernel⟩
/-- the class of kinds -/
structure KCls (K : PySem.W.Frag) (KC : Addr) : Prop where
  cls : Cls K KC
  triples : NoAttr K KC "triples"
  sorts : NoAttr K KC "sorts"
  spots : NoAttr K KC "spots"
  modes : NoAttr K KC "modes"
  steps : NoAttr K KC "steps"
  table : NoAttr K KC "table"
def spKInit (K : PySem.W.Frag) (KC : Addr) : Sp := fun vs H Q _ => ∃ (s x dx : Addr) (fv cv : V) (n : Nat) (fvs cvs : List V) (fs : List FD) (cs : List CD), vs = [.ref x, fv, cv, .int n] ∧ x ≠ s ∧ H s ≠ none ∧ H x = some (.ins KC dx []) ∧
  Sq K (Off x (Off s H)) fv fvs ∧ Al (FdA K (Off x (Off s H))) fvs fs ∧ Sq K (Off x (Off s H)) cv cvs ∧ Al (CdA K (Off x (Off s H))) cvs cs ∧ KdOk fs n cs ∧ ∀ H', SameX x H H' → KdA K KC (Off s H') (.ref x) fs n cs → Q .non H'
section
variable {P : Program} {w : World} {K : PySem.W.Frag} {mg : Str → Option Value} {base : Heap} {C : Cst} {KC : Addr}
theorem run_kinit (T : Txt K mg) (Z : KCls K KC) (c_kept_fields : Cal P w K mg base CX0 3 "kept_fields" (spFields K)) (c_is_modes : Cal P w K mg base CX0 2 "is_modes" spModes) (c_kept_calls : Cal P w K mg base CX0 5 "kept_calls" (spCalls K))
    {f : Addr} {cdv : Value} {A : Around} {outer : List Env} {sh : Shared} {H : Hp} {vs : List V} {Q : VK} {E : XK} (hr : Room 5 (A.deeper (envOfC "Kind.__init__" (defScope s_Kind_init) sh.heap.objs.size f cdv))) (h : spKInit K KC vs H Q E) :
    ∃ t, PSs (cxOf CX0 P w K mg base ["self", "fields", "calls", "modes", "name", "sort", "need", "at", "field", "call"] "Kind.__init__" (defScope s_Kind_init) f cdv A outer sh H E).nox (defBody s_Kind_init) t ∧ t { nx := fun _ H' => Q .non H', rt := Q } (start ["self", "fields", "calls", "modes", "name", "sort", "need", "at", "field", "call"] vs) H := by
  obtain ⟨s, x, dx, fv, cv, n, fvs, cvs, fs, cs, rfl, xs, hs, hx, hf, hfs, hc, hcs, ok, k⟩ := h
  refine ⟨_, (pss_cons (ps_fld (pv 0) (pe_c c_kept_fields hr (by first | decide | assumption) rfl (pa_cons (pv 1) pa_nil)) rfl)
(pss_cons (ps_fld (pv 0) (pe_dc (own := [("name", 4), ("sort", 5), ("need", 6)]) (g := (gTup K 3 (gCons (gName 4) (gCons (gName 5) (gCons (gName 6) gNil))))) (tt := tYes) rfl sc_Kind_init.nd (pi_tup (pe_fld (pv 0) rfl)) (blkOk_by (own := [("name", 4), ("sort", 5), ("need", 6)]) (N := ["self", "fields", "calls", "modes", "name", "sort", "need", "at", "field", "call"]) (sc := defScope s_Kind_init) (by decide +kernel)) (fun _ _ _ _ _ => (pg_tup (by rfl) (pgs_cons (pg_name (i := 4) sc_Kind_init.nd rfl (Or.inl rfl)) (pgs_cons (pg_name (i := 5) sc_Kind_init.nd rfl (Or.inl rfl)) (pgs_cons (pg_name (i := 6) sc_Kind_init.nd rfl (Or.inl rfl)) pgs_nil))))) (fun _ _ _ _ _ => pts_nil) (fun _ _ _ _ _ => (pv 4)) (fun _ _ _ _ _ => (pv 5))) rfl)
(pss_cons (ps_fld (pv 0) (pe_dc (own := [("at", 7), ("field", 8)]) (g := (gTup K 2 (gCons (gName 7) (gCons (gName 8) gNil)))) (tt := tYes) rfl sc_Kind_init.nd (pi_enumT (by rfl) T.enumerate (pa_cons (pe_fld (pv 0) rfl) pa_nil)) (blkOk_by (own := [("at", 7), ("field", 8)]) (N := ["self", "fields", "calls", "modes", "name", "sort", "need", "at", "field", "call"]) (sc := defScope s_Kind_init) (by decide +kernel)) (fun _ _ _ _ _ => (pg_tup (by rfl) (pgs_cons (pg_name (i := 7) sc_Kind_init.nd rfl (Or.inl rfl)) (pgs_cons (pg_name (i := 8) sc_Kind_init.nd rfl (Or.inl rfl)) pgs_nil)))) (fun _ _ _ _ _ => pts_nil) (fun _ _ _ _ _ => (pe_ix (ix_tupK (K := K) rfl) (pv 8) pe_int (fun _ _ => rfl))) (fun _ _ _ _ _ => (pv 7))) rfl)
(pss_cons (ps_if (pt_not (pt_val (pe_c c_is_modes hr (by first | decide | assumption) rfl (pa_cons (pv 3) pa_nil))))
(pss_one (ps_never))
pss_nil)
(pss_cons (ps_fld (pv 0) (pv 3) rfl)
(pss_cons (ps_fld (pv 0) (pe_c c_kept_calls hr (by first | decide | assumption) rfl (pa_cons (pv 2) (pa_cons (pe_fld (pv 0) rfl) (pa_cons (pv 3) pa_nil)))) rfl)
(pss_one (ps_fld (pv 0) (pe_dc (own := [("call", 9)]) (g := (gName 9)) (tt := tYes) rfl sc_Kind_init.nd (pi_tup (pe_fld (pv 0) rfl)) (blkOk_by (own := [("call", 9)]) (N := ["self", "fields", "calls", "modes", "name", "sort", "need", "at", "field", "call"]) (sc := defScope s_Kind_init) (by decide +kernel)) (fun _ _ _ _ _ => (pg_name (i := 9) sc_Kind_init.nd rfl (Or.inl rfl))) (fun _ _ _ _ _ => pts_nil) (fun _ _ _ _ _ => (pe_ix (ix_tupK (K := K) rfl) (pv 9) pe_int (fun _ _ => rfl))) (fun _ _ _ _ _ => (pv 9))) rfl)))))))), ?_⟩
  have n1 := ok.pos
  have n4 := ok.le
  -- triples
  refine ⟨_, rfl, s, fv, fvs, fs, rfl, hs, hf.keep off_same, hfs.mono fun _ _ h => FdA.keep off_same h, ok.fields, fun r rvs H1 e1 tr al => ?_⟩
  have x1 := e1 _ _ hx
  refine ⟨_, rfl, x, KC, dx, [], rfl, x1, Z.cls, Z.triples, by decide, ?_⟩
  have hB1 : Off s H1 x = some (.ins KC dx []) := (off_ne xs).trans x1
  have tr1 : Tu K (Off x (Off s H1)) r rvs := tr.off hB1 no_ins
  have al1 : Al (FdT K (Off x (Off s H1))) rvs fs := al.mono fun _ _ h => Tu.off h hB1 no_ins
  obtain ⟨ra, rfl, tra⟩ := tr1
  have e01 : SameX x H (upd H1 x (.ins KC dx [("triples", .ref ra)])) := (same_sx e1).put
  have hB : ∀ {H' : Hp} {o : HO}, Off x (Off s (upd H' x o)) = Off x (Off s H') := by
    intro H' o
    rw [off_upd xs, off_put]
  have hs2 : upd H1 x (.ins KC dx [("triples", .ref ra)]) s ≠ none := by
    rw [upd_ne (Ne.symm xs)]
    exact kept_s hs e1
  have F2 : SqT K (Off x (Off s (upd H1 x (.ins KC dx [("triples", .ref ra)])))) ra rvs ∧ Al (FdT K (Off x (Off s (upd H1 x (.ins KC dx [("triples", .ref ra)]))))) rvs fs := by
    rw [hB]
    exact ⟨tra, al1⟩
  have C2 : Sq K (Off x (Off s (upd H1 x (.ins KC dx [("triples", .ref ra)])))) cv cvs ∧ Al (CdA K (Off x (Off s (upd H1 x (.ins KC dx [("triples", .ref ra)]))))) cvs cs := by
    rw [hB]
    exact ⟨hc.keep (same_off (same_off e1)), hcs.mono fun _ _ h => CdA.keep (same_off (same_off e1)) h⟩
  have x2 : upd H1 x (.ins KC dx [("triples", .ref ra)]) x = some (.ins KC dx [("triples", .ref ra)]) := upd_same
  show tSeq _ _ _ _ (upd H1 x (.ins KC dx [("triples", .ref ra)]))
  generalize upd H1 x (.ins KC dx [("triples", .ref ra)]) = H2 at e01 hs2 F2 C2 x2
  have rl : rvs.length ≤ 3 := by rw [al.1]; exact ok.fields.le
  -- sorts
  refine ⟨_, rfl, x, KC, dx, _, .ref ra, rfl, x2, Z.cls, Z.triples, rfl, ra, rfl, ⟨rvs, same_t (off_same.trans off_same) F2.1⟩, fun D hD => ?_⟩
  refine dc_it (walk_tup (K := K) (a := ra) (xs := rvs)) (fun i H' => Same H2 H' ∧ H' D = some (.dK ((sortsV fs).take i))) ⟨same_new (Same.refl H2) hD, upd_same⟩ (fun i H' _ h => same_t ((off_same.trans off_same).trans h.1) F2.1) ?_ ?_
  · rintro i v H3' H3 hi ⟨e3, d3⟩ ⟨rfl, hv⟩
    obtain ⟨f', hf', u, rfl, hu⟩ := F2.2.get hv
    refine ⟨u, FdV f', rfl, same_t ((off_same.trans off_same).trans e3) hu, rfl, _, _, rfl, _, _, rfl, _, _, rfl, rfl, rfl, ?_⟩
    refine ⟨_, rfl, _, rfl, _, .inr f'.nm, rfl, d3, ?_, fun b o hb => ?_, ?_⟩
    · exact Nat.lt_of_le_of_lt (Nat.le_trans (List.length_take_le' ..) (by rw [sorts_len]; exact ok.fields.le)) (by decide)
    · rw [upd_ne (ne_of_none hb hD)]
      exact e3 _ _ hb
    · rw [upd_same, put_take (sorts_nd ok.fields.nd) (sorts_at hf')]
  rintro H3 ⟨e3, d3⟩
  rw [show rvs.length = (sortsV fs).length by rw [sorts_len]; exact F2.2.1, List.take_length] at d3
  have x3 := e3 _ _ x2
  refine ⟨_, rfl, x, KC, dx, _, rfl, x3, Z.cls, Z.sorts, by simp, ?_⟩
  show tSeq _ _ _ _ (upd H3 x (.ins KC dx [("triples", .ref ra), ("sorts", .ref D)]))
  have Dx : D ≠ x := fun e => by rw [e, x3] at d3; cases d3
  have Ds : D ≠ s := ne_s hs2 (Same.refl H2) hD
  have e04 : SameX x H (upd H3 x (.ins KC dx [("triples", .ref ra), ("sorts", .ref D)])) := (e01.trans (same_sx e3)).put
  have b24 : Same (Off x (Off s H2)) (Off x (Off s (upd H3 x (.ins KC dx [("triples", .ref ra), ("sorts", .ref D)])))) := by
    rw [hB]
    exact same_off (same_off e3)
  have hs4 : upd H3 x (.ins KC dx [("triples", .ref ra), ("sorts", .ref D)]) s ≠ none := by
    rw [upd_ne (Ne.symm xs)]
    exact kept_s hs2 e3
  have d4 : Off x (Off s (upd H3 x (.ins KC dx [("triples", .ref ra), ("sorts", .ref D)]))) D = some (.dK (sortsV fs)) := by
    rw [hB, off_ne Dx, off_ne Ds]
    exact d3
  have x4 : upd H3 x (.ins KC dx [("triples", .ref ra), ("sorts", .ref D)]) x = some (.ins KC dx [("triples", .ref ra), ("sorts", .ref D)]) := upd_same
  generalize upd H3 x (.ins KC dx [("triples", .ref ra), ("sorts", .ref D)]) = H4 at e04 b24 hs4 d4 x4
  -- spots
  refine ⟨_, rfl, x, KC, dx, _, .ref ra, rfl, x4, Z.cls, Z.triples, rfl, ra, rvs, rfl, same_t (b24.trans (off_same.trans off_same)) F2.1, fun D2 hD2 => ?_⟩
  refine dc_it (walk_enumT (K := K) (a := ra) (xs := rvs)) (fun i H' => Same H4 H' ∧ H' D2 = some (.dK ((spotsV fs).take i))) ⟨same_new (Same.refl H4) hD2, upd_same⟩ (fun i H' _ h => same_t ((b24.trans (off_same.trans off_same)).trans h.1) F2.1) ?_ ?_
  · rintro i v H5 H5' hi ⟨e5, d5⟩ ⟨U, _, y, rfl, hU, rfl, h1, hy⟩
    obtain rfl := Option.some.inj h1
    obtain ⟨f', hf', u, rfl, hu⟩ := F2.2.get hy
    have e6 : Same H5 (upd H5 U (.tup [.int (i : Nat), .ref u])) := same_new (Same.refl H5) hU
    have hu6 : SqT K (upd H5 U (.tup [.int (i : Nat), .ref u])) u (FdV f') := same_t ((b24.trans (off_same.trans off_same)).trans (e5.trans e6)) hu
    refine ⟨U, _, rfl, SqT.of upd_same, rfl, _, _, rfl, _, _, rfl, rfl, rfl, ?_⟩
    refine ⟨_, rfl, u, _, 0, .str f'.nm, rfl, rfl, hu6, rfl, _, rfl, _, .inr f'.nm, rfl, e6 _ _ d5, ?_, fun b o hb => ?_, ?_⟩
    · exact Nat.lt_of_le_of_lt (Nat.le_trans (List.length_take_le' ..) (by rw [spots_len]; exact ok.fields.le)) (by decide)
    · rw [upd_ne (ne_of_none hb hD2)]
      exact e6 _ _ (e5 _ _ hb)
    · rw [upd_same, put_take (spots_nd ok.fields.nd) (spots_at hf')]
  rintro H5 ⟨e5, d5⟩
  rw [show rvs.length = (spotsV fs).length by rw [spots_len]; exact F2.2.1, List.take_length] at d5
  have x5 := e5 _ _ x4
  refine ⟨_, rfl, x, KC, dx, _, rfl, x5, Z.cls, Z.spots, by simp, ?_⟩
  show tSeq _ _ _ _ (upd H5 x (.ins KC dx [("triples", .ref ra), ("sorts", .ref D), ("spots", .ref D2)]))
  have D2x : D2 ≠ x := fun e => by rw [e, x5] at d5; cases d5
  have D2s : D2 ≠ s := ne_s hs4 (Same.refl H4) hD2
  have e06 : SameX x H (upd H5 x (.ins KC dx [("triples", .ref ra), ("sorts", .ref D), ("spots", .ref D2)])) := (e04.trans (same_sx e5)).put
  have b26 : Same (Off x (Off s H4)) (Off x (Off s (upd H5 x (.ins KC dx [("triples", .ref ra), ("sorts", .ref D), ("spots", .ref D2)])))) := by
    rw [hB]
    exact same_off (same_off e5)
  have hs6 : upd H5 x (.ins KC dx [("triples", .ref ra), ("sorts", .ref D), ("spots", .ref D2)]) s ≠ none := by
    rw [upd_ne (Ne.symm xs)]
    exact kept_s hs4 e5
  have d6 : Off x (Off s (upd H5 x (.ins KC dx [("triples", .ref ra), ("sorts", .ref D), ("spots", .ref D2)]))) D2 = some (.dK (spotsV fs)) := by
    rw [hB, off_ne D2x, off_ne D2s]
    exact d5
  have x6 : upd H5 x (.ins KC dx [("triples", .ref ra), ("sorts", .ref D), ("spots", .ref D2)]) x = some (.ins KC dx [("triples", .ref ra), ("sorts", .ref D), ("spots", .ref D2)]) := upd_same
  generalize upd H5 x (.ins KC dx [("triples", .ref ra), ("sorts", .ref D), ("spots", .ref D2)]) = H6 at e06 b26 hs6 d6 x6
  -- modes
  refine ⟨_, rfl, (n : Int), rfl, ?_⟩
  rw [decide_eq_true (by omega : (1 : Int) ≤ n), decide_eq_true (by omega : (n : Int) ≤ 4)]
  refine ⟨true, rfl, iteF ?_⟩
  refine ⟨_, rfl, _, rfl, x, KC, dx, _, rfl, x6, Z.cls, Z.modes, by simp, ?_⟩
  show tSeq _ _ _ _ (upd H6 x (.ins KC dx [("triples", .ref ra), ("sorts", .ref D), ("spots", .ref D2), ("modes", .int n)]))
  have e07 : SameX x H (upd H6 x (.ins KC dx [("triples", .ref ra), ("sorts", .ref D), ("spots", .ref D2), ("modes", .int n)])) := e06.put
  have b67 : Off x (Off s (upd H6 x (.ins KC dx [("triples", .ref ra), ("sorts", .ref D), ("spots", .ref D2), ("modes", .int n)]))) = Off x (Off s H6) := hB
  have hs7 : upd H6 x (.ins KC dx [("triples", .ref ra), ("sorts", .ref D), ("spots", .ref D2), ("modes", .int n)]) s ≠ none := by
    rw [upd_ne (Ne.symm xs)]
    exact hs6
  have x7 : upd H6 x (.ins KC dx [("triples", .ref ra), ("sorts", .ref D), ("spots", .ref D2), ("modes", .int n)]) x = some (.ins KC dx [("triples", .ref ra), ("sorts", .ref D), ("spots", .ref D2), ("modes", .int n)]) := upd_same
  generalize upd H6 x (.ins KC dx [("triples", .ref ra), ("sorts", .ref D), ("spots", .ref D2), ("modes", .int n)]) = H7 at e07 b67 hs7 x7
  have b47 : Same (Off x (Off s H4)) (Off x (Off s H7)) := by
    rw [b67]
    exact b26
  have b27 := b24.trans b47
  rw [← b67] at d6
  -- steps
  refine ⟨_, rfl, _, rfl, x, KC, dx, _, .ref D, rfl, x7, Z.cls, Z.sorts, rfl, _, rfl, s, cv, D, n, fs, cvs, cs, rfl, hs7, C2.1.keep (b27.trans off_same), C2.2.mono fun _ _ h => CdA.keep (b27.trans off_same) h, (b47.trans (off_same.trans off_same)) _ _ d4, ok.fields, n4, ok.cpos, ok.cle, ok.calls, ok.nd, fun r8 svs H8 e8 tr8 al8 => ?_⟩
  have x8 := e8 _ _ x7
  refine ⟨_, rfl, x, KC, dx, _, rfl, x8, Z.cls, Z.steps, by simp, ?_⟩
  have hB8 : Off s H8 x = some (.ins KC dx [("triples", .ref ra), ("sorts", .ref D), ("spots", .ref D2), ("modes", .int n)]) := (off_ne xs).trans x8
  have tr9 : Tu K (Off x (Off s H8)) r8 svs := tr8.off hB8 no_ins
  have al9 : Al (CdT K (Off x (Off s H8))) svs cs := al8.mono fun _ _ h => CdT.off h hB8 no_ins
  obtain ⟨rb, rfl, trb⟩ := tr9
  rw [show putF ("steps" : Str) (V.ref rb) ([("triples", .ref ra), ("sorts", .ref D), ("spots", .ref D2), ("modes", .int n)] : List (Str × V)) = ([("triples", .ref ra), ("sorts", .ref D), ("spots", .ref D2), ("modes", .int n), ("steps", .ref rb)] : List (Str × V)) from rfl]
  have e09 : SameX x H (upd H8 x (.ins KC dx [("triples", .ref ra), ("sorts", .ref D), ("spots", .ref D2), ("modes", .int n), ("steps", .ref rb)])) := (e07.trans (same_sx e8)).put
  have b89 : Off x (Off s (upd H8 x (.ins KC dx [("triples", .ref ra), ("sorts", .ref D), ("spots", .ref D2), ("modes", .int n), ("steps", .ref rb)]))) = Off x (Off s H8) := hB
  have hs9 : upd H8 x (.ins KC dx [("triples", .ref ra), ("sorts", .ref D), ("spots", .ref D2), ("modes", .int n), ("steps", .ref rb)]) s ≠ none := by
    rw [upd_ne (Ne.symm xs)]
    exact kept_s hs7 e8
  have x9 : upd H8 x (.ins KC dx [("triples", .ref ra), ("sorts", .ref D), ("spots", .ref D2), ("modes", .int n), ("steps", .ref rb)]) x = some (.ins KC dx [("triples", .ref ra), ("sorts", .ref D), ("spots", .ref D2), ("modes", .int n), ("steps", .ref rb)]) := upd_same
  generalize upd H8 x (.ins KC dx [("triples", .ref ra), ("sorts", .ref D), ("spots", .ref D2), ("modes", .int n), ("steps", .ref rb)]) = H9 at e09 b89 hs9 x9
  have b79 : Same (Off x (Off s H7)) (Off x (Off s H9)) := by
    rw [b89]
    exact same_off (same_off e8)
  rw [← b89] at trb al9
  have sl : svs.length ≤ 6 := by rw [al9.1]; exact ok.cle
  -- table
  refine ⟨_, rfl, x, KC, dx, _, .ref rb, rfl, x9, Z.cls, Z.steps, rfl, rb, rfl, ⟨svs, same_t (off_same.trans off_same) trb⟩, fun D3 hD3 => ?_⟩
  refine dc_it (walk_tup (K := K) (a := rb) (xs := svs)) (fun i H' => Same H9 H' ∧ H' D3 = some (.dK ((tableV cs svs).take i))) ⟨same_new (Same.refl H9) hD3, upd_same⟩ (fun i H' _ h => same_t ((off_same.trans off_same).trans h.1) trb) ?_ ?_
  · rintro i v Ha' Ha hi ⟨ea, da⟩ ⟨rfl, hv⟩
    obtain ⟨c', hc', m', d', s', ds', ⟨u, rfl, hu⟩, _⟩ := al9.get hv
    refine ⟨rfl, ?_⟩
    refine ⟨_, rfl, u, _, 0, .str c'.nm, rfl, rfl, same_t ((off_same.trans off_same).trans ea) hu, rfl, _, rfl, _, .inr c'.nm, rfl, da, ?_, fun b o hb => ?_, ?_⟩
    · exact Nat.lt_of_le_of_lt (Nat.le_trans (List.length_take_le' ..) (by rw [table_len al9.1]; exact ok.cle)) (by decide)
    · rw [upd_ne (ne_of_none hb hD3)]
      exact ea _ _ hb
    · rw [upd_same, put_take (table_nd ok.nd al9.1) (table_at hc' hv)]
  rintro Ha ⟨ea, da⟩
  rw [show svs.length = (tableV cs svs).length by rw [table_len al9.1]; exact al9.1, List.take_length] at da
  have xa := ea _ _ x9
  refine ⟨_, rfl, x, KC, dx, _, rfl, xa, Z.cls, Z.table, by simp, ?_⟩
  have D3x : D3 ≠ x := fun e => by rw [e, xa] at da; cases da
  have D3s : D3 ≠ s := ne_s hs9 (Same.refl H9) hD3
  show Q .non (upd Ha x (.ins KC dx [("triples", .ref ra), ("sorts", .ref D), ("spots", .ref D2), ("modes", .int n), ("steps", .ref rb), ("table", .ref D3)]))
  have b9a : Same (Off x (Off s H9)) (Off s (upd Ha x (.ins KC dx [("triples", .ref ra), ("sorts", .ref D), ("spots", .ref D2), ("modes", .int n), ("steps", .ref rb), ("table", .ref D3)]))) := by
    refine Same.trans (H1 := Off x (Off s (upd Ha x (.ins KC dx [("triples", .ref ra), ("sorts", .ref D), ("spots", .ref D2), ("modes", .int n), ("steps", .ref rb), ("table", .ref D3)])))) ?_ off_same
    rw [hB]
    exact same_off (same_off ea)
  refine k _ ((e09.trans (same_sx ea)).put) ⟨x, dx, D, D2, D3, .ref ra, .ref rb, rvs, svs, rfl, ?_, ⟨ra, rfl, same_t ((b27.trans b79).trans b9a) F2.1⟩, F2.2.mono fun _ _ h => FdT.keep ((b27.trans b79).trans b9a) h, ((b47.trans b79).trans b9a) _ _ d4, (b79.trans b9a) _ _ d6, ⟨rb, rfl, same_t b9a trb⟩, al9.mono fun _ _ h => CdT.keep b9a h, ?_⟩
  · rw [off_ne xs, upd_same]
  · rw [off_ne D3s, upd_ne D3x]
    exact da
end
end MK
set_option Elab.async false
set_option linter.all false
set_option autoImplicit false
set_option maxRecDepth 100000
set_option maxHeartbeats 4000000
namespace MK
open PySem PySem.Spec PyProof.Rows L2
local macro_rules | `(tactic| walk_at "x") => `(tactic| dsimp only [tSeq, tAsg, tRet, tDrop, tLst, tTup, tCons, tOp, tUn, tIfS])
/-! ### things in a drawn order -/
abbrev s_mix : Stmt := topS 56
theorem sc_mix : FnScope ["_law_state", "_law_things", "_law_left", "_law_found"] ["_law_state", "_law_things"] (defScope s_mix) := ⟨rfl, rfl, rfl, by decide +kernel, rfl, by decide +kernel, by decide +kernel⟩
def spMix (K : PySem.W.Frag) : Sp := fun vs H Q _ => ∃ (s c l : Addr) (ns : List Int) (zs : List Str), vs = [.ref s, .ref l] ∧ StA H s c ns ∧ ns.length ≤ 63 ∧ SqL K H l (zs.map V.str) ∧ zs.length < 1000 ∧ (∀ z ∈ zs, PyData.strOk z = true) ∧
  ∀ (a : Addr) (ys : List Str) H', ys.Perm zs → H a = none → H' a = some (.lst (ys.map V.str)) → SameX s H H' → StA H' s c ns → Q (.ref a) H'
section
variable {P : Program} {w : World} {K : PySem.W.Frag} {mg : Str → Option Value} {base : Heap}
def lenAt (a : Addr) (H : Hp) : Nat := match H a with
  | some (.lst xs) => xs.length
  | _ => 0
theorem StA.put {H : Hp} {s c a : Addr} {ns : List Int} {o : HO} (x : StA H s c ns) (h1 : a ≠ s) (h2 : a ≠ c) : StA (upd H a o) s c ns := by
  obtain ⟨n, e1, p, q, m, e2⟩ := x
  exact ⟨n, (upd_ne (Ne.symm h2)).trans e1, p, q, m, (upd_ne (Ne.symm h1)).trans e2⟩
theorem StA.ne {H : Hp} {s c a : Addr} {ns : List Int} (x : StA H s c ns) (h : H a = none) : a ≠ s ∧ a ≠ c := by
  obtain ⟨n, e1, p, q, m, e2⟩ := x
  exact ⟨fun e => (by rw [e, e2] at h; cases h), fun e => (by rw [e, e1] at h; cases h)⟩
theorem ok_mix {f : Addr} {fd : FuncData} (F : DefX K mg "_law_mix" s_mix ["_law_state", "_law_things"] f fd) (T : Txt K mg) (c_take : Cal P w K mg base CX0 2 "_law_take" spTake) : Cal P w K mg base CX0 3 "_law_mix" (spMix K) := by
  refine cal_mk F sc_mix (fun vs H Q E h => ?_) (fun cdv A outer sh H vs Q E hr h => ?_)
  · obtain ⟨s, c, l, ns, zs, rfl, _⟩ := h
    rfl
  · obtain ⟨s, c, l, ns, zs, rfl, h0, hl, hx, hz, hok, k⟩ := h
    refine ⟨_, (pss_cons (ps_par (i := 2) (j := 3) (by rfl) sc_mix.nd rfl rfl (by decide) rfl rfl (pa_cons (pe_callTy call_list_of (by rfl) T.list (by decide +kernel) (pa_cons (pv 1) pa_nil)) (pa_cons (pe_lst pa_nil) pa_nil)) (by rfl))
(pss_cons (ps_while PassesOwn.never (pt_cmpR (op_neD hr.units) (pv 2) (pe_lst pa_nil) (nomark _))
(pss_one (ps_expr (pe_bm PySem.F.plainAttrs_list PySem.F.slot_list_append PySem.F.type_list_append mt_append (pv 3) (pa_cons (pe_bm PySem.F.plainAttrs_list PySem.F.slot_list_pop PySem.F.type_list_pop mt_popAt (pv 2) (pa_cons (pe_c c_take hr (by first | decide | assumption) rfl (pa_cons (pv 0) (pa_cons (pe_callB call_len_seq (by rfl) T.len (by decide +kernel) (pa_cons (pv 2) pa_nil)) pa_nil))) pa_nil)) pa_nil)))))
(pss_one (ps_ret (pv 3))))), ?_⟩
    refine ⟨_, rfl, l, _, rfl, .inl hx, fun a ha => ?_⟩
    refine ⟨by show 0 ≤ sizeLine; decide, fun b hb => ?_⟩
    obtain ⟨ba, hb0⟩ := upd_none hb
    have hs0 : H s ≠ none := by
      obtain ⟨_, _, _, _, _, e⟩ := h0
      rw [e]
      exact nofun
    have sa : a ≠ s := fun e => hs0 (e ▸ ha)
    have sb : b ≠ s := fun e => hs0 (e ▸ hb0)
    have hb1 : upd (upd H a (.lst (zs.map V.str))) b (.lst []) a = some (.lst (zs.map V.str)) := by rw [upd_ne (Ne.symm ba), upd_same]
    refine ⟨_, _, rfl, ?_⟩
    refine while_by (fun σ H2 => SameX s H H2 ∧ StA H2 s c ns ∧ ∃ ls fs : List Str, (fs ++ ls).Perm zs ∧ H2 a = some (.lst (ls.map V.str)) ∧ H2 b = some (.lst (fs.map V.str)) ∧ σ = [some (.ref s), some (.ref l), some (.ref a), some (.ref b)]) (fun _ H2 => lenAt a H2) ?_ ?_ (fun σ H Q Q' h x => ?_)
    · refine ⟨((SameX.refl s H).putN ha).putN hb0, h0.keep (same_new (same_new (Same.refl H) ha) hb), zs, [], by simp, hb1, upd_same, rfl⟩
    · rintro σ H2 ⟨e2, h2, ls, fs, hp, ea, eb, rfl⟩
      have okl : ∀ z ∈ ls, PyData.strOk z = true := fun z m => hok z (hp.mem_iff.mp (List.mem_append_right _ m))
      refine ⟨_, rfl, by show 0 ≤ sizeLine; decide, fun p hp2 => ?_⟩
      have e3 : Same H2 (upd H2 p (.lst [])) := same_new (Same.refl H2) hp2
      refine ⟨_, _, .lst (SqL.of (e3 _ _ ea)) (dp_strs ls), .lst (SqL.of upd_same) .nil, strs_shaped ls okl, strs_shaped [] nofun, _, rfl, ?_⟩
      rw [eqv_nil]
      refine ite2 (fun h1 => ?_) (fun h1 => ?_)
      · cases ls with
        | nil => cases h1
        | cons z0 ls =>
        have lz : (z0 :: ls).length < 1000 := by
          have := hp.length_eq
          rw [List.length_append] at this
          omega
        refine ⟨_, rfl, (.inl ⟨rfl, _, SqL.of (e3 _ _ eb)⟩), _, rfl, (.inl ⟨rfl, _, SqL.of (e3 _ _ ea)⟩), _, rfl, _, rfl, a, _, rfl, .inl (SqL.of (e3 _ _ ea)), s, c, ns, _, rfl, h2.keep e3, hl, by rw [List.length_map, List.length_cons]; omega, by rw [List.length_map]; omega, fun d H4 hd e4 h4 => ?_⟩
        rw [List.length_map] at hd
        have hdl : d < (z0 :: ls).length := by omega
        have a4 := e4 _ _ (e3 _ _ ea) sa
        have b4 := e4 _ _ (e3 _ _ eb) sb
        refine ⟨a, _, _, d, .str (z0 :: ls)[d], rfl, rfl, a4, by omega, by omega, seqIndex_nat (by rw [List.length_map]; exact hdl), by rw [List.getElem?_map, List.getElem?_eq_getElem hdl]; rfl, ?_⟩
        have fl : fs.length < 1000 := by
          have := hp.length_eq
          rw [List.length_append] at this
          omega
        refine ⟨b, _, _, rfl, rfl, (upd_ne ba).trans b4, by rw [List.length_map]; exact Nat.lt_of_lt_of_le fl (by decide), ?_⟩
        refine ⟨⟨(((e2.trans (same_sx e3)).trans e4).putN ha).putN hb0, ?_, (z0 :: ls).eraseIdx d, fs ++ [(z0 :: ls)[d]], ?_, ?_, ?_, rfl⟩, ?_⟩
        · exact (h4.put (h0.ne ha).1 (h0.ne ha).2).put (h0.ne hb0).1 (h0.ne hb0).2
        · rw [List.append_assoc]
          exact ((perm_erase (z0 :: ls) d hdl).append_left fs).trans hp
        · rw [upd_ne (Ne.symm ba), upd_same, eraseIdx_mapV]
        · rw [upd_same, List.map_append]
          rfl
        · show lenAt a _ < lenAt a _
          unfold lenAt
          rw [upd_ne (Ne.symm ba), upd_same, ea]
          show (List.eraseIdx _ _).length < (List.map V.str (z0 :: ls)).length
          rw [List.length_eraseIdx, List.length_map, if_pos hdl]
          omega
      · cases ls with
        | cons z0 ls => exact absurd rfl h1
        | nil =>
        refine ⟨_, rfl, ?_⟩
        exact k b fs _ (by simpa using hp) hb0 (e3 _ _ eb) (e2.trans (same_sx e3)) (h2.keep e3)
    · obtain ⟨v, h1, h2, h3⟩ := x
      exact ⟨v, h1, h2, fun p hp => by
        obtain ⟨d, e, a1, a2, a3, a4, k, a5, a6⟩ := h3 p hp
        exact ⟨d, e, a1, a2, a3, a4, k, a5, h _ _ a6⟩⟩
end
end MK
set_option Elab.async false
set_option linter.all false
set_option autoImplicit false
set_option maxRecDepth 100000
set_option maxHeartbeats 4000000
namespace MK
open PySem PySem.Spec PyProof.Rows L2
local macro_rules | `(tactic| walk_at "x") => `(tactic| dsimp only [tSeq, tAsg, tRet, tDrop, tLst, tTup, tCons, tOp, tUn, tIfS])
/-! ### drawn deeds -/
abbrev s_deeds : Stmt := topS 62
theorem sc_deeds : FnScope ["_law_state", "_law_fields", "_law_many", "_law_found", "_law_busy", "_law_k", "_law_name", "_law_sort", "_law_need", "_law_some", "_law_deed"] ["_law_state", "_law_fields", "_law_many"] (defScope s_deeds) := ⟨rfl, rfl, rfl, by decide +kernel, rfl, by decide +kernel, by decide +kernel⟩
def spDeeds (K : PySem.W.Frag) : Sp := fun vs H Q _ => ∃ (s c l : Addr) (ns : List Int) (n : Int) (fvs : List V) (fs : List FD), vs = [.ref s, .ref l, .int n] ∧ StA H s c ns ∧ ns.length ≤ 63 ∧ Off s H l = some (.lst fvs) ∧ Al (FdT K (Off s H)) fvs fs ∧ 0 < fs.length ∧ fs.length < 10 ∧ 0 ≤ n ∧ n < 10 ∧
  ∀ (a : Addr) (ds : List (Str × Str)) (dvs : List V) H', H a = none → Off s H' a = some (.lst dvs) → Al (DeT K (Off s H')) dvs ds → (ds.length : Int) ≤ n → (∀ d ∈ ds, DeOk fs d) → (worded ds).Nodup → SameX s H H' → StA H' s c ns → Q (.ref a) H'
section
variable {P : Program} {w : World} {K : PySem.W.Frag} {mg : Str → Option Value} {base : Heap}
theorem ok_deeds {f : Addr} {fd : FuncData} (F : DefX K mg "_law_deeds" s_deeds ["_law_state", "_law_fields", "_law_many"] f fd) (T : Txt K mg) (c_take : Cal P w K mg base CX0 2 "_law_take" spTake) (c_one : Cal P w K mg base CX0 3 "_law_one" (spOne K)) : Cal P w K mg base CX0 4 "_law_deeds" (spDeeds K) := by
  refine cal_mk F sc_deeds (fun vs H Q E h => ?_) (fun cdv A outer sh H vs Q E hr h => ?_)
  · obtain ⟨s, c, l, ns, n, fvs, fs, rfl, _⟩ := h
    rfl
  · obtain ⟨s, c, l, ns, n, fvs, fs, rfl, h0, hl, hx, hfs, f0, f1, n0, n1, k⟩ := h
    refine ⟨_, (pss_cons (ps_par (i := 3) (j := 4) (by rfl) sc_deeds.nd rfl rfl (by decide) rfl rfl (pa_cons (pe_lst pa_nil) (pa_cons (pe_lst pa_nil) pa_nil)) (by rfl))
(pss_cons (ps_for PassesOwn.never rfl (pi_range1 (by rfl) T.range (pa_cons (pe_c c_take hr (by first | decide | assumption) rfl (pa_cons (pv 0) (pa_cons (pe_op op_add (pv 2) pe_int) pa_nil))) pa_nil)) (pg_name (i := 5) sc_deeds.nd rfl (Or.inl rfl))
(pss_cons (ps_asg (pe_c c_one hr (by first | decide | assumption) rfl (pa_cons (pv 0) (pa_cons (pv 1) pa_nil))) (pg_tup (by rfl) (pgs_cons (pg_name (i := 6) sc_deeds.nd rfl (Or.inl rfl)) (pgs_cons (pg_name (i := 7) sc_deeds.nd rfl (Or.inl rfl)) (pgs_cons (pg_name (i := 8) sc_deeds.nd rfl (Or.inl rfl)) pgs_nil)))))
(pss_cons (ps_set (i := 9) sc_deeds.nd rfl (Or.inl rfl) (pe_cut (pe_ifExp (pt_cmpR op_eq (pv 7) pe_str (nomark _)) (pe_lst (pa_cons pe_str (pa_cons pe_str pa_nil))) (pe_lst (pa_cons pe_str (pa_cons pe_str (pa_cons pe_str (pa_cons pe_str (pa_cons pe_str pa_nil)))))))))
(pss_cons (ps_set (i := 10) sc_deeds.nd rfl (Or.inl rfl) (pe_c c_one hr (by first | decide | assumption) rfl (pa_cons (pv 0) (pa_cons (pv 9) pa_nil))))
(pss_one (ps_if (pt_cut (PW.pt (pw_or (pt_cmpR op_notIn_seq (pv 10) (pe_tup (pa_cons pe_str (pa_cons pe_str pa_nil))) (by rfl)) (pw_or1 (pt_cmpR op_notIn_seq (pv 6) (pv 4) (by rfl))))))
(pss_cons (ps_set (i := 4) sc_deeds.nd rfl (Or.inl rfl) (pe_op op_cat (pv 4) (pe_op op_rep (pe_lst (pa_cons (pv 6) pa_nil)) (pe_callTy call_int1 (by rfl) T.int (by decide +kernel) (pa_cons (pe_cmpR op_in_seq (pv 10) (pe_tup (pa_cons pe_str (pa_cons pe_str pa_nil))) (by rfl)) pa_nil)))))
(pss_one (ps_expr (pe_bm PySem.F.plainAttrs_list PySem.F.slot_list_append PySem.F.type_list_append mt_append (pv 3) (pa_cons (pe_tup (pa_cons (pv 10) (pa_cons (pv 6) pa_nil))) pa_nil)))))
pss_nil))))))
(pss_one (ps_ret (pv 3))))), ?_⟩
    have ls : l ≠ s := fun e => by rw [e, off_s] at hx; cases hx
    refine ⟨by show 0 ≤ sizeLine; decide, fun a ha => ⟨by show 0 ≤ sizeLine; decide, fun b hb => ⟨_, _, rfl, ?_⟩⟩⟩
    obtain ⟨ba, hb0⟩ := upd_none hb
    obtain ⟨as, ac⟩ := h0.ne ha
    obtain ⟨bs, bc⟩ := h0.ne hb0
    have e1 : SameX s H (upd (upd H a (.lst [])) b (.lst [])) := ((SameX.refl s H).putN ha).putN hb0
    refine ⟨_, rfl, _, rfl, _, _, rfl, rfl, s, c, ns, n + 1, rfl, (h0.put as ac).put bs bc, hl, by omega, by omega, fun d H2 hd e2 h2 => ?_⟩
    have a2 := e2 _ _ ((upd_ne (Ne.symm ba)).trans upd_same) as
    have b2 := e2 _ _ upd_same bs
    refine ⟨(d : Int), rfl, by omega, by omega, ?_⟩
    refine for_it walk_range (fun i σ H2 => SameX s H H2 ∧ StA H2 s c ns ∧ ∃ (ds : List (Str × Str)) (dvs : List V) (b : Addr), H2 a = some (.lst dvs) ∧ H2 b = some (.lst ((worded ds).map V.str)) ∧ b ≠ s ∧ b ≠ a ∧
      Al (DeT K (Off a (Off s H2))) dvs ds ∧ ds.length ≤ i ∧ (∀ d ∈ ds, DeOk fs d) ∧ (worded ds).Nodup ∧ ∃ x5 x6 x7 x8 x9 x10, σ = [some (.ref s), some (.ref l), some (.int n), some (.ref a), some (.ref b), x5, x6, x7, x8, x9, x10])
      ⟨e1.trans e2, h2, [], [], b, a2, b2, bs, ba, Al.nil, Nat.le_refl _, nofun, List.nodup_nil, none, none, none, none, none, none, rfl⟩ (fun _ _ _ _ _ => trivial) ?_ ?_
    · rintro i x σ H3' H3 hi ⟨e3, h3, ds, dvs, b, ea, eb, bs, ba, hal, hln, hok, hnd, x5, x6, x7, x8, x9, x10, rfl⟩ ⟨rfl, rfl⟩
      have hi10 : i < 10 := by
        have : i < d := hi
        omega
      have fl : fvs.length < 10 := by rw [hfs.1]; exact f1
      refine ⟨_, rfl, _, rfl, s, c, l, ns, fvs, rfl, h3, hl, ls, .inl (SqL.of (e3 _ _ (off_get hx) ls)), by rw [hfs.1]; exact f0, by omega, fun j v H4 hj e4 h4 => ?_⟩
      obtain ⟨f, hfj, hft⟩ := hfs.get hj
      have e04 := e3.trans e4
      obtain ⟨u, rfl, hu⟩ := (FdT.keep e04.off hft)
      have hu : SqT K H4 u (FdV f) := same_t off_same hu
      refine ⟨u, _, rfl, hu, rfl, _, _, rfl, _, _, rfl, _, _, rfl, rfl, ?_⟩
      refine ⟨fun v H5 => ∃ (q : Addr) (zs : List Str), v = .ref q ∧ H4 q = none ∧ H5 = upd H4 q (.lst (zs.map V.str)) ∧ 0 < zs.length ∧ zs.length < 10 ∧ ∀ z ∈ zs, f.many ∈ deedSorts z, ?_, ?_⟩
      · refine ⟨_, rfl, rfl, _, rfl, ?_⟩
        refine ite2 (fun h1 => ⟨by show 2 ≤ sizeLine; decide, fun q hq => ⟨q, ["set", "clear"], rfl, hq, rfl, by decide, by decide, ?_⟩⟩) (fun h1 => ⟨by show 5 ≤ sizeLine; decide, fun q hq => ⟨q, ["add", "add", "strike", "clear", "fresh"], rfl, hq, rfl, by decide, by decide, ?_⟩⟩)
        · have h2 : sortS f.many = "one" := by
            have := of_decide_eq_true h1
            exact V.str.inj this
          have : f.many = false := by
            cases e : f.many with
            | false => rfl
            | true =>
              rw [e] at h2
              exact absurd h2 (by decide)
          rw [this]
          decide
        · have : f.many = true := by
            cases e : f.many with
            | true => rfl
            | false =>
              rw [e] at h1
              exact absurd rfl (fun h => h1 (decide_eq_true h))
          rw [this]
          decide
      rintro _ _ ⟨q, zs, rfl, hq, rfl, z0, z1, hz⟩
      have e5 : Same H4 (upd H4 q (.lst (zs.map V.str))) := same_new (Same.refl H4) hq
      have qs := (h4.ne hq).1
      -- the deed
      refine ⟨_, rfl, _, rfl, s, c, q, ns, _, rfl, h4.keep e5, hl, qs, .inl (SqL.of upd_same), by rw [List.length_map]; exact z0, by rw [List.length_map]; omega, fun j2 v H6 hj2 e6 h6 => ?_⟩
      rw [List.getElem?_map] at hj2
      obtain ⟨z, hz2, rfl⟩ := Option.map_eq_some_iff.mp hj2
      have hzm := hz z (List.mem_of_getElem? hz2)
      have e46 : SameX s H3 H6 := (e4.trans (same_sx e5)).trans e6
      have a6 := e46 _ _ ea as
      have b6 := e46 _ _ eb bs
      have hal6 : Al (DeT K (Off a (Off s H6))) dvs ds := hal.mono fun _ _ h => DeT.keep (same_off e46.off) h
      have kp : ∀ {H' : Hp}, Same H6 H' → SameX s H H' ∧ StA H' s c ns ∧ Al (DeT K (Off a (Off s H'))) dvs ds := fun e => ⟨(e3.trans e46).trans (same_sx e), h6.keep e, hal6.mono fun _ _ h => DeT.keep (same_off (same_off e)) h⟩
      have dl : dvs.length < 1000 := by rw [hal.1]; omega
      have wl : (worded ds).length < 1000 := by
        have : (worded ds).length ≤ ds.length := by unfold worded; rw [List.length_map]; exact List.length_filter_le ..
        omega
      -- the test
      refine ⟨fun t H7 => Same H6 H7 ∧ (t = true → (z = "add" ∨ z = "strike") → f.nm ∉ worded ds), ?_, ?_⟩
      · refine ⟨_, rfl, by show 2 ≤ sizeLine; decide, fun p hp => ?_⟩
        have e7 : Same H6 (upd H6 p (.tup [.str "add", .str "strike"])) := same_new (Same.refl H6) hp
        refine ⟨p, _, rfl, .inr (SqT.of upd_same), rfl, rfl, _, rfl, ?_⟩
        rw [show ([.str "add", .str "strike"] : List V) = (["add", "strike"] : List Str).map V.str from rfl, inV_strs]
        refine ite2 (fun h1 => ⟨e7, fun _ h2 => ?_⟩) (fun h1 => ?_)
        · have hm : z ∈ (["add", "strike"] : List Str) := by rcases h2 with rfl | rfl <;> decide
          rw [decide_eq_true hm] at h1
          cases h1
        · refine ⟨_, rfl, _, rfl, b, _, rfl, .inl (SqL.of (e7 _ _ b6)), rfl, flat_strs _, ?_⟩
          rw [inV_strs]
          refine ⟨_, rfl, e7, fun h2 _ hm => ?_⟩
          rw [decide_eq_true hm] at h2
          cases h2
      rintro t H7 ⟨e7, ht⟩
      refine ite2 (fun h1 => ?_) (fun h1 => ?_)
      · refine ⟨_, rfl, _, rfl, by show 1 ≤ sizeLine; decide, fun p hp => ?_⟩
        refine ⟨_, rfl, by show 2 ≤ sizeLine; decide, fun p2 hp2 => ⟨p2, _, rfl, .inr (SqT.of upd_same), rfl, rfl, .inr ⟨_, rfl, ?_⟩⟩⟩
        rw [show ([.str "add", .str "strike"] : List V) = (["add", "strike"] : List Str).map V.str from rfl, inV_strs]
        have e8 : Same H6 (upd (upd H7 p (.lst [.str f.nm])) p2 (.tup ((["add", "strike"] : List Str).map V.str))) := same_new (same_new e7 hp) hp2
        have p8 : upd (upd H7 p (.lst [.str f.nm])) p2 (.tup ((["add", "strike"] : List Str).map V.str)) p = some (.lst [.str f.nm]) := by
          rw [upd_ne (Ne.symm (upd_none hp2).1), upd_same]
        obtain ⟨m, hm, m1, hw⟩ : ∃ m : Nat, (if (if false = true then !decide (z ∈ (["add", "strike"] : List Str)) else decide (z ∈ (["add", "strike"] : List Str))) = true then (1 : Int) else 0) = (m : Int) ∧ m ≤ 1 ∧ worded (ds ++ [(z, f.nm)]) = worded ds ++ List.replicate m f.nm := by
          rw [worded_snoc]
          by_cases q : z ∈ (["add", "strike"] : List Str)
          · refine ⟨1, by rw [decide_eq_true q]; rfl, Nat.le_refl _, ?_⟩
            rw [if_pos (by simpa using q)]
            rfl
          · refine ⟨0, by rw [decide_eq_false q]; rfl, by decide, ?_⟩
            rw [if_neg (by simpa using q)]
            rfl
        refine ⟨p, m, _, rfl, congrArg V.int hm, p8, by omega, by omega, ?_, fun p3 hp3 => ?_⟩
        · rw [Int.toNat_natCast]
          show 1 * m ≤ sizeLine
          exact Nat.le_trans (by omega : 1 * m ≤ 1) (by decide)
        rw [Int.toNat_natCast, rep_flat]
        have e9 := same_new e8 hp3 (o := .lst ((List.replicate m f.nm).map V.str))
        refine ⟨b, p3, _, _, rfl, rfl, e9 _ _ b6, upd_same, ?_, fun p4 hp4 => ?_⟩
        · rw [List.length_map, List.length_map, List.length_replicate]
          exact Nat.le_trans (by omega : (worded ds).length + m ≤ 1001) (by decide)
        rw [← List.map_append, ← hw]
        have e10 := same_new e9 hp4 (o := .lst ((worded (ds ++ [(z, f.nm)])).map V.str))
        refine ⟨_, rfl, .inl ⟨rfl, _, SqL.of (e10 _ _ a6)⟩, _, rfl, _, rfl, by show 2 ≤ sizeLine; decide, fun p5 hp5 => ?_⟩
        have e11 := same_new e10 hp5 (o := .tup [.str z, .str f.nm])
        refine ⟨a, _, _, rfl, rfl, e11 _ _ a6, Nat.lt_of_lt_of_le dl (by decide), ?_⟩
        obtain ⟨k1, k2, k3⟩ := kp e11
        have n4 := (h6.keep e9).ne hp4
        have n4a : p4 ≠ a := fun e => by rw [e, e9 _ _ a6] at hp4; cases hp4
        have n5 := (h6.keep e10).ne hp5
        have n5a : p5 ≠ a := fun e => by rw [e, e10 _ _ a6] at hp5; cases hp5
        refine ⟨k1.putN ha, k2.put as ac, ds ++ [(z, f.nm)], dvs ++ [.ref p5], p4, upd_same, ?_, n4.1, n4a, ?_, ?_, ?_, ?_, _, _, _, _, _, _, rfl⟩
        · rw [upd_ne n4a, upd_ne (fun e => by rw [← e, upd_same] at hp5; cases hp5), upd_same]
        · rw [off_upd as, off_put]
          exact k3.snoc (Tu.tup (by rw [off_ne n5a, off_ne n5.1, upd_same]; rfl))
        · rw [List.length_append]
          exact Nat.succ_le_succ hln
        · intro d' hd'
          rcases List.mem_append.mp hd' with h | h
          · exact hok d' h
          · obtain rfl := List.mem_singleton.mp h
            exact ⟨f, List.mem_of_getElem? hfj, rfl, hzm⟩
        · rw [worded_snoc]
          by_cases q : z = ("add" : Str) ∨ z = ("strike" : Str)
          · rw [if_pos q]
            exact List.nodup_append.mpr ⟨hnd, by simp, fun x hx y hy e => ht h1 q (by have e2 : y = f.nm := List.mem_singleton.mp hy; rw [← e2, ← e]; exact hx)⟩
          · rw [if_neg q, List.append_nil]
            exact hnd
      · obtain ⟨k1, k2, k3⟩ := kp e7
        exact ⟨k1, k2, ds, dvs, b, e7 _ _ a6, e7 _ _ b6, bs, ba, k3, Nat.le_succ_of_le hln, hok, hnd, _, _, _, _, _, _, rfl⟩
    · rintro σ H3 ⟨e3, h3, ds, dvs, b, ea, eb, bs, ba, hal, hln, hok, hnd, x5, x6, x7, x8, x9, x10, rfl⟩
      refine ⟨_, rfl, ?_⟩
      have hd' : ds.length ≤ d := hln
      exact k a ds dvs H3 ha ((off_ne as).trans ea) (hal.mono fun _ _ h => DeT.keep off_same h) (by omega) hok hnd e3 h3
end
end MK
set_option Elab.async false
set_option linter.all false
set_option autoImplicit false
set_option maxRecDepth 100000
set_option maxHeartbeats 4000000
namespace MK
open PySem PySem.Spec PyProof.Rows L2
local macro_rules | `(tactic| walk_at "x") => `(tactic| dsimp only [tSeq, tAsg, tRet, tDrop, tLst, tTup, tCons, tOp, tUn, tIfS])
/-! ### a drawn call -/
abbrev s_call : Stmt := topS 63
theorem sc_call : FnScope ["_law_state", "_law_name", "_law_hand", "_law_fields", "_law_far", "_law_some", "_law_k", "_law_moves", "_law_x", "_law_lists", "_law_deeds_here"] ["_law_state", "_law_name", "_law_hand", "_law_fields", "_law_far"] (defScope s_call) := ⟨rfl, rfl, rfl, by decide +kernel, rfl, by decide +kernel, by decide +kernel⟩
def spCall (K : PySem.W.Frag) : Sp := fun vs H Q _ => ∃ (s c l : Addr) (ns : List Int) (nm hd : Str) (far : Nat) (fvs : List V) (fs : List FD), vs = [.ref s, .str nm, .str hd, .ref l, .int far] ∧ StA H s c ns ∧ ns.length ≤ 63 ∧ Off s H l = some (.lst fvs) ∧ Al (FdT K (Off s H)) fvs fs ∧ 0 < fs.length ∧ fs.length < 10 ∧
  (fs.map (·.nm)).Nodup ∧ 1 ≤ far ∧ far ≤ 4 ∧ wordB nm = true ∧ (hd = "self" ∨ hd = "new" ∨ hd = "last") ∧
  ∀ (v : V) (cd : CD) H', cd.nm = nm → cd.hand = hd → CdN K H (Off s H') v cd → CdOk fs far cd → SameX s H H' → StA H' s c ns → Q v H'
section
variable {P : Program} {w : World} {K : PySem.W.Frag} {mg : Str → Option Value} {base : Heap}
theorem ok_call {f : Addr} {fd : FuncData} (F : DefX K mg "_law_call" s_call ["_law_state", "_law_name", "_law_hand", "_law_fields", "_law_far"] f fd) (T : Txt K mg) (c_take : Cal P w K mg base CX0 2 "_law_take" spTake) (c_one : Cal P w K mg base CX0 3 "_law_one" (spOne K)) (c_deeds : Cal P w K mg base CX0 4 "_law_deeds" (spDeeds K)) : Cal P w K mg base CX0 5 "_law_call" (spCall K) := by
  refine cal_mk F sc_call (fun vs H Q E h => ?_) (fun cdv A outer sh H vs Q E hr h => ?_)
  · obtain ⟨s, c, l, ns, nm, hd, far, fvs, fs, rfl, _⟩ := h
    rfl
  · obtain ⟨s, c, l, ns, nm, hd, far, fvs, fs, rfl, h0, hl, hx, hfs, f0, f1, fnd, far0, far1, hw, hh, k⟩ := h
    refine ⟨_, (pss_cut (ps_set (i := 5) sc_call.nd rfl (Or.inr rfl) (pe_op op_cat (pe_op op_rep (pe_listRg rfl (by rfl) T.list (prg_1 (by rfl) T.range (pv 4))) pe_int) (pe_op op_rep (pe_lst (pa_cons (pe_un un_neg pe_int) pa_nil)) (pe_callTy call_int1 (by rfl) T.int (by decide +kernel) (pa_cons (pe_cmpR op_gt (pv 4) pe_int (nomark _)) pa_nil)))))
(pss_cut (ps_setLc (i := 7) (own := [("_law_k", 6)]) (g := (gName 6)) (tt := tYes) rfl sc_call.nd rfl rfl (sw_true rfl rfl rfl (by decide +kernel)) (pi_range1 (by rfl) T.range (pa_cons (pv 4) pa_nil)) (blkOk_by (own := [("_law_k", 6)]) (N := ["_law_state", "_law_name", "_law_hand", "_law_fields", "_law_far", "_law_some", "_law_k", "_law_moves", "_law_x", "_law_lists", "_law_deeds_here"]) (sc := defScope s_call) (by decide +kernel)) (fun _ _ _ _ _ => (pg_name (i := 6) sc_call.nd rfl (Or.inl rfl))) (fun _ _ _ _ _ => pts_nil) (fun _ _ _ _ _ => (pe_c c_one hr (by first | decide | assumption) rfl (pa_cons (pv 0) (pa_cons (pv 5) pa_nil)))))
(pss_cut (ps_setLc (i := 9) (own := [("_law_x", 8)]) (g := (gName 8)) rfl sc_call.nd rfl rfl (sw_true rfl rfl rfl (by decide +kernel)) (pi_list (pv 3)) (blkOk_by (own := [("_law_x", 8)]) (N := ["_law_state", "_law_name", "_law_hand", "_law_fields", "_law_far", "_law_some", "_law_k", "_law_moves", "_law_x", "_law_lists", "_law_deeds_here"]) (sc := defScope s_call) (by decide +kernel)) (fun _ _ _ _ _ => (pg_name (i := 8) sc_call.nd rfl (Or.inl rfl))) (fun _ _ _ _ _ => (pts_one (pt_cut (PW.pt (pw_and (pt_cmpR op_eq (pe_ix (ix_tupK (K := K) rfl) (pv 8) pe_int (fun _ _ => rfl)) pe_str (nomark _)) (pw_and1 (pt_cmpR op_eq (pe_c c_take hr (by first | decide | assumption) rfl (pa_cons (pv 0) (pa_cons pe_int pa_nil))) pe_int (nomark _)))))))) (fun _ _ _ _ _ => (pe_ix (ix_tupK (K := K) rfl) (pv 8) pe_int (fun _ _ => rfl))))
(pss_cons (ps_set (i := 10) sc_call.nd rfl (Or.inl rfl) (pe_c c_deeds hr (by first | decide | assumption) rfl (pa_cons (pv 0) (pa_cons (pv 3) (pa_cons (pe_c c_one hr (by first | decide | assumption) rfl (pa_cons (pv 0) (pa_cons (pe_lst (pa_cons pe_int (pa_cons pe_int (pa_cons pe_int (pa_cons pe_int pa_nil))))) pa_nil))) pa_nil)))))
(pss_one (ps_ret (pe_tup (pa_cons (pv 1) (pa_cons (pv 2) (pa_cons (pv 7) (pa_cons (pv 10) (pa_cons (pe_cut (pe_ifExp (pt_cmpR op_ne (pv 2) pe_str (nomark _)) (pv 9) (pe_lst pa_nil))) pa_nil)))))))))))), ?_⟩
    have ls : l ≠ s := fun e => by rw [e, off_s] at hx; cases hx
    have fl : fvs.length < 10 := by rw [hfs.1]; exact f1
    refine ⟨fun σ H5 => ∃ q5 x6 x7 x8 x9 x10, ∃ m : Nat, m ≤ 1 ∧ Same H H5 ∧ q5 ≠ s ∧ H5 q5 = some (.lst (smV (far : Int) m)) ∧ σ = [some (.ref s), some (.str nm), some (.str hd), some (.ref l), some (.int far), some (.ref q5), x6, x7, x8, x9, x10], ?_, ?_⟩
    · refine ⟨_, rfl, (far : Int), rfl, RgOk.of_le (by omega) (by omega) (by omega) (by omega), fun q hq => ?_⟩
      have e1 := same_new (Same.refl H) hq (o := .lst (rgV 0 (far : Int)))
      have rl : (rgV 0 (far : Int)).length = far := by rw [rgV_length, Int.sub_zero, Int.toNat_natCast]
      refine ⟨q, 3, _, rfl, rfl, upd_same, by decide, by decide, ?_, fun q2 hq2 => ?_⟩
      · rw [rl]
        exact Nat.le_trans (by show far * 3 ≤ 12; omega) (by decide)
      have e2 := same_new e1 hq2 (o := .lst (List.replicate 3 (rgV 0 (far : Int))).flatten)
      refine ⟨_, rfl, by show 1 ≤ sizeLine; decide, fun q3 hq3 => ?_⟩
      have e3 := same_new e2 hq3 (o := .lst [V.int (-1)])
      refine ⟨_, rfl, _, _, rfl, rfl, .inr ⟨_, rfl, ?_⟩⟩
      obtain ⟨m, hm, m1⟩ : ∃ m : Nat, (if decide ((far : Int) > 1) = true then (1 : Int) else 0) = (m : Int) ∧ m ≤ 1 := by
        by_cases q : (far : Int) > 1
        · exact ⟨1, by rw [decide_eq_true q]; rfl, Nat.le_refl _⟩
        · exact ⟨0, by rw [decide_eq_false q]; rfl, by decide⟩
      refine ⟨q3, m, _, rfl, congrArg V.int hm, upd_same, by omega, by omega, ?_, fun q4 hq4 => ?_⟩
      · rw [Int.toNat_natCast]
        exact Nat.le_trans (by show 1 * m ≤ 1; omega) (by decide)
      rw [Int.toNat_natCast]
      have e4 := same_new e3 hq4 (o := .lst (List.replicate m [V.int (-1)]).flatten)
      have z3 : q2 ≠ q3 := fun e => by rw [← e, upd_same] at hq3; cases hq3
      have z4 : q2 ≠ q4 := fun e => by rw [← e, upd_ne z3, upd_same] at hq4; cases hq4
      have sml := smV_len (far := (far : Int)) (m := m) (by omega)
      refine ⟨q2, q4, _, _, rfl, rfl, by rw [upd_ne z4, upd_ne z3, upd_same], upd_same, ?_, fun q5 hq5 => ?_⟩
      · have : (smV (far : Int) m).length ≤ sizeLine := Nat.le_trans (by omega : _ ≤ 13) (by decide)
        unfold smV at this
        rw [List.length_append] at this
        exact this
      exact ⟨q5, _, _, _, _, _, m, m1, same_new e4 hq5, ((h0.keep e4).ne hq5).1, upd_same, rfl⟩
    rintro _ H5 ⟨q5, x6, x7, x8, x9, x10, m, m1, e5, q5s, s5, rfl⟩
    have h5 := h0.keep e5
    have sml := smV_len (far := (far : Int)) (m := m) (by omega)
    have smm : ∀ x ∈ smV (far : Int) m, ∃ z : Int, x = .int z ∧ -1 ≤ z ∧ z < far := fun x h => smV_mem (by omega) h
    -- the moves
    refine ⟨fun σ H6 => ∃ (D : Addr) (ms : List Int) (x6 x8 x9 x10 : Option V), SameX s H H6 ∧ StA H6 s c ns ∧ D ≠ s ∧ H D = none ∧ H6 D = some (.lst (ms.map V.int)) ∧ ms.length = far ∧ (∀ z ∈ ms, -1 ≤ z ∧ z < far) ∧
      σ = [some (.ref s), some (.str nm), some (.str hd), some (.ref l), some (.int far), some (.ref q5), x6, some (.ref D), x8, x9, x10], ?_, ?_⟩
    · refine ⟨_, rfl, (far : Int), rfl, by omega, by omega, fun D hD => ?_⟩
      obtain ⟨Ds, Dc⟩ := h5.ne hD
      refine lc_it walk_range (fun i H6 => SameX s H H6 ∧ StA H6 s c ns ∧ H6 q5 = some (.lst (smV (far : Int) m)) ∧ ∃ ms : List Int, H6 D = some (.lst (ms.map V.int)) ∧ ms.length = i ∧ ∀ z ∈ ms, -1 ≤ z ∧ z < far)
        ⟨same_sx (same_new e5 hD), h5.put Ds Dc, same_new (Same.refl H5) hD _ _ s5, [], upd_same, rfl, nofun⟩ (fun _ _ _ _ => trivial) ?_ ?_
      · rintro i x H6' H6 hi ⟨e6, h6, s6, ms, hms, hlen, hz⟩ ⟨rfl, rfl⟩
        have hi4 : i < far := by
          have : i < (far : Int).toNat := hi
          omega
        refine ⟨rfl, ?_⟩
        refine ⟨_, rfl, _, rfl, s, c, q5, ns, _, rfl, h6, hl, q5s, .inl (SqL.of s6), by rw [sml]; omega, by rw [sml]; omega, fun d v H7 hd7 e7 h7 => ?_⟩
        obtain ⟨z, rfl, z0, z1⟩ := smm v (List.mem_of_getElem? hd7)
        refine ⟨_, e7 _ _ hms Ds, by rw [List.length_map]; exact Nat.lt_of_lt_of_le (by omega : ms.length < 4) (by decide), ?_⟩
        have q5D : q5 ≠ D := fun e => by rw [e, hD] at s5; cases s5
        refine ⟨(e6.trans e7).putN (none_of e5 hD), h7.put Ds Dc, (upd_ne q5D).trans (e7 _ _ s6 q5s), ms ++ [z], ?_, by rw [List.length_append, hlen]; rfl, ?_⟩
        · rw [upd_same, List.map_append]
          rfl
        · intro y hy
          rcases List.mem_append.mp hy with hy | hy
          · exact hz y hy
          · rw [List.mem_singleton.mp hy]
            exact ⟨z0, z1⟩
      · rintro H6 ⟨e6, h6, _, ms, hms, hlen, hz⟩
        exact ⟨D, ms, _, _, _, _, e6, h6, Ds, none_of e5 hD, hms, by rw [hlen]; exact Int.toNat_natCast far, hz, rfl⟩
    rintro _ H6 ⟨D, ms, x6, x8, x9, x10, e6, h6, Ds, Dn, hms, hml, hmz, rfl⟩
    -- the lists in common
    refine ⟨fun σ H7 => ∃ (D2 : Addr) (zs : List Str) (x6 x8 x10 : Option V), SameX s H H7 ∧ StA H7 s c ns ∧ D2 ≠ s ∧ H D2 = none ∧ H7 D = some (.lst (ms.map V.int)) ∧ H7 D2 = some (.lst (zs.map V.str)) ∧ zs.Nodup ∧ (∀ z ∈ zs, ∃ f ∈ fs, f.nm = z ∧ f.many = true) ∧
      σ = [some (.ref s), some (.str nm), some (.str hd), some (.ref l), some (.int far), some (.ref q5), x6, some (.ref D), x8, some (.ref D2), x10], ?_, ?_⟩
    · refine ⟨_, rfl, l, rfl, ⟨_, SqL.of (e6 _ _ (off_get hx) ls)⟩, fun D2 hD2 => ?_⟩
      obtain ⟨D2s, D2c⟩ := h6.ne hD2
      have D2D : D ≠ D2 := fun e => by rw [← e, hms] at hD2; cases hD2
      refine lc_list (K := K) (a := l) (xs := fvs) (fun i H7 => SameX s H6 H7 ∧ StA H7 s c ns ∧ ∃ zs : List Str, H7 D2 = some (.lst (zs.map V.str)) ∧ zs.length ≤ i ∧ zs.Sublist ((fs.take i).map (·.nm)) ∧ ∀ z ∈ zs, ∃ f ∈ fs, f.nm = z ∧ f.many = true)
        ⟨same_sx (same_new (Same.refl H6) hD2), h6.put D2s D2c, [], upd_same, Nat.le_refl _, List.nil_sublist _, nofun⟩ (fun i H7 _ h => SqL.of (h.1 _ _ (e6 _ _ (off_get hx) ls) ls)) ?_ ?_
      · rintro i v H7 hv7 ⟨e7, h7, zs, hzs, hzl, hsub, hzm⟩
        obtain ⟨f, hfi, hft⟩ := hfs.get hv7
        have il : i < fvs.length := (List.getElem?_eq_some_iff.mp hv7).1
        obtain ⟨u, rfl, hu0⟩ := FdT.keep (e6.trans e7).off hft
        have hu : SqT K H7 u (FdV f) := same_t off_same hu0
        refine ⟨rfl, ?_⟩
        refine ⟨fun t H8 => SameX s H7 H8 ∧ StA H8 s c ns ∧ (t = true → f.many = true), ?_, ?_⟩
        · refine ⟨_, rfl, u, _, 1, .str (sortS f.many), rfl, rfl, hu, rfl, rfl, _, rfl, ite2 (fun h1 => ?_) (fun h1 => ⟨SameX.refl s H7, h7, nofun⟩)⟩
          refine ⟨_, rfl, s, c, ns, 2, rfl, h7, hl, by decide, by decide, fun d H8 hd e8 h8 => ⟨rfl, _, rfl, e8, h8, fun _ => ?_⟩⟩
          cases e : f.many with
          | true => rfl
          | false =>
            rw [e] at h1
            exact absurd (V.str.inj (of_decide_eq_true h1)) (by decide)
        rintro t H8 ⟨e8, h8, ht⟩
        have fi : (fs.take (i + 1)).map (·.nm) = (fs.take i).map (·.nm) ++ [f.nm] := by
          rw [List.take_succ, hfi]
          simp
        refine ite2 (fun h1 => ?_) (fun h1 => ?_)
        · refine ⟨_, rfl, u, _, 0, .str f.nm, rfl, rfl, same_t off_same (same_t e8.off hu0), rfl, ?_⟩
          refine ⟨_, e8 _ _ hzs D2s, by rw [List.length_map]; exact Nat.lt_of_lt_of_le (by omega : zs.length < 10) (by decide), ?_⟩
          refine ⟨(e7.trans e8).putN hD2, h8.put D2s D2c, zs ++ [f.nm], ?_, by rw [List.length_append]; exact Nat.succ_le_succ hzl, ?_, ?_⟩
          · rw [upd_same, List.map_append]
            rfl
          · rw [fi]
            exact hsub.append (List.Sublist.refl _)
          · intro y hy
            rcases List.mem_append.mp hy with hy | hy
            · exact hzm y hy
            · rw [List.mem_singleton.mp hy]
              exact ⟨f, List.mem_of_getElem? hfi, rfl, ht h1⟩
        · refine ⟨e7.trans e8, h8, zs, e8 _ _ hzs D2s, Nat.le_succ_of_le hzl, ?_, hzm⟩
          rw [fi]
          exact hsub.trans (List.sublist_append_left _ _)
      · rintro H7 ⟨e7, h7, zs, hzs, hzl, hsub, hzm⟩
        refine ⟨D2, zs, _, _, _, e6.trans e7, h7, D2s, noneX e6 D2s hD2, e7 _ _ hms Ds, hzs, ?_, hzm, rfl⟩
        refine hsub.nodup (List.Nodup.sublist ?_ fnd)
        exact (List.take_sublist _ _).map _
    rintro _ H7 ⟨D2, zs, x6, x8, x10, e7, h7, D2s, D2n, hms7, hzs, hznd, hzm, rfl⟩
    -- the deeds
    refine ⟨_, rfl, _, rfl, _, rfl, by show 4 ≤ sizeLine; decide, fun b hb => ?_⟩
    have e8 := same_new (Same.refl H7) hb (o := .lst [.int 1, .int 2, .int 2, .int 4])
    refine ⟨s, c, b, ns, _, rfl, h7.keep e8, hl, (h7.ne hb).1, .inl (SqL.of upd_same), by decide, by decide, fun d v H8 hd8 e9 h8 => ?_⟩
    obtain ⟨n, rfl, n0, n1⟩ : ∃ n : Int, v = .int n ∧ 0 ≤ n ∧ n ≤ 4 := by
      have m := List.mem_of_getElem? hd8
      simp only [List.mem_cons, List.not_mem_nil, or_false] at m
      rcases m with rfl | rfl | rfl | rfl <;> exact ⟨_, rfl, by decide, by decide⟩
    have e78 := (same_sx (s := s) e8).trans e9
    have e08 := e7.trans e78
    refine ⟨s, c, l, ns, n, fvs, fs, rfl, h8, hl, ?_, hfs.mono fun _ _ h => FdT.keep e08.off h, f0, f1, n0, by omega, fun a ds dvs H9 ha hda hal hdl hdok hdnd e10 h9 => ?_⟩
    · rw [off_ne ls]
      exact e08 _ _ (off_get hx) ls
    have e79 := e78.trans e10
    -- what is handed
    refine ⟨_, rfl, _, rfl, _, rfl, _, rfl, ?_⟩
    refine ⟨fun v H10 => Same H9 H10 ∧ ∃ ys : List Str, LsN H (Off s H10) v (ys.map V.str) ∧ ys.Nodup ∧ (∀ z ∈ ys, ∃ f ∈ fs, f.nm = z ∧ f.many = true) ∧ (hd = "self" → ys = []), ?_, ?_⟩
    · refine ⟨_, rfl, rfl, _, rfl, ite2 (fun h1 => ?_) (fun h1 => ?_)⟩
      · refine ⟨_, rfl, Same.refl H9, zs, ⟨D2, rfl, D2n, ?_⟩, hznd, hzm, fun e => ?_⟩
        · rw [off_ne D2s]
          exact e79 _ _ hzs D2s
        · subst e
          exact absurd h1 (by decide)
      · refine ⟨by show 0 ≤ sizeLine; decide, fun p hp => ⟨same_new (Same.refl H9) hp, [], ⟨p, rfl, noneX (e08.trans e10) (h9.ne hp).1 hp, ?_⟩, List.nodup_nil, nofun, fun _ => rfl⟩⟩
        rw [off_ne (h9.ne hp).1, upd_same]
        rfl
    rintro v H10 ⟨e11, ys, hys, ynd, hym, hself⟩
    refine ⟨by show 5 ≤ sizeLine; decide, fun p hp => ?_⟩
    have e12 := same_new e11 hp (o := .tup [.str nm, .str hd, .ref D, .ref a, v])
    have ps := ((h9.keep e11).ne hp).1
    have e13 : Same (Off s H10) (Off s (upd H10 p (.tup [.str nm, .str hd, .ref D, .ref a, v]))) := same_off (same_new (Same.refl H10) hp)
    refine k (.ref p) ⟨nm, hd, ms, ds, ys⟩ _ rfl rfl ⟨.ref D, .ref a, v, dvs, Tu.tup ?_, ⟨D, rfl, Dn, ?_⟩, ⟨a, rfl, noneX e08 (h8.ne ha).1 ha, same_off e12 _ _ hda⟩, hal.mono fun _ _ h => DeT.keep (same_off e12) h, hys.keep e13⟩ ?_ (((e08.trans e10).trans (same_sx e12))) (h9.keep e12)
    · rw [off_ne ps, upd_same]
    · rw [off_ne Ds]
      exact e12 _ _ (e79 _ _ hms7 Ds)
    · exact ⟨hw, hh, hml, hmz, (by have : (ds.length : Int) ≤ 4 := Int.le_trans hdl n1; exact Int.ofNat_le.mp this), hdok, hdnd, hym, hself, ynd⟩
end
end MK

set_option Elab.async false
set_option linter.all false
set_option autoImplicit false
set_option maxRecDepth 100000
set_option maxHeartbeats 4000000
namespace MK
open PySem PySem.Spec PyProof.Rows L2
local macro_rules | `(tactic| walk_at "x") => `(tactic| dsimp only [tSeq, tAsg, tRet, tDrop, tLst, tTup, tCons, tOp, tUn, tIfS])
/-! ### Kind(..), the law's kinds -/
abbrev s_plan : Stmt := topS 61
theorem sc_plan : FnScope ["_law_fields", "_law_calls", "_law_far"] ["_law_fields", "_law_calls", "_law_far"] (defScope s_plan) := ⟨rfl, rfl, rfl, by decide +kernel, rfl, by decide +kernel, by decide +kernel⟩
structure KMk (P : Program) (w : World) (K : PySem.W.Frag) (mg : Str → Option Value) (base : Heap) (KC : Addr) : Prop where
  ex : ∃ (f : Addr) (fd : FuncData), Mk K KC f ∧ FnOk P w K mg base CX0 6 f fd ["self", "fields", "calls", "modes"] (spKInit K KC) ∧ KBn K fd ["self", "fields", "calls", "modes"] 3 ["modes"] (fun us ws => us ++ ws) (fun vs zs => vs ++ zs)
  g : mg "Kind" = some (.ref KC)
theorem pe_kind {X : Cx} {KC : Addr} {j : Nat} {p pos : Pos} {e : Expr} {es : List Expr} {kws : List Keyword} {t tk : TA} (c : KMk X.prog X.w X.K X.mg X.base KC) (hr : Room j X.A) (hk : 7 ≤ j) (hg : Gl X "Kind") (ha : PA X (e :: es) t) (hkw : PK X kws tk)
    (hall : (backToKw pos (keywordEach kws X.env)).all (·.1.isSome) = true := by rfl) (hks : (backToKw pos (keywordEach kws X.env)).filterMap (·.1) = (["modes"] : List Str) := by rfl)
    (he : starEach (e :: es) X.env = (false, eval e X.env) :: starEach es X.env := by rfl) (hpl : ((backTo pos (starEach (e :: es) X.env)).any (·.1) || (backToKw pos (keywordEach kws X.env)).any (·.1.isNone)) = false := by rfl) :
    PE X (.Call (.Name "Kind" p) (e :: es) kws pos) (tCutE (tMakeK KC 2 1 (spKInit X.K KC) (fun vs zs => vs ++ zs) E0 t tk)) := by
  obtain ⟨f, fd, M, F, hb⟩ := c.ex
  exact pe_cut <| pe_makeK (n := 2) M F (hr.mono hk) hg c.g hb pass0 ha hkw hall hks (by decide) he hpl
theorem rd_kind {K : PySem.W.Frag} {KC s : Addr} {H : Hp} {fv cv : V} {n : Nat} {fvs cvs : List V} {fs : List FD} {cs : List CD} {Q : VK} {E : XK} (hs : H s ≠ none) (hf : Sq K (Off s H) fv fvs) (hfs : Al (FdA K (Off s H)) fvs fs) (hc : Sq K (Off s H) cv cvs) (hcs : Al (CdA K (Off s H)) cvs cs) (ok : KdOk fs n cs)
    (q : ∀ v H', Same H H' → KdA K KC (Off s H') v fs n cs → Q v H') : ∀ x dx, H x = none → H dx = none → dx ≠ x → spKInit K KC (.ref x :: ([fv, cv] ++ [.int n])) (upd (upd H dx (.own x)) x (.ins KC dx [])) (fun v H3 => v = .non ∧ Q (.ref x) H3) E := by
  intro x dx hx hd ne
  have xs : x ≠ s := fun e => hs (e ▸ hx)
  have ds : dx ≠ s := fun e => hs (e ▸ hd)
  have b : Same (Off s H) (Off x (Off s (upd (upd H dx (.own x)) x (.ins KC dx [])))) := by
    rw [off_upd xs, off_put]
    exact same_offN (same_off (same_new (Same.refl H) hd)) (off_none hx)
  refine ⟨s, x, dx, fv, cv, n, fvs, cvs, fs, cs, rfl, xs, ?_, upd_same, hf.keep b, hfs.mono fun _ _ h => FdA.keep b h, hc.keep b, hcs.mono fun _ _ h => CdA.keep b h, ok, fun H' e kd => ⟨rfl, q _ _ (fun a o ha => ?_) kd⟩⟩
  · rw [upd_ne (Ne.symm xs), upd_ne (Ne.symm ds)]
    exact hs
  · refine e a o ?_ (fun z => by rw [z, hx] at ha; cases ha)
    rw [upd_ne (fun z => by rw [z, hx] at ha; cases ha), upd_ne (fun z => by rw [z, hd] at ha; cases ha)]
    exact ha
theorem rd_kindM {K : PySem.W.Frag} {KC s : Addr} {H : Hp} {fv cv : V} {n : Nat} {fvs cvs : List V} {fs : List FD} {cs : List CD} {E : XK} (hs : H s ≠ none) (hf : Sq K (Off s H) fv fvs) (hfs : Al (FdA K (Off s H)) fvs fs) (hc : Sq K (Off s H) cv cvs) (hcs : Al (CdA K (Off s H)) cvs cs) (ok : KdOk fs n cs) :
    ∀ x dx, H x = none → H dx = none → dx ≠ x → spKInit K KC (.ref x :: ([fv, cv] ++ [.int n])) (upd (upd H dx (.own x)) x (.ins KC dx [])) (fun v H3 => v = .non ∧ Same H H3 ∧ KdA K KC (Off s H3) (.ref x) fs n cs) E :=
  rd_kind (Q := fun v H' => Same H H' ∧ KdA K KC (Off s H') v fs n cs) hs hf hfs hc hcs ok fun _ _ e k => ⟨e, k⟩
theorem KdA.off {K : PySem.W.Frag} {KC p : Addr} {H : Hp} {v : V} {fs : List FD} {n : Nat} {cs : List CD} (h : KdA K KC H v fs n cs) (hp : H p = some (.dK [])) (f0 : 0 < fs.length) (c0 : 0 < cs.length) : KdA K KC (Off p H) v fs n cs := by
  obtain ⟨x, dx, so, sp, tb, t, st, tv, sv, h0, h1, h2, h3, h4, h5, h6, h7, h8⟩ := h
  have full : ∀ {a : Addr} {kvs : List (Key × V)}, H a = some (.dK kvs) → 0 < kvs.length → Off p H a = some (.dK kvs) := fun {a kvs} ha hl => by
    rw [off_ne (fun e => by
      rw [e, hp] at ha
      have := HO.dK.inj (Option.some.inj ha)
      rw [← this] at hl
      cases hl)]
    exact ha
  refine ⟨x, dx, so, sp, tb, t, st, tv, sv, h0, ?_, h2.off hp no_dK, h3.mono fun _ _ h => Tu.off h hp no_dK, full h4 (by rw [sorts_len]; exact f0), full h5 (by rw [spots_len]; exact f0), h6.off hp no_dK, h7.mono fun _ _ h => CdT.off h hp no_dK, full h8 (by rw [table_len h7.1]; exact c0)⟩
  rw [off_ne (fun e => by rw [e, hp] at h1; cases h1)]
  exact h1
/-- what the law holds of a kind -/
def planV (l1 l2 : Addr) (n : Nat) (kv : V) : List (Key × V) := [(.inr "fields", .ref l1), (.inr "calls", .ref l2), (.inr "modes", .int n), (.inr "known", kv)]
def PlanA (K : PySem.W.Frag) (KC : Addr) (H : Hp) (v : V) (fs : List FD) (n : Nat) (cs : List CD) : Prop := ∃ (p l1 l2 : Addr) (kv : V) (fvs cvs : List V), v = .ref p ∧ H p = some (.dK (planV l1 l2 n kv)) ∧ H l1 = some (.lst fvs) ∧ Al (FdT K H) fvs fs ∧ H l2 = some (.lst cvs) ∧ Al (CdL K H) cvs cs ∧
  KdA K KC H kv fs n cs
theorem PlanA.keep {K : PySem.W.Frag} {KC : Addr} {H H' : Hp} {v : V} {fs : List FD} {n : Nat} {cs : List CD} (e : Same H H') (h : PlanA K KC H v fs n cs) : PlanA K KC H' v fs n cs := by
  obtain ⟨p, l1, l2, kv, fvs, cvs, h0, h1, h2, h3, h4, h5, h6⟩ := h
  exact ⟨p, l1, l2, kv, fvs, cvs, h0, e _ _ h1, e _ _ h2, h3.mono fun _ _ h => FdT.keep e h, e _ _ h4, h5.mono fun _ _ h => CdL.keep e h, h6.keep e⟩
def spPlan (K : PySem.W.Frag) (KC : Addr) : Sp := fun vs H Q _ => ∃ (s l1 l2 : Addr) (n : Nat) (fvs cvs : List V) (fs : List FD) (cs : List CD), vs = [.ref l1, .ref l2, .int n] ∧ H s ≠ none ∧ Off s H l1 = some (.lst fvs) ∧ Al (FdT K (Off s H)) fvs fs ∧ Off s H l2 = some (.lst cvs) ∧ Al (CdL K (Off s H)) cvs cs ∧ KdOk fs n cs ∧
  ∀ v H', Same H H' → PlanA K KC (Off s H') v fs n cs → Q v H'
section
variable {P : Program} {w : World} {K : PySem.W.Frag} {mg : Str → Option Value} {base : Heap} {C : Cst} {KC : Addr}
theorem ok_plan {f : Addr} {fd : FuncData} (F : DefX K mg "_law_plan" s_plan ["_law_fields", "_law_calls", "_law_far"] f fd) (T : Txt K mg) (c_Kind : KMk P w K mg base KC) : Cal P w K mg base CX0 8 "_law_plan" (spPlan K KC) := by
  refine cal_mk F sc_plan (fun vs H Q E h => ?_) (fun cdv A outer sh H vs Q E hr h => ?_)
  · obtain ⟨s, l1, l2, n, fvs, cvs, fs, cs, rfl, _⟩ := h
    rfl
  · obtain ⟨s, l1, l2, n, fvs, cvs, fs, cs, rfl, hs, h1, hfs, h2, hcs, ok, k⟩ := h
    refine ⟨_, (pss_one (ps_ret (pe_disp (pps_cons pe_str (pv 0) (pps_cons pe_str (pv 1) (pps_cons pe_str (pv 2) (pps_cons pe_str (pe_kind c_Kind hr (by first | decide | assumption) rfl (pa_cons (pv 0) (pa_cons (pv 1) pa_nil)) (pk_cons (pv 2) pk_nil)) pps_nil)))) (by rfl) (by rfl) (fun z => by cases z) (by decide)))), ?_⟩
    intro p hp
    have e1 : Same H (upd H p (.dK [])) := same_new (Same.refl H) hp
    have ps : p ≠ s := ne_s hs (Same.refl H) hp
    have b1 := same_off (s := s) e1
    refine ⟨_, rfl, _, rfl, _, rfl, fun v H3 => Same (upd H p (.dK [])) H3 ∧ KdA K KC (Off s H3) v fs n cs, ⟨_, rfl, _, rfl, _, rfl, rfl, rfl, rd_kindM (s := s) (kept_s hs e1) (Ls.sq ⟨l1, rfl, b1 _ _ h1⟩) (hfs.mono fun _ _ h => FdT.a (FdT.keep b1 h)) (Ls.sq ⟨l2, rfl, b1 _ _ h2⟩) (hcs.mono fun _ _ h => CdL.a (CdL.keep b1 h)) ok⟩, ?_⟩
    rintro v H3 ⟨e3, kd⟩
    refine ⟨e3 _ _ upd_same, planV l1 l2 n v, rfl, by show 4 ≤ 15; decide, ?_⟩
    rw [show mergeK [] (planV l1 l2 n v) = planV l1 l2 n v from rfl]
    have pv := off_ne (s := s) (H := H3) ps
    have kd2 : KdA K KC (Off p (Off s H3)) v fs n cs := kd.off (pv.trans (e3 _ _ upd_same)) ok.fields.pos ok.cpos
    have b2 : Same (Off p (Off s H3)) (Off s (upd H3 p (.dK (planV l1 l2 n v)))) := by
      refine Same.trans (H1 := Off p (Off s (upd H3 p (.dK (planV l1 l2 n v))))) ?_ off_same
      rw [off_upd ps, off_put]
      exact fun _ _ h => h
    have b3 : Same (Off s H) (Off s (upd H3 p (.dK (planV l1 l2 n v)))) := by
      refine Same.trans (H1 := Off p (Off s H3)) (same_offN (same_off (e1.trans e3)) (off_none hp)) b2
    refine k _ _ (fun a o ha => ?_) ⟨p, l1, l2, v, fvs, cvs, rfl, ?_, b3 _ _ h1, hfs.mono fun _ _ h => FdT.keep b3 h, b3 _ _ h2, hcs.mono fun _ _ h => CdL.keep b3 h, kd2.keep b2⟩
    · rw [upd_ne (ne_of_none ha hp)]
      exact e3 _ _ (e1 _ _ ha)
    · rw [off_ne ps, upd_same]
end
end MK

set_option Elab.async false
set_option linter.all false
set_option autoImplicit false
set_option maxRecDepth 100000
set_option maxHeartbeats 4000000
namespace MK
open PySem PySem.Spec PyProof.Rows L2
local macro_rules | `(tactic| walk_at "x") => `(tactic| dsimp only [tSeq, tAsg, tRet, tDrop, tLst, tTup, tCons, tOp, tUn, tIfS])
/-! ### a drawn kind -/
abbrev s_kind : Stmt := topS 64
theorem sc_kind : FnScope ["_law_state", "_law_wide", "_law_many", "_law_far", "_law_fields", "_law_names", "_law_k", "_law_top", "_law_calls", "_law_name"] ["_law_state", "_law_wide", "_law_many", "_law_far"] (defScope s_kind) := ⟨rfl, rfl, rfl, by decide +kernel, rfl, by decide +kernel, by decide +kernel⟩
def fieldNames : List Str := ["a", "need", "many", "do", "quantity"]
def callNames : List Str := ["add", "put", "cut", "make", "jqzxvkgw"]
def spLawKind (K : PySem.W.Frag) (KC : Addr) : Sp := fun vs H Q _ => ∃ (s c : Addr) (ns : List Int) (wide many far : Nat), vs = [.ref s, .int wide, .int many, .int far] ∧ StA H s c ns ∧ ns.length ≤ 63 ∧ 1 ≤ wide ∧ wide ≤ 3 ∧ 2 ≤ many ∧ many ≤ 6 ∧ 1 ≤ far ∧ far ≤ 3 ∧
  ∀ v H' fs n cs, SameX s H H' → StA H' s c ns → KdOk fs n cs → fs.length ≤ wide → (∀ f ∈ fs, f.nm ∈ fieldNames) → n ≤ far → (∃ j, j < many ∧ cs.map (·.nm) = callNames.take j ++ (["build"] : List Str)) → (∃ cs' b, cs = cs' ++ [b] ∧ b.hand = ("last" : Str)) → PlanA K KC (Off s H') v fs n cs → Q v H'
section
variable {P : Program} {w : World} {K : PySem.W.Frag} {mg : Str → Option Value} {base : Heap} {C : Cst} {KC : Addr}
theorem ok_kind {f : Addr} {fd : FuncData} (F : DefX K mg "_law_kind" s_kind ["_law_state", "_law_wide", "_law_many", "_law_far"] f fd) (T : Txt K mg) (c_take : Cal P w K mg base CX0 2 "_law_take" spTake) (c_one : Cal P w K mg base CX0 3 "_law_one" (spOne K)) (c_mix : Cal P w K mg base CX0 3 "_law_mix" (spMix K))
    (c_call : Cal P w K mg base CX0 5 "_law_call" (spCall K)) (c_plan : Cal P w K mg base CX0 8 "_law_plan" (spPlan K KC)) : Cal P w K mg base CX0 9 "_law_kind" (spLawKind K KC) := by
  refine cal_mk F sc_kind (fun vs H Q E h => ?_) (fun cdv A outer sh H vs Q E hr h => ?_)
  · obtain ⟨s, c, ns, wide, many, far, rfl, _⟩ := h
    rfl
  · obtain ⟨s, c, ns, wide, many, far, rfl, h0, hl, w1, w3, m2, m6, f1, f3, k⟩ := h
    refine ⟨_, (pss_cons (ps_par (i := 4) (j := 5) (by rfl) sc_kind.nd rfl rfl (by decide) rfl rfl (pa_cons (pe_lst pa_nil) (pa_cons (pe_c c_mix hr (by first | decide | assumption) rfl (pa_cons (pv 0) (pa_cons (pe_lst (pa_cons pe_str (pa_cons pe_str (pa_cons pe_str (pa_cons pe_str (pa_cons pe_str pa_nil)))))) pa_nil))) pa_nil)) (by rfl))
(pss_cons (ps_for PassesOwn.never rfl (pi_range1 (by rfl) T.range (pa_cons (pe_op op_add pe_int (pe_c c_take hr (by first | decide | assumption) rfl (pa_cons (pv 0) (pa_cons (pv 1) pa_nil)))) pa_nil)) (pg_name (i := 6) sc_kind.nd rfl (Or.inl rfl))
(pss_one (ps_expr (pe_bm PySem.F.plainAttrs_list PySem.F.slot_list_append PySem.F.type_list_append mt_append (pv 4) (pa_cons (pe_tup (pa_cons (pe_ix ix_list (pv 5) (pv 6) (fun _ _ => rfl)) (pa_cons (pe_c c_one hr (by first | decide | assumption) rfl (pa_cons (pv 0) (pa_cons (pe_lst (pa_cons pe_str (pa_cons pe_str (pa_cons pe_str pa_nil)))) pa_nil))) (pa_cons (pe_cmpR op_eq (pe_c c_take hr (by first | decide | assumption) rfl (pa_cons (pv 0) (pa_cons pe_int pa_nil))) pe_int (nomark _)) pa_nil)))) pa_nil)))))
(pss_cons (ps_par (i := 7) (j := 8) (by rfl) sc_kind.nd rfl rfl (by decide) rfl rfl (pa_cons (pe_op op_add pe_int (pe_c c_take hr (by first | decide | assumption) rfl (pa_cons (pv 0) (pa_cons (pv 3) pa_nil)))) (pa_cons (pe_lst pa_nil) pa_nil)) (by rfl))
(pss_cons (ps_for PassesOwn.never rfl (pi_list (pe_slice sl_list (pe_lst (pa_cons pe_str (pa_cons pe_str (pa_cons pe_str (pa_cons pe_str (pa_cons pe_str pa_nil)))))) po_none (po_some (pe_op op_add pe_int (pe_c c_take hr (by first | decide | assumption) rfl (pa_cons (pv 0) (pa_cons (pe_op op_sub (pv 2) pe_int) pa_nil))))))) (pg_name (i := 9) sc_kind.nd rfl (Or.inl rfl))
(pss_one (ps_expr (pe_bm PySem.F.plainAttrs_list PySem.F.slot_list_append PySem.F.type_list_append mt_append (pv 8) (pa_cons (pe_c c_call hr (by first | decide | assumption) rfl (pa_cons (pv 0) (pa_cons (pv 9) (pa_cons (pe_c c_one hr (by first | decide | assumption) rfl (pa_cons (pv 0) (pa_cons (pe_lst (pa_cons pe_str (pa_cons pe_str (pa_cons pe_str (pa_cons pe_str (pa_cons pe_str pa_nil)))))) pa_nil))) (pa_cons (pv 4) (pa_cons (pv 7) pa_nil)))))) pa_nil)))))
(pss_cons (ps_expr (pe_bm PySem.F.plainAttrs_list PySem.F.slot_list_append PySem.F.type_list_append mt_append (pv 8) (pa_cons (pe_c c_call hr (by first | decide | assumption) rfl (pa_cons (pv 0) (pa_cons pe_str (pa_cons pe_str (pa_cons (pv 4) (pa_cons (pv 7) pa_nil)))))) pa_nil)))
(pss_one (ps_ret (pe_c c_plan hr (by first | decide | assumption) rfl (pa_cons (pv 4) (pa_cons (pv 8) (pa_cons (pv 7) pa_nil))))))))))), ?_⟩
    refine ⟨by show 0 ≤ sizeLine; decide, fun fa hfa => ?_⟩
    have e1 := same_new (Same.refl H) hfa (o := .lst [])
    have h1 := h0.keep e1
    obtain ⟨fas, fac⟩ := h0.ne hfa
    refine ⟨_, rfl, by show 5 ≤ sizeLine; decide, fun q hq => ?_⟩
    have e2 := same_new e1 hq (o := .lst (fieldNames.map V.str))
    have h2 := h0.keep e2
    refine ⟨s, c, q, ns, fieldNames, rfl, h2, hl, SqL.of upd_same, by decide, by decide +kernel, fun an ys H3 hp han hys e3 h3 => ⟨_, _, rfl, ?_⟩⟩
    have e03 : SameX s H H3 := (same_sx e2).trans e3
    have fq : fa ≠ q := fun e => by rw [← e, upd_same] at hq; cases hq
    have fan : fa ≠ an := fun e => by rw [← e, upd_ne fq, upd_same] at han; cases han
    have ans : an ≠ s := (h2.ne han).1
    have fa3 : H3 fa = some (.lst []) := e3 _ _ ((upd_ne fq).trans upd_same) fas
    -- the fields
    refine ⟨_, rfl, _, rfl, s, c, ns, wide, rfl, h3, hl, by omega, by omega, fun d H4 hd e4 h4 => ?_⟩
    refine ⟨_, _, rfl, rfl, _, rfl, by omega, by omega, ?_⟩
    refine for_it walk_range (fun i σ H2 => SameX s H H2 ∧ StA H2 s c ns ∧ H2 an = some (.lst (ys.map V.str)) ∧ ∃ (fs : List FD) (fvs : List V), H2 fa = some (.lst fvs) ∧ Al (FdT K (Off fa (Off s H2))) fvs fs ∧ fs.map (·.nm) = ys.take i ∧
      ∃ x6 x7 x8 x9, σ = [some (.ref s), some (.int wide), some (.int many), some (.int far), some (.ref fa), some (.ref an), x6, x7, x8, x9])
      ⟨e03.trans e4, h4, e4 _ _ hys ans, [], [], e4 _ _ fa3 fas, Al.nil, rfl, none, none, none, none, rfl⟩ (fun _ _ _ _ _ => trivial) ?_ ?_
    · rintro i x σ H5' H5 hi ⟨e5, h5, an5, fs, fvs, fa5, al, hnm, x6, x7, x8, x9, rfl⟩ ⟨rfl, rfl⟩
      have yl : ys.length = 5 := hp.length_eq
      have hi5 : i < 5 := by
        have : i < (1 + (d : Int)).toNat := hi
        omega
      have hiy : i < ys.length := by omega
      have fl : fs.length ≤ 5 := by
        have := congrArg List.length hnm
        rw [List.length_map, List.length_take] at this
        omega
      refine ⟨_, rfl, .inl ⟨rfl, _, SqL.of fa5⟩, _, rfl, _, rfl, an, _, _, .str ys[i], rfl, rfl, SqL.of an5, ?_, ?_⟩
      · rw [Int.zero_add]
        exact atI_nat (by rw [List.getElem?_map, List.getElem?_eq_getElem hiy]; rfl)
      refine ⟨_, rfl, by show 3 ≤ sizeLine; decide, fun q2 hq2 => ?_⟩
      have e6 := same_new (Same.refl H5) hq2 (o := .lst [.str "many", .str "many", .str "one"])
      refine ⟨s, c, q2, ns, _, rfl, h5.keep e6, hl, (h5.ne hq2).1, .inl (SqL.of upd_same), by decide, by decide, fun d2 v H7 hd7 e7 h7 => ?_⟩
      obtain ⟨b, rfl⟩ : ∃ b : Bool, v = .str (sortS b) := by
        have m := List.mem_of_getElem? hd7
        simp only [List.mem_cons, List.not_mem_nil, or_false] at m
        rcases m with rfl | rfl | rfl
        · exact ⟨true, rfl⟩
        · exact ⟨true, rfl⟩
        · exact ⟨false, rfl⟩
      refine ⟨_, rfl, s, c, ns, 2, rfl, h7, hl, by decide, by decide, fun d3 H8 _ e8 h8 => ⟨rfl, ?_⟩⟩
      refine ⟨by show 3 ≤ sizeLine; decide, fun p hp8 => ?_⟩
      have e58 : SameX s H5 H8 := ((same_sx e6).trans e7).trans e8
      have fa8 := e58 _ _ fa5 fas
      have ps := (h8.ne hp8).1
      have pfa : p ≠ fa := fun e => by rw [e, fa8] at hp8; cases hp8
      have pan : p ≠ an := fun e => by rw [e, e58 _ _ an5 ans] at hp8; cases hp8
      refine ⟨fa, _, _, rfl, rfl, (upd_ne (Ne.symm pfa)).trans fa8, by rw [al.1]; exact Nat.lt_of_le_of_lt fl (by decide), ?_⟩
      refine ⟨((e5.trans e58).trans (same_sx (same_new (Same.refl H8) hp8))).putN hfa, (h8.keep (same_new (Same.refl H8) hp8)).put fas fac, ?_, fs ++ [⟨ys[i], b, decide (V.int d3 = V.int 0)⟩], _, upd_same, ?_, ?_, _, _, _, _, rfl⟩
      · rw [upd_ne (Ne.symm fan), upd_ne (Ne.symm pan)]
        exact e58 _ _ an5 ans
      · rw [off_upd fas, off_put]
        have e9 : Same (Off fa (Off s H5)) (Off fa (Off s (upd H8 p (.tup [.str ys[i], .str (sortS b), .bl (decide (V.int d3 = V.int 0))])))) := same_off ((e58.trans (same_sx (same_new (Same.refl H8) hp8))).off)
        exact (al.mono fun _ _ h => FdT.keep e9 h).snoc (Tu.tup (by rw [off_ne pfa, off_ne ps, upd_same]; rfl))
      · rw [List.map_append, hnm, List.take_succ, List.getElem?_eq_getElem hiy]
        rfl
    rintro σ H5 ⟨e5, h5, _, fs, fvs, fa5, al, hnm, x6, x7, x8, x9, rfl⟩
    have yl : ys.length = 5 := hp.length_eq
    have dl : d < 3 := by omega
    have fsl : fs.length = d + 1 := by
      have := congrArg List.length hnm
      rw [List.length_map, List.length_take] at this
      omega
    have ynd : ys.Nodup := hp.nodup_iff.mpr (by decide +kernel)
    have hfn : ∀ f ∈ fs, f.nm ∈ fieldNames := fun f hf => by
      have m : f.nm ∈ fs.map (·.nm) := List.mem_map_of_mem hf
      rw [hnm] at m
      exact hp.mem_iff.mp (List.mem_of_mem_take m)
    have fok : FsOk fs := ⟨by omega, by omega, fun f hf => (by decide +kernel : ∀ z ∈ fieldNames, wordB z = true) _ (hfn f hf), by rw [hnm]; exact ynd.sublist (List.take_sublist _ _)⟩
    have al5 : Al (FdT K (Off s H5)) fvs fs := al.mono fun _ _ h => FdT.keep off_same h
    refine ⟨_, rfl, _, rfl, s, c, ns, far, rfl, h5, hl, by omega, by omega, fun d2 H6 hd2 e6 h6 => ⟨_, _, rfl, rfl, by show 0 ≤ sizeLine; decide, fun ca hca => ⟨_, _, rfl, ?_⟩⟩⟩
    obtain ⟨cas, cac⟩ := h6.ne hca
    have e7 := same_new (Same.refl H6) hca (o := .lst [])
    -- the calls
    refine ⟨by show 5 ≤ sizeLine; decide, fun q3 hq3 => ?_⟩
    have e8 := same_new e7 hq3 (o := .lst (callNames.map V.str))
    refine ⟨_, rfl, _, rfl, _, _, rfl, rfl, s, c, ns, (many : Int) - 1, rfl, h6.keep e8, hl, by omega, by omega, fun d4 H9 hd4 e9 h9 => ?_⟩
    have e79 : SameX s H6 H9 := (same_sx e8).trans e9
    have caq : ca ≠ q3 := fun e => by rw [← e, upd_same] at hq3; cases hq3
    have ca9 : H9 ca = some (.lst []) := e9 _ _ ((upd_ne caq).trans upd_same) cas
    have qs : q3 ≠ s := ((h6.keep e7).ne hq3).1
    refine ⟨_, _, rfl, rfl, _, rfl, q3, _, rfl, SqL.of (e9 _ _ upd_same qs), fun q4 hq4 => ?_⟩
    obtain ⟨q4s, q4c⟩ := h9.ne hq4
    have ca4 : ca ≠ q4 := fun e => by rw [← e, ca9] at hq4; cases hq4
    have cut : cutV (callNames.map V.str) none (some (1 + (d4 : Int))) = (callNames.take (d4 + 1)).map V.str := by
      have e : HT.sIx (callNames.map V.str).length (callNames.map V.str).length (some (1 + (d4 : Int))) = min (1 + d4) (callNames.map V.str).length := by
        rw [show (1 + (d4 : Int)) = ((1 + d4 : Nat) : Int) by omega]
        exact HT.sIx_nat _ _ _
      unfold cutV
      rw [HT.sIx_none, e, List.drop_zero, Nat.sub_zero, show min (1 + d4) (callNames.map V.str).length = d4 + 1 from (by show min (1 + d4) 5 = d4 + 1; omega), List.map_take]
    have e10 : Same H9 (upd H9 q4 (.lst (cutV (callNames.map V.str) none (some (1 + (d4 : Int)))))) := same_new (Same.refl H9) hq4
    have e610 := e79.trans (same_sx e10)
    have e510 := e6.trans e610
    refine ⟨q4, rfl, ⟨_, SqL.of upd_same⟩, ?_⟩
    refine for_list (K := K) (a := q4) (xs := (callNames.take (d4 + 1)).map V.str) (fun i σ H2 => SameX s H5 H2 ∧ StA H2 s c ns ∧ H2 q4 = some (.lst ((callNames.take (d4 + 1)).map V.str)) ∧ ∃ (cs : List CD) (cvs : List V), H2 ca = some (.lst cvs) ∧
      Al (CdL K (Off ca (Off s H2))) cvs cs ∧ (∀ c ∈ cs, CdOk fs (d2 + 1) c) ∧ cs.map (·.nm) = (callNames.take (d4 + 1)).take i ∧ ∃ x6 x9, σ = [some (.ref s), some (.int wide), some (.int many), some (.int far), some (.ref fa), some (.ref an), x6, some (.int ((d2 + 1 : Nat) : Int)), some (.ref ca), x9])
      ⟨e510, h9.keep e10, (by rw [upd_same]; exact congrArg (fun l => some (HO.lst l)) cut), [], [], (upd_ne ca4).trans ca9, Al.nil, nofun, rfl, _, _, (by rw [show ((d2 + 1 : Nat) : Int) = 1 + (d2 : Int) by omega]; rfl)⟩ (fun i σ H2 _ h => SqL.of h.2.2.1) ?_ ?_
    · rintro i x σ H2 hx' ⟨e2, h2, q42, cs, cvs, ca2, al, cok, hnm, x6, x9, rfl⟩
      rw [List.getElem?_map] at hx'
      obtain ⟨z, hz, rfl⟩ := Option.map_eq_some_iff.mp hx'
      have zm : z ∈ callNames := List.mem_of_mem_take (List.mem_of_getElem? hz)
      have cl : cs.length ≤ 5 := by
        have := congrArg List.length hnm
        rw [List.length_map, List.length_take, List.length_take] at this
        have : callNames.length = 5 := rfl
        omega
      refine ⟨_, rfl, .inl ⟨rfl, _, SqL.of ca2⟩, _, rfl, _, rfl, _, rfl, by show 5 ≤ sizeLine; decide, fun q5 hq5 => ?_⟩
      have e3 := same_new (Same.refl H2) hq5 (o := .lst [.str "self", .str "new", .str "self", .str "new", .str "last"])
      refine ⟨s, c, q5, ns, _, rfl, h2.keep e3, hl, (h2.ne hq5).1, .inl (SqL.of upd_same), by decide, by decide, fun d5 v Ha hda ea ha => ?_⟩
      obtain ⟨hd, rfl, hhd⟩ : ∃ hd : Str, v = .str hd ∧ (hd = "self" ∨ hd = "new" ∨ hd = "last") := by
        have m := List.mem_of_getElem? hda
        simp only [List.mem_cons, List.not_mem_nil, or_false] at m
        rcases m with rfl | rfl | rfl | rfl | rfl
        · exact ⟨_, rfl, .inl rfl⟩
        · exact ⟨_, rfl, .inr (.inl rfl)⟩
        · exact ⟨_, rfl, .inl rfl⟩
        · exact ⟨_, rfl, .inr (.inl rfl)⟩
        · exact ⟨_, rfl, .inr (.inr rfl)⟩
      have e2a : SameX s H2 Ha := (same_sx e3).trans ea
      have e5a := e2.trans e2a
      have caa := e2a _ _ ca2 cas
      refine ⟨_, rfl, _, rfl, s, c, fa, ns, z, hd, d2 + 1, fvs, fs, rfl, ha, hl, ?_, al5.mono fun _ _ h => FdT.keep e5a.off h, by omega, by omega, fok.nd, by omega, by omega, (by decide +kernel : ∀ z ∈ callNames, wordB z = true) z zm, hhd, fun v cd Hb cn ch cdn cdok eb hb => ?_⟩
      · rw [off_ne fas]
        exact e5a _ _ fa5 fas
      have cab := eb _ _ caa cas
      have e2b := e2a.trans eb
      refine ⟨ca, cvs, v, rfl, rfl, cab, by rw [al.1]; exact Nat.lt_of_le_of_lt cl (by decide), ?_⟩
      have q4ca : q4 ≠ ca := Ne.symm ca4
      refine ⟨(e2.trans e2b).putN (noneX e6 cas hca), hb.put cas cac, (upd_ne q4ca).trans (e2b _ _ q42 q4s), cs ++ [cd], cvs ++ [v], upd_same, ?_, ?_, ?_, _, _, rfl⟩
      · rw [off_upd cas, off_put]
        exact (al.mono fun _ _ h => CdL.keep (same_off e2b.off) h).snoc (cdn.off (caa) ((off_ne cas).trans cab)).l
      · intro c' hc'
        rcases List.mem_append.mp hc' with h | h
        · exact cok c' h
        · rw [List.mem_singleton.mp h]
          exact cdok
      · rw [List.map_append, hnm, List.take_succ (i := i), hz, ← cn]
        rfl
    · rintro σ H2 ⟨e2, h2, q42, cs, cvs, ca2, al, cok, hnm, x6, x9, rfl⟩
      rw [List.length_map, List.take_length] at hnm
      have jl : (callNames.take (d4 + 1)).length = d4 + 1 := by
        rw [List.length_take]
        show min (d4 + 1) 5 = d4 + 1
        omega
      have cl : cs.length = d4 + 1 := by
        have := congrArg List.length hnm
        rw [List.length_map, jl] at this
        exact this
      refine ⟨_, rfl, .inl ⟨rfl, _, SqL.of ca2⟩, _, rfl, _, rfl, _, rfl, s, c, fa, ns, "build", "last", d2 + 1, fvs, fs, rfl, h2, hl, ?_, al5.mono fun _ _ h => FdT.keep e2.off h, by omega, by omega, fok.nd, by omega, by omega, by decide +kernel, .inr (.inr rfl), fun v cd Hb cn ch cdn cdok eb hb => ?_⟩
      · rw [off_ne fas]
        exact e2 _ _ fa5 fas
      have cab := eb _ _ ca2 cas
      refine ⟨ca, cvs, v, rfl, rfl, cab, by rw [al.1, cl]; exact Nat.lt_of_le_of_lt (by omega : _ ≤ 6) (by decide), ?_⟩
      have faca : fa ≠ ca := fun e => by
        have := noneX e6 cas hca
        rw [← e, fa5] at this
        cases this
      have e5b := e2.trans eb
      have e5c : SameX s H5 (upd Hb ca (.lst (cvs ++ [v]))) := e5b.putN (noneX e6 cas hca)
      have hc := hb.put (o := .lst (cvs ++ [v])) cas cac
      have hsc : upd Hb ca (.lst (cvs ++ [v])) s ≠ none := by
        obtain ⟨_, _, _, _, _, e⟩ := hc
        rw [e]
        exact nofun
      have alc : Al (CdL K (Off s (upd Hb ca (.lst (cvs ++ [v]))))) (cvs ++ [v]) (cs ++ [cd]) := by
        have : Al (CdL K (Off ca (Off s (upd Hb ca (.lst (cvs ++ [v])))))) (cvs ++ [v]) (cs ++ [cd]) := by
          rw [off_upd cas, off_put]
          exact (al.mono fun _ _ h => CdL.keep (same_off eb.off) h).snoc (cdn.off ca2 ((off_ne cas).trans cab)).l
        exact this.mono fun _ _ h => CdL.keep off_same h
      have nms : (cs ++ [cd]).map (·.nm) = callNames.take (d4 + 1) ++ (["build"] : List Str) := by
        rw [List.map_append, hnm, ← cn]
        rfl
      have kok : KdOk fs (d2 + 1) (cs ++ [cd]) := by
        refine ⟨fok, by omega, by omega, by rw [List.length_append]; exact Nat.le_add_left .., by rw [List.length_append, cl]; show d4 + 1 + 1 ≤ 6; omega, fun c' hc' => ?_, ?_⟩
        · rcases List.mem_append.mp hc' with h | h
          · exact cok c' h
          · rw [List.mem_singleton.mp h]
            exact cdok
        · rw [nms]
          exact ((by decide +kernel : (callNames ++ (["build"] : List Str)).Nodup)).sublist ((List.take_sublist _ _).append (List.Sublist.refl _))
      refine ⟨_, rfl, _, rfl, _, rfl, s, fa, ca, d2 + 1, fvs, cvs ++ [v], fs, cs ++ [cd], rfl, hsc, ?_, al5.mono fun _ _ h => FdT.keep e5c.off h, ?_, alc, kok, fun v' H' e' pa => ?_⟩
      · rw [off_ne fas]
        exact e5c _ _ fa5 fas
      · rw [off_ne cas, upd_same]
      · exact k v' H' fs (d2 + 1) (cs ++ [cd]) ((e5.trans e5c).trans (same_sx e')) (hc.keep e') kok (by omega) hfn (by omega) ⟨d4 + 1, by omega, nms⟩ ⟨cs, cd, rfl, ch⟩ pa
end
end MK

set_option Elab.async false
set_option linter.all false
set_option autoImplicit false
set_option maxRecDepth 100000
set_option maxHeartbeats 4000000
namespace MK
open PySem PySem.Spec PyProof.Rows L2
local macro_rules | `(tactic| walk_at "x") => `(tactic| dsimp only [tSeq, tAsg, tRet, tDrop, tLst, tTup, tCons, tOp, tUn, tIfS])
/-! ### _law_same -/
abbrev s_same : Stmt := topS 57
theorem sc_same : FnScope ["_law_found", "_law_due", "_law_a", "_law_b"] ["_law_found", "_law_due"] (defScope s_same) := ⟨rfl, rfl, rfl, by decide +kernel, rfl, by decide +kernel, by decide +kernel⟩
def spSame (K : PySem.W.Frag) (n : Nat) : Sp := fun vs H Q _ => ∃ x y, vs = [x, y] ∧ Sm K H n x y ∧ ∀ H', Same H H' → Q (.bl true) H'
section
variable {P : Program} {w : World} {K : PySem.W.Frag} {mg : Str → Option Value} {base : Heap}
theorem ty2 {P1 P2 : Prop} (a : P1) (b : P2) : P1 ∧ P2 := ⟨a, b⟩
theorem any2 {t a b : String} {r1 r2 : Bool} (h1 : kitB t a = some r1) (h2 : kitB t b = some r2) : PySem.W.kitAny K (.type t) [.type a, .type b] = some (r1 || r2) := by
  refine kitAny_cons (kit_ty h1) (fun e => ?_) (fun e => by rw [e]; rfl)
  refine kitAny_cons (kit_ty h2) (fun e2 => ?_) (fun e2 => by rw [e2, Bool.or_true])
  rw [e, e2]
  rfl
theorem any4 {t a b c d : String} (h1 : kitB t a = some false) (h2 : kitB t b = some false) (h3 : kitB t c = some false) (h4 : kitB t d = some false) : PySem.W.kitAny K (.type t) [.type a, .type b, .type c, .type d] = some false :=
  kitAny_cons (kit_ty h1) (fun _ => kitAny_cons (kit_ty h2) (fun _ => kitAny_cons (kit_ty h3) (fun _ => kitAny_cons (kit_ty h4) (fun _ => rfl) nofun) nofun) nofun) nofun
/-- what the last rows of it see of flat things -/
structure FlatT (K : PySem.W.Frag) (H : Hp) (x y : V) (t : String) : Prop where
  tx : TyX K H x (.type t)
  ty : TyX K H y (.type t)
  l : kitB t "list" = some false
  u : kitB t "tuple" = some false
  i : (kitB t "int" = some false ∧ kitB t "bool" = some false) ∨ (kitB t "int" = some true ∧ ∃ b, kitB t "bool" = some b)
  eq : ∀ H', Same H H' → ∀ Q : VK, Q (.bl true) H' → (rEq x y H' Q ∨ ∃ a b kvs, x = .ref a ∧ y = .ref b ∧ H' a = some (.dK kvs) ∧ H' b = some (.dK kvs) ∧ (kvs.map (·.1)).Nodup ∧ (∀ p ∈ kvs, flatB p.2 = true) ∧ Q (.bl true) H')
theorem eq_refl {x : V} {H : Hp} {Q : VK} (h : scal x x = true) (q : Q (.bl true) H) : rEq x x H Q := ⟨h, by rw [decide_eq_true rfl]; exact q⟩
theorem flat_t {H : Hp} {x y : V} (h : Flat H x y) : ∃ t, FlatT K H x y t := by
  rcases h with ⟨rfl, h⟩ | ⟨a, b, kvs, rfl, rfl, ha, hb, hd, hv⟩
  · rcases h with rfl | ⟨b, rfl⟩ | ⟨i, rfl⟩ | ⟨z, rfl⟩
    · exact ⟨"NoneType", .base .non, .base .non, by decide +kernel, by decide +kernel, .inl ⟨by decide +kernel, by decide +kernel⟩, fun H' _ Q q => .inl (eq_refl rfl q)⟩
    · exact ⟨"bool", .base (.bl b), .base (.bl b), by decide +kernel, by decide +kernel, .inr ⟨by decide +kernel, true, by decide +kernel⟩, fun H' _ Q q => .inl (eq_refl rfl q)⟩
    · exact ⟨"int", .base (.int i), .base (.int i), by decide +kernel, by decide +kernel, .inr ⟨by decide +kernel, false, by decide +kernel⟩, fun H' _ Q q => .inl (eq_refl rfl q)⟩
    · exact ⟨"str", .base (.str z), .base (.str z), by decide +kernel, by decide +kernel, .inl ⟨by decide +kernel, by decide +kernel⟩, fun H' _ Q q => .inl (eq_refl rfl q)⟩
  · exact ⟨"dict", .base (.dK ha), .base (.dK hb), by decide +kernel, by decide +kernel, .inl ⟨by decide +kernel, by decide +kernel⟩, fun H' e Q q => .inr ⟨a, b, kvs, rfl, rfl, e _ _ ha, e _ _ hb, hd, hv, q⟩⟩
theorem ok_same0 {f : Addr} {fd : FuncData} (F : DefX K mg "_law_same" s_same ["_law_found", "_law_due"] f fd) (T : Txt K mg) (n k : Nat) (sp' : Sp) (c_same : Cal P w K mg base CX0 k "_law_same" sp') (hk : k ≤ n) (hsp : ∀ m, n = m + 1 → sp' = spSame K m) :
    Cal P w K mg base CX0 (n + 1) "_law_same" (spSame K n) := by
  refine cal_mk F sc_same (fun vs H Q E h => ?_) (fun cdv A outer s H vs Q E hr h => ?_)
  · obtain ⟨x, y, rfl, _⟩ := h
    rfl
  · obtain ⟨x, y, rfl, h, q⟩ := h
    refine ⟨_, (pss_cons (ps_if (pt_val (pe_callB call_isiT (by rfl) T.isinstance (by decide +kernel) (pa_cons (pv 1) (pa_cons (pe_tup (pa_cons (pe_tyv (n := "list") (by rfl) T.list (by decide +kernel)) (pa_cons (pe_tyv (n := "tuple") (by rfl) T.tuple (by decide +kernel)) pa_nil))) pa_nil))))
(pss_cons (ps_if (pt_cut (PW.pt (pw_or (pt_cmpR op_ne (pe_callB call_isi (by rfl) T.isinstance (by decide +kernel) (pa_cons (pv 0) (pa_cons (pe_tyv (n := "list") (by rfl) T.list (by decide +kernel)) pa_nil))) (pe_callB call_isi (by rfl) T.isinstance (by decide +kernel) (pa_cons (pv 1) (pa_cons (pe_tyv (n := "list") (by rfl) T.list (by decide +kernel)) pa_nil))) (nomark _)) (pw_or1 (pt_cmpR op_ne (pe_callB call_isi (by rfl) T.isinstance (by decide +kernel) (pa_cons (pv 0) (pa_cons (pe_tyv (n := "tuple") (by rfl) T.tuple (by decide +kernel)) pa_nil))) (pe_callB call_isi (by rfl) T.isinstance (by decide +kernel) (pa_cons (pv 1) (pa_cons (pe_tyv (n := "tuple") (by rfl) T.tuple (by decide +kernel)) pa_nil))) (nomark _))))))
(pss_one (ps_ret pe_bl))
pss_nil)
(pss_one (ps_ret (pe_cut (pe_and (pe_cmpR op_eq (pe_callB call_len_seq (by rfl) T.len (by decide +kernel) (pa_cons (pv 0) pa_nil)) (pe_callB call_len_seq (by rfl) T.len (by decide +kernel) (pa_cons (pv 1) pa_nil)) (nomark _)) (pe_one (pe_callB (cr_all rfl) (by rfl) T.all (by decide +kernel) (pa_cons (pe_lc (own := [("_law_a", 2), ("_law_b", 3)]) (g := (gTup K 2 (gCons (gName 2) (gCons (gName 3) gNil)))) (tt := tYes) rfl sc_same.nd (RZ.pi_zipA (by rfl) T.zip (pa_cons (pv 0) (pa_cons (pv 1) pa_nil))) (blkOk_by (own := [("_law_a", 2), ("_law_b", 3)]) (N := ["_law_found", "_law_due", "_law_a", "_law_b"]) (sc := defScope s_same) (by decide +kernel)) (fun _ _ _ _ _ => (pg_tup (by rfl) (pgs_cons (pg_name (i := 2) sc_same.nd rfl (Or.inl rfl)) (pgs_cons (pg_name (i := 3) sc_same.nd rfl (Or.inl rfl)) pgs_nil)))) (fun _ _ _ _ _ => pts_nil) (fun _ _ _ _ _ => (pe_c c_same hr (by first | decide | assumption) rfl (pa_cons (pv 2) (pa_cons (pv 3) pa_nil))))) pa_nil))))))))
pss_nil)
(pss_cons (ps_if (pt_val (pe_callB call_isi (by rfl) T.isinstance (by decide +kernel) (pa_cons (pv 1) (pa_cons (pe_tyv (n := "int") (by rfl) T.int (by decide +kernel)) pa_nil))))
(pss_one (ps_ret (pe_cut (pe_and (pe_callB call_isi (by rfl) T.isinstance (by decide +kernel) (pa_cons (pv 0) (pa_cons (pe_tyv (n := "int") (by rfl) T.int (by decide +kernel)) pa_nil))) (pe_and (pe_cmpR op_eq (pe_callB call_isi (by rfl) T.isinstance (by decide +kernel) (pa_cons (pv 0) (pa_cons (pe_tyv (n := "bool") (by rfl) T.bool (by decide +kernel)) pa_nil))) (pe_callB call_isi (by rfl) T.isinstance (by decide +kernel) (pa_cons (pv 1) (pa_cons (pe_tyv (n := "bool") (by rfl) T.bool (by decide +kernel)) pa_nil))) (nomark _)) (pe_one (pe_cmpR (OpR.or op_eq (op_eq_dict hr.units0)) (pv 0) (pv 1) (nomark _))))))))
pss_nil)
(pss_one (ps_ret (pe_cut (pe_and (pe_cmpR op_is_bl (pe_callB call_isiT (by rfl) T.isinstance (by decide +kernel) (pa_cons (pv 0) (pa_cons (pe_tup (pa_cons (pe_tyv (n := "bool") (by rfl) T.bool (by decide +kernel)) (pa_cons (pe_tyv (n := "int") (by rfl) T.int (by decide +kernel)) (pa_cons (pe_tyv (n := "list") (by rfl) T.list (by decide +kernel)) (pa_cons (pe_tyv (n := "tuple") (by rfl) T.tuple (by decide +kernel)) pa_nil))))) pa_nil))) pe_bl (nomark _)) (pe_one (pe_cmpR (OpR.or op_eq (op_eq_dict hr.units0)) (pv 0) (pv 1) (nomark _))))))))), ?_⟩
    have spl : Flat H x y ∨ ∃ m, n = m + 1 ∧ ∃ a b xs ys, x = V.ref a ∧ y = V.ref b ∧ ((SqL K H a xs ∧ SqL K H b ys) ∨ (SqT K H a xs ∧ SqT K H b ys)) ∧ xs.length = ys.length ∧ xs.length < 100000 ∧ ∀ (i : Nat) x y, xs[i]? = some x → ys[i]? = some y → Sm K H m x y := by
      cases n with
      | zero => exact .inl h
      | succ m =>
        rcases h with h | h
        · exact .inl h
        · exact .inr ⟨m, rfl, h⟩
    refine ⟨_, rfl, by show 2 ≤ sizeLine; decide, fun p hp => ?_⟩
    have e1 : Same H (upd H p (.tup [.ty "list", .ty "tuple"])) := same_new (Same.refl H) hp
    rcases spl with hf | ⟨m, hn, a, b, xs, ys, rfl, rfl, hs, hl, hz, hi⟩
    · obtain ⟨t, ft⟩ := flat_t (K := K) hf
      refine ⟨_, p, _, _, _, false, rfl, upd_same, .cons (.ty _) (.cons (.ty _) .nil), tyx_keep e1 ft.ty, any2 ft.l ft.u, false, rfl, iteF ?_⟩
      rcases ft.i with ⟨hi, hb⟩ | ⟨hi, bb, hb⟩
      · refine ⟨_, rfl, _, _, _, _, false, rfl, .ty _, tyx_keep e1 ft.ty, kit_ty hi, false, rfl, iteF ?_⟩
        refine ⟨fun v H2 => v = .bl true ∧ Same H H2, ?_, fun v H2 e => by rw [e.1]; exact q _ e.2⟩
        refine ⟨_, rfl, by show 4 ≤ sizeLine; decide, fun p2 hp2 => ?_⟩
        have e2 := same_new e1 hp2 (o := .tup [.ty "bool", .ty "int", .ty "list", .ty "tuple"])
        refine ⟨_, p2, _, _, _, false, rfl, upd_same, .cons (.ty _) (.cons (.ty _) (.cons (.ty _) (.cons (.ty _) .nil))), tyx_keep e2 ft.tx, any4 hb hi ft.l ft.u, _, _, rfl, rfl, _, rfl, iteT ?_⟩
        exact ⟨_, rfl, _, rfl, ft.eq _ e2 _ ⟨rfl, e2⟩⟩
      · refine ⟨_, rfl, _, _, _, _, true, rfl, .ty _, tyx_keep e1 ft.ty, kit_ty hi, true, rfl, iteT ?_⟩
        refine ⟨fun v H2 => v = .bl true ∧ Same H H2, ?_, fun v H2 e => by rw [e.1]; exact q _ e.2⟩
        refine ⟨_, rfl, _, _, _, _, true, rfl, .ty _, tyx_keep e1 ft.tx, kit_ty hi, true, rfl, iteT ?_⟩
        refine ⟨_, rfl, _, _, _, _, bb, rfl, .ty _, tyx_keep e1 ft.tx, kit_ty hb, _, rfl, _, _, _, _, bb, rfl, .ty _, tyx_keep e1 ft.ty, kit_ty hb, rfl, _, rfl, ?_⟩
        rw [decide_eq_true rfl]
        exact iteT ⟨_, rfl, _, rfl, ft.eq _ e1 _ ⟨rfl, e1⟩⟩
    · have hsp := hsp m hn
      subst hsp
      obtain ⟨t, tx, ty, h1, bl, bu⟩ : ∃ t, TyX K H (.ref a) (.type t) ∧ TyX K H (.ref b) (.type t) ∧ (∀ r1 r2, kitB t "list" = some r1 → kitB t "tuple" = some r2 → (r1 || r2) = true) ∧ (∃ r1, kitB t "list" = some r1) ∧ ∃ r2, kitB t "tuple" = some r2 := by
        rcases hs with ⟨h1, h2⟩ | ⟨h1, h2⟩
        · refine ⟨"list", tyx_l h1, tyx_l h2, fun r1 r2 q1 q2 => ?_, ⟨true, by decide +kernel⟩, ⟨false, by decide +kernel⟩⟩
          have z : kitB "list" "list" = some true := by decide +kernel
          rw [z] at q1
          cases q1
          rfl
        · refine ⟨"tuple", tyx_t h1, tyx_t h2, fun r1 r2 q1 q2 => ?_, ⟨false, by decide +kernel⟩, ⟨true, by decide +kernel⟩⟩
          have z : kitB "tuple" "tuple" = some true := by decide +kernel
          rw [z] at q2
          cases q2
          rw [Bool.or_true]
      obtain ⟨r1, b1⟩ := bl
      obtain ⟨r2, b2⟩ := bu
      refine ⟨_, p, _, _, _, true, rfl, upd_same, .cons (.ty _) (.cons (.ty _) .nil), tyx_keep e1 ty, by rw [← h1 r1 r2 b1 b2]; exact any2 b1 b2, true, rfl, iteT ?_⟩
      -- of the same kinds
      refine ⟨fun t H2 => t = false ∧ H2 = upd H p (.tup [.ty "list", .ty "tuple"]), ?_, ?_⟩
      · refine ⟨_, rfl, _, _, _, _, r1, rfl, .ty _, tyx_keep e1 tx, kit_ty b1, _, rfl, _, _, _, _, r1, rfl, .ty _, tyx_keep e1 ty, kit_ty b1, rfl, _, rfl, ?_⟩
        rw [decide_eq_true rfl]
        refine iteF ?_
        refine ⟨_, rfl, _, _, _, _, r2, rfl, .ty _, tyx_keep e1 tx, kit_ty b2, _, rfl, _, _, _, _, r2, rfl, .ty _, tyx_keep e1 ty, kit_ty b2, rfl, _, rfl, ?_⟩
        rw [decide_eq_true rfl]
        exact ⟨rfl, rfl⟩
      rintro _ _ ⟨rfl, rfl⟩
      refine iteF ?_
      have hs1 : (SqL K (upd H p (.tup [.ty "list", .ty "tuple"])) a xs ∧ SqL K (upd H p (.tup [.ty "list", .ty "tuple"])) b ys) ∨ (SqT K (upd H p (.tup [.ty "list", .ty "tuple"])) a xs ∧ SqT K (upd H p (.tup [.ty "list", .ty "tuple"])) b ys) := by
        rcases hs with ⟨q1, q2⟩ | ⟨q1, q2⟩
        · exact .inl ⟨e1.seq q1, e1.seq q2⟩
        · exact .inr ⟨same_t e1 q1, same_t e1 q2⟩
      refine ⟨fun v H2 => v = .bl true ∧ Same H H2, ?_, fun v H2 e => by rw [e.1]; exact q _ e.2⟩
      refine ⟨_, rfl, a, xs, rfl, hs1.imp (·.1) (·.1), _, rfl, b, ys, rfl, hs1.imp (·.2) (·.2), rfl, _, rfl, ?_⟩
      rw [hl, decide_eq_true rfl]
      refine iteT ?_
      have kp : ∀ H2 : Hp, Same H H2 → (SqL K H2 a xs ∧ SqL K H2 b ys) ∨ (SqT K H2 a xs ∧ SqT K H2 b ys) := fun H2 e => by
        rcases hs with ⟨q1, q2⟩ | ⟨q1, q2⟩
        · exact .inl ⟨e.seq q1, e.seq q2⟩
        · exact .inr ⟨same_t e q1, same_t e q2⟩
      rcases hs with ⟨q1, q2⟩ | ⟨q1, q2⟩
      all_goals
        refine ⟨_, rfl, _, rfl, a, b, xs, ys, rfl, ?_⟩
        first
          | refine .inl ⟨e1.seq q1, e1.seq q2, fun D hD => lc_it (walk_zip (n := xs.length) (by omega)) (fun i H2 => Same H H2 ∧ H D = none ∧ H2 D = some (.lst (List.replicate i (.bl true)))) ⟨same_new e1 hD, (upd_none hD).2, upd_same⟩ (fun i H2 _ e => ⟨e.1.seq q1, e.1.seq q2⟩) ?_ ?_⟩
          | refine .inr ⟨same_t e1 q1, same_t e1 q2, fun D hD => lc_it (walk_zipT (n := xs.length) (by omega)) (fun i H2 => Same H H2 ∧ H D = none ∧ H2 D = some (.lst (List.replicate i (.bl true)))) ⟨same_new e1 hD, (upd_none hD).2, upd_same⟩ (fun i H2 _ e => ⟨same_t e.1 q1, same_t e.1 q2⟩) ?_ ?_⟩
        · rintro i v H2 H3 hlt ⟨e2, d0, d2⟩ ⟨U, x', y', rfl, hU, rfl, hx, hy⟩
          refine ⟨U, _, rfl, SqT.of upd_same, rfl, _, _, rfl, _, _, rfl, rfl, rfl, ?_⟩
          have e3 := same_new e2 hU (o := .tup [x', y'])
          have ud : U ≠ D := fun z => by rw [z, d2] at hU; cases hU
          refine ⟨_, rfl, _, rfl, x', y', rfl, (hi i x' y' hx hy).keep e3, fun H4 e4 => ⟨List.replicate i (.bl true), e4 _ _ ((upd_ne ud.symm).trans d2), by rw [List.length_replicate, sizeLine_eq]; omega, fun c o hc => ?_, d0, ?_⟩⟩
          · have dc : c ≠ D := fun z => by rw [z, d0] at hc; cases hc
            rw [upd_ne dc]
            exact e4 _ _ (e3 _ _ hc)
          · rw [upd_same, List.replicate_succ']
        · rintro H2 ⟨e2, d0, d2⟩
          refine ⟨D, List.replicate xs.length true, rfl, ?_, ?_, e2⟩
          · rw [List.map_replicate]
            exact SqL.of d2
          · simp
theorem ok_same {f : Addr} {fd : FuncData} (F : DefX K mg "_law_same" s_same ["_law_found", "_law_due"] f fd) (T : Txt K mg) : ∀ n : Nat, Cal P w K mg base CX0 (n + 1) "_law_same" (spSame K n)
  | 0 => ok_same0 F T 0 0 _ (cal_bot F) (Nat.le_refl _) (fun _ h => nomatch h)
  | n + 1 => ok_same0 F T (n + 1) (n + 1) _ (ok_same F T n) (Nat.le_refl _) (fun m h => by cases h; rfl)
end
end MK
set_option Elab.async false
set_option linter.all false
set_option autoImplicit false
set_option maxRecDepth 100000
set_option maxHeartbeats 4000000
namespace MK
open PySem PySem.Spec PyProof.Rows L2
local macro_rules | `(tactic| walk_at "x") => `(tactic| dsimp only [tSeq, tAsg, tRet, tDrop, tLst, tTup, tCons, tOp, tUn, tIfS])
/-! ### any data in the place of a field -/
def spListX (K : PySem.W.Frag) : Sp := fun vs H Q _ => ∃ v d, vs = [v] ∧ Sh K H v d ∧ ∀ H', Same H H' → Q (.bl (isSq d)) H'
def spIntX (K : PySem.W.Frag) : Sp := fun vs H Q _ => ∃ v d, vs = [v] ∧ Sh K H v d ∧ Q (.bl (isInt d)) H
def spModesX (K : PySem.W.Frag) : Sp := fun vs H Q _ => ∃ v d, vs = [v] ∧ Sh K H v d ∧ Q (.bl (modesB d)) H
def spFieldX (K : PySem.W.Frag) : Sp := fun vs H Q _ => ∃ v e d ys, vs = [v, .ref e] ∧ Sh K H v d ∧ FlatSort d ∧ SqL K H e (ys.map V.str) ∧ ∀ H', Same H H' → Q (.bl (fieldB ys d)) H'
theorem rd_word {K : PySem.W.Frag} {H : Hp} {v : V} {d : Dt} (Q : VK) (E : XK) (s : Sh K H v d) (q : ∀ H', Same H H' → Q (.bl (wordD d)) H') : spWord K [v] H Q E := by
  refine ⟨v, rfl, ?_⟩
  cases e : isStr d with
  | true =>
    cases d <;> simp only [isStr] at e <;> try cases e
    rename_i z
    obtain ⟨rfl, hz⟩ := s.str'
    exact .inl ⟨z, rfl, hz, q⟩
  | false =>
    obtain ⟨t, ty, ks, _⟩ := s.ty
    rw [e] at ks
    have hw : wordD d = false := by cases d <;> first | rfl | cases e
    refine .inr ⟨⟨t, ty, ks⟩, ?_⟩
    rw [← hw]
    exact q _ (Same.refl H)
theorem len_dec (n m : Nat) : decide (V.int (n : Int) = V.int (m : Int)) = decide (n = m) := decide_eq_decide.mpr ⟨fun e => by have := V.int.inj e; omega, fun e => by rw [e]⟩
theorem len_dec3 (n : Nat) : decide (V.int (n : Int) = V.int 3) = decide (n = 3) := len_dec n 3
theorem len_dec0 (n : Nat) : decide (V.int (n : Int) = V.int 0) = decide (n = 0) := len_dec n 0
theorem len_dec5 (n : Nat) : decide (V.int (n : Int) = V.int 5) = decide (n = 5) := len_dec n 5
theorem len_dec2 (n : Nat) : decide (V.int (n : Int) = V.int 2) = decide (n = 2) := len_dec n 2
theorem len3 {α : Type} {vs : List α} (h : vs.length = 3) : ∃ a b c, vs = [a, b, c] := by
  match vs, h with
  | [a, b, c], _ => exact ⟨a, b, c, rfl⟩
theorem len2 {α : Type} {vs : List α} (h : vs.length = 2) : ∃ a b, vs = [a, b] := by
  match vs, h with
  | [a, b], _ => exact ⟨a, b, rfl⟩
theorem fieldB_len {ys : List Str} {d : Dt} {xs : List Dt} (e : sqD d = some xs) (h : xs.length ≠ 3) : fieldB ys d = false := by
  unfold fieldB
  rw [e]
  split
  · rename_i h2
    cases h2
    exact absurd rfl h
  · rfl
theorem Sh.flat {K : PySem.W.Frag} {H : Hp} {v : V} {d : Dt} (s : Sh K H v d) (h : flatD d = true) : flatV v = true := by
  cases s <;> first | rfl | cases h
theorem sort_in {K : PySem.W.Frag} {H : Hp} {v : V} {d : Dt} (s : Sh K H v d) : inV v [.str "one", .str "many"] = sortD d := by
  cases s <;> first | rfl | skip
  rename_i z _
  rw [show ([.str "one", .str "many"] : List V) = (["one", "many"] : List Str).map V.str from rfl, inV_strs]
  show _ = (decide (z = "one") || decide (z = "many"))
  rw [Bool.eq_iff_iff]
  simp
section
variable {P : Program} {w : World} {K : PySem.W.Frag} {mg : Str → Option Value} {base : Heap} {C : Cst}
theorem ok_listX {f : Addr} {fd : FuncData} (F : DefX K mg "is_list" s_is_list ["thing"] f fd) (T : Txt K mg) : Cal P w K mg base CX0 1 "is_list" (spListX K) := by
  refine cal_mk F sc_is_list (fun vs H Q E h => ?_) (fun cdv A outer sh H vs Q E hr h => ?_)
  · obtain ⟨v, d, rfl, _⟩ := h
    rfl
  · obtain ⟨v, d, rfl, s, q⟩ := h
    refine ⟨_, (pss_one (ps_ret (pe_callB call_isiT (by rfl) T.isinstance (by decide +kernel) (pa_cons (pv 0) (pa_cons (pe_tup (pa_cons (pe_tyv (n := "list") (by rfl) T.list (by decide +kernel)) (pa_cons (pe_tyv (n := "tuple") (by rfl) T.tuple (by decide +kernel)) pa_nil))) pa_nil))))), ?_⟩
    obtain ⟨t, ty, _, _, _, kl, kt⟩ := s.ty
    refine ⟨_, rfl, by show 2 ≤ sizeLine; decide, fun p hp => ?_⟩
    have e1 : Same H (upd H p (.tup [.ty "list", .ty "tuple"])) := same_new (Same.refl H) hp
    exact ⟨_, p, _, _, _, isSq d, rfl, upd_same, .cons (.ty _) (.cons (.ty _) .nil), tyx_keep e1 ty, any2 kl kt, q _ e1⟩
theorem ok_integerX {f : Addr} {fd : FuncData} (F : DefX K mg "is_integer" s_is_integer ["thing"] f fd) (T : Txt K mg) : Cal P w K mg base CX0 1 "is_integer" (spIntX K) := by
  refine cal_mk F sc_is_integer (fun vs H Q E h => ?_) (fun cdv A outer sh H vs Q E hr h => ?_)
  · obtain ⟨v, d, rfl, _⟩ := h
    rfl
  · obtain ⟨v, d, rfl, s, q⟩ := h
    refine ⟨_, (pss_one (ps_ret (pe_cut (pe_and (pe_callB call_isi (by rfl) T.isinstance (by decide +kernel) (pa_cons (pv 0) (pa_cons (pe_tyv (n := "int") (by rfl) T.int (by decide +kernel)) pa_nil))) (pe_one (pe_not (pe_callB call_isi (by rfl) T.isinstance (by decide +kernel) (pa_cons (pv 0) (pa_cons (pe_tyv (n := "bool") (by rfl) T.bool (by decide +kernel)) pa_nil))))))))), ?_⟩
    refine ⟨fun v H2 => v = .bl (isInt d) ∧ H2 = H, ?_, fun v H2 e => by rw [e.1, e.2]; exact q⟩
    obtain ⟨t, ty, _, ki, kb, _⟩ := s.ty
    refine ⟨_, rfl, _, _, _, _, isInt d || isBl d, rfl, .ty _, ty, kit_ty ki, _, rfl, ite2 (fun h1 => ?_) (fun h1 => ?_)⟩
    · refine ⟨_, rfl, _, _, _, _, isBl d, rfl, .ty _, ty, kit_ty kb, _, rfl, ?_, rfl⟩
      cases d <;> first | rfl | cases h1
    · refine ⟨?_, rfl⟩
      cases d <;> first | rfl | exact absurd rfl h1
theorem ok_modesX {f : Addr} {fd : FuncData} (F : DefX K mg "is_modes" s_is_modes ["modes"] f fd) (T : Txt K mg) (Cs : Csts K w mg C) (c_is_integer : Cal P w K mg base CX0 1 "is_integer" (spIntX K)) : Cal P w K mg base CX0 2 "is_modes" (spModesX K) := by
  refine cal_mk F sc_is_modes (fun vs H Q E h => ?_) (fun cdv A outer sh H vs Q E hr h => ?_)
  · obtain ⟨v, d, rfl, _⟩ := h
    rfl
  · obtain ⟨v, d, rfl, s, q⟩ := h
    refine ⟨_, (pss_one (ps_ret (pe_cut (pe_and (pe_c c_is_integer hr (by first | decide | assumption) rfl (pa_cons (pv 0) pa_nil)) (pe_one (pe_chain op_le op_le pe_int (pv 0) (pe_cst rfl Cs.MOST_MODES))))))), ?_⟩
    refine ⟨fun v H2 => v = .bl (modesB d) ∧ H2 = H, ?_, fun v H2 e => by rw [e.1, e.2]; exact q⟩
    refine ⟨_, rfl, v, d, rfl, s, _, rfl, ite2 (fun h1 => ?_) (fun h1 => ?_)⟩
    · cases d <;> simp only [isInt] at h1 <;> try cases h1
      rename_i i
      obtain rfl := s.int'
      refine ⟨_, rfl, _, _, rfl, rfl, _, rfl, ite2 (fun h1 => ?_) (fun h1 => ?_)⟩
      · refine ⟨_, _, rfl, rfl, ?_, rfl⟩
        show V.bl _ = V.bl (decide (1 ≤ i) && decide (i ≤ 4))
        rw [h1, Bool.true_and]
      · refine ⟨?_, rfl⟩
        rw [Bool.not_eq_true] at h1
        show V.bl _ = V.bl (decide (1 ≤ i) && decide (i ≤ 4))
        rw [h1, Bool.false_and]
    · refine ⟨?_, rfl⟩
      cases d <;> first | rfl | exact absurd rfl h1
theorem ok_fieldX {f : Addr} {fd : FuncData} (F : DefX K mg "is_field" s_is_field ["item", "earlier"] f fd) (T : Txt K mg) (Cs : Csts K w mg C) (c_is_list : Cal P w K mg base CX0 1 "is_list" (spListX K)) (c_is_word : Cal P w K mg base CX0 1 "is_word" (spWord K)) : Cal P w K mg base CX0 2 "is_field" (spFieldX K) := by
  refine cal_mk F sc_is_field (fun vs H Q E h => ?_) (fun cdv A outer sh H vs Q E hr h => ?_)
  · obtain ⟨v, e, d, ys, rfl, _⟩ := h
    rfl
  · obtain ⟨v, e, d, ys, rfl, s, flat, he, q⟩ := h
    refine ⟨_, (pss_cons (ps_if (pt_cut (PW.pt (pw_or (pt_not (pt_val (pe_c c_is_list hr (by first | decide | assumption) rfl (pa_cons (pv 0) pa_nil)))) (pw_or1 (pt_cmpR op_ne (pe_callB call_len_seq (by rfl) T.len (by decide +kernel) (pa_cons (pv 0) pa_nil)) pe_int (nomark _))))))
(pss_one (ps_ret pe_bl))
pss_nil)
(pss_cons (ps_asg (pv 0) (pg_sq (by rfl) (pgs_cons (pg_name (i := 2) sc_is_field.nd rfl (Or.inl rfl)) (pgs_cons (pg_name (i := 3) sc_is_field.nd rfl (Or.inl rfl)) (pgs_cons (pg_name (i := 4) sc_is_field.nd rfl (Or.inl rfl)) pgs_nil)))))
(pss_one (ps_ret (pe_cut (pe_and (pe_c c_is_word hr (by first | decide | assumption) rfl (pa_cons (pv 2) pa_nil)) (pe_and (pe_cmpR op_notIn_seq (pv 2) (pv 1) (by rfl)) (pe_and (pe_cmpR op_in_seq (pv 3) (pe_cst rfl Cs.SORTS) (by rfl)) (pe_one (pe_callB call_isi (by rfl) T.isinstance (by decide +kernel) (pa_cons (pv 4) (pa_cons (pe_tyv (n := "bool") (by rfl) T.bool (by decide +kernel)) pa_nil)))))))))))), ?_⟩
    cases hq : sqD d with
    | none =>
      have h0 : isSq d = false := by rw [isSq_iff, hq]; rfl
      have hf : fieldB ys d = false := by unfold fieldB; rw [hq]
      refine ⟨fun t H' => t = true ∧ Same H H', ⟨_, rfl, v, d, rfl, s, fun H1 e1 => ⟨false, congrArg V.bl h0, iteT ⟨rfl, e1⟩⟩⟩, ?_⟩
      rintro _ H1 ⟨rfl, e1⟩
      refine iteT ?_
      rw [← hf]
      exact q _ e1
    | some xs =>
      have h0 : isSq d = true := by rw [isSq_iff, hq]; rfl
      obtain ⟨vs, ⟨a, rfl, hs⟩, al, few⟩ := s.sq hq
      refine ⟨fun t H' => t = !decide (xs.length = 3) ∧ Same H H', ⟨_, rfl, .ref a, d, rfl, s, fun H1 e1 => ⟨true, congrArg V.bl h0, iteF ?_⟩⟩, ?_⟩
      · refine ⟨_, rfl, a, _, rfl, sq_at e1 hs, rfl, _, rfl, ?_, e1⟩
        rw [al.1, len_dec3]
      rintro _ H1 ⟨rfl, e1⟩
      refine ite2 (fun h1 => ?_) (fun h1 => ?_)
      · rw [Bool.not_eq_true', decide_eq_false_iff_not] at h1
        rw [← fieldB_len (ys := ys) hq h1]
        exact q _ e1
      · rw [Bool.not_eq_true', Bool.not_eq_false, decide_eq_true_iff] at h1
        obtain ⟨n, so, b, rfl⟩ := len3 h1
        obtain ⟨vn, vso, vb, rfl⟩ := len3 al.1
        have s0 := al.2 0 vn n rfl rfl
        have s1 := al.2 1 vso so rfl rfl
        have s2 := al.2 2 vb b rfl rfl
        have hfb : fieldB ys d = (wordD n && (!inNm ys n && (sortD so && isBl b))) := by unfold fieldB; rw [hq]
        refine ⟨_, rfl, _, ⟨a, rfl, sq_at e1 hs⟩, rfl, _, _, rfl, _, _, rfl, _, _, rfl, rfl, ?_⟩
        refine ⟨fun v H2 => v = .bl (fieldB ys d) ∧ Same H H2, ?_, fun v H2 e => by rw [e.1]; exact q _ e.2⟩
        have w0 := fun Q E => rd_word (K := K) (H := H1) (v := vn) (d := n) Q E (s0.keep e1)
        refine ⟨_, rfl, ?_⟩
        dsimp only [tNil, List.append_nil]
        refine w0 _ _ fun H2 e2 => ⟨_, rfl, ite2 (fun hw => ?_) (fun hw => ?_)⟩
        · have e02 := e1.trans e2
          cases n <;> simp only [wordD] at hw <;> try cases hw
          rename_i z
          obtain ⟨rfl, _⟩ := s0.str'
          refine ⟨_, rfl, _, rfl, e, _, rfl, .inl (e02.seq he), rfl, flat_strs _, ?_⟩
          rw [inV_strs]
          refine ⟨_, rfl, ite2 (fun hi => ?_) (fun hi => ?_)⟩
          · refine ⟨_, rfl, C.sorts, _, rfl, .inr (Cs.t_sorts _), s1.flat (flat _ _ _ hq), rfl, _, rfl, ite2 (fun hso => ?_) (fun hso => ?_)⟩
            · obtain ⟨t, ty, _, _, kb, _⟩ := (s2.keep e02).ty
              refine ⟨_, rfl, _, _, _, _, isBl b, rfl, .ty _, ty, kit_ty kb, ?_, e02⟩
              rw [sort_in s1] at hso
              have hso : sortD so = true := hso
              have hi : (!decide (z ∈ ys)) = true := hi
              rw [hfb, hso]
              show _ = V.bl (wordB z && (!decide (z ∈ ys) && _))
              rw [hw, hi]
              rfl
            · refine ⟨?_, e02⟩
              rw [sort_in s1] at hso
              have hso : ¬ sortD so = true := hso
              rw [Bool.not_eq_true] at hso
              rw [hfb, hso, Bool.false_and, Bool.and_false, Bool.and_false]
          · refine ⟨?_, e02⟩
            have hi : (!decide (z ∈ ys)) = false := Bool.eq_false_iff.mpr hi
            rw [hfb]
            show _ = V.bl (wordB z && (!decide (z ∈ ys) && _))
            rw [hi, Bool.false_and, Bool.and_false]
        · refine ⟨?_, e1.trans e2⟩
          rw [Bool.not_eq_true] at hw
          rw [hfb, hw, Bool.false_and]
end
end MK
set_option Elab.async false
set_option linter.all false
set_option autoImplicit false
set_option maxRecDepth 100000
set_option maxHeartbeats 4000000
namespace MK
open PySem PySem.Spec PyProof.Rows L2
local macro_rules | `(tactic| walk_at "x") => `(tactic| dsimp only [tSeq, tAsg, tRet, tDrop, tLst, tTup, tCons, tOp, tUn, tIfS])
/-! ### no fields: the error that is due -/
def spFieldsX (K : PySem.W.Frag) (CF : Addr) : Sp := fun vs H Q E => ∃ (v : V) (d : Dt) (i : Nat), vs = [v] ∧ Sh K H v d ∧ (((sqD d = none ∨ sqD d = some []) ∧ i = 0) ∨ ∃ ds fs, sqD d = some ds ∧ (∀ x ∈ ds, FlatSort x) ∧ BadF ds i fs) ∧
  ∀ dd H', Same H H' → H dd = none → H' dd = some (.xd [("index", .int i)]) → E (.ref CF) (some dd) H'
section
variable {P : Program} {w : World} {K : PySem.W.Frag} {mg : Str → Option Value} {base : Heap} {C : Cst} {CF : Addr}
theorem ok_fieldsX {f : Addr} {fd : FuncData} (F : DefX K mg "kept_fields" s_kept_fields ["fields"] f fd) (T : Txt K mg) (Cs : Csts K w mg C) (c_is_list : Cal P w K mg base CX0 1 "is_list" (spListX K)) (c_is_field : Cal P w K mg base CX0 2 "is_field" (spFieldX K))
    (r_Field : RaiseC P w K mg base 1 "BadField" CF (spErr1 CF "index")) : Cal P w K mg base (L2.CX P w) 3 "kept_fields" (spFieldsX K CF) := by
  refine cal_mkX F sc_kept_fields (fun vs H Q E h => ?_) (fun cdv A outer sh H vs Q E hr h => ?_)
  · obtain ⟨v, d, i, rfl, _⟩ := h
    rfl
  · obtain ⟨v, d, j, rfl, s, hd, hE⟩ := h
    refine ⟨_, (pss_cons (ps_if (pt_cut (PW.pt (pw_or (pt_not (pt_val (pe_c c_is_list hr (by first | decide | assumption) rfl (pa_cons (pv 0) pa_nil)))) (pw_or1 (pt_cmpR op_eq (pe_callB call_len_seq (by rfl) T.len (by decide +kernel) (pa_cons (pv 0) pa_nil)) pe_int (nomark _))))))
(pss_one (ps_raiseC r_Field rfl (takes_of rfl rfl rfl rfl) hr (by decide) rfl (pa_cons pe_int pa_nil)))
pss_nil)
(pss_cons (ps_set (i := 1) sc_kept_fields.nd rfl (Or.inl rfl) (pe_lst pa_nil))
(pss_cons (ps_for PassesOwn.leaving rfl (pi_enV (by rfl) T.enumerate (pa_cons (pv 0) pa_nil)) (pg_tup (by rfl) (pgs_cons (pg_name (i := 2) sc_kept_fields.nd rfl (Or.inl rfl)) (pgs_cons (pg_name (i := 3) sc_kept_fields.nd rfl (Or.inl rfl)) pgs_nil)))
(pss_cons (ps_setLc (i := 5) (own := [("field", 4)]) (g := (gName 4)) (tt := tYes) rfl sc_kept_fields.nd rfl rfl (sw_true rfl rfl rfl (by decide +kernel)) (pi_list (pv 1)) (blkOk_by (own := [("field", 4)]) (N := ["fields", "kept", "index", "item", "field", "earlier"]) (sc := defScope s_kept_fields) (by decide +kernel)) (fun _ _ _ _ _ => (pg_name (i := 4) sc_kept_fields.nd rfl (Or.inl rfl))) (fun _ _ _ _ _ => pts_nil) (fun _ _ _ _ _ => (pe_ix (ix_tupK (K := K) rfl) (pv 4) pe_int (fun _ _ => rfl))))
(pss_cons (ps_if (pt_cut (PW.pt (pw_or (pt_cmpR op_ge (pv 2) (pe_cst rfl Cs.MOST_FIELDS) (nomark _)) (pw_or1 (pt_not (pt_val (pe_c c_is_field hr (by first | decide | assumption) rfl (pa_cons (pv 3) (pa_cons (pv 5) pa_nil)))))))))
(pss_one (ps_raiseC r_Field rfl (takes_of rfl rfl rfl rfl) hr (by decide) rfl (pa_cons (pv 2) pa_nil)))
pss_nil)
(pss_one (ps_expr (pe_bm PySem.F.plainAttrs_list PySem.F.slot_list_append PySem.F.type_list_append mt_append (pv 1) (pa_cons (pe_callTy call_tuple_of (by rfl) T.tuple (by decide +kernel) (pa_cons (pv 3) pa_nil)) pa_nil)))))))
(pss_one (ps_ret (pe_callTy call_tuple_of (by rfl) T.tuple (by decide +kernel) (pa_cons (pv 1) pa_nil))))))), ?_⟩
    rcases hd with ⟨hd, rfl⟩ | ⟨ds, fs, hd, hflat, pre, d', hd', hbad⟩
    · -- no list, or none in it
      refine ⟨fun t H' => t = true ∧ Same H H', ?_, ?_⟩
      · rcases hd with hd | hd
        · exact ⟨_, rfl, v, d, rfl, s, fun H1 e1 => ⟨false, congrArg V.bl (by rw [isSq_iff, hd]; rfl), iteT ⟨rfl, e1⟩⟩⟩
        · obtain ⟨vs, ⟨a, rfl, hs⟩, al, few⟩ := s.sq hd
          refine ⟨_, rfl, .ref a, d, rfl, s, fun H1 e1 => ⟨true, congrArg V.bl (by rw [isSq_iff, hd]; rfl), iteF ?_⟩⟩
          refine ⟨_, rfl, a, _, rfl, sq_at e1 hs, rfl, _, rfl, ?_, e1⟩
          rw [al.1]
          rfl
      · rintro _ H1 ⟨rfl, e1⟩
        exact iteT (rd_raise1 (fun R hR => hR) fun d2 H2 e2 h2 hx => hE d2 H2 (e1.trans e2) (none_of e1 h2) hx)
    · obtain ⟨vs, ⟨a, rfl, hv0⟩, hal, few⟩ := s.sq hd
      have jl := (List.getElem?_eq_some_iff.mp hd').1
      refine ⟨fun t H' => t = false ∧ Same H H', ⟨_, rfl, .ref a, d, rfl, s, fun H1 e1 => ⟨true, congrArg V.bl (by rw [isSq_iff, hd]; rfl), iteF ?_⟩⟩, ?_⟩
      · refine ⟨_, rfl, a, _, rfl, sq_at e1 hv0, rfl, _, rfl, ?_, e1⟩
        rw [hal.1, len_dec0]
        exact decide_eq_false (by omega)
      rintro _ H1 ⟨rfl, e1⟩
      refine iteF ?_
      refine ⟨by show 0 ≤ sizeLine; decide, fun D hD => ?_⟩
      have hD0 := none_of e1 hD
      refine ⟨_, rfl, a, vs, H, rfl, hv0, same_new e1 hD, fun J G wk hG => ?_⟩
      refine for_it wk (fun i σ H2 => i ≤ j ∧ Same H H2 ∧ ∃ kvs : List V, H2 D = some (.lst kvs) ∧ Al (FdT K (Off D H2)) kvs (fs.take i) ∧ ∃ x2 x3 x4 x5, σ = [some (.ref a), some (.ref D), x2, x3, x4, x5])
        ⟨Nat.zero_le _, same_new e1 hD, [], upd_same, Al.nil, none, none, none, none, rfl⟩ (fun i σ H2 _ h => hG _ h.2.1) ?_ ?_
      · rintro i x σ H2 H3 hi ⟨ij, e2, kvs, d2, al, x2, x3, x4, x5, rfl⟩ ⟨U, _, y, rfl, hU, rfl, h1, hy⟩
        obtain rfl := Option.some.inj h1
        obtain ⟨g, hg, sg⟩ := hal.get hy
        have e3 : Same H2 (upd H2 U (.tup [.int (i : Nat), y])) := same_new (Same.refl H2) hU
        refine ⟨U, _, rfl, SqT.of upd_same, rfl, _, _, rfl, _, _, rfl, rfl, ?_⟩
        refine ⟨_, rfl, D, rfl, ⟨_, SqL.of (e3 _ _ d2)⟩, fun D2 hD2 => ?_⟩
        have fl := pre.len
        have f3 := pre.le
        refine lc_list (K := K) (a := D) (xs := kvs) (fun j H4 => Same H2 H4 ∧ H4 D2 = some (.lst ((((fs.take i).take j).map (·.nm)).map V.str))) ⟨same_new e3 hD2, upd_same⟩ (fun j H4 _ h => SqL.of (h.1 _ _ d2)) ?_ ?_
        · rintro j v H4 hv4 ⟨e4, d4⟩
          obtain ⟨g, hg, u, rfl, hu⟩ := al.get hv4
          have hu4 : SqT K H4 u (FdV g) := same_t (off_same.trans e4) hu
          refine ⟨rfl, ?_⟩
          refine ⟨_, rfl, u, _, 0, .str g.nm, rfl, rfl, hu4, rfl, _, d4, ?_, fun b o hb => ?_, ?_⟩
          · rw [List.length_map, List.length_map, List.length_take, List.length_take]
            exact Nat.lt_of_le_of_lt (by omega : _ ≤ 3) (by decide)
          · rw [upd_ne (ne_of_none (e3 _ _ hb) hD2)]
            exact e4 _ _ hb
          · rw [upd_same, List.take_succ (i := j), hg]
            simp
        rintro H4 ⟨e4, d4⟩
        rw [show kvs.length = (fs.take i).length from al.1, List.take_length] at d4
        have e24 := e2.trans e4
        have flat := hflat g (List.mem_of_getElem? hg)
        by_cases q : i = j
        · -- the one that is none
          subst q
          rw [hd'] at hg
          cases hg
          refine ⟨fun t H' => t = true ∧ Same H4 H', ?_, ?_⟩
          · rcases hbad with h3 | hb
            · exact ⟨_, rfl, _, _, rfl, rfl, _, rfl, iteA (decide_eq_true (by omega)) ⟨rfl, Same.refl H4⟩⟩
            · refine ⟨_, rfl, _, _, rfl, rfl, _, rfl, ite2 (fun _ => ⟨rfl, Same.refl H4⟩) (fun _ => ?_)⟩
              refine ⟨_, rfl, _, rfl, y, D2, _, (fs.take i).map (·.nm), rfl, sg.keep e24, flat, SqL.of d4, fun H5 e5 => ⟨false, congrArg V.bl ?_, rfl, e5⟩⟩
              rw [List.take_of_length_le (by omega)]
              exact hb
          · rintro _ H5 ⟨rfl, e5⟩
            exact iteT (rd_raise1 (fun R hR => ⟨_, rfl, hR⟩) fun d2 H6 e6 h6 hx => hE d2 H6 ((e24.trans e5).trans e6) (none_of (e24.trans e5) h6) hx)
        · have ilt : i < j := by omega
          obtain ⟨f, hf⟩ : ∃ f, fs[i]? = some f := ⟨_, List.getElem?_eq_getElem (by omega)⟩
          have hfd := pre.all i g f hg hf
          have hfa : FdA K H y f := hfd.a sg
          refine ⟨fun t H' => t = false ∧ Same H4 H', ⟨_, rfl, _, _, rfl, rfl, _, rfl, iteB (decide_eq_false (by omega)) ?_⟩, ?_⟩
          · refine ⟨_, rfl, _, rfl, y, D2, _, (fs.take i).map (·.nm), rfl, sg.keep e24, flat, SqL.of d4, fun H5 e5 => ⟨true, congrArg V.bl (fieldB_of hfd ?_), rfl, e5⟩⟩
            rw [List.map_take]
            exact nm_new pre.nd (by rw [List.getElem?_map, hf]; rfl)
          rintro _ H5 ⟨rfl, e5⟩
          refine iteF ?_
          have e25 := e24.trans e5
          have d5 := (e4.trans e5) _ _ d2
          have kl : kvs.length < sizeLine := by
            rw [al.1, List.length_take]
            exact Nat.lt_of_le_of_lt (by omega : _ ≤ 3) (by decide)
          have tk : fs.take (i + 1) = fs.take i ++ [f] := by
            rw [List.take_succ, hf]
            rfl
          have fin : ∀ v H6, Same H5 H6 → FdT K (Off D H6) v f → Same H (upd H6 D (.lst (kvs ++ [v]))) ∧ upd H6 D (.lst (kvs ++ [v])) D = some (.lst (kvs ++ [v])) ∧ Al (FdT K (Off D (upd H6 D (.lst (kvs ++ [v]))))) (kvs ++ [v]) (fs.take (i + 1)) := fun v H6 e6 hf6 => by
            refine ⟨fun b o hb => ?_, upd_same, ?_⟩
            · rw [upd_ne (ne_of_none hb hD0)]
              exact e6 _ _ (e25 _ _ hb)
            · rw [off_put, tk]
              exact (al.mono fun _ _ h => FdT.keep (same_off (e4.trans (e5.trans e6))) h).snoc hf6
          refine ⟨_, rfl, .inl ⟨rfl, _, SqL.of d5⟩, _, rfl, ?_⟩
          obtain ⟨b, rfl, hb⟩ := hfa
          rcases hb with hb | hb
          · refine ⟨b, _, rfl, .inl ⟨e25.seq hb, fun l hl => ?_⟩⟩
            have lD : l ≠ D := fun e => by rw [e, d5] at hl; cases hl
            obtain ⟨p1, p2, p3⟩ := fin (.ref l) (upd H5 l (.tup (FdV f))) (same_new (Same.refl H5) hl) (Tu.tup (by rw [off_ne lD, upd_same]))
            exact ⟨D, kvs, _, rfl, rfl, (upd_ne (Ne.symm lD)).trans d5, kl, by omega, p1, _, p2, p3, _, _, _, _, rfl⟩
          · obtain ⟨p1, p2, p3⟩ := fin (.ref b) H5 (Same.refl H5) ⟨b, rfl, same_t (same_offN e25 hD0) hb⟩
            exact ⟨b, _, rfl, .inr ⟨same_t e25 hb, ⟨D, kvs, _, rfl, rfl, d5, kl, by omega, p1, _, p2, p3, _, _, _, _, rfl⟩⟩⟩
      · rintro σ H2 ⟨ij, _⟩
        have := hal.1
        omega
end
end MK
set_option Elab.async false
set_option linter.all false
set_option autoImplicit false
set_option maxRecDepth 100000
set_option maxHeartbeats 4000000
namespace MK
open PySem PySem.Spec PyProof.Rows L2
local macro_rules | `(tactic| walk_at "x") => `(tactic| dsimp only [tSeq, tAsg, tRet, tDrop, tLst, tTup, tCons, tOp, tUn, tIfS])
/-! ### any data in the place of moves, deeds, same -/
theorem sort_many (b : Bool) : decide (V.str (sortS b) = V.str "many") = b := by
  cases b
  · exact decide_eq_false fun e => absurd (V.str.inj e) (by decide)
  · exact decide_eq_true rfl
theorem call_len {d : Dt} {xs : List Dt} (e : sqD d = some xs) (h : xs.length ≠ 5) : callD d = none := by
  unfold callD
  rw [e]
  split
  · rename_i h2
    cases h2
    exact absurd rfl h
  · rfl
theorem call_form {d n h m e s : Dt} (q : sqD d = some [n, h, m, e, s]) : (callD d).isSome = (isStr n && (isStr h && (isSq m && (isSq e && isSq s)))) := by
  unfold callD
  rw [q, isSq_iff, isSq_iff, isSq_iff]
  cases n <;> try rfl
  cases h <;> try rfl
  dsimp only [isStr]
  cases sqD m <;> try rfl
  cases sqD e <;> try rfl
  cases sqD s <;> rfl
theorem sod_none {z : Str} (h : sodOf z = none) (b : Bool) : decide (b ∈ deedSorts z) = false := by
  unfold sodOf at h
  unfold deedSorts
  split at h; · cases h
  rw [if_neg (by assumption)]
  split at h; · cases h
  rw [if_neg (by assumption)]
  split at h; · cases h
  rw [if_neg (by assumption)]
  split at h; · cases h
  rw [if_neg (by assumption)]
  split at h; · cases h
  rw [if_neg (by assumption)]
  rfl
theorem sod_dec {z : Str} {l : List Str} (h : sodOf z = some l) (b : Bool) : decide (sortS b ∈ l) = decide (b ∈ deedSorts z) := by
  unfold sodOf at h
  unfold deedSorts
  split at h
  · rw [if_pos (by assumption)]
    cases h
    cases b <;> decide
  rw [if_neg (by assumption)]
  split at h
  · rw [if_pos (by assumption)]
    cases h
    cases b <;> decide
  rw [if_neg (by assumption)]
  split at h
  · rw [if_pos (by assumption)]
    cases h
    cases b <;> decide
  rw [if_neg (by assumption)]
  split at h
  · rw [if_pos (by assumption)]
    cases h
    cases b <;> decide
  rw [if_neg (by assumption)]
  split at h
  · rw [if_pos (by assumption)]
    cases h
    cases b <;> decide
  · cases h
def spCallFormX (K : PySem.W.Frag) : Sp := fun vs H Q _ => ∃ v d, vs = [v] ∧ Sh K H v d ∧ ∀ H', Same H H' → Q (.bl (callD d).isSome) H'
def spMovesX (K : PySem.W.Frag) : Sp := fun vs H Q _ => ∃ (v : V) (n : Nat) (mvs : List V) (ms : List Dt), vs = [v, .int n] ∧ Sq K H v mvs ∧ Al (Sh K H) mvs ms ∧ mvs.length < 1000 ∧ ∀ H', Same H H' → Q (.bl (movesB n ms)) H'
def spManyX (K : PySem.W.Frag) : Sp := fun vs H Q _ => ∃ (v : V) (so : Addr) (fs : List FD) (d : Dt), vs = [v, .ref so] ∧ Sh K H v d ∧ H so = some (.dK (sortsV fs)) ∧ (fs.map (·.nm)).Nodup ∧ Q (.bl (manyB fs d)) H
def spDeedX (K : PySem.W.Frag) : Sp := fun vs H Q _ => ∃ (v : V) (so : Addr) (fs : List FD) (d : Dt), vs = [v, .ref so] ∧ Sh K H v d ∧ H so = some (.dK (sortsV fs)) ∧ (fs.map (·.nm)).Nodup ∧ ∀ H', Same H H' → Q (.bl (deedB fs d)) H'
section
variable {P : Program} {w : World} {K : PySem.W.Frag} {mg : Str → Option Value} {base : Heap} {C : Cst}
theorem ok_callFormX {f : Addr} {fd : FuncData} (F : DefX K mg "has_call_form" s_has_call_form ["item"] f fd) (T : Txt K mg) (c_is_list : Cal P w K mg base CX0 1 "is_list" (spListX K)) : Cal P w K mg base CX0 2 "has_call_form" (spCallFormX K) := by
  refine cal_mk F sc_has_call_form (fun vs H Q E h => ?_) (fun cdv A outer sh H vs Q E hr h => ?_)
  · obtain ⟨v, d, rfl, _⟩ := h
    rfl
  · obtain ⟨v, d, rfl, s, q⟩ := h
    refine ⟨_, (pss_cons (ps_if (pt_cut (PW.pt (pw_or (pt_not (pt_val (pe_c c_is_list hr (by first | decide | assumption) rfl (pa_cons (pv 0) pa_nil)))) (pw_or1 (pt_cmpR op_ne (pe_callB call_len_seq (by rfl) T.len (by decide +kernel) (pa_cons (pv 0) pa_nil)) pe_int (nomark _))))))
(pss_one (ps_ret pe_bl))
pss_nil)
(pss_cons (ps_asg (pv 0) (pg_sq (by rfl) (pgs_cons (pg_name (i := 1) sc_has_call_form.nd rfl (Or.inl rfl)) (pgs_cons (pg_name (i := 2) sc_has_call_form.nd rfl (Or.inl rfl)) (pgs_cons (pg_name (i := 3) sc_has_call_form.nd rfl (Or.inl rfl)) (pgs_cons (pg_name (i := 4) sc_has_call_form.nd rfl (Or.inl rfl)) (pgs_cons (pg_name (i := 5) sc_has_call_form.nd rfl (Or.inl rfl)) pgs_nil)))))))
(pss_cons (ps_if (pt_cut (PW.pt (pw_or (pt_not (pt_val (pe_callB call_isi (by rfl) T.isinstance (by decide +kernel) (pa_cons (pv 1) (pa_cons (pe_tyv (n := "str") (by rfl) T.str (by decide +kernel)) pa_nil))))) (pw_or1 (pt_not (pt_val (pe_callB call_isi (by rfl) T.isinstance (by decide +kernel) (pa_cons (pv 2) (pa_cons (pe_tyv (n := "str") (by rfl) T.str (by decide +kernel)) pa_nil)))))))))
(pss_one (ps_ret pe_bl))
pss_nil)
(pss_one (ps_ret (pe_cut (pe_and (pe_c c_is_list hr (by first | decide | assumption) rfl (pa_cons (pv 3) pa_nil)) (pe_and (pe_c c_is_list hr (by first | decide | assumption) rfl (pa_cons (pv 4) pa_nil)) (pe_one (pe_c c_is_list hr (by first | decide | assumption) rfl (pa_cons (pv 5) pa_nil))))))))))), ?_⟩
    cases hq : sqD d with
    | none =>
      have h0 : isSq d = false := by rw [isSq_iff, hq]; rfl
      have hf : (callD d).isSome = false := by unfold callD; rw [hq]; rfl
      refine ⟨fun t H' => t = true ∧ Same H H', ⟨_, rfl, v, d, rfl, s, fun H1 e1 => ⟨false, congrArg V.bl h0, iteT ⟨rfl, e1⟩⟩⟩, ?_⟩
      rintro _ H1 ⟨rfl, e1⟩
      refine iteT ?_
      rw [← hf]
      exact q _ e1
    | some xs =>
      have h0 : isSq d = true := by rw [isSq_iff, hq]; rfl
      obtain ⟨vs, ⟨a, rfl, hs⟩, al, few⟩ := s.sq hq
      refine ⟨fun t H' => t = !decide (xs.length = 5) ∧ Same H H', ⟨_, rfl, .ref a, d, rfl, s, fun H1 e1 => ⟨true, congrArg V.bl h0, iteF ?_⟩⟩, ?_⟩
      · refine ⟨_, rfl, a, _, rfl, sq_at e1 hs, rfl, _, rfl, ?_, e1⟩
        rw [al.1, len_dec5]
      rintro _ H1 ⟨rfl, e1⟩
      refine ite2 (fun h1 => ?_) (fun h1 => ?_)
      · rw [Bool.not_eq_true', decide_eq_false_iff_not] at h1
        have := q _ e1
        rw [call_len hq h1] at this
        exact this
      · rw [Bool.not_eq_true', Bool.not_eq_false, decide_eq_true_iff] at h1
        obtain ⟨n, ha, m, e, sm, rfl⟩ : ∃ a b c d e, xs = [a, b, c, d, e] := by
          match xs, h1 with
          | [a, b, c, d, e], _ => exact ⟨a, b, c, d, e, rfl⟩
        obtain ⟨vn, vh, vm, ve, vsm, rfl⟩ := len5 al.1
        have s0 := al.2 0 vn n rfl rfl
        have s1 := al.2 1 vh ha rfl rfl
        have s2 := al.2 2 vm m rfl rfl
        have s3 := al.2 3 ve e rfl rfl
        have s4 := al.2 4 vsm sm rfl rfl
        have hcf := call_form hq
        refine ⟨_, rfl, _, ⟨a, rfl, sq_at e1 hs⟩, rfl, _, _, rfl, _, _, rfl, _, _, rfl, _, _, rfl, _, _, rfl, rfl, ?_⟩
        obtain ⟨t0, ty0, k0, -⟩ := (s0.keep e1).ty
        obtain ⟨t1, ty1, k1, -⟩ := (s1.keep e1).ty
        refine ⟨fun t H' => t = !(isStr n && isStr ha) ∧ H' = H1, ⟨_, rfl, _, _, _, _, isStr n, rfl, .ty _, ty0, kit_ty k0, _, rfl, ite2 (fun g1 => ?_) (fun g1 => ?_)⟩, ?_⟩
        · refine ⟨?_, rfl⟩
          rw [Bool.not_eq_true'] at g1
          rw [g1, Bool.false_and]
          rfl
        · refine ⟨_, rfl, _, _, _, _, isStr ha, rfl, .ty _, ty1, kit_ty k1, _, rfl, ?_, rfl⟩
          rw [Bool.not_eq_true', Bool.not_eq_false] at g1
          rw [g1, Bool.true_and]
        rintro _ H1 ⟨rfl, rfl⟩
        refine ite2 (fun g1 => ?_) (fun g1 => ?_)
        · have := q _ e1
          rw [Bool.not_eq_true'] at g1
          rw [hcf, ← Bool.and_assoc, g1, Bool.false_and] at this
          exact this
        · rw [Bool.not_eq_true', Bool.not_eq_false] at g1
          rw [← Bool.and_assoc, g1, Bool.true_and] at hcf
          refine ⟨fun v H2 => v = .bl (callD d).isSome ∧ Same H H2, ?_, fun v H2 e => by rw [e.1]; exact q _ e.2⟩
          refine ⟨_, rfl, _, _, rfl, s2.keep e1, fun H2 e2 => ⟨_, rfl, ite2 (fun g2 => ?_) (fun g2 => ?_)⟩⟩
          · refine ⟨_, rfl, _, _, rfl, s3.keep (e1.trans e2), fun H3 e3 => ⟨_, rfl, ite2 (fun g3 => ?_) (fun g3 => ?_)⟩⟩
            · refine ⟨_, rfl, _, _, rfl, s4.keep ((e1.trans e2).trans e3), fun H4 e4 => ⟨?_, ((e1.trans e2).trans e3).trans e4⟩⟩
              rw [hcf, g2, g3]
              rfl
            · refine ⟨?_, (e1.trans e2).trans e3⟩
              rw [Bool.not_eq_true] at g3
              rw [hcf, g2, g3]
              rfl
          · refine ⟨?_, e1.trans e2⟩
            rw [Bool.not_eq_true] at g2
            rw [hcf, g2]
            rfl
theorem map_take {α β : Type} (g : α → β) {ms : List α} {i : Nat} {m : α} (h : ms[i]? = some m) : (ms.take (i + 1)).map g = (ms.take i).map g ++ [g m] := by
  rw [List.take_succ, h]
  simp
theorem all_map {α : Type} (g : α → Bool) (ms : List α) : (ms.map g).all id = ms.all g := by
  rw [List.all_map]
  rfl
theorem ok_movesX {f : Addr} {fd : FuncData} (F : DefX K mg "are_moves" s_are_moves ["moves", "modes"] f fd) (T : Txt K mg) (c_is_integer : Cal P w K mg base CX0 1 "is_integer" (spIntX K)) : Cal P w K mg base CX0 2 "are_moves" (spMovesX K) := by
  refine cal_mk F sc_are_moves (fun vs H Q E h => ?_) (fun cdv A outer sh H vs Q E hr h => ?_)
  · obtain ⟨v, n, mvs, ms, rfl, _⟩ := h
    rfl
  · obtain ⟨v, n, mvs, ms, rfl, ⟨a, rfl, hm⟩, al, few, q⟩ := h
    refine ⟨_, (pss_cons (ps_if (pt_cmpR op_ne (pe_callB call_len_seq (by rfl) T.len (by decide +kernel) (pa_cons (pv 0) pa_nil)) (pv 1) (nomark _))
(pss_one (ps_ret pe_bl))
pss_nil)
(pss_one (ps_ret (pe_callB (cr_all rfl) (by rfl) T.all (by decide +kernel) (pa_cons (pe_lc (own := [("move", 2)]) (g := (gName 2)) (tt := tYes) rfl sc_are_moves.nd (pi_sqV (pv 0)) (blkOk_by (own := [("move", 2)]) (N := ["moves", "modes", "move"]) (sc := defScope s_are_moves) (by decide +kernel)) (fun _ _ _ _ _ => (pg_name (i := 2) sc_are_moves.nd rfl (Or.inl rfl))) (fun _ _ _ _ _ => pts_nil) (fun _ _ _ _ _ => (pe_cut (pe_and (pe_c c_is_integer hr (by first | decide | assumption) rfl (pa_cons (pv 2) pa_nil)) (pe_one (pe_chain op_le op_lt (pe_un un_neg pe_int) (pv 2) (pv 1))))))) pa_nil))))), ?_⟩
    refine ⟨_, rfl, a, _, rfl, hm, _, rfl, rfl, _, rfl, ?_⟩
    rw [al.1, len_dec]
    refine ite2 (fun h1 => ?_) (fun h1 => ?_)
    · rw [Bool.not_eq_true'] at h1
      have := q _ (Same.refl H)
      rw [show movesB n ms = false by unfold movesB; rw [h1, Bool.false_and]] at this
      exact this
    rw [Bool.not_eq_true', Bool.not_eq_false] at h1
    refine ⟨_, rfl, a, _, H, rfl, hm, Same.refl H, fun J G wk hG D hD => ?_⟩
    refine lc_it wk (fun i H2 => Same H H2 ∧ H2 D = some (.lst (((ms.take i).map (moveB n)).map V.bl))) ⟨same_new (Same.refl H) hD, upd_same⟩ (fun i H2 _ h => hG _ h.1) ?_ ?_
    · rintro i x H3 H2 hi ⟨e2, d2⟩ ⟨rfl, hx⟩
      obtain ⟨m, hm2, sm⟩ := al.get hx
      refine ⟨rfl, ?_⟩
      refine ⟨fun v H4 => v = .bl (moveB n m) ∧ H4 = H2, ?_, ?_⟩
      · refine ⟨_, rfl, x, m, rfl, sm.keep e2, _, rfl, ite2 (fun g1 => ?_) (fun g1 => ?_)⟩
        · cases m <;> simp only [isInt] at g1 <;> try cases g1
          rename_i z
          obtain rfl := sm.int'
          refine ⟨_, rfl, _, rfl, _, _, rfl, rfl, _, rfl, ite2 (fun g2 => ?_) (fun g2 => ?_)⟩
          · refine ⟨_, rfl, _, _, rfl, rfl, ?_, rfl⟩
            show V.bl _ = V.bl (decide (-1 ≤ z) && decide (z < n))
            rw [show decide (-1 ≤ z) = true from g2, Bool.true_and]
          · refine ⟨?_, rfl⟩
            show V.bl _ = V.bl (decide (-1 ≤ z) && decide (z < n))
            rw [show decide (-1 ≤ z) = false from Bool.eq_false_iff.mpr g2, Bool.false_and]
        · refine ⟨?_, rfl⟩
          cases m <;> first | rfl | exact absurd rfl g1
      · rintro _ _ ⟨rfl, rfl⟩
        refine ⟨_, d2, ?_, fun b o hb => ?_, ?_⟩
        · rw [List.length_map, List.length_map, List.length_take]
          have := al.1
          exact Nat.lt_of_le_of_lt (by omega : _ ≤ 1000) (by decide)
        · rw [upd_ne (ne_of_none hb hD)]
          exact e2 _ _ hb
        · rw [upd_same, map_take _ hm2, List.map_append]
          rfl
    · rintro H2 ⟨e2, d2⟩
      rw [al.1, List.take_length] at d2
      refine ⟨D, _, rfl, SqL.of d2, ?_⟩
      have := q _ e2
      rw [show movesB n ms = (ms.map (moveB n)).all id by unfold movesB; rw [h1, Bool.true_and, all_map]] at this
      exact this
theorem ok_manyX {f : Addr} {fd : FuncData} (F : DefX K mg "is_many" s_is_many ["field", "sorts"] f fd) (T : Txt K mg) : Cal P w K mg base CX0 1 "is_many" (spManyX K) := by
  refine cal_mk F sc_is_many (fun vs H Q E h => ?_) (fun cdv A outer sh H vs Q E hr h => ?_)
  · obtain ⟨v, so, fs, d, rfl, _⟩ := h
    rfl
  · obtain ⟨v, so, fs, d, rfl, s, hso, nd, q⟩ := h
    refine ⟨_, (pss_one (ps_ret (pe_cut (pe_and (pe_callB call_isi (by rfl) T.isinstance (by decide +kernel) (pa_cons (pv 0) (pa_cons (pe_tyv (n := "str") (by rfl) T.str (by decide +kernel)) pa_nil))) (pe_and (pe_cmp (pc_din (hu_of hr) (pv 0) (pv 1)) rfl) (pe_one (pe_cmpR op_eq (pe_dget (hu_of hr) (pv 1) (pv 0) (fun _ _ => rfl)) pe_str (nomark _)))))))), ?_⟩
    refine ⟨fun v H2 => v = .bl (manyB fs d) ∧ H2 = H, ?_, fun v H2 e => by rw [e.1, e.2]; exact q⟩
    obtain ⟨t, ty, ks, -⟩ := s.ty
    refine ⟨_, rfl, _, _, _, _, isStr d, rfl, .ty _, ty, kit_ty ks, _, rfl, ite2 (fun g1 => ?_) (fun g1 => ?_)⟩
    · cases d <;> simp only [isStr] at g1 <;> try cases g1
      rename_i z
      obtain ⟨rfl, -⟩ := s.str'
      have hg : DGet H so (.str z) _ := DGet.k (k := .inr z) hso
      have hm : manyB fs (.str z) = _ := any_find (P := fun f => f.many) z nd
      rw [sorts_find] at hg
      cases hz : fs.find? (fun f => decide (f.nm = z)) with
      | none =>
        rw [hz] at hg hm
        exact ⟨_, rfl, _, rfl, so, _, rfl, hg, _, rfl, iteF ⟨by rw [hm]; rfl, rfl⟩⟩
      | some g =>
        rw [hz] at hg hm
        refine ⟨_, rfl, _, rfl, so, _, rfl, hg, _, rfl, iteT ?_⟩
        refine ⟨_, rfl, _, rfl, so, _, rfl, hg, rfl, ?_, rfl⟩
        rw [hm]
        exact congrArg V.bl (sort_many g.many)
    · refine ⟨?_, rfl⟩
      cases d <;> first | rfl | exact absurd rfl g1
theorem ok_deedX {f : Addr} {fd : FuncData} (F : DefX K mg "is_deed" s_is_deed ["pair", "sorts"] f fd) (T : Txt K mg) (Cs : Csts K w mg C) (c_is_list : Cal P w K mg base CX0 1 "is_list" (spListX K)) : Cal P w K mg base CX0 2 "is_deed" (spDeedX K) := by
  obtain ⟨es, n, KD⟩ := Cs.sodD
  refine cal_mk F sc_is_deed (fun vs H Q E h => ?_) (fun cdv A outer sh H vs Q E hr h => ?_)
  · obtain ⟨v, so, fs, d, rfl, _⟩ := h
    rfl
  · obtain ⟨v, so, fs, d, rfl, s, hso, nd, q⟩ := h
    refine ⟨_, (pss_cons (ps_if (pt_cut (PW.pt (pw_or (pt_not (pt_val (pe_c c_is_list hr (by first | decide | assumption) rfl (pa_cons (pv 0) pa_nil)))) (pw_or1 (pt_cmpR op_ne (pe_callB call_len_seq (by rfl) T.len (by decide +kernel) (pa_cons (pv 0) pa_nil)) pe_int (nomark _))))))
(pss_one (ps_ret pe_bl))
pss_nil)
(pss_cons (ps_asg (pv 0) (pg_sq (by rfl) (pgs_cons (pg_name (i := 2) sc_is_deed.nd rfl (Or.inl rfl)) (pgs_cons (pg_name (i := 3) sc_is_deed.nd rfl (Or.inl rfl)) pgs_nil))))
(pss_cons (ps_if (pt_cut (PW.pt (pw_or (pt_not (pt_val (pe_callB call_isi (by rfl) T.isinstance (by decide +kernel) (pa_cons (pv 2) (pa_cons (pe_tyv (n := "str") (by rfl) T.str (by decide +kernel)) pa_nil))))) (pw_or1 (pt_cmpR (op_notIn_kd KD) (pv 2) (pe_cst rfl Cs.SORTS_OF_DEEDS) (by rfl))))))
(pss_one (ps_ret pe_bl))
pss_nil)
(pss_one (ps_ret (pe_cut (pe_and (pe_callB call_isi (by rfl) T.isinstance (by decide +kernel) (pa_cons (pv 3) (pa_cons (pe_tyv (n := "str") (by rfl) T.str (by decide +kernel)) pa_nil))) (pe_and (pe_cmp (pc_din (hu_of hr) (pv 3) (pv 1)) rfl) (pe_one (pe_cmpR op_in_seq (pe_dget (hu_of hr) (pv 1) (pv 3) (fun _ _ => rfl)) (pe_kget KD (pe_cst rfl Cs.SORTS_OF_DEEDS) (pv 2) (fun _ _ => rfl)) (by rfl))))))))))), ?_⟩
    cases hq : sqD d with
    | none =>
      have h0 : isSq d = false := by rw [isSq_iff, hq]; rfl
      have hf : deedB fs d = false := by unfold deedB deedD; rw [hq]
      refine ⟨fun t H' => t = true ∧ Same H H', ⟨_, rfl, v, d, rfl, s, fun H1 e1 => ⟨false, congrArg V.bl h0, iteT ⟨rfl, e1⟩⟩⟩, ?_⟩
      rintro _ H1 ⟨rfl, e1⟩
      refine iteT ?_
      rw [← hf]
      exact q _ e1
    | some xs =>
      have h0 : isSq d = true := by rw [isSq_iff, hq]; rfl
      obtain ⟨vs, ⟨a, rfl, hs⟩, al, few⟩ := s.sq hq
      refine ⟨fun t H' => t = !decide (xs.length = 2) ∧ Same H H', ⟨_, rfl, .ref a, d, rfl, s, fun H1 e1 => ⟨true, congrArg V.bl h0, iteF ?_⟩⟩, ?_⟩
      · refine ⟨_, rfl, a, _, rfl, sq_at e1 hs, rfl, _, rfl, ?_, e1⟩
        rw [al.1, len_dec2]
      rintro _ H1 ⟨rfl, e1⟩
      refine ite2 (fun h1 => ?_) (fun h1 => ?_)
      · rw [Bool.not_eq_true', decide_eq_false_iff_not] at h1
        have hf : deedB fs d = false := by
          have : deedD d = none := by
            unfold deedD
            rw [hq]
            split
            · rename_i h2
              cases h2
              exact absurd rfl h1
            · rfl
          unfold deedB
          rw [this]
        rw [← hf]
        exact q _ e1
      · rw [Bool.not_eq_true', Bool.not_eq_false, decide_eq_true_iff] at h1
        obtain ⟨x, z, rfl⟩ := len2 h1
        obtain ⟨vx, vz, rfl⟩ := len2 al.1
        have s0 := al.2 0 vx x rfl rfl
        have s1 := al.2 1 vz z rfl rfl
        refine ⟨_, rfl, _, ⟨a, rfl, sq_at e1 hs⟩, rfl, _, _, rfl, _, _, rfl, rfl, ?_⟩
        obtain ⟨t0, ty0, k0, -⟩ := (s0.keep e1).ty
        obtain ⟨t1, ty1, k1, -⟩ := (s1.keep e1).ty
        refine ⟨fun t H' => H' = H1 ∧ ((t = true ∧ deedB fs d = false) ∨ (t = false ∧ ∃ u l, x = .str u ∧ sodOf u = some l)), ⟨_, rfl, _, _, _, _, isStr x, rfl, .ty _, ty0, kit_ty k0, _, rfl, ite2 (fun g1 => ?_) (fun g1 => ?_)⟩, ?_⟩
        · refine ⟨rfl, .inl ⟨rfl, ?_⟩⟩
          have : deedD d = none := by
            unfold deedD
            rw [hq]
            cases x <;> first | rfl | cases g1
          unfold deedB
          rw [this]
        · rw [Bool.not_eq_true', Bool.not_eq_false] at g1
          cases x <;> simp only [isStr] at g1 <;> try cases g1
          rename_i u
          obtain ⟨rfl, -⟩ := s0.str'
          rcases Cs.sodN u with ⟨hns, hu⟩ | ⟨sa, l, hns, hu, _⟩
          · refine ⟨_, rfl, _, _, rfl, rfl, hns, _, rfl, rfl, .inl ⟨rfl, ?_⟩⟩
            unfold deedB
            split
            · rename_i a' b' e'
              unfold deedD at e'
              rw [hq] at e'
              cases z <;> simp only at e' <;> try cases e'
              rw [List.any_eq_false]
              intro f _
              rw [sod_none hu, Bool.and_false]
              exact nofun
            · rfl
          · exact ⟨_, rfl, _, _, rfl, rfl, hns, _, rfl, rfl, .inr ⟨rfl, u, l, rfl, hu⟩⟩
        rintro t H1 ⟨rfl, ⟨rfl, hf⟩ | ⟨rfl, u, l, rfl, hu⟩⟩
        · refine iteT ?_
          rw [← hf]
          exact q _ e1
        · refine iteF ?_
          obtain ⟨rfl, -⟩ := s0.str'
          obtain ⟨sa, l', hns, hl', hsa⟩ := (Cs.sodN u).resolve_left fun q => by rw [q.2] at hu; cases hu
          obtain rfl : l' = l := by rw [hl'] at hu; exact Option.some.inj hu
          refine ⟨fun v H2 => v = .bl (deedB fs d) ∧ H2 = H1, ?_, fun v H2 e => by rw [e.1, e.2]; exact q _ e1⟩
          refine ⟨_, rfl, _, _, _, _, isStr z, rfl, .ty _, ty1, kit_ty k1, _, rfl, ite2 (fun g1 => ?_) (fun g1 => ?_)⟩
          · cases z <;> simp only [isStr] at g1 <;> try cases g1
            rename_i z
            obtain ⟨rfl, -⟩ := s1.str'
            have hdb : deedB fs d = (fs.any fun f => decide (f.nm = z) && decide (f.many ∈ deedSorts u)) := by
              unfold deedB deedD
              rw [hq]
            rw [any_find (P := fun f => decide (f.many ∈ deedSorts u)) z nd] at hdb
            have hg : DGet H1 so (.str z) _ := DGet.k (k := .inr z) (e1 _ _ hso)
            rw [sorts_find] at hg
            cases hz : fs.find? (fun f => decide (f.nm = z)) with
            | none =>
              rw [hz] at hg hdb
              exact ⟨_, rfl, _, rfl, so, _, rfl, hg, _, rfl, iteF ⟨by rw [hdb]; rfl, rfl⟩⟩
            | some g =>
              rw [hz] at hg hdb
              refine ⟨_, rfl, _, rfl, so, _, rfl, hg, _, rfl, iteT ?_⟩
              refine ⟨_, rfl, _, rfl, so, _, rfl, hg, _, rfl, _, _, .ref sa, rfl, rfl, hns, rfl, ?_⟩
              refine ⟨sa, _, rfl, .inr (hsa _), rfl, flat_strs _, ?_, rfl⟩
              rw [inV_strs, sod_dec hu, hdb]
              rfl
          · refine ⟨?_, rfl⟩
            have : deedD d = none := by
              unfold deedD
              rw [hq]
              cases z <;> first | rfl | exact absurd rfl g1
            unfold deedB
            rw [this]
end
end MK
set_option Elab.async false
set_option linter.all false
set_option autoImplicit false
set_option maxRecDepth 100000
set_option maxHeartbeats 4000000
namespace MK
open PySem PySem.Spec PyProof.Rows L2
local macro_rules | `(tactic| walk_at "x") => `(tactic| dsimp only [tSeq, tAsg, tRet, tDrop, tLst, tTup, tCons, tOp, tUn, tIfS])
/-! ### any data in the place of a call -/
def spDeedsX (K : PySem.W.Frag) : Sp := fun vs H Q _ => ∃ (v : V) (so : Addr) (fs : List FD) (dvs : List V) (ds : List Dt), vs = [v, .ref so] ∧ Sq K H v dvs ∧ Al (Sh K H) dvs ds ∧ dvs.length < 1000 ∧ H so = some (.dK (sortsV fs)) ∧ (fs.map (·.nm)).Nodup ∧ ∀ H', Same H H' → Q (.bl (deedsB fs ds)) H'
def spSameX (K : PySem.W.Frag) : Sp := fun vs H Q _ => ∃ (v : V) (so : Addr) (fs : List FD) (hd : Str) (svs : List V) (ss : List Dt), vs = [v, .str hd, .ref so] ∧ Sq K H v svs ∧ Al (Sh K H) svs ss ∧ svs.length < 1000 ∧ H so = some (.dK (sortsV fs)) ∧ (fs.map (·.nm)).Nodup ∧ ∀ H', Same H H' → Q (.bl (sameB fs hd ss)) H'
def spWrongX (K : PySem.W.Frag) : Sp := fun vs H Q _ => ∃ (v : V) (e so : Addr) (n : Nat) (fs : List FD) (ys : List Str) (d : Dt), vs = [v, .ref e, .ref so, .int n] ∧ Sh K H v d ∧ SqL K H e (ys.map V.str) ∧ H so = some (.dK (sortsV fs)) ∧ (fs.map (·.nm)).Nodup ∧ ∀ H', Same H H' → Q (resV (reasonD fs n ys d)) H'
theorem dc_dec (zs : List Str) : decide (V.int (dc zs zs.length : Nat) = V.int (zs.length : Nat)) = decide zs.Nodup := by
  rw [len_dec]
  refine decide_eq_decide.mpr ?_
  have := dc_nodup zs zs.length (Nat.le_refl _)
  rw [List.take_length] at this
  exact this
section
variable {P : Program} {w : World} {K : PySem.W.Frag} {mg : Str → Option Value} {base : Heap} {C : Cst}
theorem ok_deedsX {f : Addr} {fd : FuncData} (F : DefX K mg "are_deeds" s_are_deeds ["deeds", "sorts"] f fd) (T : Txt K mg) (Cs : Csts K w mg C) (c_is_deed : Cal P w K mg base CX0 2 "is_deed" (spDeedX K)) : Cal P w K mg base CX0 3 "are_deeds" (spDeedsX K) := by
  refine cal_mk F sc_are_deeds (fun vs H Q E h => ?_) (fun cdv A outer sh H vs Q E hr h => ?_)
  · obtain ⟨v, so, fs, dvs, ds, rfl, _⟩ := h
    rfl
  · obtain ⟨v, so, fs, dvs, ds, rfl, ⟨a, rfl, hd⟩, hal, few, hso, nd, q⟩ := h
    refine ⟨_, (pss_cons (ps_if (pt_cut (PW.pt (pw_or (pt_cmpR op_gt (pe_callB call_len_seq (by rfl) T.len (by decide +kernel) (pa_cons (pv 0) pa_nil)) (pe_cst rfl Cs.MOST_DEEDS) (nomark _)) (pw_or1 (pt_not (pt_val (pe_callB (cr_all rfl) (by rfl) T.all (by decide +kernel) (pa_cons (pe_lc (own := [("pair", 2)]) (g := (gName 2)) (tt := tYes) rfl sc_are_deeds.nd (pi_sqV (pv 0)) (blkOk_by (own := [("pair", 2)]) (N := ["deeds", "sorts", "pair", "deed", "field", "worded"]) (sc := defScope s_are_deeds) (by decide +kernel)) (fun _ _ _ _ _ => (pg_name (i := 2) sc_are_deeds.nd rfl (Or.inl rfl))) (fun _ _ _ _ _ => pts_nil) (fun _ _ _ _ _ => (pe_c c_is_deed hr (by first | decide | assumption) rfl (pa_cons (pv 2) (pa_cons (pv 1) pa_nil))))) pa_nil))))))))
(pss_one (ps_ret pe_bl))
pss_nil)
(pss_cons (ps_setLc (i := 5) (own := [("deed", 3), ("field", 4)]) (g := (gSq K 2 (gCons (gName 3) (gCons (gName 4) gNil)))) rfl sc_are_deeds.nd rfl rfl (sw_true rfl rfl rfl (by decide +kernel)) (pi_sqV (pv 0)) (blkOk_by (own := [("deed", 3), ("field", 4)]) (N := ["deeds", "sorts", "pair", "deed", "field", "worded"]) (sc := defScope s_are_deeds) (by decide +kernel)) (fun _ _ _ _ _ => (pg_sq (by rfl) (pgs_cons (pg_name (i := 3) sc_are_deeds.nd rfl (Or.inl rfl)) (pgs_cons (pg_name (i := 4) sc_are_deeds.nd rfl (Or.inl rfl)) pgs_nil)))) (fun _ _ _ _ _ => (pts_one (pt_cmpR (op_in_seqK (K := K) rfl) (pv 3) (pe_cst rfl Cs.LIST_WORD_DEEDS) (by rfl)))) (fun _ _ _ _ _ => (pv 4)))
(pss_one (ps_ret (pe_cmpR op_eq (pe_lenG rfl (by rfl) T.len (by rfl) T.set (pv 5)) (pe_callB call_len_seq (by rfl) T.len (by decide +kernel) (pa_cons (pv 5) pa_nil)) (nomark _)))))), ?_⟩
    refine ⟨fun t H' => t = !(decide (ds.length ≤ 4) && ds.all (deedB fs)) ∧ Same H H', ⟨_, rfl, a, _, rfl, hd, _, _, rfl, rfl, _, rfl, ite2 (fun h1 => ?_) (fun h1 => ?_)⟩, ?_⟩
    · have h1 := of_decide_eq_true h1
      have := hal.1
      refine ⟨?_, Same.refl H⟩
      rw [decide_eq_false (by omega : ¬ ds.length ≤ 4), Bool.false_and]
      rfl
    · have h1 := of_decide_eq_false (Bool.eq_false_iff.mpr h1)
      have l4 := hal.1
      rw [decide_eq_true (by omega : ds.length ≤ 4), Bool.true_and]
      refine ⟨_, rfl, a, _, H, rfl, hd, Same.refl H, fun J G wk hG D hD => ?_⟩
      refine lc_it wk (fun i H2 => Same H H2 ∧ H2 D = some (.lst (((ds.take i).map (deedB fs)).map V.bl))) ⟨same_new (Same.refl H) hD, upd_same⟩ (fun i H2 _ h => hG _ h.1) ?_ ?_
      · rintro i x H3 H2 hi ⟨e2, d2⟩ ⟨rfl, hx⟩
        obtain ⟨dd, hdd, hda⟩ := hal.get hx
        refine ⟨rfl, ?_⟩
        refine ⟨_, rfl, _, rfl, x, so, fs, dd, rfl, hda.keep e2, e2 _ _ hso, nd, fun H4 e4 => ⟨_, e4 _ _ d2, ?_, fun b o hb => ?_, ?_⟩⟩
        · rw [List.length_map, List.length_map, List.length_take]
          exact Nat.lt_of_le_of_lt (by omega : _ ≤ 1000) (by decide)
        · rw [upd_ne (ne_of_none hb hD)]
          exact e4 _ _ (e2 _ _ hb)
        · rw [upd_same, map_take _ hdd, List.map_append]
          rfl
      · rintro H2 ⟨e2, d2⟩
        rw [hal.1, List.take_length] at d2
        refine ⟨D, _, rfl, SqL.of d2, ds.all (deedB fs), ?_, rfl, e2⟩
        rw [all_map]
    rintro t H1 ⟨rfl, e1⟩
    refine ite2 (fun h1 => ?_) (fun h1 => ?_)
    · rw [Bool.not_eq_true'] at h1
      have := q _ e1
      rw [show deedsB fs ds = false by unfold deedsB; rw [← Bool.and_assoc, h1, Bool.false_and]] at this
      exact this
    rw [Bool.not_eq_true', Bool.not_eq_false] at h1
    have hq : deedsB fs ds = decide ((worded (ds.map deE)).Nodup) := by
      unfold deedsB
      rw [← Bool.and_assoc, h1, Bool.true_and]
    rw [Bool.and_eq_true, decide_eq_true_iff, List.all_eq_true] at h1
    have dl : dvs.length ≤ 4 := by rw [hal.1]; exact h1.1
    refine ⟨_, rfl, a, _, H, rfl, hd, e1, fun J G wk hG D hD => ?_⟩
    refine lc_it wk (fun i H2 => Same H H2 ∧ H2 D = some (.lst ((worded ((ds.map deE).take i)).map V.str))) ⟨same_new e1 hD, upd_same⟩ (fun i H2 _ h => hG _ h.1) ?_ ?_
    · rintro i x H3 H2 hi ⟨e2, d2⟩ ⟨rfl, hx⟩
      obtain ⟨dd, hdd, hda⟩ := hal.get hx
      obtain ⟨sqd, _⟩ := deedB_ok (h1.2 dd (List.mem_of_getElem? hdd))
      have hda : DeA K H x (deE dd) := by
        obtain ⟨us, hu, hl, _⟩ := hda.sq sqd
        obtain ⟨p, q, rfl⟩ := len2 hl.1
        rw [(hl.2 0 p _ rfl rfl).str'.1, (hl.2 1 q _ rfl rfl).str'.1] at hu
        exact hu
      generalize hde : deE dd = de at hda
      have hdd' : (ds.map deE)[i]? = some de := by rw [List.getElem?_map, hdd, ← hde]; rfl
      have tk : worded ((ds.map deE).take (i + 1)) = worded ((ds.map deE).take i) ++ (if de.1 = ("add" : Str) ∨ de.1 = ("strike" : Str) then [de.2] else []) := by
        rw [List.take_succ, hdd']
        exact worded_snoc _ _
      refine ⟨DeV de, DeA.keep e2 hda, rfl, _, _, rfl, _, _, rfl, rfl, rfl, ?_⟩
      refine ⟨_, rfl, C.lwd, _, rfl, .inr (Cs.t_lwd _), rfl, rfl, _, rfl, ?_⟩
      rw [show ([.str "add", .str "strike"] : List V) = (["add", "strike"] : List Str).map V.str from rfl, inV_strs]
      refine ite2 (fun h1 => ?_) (fun h1 => ?_)
      · have hm : de.1 = ("add" : Str) ∨ de.1 = ("strike" : Str) := by
          have := of_decide_eq_true h1
          simpa using this
        refine ⟨_, rfl, _, d2, ?_, fun b o hb => ?_, ?_⟩
        · rw [List.length_map]
          have : (worded ((ds.map deE).take i)).length ≤ ((ds.map deE).take i).length := by unfold worded; rw [List.length_map]; exact List.length_filter_le ..
          have h2 : ((ds.map deE).take i).length ≤ (ds.map deE).length := List.length_take_le' ..
          rw [List.length_map] at h2
          have := hal.1
          exact Nat.lt_of_le_of_lt (by omega : _ ≤ 4) (by decide)
        · rw [upd_ne (ne_of_none hb (none_of e1 hD))]
          exact e2 _ _ hb
        · rw [upd_same, tk, if_pos hm, List.map_append]
          rfl
      · have hm : ¬ (de.1 = ("add" : Str) ∨ de.1 = ("strike" : Str)) := fun q => h1 (decide_eq_true (by simpa using q))
        refine ⟨e2, ?_⟩
        rw [tk, if_neg hm, List.append_nil]
        exact d2
    · rintro H2 ⟨e2, d2⟩
      rw [hal.1, ← List.length_map (f := deE), List.take_length] at d2
      have wl : (worded (ds.map deE)).length < 1000 := by
        have : (worded (ds.map deE)).length ≤ (ds.map deE).length := by unfold worded; rw [List.length_map]; exact List.length_filter_le ..
        rw [List.length_map] at this
        have := h1.1
        omega
      refine ⟨_, rfl, worded (ds.map deE), Sq.lst d2, wl, _, rfl, D, _, rfl, .inl (SqL.of d2), rfl, ?_⟩
      rw [List.length_map, dc_dec, ← hq]
      exact q _ e2
theorem ok_sameX {f : Addr} {fd : FuncData} (F : DefX K mg "is_same" s_is_same ["same", "hand", "sorts"] f fd) (T : Txt K mg) (c_is_many : Cal P w K mg base CX0 1 "is_many" (spManyX K)) : Cal P w K mg base CX0 2 "is_same" (spSameX K) := by
  refine cal_mk F sc_is_same (fun vs H Q E h => ?_) (fun cdv A outer sh H vs Q E hr h => ?_)
  · obtain ⟨v, so, fs, hd, svs, ss, rfl, _⟩ := h
    rfl
  · obtain ⟨v, so, fs, hd, svs, ss, rfl, ⟨a, rfl, hz⟩, hal, few, hso, nd, q⟩ := h
    refine ⟨_, (pss_cons (ps_if (pt_not (pt_val (pe_callB (cr_all rfl) (by rfl) T.all (by decide +kernel) (pa_cons (pe_lc (own := [("field", 3)]) (g := (gName 3)) (tt := tYes) rfl sc_is_same.nd (pi_sqV (pv 0)) (blkOk_by (own := [("field", 3)]) (N := ["same", "hand", "sorts", "field"]) (sc := defScope s_is_same) (by decide +kernel)) (fun _ _ _ _ _ => (pg_name (i := 3) sc_is_same.nd rfl (Or.inl rfl))) (fun _ _ _ _ _ => pts_nil) (fun _ _ _ _ _ => (pe_c c_is_many hr (by first | decide | assumption) rfl (pa_cons (pv 3) (pa_cons (pv 2) pa_nil))))) pa_nil))))
(pss_one (ps_ret pe_bl))
pss_nil)
(pss_cons (ps_if (pt_cut (PW.pt (pw_and (pt_cmpR op_eq (pv 1) pe_str (nomark _)) (pw_and1 (pt_cmpR op_gt (pe_callB call_len_seq (by rfl) T.len (by decide +kernel) (pa_cons (pv 0) pa_nil)) pe_int (nomark _))))))
(pss_one (ps_ret pe_bl))
pss_nil)
(pss_one (ps_ret (pe_cmpR op_eq (pe_lenG rfl (by rfl) T.len (by rfl) T.set (pv 0)) (pe_callB call_len_seq (by rfl) T.len (by decide +kernel) (pa_cons (pv 0) pa_nil)) (nomark _)))))), ?_⟩
    refine ⟨_, rfl, a, _, H, rfl, hz, Same.refl H, fun J G wk hG D hD => ?_⟩
    refine lc_it wk (fun i H2 => Same H H2 ∧ H2 D = some (.lst (((ss.take i).map (manyB fs)).map V.bl))) ⟨same_new (Same.refl H) hD, upd_same⟩ (fun i H2 _ h => hG _ h.1) ?_ ?_
    · rintro i x H3 H2 hi ⟨e2, d2⟩ ⟨rfl, hx⟩
      obtain ⟨z, hz2, sz⟩ := hal.get hx
      refine ⟨rfl, ?_⟩
      refine ⟨_, rfl, _, rfl, x, so, fs, z, rfl, sz.keep e2, e2 _ _ hso, nd, _, d2, ?_, fun b o hb => ?_, ?_⟩
      · rw [List.length_map, List.length_map, List.length_take]
        have := hal.1
        exact Nat.lt_of_le_of_lt (by omega : _ ≤ 1000) (by decide)
      · rw [upd_ne (ne_of_none hb hD)]
        exact e2 _ _ hb
      · rw [upd_same, map_take _ hz2, List.map_append]
        rfl
    · rintro H2 ⟨e2, d2⟩
      rw [hal.1, List.take_length] at d2
      refine ⟨D, _, rfl, SqL.of d2, ss.all (manyB fs), by rw [all_map], ?_⟩
      refine ite2 (fun h1 => ?_) (fun h1 => ?_)
      · rw [Bool.not_eq_true'] at h1
        have := q _ e2
        rw [show sameB fs hd ss = false by unfold sameB; rw [h1, Bool.false_and]] at this
        exact this
      rw [Bool.not_eq_true', Bool.not_eq_false] at h1
      have hsb : sameB fs hd ss = ((!decide (hd = "self") || ss.isEmpty) && decide ((ss.map strD).Nodup)) := by
        unfold sameB
        rw [h1, Bool.true_and]
      refine ⟨fun t H' => t = !(!decide (hd = "self") || ss.isEmpty) ∧ H' = H2, ⟨_, rfl, rfl, _, rfl, ?_⟩, ?_⟩
      · rw [show decide (V.str hd = V.str "self") = decide (hd = "self") from decide_eq_decide.mpr ⟨V.str.inj, fun e => by rw [e]⟩]
        refine ite2 (fun g1 => ?_) (fun g1 => ?_)
        · refine ⟨_, rfl, a, _, rfl, sq_at e2 hz, _, _, rfl, rfl, _, rfl, ?_, rfl⟩
          rw [g1, hal.1]
          cases ss with
          | nil => rfl
          | cons x xs => exact decide_eq_true (by show (0 : Int) < ((xs.length + 1 : Nat) : Int); omega)
        · rw [Bool.not_eq_true] at g1
          rw [g1]
          exact ⟨rfl, rfl⟩
      rintro _ H2 ⟨rfl, rfl⟩
      refine ite2 (fun g1 => ?_) (fun g1 => ?_)
      · rw [Bool.not_eq_true'] at g1
        have := q _ e2
        rw [hsb, g1, Bool.false_and] at this
        exact this
      rw [Bool.not_eq_true', Bool.not_eq_false] at g1
      rw [g1, Bool.true_and] at hsb
      have vstr := al_strs hal fun d hd => by
        obtain ⟨z, e, _⟩ := manyB_ok ((List.all_eq_true.mp h1) d hd)
        exact ⟨z, e⟩
      rw [vstr] at hz
      have sl : (ss.map strD).length < 1000 := by rw [List.length_map, ← hal.1]; exact few
      refine ⟨_, rfl, ss.map strD, ⟨a, rfl, sq_at e2 hz⟩, sl, _, rfl, a, _, rfl, sq_at e2 hz, rfl, ?_⟩
      rw [List.length_map (f := V.str), dc_dec, ← hsb]
      exact q _ e2
theorem ok_wrongX {f : Addr} {fd : FuncData} (F : DefX K mg "wrong_part" s_wrong_part ["item", "earlier", "sorts", "modes"] f fd) (T : Txt K mg) (Cs : Csts K w mg C) (c_has_call_form : Cal P w K mg base CX0 2 "has_call_form" (spCallFormX K)) (c_is_word : Cal P w K mg base CX0 1 "is_word" (spWord K))
    (c_are_moves : Cal P w K mg base CX0 2 "are_moves" (spMovesX K)) (c_are_deeds : Cal P w K mg base CX0 3 "are_deeds" (spDeedsX K)) (c_is_same : Cal P w K mg base CX0 2 "is_same" (spSameX K)) : Cal P w K mg base CX0 4 "wrong_part" (spWrongX K) := by
  refine cal_mk F sc_wrong_part (fun vs H Q E h => ?_) (fun cdv A outer sh H vs Q E hr h => ?_)
  · obtain ⟨v, e, so, n, fs, ys, d, rfl, _⟩ := h
    rfl
  · obtain ⟨v, e, so, n, fs, ys, d, rfl, s, he, hso, nd, q⟩ := h
    refine ⟨_, (pss_cons (ps_if (pt_not (pt_val (pe_c c_has_call_form hr (by first | decide | assumption) rfl (pa_cons (pv 0) pa_nil))))
(pss_one (ps_ret pe_str))
pss_nil)
(pss_cons (ps_asg (pv 0) (pg_sq (by rfl) (pgs_cons (pg_name (i := 4) sc_wrong_part.nd rfl (Or.inl rfl)) (pgs_cons (pg_name (i := 5) sc_wrong_part.nd rfl (Or.inl rfl)) (pgs_cons (pg_name (i := 6) sc_wrong_part.nd rfl (Or.inl rfl)) (pgs_cons (pg_name (i := 7) sc_wrong_part.nd rfl (Or.inl rfl)) (pgs_cons (pg_name (i := 8) sc_wrong_part.nd rfl (Or.inl rfl)) pgs_nil)))))))
(pss_cons (ps_if (pt_cut (PW.pt (pw_or (pt_not (pt_val (pe_c c_is_word hr (by first | decide | assumption) rfl (pa_cons (pv 4) pa_nil)))) (pw_or1 (pt_cmpR op_in_seq (pv 4) (pv 1) (by rfl))))))
(pss_one (ps_ret pe_str))
pss_nil)
(pss_cons (ps_if (pt_cmpR op_notIn_seq (pv 5) (pe_cst rfl Cs.HANDS) (by rfl))
(pss_one (ps_ret pe_str))
pss_nil)
(pss_cons (ps_if (pt_not (pt_val (pe_c c_are_moves hr (by first | decide | assumption) rfl (pa_cons (pv 6) (pa_cons (pv 3) pa_nil)))))
(pss_one (ps_ret pe_str))
pss_nil)
(pss_cons (ps_if (pt_not (pt_val (pe_c c_are_deeds hr (by first | decide | assumption) rfl (pa_cons (pv 7) (pa_cons (pv 2) pa_nil)))))
(pss_one (ps_ret pe_str))
pss_nil)
(pss_cons (ps_if (pt_not (pt_val (pe_c c_is_same hr (by first | decide | assumption) rfl (pa_cons (pv 8) (pa_cons (pv 5) (pa_cons (pv 2) pa_nil))))))
(pss_one (ps_ret pe_str))
pss_nil)
(pss_one (ps_ret pe_non))))))))), ?_⟩
    refine ⟨_, rfl, v, d, rfl, s, fun H1 e1 => ⟨_, rfl, ?_⟩⟩
    cases hcd : callD d with
    | none =>
      refine iteT ?_
      have := q _ e1
      unfold reasonD at this
      rw [hcd] at this
      exact this
    | some p =>
      obtain ⟨a, b, ms, ds, ss⟩ := p
      refine iteF ?_
      obtain ⟨m, dv, sv, mvs, dvs, svs, ⟨x, rfl, g0⟩, la, ⟨ma, rfl, g1⟩, g2, l2, ⟨da, rfl, g3⟩, g4, l4, ⟨sa, rfl, g5⟩, g6, l6⟩ := s.call hcd
      refine ⟨_, rfl, _, ⟨x, rfl, sq_at e1 g0⟩, rfl, _, _, rfl, _, _, rfl, _, _, rfl, _, _, rfl, _, _, rfl, rfl, ?_⟩
      have hR : reasonD fs n ys d = (if (!wordB a || decide (a ∈ ys)) = true then some ("name" : Str) else if handB b = false then some ("hand" : Str) else if movesB n ms = false then some ("moves" : Str) else if deedsB fs ds = false then some ("deed" : Str) else if sameB fs b ss = false then some ("same" : Str) else none) := by
        unfold reasonD
        rw [hcd]
      refine ⟨fun t H' => t = (!wordB a || decide (a ∈ ys)) ∧ Same H H', ⟨_, rfl, _, rfl, .inl ⟨_, rfl, la, fun H2 e2 => ⟨_, rfl, ite2 (fun g7 => ?_) (fun g7 => ?_)⟩⟩⟩, ?_⟩
      · refine ⟨?_, e1.trans e2⟩
        rw [g7, Bool.true_or]
      · refine ⟨_, rfl, _, rfl, e, _, rfl, .inl ((e1.trans e2).seq he), rfl, flat_strs _, ?_⟩
        rw [inV_strs]
        refine ⟨_, rfl, ?_, e1.trans e2⟩
        rw [Bool.eq_false_iff.mpr g7, Bool.false_or]
        rfl
      rintro _ H2 ⟨rfl, e2⟩
      refine ite2 (fun g7 => ?_) (fun g7 => ?_)
      · have := q _ e2
        rw [hR, if_pos g7] at this
        exact this
      rw [if_neg g7] at hR
      refine ⟨_, rfl, C.hands, _, rfl, .inr (Cs.t_hands _), rfl, rfl, !handB b, ?_, ?_⟩
      · rw [show ([.str "self", .str "new", .str "last"] : List V) = (["self", "new", "last"] : List Str).map V.str from rfl, inV_strs]
        refine congrArg (fun c => V.bl (!c)) ?_
        unfold handB
        rw [Bool.eq_iff_iff]
        simp
      refine ite2 (fun g8 => ?_) (fun g8 => ?_)
      · rw [Bool.not_eq_true'] at g8
        have := q _ e2
        rw [hR, if_pos g8] at this
        exact this
      rw [Bool.not_eq_true', Bool.not_eq_false] at g8
      rw [if_neg (by rw [g8]; exact nofun)] at hR
      refine ⟨_, rfl, _, rfl, .ref ma, n, mvs, ms, rfl, ⟨ma, rfl, sq_at e2 g1⟩, g2.mono fun _ _ h => h.keep e2, l2, fun H3 e3 => ⟨_, rfl, ite2 (fun g9 => ?_) (fun g9 => ?_)⟩⟩
      · rw [Bool.not_eq_true'] at g9
        have := q _ (e2.trans e3)
        rw [hR, if_pos g9] at this
        exact this
      rw [Bool.not_eq_true', Bool.not_eq_false] at g9
      rw [if_neg (by rw [g9]; exact nofun)] at hR
      have e23 := e2.trans e3
      refine ⟨_, rfl, _, rfl, .ref da, so, fs, dvs, ds, rfl, ⟨da, rfl, sq_at e23 g3⟩, g4.mono fun _ _ h => h.keep e23, l4, e23 _ _ hso, nd, fun H4 e4 => ⟨_, rfl, ite2 (fun g10 => ?_) (fun g10 => ?_)⟩⟩
      · rw [Bool.not_eq_true'] at g10
        have := q _ (e23.trans e4)
        rw [hR, if_pos g10] at this
        exact this
      rw [Bool.not_eq_true', Bool.not_eq_false] at g10
      rw [if_neg (by rw [g10]; exact nofun)] at hR
      have e24 := e23.trans e4
      refine ⟨_, rfl, _, rfl, _, rfl, .ref sa, so, fs, b, svs, ss, rfl, ⟨sa, rfl, sq_at e24 g5⟩, g6.mono fun _ _ h => h.keep e24, l6, e24 _ _ hso, nd, fun H5 e5 => ⟨_, rfl, ite2 (fun g11 => ?_) (fun g11 => ?_)⟩⟩
      · rw [Bool.not_eq_true'] at g11
        have := q _ (e24.trans e5)
        rw [hR, if_pos g11] at this
        exact this
      · rw [Bool.not_eq_true', Bool.not_eq_false] at g11
        rw [if_neg (by rw [g11]; exact nofun)] at hR
        have := q _ (e24.trans e5)
        rw [hR] at this
        exact this
end
end MK
set_option Elab.async false
set_option linter.all false
set_option autoImplicit false
set_option maxRecDepth 100000
set_option maxHeartbeats 4000000
namespace MK
open PySem PySem.Spec PyProof.Rows L2
local macro_rules | `(tactic| walk_at "x") => `(tactic| dsimp only [tSeq, tAsg, tRet, tDrop, tLst, tTup, tCons, tOp, tUn, tIfS])
/-! ### no calls: the error that is due -/
def spCallsX (K : PySem.W.Frag) (CB : Addr) : Sp := fun vs H Q E => ∃ (v : V) (so : Addr) (n : Nat) (fs : List FD) (d : Dt) (i : Nat) (r : Str), vs = [v, .ref so, .int n] ∧ Sh K H v d ∧ H so = some (.dK (sortsV fs)) ∧ FsOk fs ∧ n ≤ 4 ∧
  (((sqD d = none ∨ sqD d = some []) ∧ i = 0 ∧ r = "call") ∨ ∃ ds cs, sqD d = some ds ∧ BadC fs n ds i cs r) ∧
  ∀ dd H', Same H H' → H dd = none → H' dd = some (.xd [("reason", .str r), ("index", .int i)]) → E (.ref CB) (some dd) H'
section
variable {P : Program} {w : World} {K : PySem.W.Frag} {mg : Str → Option Value} {base : Heap} {C : Cst} {CB : Addr}
theorem ok_callsX {f : Addr} {fd : FuncData} (F : DefX K mg "kept_calls" s_kept_calls ["calls", "sorts", "modes"] f fd) (T : Txt K mg) (Cs : Csts K w mg C) (c_is_list : Cal P w K mg base CX0 1 "is_list" (spListX K)) (c_wrong_part : Cal P w K mg base CX0 4 "wrong_part" (spWrongX K)) (c_kept_call : Cal P w K mg base CX0 1 "kept_call" (spKeptCall K))
    (r_Call : RaiseC P w K mg base 1 "BadCall" CB (spErr2 CB "index" "reason")) : Cal P w K mg base (L2.CX P w) 5 "kept_calls" (spCallsX K CB) := by
  refine cal_mkX F sc_kept_calls (fun vs H Q E h => ?_) (fun cdv A outer sh H vs Q E hr h => ?_)
  · obtain ⟨v, so, n, fs, d, i, r, rfl, _⟩ := h
    rfl
  · obtain ⟨v, so, n, fs, d, j, r, rfl, s, hso, fok, n4, hd, hE⟩ := h
    refine ⟨_, (pss_cons (ps_if (pt_cut (PW.pt (pw_or (pt_not (pt_val (pe_c c_is_list hr (by first | decide | assumption) rfl (pa_cons (pv 0) pa_nil)))) (pw_or1 (pt_cmpR op_eq (pe_callB call_len_seq (by rfl) T.len (by decide +kernel) (pa_cons (pv 0) pa_nil)) pe_int (nomark _))))))
(pss_one (ps_raiseC r_Call rfl (takes_of rfl rfl rfl rfl) hr (by decide) rfl (pa_cons pe_int (pa_cons pe_str pa_nil))))
pss_nil)
(pss_cons (ps_set (i := 3) sc_kept_calls.nd rfl (Or.inl rfl) (pe_lst pa_nil))
(pss_cons (ps_for PassesOwn.leaving rfl (pi_enV (by rfl) T.enumerate (pa_cons (pv 0) pa_nil)) (pg_tup (by rfl) (pgs_cons (pg_name (i := 4) sc_kept_calls.nd rfl (Or.inl rfl)) (pgs_cons (pg_name (i := 5) sc_kept_calls.nd rfl (Or.inl rfl)) pgs_nil)))
(pss_cons (ps_if (pt_cmpR op_ge (pv 4) (pe_cst rfl Cs.MOST_CALLS) (nomark _))
(pss_one (ps_raiseC r_Call rfl (takes_of rfl rfl rfl rfl) hr (by decide) rfl (pa_cons (pv 4) (pa_cons pe_str pa_nil))))
pss_nil)
(pss_cons (ps_set (i := 7) sc_kept_calls.nd rfl (Or.inl rfl) (pe_c c_wrong_part hr (by first | decide | assumption) rfl (pa_cons (pv 5) (pa_cons (pe_lc (own := [("call", 6)]) (g := (gName 6)) (tt := tYes) rfl sc_kept_calls.nd (pi_list (pv 3)) (blkOk_by (own := [("call", 6)]) (N := ["calls", "sorts", "modes", "kept", "index", "item", "call", "reason"]) (sc := defScope s_kept_calls) (by decide +kernel)) (fun _ _ _ _ _ => (pg_name (i := 6) sc_kept_calls.nd rfl (Or.inl rfl))) (fun _ _ _ _ _ => pts_nil) (fun _ _ _ _ _ => (pe_ix (ix_tupK (K := K) rfl) (pv 6) pe_int (fun _ _ => rfl)))) (pa_cons (pv 1) (pa_cons (pv 2) pa_nil))))))
(pss_cons (ps_if (pt_cmpR op_notN (pv 7) pe_non (nomark _))
(pss_one (ps_raiseC r_Call rfl (takes_of rfl rfl rfl rfl) hr (by decide) rfl (pa_cons (pv 4) (pa_cons (pv 7) pa_nil))))
pss_nil)
(pss_one (ps_expr (pe_bm PySem.F.plainAttrs_list PySem.F.slot_list_append PySem.F.type_list_append mt_append (pv 3) (pa_cons (pe_c c_kept_call hr (by first | decide | assumption) rfl (pa_cons (pv 5) pa_nil)) pa_nil))))))))
(pss_one (ps_ret (pe_callTy call_tuple_of (by rfl) T.tuple (by decide +kernel) (pa_cons (pv 3) pa_nil))))))), ?_⟩
    rcases hd with ⟨hd, rfl, rfl⟩ | ⟨ds, cs, hd, pre, d', hd', hbad⟩
    · refine ⟨fun t H' => t = true ∧ Same H H', ?_, ?_⟩
      · rcases hd with hd | hd
        · exact ⟨_, rfl, v, d, rfl, s, fun H1 e1 => ⟨false, congrArg V.bl (by rw [isSq_iff, hd]; rfl), iteT ⟨rfl, e1⟩⟩⟩
        · obtain ⟨vs, ⟨a, rfl, hs⟩, al, few⟩ := s.sq hd
          refine ⟨_, rfl, .ref a, d, rfl, s, fun H1 e1 => ⟨true, congrArg V.bl (by rw [isSq_iff, hd]; rfl), iteF ?_⟩⟩
          refine ⟨_, rfl, a, _, rfl, sq_at e1 hs, rfl, _, rfl, ?_, e1⟩
          rw [al.1]
          rfl
      · rintro _ H1 ⟨rfl, e1⟩
        exact iteT (rd_raise2 (fun R hR => hR) fun d2 H2 e2 h2 hx => hE d2 H2 (e1.trans e2) (none_of e1 h2) hx)
    · obtain ⟨vs, ⟨a, rfl, hv0⟩, hal, few⟩ := s.sq hd
      have jl := (List.getElem?_eq_some_iff.mp hd').1
      refine ⟨fun t H' => t = false ∧ Same H H', ⟨_, rfl, .ref a, d, rfl, s, fun H1 e1 => ⟨true, congrArg V.bl (by rw [isSq_iff, hd]; rfl), iteF ?_⟩⟩, ?_⟩
      · refine ⟨_, rfl, a, _, rfl, sq_at e1 hv0, rfl, _, rfl, ?_, e1⟩
        rw [hal.1, len_dec0]
        exact decide_eq_false (by omega)
      rintro _ H1 ⟨rfl, e1⟩
      refine iteF ?_
      refine ⟨by show 0 ≤ sizeLine; decide, fun D hD => ?_⟩
      have hD0 := none_of e1 hD
      refine ⟨_, rfl, a, vs, H, rfl, hv0, same_new e1 hD, fun J G wk hG => ?_⟩
      refine for_it wk (fun i σ H2 => i ≤ j ∧ Same H H2 ∧ ∃ kvs : List V, H2 D = some (.lst kvs) ∧ Al (CdT K (Off D H2)) kvs (cs.take i) ∧ ∃ x4 x5 x6 x7, σ = [some (.ref a), some (.ref so), some (.int n), some (.ref D), x4, x5, x6, x7])
        ⟨Nat.zero_le _, same_new e1 hD, [], upd_same, Al.nil, none, none, none, none, rfl⟩ (fun i σ H2 _ h => hG _ h.2.1) ?_ ?_
      · rintro i x σ H2 H3 hi ⟨ij, e2, kvs, d2, al, x4, x5, x6, x7, rfl⟩ ⟨U, _, y, rfl, hU, rfl, h1, hy⟩
        obtain rfl := Option.some.inj h1
        obtain ⟨g, hg, sg⟩ := hal.get hy
        have fl := pre.len
        have f6 := pre.le
        have e3 : Same H2 (upd H2 U (.tup [.int (i : Nat), y])) := same_new (Same.refl H2) hU
        refine ⟨U, _, rfl, SqT.of upd_same, rfl, _, _, rfl, _, _, rfl, rfl, ?_⟩
        by_cases q6 : i = 6
        · -- a seventh one
          obtain rfl : i = j := by omega
          have hr2 : r = "call" := hbad.elim (fun h => h.2) (fun h => by omega)
          subst hr2
          have e23 := e2.trans e3
          refine ⟨_, rfl, _, _, rfl, rfl, _, rfl, iteA (decide_eq_true (by omega)) ?_⟩
          exact rd_raise2 (fun R hR => ⟨_, rfl, hR⟩) fun d2 H6 e6 h6 hx => hE d2 H6 (e23.trans e6) (none_of e23 h6) hx
        refine ⟨_, rfl, _, _, rfl, rfl, _, rfl, iteB (decide_eq_false (by omega)) ?_⟩
        refine ⟨_, rfl, _, rfl, D, rfl, ⟨_, SqL.of (e3 _ _ d2)⟩, fun D2 hD2 => ?_⟩
        refine lc_list (K := K) (a := D) (xs := kvs) (fun j H4 => Same H2 H4 ∧ H4 D2 = some (.lst ((((cs.take i).take j).map (·.nm)).map V.str))) ⟨same_new e3 hD2, upd_same⟩ (fun j H4 _ h => SqL.of (h.1 _ _ d2)) ?_ ?_
        · rintro j v H4 hv4 ⟨e4, d4⟩
          obtain ⟨g, hg, m', d', s', ds', ⟨u, rfl, hu⟩, _⟩ := al.get hv4
          have hu4 := same_t (off_same.trans e4) hu
          refine ⟨rfl, ?_⟩
          refine ⟨_, rfl, u, _, 0, .str g.nm, rfl, rfl, hu4, rfl, _, d4, ?_, fun b o hb => ?_, ?_⟩
          · rw [List.length_map, List.length_map, List.length_take, List.length_take]
            exact Nat.lt_of_le_of_lt (by omega : _ ≤ 6) (by decide)
          · rw [upd_ne (ne_of_none (e3 _ _ hb) hD2)]
            exact e4 _ _ hb
          · rw [upd_same, List.take_succ (i := j), hg]
            simp
        rintro H4 ⟨e4, d4⟩
        rw [show kvs.length = (cs.take i).length from al.1, List.take_length] at d4
        have e24 := e2.trans e4
        refine ⟨_, rfl, _, rfl, y, D2, so, n, fs, (cs.take i).map (·.nm), g, rfl, sg.keep e24, SqL.of d4, e24 _ _ hso, fok.nd, fun H5 e5 => ?_⟩
        have e25 := e24.trans e5
        by_cases q : i = j
        · -- the one that is none
          subst q
          rw [hd'] at hg
          cases hg
          have hres := (hbad.resolve_left fun h => q6 h.1).2
          have hres' : reasonD fs n ((cs.take i).map (·.nm)) d' = some r := by
            rw [List.take_of_length_le (by omega)]
            exact hres
          rw [hres']
          refine ⟨_, rfl, rfl, _, rfl, iteT ?_⟩
          exact rd_raise2 (fun R hR => ⟨_, rfl, _, rfl, hR⟩) fun d2 H6 e6 h6 hx => hE d2 H6 (e25.trans e6) (none_of e25 h6) hx
        · have ilt : i < j := by omega
          obtain ⟨c, hc⟩ : ∃ c, cs[i]? = some c := ⟨_, List.getElem?_eq_getElem (by omega)⟩
          have hcm := List.mem_of_getElem? hc
          have hcd := pre.all i g c hg hc
          have hca : CdA K H y c := hcd.a sg
          rw [show reasonD fs n ((cs.take i).map (·.nm)) g = none from ?_]
          · refine ⟨_, rfl, rfl, _, rfl, iteF ?_⟩
            have d5 := (e4.trans e5) _ _ d2
            have Dn : H5 D ≠ none := by rw [d5]; exact nofun
            refine ⟨_, rfl, .inl ⟨rfl, _, SqL.of d5⟩, _, rfl, D, y, c, rfl, Dn, CdA.keep (same_offN e25 hD0) hca, (pre.ok c hcm).deeds, fun r H6 e6 hr6 => ?_⟩
            have kl : kvs.length < sizeLine := by
              rw [al.1, List.length_take]
              exact Nat.lt_of_le_of_lt (by omega : _ ≤ 6) (by decide)
            have d6 := e6 _ _ d5
            refine ⟨D, kvs, _, rfl, rfl, d6, kl, by omega, fun b o hb => ?_, _, upd_same, ?_, _, _, _, _, rfl⟩
            · rw [upd_ne (ne_of_none hb hD0)]
              exact e6 _ _ (e25 _ _ hb)
            · rw [off_put, List.take_succ, hc]
              exact (al.mono fun _ _ h => CdT.keep (same_off (e4.trans (e5.trans e6))) h).snoc hr6
          · exact reason_of hcd (pre.ok c hcm) (by rw [List.map_take]; exact nm_new pre.nd (by rw [List.getElem?_map, hc]; rfl))
      · rintro σ H2 ⟨ij, _⟩
        have := hal.1
        omega
end
end MK
set_option Elab.async false
set_option linter.all false
set_option autoImplicit false
set_option maxRecDepth 100000
set_option maxHeartbeats 4000000
namespace MK
open PySem PySem.Spec PyProof.Rows L2
local macro_rules | `(tactic| walk_at "x") => `(tactic| dsimp only [tSeq, tAsg, tRet, tDrop, tLst, tTup, tCons, tOp, tUn, tIfS])
/-! ### no kind is made: the error that is due -/
/-- the errors of Kind, by their classes -/
structure E3 where
  F : Addr
  M : Addr
  C : Addr
/-- the error that is due is raised -/
def Raised (A : E3) (mv : V) (E : XK) (S : Hp → Prop) (N : Addr → Prop) : Due → Prop
  | .fld i => ∀ d H', S H' → N d → H' d = some (.xd [("index", .int i)]) → E (.ref A.F) (some d) H'
  | .mod => ∀ d H', S H' → N d → H' d = some (.xd [("modes", mv)]) → E (.ref A.M) (some d) H'
  | .cal i r => ∀ d H', S H' → N d → H' d = some (.xd [("reason", .str r), ("index", .int i)]) → E (.ref A.C) (some d) H'
  | .told _ _ _ => False
def FlatSorts (d : Dt) : Prop := ∀ ds, sqD d = some ds → ∀ x ∈ ds, FlatSort x
def spKInitX (K : PySem.W.Frag) (KC : Addr) (Z : E3) : Sp := fun vs H Q E => ∃ (s x dx : Addr) (fv cv mv : V) (fd cd md : Dt) (r : Due), vs = [.ref x, fv, cv, mv] ∧ x ≠ s ∧ H s ≠ none ∧ H x = some (.ins KC dx []) ∧
  Sh K (Off x (Off s H)) fv fd ∧ FlatSorts fd ∧ Sh K (Off x (Off s H)) cv cd ∧ Sh K (Off x (Off s H)) mv md ∧ DueOf fd md cd r ∧ Raised Z mv E (fun H' => SameX x H H') (fun d => H d = none) r
section
variable {P : Program} {w : World} {K : PySem.W.Frag} {mg : Str → Option Value} {base : Heap} {C : Cst} {KC : Addr} {A3 : E3}
theorem run_kinitX (T : Txt K mg) (Z : KCls K KC) (c_kept_fields : Cal P w K mg base CX0 3 "kept_fields" (spFields K)) (c_is_modes : Cal P w K mg base CX0 2 "is_modes" (spModesX K)) (c_kept_calls : Cal P w K mg base CX0 5 "kept_calls" (spCalls K))
    (c_fieldsX : Cal P w K mg base (L2.CX P w) 3 "kept_fields" (spFieldsX K A3.F)) (c_callsX : Cal P w K mg base (L2.CX P w) 5 "kept_calls" (spCallsX K A3.C)) (r_Modes : RaiseC P w K mg base 1 "BadModes" A3.M (spErr1 A3.M "modes"))
    {f : Addr} {cdv : Value} {A : Around} {outer : List Env} {sh : Shared} {H : Hp} {vs : List V} {Q : VK} {E : XK} (hr : Room 5 (A.deeper (envOfC "Kind.__init__" (defScope s_Kind_init) sh.heap.objs.size f cdv))) (h : spKInitX K KC A3 vs H Q E) :
    ∃ t, PSs (cxOf (L2.CX P w) P w K mg base ["self", "fields", "calls", "modes", "name", "sort", "need", "at", "field", "call"] "Kind.__init__" (defScope s_Kind_init) f cdv A outer sh H E) (defBody s_Kind_init) t ∧ t { nx := fun _ H' => Q .non H', rt := Q } (start ["self", "fields", "calls", "modes", "name", "sort", "need", "at", "field", "call"] vs) H := by
  obtain ⟨s, x, dx, fv, cv, mv, fd, cd, md, r, rfl, xs, hs, hx, shf, flat, shc, shm, due, hE⟩ := h
  have bs : Same (Off x (Off s H)) H := off_same.trans off_same
  have fldC : ∀ i : Nat, r = .fld i → (((sqD fd = none ∨ sqD fd = some []) ∧ i = 0) ∨ ∃ ds fs, sqD fd = some ds ∧ (∀ x ∈ ds, FlatSort x) ∧ BadF ds i fs) → ∃ t, PSs (cxOf (L2.CX P w) P w K mg base ["self", "fields", "calls", "modes", "name", "sort", "need", "at", "field", "call"] "Kind.__init__" (defScope s_Kind_init) f cdv A outer sh H E) (defBody s_Kind_init) t ∧ t { nx := fun _ H' => Q .non H', rt := Q } (start ["self", "fields", "calls", "modes", "name", "sort", "need", "at", "field", "call"] [.ref x, fv, cv, mv]) H := by
    rintro i rfl hb
    refine ⟨_, (pss_cons (ps_fld (pv 0) (pe_cX (passes_call (takes_of rfl rfl rfl rfl) (fun _ _ _ _ h => h)) c_fieldsX hr (by first | decide | assumption) rfl (pa_cons (pv 1) pa_nil)) rfl)
(pss_cons (ps_fld (pv 0) (pe_dc (own := [("name", 4), ("sort", 5), ("need", 6)]) (g := (gTup K 3 (gCons (gName 4) (gCons (gName 5) (gCons (gName 6) gNil))))) (tt := tYes) rfl sc_Kind_init.nd (pi_tup (pe_fld (pv 0) rfl)) (blkOk_by (own := [("name", 4), ("sort", 5), ("need", 6)]) (N := ["self", "fields", "calls", "modes", "name", "sort", "need", "at", "field", "call"]) (sc := defScope s_Kind_init) (by decide +kernel)) (fun _ _ _ _ _ => (pg_tup (by rfl) (pgs_cons (pg_name (i := 4) sc_Kind_init.nd rfl (Or.inl rfl)) (pgs_cons (pg_name (i := 5) sc_Kind_init.nd rfl (Or.inl rfl)) (pgs_cons (pg_name (i := 6) sc_Kind_init.nd rfl (Or.inl rfl)) pgs_nil))))) (fun _ _ _ _ _ => pts_nil) (fun _ _ _ _ _ => (pv 4)) (fun _ _ _ _ _ => (pv 5))) rfl)
(pss_cons (ps_fld (pv 0) (pe_dc (own := [("at", 7), ("field", 8)]) (g := (gTup K 2 (gCons (gName 7) (gCons (gName 8) gNil)))) (tt := tYes) rfl sc_Kind_init.nd (pi_enumT (by rfl) T.enumerate (pa_cons (pe_fld (pv 0) rfl) pa_nil)) (blkOk_by (own := [("at", 7), ("field", 8)]) (N := ["self", "fields", "calls", "modes", "name", "sort", "need", "at", "field", "call"]) (sc := defScope s_Kind_init) (by decide +kernel)) (fun _ _ _ _ _ => (pg_tup (by rfl) (pgs_cons (pg_name (i := 7) sc_Kind_init.nd rfl (Or.inl rfl)) (pgs_cons (pg_name (i := 8) sc_Kind_init.nd rfl (Or.inl rfl)) pgs_nil)))) (fun _ _ _ _ _ => pts_nil) (fun _ _ _ _ _ => (pe_ix (ix_tupK (K := K) rfl) (pv 8) pe_int (fun _ _ => rfl))) (fun _ _ _ _ _ => (pv 7))) rfl)
(pss_cons (ps_if (pt_not (pt_val (pe_c c_is_modes hr (by first | decide | assumption) rfl (pa_cons (pv 3) pa_nil))))
(pss_one (ps_raiseC r_Modes rfl (takes_of rfl rfl rfl rfl) hr (by decide) rfl (pa_cons (pv 3) pa_nil)))
pss_nil)
(pss_cons (ps_fld (pv 0) (pv 3) rfl)
(pss_cons (ps_fld (pv 0) (pe_c c_kept_calls hr (by first | decide | assumption) rfl (pa_cons (pv 2) (pa_cons (pe_fld (pv 0) rfl) (pa_cons (pv 3) pa_nil)))) rfl)
(pss_one (ps_fld (pv 0) (pe_dc (own := [("call", 9)]) (g := (gName 9)) (tt := tYes) rfl sc_Kind_init.nd (pi_tup (pe_fld (pv 0) rfl)) (blkOk_by (own := [("call", 9)]) (N := ["self", "fields", "calls", "modes", "name", "sort", "need", "at", "field", "call"]) (sc := defScope s_Kind_init) (by decide +kernel)) (fun _ _ _ _ _ => (pg_name (i := 9) sc_Kind_init.nd rfl (Or.inl rfl))) (fun _ _ _ _ _ => pts_nil) (fun _ _ _ _ _ => (pe_ix (ix_tupK (K := K) rfl) (pv 9) pe_int (fun _ _ => rfl))) (fun _ _ _ _ _ => (pv 9))) rfl)))))))), ?_⟩
    exact ⟨_, rfl, fv, fd, i, rfl, shf.keep bs, hb, fun d H' e hd hx => hE d H' (same_sx e) hd hx⟩
  -- the fields are good
  suffices key : ∀ (ds : List Dt) (fs : List FD), sqD fd = some ds → 1 ≤ ds.length → PreF ds ds.length fs → ((r = .mod ∧ modesB md = false) ∨ ∃ (n i : Nat) (q : Str), r = .cal i q ∧ md = .int n ∧ 1 ≤ n ∧ n ≤ 4 ∧ (((sqD cd = none ∨ sqD cd = some []) ∧ i = 0 ∧ q = "call") ∨ ∃ es cs, sqD cd = some es ∧ BadC fs n es i cs q)) →
      ∃ t, PSs (cxOf (L2.CX P w) P w K mg base ["self", "fields", "calls", "modes", "name", "sort", "need", "at", "field", "call"] "Kind.__init__" (defScope s_Kind_init) f cdv A outer sh H E) (defBody s_Kind_init) t ∧ t { nx := fun _ H' => Q .non H', rt := Q } (start ["self", "fields", "calls", "modes", "name", "sort", "need", "at", "field", "call"] [.ref x, fv, cv, mv]) H by
    cases due with
    | f0 h => exact fldC 0 rfl (.inl ⟨h, rfl⟩)
    | f h1 h2 => exact fldC _ rfl (.inr ⟨_, _, h1, flat _ h1, h2⟩)
    | m h1 l1 h2 h3 => exact key _ _ h1 l1 h2 (.inl ⟨rfl, h3⟩)
    | c0 h1 l1 h2 h3 h4 h5 h6 => exact key _ _ h1 l1 h2 (.inr ⟨_, _, _, rfl, h3, h4, h5, .inl ⟨h6, rfl, rfl⟩⟩)
    | c h1 l1 h2 h3 h4 h5 h6 h7 => exact key _ _ h1 l1 h2 (.inr ⟨_, _, _, rfl, h3, h4, h5, .inr ⟨_, _, h6, h7⟩⟩)
    | told _ _ _ _ _ _ _ _ _ => exact hE.elim
  intro ds fs hsq l1 pre hb
  obtain ⟨fvs, hf, hal, few⟩ := shf.sq hsq
  have hfs := pre.a hal
  have okf : FsOk fs := pre.ok l1
  refine ⟨_, (pss_cons (ps_fld (pv 0) (pe_c c_kept_fields hr (by first | decide | assumption) rfl (pa_cons (pv 1) pa_nil)) rfl)
(pss_cons (ps_fld (pv 0) (pe_dc (own := [("name", 4), ("sort", 5), ("need", 6)]) (g := (gTup K 3 (gCons (gName 4) (gCons (gName 5) (gCons (gName 6) gNil))))) (tt := tYes) rfl sc_Kind_init.nd (pi_tup (pe_fld (pv 0) rfl)) (blkOk_by (own := [("name", 4), ("sort", 5), ("need", 6)]) (N := ["self", "fields", "calls", "modes", "name", "sort", "need", "at", "field", "call"]) (sc := defScope s_Kind_init) (by decide +kernel)) (fun _ _ _ _ _ => (pg_tup (by rfl) (pgs_cons (pg_name (i := 4) sc_Kind_init.nd rfl (Or.inl rfl)) (pgs_cons (pg_name (i := 5) sc_Kind_init.nd rfl (Or.inl rfl)) (pgs_cons (pg_name (i := 6) sc_Kind_init.nd rfl (Or.inl rfl)) pgs_nil))))) (fun _ _ _ _ _ => pts_nil) (fun _ _ _ _ _ => (pv 4)) (fun _ _ _ _ _ => (pv 5))) rfl)
(pss_cons (ps_fld (pv 0) (pe_dc (own := [("at", 7), ("field", 8)]) (g := (gTup K 2 (gCons (gName 7) (gCons (gName 8) gNil)))) (tt := tYes) rfl sc_Kind_init.nd (pi_enumT (by rfl) T.enumerate (pa_cons (pe_fld (pv 0) rfl) pa_nil)) (blkOk_by (own := [("at", 7), ("field", 8)]) (N := ["self", "fields", "calls", "modes", "name", "sort", "need", "at", "field", "call"]) (sc := defScope s_Kind_init) (by decide +kernel)) (fun _ _ _ _ _ => (pg_tup (by rfl) (pgs_cons (pg_name (i := 7) sc_Kind_init.nd rfl (Or.inl rfl)) (pgs_cons (pg_name (i := 8) sc_Kind_init.nd rfl (Or.inl rfl)) pgs_nil)))) (fun _ _ _ _ _ => pts_nil) (fun _ _ _ _ _ => (pe_ix (ix_tupK (K := K) rfl) (pv 8) pe_int (fun _ _ => rfl))) (fun _ _ _ _ _ => (pv 7))) rfl)
(pss_cons (ps_if (pt_not (pt_val (pe_c c_is_modes hr (by first | decide | assumption) rfl (pa_cons (pv 3) pa_nil))))
(pss_one (ps_raiseC r_Modes rfl (takes_of rfl rfl rfl rfl) hr (by decide) rfl (pa_cons (pv 3) pa_nil)))
pss_nil)
(pss_cons (ps_fld (pv 0) (pv 3) rfl)
(pss_cons (ps_fld (pv 0) (pe_cX (passes_call (takes_of rfl rfl rfl rfl) (fun _ _ _ _ h => h)) c_callsX hr (by first | decide | assumption) rfl (pa_cons (pv 2) (pa_cons (pe_fld (pv 0) rfl) (pa_cons (pv 3) pa_nil)))) rfl)
(pss_one (ps_fld (pv 0) (pe_dc (own := [("call", 9)]) (g := (gName 9)) (tt := tYes) rfl sc_Kind_init.nd (pi_tup (pe_fld (pv 0) rfl)) (blkOk_by (own := [("call", 9)]) (N := ["self", "fields", "calls", "modes", "name", "sort", "need", "at", "field", "call"]) (sc := defScope s_Kind_init) (by decide +kernel)) (fun _ _ _ _ _ => (pg_name (i := 9) sc_Kind_init.nd rfl (Or.inl rfl))) (fun _ _ _ _ _ => pts_nil) (fun _ _ _ _ _ => (pe_ix (ix_tupK (K := K) rfl) (pv 9) pe_int (fun _ _ => rfl))) (fun _ _ _ _ _ => (pv 9))) rfl)))))))), ?_⟩
  -- triples
  refine ⟨_, rfl, s, fv, fvs, fs, rfl, hs, hf.keep off_same, hfs.mono fun _ _ h => FdA.keep off_same h, okf, fun r rvs H1 e1 tr al => ?_⟩
  have x1 := e1 _ _ hx
  refine ⟨_, rfl, x, KC, dx, [], rfl, x1, Z.cls, Z.triples, by decide, ?_⟩
  have hB1 : Off s H1 x = some (.ins KC dx []) := (off_ne xs).trans x1
  have tr1 : Tu K (Off x (Off s H1)) r rvs := tr.off hB1 no_ins
  have al1 : Al (FdT K (Off x (Off s H1))) rvs fs := al.mono fun _ _ h => Tu.off h hB1 no_ins
  obtain ⟨ra, rfl, tra⟩ := tr1
  have e01 : SameX x H (upd H1 x (.ins KC dx [("triples", .ref ra)])) := (same_sx e1).put
  have hB : ∀ {H' : Hp} {o : HO}, Off x (Off s (upd H' x o)) = Off x (Off s H') := by
    intro H' o
    rw [off_upd xs, off_put]
  have hs2 : upd H1 x (.ins KC dx [("triples", .ref ra)]) s ≠ none := by
    rw [upd_ne (Ne.symm xs)]
    exact kept_s hs e1
  have F2 : SqT K (Off x (Off s (upd H1 x (.ins KC dx [("triples", .ref ra)])))) ra rvs ∧ Al (FdT K (Off x (Off s (upd H1 x (.ins KC dx [("triples", .ref ra)]))))) rvs fs := by
    rw [hB]
    exact ⟨tra, al1⟩
  have C2 : Sh K (Off x (Off s (upd H1 x (.ins KC dx [("triples", .ref ra)])))) cv cd ∧ Sh K (Off x (Off s (upd H1 x (.ins KC dx [("triples", .ref ra)])))) mv md := by
    rw [hB]
    exact ⟨shc.keep (same_off (same_off e1)), shm.keep (same_off (same_off e1))⟩
  have x2 : upd H1 x (.ins KC dx [("triples", .ref ra)]) x = some (.ins KC dx [("triples", .ref ra)]) := upd_same
  show tSeq _ _ _ _ (upd H1 x (.ins KC dx [("triples", .ref ra)]))
  generalize upd H1 x (.ins KC dx [("triples", .ref ra)]) = H2 at e01 hs2 F2 C2 x2
  have rl : rvs.length ≤ 3 := by rw [al.1]; exact okf.le
  -- sorts
  refine ⟨_, rfl, x, KC, dx, _, .ref ra, rfl, x2, Z.cls, Z.triples, rfl, ra, rfl, ⟨rvs, same_t (off_same.trans off_same) F2.1⟩, fun D hD => ?_⟩
  refine dc_it (walk_tup (K := K) (a := ra) (xs := rvs)) (fun i H' => Same H2 H' ∧ H' D = some (.dK ((sortsV fs).take i))) ⟨same_new (Same.refl H2) hD, upd_same⟩ (fun i H' _ h => same_t ((off_same.trans off_same).trans h.1) F2.1) ?_ ?_
  · rintro i v H3' H3 hi ⟨e3, d3⟩ ⟨rfl, hv⟩
    obtain ⟨f', hf', u, rfl, hu⟩ := F2.2.get hv
    refine ⟨u, FdV f', rfl, same_t ((off_same.trans off_same).trans e3) hu, rfl, _, _, rfl, _, _, rfl, _, _, rfl, rfl, rfl, ?_⟩
    refine ⟨_, rfl, _, rfl, _, .inr f'.nm, rfl, d3, ?_, fun b o hb => ?_, ?_⟩
    · exact Nat.lt_of_le_of_lt (Nat.le_trans (List.length_take_le' ..) (by rw [sorts_len]; exact okf.le)) (by decide)
    · rw [upd_ne (ne_of_none hb hD)]
      exact e3 _ _ hb
    · rw [upd_same, put_take (sorts_nd okf.nd) (sorts_at hf')]
  rintro H3 ⟨e3, d3⟩
  rw [show rvs.length = (sortsV fs).length by rw [sorts_len]; exact F2.2.1, List.take_length] at d3
  have x3 := e3 _ _ x2
  refine ⟨_, rfl, x, KC, dx, _, rfl, x3, Z.cls, Z.sorts, by simp, ?_⟩
  show tSeq _ _ _ _ (upd H3 x (.ins KC dx [("triples", .ref ra), ("sorts", .ref D)]))
  have Dx : D ≠ x := fun e => by rw [e, x3] at d3; cases d3
  have Ds : D ≠ s := ne_s hs2 (Same.refl H2) hD
  have e04 : SameX x H (upd H3 x (.ins KC dx [("triples", .ref ra), ("sorts", .ref D)])) := (e01.trans (same_sx e3)).put
  have b24 : Same (Off x (Off s H2)) (Off x (Off s (upd H3 x (.ins KC dx [("triples", .ref ra), ("sorts", .ref D)])))) := by
    rw [hB]
    exact same_off (same_off e3)
  have hs4 : upd H3 x (.ins KC dx [("triples", .ref ra), ("sorts", .ref D)]) s ≠ none := by
    rw [upd_ne (Ne.symm xs)]
    exact kept_s hs2 e3
  have d4 : Off x (Off s (upd H3 x (.ins KC dx [("triples", .ref ra), ("sorts", .ref D)]))) D = some (.dK (sortsV fs)) := by
    rw [hB, off_ne Dx, off_ne Ds]
    exact d3
  have x4 : upd H3 x (.ins KC dx [("triples", .ref ra), ("sorts", .ref D)]) x = some (.ins KC dx [("triples", .ref ra), ("sorts", .ref D)]) := upd_same
  generalize upd H3 x (.ins KC dx [("triples", .ref ra), ("sorts", .ref D)]) = H4 at e04 b24 hs4 d4 x4
  -- spots
  refine ⟨_, rfl, x, KC, dx, _, .ref ra, rfl, x4, Z.cls, Z.triples, rfl, ra, rvs, rfl, same_t (b24.trans (off_same.trans off_same)) F2.1, fun D2 hD2 => ?_⟩
  refine dc_it (walk_enumT (K := K) (a := ra) (xs := rvs)) (fun i H' => Same H4 H' ∧ H' D2 = some (.dK ((spotsV fs).take i))) ⟨same_new (Same.refl H4) hD2, upd_same⟩ (fun i H' _ h => same_t ((b24.trans (off_same.trans off_same)).trans h.1) F2.1) ?_ ?_
  · rintro i v H5 H5' hi ⟨e5, d5⟩ ⟨U, _, y, rfl, hU, rfl, h1, hy⟩
    obtain rfl := Option.some.inj h1
    obtain ⟨f', hf', u, rfl, hu⟩ := F2.2.get hy
    have e6 : Same H5 (upd H5 U (.tup [.int (i : Nat), .ref u])) := same_new (Same.refl H5) hU
    have hu6 : SqT K (upd H5 U (.tup [.int (i : Nat), .ref u])) u (FdV f') := same_t ((b24.trans (off_same.trans off_same)).trans (e5.trans e6)) hu
    refine ⟨U, _, rfl, SqT.of upd_same, rfl, _, _, rfl, _, _, rfl, rfl, rfl, ?_⟩
    refine ⟨_, rfl, u, _, 0, .str f'.nm, rfl, rfl, hu6, rfl, _, rfl, _, .inr f'.nm, rfl, e6 _ _ d5, ?_, fun b o hb => ?_, ?_⟩
    · exact Nat.lt_of_le_of_lt (Nat.le_trans (List.length_take_le' ..) (by rw [spots_len]; exact okf.le)) (by decide)
    · rw [upd_ne (ne_of_none hb hD2)]
      exact e6 _ _ (e5 _ _ hb)
    · rw [upd_same, put_take (spots_nd okf.nd) (spots_at hf')]
  rintro H5 ⟨e5, d5⟩
  rw [show rvs.length = (spotsV fs).length by rw [spots_len]; exact F2.2.1, List.take_length] at d5
  have x5 := e5 _ _ x4
  refine ⟨_, rfl, x, KC, dx, _, rfl, x5, Z.cls, Z.spots, by simp, ?_⟩
  show tSeq _ _ _ _ (upd H5 x (.ins KC dx [("triples", .ref ra), ("sorts", .ref D), ("spots", .ref D2)]))
  have D2x : D2 ≠ x := fun e => by rw [e, x5] at d5; cases d5
  have D2s : D2 ≠ s := ne_s hs4 (Same.refl H4) hD2
  have e06 : SameX x H (upd H5 x (.ins KC dx [("triples", .ref ra), ("sorts", .ref D), ("spots", .ref D2)])) := (e04.trans (same_sx e5)).put
  have b26 : Same (Off x (Off s H4)) (Off x (Off s (upd H5 x (.ins KC dx [("triples", .ref ra), ("sorts", .ref D), ("spots", .ref D2)])))) := by
    rw [hB]
    exact same_off (same_off e5)
  have hs6 : upd H5 x (.ins KC dx [("triples", .ref ra), ("sorts", .ref D), ("spots", .ref D2)]) s ≠ none := by
    rw [upd_ne (Ne.symm xs)]
    exact kept_s hs4 e5
  have d6 : Off x (Off s (upd H5 x (.ins KC dx [("triples", .ref ra), ("sorts", .ref D), ("spots", .ref D2)]))) D2 = some (.dK (spotsV fs)) := by
    rw [hB, off_ne D2x, off_ne D2s]
    exact d5
  have x6 : upd H5 x (.ins KC dx [("triples", .ref ra), ("sorts", .ref D), ("spots", .ref D2)]) x = some (.ins KC dx [("triples", .ref ra), ("sorts", .ref D), ("spots", .ref D2)]) := upd_same
  have nn6 : ∀ d, upd H5 x (.ins KC dx [("triples", .ref ra), ("sorts", .ref D), ("spots", .ref D2)]) d = none → H d = none := fun d hd => by
    by_cases q : d = x
    · rw [q, upd_same] at hd
      cases hd
    · exact noneX e06 q hd
  generalize upd H5 x (.ins KC dx [("triples", .ref ra), ("sorts", .ref D), ("spots", .ref D2)]) = H6 at e06 b26 hs6 d6 x6 nn6
  -- modes
  have b26' : Same (Off x (Off s H2)) H6 := (b24.trans b26).trans (off_same.trans off_same)
  rcases hb with ⟨rfl, hm⟩ | ⟨n, i, q, rfl, rfl, n1, n4, hb⟩
  · refine ⟨_, rfl, mv, md, rfl, C2.2.keep b26', false, congrArg V.bl hm, iteT ?_⟩
    exact rd_raise1 (fun R hR => ⟨_, rfl, hR⟩) fun d H' e hd hx => hE d H' (e06.trans (same_sx e)) (nn6 _ hd) hx
  obtain rfl := shm.int'
  refine ⟨_, rfl, .int n, .int n, rfl, .int _, true, congrArg V.bl ?_, iteF ?_⟩
  · show (decide ((1 : Int) ≤ n) && decide ((n : Int) ≤ 4)) = true
    rw [decide_eq_true (by omega : (1 : Int) ≤ n), decide_eq_true (by omega : (n : Int) ≤ 4)]
    rfl
  refine ⟨_, rfl, _, rfl, x, KC, dx, _, rfl, x6, Z.cls, Z.modes, by simp, ?_⟩
  show tSeq _ _ _ _ (upd H6 x (.ins KC dx [("triples", .ref ra), ("sorts", .ref D), ("spots", .ref D2), ("modes", .int n)]))
  have e07 : SameX x H (upd H6 x (.ins KC dx [("triples", .ref ra), ("sorts", .ref D), ("spots", .ref D2), ("modes", .int n)])) := e06.put
  have b67 : Off x (Off s (upd H6 x (.ins KC dx [("triples", .ref ra), ("sorts", .ref D), ("spots", .ref D2), ("modes", .int n)]))) = Off x (Off s H6) := hB
  have hs7 : upd H6 x (.ins KC dx [("triples", .ref ra), ("sorts", .ref D), ("spots", .ref D2), ("modes", .int n)]) s ≠ none := by
    rw [upd_ne (Ne.symm xs)]
    exact hs6
  have x7 : upd H6 x (.ins KC dx [("triples", .ref ra), ("sorts", .ref D), ("spots", .ref D2), ("modes", .int n)]) x = some (.ins KC dx [("triples", .ref ra), ("sorts", .ref D), ("spots", .ref D2), ("modes", .int n)]) := upd_same
  have nn7 : ∀ d, upd H6 x (.ins KC dx [("triples", .ref ra), ("sorts", .ref D), ("spots", .ref D2), ("modes", .int n)]) d = none → H d = none := fun d hd => by
    by_cases q : d = x
    · rw [q, upd_same] at hd
      cases hd
    · exact noneX e07 q hd
  generalize upd H6 x (.ins KC dx [("triples", .ref ra), ("sorts", .ref D), ("spots", .ref D2), ("modes", .int n)]) = H7 at e07 b67 hs7 x7 nn7
  have b47 : Same (Off x (Off s H4)) (Off x (Off s H7)) := by
    rw [b67]
    exact b26
  have b27 := b24.trans b47
  rw [← b67] at d6
  refine ⟨_, rfl, _, rfl, x, KC, dx, _, .ref D, rfl, x7, Z.cls, Z.sorts, rfl, _, rfl, cv, D, n, fs, cd, i, q, rfl, C2.1.keep (b27.trans (off_same.trans off_same)), (b47.trans (off_same.trans off_same)) _ _ d4, okf, n4, hb, fun d H' e hd hx => ?_⟩
  exact hE d H' (e07.trans (same_sx e)) (nn7 _ hd) hx
end
end MK
set_option Elab.async false
set_option linter.all false
set_option autoImplicit false
set_option maxRecDepth 100000
set_option maxHeartbeats 4000000
namespace MK
open PySem PySem.Spec PyProof.Rows L2
local macro_rules | `(tactic| walk_at "x") => `(tactic| dsimp only [tSeq, tAsg, tRet, tDrop, tLst, tTup, tCons, tOp, tUn, tIfS])
/-! ### errors that are due, raised and held -/
abbrev s_error : Stmt := topS 59
theorem sc_error : FnScope ["_law_e"] ["_law_e"] (defScope s_error) := ⟨rfl, rfl, rfl, by decide +kernel, rfl, by decide +kernel, by decide +kernel⟩
abbrev s_tried : Stmt := topS 58
theorem sc_tried : FnScope ["_law_deed", "_law_e"] ["_law_deed"] (defScope s_tried) := ⟨rfl, rfl, rfl, by decide +kernel, rfl, by decide +kernel, by decide +kernel⟩
abbrev s_BadField_init : Stmt := inClass (topS 3) 0
theorem sc_BadField_init : FnScope ["self", "index"] ["self", "index"] (defScope s_BadField_init) := ⟨rfl, rfl, rfl, by decide +kernel, rfl, by decide +kernel, by decide +kernel⟩
abbrev s_BadModes_init : Stmt := inClass (topS 4) 0
theorem sc_BadModes_init : FnScope ["self", "modes"] ["self", "modes"] (defScope s_BadModes_init) := ⟨rfl, rfl, rfl, by decide +kernel, rfl, by decide +kernel, by decide +kernel⟩
abbrev s_BadCall_init : Stmt := inClass (topS 5) 0
theorem sc_BadCall_init : FnScope ["self", "index", "reason"] ["self", "index", "reason"] (defScope s_BadCall_init) := ⟨rfl, rfl, rfl, by decide +kernel, rfl, by decide +kernel, by decide +kernel⟩
theorem pe_nev {X : Cx} {e : Expr} : PE X e (fun _ _ _ => False) := ⟨fun _ _ _ _ _ _ h => h.elim⟩
structure EB where
  BadField : Addr
  BadModes : Addr
  BadCall : Addr
  UnknownCall : Addr
  BadPlace : Addr
  BadText : Addr
  BadRow : Addr
  MakerError : Addr
def EB.e3 (A : EB) : E3 := ⟨A.BadField, A.BadModes, A.BadCall⟩
structure ErrM (K : PySem.W.Frag) (mg : Str → Option Value) (A : EB) : Prop where
  g_BadField : mg "BadField" = some (.ref A.BadField)
  g_BadModes : mg "BadModes" = some (.ref A.BadModes)
  g_BadCall : mg "BadCall" = some (.ref A.BadCall)
  g_UnknownCall : mg "UnknownCall" = some (.ref A.UnknownCall)
  g_BadPlace : mg "BadPlace" = some (.ref A.BadPlace)
  g_BadText : mg "BadText" = some (.ref A.BadText)
  g_BadRow : mg "BadRow" = some (.ref A.BadRow)
  g_MakerError : mg "MakerError" = some (.ref A.MakerError)
  iF : ErrI K A.BadField
  fF : ErrF K A.BadField
  nF : PySem.W.findIn K (.ref A.BadField) "index" = some none
  iM : ErrI K A.BadModes
  fM : ErrF K A.BadModes
  nM : PySem.W.findIn K (.ref A.BadModes) "modes" = some none
  iC : ErrI K A.BadCall
  fC : ErrF K A.BadCall
  nC : PySem.W.findIn K (.ref A.BadCall) "index" = some none
  rC : PySem.W.findIn K (.ref A.BadCall) "reason" = some none
  f1 : PySem.W.kitOne K (.ref A.BadField) (.ref A.BadField) = some true
  m1 : PySem.W.kitOne K (.ref A.BadModes) (.ref A.BadField) = some false
  m2 : PySem.W.kitOne K (.ref A.BadModes) (.ref A.BadModes) = some true
  c1 : PySem.W.kitOne K (.ref A.BadCall) (.ref A.BadField) = some false
  c2 : PySem.W.kitOne K (.ref A.BadCall) (.ref A.BadModes) = some false
  c3 : PySem.W.kitOne K (.ref A.BadCall) (.ref A.BadCall) = some true
  mF : PySem.W.exmOne K (.ref A.BadField) (.ref A.MakerError) = some true
  mM : PySem.W.exmOne K (.ref A.BadModes) (.ref A.MakerError) = some true
  mC : PySem.W.exmOne K (.ref A.BadCall) (.ref A.MakerError) = some true
def spErr3 (A : EB) : SpP := fun a cls d vs H Q _ => vs = [.ref a] ∧ ∃ (dd : Addr) (v : V), d = some dd ∧
  ((cls = .ref A.BadField ∧ H dd = some (.xd [("index", v)]) ∧ ∀ p, H p = none → Q (.ref p) (upd H p (.tup [.str "field", v]))) ∨
   (cls = .ref A.BadModes ∧ H dd = some (.xd [("modes", v)]) ∧ ∀ p, H p = none → Q (.ref p) (upd H p (.tup [.str "modes", v]))) ∨
   ∃ u, cls = .ref A.BadCall ∧ H dd = some (.xd [("reason", u), ("index", v)]) ∧ ∀ p q, H p = none → upd H p (.tup [v, u]) q = none → Q (.ref q) (upd (upd H p (.tup [v, u])) q (.tup [.str "call", .ref p])))
section
variable {P : Program} {w : World} {K : PySem.W.Frag} {mg : Str → Option Value} {base : Heap} {A : EB}
theorem ok_err3 {f : Addr} {fd : FuncData} (F : DefX K mg "_law_error" s_error ["_law_e"] f fd) (T : Txt K mg) (W : ErrM K mg A) : FnP P w K mg base 1 f fd ["_law_e"] (spErr3 A) := by
  refine fnP_of F sc_error (fun a cls d vs H Q h => ?_) (fun cdv Ar outer sh H vs Q a oe cls d hz hf hr h => ?_)
  · rw [h.1]
    rfl
  · obtain ⟨rfl, dd, v, rfl, h⟩ := h
    have hp : (a, oe) ∈ [(a, oe)] := List.mem_cons_self
    refine ⟨_, (pss_cons (ps_if (pt_val (pe_callB (call_isP hp hz hf) (by rfl) T.isinstance (by decide +kernel) (pa_cons (pv 0) (pa_cons (pe_refv (by rfl) W.g_BadField) pa_nil))))
(pss_one (ps_ret (pe_tup (pa_cons pe_str (pa_cons (pe_errP hp hz hf (pv 0)) pa_nil)))))
pss_nil)
(pss_cons (ps_if (pt_val (pe_callB (call_isP hp hz hf) (by rfl) T.isinstance (by decide +kernel) (pa_cons (pv 0) (pa_cons (pe_refv (by rfl) W.g_BadModes) pa_nil))))
(pss_one (ps_ret (pe_tup (pa_cons pe_str (pa_cons (pe_errP hp hz hf (pv 0)) pa_nil)))))
pss_nil)
(pss_cons (ps_if (pt_val (pe_callB (call_isP hp hz hf) (by rfl) T.isinstance (by decide +kernel) (pa_cons (pv 0) (pa_cons (pe_refv (by rfl) W.g_BadCall) pa_nil))))
(pss_one (ps_ret (pe_tup (pa_cons pe_str (pa_cons (pe_tup (pa_cons (pe_errP hp hz hf (pv 0)) (pa_cons (pe_errP hp hz hf (pv 0)) pa_nil))) pa_nil)))))
pss_nil)
(pss_cons (ps_if (pt_val (pe_callB (call_isP hp hz hf) (by rfl) T.isinstance (by decide +kernel) (pa_cons (pv 0) (pa_cons (pe_refv (by rfl) W.g_UnknownCall) pa_nil))))
(pss_one (ps_ret (pe_tup (pa_cons pe_str (pa_cons (pe_errP hp hz hf (pv 0)) pa_nil)))))
pss_nil)
(pss_cons (ps_if (pt_val (pe_callB (call_isP hp hz hf) (by rfl) T.isinstance (by decide +kernel) (pa_cons (pv 0) (pa_cons (pe_refv (by rfl) W.g_BadPlace) pa_nil))))
(pss_one (ps_ret (pe_tup (pa_cons pe_str (pa_cons (pe_errP hp hz hf (pv 0)) pa_nil)))))
pss_nil)
(pss_cons (ps_if (pt_val (pe_callB (call_isP hp hz hf) (by rfl) T.isinstance (by decide +kernel) (pa_cons (pv 0) (pa_cons (pe_refv (by rfl) W.g_BadText) pa_nil))))
(pss_one (ps_ret (pe_tup (pa_cons pe_str (pa_cons (pe_errP hp hz hf (pv 0)) pa_nil)))))
pss_nil)
(pss_cons (ps_if (pt_val (pe_callB (call_isP hp hz hf) (by rfl) T.isinstance (by decide +kernel) (pa_cons (pv 0) (pa_cons (pe_refv (by rfl) W.g_BadRow) pa_nil))))
(pss_one (ps_ret (pe_tup (pa_cons pe_str (pa_cons (pe_errP hp hz hf (pv 0)) pa_nil)))))
pss_nil)
(pss_one (ps_ret (pe_nev)))))))))), ?_⟩
    rcases h with ⟨rfl, hd, q⟩ | ⟨rfl, hd, q⟩ | ⟨u, rfl, hd, q⟩
    · refine ⟨_, rfl, A.BadField, dd, _, _, _, true, rfl, rfl, rfl, hd, W.iF, .own _, W.f1, true, rfl, iteT ?_⟩
      exact ⟨_, rfl, rfl, A.BadField, dd, _, v, rfl, rfl, W.fF, W.nF, hd, rfl, by show 2 ≤ sizeLine; decide, fun p hp => q p hp⟩
    · refine ⟨_, rfl, A.BadModes, dd, _, _, _, false, rfl, rfl, rfl, hd, W.iM, .own _, W.m1, false, rfl, iteF ?_⟩
      refine ⟨_, rfl, A.BadModes, dd, _, _, _, true, rfl, rfl, rfl, hd, W.iM, .own _, W.m2, true, rfl, iteT ?_⟩
      exact ⟨_, rfl, rfl, A.BadModes, dd, _, v, rfl, rfl, W.fM, W.nM, hd, rfl, by show 2 ≤ sizeLine; decide, fun p hp => q p hp⟩
    · refine ⟨_, rfl, A.BadCall, dd, _, _, _, false, rfl, rfl, rfl, hd, W.iC, .own _, W.c1, false, rfl, iteF ?_⟩
      refine ⟨_, rfl, A.BadCall, dd, _, _, _, false, rfl, rfl, rfl, hd, W.iC, .own _, W.c2, false, rfl, iteF ?_⟩
      refine ⟨_, rfl, A.BadCall, dd, _, _, _, true, rfl, rfl, rfl, hd, W.iC, .own _, W.c3, true, rfl, iteT ?_⟩
      refine ⟨_, rfl, rfl, A.BadCall, dd, _, v, rfl, rfl, W.fC, W.nC, hd, rfl, _, rfl, rfl, A.BadCall, dd, _, u, rfl, rfl, W.fC, W.rC, hd, rfl, by show 2 ≤ sizeLine; decide, fun p hp => ⟨by show 2 ≤ sizeLine; decide, fun r hr => q p r hp hr⟩⟩
theorem ok_BadField {f C : Addr} {fd : FuncData} (F : Fun K "__init__" "BadField.__init__" s_BadField_init f fd) (T : OexC K C) (hn : PySem.W.findIn K (.ref C) "index" = some none) : FnOk P w K mg base CX0 1 f fd ["self", "index"] (spErr1 C "index") := by
  refine F.ok sc_BadField_init (fun vs H Q E h => ?_) (fun cdv A outer s H vs Q E hr h => ?_)
  · obtain ⟨a, v, rfl, _⟩ := h
    rfl
  · obtain ⟨a, v, rfl, ha, k⟩ := h
    exact ⟨_, (pss_one (ps_ost (pv 0) (pv 1))), ⟨_, rfl, _, rfl, a, C, rfl, T, hn, .inl ⟨ha, k⟩⟩⟩
theorem ok_BadModes {f C : Addr} {fd : FuncData} (F : Fun K "__init__" "BadModes.__init__" s_BadModes_init f fd) (T : OexC K C) (hn : PySem.W.findIn K (.ref C) "modes" = some none) : FnOk P w K mg base CX0 1 f fd ["self", "modes"] (spErr1 C "modes") := by
  refine F.ok sc_BadModes_init (fun vs H Q E h => ?_) (fun cdv A outer s H vs Q E hr h => ?_)
  · obtain ⟨a, v, rfl, _⟩ := h
    rfl
  · obtain ⟨a, v, rfl, ha, k⟩ := h
    exact ⟨_, (pss_one (ps_ost (pv 0) (pv 1))), ⟨_, rfl, _, rfl, a, C, rfl, T, hn, .inl ⟨ha, k⟩⟩⟩
theorem ok_BadCall {f C : Addr} {fd : FuncData} (F : Fun K "__init__" "BadCall.__init__" s_BadCall_init f fd) (T : OexC K C) (hn : PySem.W.findIn K (.ref C) "index" = some none) (hm : PySem.W.findIn K (.ref C) "reason" = some none) : FnOk P w K mg base CX0 1 f fd ["self", "index", "reason"] (spErr2 C "index" "reason") := by
  refine F.ok sc_BadCall_init (fun vs H Q E h => ?_) (fun cdv A outer s H vs Q E hr h => ?_)
  · obtain ⟨a, v, u, rfl, _⟩ := h
    rfl
  · obtain ⟨a, v, u, rfl, ha, k⟩ := h
    refine ⟨_, (pss_cons (ps_ost (pv 0) (pv 1))
(pss_one (ps_ost (pv 0) (pv 2)))), ⟨_, rfl, _, rfl, a, C, rfl, T, hn, .inl ⟨ha, fun d hd da => ?_⟩⟩⟩
    exact ⟨_, rfl, _, rfl, a, C, rfl, T, hm, .inr ⟨d, _, upd_same, (upd_ne da).trans upd_same, (by show 1 ≤ 900; decide), k d hd da⟩⟩
end
/-! ### what is tried -/
def TTried3 (A : EB) : (XK → Hp → VK → Prop) → Hp → VK → Prop := fun tl H Q =>
  tl (fun cls d H' => (cls = .ref A.BadField ∨ cls = .ref A.BadModes ∨ cls = .ref A.BadCall) ∧ ∀ a, H' a = none → spErr3 A a cls d [.ref a] H' Q E0) H fun v H' => ([V.str "told", v] : List V).length ≤ sizeLine ∧ ∀ p, H' p = none → Q (.ref p) (upd H' p (.tup [.str "told", v]))
def tVarL (n i : Nat) : TE := fun σ H Q => ∃ v : V, (σ.length = n → σ[i]? = some (some v)) ∧ Q v H
theorem pe_varL {X : Cx} {x : Str} {n i : Nat} {pos : Pos} (hl : X.N.length = n) (hN : X.N[i]? = some x := by rfl) (hv : Vis X.env.scope x := by first | exact .inl rfl | exact .inr (.inl rfl)) (hd : (x == ("__debug__" : Str)) = false := by decide) (hcd : (x == ("__classdict__" : Str)) = false := by decide) :
    PE X (.Name x pos) (tVarL n i) := ⟨fun pins s σ H Q I ⟨v, h, q⟩ => (pe_var (i := i) hN hv hd hcd).run pins s σ H Q I ⟨v, h (I.len.trans hl), q⟩⟩
theorem tried_gives3 {X : Cx} {A : EB} {fe g : Addr} {fde : FuncData} {cdg : Value} {q : Str} (F : FnP X.prog X.w X.K X.mg X.base 1 fe fde ["_law_e"] (spErr3 A)) (W : ErrM X.K X.mg A) (hm : X.mg "_law_error" = some (.ref fe)) (hk : PySem.W.keepIn X.K (.ref fe) = true) (hb : Binds X.K fde ["_law_e"] []) (hr : Room 3 X.A) :
    LamX.GivesTo X ["_law_deed", "_law_e"] "_law_tried" (defScope s_tried) g cdg (defBody s_tried) "_law_deed" q (TTried3 A) := by
  intro f c' s H Q tl act hc h
  have hrH : ∀ (a : Addr), L2H.RoomH 1 (((cxOf C8.CX0 X.prog X.w X.K X.mg X.base ["_law_deed", "_law_e"] "_law_tried" (defScope s_tried) g cdg X.A X.stack s H C8.E0).nox.A).mark (some (.ref a))) := fun a => by
    have r := (hr.mono (j := 2) (by decide)).deeper (envOfC "_law_tried" (defScope s_tried) s.heap.objs.size g cdg)
    exact ⟨r.dp, r.un⟩
  refine ⟨_, pss_one (ps_try_as (X := (cxOf C8.CX0 X.prog X.w X.K X.mg X.base ["_law_deed", "_law_e"] "_law_tried" (defScope s_tried) g cdg X.A X.stack s H C8.E0).nox) (c := .ref A.MakerError) (i := 1)
      (tb := fun W D σ H => ∃ Ech : XK, (∀ cls d σ' H', Ech cls d H' → W cls d σ' H') ∧ σ[0]? = some (some (.ref f)) ∧ H c' = some (LamX.CodeO c' q) ∧ tl Ech H fun v H' => ([V.str "told", v] : List V).length ≤ sizeLine ∧ ∀ p, H' p = none → D.rt (.ref p) (upd H' p (.tup [.str "told", v])))
      (ts := fun a cls d => tRet (tCallP (spErr3 A) a cls d (tCons (tVarL 2 1) tNil)))
      (Wout := fun _ _ _ _ => False) rfl rfl sc_tried.nd rfl rfl ⟨rfl, by decide, .inl W.g_MakerError⟩ LamX.takes0 (fun W pn xe tk _ => ?_)
      (fun a oe cls d pn hz hf => pss_one (ps_ret (pe_callP (X := Cx.suite _ a ((a, oe) :: pn)) List.mem_cons_self hz hf F (hrH a) rfl hm hk hb (pa_cons (pe_varL rfl) pa_nil))))), ?_⟩
  · refine ⟨fun pins s' σ H' D I h' => ?_⟩
    obtain ⟨Ech, hW, h1, h2, h3⟩ := h'
    refine (pss_one (ps_ret (pe_tup (pa_cons pe_str (pa_cons (act W pn xe Ech _ _ tk hW) pa_nil))))).run pins s' σ H' D I ?_
    exact ⟨h1, h2, h3⟩
  · refine ⟨fun cls d H' => (cls = .ref A.BadField ∨ cls = .ref A.BadModes ∨ cls = .ref A.BadCall) ∧ ∀ a, H' a = none → spErr3 A a cls d [.ref a] H' Q E0, fun cls d σ' H' ⟨hc, hE⟩ => ⟨true, ?_, fun _ a ha => ?_, fun z => nomatch z⟩, rfl, hc, h⟩
    · rcases hc with rfl | rfl | rfl
      · exact W.mF
      · exact W.mM
      · exact W.mC
    · exact ⟨.ref a, fun z => by rw [List.getElem?_set_self (by rw [List.length_set] at z; rw [z]; decide)], hE a ha⟩
/-- _law_tried(lambda: body) -/
theorem pe_tried3 {X : Cx} {A : EB} {k : Nat} {g fe c P : Addr} {fd fde : FuncData} {params : Arguments} {body : Expr} {scope : Scope} {t : XK → TE} {p lpos pos : Pos} (F : DefX X.K X.mg "_law_tried" s_tried ["_law_deed"] g fd) (FE : FnP X.prog X.w X.K X.mg X.base 1 fe fde ["_law_e"] (spErr3 A)) (W : ErrM X.K X.mg A)
    (he : X.mg "_law_error" = some (.ref fe) ∧ PySem.W.keepIn X.K (.ref fe) = true ∧ Binds X.K fde ["_law_e"] []) (TB : LamX.TabB X.base X.mg c P) (hcode : X.env.code = .ref c) (hr : Room (k + 3) X.A) (L : LamX.LamS X.env.scope scope) (hdef : defaultsOf params X.env = ([], []))
    (hbind : ∀ (q : Str) (cl : List (Str × Addr)) (pm cv ctv : Value), bindArgs (PySem.W.kla_fn "<lambda>" q params body scope cl pm cv ctv) ⟨[], []⟩ = pure [])
    (hbody : ∀ (A : Around) (outer : List Env) (s : Shared) (H : Hp) (E : XK) (f c' : Addr), Room k (A.deeper (LamX.lamEnv X scope s.heap.objs.size f c')) → PE (LamX.lamCx X A outer s H E scope f c') body (t E)) (hg : Gl X "_law_tried" := by rfl) :
    PE X (.Call (.Name "_law_tried" p) [.Lambda params body scope lpos] [] pos) (LamX.tLam [(P, X.env.qual ++ "<lambda>")] (TTried3 A) t) := by
  obtain ⟨oc, od, kV, doc, pm, an, cdv, ct, osl, e, lk, hcd⟩ := F.fn.ex
  subst e
  exact LamX.pe_lamcall (a := "_law_deed") hg F.mgf F.fn.kp lk hcd F.bi sc_tried rfl (.inl rfl) (tried_gives3 FE W he.1 he.2.1 he.2.2 (hr.mono (by omega))) TB hcode List.mem_cons_self (fun q hq _ => by rw [List.mem_singleton.mp hq]) (hr.mono (by omega)) L hdef hbind hbody

/-- Kind(..): a kind, or the error that is due -/
def spKInitO (K : PySem.W.Frag) (KC : Addr) (A3 : E3) : Sp := fun vs H Q E => spKInit K KC vs H Q E ∨ spKInitX K KC A3 vs H Q E
structure KMkX (P : Program) (w : World) (K : PySem.W.Frag) (mg : Str → Option Value) (base : Heap) (KC : Addr) (A3 : E3) : Prop where
  ex : ∃ (f : Addr) (fd : FuncData), Mk K KC f ∧ FnOk P w K mg base (L2.CX P w) 6 f fd ["self", "fields", "calls", "modes"] (spKInitO K KC A3) ∧ KBn K fd ["self", "fields", "calls", "modes"] 3 ["modes"] (fun us ws => us ++ ws) (fun vs zs => vs ++ zs)
  g : mg "Kind" = some (.ref KC)
theorem pe_kindX {X : Cx} {KC : Addr} {A3 : E3} {E : XK} {j : Nat} {p pos : Pos} {e : Expr} {es : List Expr} {kws : List Keyword} {t tk : TA} (hx : Passes (L2.CX X.prog X.w) X E) (c : KMkX X.prog X.w X.K X.mg X.base KC A3) (hr : Room j X.A) (hk : 7 ≤ j) (hg : Gl X "Kind") (ha : PA X (e :: es) t) (hkw : PK X kws tk)
    (hall : (backToKw pos (keywordEach kws X.env)).all (·.1.isSome) = true := by rfl) (hks : (backToKw pos (keywordEach kws X.env)).filterMap (·.1) = (["modes"] : List Str) := by rfl)
    (he : starEach (e :: es) X.env = (false, eval e X.env) :: starEach es X.env := by rfl) (hpl : ((backTo pos (starEach (e :: es) X.env)).any (·.1) || (backToKw pos (keywordEach kws X.env)).any (·.1.isNone)) = false := by rfl) :
    PE X (.Call (.Name "Kind" p) (e :: es) kws pos) (tMakeK KC 2 1 (spKInitO X.K KC A3) (fun vs zs => vs ++ zs) E t tk) := by
  obtain ⟨f, fd, M, F, hb⟩ := c.ex
  exact pe_makeK (n := 2) M F (hr.mono hk) hg c.g hb hx ha hkw hall hks (by decide) he hpl
theorem pe_kindXK {X : Cx} {K : PySem.W.Frag} {KC : Addr} {A3 : E3} {E : XK} {j : Nat} {p pos : Pos} {e : Expr} {es : List Expr} {kws : List Keyword} {t tk : TA} (hK : X.K = K) (hx : Passes (L2.CX X.prog X.w) X E) (c : KMkX X.prog X.w K X.mg X.base KC A3) (hr : Room j X.A) (hk : 7 ≤ j) (hg : Gl X "Kind") (ha : PA X (e :: es) t) (hkw : PK X kws tk)
    (hall : (backToKw pos (keywordEach kws X.env)).all (·.1.isSome) = true := by rfl) (hks : (backToKw pos (keywordEach kws X.env)).filterMap (·.1) = (["modes"] : List Str) := by rfl)
    (he : starEach (e :: es) X.env = (false, eval e X.env) :: starEach es X.env := by rfl) (hpl : ((backTo pos (starEach (e :: es) X.env)).any (·.1) || (backToKw pos (keywordEach kws X.env)).any (·.1.isNone)) = false := by rfl) :
    PE X (.Call (.Name "Kind" p) (e :: es) kws pos) (tMakeK KC 2 1 (spKInitO K KC A3) (fun vs zs => vs ++ zs) E t tk) := by
  subst hK
  exact pe_kindX hx c hr hk hg ha hkw hall hks he hpl
theorem rd_kindX {K : PySem.W.Frag} {KC s : Addr} {A3 : E3} {H : Hp} {fv cv mv : V} {fd cd md : Dt} {r : Due} {Q : Addr → VK} {E : XK} (hs : H s ≠ none) (shf : Sh K (Off s H) fv fd) (flat : FlatSorts fd) (shc : Sh K (Off s H) cv cd) (shm : Sh K (Off s H) mv md) (due : DueOf fd md cd r)
    (hE : Raised A3 mv E (fun H' => Same H H') (fun d => H d = none) r) : ∀ x dx, H x = none → H dx = none → dx ≠ x → spKInitO K KC A3 (.ref x :: ([fv, cv] ++ [mv])) (upd (upd H dx (.own x)) x (.ins KC dx [])) (Q x) E := by
  intro x dx hx hd ne
  have xs : x ≠ s := fun e => hs (e ▸ hx)
  have ds : dx ≠ s := fun e => hs (e ▸ hd)
  have b : Same (Off s H) (Off x (Off s (upd (upd H dx (.own x)) x (.ins KC dx [])))) := by
    rw [off_upd xs, off_put]
    exact same_offN (same_off (same_new (Same.refl H) hd)) (off_none hx)
  have hS : ∀ H', SameX x (upd (upd H dx (.own x)) x (.ins KC dx [])) H' → Same H H' := fun H' e a o ha => by
    refine e a o ?_ (fun z => by rw [z, hx] at ha; cases ha)
    rw [upd_ne (fun z => by rw [z, hx] at ha; cases ha), upd_ne (fun z => by rw [z, hd] at ha; cases ha)]
    exact ha
  have hN : ∀ d, upd (upd H dx (.own x)) x (.ins KC dx []) d = none → H d = none := fun d h => (upd_none (upd_none h).2).2
  refine .inr ⟨s, x, dx, fv, cv, mv, fd, cd, md, r, rfl, xs, ?_, upd_same, shf.keep b, flat, shc.keep b, shm.keep b, due, ?_⟩
  · rw [upd_ne (Ne.symm xs), upd_ne (Ne.symm ds)]
    exact hs
  · cases r with
    | fld i => exact fun d H' e h hx => hE d H' (hS H' e) (hN d h) hx
    | mod => exact fun d H' e h hx => hE d H' (hS H' e) (hN d h) hx
    | cal i r => exact fun d H' e h hx => hE d H' (hS H' e) (hN d h) hx
    | told _ _ _ => exact hE
end MK
set_option Elab.async false
set_option linter.all false
set_option autoImplicit false
set_option maxRecDepth 100000
set_option maxHeartbeats 4000000
namespace MK
open PySem PySem.Spec PyProof.Rows L2
local macro_rules | `(tactic| walk_at "x") => `(tactic| dsimp only [tSeq, tAsg, tRet, tDrop, tLst, tTup, tCons, tOp, tUn, tIfS])
/-! ### the law: what is due, part by part -/
abbrev s_l_is_word : Stmt := topS 65
theorem sc_l_is_word : FnScope ["_law_x", "_law_letters", "_law_sign"] ["_law_x"] (defScope s_l_is_word) := ⟨rfl, rfl, rfl, by decide +kernel, rfl, by decide +kernel, by decide +kernel⟩
abbrev s_is_number : Stmt := topS 66
theorem sc_is_number : FnScope ["_law_x", "_law_low", "_law_high"] ["_law_x", "_law_low", "_law_high"] (defScope s_is_number) := ⟨rfl, rfl, rfl, by decide +kernel, rfl, by decide +kernel, by decide +kernel⟩
abbrev s_l_is_list : Stmt := topS 67
theorem sc_l_is_list : FnScope ["_law_x"] ["_law_x"] (defScope s_l_is_list) := ⟨rfl, rfl, rfl, by decide +kernel, rfl, by decide +kernel, by decide +kernel⟩
abbrev s_l_are_deeds : Stmt := topS 68
theorem sc_l_are_deeds : FnScope ["_law_deeds_here", "_law_sorts", "_law_busy", "_law_x"] ["_law_deeds_here", "_law_sorts"] (defScope s_l_are_deeds) := ⟨rfl, rfl, rfl, by decide +kernel, rfl, by decide +kernel, by decide +kernel⟩
def numB (lo hi : Int) : Dt → Bool
  | .int i => decide (lo ≤ i) && decide (i ≤ hi)
  | _ => false
theorem letters_in (c : Nat) : decide (c ∈ ("abcdefghijklmnopqrstuvwxyz" : Str).cps.toList) = letterB c := by
  rw [show ("abcdefghijklmnopqrstuvwxyz" : Str).cps.toList = [97, 98, 99, 100, 101, 102, 103, 104, 105, 106, 107, 108, 109, 110, 111, 112, 113, 114, 115, 116, 117, 118, 119, 120, 121, 122] by decide +kernel]
  unfold letterB
  rw [Bool.eq_iff_iff]
  simp only [List.mem_cons, List.not_mem_nil, or_false, decide_eq_true_eq, Bool.and_eq_true]
  omega
def spLWord (K : PySem.W.Frag) : Sp := fun vs H Q _ => ∃ v d, vs = [v] ∧ Sh K H v d ∧ ∀ H', Same H H' → Q (.bl (wordD d)) H'
def spNum (K : PySem.W.Frag) : Sp := fun vs H Q _ => ∃ v d lo hi, vs = [v, .int lo, .int hi] ∧ Sh K H v d ∧ Q (.bl (numB lo hi d)) H
section
variable {P : Program} {w : World} {K : PySem.W.Frag} {mg : Str → Option Value} {base : Heap} {C : Cst}
theorem ok_lword {f : Addr} {fd : FuncData} (F : DefX K mg "_law_is_word" s_l_is_word ["_law_x"] f fd) (T : Txt K mg) : Cal P w K mg base CX0 1 "_law_is_word" (spLWord K) := by
  refine cal_mk F sc_l_is_word (fun vs H Q E h => ?_) (fun cdv A outer sh H vs Q E hr h => ?_)
  · obtain ⟨v, d, rfl, _⟩ := h
    rfl
  · obtain ⟨v, d, rfl, s, q⟩ := h
    refine ⟨_, (pss_cons (ps_set (i := 1) sc_l_is_word.nd rfl (Or.inr rfl) pe_str)
(pss_one (ps_ret (pe_cut (pe_and (pe_callB call_isi (by rfl) T.isinstance (by decide +kernel) (pa_cons (pv 0) (pa_cons (pe_tyv (n := "str") (by rfl) T.str (by decide +kernel)) pa_nil))) (pe_and (pe_chain op_le op_le pe_int (pe_callB call_len_str (by rfl) T.len (by decide +kernel) (pa_cons (pv 0) pa_nil)) pe_int) (pe_one (pe_callB (cr_all rfl) (by rfl) T.all (by decide +kernel) (pa_cons (pe_lc (own := [("_law_sign", 2)]) (g := (gName 2)) (tt := tYes) rfl sc_l_is_word.nd (pi_str (pv 0)) (blkOk_by (own := [("_law_sign", 2)]) (N := ["_law_x", "_law_letters", "_law_sign"]) (sc := defScope s_l_is_word) (by decide +kernel)) (fun _ _ _ _ _ => (pg_name (i := 2) sc_l_is_word.nd rfl (Or.inl rfl))) (fun _ _ _ _ _ => pts_nil) (fun _ _ _ _ _ => (pe_cmpR op_in_sign (pv 2) (pv 1) (by rfl)))) pa_nil))))))))), ?_⟩
    refine ⟨fun v H2 => v = .bl (wordD d) ∧ Same H H2, ?_, fun v H2 e => by rw [e.1]; exact q _ e.2⟩
    obtain ⟨t, ty, ks, -⟩ := s.ty
    refine ⟨_, rfl, _, _, _, _, isStr d, rfl, .ty _, ty, kit_ty ks, _, rfl, ite2 (fun g1 => ?_) (fun g1 => ?_)⟩
    · cases d <;> simp only [isStr] at g1 <;> try cases g1
      rename_i z
      obtain ⟨rfl, hz⟩ := s.str'
      have e1 : decide ((1 : Int) ≤ (z.length : Int)) = decide (1 ≤ z.cps.size) := decide_eq_decide.mpr (by show ((1 : Int) ≤ (z.cps.size : Int)) ↔ _; omega)
      have e2 : decide ((z.length : Int) ≤ 8) = decide (z.cps.size ≤ 8) := decide_eq_decide.mpr (by show (((z.cps.size : Nat) : Int) ≤ 8) ↔ _; omega)
      have hw : wordD (.str z) = (decide (1 ≤ z.cps.size) && decide (z.cps.size ≤ 8) && z.cps.toList.all letterB) := rfl
      refine ⟨_, rfl, z, rfl, hz, _, _, rfl, rfl, _, rfl, ?_⟩
      rw [e1]
      refine ite2 (fun h1 => ?_) (fun h1 => ?_)
      · refine ⟨_, _, rfl, rfl, _, rfl, ?_⟩
        rw [e2]
        refine ite2 (fun h2 => ?_) (fun h2 => ?_)
        · rw [h1, h2, Bool.true_and, Bool.true_and] at hw
          have hs : z.cps.toList.length < 9 := by
            have := of_decide_eq_true h2
            rw [Array.length_toList]
            omega
          refine ⟨_, rfl, z, rfl, fun D hD => ?_⟩
          refine lc_it walk_str (fun i H2 => Same H H2 ∧ H2 D = some (.lst (((z.cps.toList.take i).map letterB).map V.bl))) ⟨same_new (Same.refl H) hD, by rw [upd_same]; rfl⟩ (fun _ _ _ _ => trivial) ?_ ?_
          · rintro i x H3 H2 hi ⟨e2, d2⟩ ⟨rfl, c, hc, rfl⟩
            refine ⟨rfl, ?_⟩
            refine ⟨_, rfl, _, rfl, c, _, rfl, rfl, ?_⟩
            rw [letters_in]
            refine ⟨_, d2, ?_, fun b o hb => ?_, ?_⟩
            · rw [List.length_map, List.length_map]
              exact Nat.lt_of_le_of_lt (List.length_take_le' ..) (Nat.lt_trans hs (by decide))
            · rw [upd_ne (ne_of_none hb hD)]
              exact e2 _ _ hb
            · rw [upd_same, letters_take _ i c (by rw [Array.getElem?_toList]; exact hc), List.map_append]
              rfl
          · rintro H2 ⟨e2, d2⟩
            refine ⟨D, _, rfl, SqL.of d2, ?_, e2⟩
            have ev : ((z.cps.toList.take z.cps.size).map letterB).all id = z.cps.toList.all letterB := by
              rw [← Array.length_toList, List.take_length, List.all_map]
              rfl
            rw [ev, hw]
        · refine ⟨?_, Same.refl H⟩
          rw [hw, Bool.eq_false_iff.mpr h2, Bool.and_false, Bool.false_and]
      · refine ⟨_, rfl, iteF ⟨?_, Same.refl H⟩⟩
        rw [hw, Bool.eq_false_iff.mpr h1, Bool.false_and, Bool.false_and]
    · refine ⟨?_, Same.refl H⟩
      cases d <;> first | rfl | exact absurd rfl g1
theorem ok_num {f : Addr} {fd : FuncData} (F : DefX K mg "_law_is_number" s_is_number ["_law_x", "_law_low", "_law_high"] f fd) (T : Txt K mg) : Cal P w K mg base CX0 1 "_law_is_number" (spNum K) := by
  refine cal_mk F sc_is_number (fun vs H Q E h => ?_) (fun cdv A outer sh H vs Q E hr h => ?_)
  · obtain ⟨v, d, lo, hi, rfl, _⟩ := h
    rfl
  · obtain ⟨v, d, lo, hi, rfl, s, q⟩ := h
    refine ⟨_, (pss_one (ps_ret (pe_cut (pe_and (pe_callB call_isi (by rfl) T.isinstance (by decide +kernel) (pa_cons (pv 0) (pa_cons (pe_tyv (n := "int") (by rfl) T.int (by decide +kernel)) pa_nil))) (pe_and (pe_not (pe_callB call_isi (by rfl) T.isinstance (by decide +kernel) (pa_cons (pv 0) (pa_cons (pe_tyv (n := "bool") (by rfl) T.bool (by decide +kernel)) pa_nil)))) (pe_one (pe_chain op_le op_le (pv 1) (pv 0) (pv 2)))))))), ?_⟩
    refine ⟨fun v H2 => v = .bl (numB lo hi d) ∧ H2 = H, ?_, fun v H2 e => by rw [e.1, e.2]; exact q⟩
    obtain ⟨t, ty, -, ki, kb, -⟩ := s.ty
    refine ⟨_, rfl, _, _, _, _, isInt d || isBl d, rfl, .ty _, ty, kit_ty ki, _, rfl, ite2 (fun h1 => ?_) (fun h1 => ?_)⟩
    · refine ⟨_, rfl, _, _, _, _, isBl d, rfl, .ty _, ty, kit_ty kb, _, rfl, _, rfl, ite2 (fun h2 => ?_) (fun h2 => ?_)⟩
      · cases d <;> first | (simp [isInt, isBl] at h1; done) | (simp [isBl] at h2; done) | skip
        rename_i i
        obtain rfl := s.int'
        refine ⟨_, rfl, _, rfl, _, _, rfl, rfl, _, rfl, ite2 (fun g2 => ?_) (fun g2 => ?_)⟩
        · refine ⟨_, rfl, _, _, rfl, rfl, ?_, rfl⟩
          show V.bl _ = V.bl (decide (lo ≤ i) && decide (i ≤ hi))
          rw [show decide (lo ≤ i) = true from g2, Bool.true_and]
        · refine ⟨?_, rfl⟩
          show V.bl _ = V.bl (decide (lo ≤ i) && decide (i ≤ hi))
          rw [show decide (lo ≤ i) = false from Bool.eq_false_iff.mpr g2, Bool.false_and]
      · refine ⟨?_, rfl⟩
        cases d <;> first | rfl | exact absurd rfl h2
    · refine ⟨?_, rfl⟩
      cases d <;> first | rfl | exact absurd rfl h1
theorem ok_llist {f : Addr} {fd : FuncData} (F : DefX K mg "_law_is_list" s_l_is_list ["_law_x"] f fd) (T : Txt K mg) : Cal P w K mg base CX0 1 "_law_is_list" (spListX K) := by
  refine cal_mk F sc_l_is_list (fun vs H Q E h => ?_) (fun cdv A outer sh H vs Q E hr h => ?_)
  · obtain ⟨v, d, rfl, _⟩ := h
    rfl
  · obtain ⟨v, d, rfl, s, q⟩ := h
    refine ⟨_, (pss_one (ps_ret (pe_callB call_isiT (by rfl) T.isinstance (by decide +kernel) (pa_cons (pv 0) (pa_cons (pe_tup (pa_cons (pe_tyv (n := "list") (by rfl) T.list (by decide +kernel)) (pa_cons (pe_tyv (n := "tuple") (by rfl) T.tuple (by decide +kernel)) pa_nil))) pa_nil))))), ?_⟩
    obtain ⟨t, ty, _, _, _, kl, kt⟩ := s.ty
    refine ⟨_, rfl, by show 2 ≤ sizeLine; decide, fun p hp => ?_⟩
    have e1 : Same H (upd H p (.tup [.ty "list", .ty "tuple"])) := same_new (Same.refl H) hp
    exact ⟨_, p, _, _, _, isSq d, rfl, upd_same, .cons (.ty _) (.cons (.ty _) .nil), tyx_keep e1 ty, any2 kl kt, q _ e1⟩
end
end MK
set_option Elab.async false
set_option linter.all false
set_option autoImplicit false
set_option maxRecDepth 100000
set_option maxHeartbeats 4000000
namespace MK
open PySem PySem.Spec PyProof.Rows L2
local macro_rules | `(tactic| walk_at "x") => `(tactic| dsimp only [tSeq, tAsg, tRet, tDrop, tLst, tTup, tCons, tOp, tUn, tIfS])
/-! ### the law: deeds -/
def spLDeeds (K : PySem.W.Frag) : Sp := fun vs H Q _ => ∃ (v : V) (so : Addr) (fs : List FD) (dvs : List V) (ds : List Dt), vs = [v, .ref so] ∧ Sq K H v dvs ∧ Al (Sh K H) dvs ds ∧ dvs.length < 1000 ∧ H so = some (.dK (sortsV fs)) ∧ (fs.map (·.nm)).Nodup ∧ ∀ H', Same H H' → Q (.bl (deedsB fs ds)) H'
theorem worded_take (es : List (Str × Str)) {i : Nat} {e : Str × Str} (h : es[i]? = some e) : worded (es.take (i + 1)) = worded (es.take i) ++ (if e.1 = ("add" : Str) ∨ e.1 = ("strike" : Str) then [e.2] else []) := by
  rw [List.take_succ, h]
  exact worded_snoc _ _
theorem nodup_pre {α : Type} {g : List (Str × Str)} {i : Nat} (h : (worded g).Nodup) : (worded (g.take i)).Nodup := by
  unfold worded at h ⊢
  refine h.sublist (List.Sublist.map _ (List.Sublist.filter _ (List.take_sublist _ _)))
theorem five_dec {a : Str} (h : a = "set" ∨ a = "clear" ∨ a = "add" ∨ a = "strike" ∨ a = "fresh") (b : Bool) : decide (b ∈ deedSorts a) = !(!decide (a = "clear") && (decide (a = "set") != !b)) := by
  rcases h with rfl | rfl | rfl | rfl | rfl <;> cases b <;> decide
theorem five_none {a : Str} (h : ¬ (a = "set" ∨ a = "clear" ∨ a = "add" ∨ a = "strike" ∨ a = "fresh")) : deedSorts a = [] := by
  unfold deedSorts
  rw [if_neg (fun e => h (.inl e)), if_neg (fun e => h (.inr (.inr (.inl e)))), if_neg (fun e => h (.inr (.inr (.inr (.inl e))))), if_neg (fun e => h (.inr (.inr (.inr (.inr e))))), if_neg (fun e => h (.inr (.inl e)))]
theorem str_dec (a b : Str) : decide (V.str a = V.str b) = decide (a = b) := decide_eq_decide.mpr ⟨V.str.inj, fun e => by rw [e]⟩
theorem sort_one (b : Bool) : decide (V.str (sortS b) = V.str "one") = !b := by
  cases b
  · exact decide_eq_true rfl
  · exact decide_eq_false fun e => absurd (V.str.inj e) (by decide)
theorem bl_ne (a b : Bool) : (!decide (V.bl a = V.bl b)) = (a != b) := by
  cases a <;> cases b
  · rw [decide_eq_true rfl]; rfl
  · rw [decide_eq_false nofun]; rfl
  · rw [decide_eq_false nofun]; rfl
  · rw [decide_eq_true rfl]; rfl
theorem sorts_has (fs : List FD) (z : Str) : (valV (sortsV fs) (.inr z)).isSome = decide (z ∈ fs.map (·.nm)) := by
  rw [sorts_find, Option.isSome_map, Bool.eq_iff_iff, decide_eq_true_iff, List.find?_isSome]
  constructor
  · rintro ⟨f, hf, e⟩
    exact List.mem_map.mpr ⟨f, hf, of_decide_eq_true e⟩
  · intro h
    obtain ⟨f, hf, e⟩ := List.mem_map.mp h
    exact ⟨f, hf, decide_eq_true e⟩
section
variable {P : Program} {w : World} {K : PySem.W.Frag} {mg : Str → Option Value} {base : Heap} {C : Cst}
theorem ok_ldeeds {f : Addr} {fd : FuncData} (F : DefX K mg "_law_are_deeds" s_l_are_deeds ["_law_deeds_here", "_law_sorts"] f fd) (T : Txt K mg) (c_l_is_list : Cal P w K mg base CX0 1 "_law_is_list" (spListX K)) : Cal P w K mg base CX0 2 "_law_are_deeds" (spLDeeds K) := by
  refine cal_mk F sc_l_are_deeds (fun vs H Q E h => ?_) (fun cdv A outer sh H vs Q E hr h => ?_)
  · obtain ⟨v, so, fs, dvs, ds, rfl, _⟩ := h
    rfl
  · obtain ⟨v, so, fs, dvs, ds, rfl, ⟨a, rfl, hd⟩, hal, few, hso, nd, q⟩ := h
    refine ⟨_, (pss_cons (ps_set (i := 2) sc_l_are_deeds.nd rfl (Or.inl rfl) (pe_lst pa_nil))
(pss_cons (ps_for PassesOwn.never rfl (pi_sqV (pv 0)) (pg_name (i := 3) sc_l_are_deeds.nd rfl (Or.inl rfl))
(pss_cons (ps_if (pt_cut (PW.pt (pw_or (pt_not (pt_val (pe_c c_l_is_list hr (by first | decide | assumption) rfl (pa_cons (pv 3) pa_nil)))) (pw_or (pt_cmpR op_ne (pe_callB call_len_seq (by rfl) T.len (by decide +kernel) (pa_cons (pv 3) pa_nil)) pe_int (nomark _)) (pw_or (pt_not (pt_val (pe_callB call_isi (by rfl) T.isinstance (by decide +kernel) (pa_cons (pe_ix ix_seq (pv 3) pe_int (fun _ _ => rfl)) (pa_cons (pe_tyv (n := "str") (by rfl) T.str (by decide +kernel)) pa_nil))))) (pw_or1 (pt_not (pt_val (pe_callB call_isi (by rfl) T.isinstance (by decide +kernel) (pa_cons (pe_ix ix_seq (pv 3) pe_int (fun _ _ => rfl)) (pa_cons (pe_tyv (n := "str") (by rfl) T.str (by decide +kernel)) pa_nil)))))))))))
(pss_one (ps_ret pe_bl))
pss_nil)
(pss_cons (ps_if (pt_cut (PW.pt (pw_or (pt_cmp (pc_dnotin (hu_of hr) (pe_ix ix_seq (pv 3) pe_int (fun _ _ => rfl)) (pv 1))) (pw_or1 (pt_cmpR op_notIn_seq (pe_ix ix_seq (pv 3) pe_int (fun _ _ => rfl)) (pe_tup (pa_cons pe_str (pa_cons pe_str (pa_cons pe_str (pa_cons pe_str (pa_cons pe_str pa_nil)))))) (by rfl))))))
(pss_one (ps_ret pe_bl))
pss_nil)
(pss_cons (ps_if (pt_cut (PW.pt (pw_and (pt_cmpR op_ne (pe_ix ix_seq (pv 3) pe_int (fun _ _ => rfl)) pe_str (nomark _)) (pw_and1 (pt_cmpR op_ne (pe_cmpR op_eq (pe_ix ix_seq (pv 3) pe_int (fun _ _ => rfl)) pe_str (nomark _)) (pe_cmpR op_eq (pe_dget (hu_of hr) (pv 1) (pe_ix ix_seq (pv 3) pe_int (fun _ _ => rfl)) (fun _ _ => rfl)) pe_str (nomark _)) (nomark _))))))
(pss_one (ps_ret pe_bl))
pss_nil)
(pss_one (ps_if (pt_cmpR op_in_seq (pe_ix ix_seq (pv 3) pe_int (fun _ _ => rfl)) (pe_tup (pa_cons pe_str (pa_cons pe_str pa_nil))) (by rfl))
(pss_cons (ps_if (pt_cmpR op_in_seq (pe_ix ix_seq (pv 3) pe_int (fun _ _ => rfl)) (pv 2) (by rfl))
(pss_one (ps_ret pe_bl))
pss_nil)
(pss_one (ps_expr (pe_bm PySem.F.plainAttrs_list PySem.F.slot_list_append PySem.F.type_list_append mt_append (pv 2) (pa_cons (pe_ix ix_seq (pv 3) pe_int (fun _ _ => rfl)) pa_nil)))))
pss_nil))))))
(pss_one (ps_ret (pe_cmpR op_le (pe_callB call_len_seq (by rfl) T.len (by decide +kernel) (pa_cons (pv 0) pa_nil)) pe_int (nomark _)))))), ?_⟩
    have qF : ∀ H', Same H H' → deedsB fs ds = false → Q (.bl false) H' := fun H' e h => by rw [← h]; exact q _ e
    refine ⟨by show 0 ≤ sizeLine; decide, fun B hB => ?_⟩
    have e0 : Same H (upd H B (.lst [])) := same_new (Same.refl H) hB
    refine ⟨_, rfl, a, _, H, rfl, hd, e0, fun J G wk hG => ?_⟩
    refine for_it wk (fun i σ H2 => Same H H2 ∧ (ds.take i).all (deedB fs) = true ∧ (worded ((ds.map deE).take i)).Nodup ∧ H2 B = some (.lst ((worded ((ds.map deE).take i)).map V.str)) ∧ ∃ x3, σ = [some (.ref a), some (.ref so), some (.ref B), x3])
      ⟨e0, rfl, List.nodup_nil, upd_same, none, rfl⟩ (fun i σ H2 _ h => hG _ h.1) ?_ ?_
    · rintro i x σ H3 H2 hi ⟨e2, hall, hnd, b2, x3, rfl⟩ ⟨rfl, hx⟩
      obtain ⟨d, hdd, sd⟩ := hal.get hx
      have hB0 := hB
      have dm := List.mem_of_getElem? hdd
      have bad1 : deedB fs d = false → deedsB fs ds = false := fun h => by
        unfold deedsB
        rw [Bool.and_eq_false_iff]
        right
        rw [Bool.and_eq_false_iff]
        left
        rw [List.all_eq_false]
        exact ⟨d, dm, by rw [h]; exact nofun⟩
      have sd2 := sd.keep e2
      -- the form
      refine ⟨fun t H' => Same H2 H' ∧ ((t = true ∧ deedB fs d = false) ∨ (t = false ∧ ∃ p u z, x = .ref p ∧ (SqL K H2 p [.str u, .str z] ∨ SqT K H2 p [.str u, .str z]) ∧ deedD d = some (u, z))), ?_, ?_⟩
      · refine ⟨_, rfl, x, d, rfl, sd2, fun H4 e4 => ⟨_, rfl, ?_⟩⟩
        cases hq : sqD d with
        | none =>
          have : deedB fs d = false := by unfold deedB deedD; rw [hq]
          rw [show isSq d = false by rw [isSq_iff, hq]; rfl]
          exact iteT ⟨e4, .inl ⟨rfl, this⟩⟩
        | some xs =>
          rw [show isSq d = true by rw [isSq_iff, hq]; rfl]
          refine iteF ?_
          obtain ⟨vs, ⟨p, rfl, hs⟩, al, _⟩ := sd2.sq hq
          refine ⟨_, rfl, p, _, rfl, sq_at e4 hs, rfl, _, rfl, ?_⟩
          rw [al.1, len_dec2]
          refine ite2 (fun h1 => ?_) (fun h1 => ?_)
          · rw [Bool.not_eq_true', decide_eq_false_iff_not] at h1
            refine ⟨e4, .inl ⟨rfl, ?_⟩⟩
            have : deedD d = none := by
              unfold deedD
              rw [hq]
              split
              · rename_i h2
                cases h2
                exact absurd rfl h1
              · rfl
            unfold deedB
            rw [this]
          · rw [Bool.not_eq_true', Bool.not_eq_false, decide_eq_true_iff] at h1
            obtain ⟨u, z, rfl⟩ := len2 h1
            obtain ⟨vu, vz, rfl⟩ := len2 al.1
            have s0 := al.2 0 vu u rfl rfl
            have s1 := al.2 1 vz z rfl rfl
            obtain ⟨t0, ty0, k0, -⟩ := (s0.keep e4).ty
            obtain ⟨t1, ty1, k1, -⟩ := (s1.keep e4).ty
            refine ⟨_, rfl, ix_of (i := 0) (sq_at e4 hs) rfl ⟨_, _, _, _, isStr u, rfl, .ty _, ty0, kit_ty k0, _, rfl, ite2 (fun g1 => ?_) (fun g1 => ?_)⟩⟩
            · refine ⟨e4, .inl ⟨rfl, ?_⟩⟩
              have : deedD d = none := by
                unfold deedD
                rw [hq]
                cases u <;> first | rfl | cases g1
              unfold deedB
              rw [this]
            · rw [Bool.not_eq_true', Bool.not_eq_false] at g1
              cases u <;> simp only [isStr] at g1 <;> try cases g1
              rename_i u
              obtain ⟨rfl, -⟩ := s0.str'
              refine ⟨_, rfl, ix_of (i := 1) (sq_at e4 hs) rfl ⟨_, _, _, _, isStr z, rfl, .ty _, ty1, kit_ty k1, _, rfl, e4, ?_⟩⟩
              cases hz : isStr z with
              | false =>
                refine .inl ⟨rfl, ?_⟩
                have : deedD d = none := by
                  unfold deedD
                  rw [hq]
                  cases z <;> first | rfl | cases hz
                unfold deedB
                rw [this]
              | true =>
                cases z <;> simp only [isStr] at hz <;> try cases hz
                rename_i z
                obtain ⟨rfl, -⟩ := s1.str'
                exact .inr ⟨rfl, p, u, z, rfl, hs, by unfold deedD; rw [hq]⟩
      rintro t H4 ⟨e4, ⟨rfl, hb⟩ | ⟨rfl, p, u, z, rfl, hs, hde⟩⟩
      · exact iteT (qF _ (e2.trans e4) (bad1 hb))
      refine iteF ?_
      have e24 := e2.trans e4
      have hs4 := sq_at e4 hs
      have hdeE : deE d = (u, z) := by unfold deE; rw [hde]; rfl
      have hdb : deedB fs d = (fs.any fun f => decide (f.nm = z) && decide (f.many ∈ deedSorts u)) := by
        unfold deedB
        rw [hde]
      rw [any_find (P := fun f => decide (f.many ∈ deedSorts u)) z nd] at hdb
      have hg : DGet H4 so (.str z) _ := DGet.k (k := .inr z) (e24 _ _ hso)
      rw [sorts_find] at hg
      -- its field and its name
      refine ⟨fun t H' => Same H4 H' ∧ ((t = true ∧ deedB fs d = false) ∨ (t = false ∧ ∃ g, (fs.find? fun f => decide (f.nm = z)) = some g ∧ (u = "set" ∨ u = "clear" ∨ u = "add" ∨ u = "strike" ∨ u = "fresh"))), ?_, ?_⟩
      · refine ⟨_, rfl, ix_of (i := 1) hs4 rfl ⟨_, rfl, so, _, rfl, hg, ?_⟩⟩
        cases hz : fs.find? (fun f => decide (f.nm = z)) with
        | none =>
          rw [hz] at hdb
          exact ⟨true, rfl, iteT ⟨Same.refl H4, .inl ⟨rfl, hdb⟩⟩⟩
        | some g =>
          refine ⟨false, rfl, iteF ?_⟩
          refine ⟨_, rfl, ix_of (i := 0) hs4 rfl ⟨by show 5 ≤ sizeLine; decide, fun p5 hp5 => ⟨p5, _, rfl, .inr (SqT.of upd_same), rfl, flat_strs ["set", "clear", "add", "strike", "fresh"], ?_⟩⟩⟩
          have e5 : Same H4 (upd H4 p5 (.tup [.str "set", .str "clear", .str "add", .str "strike", .str "fresh"])) := same_new (Same.refl H4) hp5
          rw [show ([.str "set", .str "clear", .str "add", .str "strike", .str "fresh"] : List V) = (["set", "clear", "add", "strike", "fresh"] : List Str).map V.str from rfl, inV_strs]
          by_cases h5 : u ∈ (["set", "clear", "add", "strike", "fresh"] : List Str)
          · rw [decide_eq_true h5]
            refine ⟨_, rfl, e5, .inr ⟨rfl, g, rfl, ?_⟩⟩
            simpa using h5
          · rw [decide_eq_false h5]
            refine ⟨_, rfl, e5, .inl ⟨rfl, ?_⟩⟩
            rw [hz] at hdb
            rw [hdb]
            show decide (g.many ∈ deedSorts u) = false
            rw [five_none (fun h => h5 (by simpa using h))]
            exact decide_eq_false nofun
      rintro t H5 ⟨e5, ⟨rfl, hb⟩ | ⟨rfl, g, hz, h5⟩⟩
      · exact iteT (qF _ (e24.trans e5) (bad1 hb))
      refine iteF ?_
      rw [hz] at hdb hg
      have hs5 := sq_at e5 hs4
      have e25 := e24.trans e5
      have hg5 : DGet H5 so (.str z) (some (.str (sortS g.many))) := by
        have := DGet.k (k := .inr z) (e25 _ _ hso)
        rw [sorts_find, hz] at this
        exact this
      -- whether it is for such a field
      refine ⟨fun t H' => H' = H5 ∧ t = !deedB fs d, ?_, ?_⟩
      · have hdb2 : deedB fs d = !(!decide (u = "clear") && (decide (u = "set") != !g.many)) := by
          rw [hdb]
          exact five_dec h5 g.many
        refine ⟨_, rfl, ix_of (i := 0) hs5 rfl ⟨rfl, _, rfl, ?_⟩⟩
        rw [str_dec]
        refine ite2 (fun g1 => ?_) (fun g1 => ?_)
        · refine ⟨_, rfl, ix_of (i := 0) hs5 rfl ⟨rfl, _, rfl, _, rfl, ix_of (i := 1) hs5 rfl ⟨so, _, rfl, hg5, rfl, rfl, ?_⟩⟩⟩
          refine ⟨_, rfl, rfl, ?_⟩
          rw [bl_ne, str_dec, sort_one, hdb2, g1, Bool.true_and, Bool.not_not]
        · refine ⟨rfl, ?_⟩
          rw [hdb2, Bool.eq_false_iff.mpr g1]
          rfl
      rintro t H5 ⟨rfl, rfl⟩
      refine ite2 (fun g1 => ?_) (fun g1 => ?_)
      · rw [Bool.not_eq_true'] at g1
        exact qF _ e25 (bad1 g1)
      rw [Bool.not_eq_true', Bool.not_eq_false] at g1
      have hE2 : (ds.map deE)[i]? = some (u, z) := by rw [List.getElem?_map, hdd, ← hdeE]; rfl
      have tk := worded_take (ds.map deE) hE2
      have hall2 : (ds.take (i + 1)).all (deedB fs) = true := by
        rw [List.take_succ, hdd, List.all_append, hall]
        simp [g1]
      refine ⟨_, rfl, ix_of (i := 0) hs5 rfl ⟨by show 2 ≤ sizeLine; decide, fun p6 hp6 => ⟨p6, _, rfl, .inr (SqT.of upd_same), rfl, flat_strs ["add", "strike"], ?_⟩⟩⟩
      have e6 : Same H5 (upd H5 p6 (.tup [.str "add", .str "strike"])) := same_new (Same.refl H5) hp6
      have e26 := e25.trans e6
      have b6 := ((e4.trans e5).trans e6) _ _ b2
      have hs6 := sq_at e6 hs5
      have eH6 := e26
      rw [show ([.str "add", .str "strike"] : List V) = (["add", "strike"] : List Str).map V.str from rfl, inV_strs]
      refine ⟨_, rfl, ite2 (fun h7 => ?_) (fun h7 => ?_)⟩
      · have hm : u = ("add" : Str) ∨ u = ("strike" : Str) := by
          have := of_decide_eq_true h7
          simpa using this
        rw [if_pos hm] at tk
        refine ⟨_, rfl, ix_of (i := 1) hs6 rfl ⟨_, rfl, B, _, rfl, .inl (SqL.of b6), rfl, flat_strs _, ?_⟩⟩
        rw [inV_strs]
        refine ⟨_, rfl, ite2 (fun h8 => ?_) (fun h8 => ?_)⟩
        · refine qF _ eH6 ?_
          have hz8 := of_decide_eq_true h8
          unfold deedsB
          rw [Bool.and_eq_false_iff]
          right
          rw [Bool.and_eq_false_iff]
          right
          refine decide_eq_false fun h => ?_
          have := nodup_pre (α := Str) (i := i + 1) h
          rw [tk] at this
          exact absurd rfl ((List.nodup_append.mp this).2.2 _ hz8 _ (by simp))
        · have hz8 := of_decide_eq_false (Bool.eq_false_iff.mpr h8)
          have kl : ((worded ((ds.map deE).take i)).map V.str).length < sizeLine := by
            rw [List.length_map]
            have h1 : (worded ((ds.map deE).take i)).length ≤ ((ds.map deE).take i).length := by unfold worded; rw [List.length_map]; exact List.length_filter_le ..
            have h2 : ((ds.map deE).take i).length ≤ (ds.map deE).length := List.length_take_le' ..
            rw [List.length_map] at h2
            have := hal.1
            exact Nat.lt_of_le_of_lt (by omega : _ ≤ 1000) (by decide)
          refine ⟨_, rfl, .inl ⟨rfl, _, SqL.of b6⟩, _, rfl, ix_of (i := 1) hs6 rfl ⟨B, _, _, rfl, rfl, b6, kl, fun b o hb => ?_, hall2, ?_, ?_, _, rfl⟩⟩
          · rw [upd_ne (ne_of_none hb hB)]
            exact eH6 _ _ hb
          · rw [tk]
            exact List.nodup_append.mpr ⟨hnd, by simp, fun a ha b hb e => by
              rw [List.mem_singleton.mp hb] at e
              rw [e] at ha
              exact hz8 ha⟩
          · rw [upd_same, tk, List.map_append]
            rfl
      · have hm : ¬ (u = ("add" : Str) ∨ u = ("strike" : Str)) := fun q => h7 (decide_eq_true (by simpa using q))
        rw [if_neg hm, List.append_nil] at tk
        refine ⟨eH6, hall2, by rw [tk]; exact hnd, by rw [tk]; exact b6, _, rfl⟩
    · rintro σ H2 ⟨e2, hall, hnd, b2, x3, rfl⟩
      rw [hal.1, List.take_length] at hall
      rw [hal.1, ← List.length_map (f := deE), List.take_length] at hnd
      refine ⟨_, rfl, a, _, rfl, sq_at e2 hd, _, _, rfl, rfl, ?_⟩
      have := q _ e2
      rw [show deedsB fs ds = decide ((dvs.length : Int) ≤ 4) from ?_] at this
      · exact this
      · unfold deedsB
        rw [hall, decide_eq_true hnd, hal.1, Bool.and_true, Bool.and_true]
        exact decide_eq_decide.mpr (by omega)
end
end MK
set_option Elab.async false
set_option linter.all false
set_option autoImplicit false
set_option maxRecDepth 100000
set_option maxHeartbeats 4000000
namespace MK
open PySem PySem.Spec PyProof.Rows L2
local macro_rules | `(tactic| walk_at "x") => `(tactic| dsimp only [tSeq, tAsg, tRet, tDrop, tLst, tTup, tCons, tOp, tUn, tIfS])
/-! ### the law: the reason for which something is no call -/
abbrev s_call_reason : Stmt := topS 69
theorem sc_call_reason : FnScope ["_law_x", "_law_sorts", "_law_far", "_law_names", "_law_part", "_law_seen"] ["_law_x", "_law_sorts", "_law_far", "_law_names"] (defScope s_call_reason) := ⟨rfl, rfl, rfl, by decide +kernel, rfl, by decide +kernel, by decide +kernel⟩
def spReason (K : PySem.W.Frag) : Sp := fun vs H Q _ => ∃ (v : V) (so nl : Addr) (n : Nat) (fs : List FD) (ys : List Str) (d : Dt), vs = [v, .ref so, .int n, .ref nl] ∧ Sh K H v d ∧ H so = some (.dK (sortsV fs)) ∧ (fs.map (·.nm)).Nodup ∧ SqL K H nl (ys.map V.str) ∧ n ≤ 4 ∧
  ∀ H', Same H H' → Q (.str ((reasonD fs n ys d).getD ("" : Str))) H'
theorem rd_sl5 {K : PySem.W.Frag} {H : Hp} {p : Addr} {a b c d e : V} {Q : VK} (h : SqL K H p [a, b, c, d, e] ∨ SqT K H p [a, b, c, d, e]) (k : ∀ q H', Same H H' → (SqL K H' q [c, d, e] ∨ SqT K H' q [c, d, e]) → Q (.ref q) H') : rSlL K (.ref p) (some 2) none H Q ∨ rSlT K (.ref p) (some 2) none H Q := by
  rcases h with h | h
  · exact .inl ⟨p, _, rfl, h, fun q hq => k q _ (same_new (Same.refl H) hq) (.inl (SqL.of upd_same))⟩
  · exact .inr ⟨p, _, rfl, h, fun z => absurd z.1 nofun, fun q hq => k q _ (same_new (Same.refl H) hq) (.inr (SqT.of upd_same))⟩
theorem numB_move (n : Nat) (d : Dt) : numB (-1) ((n : Int) - 1) d = moveB n d := by
  cases d <;> try rfl
  rename_i i
  show (decide (-1 ≤ i) && decide (i ≤ (n : Int) - 1)) = (decide (-1 ≤ i) && decide (i < (n : Int)))
  congr 1
  exact decide_eq_decide.mpr (by omega)
theorem call_no {d n h m e s : Dt} (q : sqD d = some [n, h, m, e, s]) (b : (isStr n && isStr h) = false) : callD d = none := by
  have := call_form q
  rw [← Bool.and_assoc, b, Bool.false_and] at this
  cases e : callD d with
  | none => rfl
  | some p =>
    rw [e] at this
    cases this
section
variable {P : Program} {w : World} {K : PySem.W.Frag} {mg : Str → Option Value} {base : Heap} {C : Cst}
theorem ok_reason {f : Addr} {fd : FuncData} (F : DefX K mg "_law_call_reason" s_call_reason ["_law_x", "_law_sorts", "_law_far", "_law_names"] f fd) (T : Txt K mg) (c_l_is_list : Cal P w K mg base CX0 1 "_law_is_list" (spListX K)) (c_l_is_word : Cal P w K mg base CX0 1 "_law_is_word" (spLWord K))
    (c_is_number : Cal P w K mg base CX0 1 "_law_is_number" (spNum K)) (c_l_are_deeds : Cal P w K mg base CX0 2 "_law_are_deeds" (spLDeeds K)) : Cal P w K mg base CX0 3 "_law_call_reason" (spReason K) := by
  refine cal_mk F sc_call_reason (fun vs H Q E h => ?_) (fun cdv A outer sh H vs Q E hr h => ?_)
  · obtain ⟨v, so, nl, n, fs, ys, d, rfl, _⟩ := h
    rfl
  · obtain ⟨v, so, nl, n, fs, ys, d, rfl, s, hso, nd, hnl, n4, q⟩ := h
    refine ⟨_, (pss_cons (ps_if (pt_cut (PW.pt (pw_or (pt_not (pt_val (pe_c c_l_is_list hr (by first | decide | assumption) rfl (pa_cons (pv 0) pa_nil)))) (pw_or (pt_cmpR op_ne (pe_callB call_len_seq (by rfl) T.len (by decide +kernel) (pa_cons (pv 0) pa_nil)) pe_int (nomark _)) (pw_or (pt_not (pt_val (pe_callB call_isi (by rfl) T.isinstance (by decide +kernel) (pa_cons (pe_ix ix_seq (pv 0) pe_int (fun _ _ => rfl)) (pa_cons (pe_tyv (n := "str") (by rfl) T.str (by decide +kernel)) pa_nil))))) (pw_or1 (pt_not (pt_val (pe_callB call_isi (by rfl) T.isinstance (by decide +kernel) (pa_cons (pe_ix ix_seq (pv 0) pe_int (fun _ _ => rfl)) (pa_cons (pe_tyv (n := "str") (by rfl) T.str (by decide +kernel)) pa_nil)))))))))))
(pss_one (ps_ret pe_str))
pss_nil)
(pss_cons (ps_if (pt_not (pt_val (pe_callB (cr_all rfl) (by rfl) T.all (by decide +kernel) (pa_cons (pe_lc (own := [("_law_part", 4)]) (g := (gName 4)) (tt := tYes) rfl sc_call_reason.nd (pi_sqG (pe_slice (sl_sqK (K := K) rfl) (pv 0) (po_some pe_int) po_none)) (blkOk_by (own := [("_law_part", 4)]) (N := ["_law_x", "_law_sorts", "_law_far", "_law_names", "_law_part", "_law_seen"]) (sc := defScope s_call_reason) (by decide +kernel)) (fun _ _ _ _ _ => (pg_name (i := 4) sc_call_reason.nd rfl (Or.inl rfl))) (fun _ _ _ _ _ => pts_nil) (fun _ _ _ _ _ => (pe_c c_l_is_list hr (by first | decide | assumption) rfl (pa_cons (pv 4) pa_nil)))) pa_nil))))
(pss_one (ps_ret pe_str))
pss_nil)
(pss_cons (ps_if (pt_cut (PW.pt (pw_or (pt_not (pt_val (pe_c c_l_is_word hr (by first | decide | assumption) rfl (pa_cons (pe_ix ix_seq (pv 0) pe_int (fun _ _ => rfl)) pa_nil)))) (pw_or1 (pt_cmpR op_in_seq (pe_ix ix_seq (pv 0) pe_int (fun _ _ => rfl)) (pv 3) (by rfl))))))
(pss_one (ps_ret pe_str))
pss_nil)
(pss_cons (ps_if (pt_cmpR op_notIn_seq (pe_ix ix_seq (pv 0) pe_int (fun _ _ => rfl)) (pe_tup (pa_cons pe_str (pa_cons pe_str (pa_cons pe_str pa_nil)))) (by rfl))
(pss_one (ps_ret pe_str))
pss_nil)
(pss_cons (ps_if (pt_cmpR op_ne (pe_callB call_len_seq (by rfl) T.len (by decide +kernel) (pa_cons (pe_ix ix_seq (pv 0) pe_int (fun _ _ => rfl)) pa_nil)) (pv 2) (nomark _))
(pss_one (ps_ret pe_str))
pss_nil)
(pss_cons (ps_if (pt_not (pt_val (pe_callB (cr_all rfl) (by rfl) T.all (by decide +kernel) (pa_cons (pe_lc (own := [("_law_part", 4)]) (g := (gName 4)) (tt := tYes) rfl sc_call_reason.nd (pi_sqG (pe_ix ix_seq (pv 0) pe_int (fun _ _ => rfl))) (blkOk_by (own := [("_law_part", 4)]) (N := ["_law_x", "_law_sorts", "_law_far", "_law_names", "_law_part", "_law_seen"]) (sc := defScope s_call_reason) (by decide +kernel)) (fun _ _ _ _ _ => (pg_name (i := 4) sc_call_reason.nd rfl (Or.inl rfl))) (fun _ _ _ _ _ => pts_nil) (fun _ _ _ _ _ => (pe_c c_is_number hr (by first | decide | assumption) rfl (pa_cons (pv 4) (pa_cons (pe_un un_neg pe_int) (pa_cons (pe_op op_sub (pv 2) pe_int) pa_nil)))))) pa_nil))))
(pss_one (ps_ret pe_str))
pss_nil)
(pss_cons (ps_if (pt_not (pt_val (pe_c c_l_are_deeds hr (by first | decide | assumption) rfl (pa_cons (pe_ix ix_seq (pv 0) pe_int (fun _ _ => rfl)) (pa_cons (pv 1) pa_nil)))))
(pss_one (ps_ret pe_str))
pss_nil)
(pss_cons (ps_set (i := 5) sc_call_reason.nd rfl (Or.inl rfl) (pe_lst pa_nil))
(pss_cons (ps_for PassesOwn.never rfl (pi_sqG (pe_ix ix_seq (pv 0) pe_int (fun _ _ => rfl))) (pg_name (i := 4) sc_call_reason.nd rfl (Or.inl rfl))
(pss_cons (ps_if (pt_cut (PW.pt (pw_or (pt_not (pt_val (pe_callB call_isi (by rfl) T.isinstance (by decide +kernel) (pa_cons (pv 4) (pa_cons (pe_tyv (n := "str") (by rfl) T.str (by decide +kernel)) pa_nil))))) (pw_or (pt_cmpR op_ne (pe_dget1 (hu_of hr) (pv 1) (pv 4) ⟨rfl, rfl, rfl, rfl⟩) pe_str (nomark _)) (pw_or (pt_cmpR op_in_seq (pv 4) (pv 5) (by rfl)) (pw_or1 (pt_cmpR op_eq (pe_ix ix_seq (pv 0) pe_int (fun _ _ => rfl)) pe_str (nomark _))))))))
(pss_one (ps_ret pe_str))
pss_nil)
(pss_one (ps_expr (pe_bm PySem.F.plainAttrs_list PySem.F.slot_list_append PySem.F.type_list_append mt_append (pv 5) (pa_cons (pv 4) pa_nil))))))
(pss_one (ps_ret pe_str))))))))))), ?_⟩
    have qN : ∀ H', Same H H' → callD d = none → Q (.str "call") H' := fun H' e h => by
      have := q _ e
      unfold reasonD at this
      rw [h] at this
      exact this
    -- the form
    refine ⟨fun t H' => Same H H' ∧ ((t = true ∧ callD d = none) ∨ (t = false ∧ ∃ (p : Addr) (a b : Str) (m e sm : Dt) (vm ve vsm : V), v = .ref p ∧ a.length ≤ sizeLine ∧ (SqL K H p [.str a, .str b, vm, ve, vsm] ∨ SqT K H p [.str a, .str b, vm, ve, vsm]) ∧ sqD d = some [.str a, .str b, m, e, sm] ∧ Sh K H vm m ∧ Sh K H ve e ∧ Sh K H vsm sm)), ?_, ?_⟩
    · refine ⟨_, rfl, v, d, rfl, s, fun H1 e1 => ⟨_, rfl, ?_⟩⟩
      cases hq : sqD d with
      | none =>
        rw [show isSq d = false by rw [isSq_iff, hq]; rfl]
        exact iteT ⟨e1, .inl ⟨rfl, by unfold callD; rw [hq]⟩⟩
      | some xs =>
        rw [show isSq d = true by rw [isSq_iff, hq]; rfl]
        refine iteF ?_
        obtain ⟨vs, ⟨p, rfl, hs⟩, al, _⟩ := s.sq hq
        refine ⟨_, rfl, p, _, rfl, sq_at e1 hs, rfl, _, rfl, ?_⟩
        rw [al.1, len_dec5]
        refine ite2 (fun h1 => ?_) (fun h1 => ?_)
        · rw [Bool.not_eq_true', decide_eq_false_iff_not] at h1
          exact ⟨e1, .inl ⟨rfl, call_len hq h1⟩⟩
        · rw [Bool.not_eq_true', Bool.not_eq_false, decide_eq_true_iff] at h1
          obtain ⟨a, b, m, e, sm, rfl⟩ : ∃ a b c d e, xs = [a, b, c, d, e] := by
            match xs, h1 with
            | [a, b, c, d, e], _ => exact ⟨a, b, c, d, e, rfl⟩
          obtain ⟨va, vb, vm, ve, vsm, rfl⟩ := len5 al.1
          have s0 := al.2 0 va a rfl rfl
          have s1 := al.2 1 vb b rfl rfl
          obtain ⟨t0, ty0, k0, -⟩ := (s0.keep e1).ty
          obtain ⟨t1, ty1, k1, -⟩ := (s1.keep e1).ty
          refine ⟨_, rfl, ix_of (i := 0) (sq_at e1 hs) rfl ⟨_, _, _, _, isStr a, rfl, .ty _, ty0, kit_ty k0, _, rfl, ite2 (fun g1 => ?_) (fun g1 => ?_)⟩⟩
          · rw [Bool.not_eq_true'] at g1
            exact ⟨e1, .inl ⟨rfl, call_no hq (by rw [g1]; rfl)⟩⟩
          · rw [Bool.not_eq_true', Bool.not_eq_false] at g1
            cases a <;> simp only [isStr] at g1 <;> try cases g1
            rename_i a
            obtain ⟨rfl, la⟩ := s0.str'
            refine ⟨_, rfl, ix_of (i := 1) (sq_at e1 hs) rfl ⟨_, _, _, _, isStr b, rfl, .ty _, ty1, kit_ty k1, _, rfl, e1, ?_⟩⟩
            cases hz : isStr b with
            | false => exact .inl ⟨rfl, call_no hq (by rw [hz]; rfl)⟩
            | true =>
              cases b <;> simp only [isStr] at hz <;> try cases hz
              rename_i b
              obtain ⟨rfl, -⟩ := s1.str'
              exact .inr ⟨rfl, p, a, b, m, e, sm, vm, ve, vsm, rfl, la, hs, rfl, al.2 2 vm m rfl rfl, al.2 3 ve e rfl rfl, al.2 4 vsm sm rfl rfl⟩
    rintro t H1 ⟨e1, ⟨rfl, hb⟩ | ⟨rfl, p, a, b, m, e, sm, vm, ve, vsm, rfl, la, hs, hq, s2, s3, s4⟩⟩
    · exact iteT (qN _ e1 hb)
    refine iteF ?_
    have hcf := call_form hq
    have hcf : (callD d).isSome = (isSq m && (isSq e && isSq sm)) := hcf
    -- three lists
    refine ⟨_, rfl, _, rfl, rd_sl5 (sq_at e1 hs) fun p2 H2 e2 hs2 => ⟨p2, _, _, rfl, hs2, Same.refl _, fun J G wk hG D hD => ?_⟩⟩
    have e12 := e1.trans e2
    have al3 : Al (Sh K H) [vm, ve, vsm] [m, e, sm] := by
      refine ⟨rfl, fun i x y h1 h2 => ?_⟩
      match i with
      | 0 => cases h1; cases h2; exact s2
      | 1 => cases h1; cases h2; exact s3
      | 2 => cases h1; cases h2; exact s4
      | i + 3 => cases h1
    refine lc_it wk (fun i H3 => Same H2 H3 ∧ H3 D = some (.lst ((([m, e, sm].take i).map isSq).map V.bl))) ⟨same_new (Same.refl H2) hD, upd_same⟩ (fun i H3 _ h => hG _ h.1) ?_ ?_
    · rintro i x H4 H3 hi ⟨e3, d3⟩ ⟨rfl, hx⟩
      obtain ⟨y, hy, sy⟩ := al3.get hx
      have hi3 : i < 3 := hi
      refine ⟨rfl, ?_⟩
      refine ⟨_, rfl, x, y, rfl, sy.keep (e12.trans e3), fun H5 e5 => ⟨_, e5 _ _ d3, ?_, fun b o hb => ?_, ?_⟩⟩
      · rw [List.length_map, List.length_map, List.length_take]
        exact Nat.lt_of_le_of_lt (by omega : _ ≤ 3) (by decide)
      · rw [upd_ne (ne_of_none hb hD)]
        exact e5 _ _ (e3 _ _ hb)
      · rw [upd_same, map_take _ hy, List.map_append]
        rfl
    rintro H3 ⟨e3, d3⟩
    have e13 := e12.trans e3
    refine ⟨D, _, rfl, SqL.of d3, _, rfl, ?_⟩
    rw [show ((([m, e, sm].take [vm, ve, vsm].length).map isSq).all id) = (callD d).isSome by rw [hcf]; show (isSq m && (isSq e && (isSq sm && true))) = _; rw [Bool.and_true]]
    cases hcd : callD d with
    | none => exact iteT (qN _ e13 hcd)
    | some cc =>
    obtain ⟨a', b', ms, ds, ss⟩ := cc
    refine iteF ?_
    obtain ⟨m', e', sm', hq', hm, hde, hsm⟩ := callD_some hcd
    rw [hq] at hq'
    cases hq'
    obtain ⟨mvs, ⟨ma, rfl, hm1⟩, hm2, hm3⟩ := s2.sq hm
    obtain ⟨dvs, ⟨da, rfl, hd1⟩, hd2, hd3⟩ := s3.sq hde
    obtain ⟨svs, ⟨sa, rfl, hs1⟩, hs2', hs3⟩ := s4.sq hsm
    have hR : reasonD fs n ys d = (if (!wordB a || decide (a ∈ ys)) = true then some ("name" : Str) else if handB b = false then some ("hand" : Str) else if movesB n ms = false then some ("moves" : Str) else if deedsB fs ds = false then some ("deed" : Str) else if sameB fs b ss = false then some ("same" : Str) else none) := by
      unfold reasonD
      rw [hcd]
    have qS : ∀ (r : Str) H', Same H H' → reasonD fs n ys d = some r → Q (.str r) H' := fun r H' e h => by
      have := q _ e
      rw [h] at this
      exact this
    -- the name
    refine ⟨fun t H' => t = (!wordB a || decide (a ∈ ys)) ∧ Same H H', ⟨_, rfl, ix_of (i := 0) (sq_at e13 hs) rfl ⟨_, .str a, rfl, .str a la, fun H4 e4 => ⟨_, rfl, ite2 (fun g7 => ?_) (fun g7 => ?_)⟩⟩⟩, ?_⟩
    · refine ⟨?_, e13.trans e4⟩
      have g7 : (!wordB a) = true := g7
      rw [g7, Bool.true_or]
    · have g7 : (!wordB a) = false := Bool.eq_false_iff.mpr g7
      refine ⟨_, rfl, ix_of (i := 0) (sq_at (e13.trans e4) hs) rfl ⟨_, rfl, nl, _, rfl, .inl ((e13.trans e4).seq hnl), rfl, flat_strs _, ?_⟩⟩
      rw [inV_strs]
      refine ⟨_, rfl, ?_, e13.trans e4⟩
      rw [g7, Bool.false_or]
      rfl
    rintro _ H4 ⟨rfl, e4⟩
    refine ite2 (fun g7 => ?_) (fun g7 => ?_)
    · exact qS _ _ e4 (by rw [hR, if_pos g7])
    rw [if_neg g7] at hR
    -- the hand
    refine ⟨_, rfl, ix_of (i := 1) (sq_at e4 hs) rfl ⟨by show 3 ≤ sizeLine; decide, fun p5 hp5 => ⟨p5, _, rfl, .inr (SqT.of upd_same), rfl, flat_strs ["self", "new", "last"], !handB b, ?_, ?_⟩⟩⟩
    · rw [show ([.str "self", .str "new", .str "last"] : List V) = (["self", "new", "last"] : List Str).map V.str from rfl, inV_strs]
      refine congrArg (fun c => V.bl (!c)) ?_
      unfold handB
      rw [Bool.eq_iff_iff]
      simp
    have e5 : Same H4 (upd H4 p5 (.tup [.str "self", .str "new", .str "last"])) := same_new (Same.refl H4) hp5
    have e05 := e4.trans e5
    refine ite2 (fun g8 => ?_) (fun g8 => ?_)
    · rw [Bool.not_eq_true'] at g8
      exact qS _ _ e05 (by rw [hR, if_pos g8])
    rw [Bool.not_eq_true', Bool.not_eq_false] at g8
    rw [if_neg (by rw [g8]; exact nofun)] at hR
    -- the moves
    refine ⟨_, rfl, ix_of (i := 2) (sq_at e05 hs) rfl ⟨ma, _, rfl, sq_at e05 hm1, _, rfl, rfl, _, rfl, ?_⟩⟩
    rw [hm2.1, len_dec]
    refine ite2 (fun g9 => ?_) (fun g9 => ?_)
    · rw [Bool.not_eq_true'] at g9
      exact qS _ _ e05 (by rw [hR, if_pos (by unfold movesB; rw [g9, Bool.false_and])])
    rw [Bool.not_eq_true', Bool.not_eq_false] at g9
    have hmB : movesB n ms = ms.all (moveB n) := by
      unfold movesB
      rw [g9, Bool.true_and]
    refine ⟨_, rfl, ix_of (i := 2) (sq_at e05 hs) rfl ⟨ma, _, _, rfl, sq_at e05 hm1, Same.refl _, fun J G wk hG D hD => ?_⟩⟩
    refine lc_it wk (fun i H6 => Same H H6 ∧ H6 D = some (.lst (((ms.take i).map (moveB n)).map V.bl)) ∧ Same (upd H4 p5 (.tup [.str "self", .str "new", .str "last"])) H6) ⟨same_new e05 hD, upd_same, same_new (Same.refl _) hD⟩ (fun i H6 _ h => hG _ h.2.2) ?_ ?_
    · rintro i x H7 H6 hi ⟨e6, d6, f6⟩ ⟨rfl, hx⟩
      obtain ⟨y, hy, sy⟩ := hm2.get hx
      refine ⟨rfl, ?_⟩
      refine ⟨_, rfl, _, rfl, _, rfl, _, _, rfl, rfl, x, y, -1, (n : Int) - 1, rfl, sy.keep e6, ?_⟩
      rw [numB_move]
      refine ⟨_, d6, ?_, fun b o hb => ?_, ?_, fun b o hb => ?_⟩
      · rw [List.length_map, List.length_map, List.length_take]
        have := hm2.1
        exact Nat.lt_of_le_of_lt (by omega : _ ≤ 1000) (by decide)
      · rw [upd_ne (ne_of_none hb (none_of e05 hD))]
        exact e6 _ _ hb
      · rw [upd_same, map_take _ hy, List.map_append]
        rfl
      · rw [upd_ne (ne_of_none hb hD)]
        exact f6 _ _ hb
    rintro H6 ⟨e6, d6, f6⟩
    rw [hm2.1, List.take_length] at d6
    refine ⟨D, _, rfl, SqL.of d6, _, rfl, ?_⟩
    rw [all_map, ← hmB]
    refine ite2 (fun g10 => ?_) (fun g10 => ?_)
    · rw [Bool.not_eq_true'] at g10
      exact qS _ _ e6 (by rw [hR, if_pos g10])
    rw [Bool.not_eq_true', Bool.not_eq_false] at g10
    rw [if_neg (by rw [g10]; exact nofun)] at hR
    -- the deeds
    refine ⟨_, rfl, ix_of (i := 3) (sq_at e6 hs) rfl ⟨_, rfl, _, so, fs, dvs, ds, rfl, ⟨da, rfl, sq_at e6 hd1⟩, hd2.mono fun _ _ h => h.keep e6, hd3, e6 _ _ hso, nd, fun H7 e7 => ⟨_, rfl, ?_⟩⟩⟩
    have e07 := e6.trans e7
    refine ite2 (fun g11 => ?_) (fun g11 => ?_)
    · rw [Bool.not_eq_true'] at g11
      exact qS _ _ e07 (by rw [hR, if_pos g11])
    rw [Bool.not_eq_true', Bool.not_eq_false] at g11
    rw [if_neg (by rw [g11]; exact nofun)] at hR
    -- the same
    refine ⟨by show 0 ≤ sizeLine; decide, fun S hS => ?_⟩
    have e8 : Same H7 (upd H7 S (.lst [])) := same_new (Same.refl H7) hS
    have hS0 := none_of e07 hS
    have e08 := e07.trans e8
    have qS2 : ∀ H', Same H H' → sameB fs b ss = false → Q (.str "same") H' := fun H' e h => qS _ _ e (by rw [hR, if_pos h])
    refine ⟨_, rfl, ix_of (i := 4) (sq_at e08 hs) rfl ⟨sa, _, H, rfl, hs1, e08, fun J G wk hG => ?_⟩⟩
    refine for_it wk (fun i σ H9 => Same H H9 ∧ (ss.take i).all (manyB fs) = true ∧ ((ss.take i).map strD).Nodup ∧ (b = "self" → i = 0) ∧ H9 S = some (.lst (((ss.take i).map strD).map V.str)) ∧ ∃ x4, σ = [some (.ref p), some (.ref so), some (.int n), some (.ref nl), x4, some (.ref S)])
      ⟨e08, rfl, List.nodup_nil, fun _ => rfl, upd_same, _, rfl⟩ (fun i σ H9 _ h => hG _ h.1) ?_ ?_
    · rintro i x σ H10 H9 hi ⟨e9, hall, hnd, hself, d9, x4, rfl⟩ ⟨rfl, hx⟩
      obtain ⟨y, hy, sy⟩ := hs2'.get hx
      have ym := List.mem_of_getElem? hy
      have f1 : manyB fs y = false → sameB fs b ss = false := fun h => by
        unfold sameB
        rw [Bool.and_eq_false_iff]
        left
        rw [List.all_eq_false]
        exact ⟨y, ym, by rw [h]; exact nofun⟩
      have f2 : strD y ∈ (ss.take i).map strD → sameB fs b ss = false := fun h => by
        unfold sameB
        rw [Bool.and_eq_false_iff]
        right
        rw [Bool.and_eq_false_iff]
        right
        refine decide_eq_false fun nd => ?_
        have h3 : ((ss.take (i + 1)).map strD).Nodup := nd.sublist ((List.take_sublist _ _).map _)
        rw [map_take _ hy] at h3
        exact absurd rfl ((List.nodup_append.mp h3).2.2 _ h _ (by simp))
      have f3 : b = "self" → sameB fs b ss = false := fun h => by
        unfold sameB
        rw [Bool.and_eq_false_iff]
        right
        rw [Bool.and_eq_false_iff]
        left
        rw [decide_eq_true h]
        cases ss with
        | nil => cases ym
        | cons _ _ => rfl
      refine ⟨fun t H' => H' = H9 ∧ ((t = true ∧ sameB fs b ss = false) ∨ (t = false ∧ ∃ z, x = .str z ∧ y = .str z ∧ manyB fs y = true ∧ z ∉ (ss.take i).map strD ∧ b ≠ "self")), ?_, ?_⟩
      · obtain ⟨t0, ty0, k0, -⟩ := (sy.keep e9).ty
        refine ⟨_, rfl, _, _, _, _, isStr y, rfl, .ty _, ty0, kit_ty k0, _, rfl, ite2 (fun g1 => ?_) (fun g1 => ?_)⟩
        · refine ⟨rfl, .inl ⟨rfl, f1 ?_⟩⟩
          rw [Bool.not_eq_true'] at g1
          cases y <;> first | rfl | cases g1
        rw [Bool.not_eq_true', Bool.not_eq_false] at g1
        cases y <;> simp only [isStr] at g1 <;> try cases g1
        rename_i z
        obtain ⟨rfl, -⟩ := sy.str'
        have hg : DGet H9 so (.str z) _ := DGet.k (k := .inr z) (e9 _ _ hso)
        have hm : manyB fs (.str z) = _ := any_find (P := fun f => f.many) z nd
        rw [sorts_find] at hg
        have hD : IsD H9 so := .inl ⟨_, .inl (e9 _ _ hso)⟩
        refine ⟨_, rfl, so, rfl, hD, _, rfl, _, hg, ?_⟩
        cases hz : fs.find? (fun f => decide (f.nm = z)) with
        | none =>
          rw [hz] at hm
          exact ⟨rfl, true, rfl, iteT ⟨rfl, .inl ⟨rfl, f1 hm⟩⟩⟩
        | some g =>
        rw [hz] at hm
        have hm : manyB fs (.str z) = g.many := hm
        refine ⟨rfl, !g.many, congrArg (fun c => V.bl (!c)) (sort_many g.many), ite2 (fun g2 => ?_) (fun g2 => ?_)⟩
        · rw [Bool.not_eq_true'] at g2
          exact ⟨rfl, .inl ⟨rfl, f1 (hm.trans g2)⟩⟩
        rw [Bool.not_eq_true', Bool.not_eq_false] at g2
        refine ⟨_, rfl, _, rfl, S, _, rfl, .inl (SqL.of d9), rfl, flat_strs _, ?_⟩
        rw [inV_strs]
        refine ⟨_, rfl, ite2 (fun g3 => ?_) (fun g3 => ?_)⟩
        · have g3 := of_decide_eq_true g3
          exact ⟨rfl, .inl ⟨rfl, f2 g3⟩⟩
        have g3 := of_decide_eq_false (Bool.eq_false_iff.mpr g3)
        refine ⟨_, rfl, ix_of (i := 1) (sq_at e9 hs) rfl ⟨rfl, _, rfl, rfl, ?_⟩⟩
        rw [str_dec]
        by_cases hb : b = "self"
        · exact .inl ⟨decide_eq_true hb, f3 hb⟩
        · exact .inr ⟨decide_eq_false hb, z, rfl, rfl, hm.trans g2, g3, hb⟩
      rintro t H9 ⟨rfl, ⟨rfl, hb⟩ | ⟨rfl, z, rfl, rfl, hm, hnz, hb⟩⟩
      · exact iteT (qS2 _ e9 hb)
      refine iteF ?_
      have kl : (((ss.take i).map strD).map V.str).length < sizeLine := by
        rw [List.length_map, List.length_map, List.length_take]
        have := hs2'.1
        exact Nat.lt_of_le_of_lt (by omega : _ ≤ 1000) (by decide)
      refine ⟨_, rfl, .inl ⟨rfl, _, SqL.of d9⟩, _, rfl, S, _, _, rfl, rfl, d9, kl, fun c o hc => ?_, ?_, ?_, fun h => absurd h hb, ?_, _, rfl⟩
      · rw [upd_ne (ne_of_none hc hS0)]
        exact e9 _ _ hc
      · rw [List.take_succ, hy, List.all_append, hall]
        simp [hm]
      · rw [map_take _ hy]
        exact List.nodup_append.mpr ⟨hnd, by simp, fun a ha c hc e => by
          rw [List.mem_singleton.mp hc] at e
          rw [e] at ha
          exact hnz ha⟩
      · rw [upd_same, map_take _ hy, List.map_append]
        rfl
    · rintro σ H9 ⟨e9, hall, hnd, hself, d9, x4, rfl⟩
      rw [hs2'.1, List.take_length] at hall
      rw [hs2'.1, List.take_length] at hnd
      have hsb : sameB fs b ss = true := by
        unfold sameB
        rw [hall, decide_eq_true hnd, Bool.true_and, Bool.and_true]
        by_cases h : b = "self"
        · have := hself h
          rw [hs2'.1] at this
          rw [List.length_eq_zero_iff.mp this]
          simp
        · rw [decide_eq_false h]
          rfl
      have := q _ e9
      rw [hR, if_neg (by rw [hsb]; exact nofun)] at this
      exact this
end
end MK
set_option Elab.async false
set_option linter.all false
set_option autoImplicit false
set_option maxRecDepth 100000
set_option maxHeartbeats 4000000
namespace MK
open PySem PySem.Spec PyProof.Rows L2
local macro_rules | `(tactic| walk_at "x") => `(tactic| dsimp only [tSeq, tAsg, tRet, tDrop, tLst, tTup, tCons, tOp, tUn, tIfS])
/-! ### the law: what is due -/
abbrev s_kind_due : Stmt := topS 70
theorem sc_kind_due : FnScope ["_law_fields", "_law_calls", "_law_far", "_law_sorts", "_law_k", "_law_x", "_law_row", "_law_names", "_law_reason"] ["_law_fields", "_law_calls", "_law_far"] (defScope s_kind_due) := ⟨rfl, rfl, rfl, by decide +kernel, rfl, by decide +kernel, by decide +kernel⟩
def DueV (H : Hp) (p : Addr) (mv : V) : Due → Prop
  | .fld i => H p = some (.tup [.str "field", .int (i : Nat)])
  | .mod => H p = some (.tup [.str "modes", mv])
  | .cal i r => ∃ q, H p = some (.tup [.str "call", .ref q]) ∧ H q = some (.tup [.int (i : Nat), .str r])
  | .told _ _ _ => H p = some (.tup [.str "told", .non])
def spDue (K : PySem.W.Frag) : Sp := fun vs H Q _ => ∃ (fv cv mv : V) (fd cd md : Dt) (r : Due), vs = [fv, cv, mv] ∧ Sh K H fv fd ∧ Sh K H cv cd ∧ Sh K H mv md ∧ DueOf fd md cd r ∧ ∀ p H', Same H H' → H p = none → DueV H' p mv r → Q (.ref p) H'
theorem due_split {fd md cd : Dt} {r : Due} (h : DueOf fd md cd r) : ((sqD fd = none ∨ sqD fd = some []) ∧ r = .fld 0) ∨ ∃ (ds : List Dt) (j : Nat) (fs : List FD), sqD fd = some ds ∧ 1 ≤ ds.length ∧ PreF ds j fs ∧
    ((r = .fld j ∧ ∃ d, ds[j]? = some d ∧ (j = 3 ∨ fieldB (fs.map (·.nm)) d = false)) ∨ (j = ds.length ∧ ((modesB md = false ∧ r = .mod) ∨ ∃ n : Nat, md = .int n ∧ 1 ≤ n ∧ n ≤ 4 ∧
      (((sqD cd = none ∨ sqD cd = some []) ∧ r = .cal 0 "call") ∨ ∃ (es : List Dt) (i : Nat) (cs : List CD), sqD cd = some es ∧ 1 ≤ es.length ∧ PreC fs n es i cs ∧
        ((∃ q, r = .cal i q ∧ ∃ d, es[i]? = some d ∧ ((i = 6 ∧ q = "call") ∨ (i < 6 ∧ reasonD fs n (cs.map (·.nm)) d = some q))) ∨ (i = es.length ∧ r = .told fs n cs)))))) := by
  cases h with
  | f0 h => exact .inl ⟨h, rfl⟩
  | @f ds i fs h1 h2 =>
    obtain ⟨d, hd, hb⟩ := h2.2
    exact .inr ⟨ds, i, fs, h1, by have := (List.getElem?_eq_some_iff.mp hd).1; omega, h2.1, .inl ⟨rfl, d, hd, hb⟩⟩
  | @m ds fs h1 l1 h2 h3 => exact .inr ⟨ds, _, fs, h1, l1, h2, .inr ⟨rfl, .inl ⟨h3, rfl⟩⟩⟩
  | @c0 ds fs n h1 l1 h2 h3 h4 h5 h6 => exact .inr ⟨ds, _, fs, h1, l1, h2, .inr ⟨rfl, .inr ⟨n, h3, h4, h5, .inl ⟨h6, rfl⟩⟩⟩⟩
  | @c ds es fs n i cs q h1 l1 h2 h3 h4 h5 h6 h7 =>
    obtain ⟨d, hd, hb⟩ := h7.2
    exact .inr ⟨ds, _, fs, h1, l1, h2, .inr ⟨rfl, .inr ⟨n, h3, h4, h5, .inr ⟨es, i, cs, h6, by have := (List.getElem?_eq_some_iff.mp hd).1; omega, h7.1, .inl ⟨q, rfl, d, hd, hb⟩⟩⟩⟩⟩
  | @told ds es fs n cs h1 l1 h2 h3 h4 h5 h6 l2 h7 => exact .inr ⟨ds, _, fs, h1, l1, h2, .inr ⟨rfl, .inr ⟨n, h3, h4, h5, .inr ⟨es, _, cs, h6, l2, h7, .inr ⟨rfl, rfl⟩⟩⟩⟩⟩
theorem rd_slK {K : PySem.W.Frag} {H : Hp} {p : Addr} {xs : List V} {k : Nat} {Q : VK} (hk : k < xs.length) (h : SqL K H p xs ∨ SqT K H p xs) (q : ∀ p2 H', Same H H' → (SqL K H' p2 (xs.take k) ∨ SqT K H' p2 (xs.take k)) → Q (.ref p2) H') : rSlL K (.ref p) none (some (k : Int)) H Q ∨ rSlT K (.ref p) none (some (k : Int)) H Q := by
  have e : HT.sIx xs.length xs.length (some (k : Int)) = min k xs.length := HT.sIx_nat _ _ _
  have c : cutV xs none (some (k : Int)) = xs.take k := by
    unfold cutV
    rw [HT.sIx_none, e, List.drop_zero, Nat.sub_zero, Nat.min_eq_left (by omega)]
  rcases h with h | h
  · refine .inl ⟨p, _, rfl, h, fun p2 hp => q p2 _ (same_new (Same.refl H) hp) (.inl ?_)⟩
    rw [c]
    exact SqL.of upd_same
  · refine .inr ⟨p, _, rfl, h, fun z => ?_, fun p2 hp => q p2 _ (same_new (Same.refl H) hp) (.inr ?_)⟩
    · have := z.2
      rw [e] at this
      omega
    · rw [c]
      exact SqT.of upd_same
theorem sorts_take (fs : List FD) (i : Nat) : (sortsV fs).take i = sortsV (fs.take i) := by
  unfold sortsV
  rw [List.map_take]
theorem call_head {K : PySem.W.Frag} {H : Hp} {v : V} {d : Dt} {c : CD} (h : CdD d c) (s : Sh K H v d) : ∃ (p : Addr) (a b e f : V), v = .ref p ∧ (SqL K H p [.str c.nm, a, b, e, f] ∨ SqT K H p [.str c.nm, a, b, e, f]) := by
  obtain ⟨m, d', s', ds, ⟨p, rfl, h⟩, _⟩ := h.a s
  exact ⟨p, _, _, _, _, rfl, h⟩
theorem reason_ne {fs : List FD} {n : Nat} {ys : List Str} {d : Dt} {q : Str} (h : reasonD fs n ys d = some q) : q ≠ "" := by
  unfold reasonD at h
  split at h
  · cases h; decide
  split at h
  · cases h; decide
  split at h
  · cases h; decide
  split at h
  · cases h; decide
  split at h
  · cases h; decide
  split at h
  · cases h; decide
  · cases h
section
variable {P : Program} {w : World} {K : PySem.W.Frag} {mg : Str → Option Value} {base : Heap} {C : Cst}
theorem ok_due {f : Addr} {fd : FuncData} (F : DefX K mg "_law_kind_due" s_kind_due ["_law_fields", "_law_calls", "_law_far"] f fd) (T : Txt K mg) (c_l_is_list : Cal P w K mg base CX0 1 "_law_is_list" (spListX K)) (c_l_is_word : Cal P w K mg base CX0 1 "_law_is_word" (spLWord K))
    (c_is_number : Cal P w K mg base CX0 1 "_law_is_number" (spNum K)) (c_call_reason : Cal P w K mg base CX0 3 "_law_call_reason" (spReason K)) : Cal P w K mg base CX0 4 "_law_kind_due" (spDue K) := by
  refine cal_mk F sc_kind_due (fun vs H Q E h => ?_) (fun cdv A outer sh H vs Q E hr h => ?_)
  · obtain ⟨fv, cv, mv, fd, cd, md, r, rfl, _⟩ := h
    rfl
  · obtain ⟨fv, cv, mv, fd, cd, md, r, rfl, sf, sc, sm, due, q⟩ := h
    refine ⟨_, (pss_cons (ps_if (pt_cut (PW.pt (pw_or (pt_not (pt_val (pe_c c_l_is_list hr (by first | decide | assumption) rfl (pa_cons (pv 0) pa_nil)))) (pw_or1 (pt_cmpR op_eq (pe_callB call_len_seq (by rfl) T.len (by decide +kernel) (pa_cons (pv 0) pa_nil)) pe_int (nomark _))))))
(pss_one (ps_ret (pe_tup (pa_cons pe_str (pa_cons pe_int pa_nil)))))
pss_nil)
(pss_cons (ps_set (i := 3) sc_kind_due.nd rfl (Or.inl rfl) pe_dnewK)
(pss_cons (ps_for PassesOwn.never rfl (pi_enV (by rfl) T.enumerate (pa_cons (pv 0) pa_nil)) (pg_tup (by rfl) (pgs_cons (pg_name (i := 4) sc_kind_due.nd rfl (Or.inl rfl)) (pgs_cons (pg_name (i := 5) sc_kind_due.nd rfl (Or.inl rfl)) pgs_nil)))
(pss_cons (ps_if (pt_cut (PW.pt (pw_or (pt_cmpR op_eq (pv 4) pe_int (nomark _)) (pw_or (pt_not (pt_val (pe_c c_l_is_list hr (by first | decide | assumption) rfl (pa_cons (pv 5) pa_nil)))) (pw_or (pt_cmpR op_ne (pe_callB call_len_seq (by rfl) T.len (by decide +kernel) (pa_cons (pv 5) pa_nil)) pe_int (nomark _)) (pw_or (pt_not (pt_val (pe_c c_l_is_word hr (by first | decide | assumption) rfl (pa_cons (pe_ix ix_seq (pv 5) pe_int (fun _ _ => rfl)) pa_nil)))) (pw_or1 (pt_cmp (pc_din (hu_of hr) (pe_ix ix_seq (pv 5) pe_int (fun _ _ => rfl)) (pv 3))))))))))
(pss_one (ps_ret (pe_tup (pa_cons pe_str (pa_cons (pv 4) pa_nil)))))
pss_nil)
(pss_cons (ps_if (pt_cut (PW.pt (pw_or (pt_not (pt_val (pe_callB call_isi (by rfl) T.isinstance (by decide +kernel) (pa_cons (pe_ix ix_seq (pv 5) pe_int (fun _ _ => rfl)) (pa_cons (pe_tyv (n := "str") (by rfl) T.str (by decide +kernel)) pa_nil))))) (pw_or (pt_cmpR op_notIn_seq (pe_ix ix_seq (pv 5) pe_int (fun _ _ => rfl)) (pe_tup (pa_cons pe_str (pa_cons pe_str pa_nil))) (by rfl)) (pw_or1 (pt_not (pt_val (pe_callB call_isi (by rfl) T.isinstance (by decide +kernel) (pa_cons (pe_ix ix_seq (pv 5) pe_int (fun _ _ => rfl)) (pa_cons (pe_tyv (n := "bool") (by rfl) T.bool (by decide +kernel)) pa_nil))))))))))
(pss_one (ps_ret (pe_tup (pa_cons pe_str (pa_cons (pv 4) pa_nil)))))
pss_nil)
(pss_one (ps_asg (pe_ix ix_seq (pv 5) pe_int (fun _ _ => rfl)) (pg_sub (pv 3) (pe_ix ix_seq (pv 5) pe_int (fun _ _ => rfl)) (set_dict (hu_of hr))))))))
(pss_cons (ps_if (pt_not (pt_val (pe_c c_is_number hr (by first | decide | assumption) rfl (pa_cons (pv 2) (pa_cons pe_int (pa_cons pe_int pa_nil))))))
(pss_one (ps_ret (pe_tup (pa_cons pe_str (pa_cons (pv 2) pa_nil)))))
pss_nil)
(pss_cons (ps_if (pt_cut (PW.pt (pw_or (pt_not (pt_val (pe_c c_l_is_list hr (by first | decide | assumption) rfl (pa_cons (pv 1) pa_nil)))) (pw_or1 (pt_cmpR op_eq (pe_callB call_len_seq (by rfl) T.len (by decide +kernel) (pa_cons (pv 1) pa_nil)) pe_int (nomark _))))))
(pss_one (ps_ret (pe_tup (pa_cons pe_str (pa_cons (pe_tup (pa_cons pe_int (pa_cons pe_str pa_nil))) pa_nil)))))
pss_nil)
(pss_cons (ps_for PassesOwn.never rfl (pi_enV (by rfl) T.enumerate (pa_cons (pv 1) pa_nil)) (pg_tup (by rfl) (pgs_cons (pg_name (i := 4) sc_kind_due.nd rfl (Or.inl rfl)) (pgs_cons (pg_name (i := 5) sc_kind_due.nd rfl (Or.inl rfl)) pgs_nil)))
(pss_cons (ps_setLc (i := 7) (own := [("_law_row", 6)]) (g := (gName 6)) (tt := tYes) rfl sc_kind_due.nd rfl rfl (sw_true rfl rfl rfl (by decide +kernel)) (pi_sqG (pe_slice (sl_sqK (K := K) rfl) (pv 1) po_none (po_some (pv 4)))) (blkOk_by (own := [("_law_row", 6)]) (N := ["_law_fields", "_law_calls", "_law_far", "_law_sorts", "_law_k", "_law_x", "_law_row", "_law_names", "_law_reason"]) (sc := defScope s_kind_due) (by decide +kernel)) (fun _ _ _ _ _ => (pg_name (i := 6) sc_kind_due.nd rfl (Or.inl rfl))) (fun _ _ _ _ _ => pts_nil) (fun _ _ _ _ _ => (pe_ix (ix_seqK (K := K) rfl) (pv 6) pe_int (fun _ _ => rfl))))
(pss_cons (ps_set (i := 8) sc_kind_due.nd rfl (Or.inl rfl) (pe_cut (pe_ifExp (pt_cmpR op_eq (pv 4) pe_int (nomark _)) pe_str (pe_c c_call_reason hr (by first | decide | assumption) rfl (pa_cons (pv 5) (pa_cons (pv 3) (pa_cons (pv 2) (pa_cons (pv 7) pa_nil))))))))
(pss_one (ps_if (pt_cmpR op_ne (pv 8) pe_str (nomark _))
(pss_one (ps_ret (pe_tup (pa_cons pe_str (pa_cons (pe_tup (pa_cons (pv 4) (pa_cons (pv 8) pa_nil))) pa_nil)))))
pss_nil)))))
(pss_one (ps_ret (pe_tup (pa_cons pe_str (pa_cons pe_non pa_nil))))))))))), ?_⟩
    have q1 : ∀ (z : Str) (u : V) H1, Same H H1 → (∀ (H' : Hp) p, H' p = some (.tup [.str z, u]) → DueV H' p mv r) → ∀ p, H1 p = none → Q (.ref p) (upd H1 p (.tup [.str z, u])) := fun z u H1 e h p hp => q p _ (same_new e hp) (none_of e hp) (h _ p upd_same)
    rcases due_split due with ⟨hd, rfl⟩ | ⟨ds, j, fs, hsq, l1, pre, due⟩
    · refine ⟨fun t H' => t = true ∧ Same H H', ?_, ?_⟩
      · rcases hd with hd | hd
        · exact ⟨_, rfl, fv, fd, rfl, sf, fun H1 e1 => ⟨false, congrArg V.bl (by rw [isSq_iff, hd]; rfl), iteT ⟨rfl, e1⟩⟩⟩
        · obtain ⟨vs, ⟨a, rfl, hs⟩, al, few⟩ := sf.sq hd
          refine ⟨_, rfl, .ref a, fd, rfl, sf, fun H1 e1 => ⟨true, congrArg V.bl (by rw [isSq_iff, hd]; rfl), iteF ?_⟩⟩
          refine ⟨_, rfl, a, _, rfl, sq_at e1 hs, rfl, _, rfl, ?_, e1⟩
          rw [al.1]
          rfl
      · rintro _ H1 ⟨rfl, e1⟩
        exact iteT ⟨by show 2 ≤ sizeLine; decide, q1 "field" (.int 0) H1 e1 fun H' p h => h⟩
    obtain ⟨vs, ⟨a, rfl, hv0⟩, hal, few⟩ := sf.sq hsq
    refine ⟨fun t H' => t = false ∧ Same H H', ⟨_, rfl, .ref a, fd, rfl, sf, fun H1 e1 => ⟨true, congrArg V.bl (by rw [isSq_iff, hsq]; rfl), iteF ?_⟩⟩, ?_⟩
    · refine ⟨_, rfl, a, _, rfl, sq_at e1 hv0, rfl, _, rfl, ?_, e1⟩
      rw [hal.1, len_dec0]
      exact decide_eq_false (by omega)
    rintro _ H1 ⟨rfl, e1⟩
    refine iteF ?_
    intro D hD
    have hD0 := none_of e1 hD
    have eD : Same H (upd H1 D (.dK [])) := same_new e1 hD
    refine ⟨_, rfl, a, vs, H, rfl, hv0, eD, fun J G wk hG => ?_⟩
    refine for_it wk (fun i σ H2 => i ≤ j ∧ Same H H2 ∧ H2 D = some (.dK (sortsV (fs.take i))) ∧ ∃ x4 x5 x6 x7 x8, σ = [some (.ref a), some cv, some mv, some (.ref D), x4, x5, x6, x7, x8])
      ⟨Nat.zero_le _, eD, upd_same, none, none, none, none, none, rfl⟩ (fun i σ H2 _ h => hG _ h.2.1) ?_ ?_
    · rintro i x σ H2 H3 hi ⟨ij, e2, d2, x4, x5, x6, x7, x8, rfl⟩ ⟨U, _, y, rfl, hU, rfl, h1, hy⟩
      obtain rfl := Option.some.inj h1
      obtain ⟨g, hg, sg⟩ := hal.get hy
      have e3 : Same H2 (upd H2 U (.tup [.int (i : Nat), y])) := same_new (Same.refl H2) hU
      refine ⟨U, _, rfl, SqT.of upd_same, rfl, _, _, rfl, _, _, rfl, rfl, ?_⟩
      revert e3
      generalize upd H2 U (.tup [.int (i : Nat), y]) = H3
      intro e3
      have e23 := e2.trans e3
      have d3 := e3 _ _ d2
      have ret : (r = .fld i) → ∀ H4, Same H3 H4 → ∀ p, H4 p = none → Q (.ref p) (upd H4 p (.tup [.str "field", .int (i : Nat)])) := fun e H4 e4 => q1 "field" _ H4 (e23.trans e4) fun H' p h => by rw [e]; exact h
      have hcase : ((i = 3 ∨ fieldB ((fs.take i).map (·.nm)) g = false) → r = .fld i) ∧ (¬ (i = 3 ∨ fieldB ((fs.take i).map (·.nm)) g = false) → i < j ∧ ∃ f, fs[i]? = some f ∧ FdD g f) := by
        by_cases hij : i = j
        · subst hij
          have hl : i < ds.length := by
            have h1 : i < vs.length := hi
            have h2 := hal.1
            omega
          rcases due with ⟨e, d, hd, hb⟩ | ⟨e, _⟩
          · rw [hg] at hd
            cases hd
            refine ⟨fun _ => e, fun h => absurd ?_ h⟩
            rw [List.take_of_length_le (by have := pre.len; omega)]
            exact hb
          · omega
        · have hl := pre.len
          have h3 := pre.le
          obtain ⟨f, hf⟩ : ∃ f, fs[i]? = some f := ⟨_, List.getElem?_eq_getElem (by omega)⟩
          have hfd := pre.all i g f hg hf
          refine ⟨fun h => ?_, fun _ => ⟨by omega, f, hf, hfd⟩⟩
          rcases h with h | h
          · omega
          · rw [fieldB_of hfd (by rw [List.map_take]; exact nm_new pre.nd (by rw [List.getElem?_map, hf]; rfl))] at h
            cases h
      generalize hys : (fs.take i).map (·.nm) = ys at hcase
      have sg3 := sg.keep e23
      -- the form and the name
      refine ⟨fun t H' => Same H3 H' ∧ ((t = true ∧ r = .fld i) ∨ (t = false ∧ i ≠ 3 ∧ ∃ (p : Addr) (z : Str) (so b : Dt) (vso vb : V), y = .ref p ∧ (SqL K H3 p [.str z, vso, vb] ∨ SqT K H3 p [.str z, vso, vb]) ∧ Sh K H3 vso so ∧ Sh K H3 vb b ∧ fieldB ys g = (sortD so && isBl b) ∧ sqD g = some [.str z, so, b])), ?_, ?_⟩
      · refine ⟨_, rfl, rfl, _, rfl, ?_⟩
        rw [len_dec3]
        refine ite2 (fun h3 => ?_) (fun h3 => ?_)
        · have h3 := of_decide_eq_true h3
          exact ⟨Same.refl _, .inl ⟨rfl, hcase.1 (.inl h3)⟩⟩
        have h3 := of_decide_eq_false (Bool.eq_false_iff.mpr h3)
        refine ⟨_, rfl, y, g, rfl, sg3, fun H4 e4 => ⟨_, rfl, ?_⟩⟩
        cases hq : sqD g with
        | none =>
          rw [show isSq g = false by rw [isSq_iff, hq]; rfl]
          exact iteT ⟨e4, .inl ⟨rfl, hcase.1 (.inr (by unfold fieldB; rw [hq]))⟩⟩
        | some xs =>
        rw [show isSq g = true by rw [isSq_iff, hq]; rfl]
        refine iteF ?_
        obtain ⟨us, ⟨p, rfl, hs⟩, al, _⟩ := sg3.sq hq
        refine ⟨_, rfl, p, _, rfl, sq_at e4 hs, rfl, _, rfl, ?_⟩
        rw [al.1, len_dec3]
        refine ite2 (fun g1 => ?_) (fun g1 => ?_)
        · rw [Bool.not_eq_true', decide_eq_false_iff_not] at g1
          exact ⟨e4, .inl ⟨rfl, hcase.1 (.inr (fieldB_len hq g1))⟩⟩
        rw [Bool.not_eq_true', Bool.not_eq_false, decide_eq_true_iff] at g1
        obtain ⟨n, so, b, rfl⟩ := len3 g1
        obtain ⟨vn, vso, vb, rfl⟩ := len3 al.1
        have s0 := al.2 0 vn n rfl rfl
        have hfb : fieldB ys g = (wordD n && (!inNm ys n && (sortD so && isBl b))) := by unfold fieldB; rw [hq]
        refine ⟨_, rfl, ix_of (i := 0) (sq_at e4 hs) rfl ⟨vn, n, rfl, s0.keep e4, fun H5 e5 => ⟨_, rfl, ite2 (fun g2 => ?_) (fun g2 => ?_)⟩⟩⟩
        · rw [Bool.not_eq_true'] at g2
          exact ⟨e4.trans e5, .inl ⟨rfl, hcase.1 (.inr (by rw [hfb, g2, Bool.false_and]))⟩⟩
        rw [Bool.not_eq_true', Bool.not_eq_false] at g2
        have e45 := e4.trans e5
        cases n <;> simp only [wordD] at g2 <;> try cases g2
        rename_i z
        obtain ⟨rfl, -⟩ := s0.str'
        have hgD : DGet H5 D (.str z) _ := DGet.k (k := .inr z) (e45 _ _ d3)
        refine ⟨_, rfl, ix_of (i := 0) (sq_at e45 hs) rfl ⟨_, rfl, D, _, rfl, hgD, _, rfl, e45, ?_⟩⟩
        rw [sorts_has, hys]
        have hfb : fieldB ys g = (wordB z && (!decide (z ∈ ys) && (sortD so && isBl b))) := hfb
        rw [show wordB z = true from g2, Bool.true_and] at hfb
        by_cases hz : z ∈ ys
        · rw [decide_eq_true hz] at hfb ⊢
          exact .inl ⟨rfl, hcase.1 (.inr hfb)⟩
        · rw [decide_eq_false hz] at hfb ⊢
          exact .inr ⟨rfl, h3, p, z, so, b, vso, vb, rfl, hs, al.2 1 vso so rfl rfl, al.2 2 vb b rfl rfl, hfb, rfl⟩
      rintro t H4 ⟨e4, ⟨rfl, hb⟩ | ⟨rfl, h3, p, z, so, b, vso, vb, rfl, hs, s1, s2, hfb, hq⟩⟩
      · exact iteT ⟨_, rfl, by show 2 ≤ sizeLine; decide, ret hb H4 e4⟩
      refine iteF ?_
      -- the sort and the need
      refine ⟨fun t H' => Same H3 H' ∧ ((t = true ∧ r = .fld i) ∨ (t = false ∧ fieldB ys g = true)), ?_, ?_⟩
      · obtain ⟨t1, ty1, k1, -⟩ := (s1.keep e4).ty
        refine ⟨_, rfl, ix_of (i := 1) (sq_at e4 hs) rfl ⟨_, _, _, _, isStr so, rfl, .ty _, ty1, kit_ty k1, _, rfl, ite2 (fun g1 => ?_) (fun g1 => ?_)⟩⟩
        · rw [Bool.not_eq_true'] at g1
          refine ⟨e4, .inl ⟨rfl, hcase.1 (.inr ?_)⟩⟩
          have hns : sortD so = false := by cases so <;> first | rfl | cases g1
          rw [hfb, hns, Bool.false_and]
        rw [Bool.not_eq_true', Bool.not_eq_false] at g1
        cases so <;> simp only [isStr] at g1 <;> try cases g1
        rename_i u
        obtain ⟨rfl, -⟩ := s1.str'
        refine ⟨_, rfl, ix_of (i := 1) (sq_at e4 hs) rfl ⟨by show 2 ≤ sizeLine; decide, fun p5 hp5 => ⟨p5, _, rfl, .inr (SqT.of upd_same), rfl, flat_strs ["one", "many"], ?_⟩⟩⟩
        have e5 : Same H4 (upd H4 p5 (.tup [.str "one", .str "many"])) := same_new (Same.refl H4) hp5
        have e45 := e4.trans e5
        have hsu : inV (.str u) [.str "one", .str "many"] = sortD (.str u) := sort_in (s1.keep e45)
        rw [hsu]
        refine ⟨_, rfl, ite2 (fun g2 => ?_) (fun g2 => ?_)⟩
        · have g2 : (!sortD (.str u)) = true := g2
          rw [Bool.not_eq_true'] at g2
          refine ⟨e45, .inl ⟨rfl, hcase.1 (.inr ?_)⟩⟩
          rw [hfb, g2, Bool.false_and]
        have g2 : (!sortD (.str u)) = false := Bool.eq_false_iff.mpr g2
        rw [Bool.not_eq_false'] at g2
        obtain ⟨t2, ty2, -, -, k2, -⟩ := (s2.keep e45).ty
        refine ⟨_, rfl, ix_of (i := 2) (sq_at e45 hs) rfl ⟨_, _, _, _, isBl b, rfl, .ty _, ty2, kit_ty k2, _, rfl, e45, ?_⟩⟩
        rw [g2, Bool.true_and] at hfb
        cases hb : isBl b with
        | false => exact .inl ⟨rfl, hcase.1 (.inr (hfb.trans hb))⟩
        | true => exact .inr ⟨rfl, hfb.trans hb⟩
      rintro t H5 ⟨e5, ⟨rfl, hb⟩ | ⟨rfl, hb⟩⟩
      · exact iteT ⟨_, rfl, by show 2 ≤ sizeLine; decide, ret hb H5 e5⟩
      refine iteF ?_
      obtain ⟨ilt, f, hf, hfd⟩ := hcase.2 (fun h => h.elim h3 fun h => by rw [hb] at h; cases h)
      obtain ⟨s', hq', hs', _⟩ := hfd
      rw [hq] at hq'
      cases hq'
      obtain ⟨rfl, -⟩ := s1.str'
      have d5 := e5 _ _ d3
      have kl : (sortsV (fs.take i)).length < sizeLine := by
        rw [sorts_len, List.length_take]
        have := pre.le
        exact Nat.lt_of_le_of_lt (by omega : _ ≤ 3) (by decide)
      refine ⟨_, rfl, ix_of (i := 1) (sq_at e5 hs) rfl ⟨_, rfl, _, rfl, ix_of (i := 0) (sq_at e5 hs) rfl ⟨D, _, rfl, DPut.k (k := .inr f.nm) d5 kl, by omega, fun c o hc => ?_, ?_, _, _, _, _, _, rfl⟩⟩⟩
      · rw [upd_ne (ne_of_none hc hD0)]
        exact (e23.trans e5) _ _ hc
      · rw [upd_same, ← sorts_take, ← sorts_take, hs', put_take (sorts_nd pre.nd) (sorts_at hf)]
    · rintro σ H2 ⟨ij, e2, d2, x4, x5, x6, x7, x8, rfl⟩
      have hjl := pre.lt
      have hj : j = ds.length := by
        have := hal.1
        omega
      subst hj
      have rest := (due.resolve_left fun h => by
        obtain ⟨_, d, hd, _⟩ := h
        have := (List.getElem?_eq_some_iff.mp hd).1
        omega).2
      clear due
      rw [hal.1, List.take_of_length_le (by have := pre.len; omega)] at d2
      have hnb : numB 1 4 md = modesB md := by cases md <;> rfl
      refine ⟨_, rfl, mv, md, 1, 4, rfl, sm.keep e2, ?_⟩
      rw [hnb]
      rcases rest with ⟨hm, rfl⟩ | ⟨n, rfl, n1, n4, rest⟩
      · exact ⟨false, congrArg V.bl hm, iteT ⟨_, rfl, by show 2 ≤ sizeLine; decide, q1 "modes" mv H2 e2 fun H' p h => h⟩⟩
      obtain rfl := sm.int'
      refine ⟨true, congrArg V.bl ?_, iteF ?_⟩
      · show (decide ((1 : Int) ≤ n) && decide ((n : Int) ≤ 4)) = true
        rw [decide_eq_true (by omega : (1 : Int) ≤ n), decide_eq_true (by omega : (n : Int) ≤ 4)]
        rfl
      have q2 : ∀ (k : Nat) (z : Str) H1, Same H H1 → r = .cal k z → ∀ p p2, H1 p = none → upd H1 p (.tup [.int (k : Nat), .str z]) p2 = none → Q (.ref p2) (upd (upd H1 p (.tup [.int (k : Nat), .str z])) p2 (.tup [.str "call", .ref p])) := fun k z H1 e hr p p2 hp hp2 => by
        obtain ⟨pn, hp2'⟩ := upd_none hp2
        refine q p2 _ (same_new (same_new e hp) hp2) (none_of e hp2') ?_
        rw [hr]
        exact ⟨p, upd_same, (upd_ne pn.symm).trans upd_same⟩
      rcases rest with ⟨hd, rfl⟩ | ⟨es, k, cs, hes, l2, prec, rest⟩
      · refine ⟨fun t H' => t = true ∧ Same H H', ?_, ?_⟩
        · rcases hd with hd | hd
          · exact ⟨_, rfl, cv, cd, rfl, sc.keep e2, fun H3 e3 => ⟨false, congrArg V.bl (by rw [isSq_iff, hd]; rfl), iteT ⟨rfl, e2.trans e3⟩⟩⟩
          · obtain ⟨ws, ⟨b, rfl, hs⟩, al, _⟩ := sc.sq hd
            refine ⟨_, rfl, .ref b, cd, rfl, sc.keep e2, fun H3 e3 => ⟨true, congrArg V.bl (by rw [isSq_iff, hd]; rfl), iteF ?_⟩⟩
            refine ⟨_, rfl, b, _, rfl, sq_at (e2.trans e3) hs, rfl, _, rfl, ?_, e2.trans e3⟩
            rw [al.1]
            rfl
        · rintro _ H3 ⟨rfl, e3⟩
          exact iteT ⟨by show 2 ≤ sizeLine; decide, fun p hp => ⟨by show 2 ≤ sizeLine; decide, fun p2 hp2 => q2 0 "call" H3 e3 rfl p p2 hp hp2⟩⟩
      obtain ⟨ws, ⟨b, rfl, hw0⟩, hal2, few2⟩ := sc.sq hes
      refine ⟨fun t H' => t = false ∧ Same H2 H', ⟨_, rfl, .ref b, cd, rfl, sc.keep e2, fun H3 e3 => ⟨true, congrArg V.bl (by rw [isSq_iff, hes]; rfl), iteF ?_⟩⟩, ?_⟩
      · refine ⟨_, rfl, b, _, rfl, sq_at (e2.trans e3) hw0, rfl, _, rfl, ?_, e3⟩
        rw [hal2.1, len_dec0]
        exact decide_eq_false (by omega)
      rintro _ H3 ⟨rfl, f3⟩
      refine iteF ?_
      have e3 := e2.trans f3
      have d3 := f3 _ _ d2
      refine ⟨_, rfl, b, ws, H, rfl, hw0, e3, fun J2 G2 wk2 hG2 => ?_⟩
      refine for_it wk2 (fun i σ H4 => i ≤ k ∧ Same H H4 ∧ H4 D = some (.dK (sortsV fs)) ∧ ∃ x4 x5 x6 x7 x8, σ = [some (.ref a), some (.ref b), some (.int (n : Nat)), some (.ref D), x4, x5, x6, x7, x8])
        ⟨Nat.zero_le _, e3, d3, _, _, _, _, _, rfl⟩ (fun i σ H4 _ h => hG2 _ h.2.1) ?_ ?_
      · rintro i x σ H4 H5 hi ⟨ik, e4, d4, x4, x5, x6, x7, x8, rfl⟩ ⟨U, _, y, rfl, hU, rfl, h1, hy⟩
        obtain rfl := Option.some.inj h1
        obtain ⟨g, hg, sg⟩ := hal2.get hy
        have e5 : Same H4 (upd H4 U (.tup [.int (i : Nat), y])) := same_new (Same.refl H4) hU
        refine ⟨U, _, rfl, SqT.of upd_same, rfl, _, _, rfl, _, _, rfl, rfl, ?_⟩
        revert e5
        generalize upd H4 U (.tup [.int (i : Nat), y]) = H5
        intro f5
        have e5 := e4.trans f5
        have d5 := f5 _ _ d4
        have hiw : i < ws.length := hi
        have cl := prec.len
        have c6 := prec.le
        -- the names of the earlier ones
        refine ⟨_, rfl, _, rfl, _, rfl, rd_slK hiw (sq_at e5 hw0) fun p2 H6 f6 hs6 => ⟨p2, _, _, rfl, hs6, Same.refl _, fun J3 G3 wk3 hG3 D2 hD2 => ?_⟩⟩
        have e6 := e5.trans f6
        refine lc_it wk3 (fun t H7 => Same H6 H7 ∧ H7 D2 = some (.lst ((((cs.take i).take t).map (·.nm)).map V.str))) ⟨same_new (Same.refl H6) hD2, upd_same⟩ (fun t H7 _ h => hG3 _ h.1) ?_ ?_
        · rintro t x H8 H7 ht ⟨f7, d7⟩ ⟨rfl, hx⟩
          have ht : t < (ws.take i).length := ht
          rw [List.length_take] at ht
          rw [List.getElem?_take, if_pos (by omega)] at hx
          obtain ⟨d, hd, sd⟩ := hal2.get hx
          obtain ⟨c, hc⟩ : ∃ c, cs[t]? = some c := ⟨_, List.getElem?_eq_getElem (by omega)⟩
          obtain ⟨pp, u1, u2, u3, u4, rfl, hp⟩ := call_head (prec.all t d c hd hc) (sd.keep (e6.trans f7))
          refine ⟨rfl, ?_⟩
          refine ⟨_, rfl, ix_of (i := 0) hp rfl ⟨_, d7, ?_, fun c' o hc' => ?_, ?_⟩⟩
          · rw [List.length_map, List.length_map, List.length_take, List.length_take]
            exact Nat.lt_of_le_of_lt (by omega : _ ≤ 6) (by decide)
          · rw [upd_ne (ne_of_none hc' hD2)]
            exact f7 _ _ hc'
          · rw [upd_same, List.take_succ (i := t), List.getElem?_take, if_pos (by omega), hc]
            simp
        rintro H7 ⟨f7, d7⟩
        have e7 := e6.trans f7
        rw [show (ws.take i).length = (cs.take i).length by rw [List.length_take, List.length_take]; omega, List.take_length] at d7
        -- the reason
        refine ⟨fun v H' => Same H7 H' ∧ v = .str (if i = 6 then ("call" : Str) else (reasonD fs n ((cs.take i).map (·.nm)) g).getD ("" : Str)), ?_, ?_⟩
        · refine ⟨_, rfl, rfl, _, rfl, ?_⟩
          rw [show decide (V.int (i : Nat) = V.int 6) = decide (i = 6) from len_dec i 6]
          refine ite2 (fun h6 => ?_) (fun h6 => ?_)
          · have h6 := of_decide_eq_true h6
            exact ⟨Same.refl _, by rw [if_pos h6]⟩
          · have h6 := of_decide_eq_false (Bool.eq_false_iff.mpr h6)
            refine ⟨_, rfl, _, rfl, _, rfl, _, rfl, y, D, D2, n, fs, (cs.take i).map (·.nm), g, rfl, sg.keep e7, (f6.trans f7) _ _ d5, (PreF.ok pre (by omega)).nd, SqL.of d7, n4, fun H8 e8 => ⟨e8, by rw [if_neg h6]⟩⟩
        rintro _ H8 ⟨f8, rfl⟩
        have e8 := e7.trans f8
        by_cases hik : i = k
        · subst hik
          have hb : ∃ q, r = .cal i q ∧ (if i = 6 then ("call" : Str) else (reasonD fs n ((cs.take i).map (·.nm)) g).getD ("" : Str)) = q ∧ q ≠ "" := by
            rcases rest with ⟨q, hr, d, hd, hb⟩ | ⟨hik, _⟩
            · rw [hg] at hd
              cases hd
              refine ⟨q, hr, ?_⟩
              rcases hb with ⟨h6, rfl⟩ | ⟨h6, hb⟩
              · exact ⟨by rw [if_pos h6], by decide⟩
              · rw [if_neg (by omega), List.take_of_length_le (by omega), hb]
                exact ⟨rfl, reason_ne hb⟩
            · have := hal2.1
              omega
          obtain ⟨q, hr, hq, hne⟩ := hb
          rw [hq]
          refine ⟨_, rfl, rfl, _, rfl, iteA ?_ ?_⟩
          · rw [str_dec, decide_eq_false hne]
            rfl
          · exact ⟨_, rfl, _, rfl, by show 2 ≤ sizeLine; decide, fun p hp => ⟨by show 2 ≤ sizeLine; decide, fun p2 hp2 => q2 i q H8 e8 hr p p2 hp hp2⟩⟩
        · obtain ⟨c, hc⟩ : ∃ c, cs[i]? = some c := ⟨_, List.getElem?_eq_getElem (by omega)⟩
          have hrn : reasonD fs n ((cs.take i).map (·.nm)) g = none := reason_of (prec.all i g c hg hc) (prec.ok c (List.mem_of_getElem? hc)) (by rw [List.map_take]; exact nm_new prec.nd (by rw [List.getElem?_map, hc]; rfl))
          rw [if_neg (by omega : ¬ i = 6), hrn]
          refine ⟨_, rfl, rfl, _, rfl, iteB ?_ ⟨by omega, e8, ((f6.trans f7).trans f8) _ _ d5, _, _, _, _, _, rfl⟩⟩
          rw [str_dec]
          rfl
      · rintro σ H4 ⟨ik, e4, d4, x4, x5, x6, x7, x8, rfl⟩
        have hkl := prec.lt
        have hk : k = es.length := by
          have := hal2.1
          omega
        subst hk
        have hr := (rest.resolve_left fun h => by
          obtain ⟨_, _, d, hd, _⟩ := h
          have := (List.getElem?_eq_some_iff.mp hd).1
          omega).2
        exact ⟨by show 2 ≤ sizeLine; decide, q1 "told" .non H4 e4 fun H' p h => by rw [hr]; exact h⟩
end
end MK
set_option Elab.async false
set_option linter.all false
set_option autoImplicit false
set_option maxRecDepth 100000
set_option maxHeartbeats 4000000
namespace MK
open PySem PySem.Spec PyProof.Rows L2
local macro_rules | `(tactic| walk_at "x") => `(tactic| dsimp only [tSeq, tAsg, tRet, tDrop, tLst, tTup, tCons, tOp, tUn, tIfS])
/-! ### what is drawn: any data, while lists are still changed -/
/-- all but what stands at these -/
def Ex (L : List Addr) (H : Hp) : Hp := fun b => if b ∈ L then none else H b
theorem ex_in {L : List Addr} {H : Hp} {b : Addr} (h : b ∈ L) : Ex L H b = none := if_pos h
theorem ex_out {L : List Addr} {H : Hp} {b : Addr} (h : b ∉ L) : Ex L H b = H b := if_neg h
theorem ex_same {L : List Addr} {H : Hp} : Same (Ex L H) H := fun b o h => by
  by_cases q : b ∈ L
  · rw [ex_in q] at h
    cases h
  · rw [ex_out q] at h
    exact h
theorem ex_off {L : List Addr} {s : Addr} {H : Hp} (h : s ∈ L) : Same (Ex L H) (Off s H) := fun b o hb => by
  have n : b ∉ L := fun q => by rw [ex_in q] at hb; cases hb
  rw [ex_out n] at hb
  rw [off_ne fun e => n (by rw [e]; exact h)]
  exact hb
def PrimS (x : V) : Prop := x = .non ∨ (∃ b, x = .bl b) ∨ (∃ i, x = .int i) ∨ ∃ z : Str, x = .str z ∧ z.length ≤ sizeLine
theorem PrimS.s (z : Str) (h : z.length ≤ sizeLine := by decide) : PrimS (.str z) := .inr (.inr (.inr ⟨z, rfl, h⟩))
theorem PrimS.i (i : Int) : PrimS (.int i) := .inr (.inr (.inl ⟨i, rfl⟩))
theorem PrimS.b (b : Bool) : PrimS (.bl b) := .inr (.inl ⟨b, rfl⟩)
theorem PrimS.n : PrimS .non := .inl rfl
theorem PrimS.sh {K : PySem.W.Frag} {x : V} (h : PrimS x) : ∃ d, flatD d = true ∧ ∀ H, Sh K H x d := by
  rcases h with rfl | ⟨b, rfl⟩ | ⟨i, rfl⟩ | ⟨z, rfl, h⟩
  · exact ⟨_, rfl, fun H => .non⟩
  · exact ⟨_, rfl, fun H => .bl b⟩
  · exact ⟨_, rfl, fun H => .int i⟩
  · exact ⟨_, rfl, fun H => .str z h⟩
theorem PrimS.sd {K : PySem.W.Frag} {H : Hp} {x : V} (h : PrimS x) : Sd K H x := by
  obtain ⟨d, _, h⟩ := h.sh (K := K)
  exact ⟨d, h H⟩
/-- a list that can be drawn from -/
def SL (K : PySem.W.Frag) (H : Hp) (v : V) : Prop := ∃ a xs, v = .ref a ∧ H a = some (.lst xs) ∧ 0 < xs.length ∧ xs.length < 1000 ∧ ∀ x ∈ xs, Sd K H x
theorem SL.keep {K : PySem.W.Frag} {H H' : Hp} {v : V} (e : Same H H') (h : SL K H v) : SL K H' v := by
  obtain ⟨a, xs, r, ha, p, l, h⟩ := h
  exact ⟨a, xs, r, e _ _ ha, p, l, fun x hx => (h x hx).keep e⟩
structure Gd (K : PySem.W.Frag) (s c : Addr) (ns : List Int) (L : List Addr) (H : Hp) (us ls : List V) : Prop where
  st : StA H s c ns
  mem : s ∈ L
  al : ∀ m ∈ L, H m ≠ none
  cn : c ∉ L
  good : ∀ u ∈ us, Sd K (Ex L H) u
  lists : ∀ v ∈ ls, SL K (Ex L H) v
section
variable {K : PySem.W.Frag} {s c : Addr} {ns : List Int} {L : List Addr} {H : Hp} {us ls : List V}
theorem Gd.out (g : Gd K s c ns L H us ls) {p : Addr} (hp : H p = none) : p ∉ L := fun q => g.al p q hp
theorem Gd.ex (g : Gd K s c ns L H us ls) {p : Addr} {o : HO} (hp : H p = none) : Same (Ex L H) (Ex L (upd H p o)) := fun b u hb => by
  have n : b ∉ L := fun q => by rw [ex_in q] at hb; cases hb
  rw [ex_out n] at hb ⊢
  exact same_new (Same.refl H) hp _ _ hb
theorem Gd.at {o : HO} (g : Gd K s c ns L H us ls) {p : Addr} (hp : H p = none) : Ex L (upd H p o) p = some o := (ex_out (g.out hp)).trans upd_same
theorem Gd.new (g : Gd K s c ns L H us ls) {p : Addr} {o : HO} (hp : H p = none) : Gd K s c ns L (upd H p o) us ls :=
  ⟨g.st.keep (same_new (Same.refl H) hp), g.mem, fun m hm => kept_s (g.al m hm) (same_new (Same.refl H) hp), g.cn, fun u hu => (g.good u hu).keep (g.ex hp), fun v hv => (g.lists v hv).keep (g.ex hp)⟩
theorem Gd.sd (g : Gd K s c ns L H us ls) {x : V} (h : x ∈ us ∨ PrimS x) : Sd K (Ex L H) x := h.elim (g.good x) PrimS.sd
theorem Gd.add (g : Gd K s c ns L H us ls) {x : V} (h : Sd K (Ex L H) x) : Gd K s c ns L H (x :: us) ls :=
  ⟨g.st, g.mem, g.al, g.cn, fun u hu => (List.mem_cons.mp hu).elim (fun e => e ▸ h) (g.good u), g.lists⟩
theorem Gd.addL (g : Gd K s c ns L H us ls) {x : V} (h : SL K (Ex L H) x) : Gd K s c ns L H us (x :: ls) :=
  ⟨g.st, g.mem, g.al, g.cn, g.good, fun u hu => (List.mem_cons.mp hu).elim (fun e => e ▸ h) (g.lists u)⟩
theorem Gd.lst (g : Gd K s c ns L H us ls) {p : Addr} {xs : List V} (hp : H p = none) (h : ∀ x ∈ xs, x ∈ us ∨ PrimS x) (l : xs.length < 1000) : Gd K s c ns L (upd H p (.lst xs)) (.ref p :: us) ls :=
  (g.new hp).add (sd_lst (g.at hp) l fun x hx => (g.sd (h x hx)).keep (g.ex hp))
theorem Gd.lstL (g : Gd K s c ns L H us ls) {p : Addr} {xs : List V} (hp : H p = none) (h : ∀ x ∈ xs, x ∈ us ∨ PrimS x) (l : xs.length < 1000) (pos : 0 < xs.length) : Gd K s c ns L (upd H p (.lst xs)) (.ref p :: us) (.ref p :: ls) :=
  (g.lst hp h l).addL ⟨p, xs, rfl, g.at hp, pos, l, fun x hx => (g.sd (h x hx)).keep (g.ex hp)⟩
theorem Gd.tup (g : Gd K s c ns L H us ls) {p : Addr} {xs : List V} (hp : H p = none) (h : ∀ x ∈ xs, x ∈ us ∨ PrimS x) (l : xs.length < 1000) : Gd K s c ns L (upd H p (.tup xs)) (.ref p :: us) ls :=
  (g.new hp).add (sd_tup (SqT.of (g.at hp)) l fun x hx => (g.sd (h x hx)).keep (g.ex hp))
theorem Gd.dic (g : Gd K s c ns L H us ls) {p : Addr} (hp : H p = none) : Gd K s c ns L (upd H p (.dK [])) (.ref p :: us) ls :=
  (g.new hp).add ⟨_, .dic (g.at hp)⟩
theorem ex_more {m : Addr} {o : HO} (hm : H m = none) : Same (Ex L H) (Ex (m :: L) (upd H m o)) := fun b u hb => by
  have n : b ∉ L := fun q => by rw [ex_in q] at hb; cases hb
  rw [ex_out n] at hb
  have bm : b ≠ m := fun e => by rw [e, hm] at hb; cases hb
  rw [ex_out (fun q => (List.mem_cons.mp q).elim bm n), upd_ne bm]
  exact hb
/-- a list that will be changed -/
theorem Gd.newM (g : Gd K s c ns L H us ls) {m : Addr} {o : HO} (hm : H m = none) : Gd K s c ns (m :: L) (upd H m o) us ls :=
  ⟨g.st.keep (same_new (Same.refl H) hm), List.mem_cons_of_mem _ g.mem, fun b hb => by
    rcases List.mem_cons.mp hb with rfl | hb
    · rw [upd_same]
      exact nofun
    · exact kept_s (g.al b hb) (same_new (Same.refl H) hm), fun q => (List.mem_cons.mp q).elim (fun e => (g.st.ne hm).2 e.symm) g.cn, fun u hu => (g.good u hu).keep (ex_more hm), fun v hv => (g.lists v hv).keep (ex_more hm)⟩
theorem ex_put {m : Addr} {o : HO} (hm : m ∈ L) : Ex L (upd H m o) = Ex L H := by
  funext b
  by_cases q : b ∈ L
  · rw [ex_in q, ex_in q]
  · rw [ex_out q, ex_out q, upd_ne fun e => q (by rw [e]; exact hm)]
theorem Gd.mut (g : Gd K s c ns L H us ls) {m : Addr} {o : HO} (hm : m ∈ L) (ms : m ≠ s) : Gd K s c ns L (upd H m o) us ls :=
  ⟨g.st.put ms fun e => g.cn (e ▸ hm), g.mem, fun b hb => by
    by_cases q : b = m
    · rw [q, upd_same]
      exact nofun
    · rw [upd_ne q]
      exact g.al b hb, g.cn, by rw [ex_put hm]; exact g.good, by rw [ex_put hm]; exact g.lists⟩
theorem ex_sx {H' : Hp} (h : s ∈ L) (e : SameX s H H') : Same (Ex L H) (Ex L H') := fun b u hb => by
  have n : b ∉ L := fun q => by rw [ex_in q] at hb; cases hb
  rw [ex_out n] at hb ⊢
  exact e _ _ hb fun q => n (q ▸ h)
theorem Gd.draw {H' : Hp} (g : Gd K s c ns L H us ls) (e : SameX s H H') (st' : StA H' s c ns) : Gd K s c ns L H' us ls :=
  ⟨st', g.mem, fun m hm => by
    by_cases q : m = s
    · subst q
      obtain ⟨_, _, _, _, _, h⟩ := st'
      rw [h]
      exact nofun
    · cases z : H m with
      | none => exact absurd z (g.al m hm)
      | some o => rw [e _ _ z q]; exact nofun, g.cn, fun u hu => (g.good u hu).keep (ex_sx g.mem e), fun v hv => (g.lists v hv).keep (ex_sx g.mem e)⟩
theorem ex_less {m : Addr} : Same (Ex (m :: L) H) (Ex L H) := fun b u hb => by
  have n : b ∉ m :: L := fun q => by rw [ex_in q] at hb; cases hb
  rw [ex_out n] at hb
  rw [ex_out fun q => n (List.mem_cons_of_mem _ q)]
  exact hb
/-- it will be changed no more -/
theorem Gd.drop {m : Addr} {xs : List V} (g : Gd K s c ns (m :: L) H us ls) (hs : s ∈ L) (hn : m ∉ L) (hm : H m = some (.lst xs)) (h : ∀ x ∈ xs, x ∈ us ∨ PrimS x) (l : xs.length < 1000) : Gd K s c ns L H (.ref m :: us) ls :=
  Gd.add ⟨g.st, hs, fun b hb => g.al b (List.mem_cons_of_mem _ hb), fun q => g.cn (List.mem_cons_of_mem _ q), fun u hu => (g.good u hu).keep ex_less, fun v hv => (g.lists v hv).keep ex_less⟩
    (sd_lst ((ex_out hn).trans hm) l fun x hx => (g.sd (h x hx)).keep ex_less)
theorem Gd.dropL {m : Addr} {xs : List V} (g : Gd K s c ns (m :: L) H us ls) (hs : s ∈ L) (hn : m ∉ L) (hm : H m = some (.lst xs)) (h : ∀ x ∈ xs, x ∈ us ∨ PrimS x) (l : xs.length < 1000) (pos : 0 < xs.length) : Gd K s c ns L H (.ref m :: us) (.ref m :: ls) :=
  (g.drop hs hn hm h l).addL ⟨m, xs, rfl, (ex_out hn).trans hm, pos, l, fun x hx => (g.sd (h x hx)).keep ex_less⟩
end
section
variable {K : PySem.W.Frag} {s c : Addr} {ns : List Int} {L : List Addr} {H : Hp} {us ls : List V}
theorem Gd.dropS {m : Addr} {xs : List V} (g : Gd K s c ns (m :: L) H us ls) (hs : s ∈ L) (hn : m ∉ L) (hm : H m = some (.lst xs)) (h : ∀ x ∈ xs, Sd K (Ex (m :: L) H) x) (l : xs.length < 1000) : Gd K s c ns L H (.ref m :: us) ls :=
  Gd.add ⟨g.st, hs, fun b hb => g.al b (List.mem_cons_of_mem _ hb), fun q => g.cn (List.mem_cons_of_mem _ q), fun u hu => (g.good u hu).keep ex_less, fun v hv => (g.lists v hv).keep ex_less⟩
    (sd_lst ((ex_out hn).trans hm) l fun x hx => (h x hx).keep ex_less)
theorem Gd.sub {us' ls' : List V} (g : Gd K s c ns L H us ls) (h : ∀ u ∈ us', u ∈ us ∨ PrimS u) (k : ∀ v ∈ ls', v ∈ ls) : Gd K s c ns L H us' ls' :=
  ⟨g.st, g.mem, g.al, g.cn, fun u hu => g.sd (h u hu), fun v hv => g.lists v (k v hv)⟩
end
theorem ex_mono {L : List Addr} {H H' : Hp} (e : Same H H') : Same (Ex L H) (Ex L H') := fun b u hb => by
  have n : b ∉ L := fun q => by rw [ex_in q] at hb; cases hb
  rw [ex_out n] at hb ⊢
  exact e _ _ hb
theorem ex_monoN {L : List Addr} {m : Addr} {H H' : Hp} (e : Same H H') (hm : H m = none) : Same (Ex L H) (Ex (m :: L) H') := fun b u hb => by
  have n : b ∉ L := fun q => by rw [ex_in q] at hb; cases hb
  rw [ex_out n] at hb
  rw [ex_out (fun q => (List.mem_cons.mp q).elim (fun z => by rw [z, hm] at hb; cases hb) n)]
  exact e _ _ hb
/-- while a call is bent: its parts at M0, the names of the fields at N0 -/
structure RI (K : PySem.W.Frag) (s c : Addr) (ns : List Int) (H : Hp) (M0 N0 : Addr) (PV NV : List V) (L : List Addr) (us ls : List V) (H2 : Hp) : Prop where
  g : Gd K s c ns L H2 us ls
  e : SameX s H H2
  m : H2 M0 = some (.lst PV)
  n : Ex L H2 N0 = some (.lst NV)
section
variable {K : PySem.W.Frag} {s c : Addr} {ns : List Int} {L : List Addr} {H H2 H3 : Hp} {us ls us' ls' PV NV : List V} {M0 N0 m : Addr} {o : HO}
theorem RI.st (r : RI K s c ns H M0 N0 PV NV L us ls H2) (f : Same H2 H3) (g : Gd K s c ns L H3 us' ls') : RI K s c ns H M0 N0 PV NV L us' ls' H3 := ⟨g, r.e.trans (same_sx f), f _ _ r.m, ex_mono f _ _ r.n⟩
theorem RI.more (r : RI K s c ns H M0 N0 PV NV L us ls H2) (f : Same H2 H3) (hm : H2 m = none) (g : Gd K s c ns (m :: L) H3 us' ls') : RI K s c ns H M0 N0 PV NV (m :: L) us' ls' H3 := ⟨g, r.e.trans (same_sx f), f _ _ r.m, ex_monoN f hm _ _ r.n⟩
theorem RI.mut (r : RI K s c ns H M0 N0 PV NV L us ls H2) (hm : m ∈ L) (mM : M0 ≠ m) (ms : m ≠ s) (hH : H m = none) : RI K s c ns H M0 N0 PV NV L us ls (upd H2 m o) :=
  ⟨r.g.mut hm ms, r.e.putN hH, (upd_ne mM).trans r.m, by rw [ex_put hm]; exact r.n⟩
theorem RI.draw (r : RI K s c ns H M0 N0 PV NV L us ls H2) (ms : M0 ≠ s) (f : SameX s H2 H3) (h : StA H3 s c ns) : RI K s c ns H M0 N0 PV NV L us ls H3 := ⟨r.g.draw f h, r.e.trans f, f _ _ r.m ms, ex_sx r.g.mem f _ _ r.n⟩
theorem RI.less (r : RI K s c ns H M0 N0 PV NV (m :: L) us ls H2) (g : Gd K s c ns L H2 us' ls') : RI K s c ns H M0 N0 PV NV L us' ls' H2 := ⟨g, r.e, r.m, ex_less _ _ r.n⟩
theorem RI.nw (r : RI K s c ns H M0 N0 PV NV L us ls H2) (ms : m ≠ s) (h : H2 m = none) : H m = none := noneX r.e ms h
theorem RI.nv (r : RI K s c ns H M0 N0 PV NV L us ls H2) : H2 N0 = some (.lst NV) := ex_same _ _ r.n
end
theorem atI_last {xs : List V} (h : 0 < xs.length) : ∃ z ∈ xs, atI xs (-1) = some z := by
  refine ⟨xs[xs.length - 1], List.getElem_mem _, ?_⟩
  unfold atI ixN
  rw [if_neg (by decide), if_pos (by omega)]
  show xs[((-1 : Int) + xs.length).toNat]? = _
  rw [show ((-1 : Int) + xs.length).toNat = xs.length - 1 by omega, List.getElem?_eq_getElem (by omega)]
/-! ### a field that is bent -/
abbrev s_bent_field : Stmt := topS 72
theorem sc_bent_field : FnScope ["_law_state", "_law_fields", "_law_found", "_law_at", "_law_name", "_law_sort", "_law_need", "_law_some", "_law_thing"] ["_law_state", "_law_fields"] (defScope s_bent_field) := ⟨rfl, rfl, rfl, by decide +kernel, rfl, by decide +kernel, by decide +kernel⟩
def SdF (K : PySem.W.Frag) (H : Hp) (v : V) : Prop := ∃ d, Sh K H v d ∧ FlatSort d
theorem SdF.keep {K : PySem.W.Frag} {H H' : Hp} {v : V} (e : Same H H') (h : SdF K H v) : SdF K H' v := by
  obtain ⟨d, h, f⟩ := h
  exact ⟨d, h.keep e, f⟩
theorem SdF.p {K : PySem.W.Frag} {H : Hp} {x : V} (h : PrimS x) : SdF K H x := by
  obtain ⟨d, hf, h⟩ := h.sh (K := K)
  exact ⟨d, h H, fun n so b e => by cases d <;> first | (cases e; done) | exact Bool.noConfusion hf⟩
theorem SdF.t {K : PySem.W.Frag} {H : Hp} {a : Addr} {us : List V} (ha : SqT K H a us) (l : us.length < 1000) (h : ∀ u ∈ us, PrimS u ∨ ∃ b, u = .ref b ∧ H b = some (.dK []) ∧ us[1]? ≠ some u) : SdF K H (.ref a) := by
  obtain ⟨ds, hd⟩ := al_of (K := K) (H := H) (vs := us) fun u hu => by
    rcases h u hu with h | ⟨b, rfl, hb, _⟩
    · exact h.sd
    · exact ⟨_, .dic hb⟩
  refine ⟨.tup ds, .tup ha l hd.1 hd.2, fun n so b e => ?_⟩
  cases e
  obtain ⟨x, y, z, rfl⟩ := len3 hd.1
  have sy := hd.2 1 y so rfl rfl
  rcases h y (by simp) with hp | ⟨b', rfl, hb, hne⟩
  · rcases hp with rfl | ⟨b, rfl⟩ | ⟨i, rfl⟩ | ⟨z, rfl, _⟩ <;> cases sy <;> rfl
  · exact absurd rfl hne
theorem cut_len (xs : List V) (lo hi : Option Int) : (cutV xs lo hi).length ≤ xs.length := by
  unfold cutV
  refine Nat.le_trans (List.length_take_le' ..) ?_
  rw [List.length_drop]
  omega
theorem cut_mem {xs : List V} {lo hi : Option Int} {x : V} (h : x ∈ cutV xs lo hi) : x ∈ xs := by
  unfold cutV at h
  exact List.mem_of_mem_drop (List.mem_of_mem_take h)
theorem bent_end {H0 HM : Hp} {m p s : Addr} {xs us : List V} (a : Same H0 HM) (hm : HM m = none) (hp : upd HM m (.lst xs) p = none) (hs : H0 s ≠ none) : ∃ HF, upd (upd (upd HM m (.lst xs)) p (.tup us)) m (.lst (xs ++ [.ref p])) = HF ∧ (∀ {Hk : Hp}, Same Hk HM → Same Hk HF) ∧ Off s HF p = some (.tup us) ∧ HF m = some (.lst (xs ++ [.ref p])) := by
  have c := same_new (same_new (Same.refl HM) hm (o := .lst xs)) hp (o := .tup us)
  have pm : p ≠ m := fun e => by rw [e, upd_same] at hp; cases hp
  refine ⟨_, rfl, fun {Hk} e b o hb => (upd_ne (ne_of_none hb (none_of e hm))).trans (c _ _ (e _ _ hb)), ?_, upd_same⟩
  rw [off_ne (ne_s hs (same_new a hm) hp), upd_ne pm, upd_same]
def spBentF (K : PySem.W.Frag) : Sp := fun vs H Q _ => ∃ (s c l : Addr) (ns : List Int) (fvs : List V) (fs : List FD), vs = [.ref s, .ref l] ∧ StA H s c ns ∧ ns.length ≤ 63 ∧ Off s H l = some (.lst fvs) ∧ Al (FdT K (Off s H)) fvs fs ∧ 0 < fs.length ∧ fs.length < 10 ∧ (∀ f ∈ fs, wordB f.nm = true) ∧
  ∀ p us H', SameX s H H' → StA H' s c ns → Off s H' p = some (.lst us) → us.length < 100 → (∀ u ∈ us, SdF K (Off s H') u) → Q (.ref p) H'
section
variable {P : Program} {w : World} {K : PySem.W.Frag} {mg : Str → Option Value} {base : Heap}
theorem ok_bentF {f : Addr} {fd : FuncData} (F : DefX K mg "_law_bent_field" s_bent_field ["_law_state", "_law_fields"] f fd) (T : Txt K mg) (c_take : Cal P w K mg base CX0 2 "_law_take" spTake) (c_one : Cal P w K mg base CX0 3 "_law_one" (spOne K)) : Cal P w K mg base CX0 4 "_law_bent_field" (spBentF K) := by
  refine cal_mk F sc_bent_field (fun vs H Q E h => ?_) (fun cdv A outer sh H vs Q E hr h => ?_)
  · obtain ⟨s, c, l, ns, fvs, fs, rfl, _⟩ := h
    rfl
  · obtain ⟨s, c, l, ns, fvs, fs, rfl, h0, hl, hlf, hfs, f0, f1, fw, k⟩ := h
    refine ⟨_, (pss_cons (ps_par (i := 2) (j := 3) (by rfl) sc_bent_field.nd rfl rfl (by decide) rfl rfl (pa_cons (pe_callTy call_list_of (by rfl) T.list (by decide +kernel) (pa_cons (pv 1) pa_nil)) (pa_cons (pe_c c_take hr (by first | decide | assumption) rfl (pa_cons (pv 0) (pa_cons (pe_callB call_len_seq (by rfl) T.len (by decide +kernel) (pa_cons (pv 1) pa_nil)) pa_nil))) pa_nil)) (by rfl))
(pss_cons (ps_asg (pe_ix ix_list (pv 2) (pv 3) (fun _ _ => rfl)) (pg_tup (by rfl) (pgs_cons (pg_name (i := 4) sc_bent_field.nd rfl (Or.inl rfl)) (pgs_cons (pg_name (i := 5) sc_bent_field.nd rfl (Or.inl rfl)) (pgs_cons (pg_name (i := 6) sc_bent_field.nd rfl (Or.inl rfl)) pgs_nil)))))
(pss_cons (ps_set (i := 7) sc_bent_field.nd rfl (Or.inl rfl) (pe_lst (pa_cons pe_non (pa_cons pe_int (pa_cons pe_str (pa_cons (pe_tup (pa_cons (pv 4) (pa_cons (pv 5) pa_nil))) (pa_cons (pe_tup (pa_cons pe_str (pa_cons (pv 5) (pa_cons (pv 6) pa_nil)))) (pa_cons (pe_tup (pa_cons (pv 4) (pa_cons pe_str (pa_cons (pv 6) pa_nil)))) (pa_cons (pe_tup (pa_cons (pv 4) (pa_cons (pv 5) (pa_cons pe_int pa_nil)))) pa_nil)))))))))
(pss_cons (ps_set (i := 7) sc_bent_field.nd rfl (Or.inl rfl) (pe_op op_cat (pv 7) (pe_lst (pa_cons (pe_tup (pa_cons (pv 4) (pa_cons (pv 5) (pa_cons pe_non pa_nil)))) (pa_cons (pe_tup (pa_cons (pv 4) (pa_cons pe_non (pa_cons (pv 6) pa_nil)))) (pa_cons (pe_tup (pa_cons pe_dnewK (pa_cons (pv 5) (pa_cons (pv 6) pa_nil)))) (pa_cons (pe_ix ix_list (pv 2) pe_int (fun _ _ => rfl)) (pa_cons (pe_tup (pa_cons pe_str (pa_cons (pv 5) (pa_cons (pv 6) (pa_cons (pv 6) pa_nil))))) pa_nil))))))))
(pss_cons (ps_expr (pe_bm PySem.F.plainAttrs_list PySem.F.slot_list_append PySem.F.type_list_append mt_append (pv 7) (pa_cons (pe_tup (pa_cons pe_str (pa_cons (pv 5) (pa_cons (pv 6) pa_nil)))) pa_nil)))
(pss_cons (ps_set (i := 8) sc_bent_field.nd rfl (Or.inl rfl) (pe_c c_one hr (by first | decide | assumption) rfl (pa_cons (pv 0) (pa_cons (pv 7) pa_nil))))
(pss_one (ps_ret (pe_op op_cat (pe_op op_cat (pe_slice sl_list (pv 2) po_none (po_some (pv 3))) (pe_lst (pa_cons (pv 8) pa_nil))) (pe_slice sl_list (pv 2) (po_some (pe_op op_add (pv 3) (pe_callTy call_int1 (by rfl) T.int (by decide +kernel) (pa_cons (pe_cmpR op_eq (pe_c c_take hr (by first | decide | assumption) rfl (pa_cons (pv 0) (pa_cons pe_int pa_nil))) pe_int (nomark _)) pa_nil)))) po_none)))))))))), ?_⟩
    have lf := off_same _ _ hlf
    refine ⟨_, rfl, l, _, rfl, .inl (SqL.of lf), fun F0 hF0 => ?_⟩
    have e0 := same_new (Same.refl H) hF0 (o := .lst fvs)
    have h1 := h0.keep e0
    obtain ⟨F0s, F0c⟩ := h0.ne hF0
    have fl := hfs.1
    refine ⟨_, rfl, _, rfl, l, _, rfl, .inl (SqL.of (e0 _ _ lf)), s, c, ns, _, rfl, h1, hl, by omega, by omega, fun d H2 hd e2 h2 => ⟨_, _, rfl, ?_⟩⟩
    have e02 : SameX s H H2 := (same_sx e0).trans e2
    have F02 := e2 _ _ upd_same F0s
    have hdl : d < fvs.length := by omega
    obtain ⟨f, hf, hfT⟩ := hfs.get (List.getElem?_eq_getElem hdl)
    have fT2 := hfT.keep e02.off
    obtain ⟨u, hu, fT⟩ := id fT2
    refine ⟨_, rfl, _, rfl, F0, _, _, fvs[d], rfl, rfl, SqL.of F02, atI_nat (List.getElem?_eq_getElem hdl), ?_⟩
    rw [hu]
    refine ⟨u, FdV f, rfl, same_t off_same fT, rfl, _, _, rfl, _, _, rfl, _, _, rfl, rfl, ?_⟩
    have pn : PrimS (.str f.nm) := PrimS.s _ (word_len (fw f (List.mem_of_getElem? hf)))
    have ps : PrimS (.str (sortS f.many)) := by cases f.many <;> exact PrimS.s _
    have pb : PrimS (.bl f.need) := PrimS.b _
    have s2 : H2 s ≠ none := by
      obtain ⟨_, _, _, _, _, z⟩ := h2
      rw [z]
      exact nofun
    -- seven things
    refine ⟨_, rfl, _, rfl, by show 2 ≤ sizeLine; decide, fun p1 hp1 => ?_⟩
    have a1 := same_new (Same.refl H2) hp1 (o := .tup [.str f.nm, .str (sortS f.many)])
    refine ⟨_, rfl, _, rfl, by show 3 ≤ sizeLine; decide, fun p2 hp2 => ?_⟩
    have a2 := same_new a1 hp2 (o := .tup [.str "A", .str (sortS f.many), .bl f.need])
    refine ⟨_, rfl, _, rfl, by show 3 ≤ sizeLine; decide, fun p3 hp3 => ?_⟩
    have a3 := same_new a2 hp3 (o := .tup [.str f.nm, .str "some", .bl f.need])
    refine ⟨_, rfl, _, rfl, by show 3 ≤ sizeLine; decide, fun p4 hp4 => ?_⟩
    have a4 := same_new a3 hp4 (o := .tup [.str f.nm, .str (sortS f.many), .int 1])
    refine ⟨by show 7 ≤ sizeLine; decide, fun l1 hl1 => ?_⟩
    have a5 := same_new a4 hl1 (o := .lst [.non, .int 5, .str "abc", .ref p1, .ref p2, .ref p3, .ref p4])
    -- five more
    refine ⟨_, rfl, _, rfl, _, rfl, by show 3 ≤ sizeLine; decide, fun p5 hp5 => ?_⟩
    have a6 := same_new a5 hp5 (o := .tup [.str f.nm, .str (sortS f.many), .non])
    refine ⟨_, rfl, _, rfl, by show 3 ≤ sizeLine; decide, fun p6 hp6 => ?_⟩
    have a7 := same_new a6 hp6 (o := .tup [.str f.nm, .non, .bl f.need])
    refine fun d7 hd7 => ⟨_, rfl, _, rfl, by show 3 ≤ sizeLine; decide, fun p7 hp7 => ?_⟩
    have a8 := same_new (same_new a7 hd7 (o := .dK [])) hp7 (o := .tup [.ref d7, .str (sortS f.many), .bl f.need])
    have fv0 : fvs[0]? = some fvs[0] := List.getElem?_eq_getElem (by omega)
    refine ⟨_, rfl, F0, _, 0, fvs[0], rfl, rfl, SqL.of (a8 _ _ F02), atI_nat fv0, ?_⟩
    refine ⟨_, rfl, _, rfl, _, rfl, by show 4 ≤ sizeLine; decide, fun p8 hp8 => ?_⟩
    have a9 := same_new a8 hp8 (o := .tup [.str "q", .str (sortS f.many), .bl f.need, .bl f.need])
    refine ⟨by show 5 ≤ sizeLine; decide, fun l2 hl2 => ?_⟩
    have a10 := same_new a9 hl2 (o := .lst [.ref p5, .ref p6, .ref p7, fvs[0], .ref p8])
    have f1 : Same H2 _ := a10
    refine ⟨l1, l2, [.non, .int 5, .str "abc", .ref p1, .ref p2, .ref p3, .ref p4], _, rfl, rfl, ?_, upd_same, by show 7 + 5 ≤ sizeLine; decide, fun m hm => ?_⟩
    · exact (same_new (same_new (same_new (same_new (same_new (same_new (Same.refl _) hp5) hp6) hd7) hp7) hp8) hl2) _ _ upd_same
    have am := same_new a10 hm (o := .lst ([.non, .int 5, .str "abc", .ref p1, .ref p2, .ref p3, .ref p4] ++ [.ref p5, .ref p6, .ref p7, fvs[0], .ref p8]))
    have nm := none_of a10 hm
    refine ⟨_, rfl, .inl ⟨rfl, _, SqL.of upd_same⟩, _, rfl, _, rfl, by show 3 ≤ sizeLine; decide, fun p9 hp9 => ?_⟩
    have a11 := same_new am hp9 (o := .tup [.str "abcdefghi", .str (sortS f.many), .bl f.need])
    have m9 : p9 ≠ m := fun e => by rw [e, upd_same] at hp9; cases hp9
    refine ⟨m, _, _, rfl, rfl, (upd_ne m9.symm).trans upd_same, by show 12 < sizeLine; decide, ?_⟩
    -- all of them
    have T10 := same_new (Same.refl _) hl2 (o := .lst [.ref p5, .ref p6, .ref p7, fvs[0], .ref p8])
    have T9 := (same_new (Same.refl _) hp8 (o := .tup [.str "q", .str (sortS f.many), .bl f.need, .bl f.need])).trans T10
    have T8 := (same_new (Same.refl _) hp7 (o := .tup [.ref d7, .str (sortS f.many), .bl f.need])).trans T9
    have T7 := (same_new (Same.refl _) hd7 (o := .dK [])).trans T8
    have T6 := (same_new (Same.refl _) hp6 (o := .tup [.str f.nm, .non, .bl f.need])).trans T7
    have T5 := (same_new (Same.refl _) hp5 (o := .tup [.str f.nm, .str (sortS f.many), .non])).trans T6
    have T4 := (same_new (Same.refl _) hl1 (o := .lst [.non, .int 5, .str "abc", .ref p1, .ref p2, .ref p3, .ref p4])).trans T5
    have T3 := (same_new (Same.refl _) hp4 (o := .tup [.str f.nm, .str (sortS f.many), .int 1])).trans T4
    have T2 := (same_new (Same.refl _) hp3 (o := .tup [.str f.nm, .str "some", .bl f.need])).trans T3
    have T1 := (same_new (Same.refl _) hp2 (o := .tup [.str "A", .str (sortS f.many), .bl f.need])).trans T2
    have fresh : ∀ {p : Addr} {Hk : Hp}, Same H2 Hk → Hk p = none → p ≠ s := fun e h => ne_s s2 e h
    have at_ : ∀ {p : Addr} {Hk : Hp} {o : HO}, Same H2 Hk → Hk p = none → Off s (upd Hk p o) p = some o := fun e h => (off_ne (fresh e h)).trans upd_same
    have q1 : SdF K (Off s _) (.ref p1) := SdF.t (us := [.str f.nm, .str (sortS f.many)]) (SqT.of (at_ (Same.refl H2) hp1)) (by show 2 < 1000; decide) (by
      intro u hu; simp only [List.mem_cons, List.not_mem_nil, or_false] at hu; rcases hu with rfl | rfl <;> exact .inl (by assumption))
    have q2 : SdF K (Off s _) (.ref p2) := SdF.t (us := [.str "A", .str (sortS f.many), .bl f.need]) (SqT.of (at_ a1 hp2)) (by show 3 < 1000; decide) (by
      intro u hu; simp only [List.mem_cons, List.not_mem_nil, or_false] at hu; rcases hu with rfl | rfl | rfl <;> exact .inl (by first | assumption | exact PrimS.s _))
    have q3 : SdF K (Off s _) (.ref p3) := SdF.t (us := [.str f.nm, .str "some", .bl f.need]) (SqT.of (at_ a2 hp3)) (by show 3 < 1000; decide) (by
      intro u hu; simp only [List.mem_cons, List.not_mem_nil, or_false] at hu; rcases hu with rfl | rfl | rfl <;> exact .inl (by first | assumption | exact PrimS.s _))
    have q4 : SdF K (Off s _) (.ref p4) := SdF.t (us := [.str f.nm, .str (sortS f.many), .int 1]) (SqT.of (at_ a3 hp4)) (by show 3 < 1000; decide) (by
      intro u hu; simp only [List.mem_cons, List.not_mem_nil, or_false] at hu; rcases hu with rfl | rfl | rfl <;> exact .inl (by first | assumption | exact PrimS.i _))
    have q5 : SdF K (Off s _) (.ref p5) := SdF.t (us := [.str f.nm, .str (sortS f.many), .non]) (SqT.of (at_ a5 hp5)) (by show 3 < 1000; decide) (by
      intro u hu; simp only [List.mem_cons, List.not_mem_nil, or_false] at hu; rcases hu with rfl | rfl | rfl <;> exact .inl (by first | assumption | exact PrimS.n))
    have q6 : SdF K (Off s _) (.ref p6) := SdF.t (us := [.str f.nm, .non, .bl f.need]) (SqT.of (at_ a6 hp6)) (by show 3 < 1000; decide) (by
      intro u hu; simp only [List.mem_cons, List.not_mem_nil, or_false] at hu; rcases hu with rfl | rfl | rfl <;> exact .inl (by first | assumption | exact PrimS.n))
    have q7 : SdF K (Off s _) (.ref p7) := SdF.t (us := [.ref d7, .str (sortS f.many), .bl f.need]) (SqT.of (at_ (same_new a7 hd7) hp7)) (by show 3 < 1000; decide) (by
      intro u hu; simp only [List.mem_cons, List.not_mem_nil, or_false] at hu; rcases hu with rfl | rfl | rfl
      · exact .inr ⟨d7, rfl, (same_off (same_new (Same.refl _) hp7)) _ _ (at_ a7 hd7), fun z => by cases z⟩
      · exact .inl ps
      · exact .inl pb)
    have q8 : SdF K (Off s _) (.ref p8) := SdF.t (us := [.str "q", .str (sortS f.many), .bl f.need, .bl f.need]) (SqT.of (at_ a8 hp8)) (by show 4 < 1000; decide) (by
      intro u hu; simp only [List.mem_cons, List.not_mem_nil, or_false] at hu; rcases hu with rfl | rfl | rfl | rfl <;> exact .inl (by first | assumption | exact PrimS.s _))
    have mnc := (h2.keep a10).ne hm
    have st9 := (h2.keep a11).put mnc.1 mnc.2 (o := .lst (([.non, .int 5, .str "abc", .ref p1, .ref p2, .ref p3, .ref p4] ++ [.ref p5, .ref p6, .ref p7, fvs[0], .ref p8]) ++ [.ref p9]))
    obtain ⟨HF, hHF, fin, fp, fm⟩ := bent_end (us := [.str "abcdefghi", .str (sortS f.many), .bl f.need]) a10 hm hp9 s2
    rw [hHF] at st9
    show tSeq _ _ _ _ _
    rw [hHF]
    have q9 : SdF K (Off s HF) (.ref p9) := SdF.t (SqT.of fp) (by show 3 < 1000; decide) (by
      intro u hu; simp only [List.mem_cons, List.not_mem_nil, or_false] at hu; rcases hu with rfl | rfl | rfl <;> exact .inl (by first | assumption | exact PrimS.s _))
    have e2F := fin a10
    have e0F : SameX s H HF := e02.trans (same_sx e2F)
    have q0 : SdF K (Off s HF) fvs[0] := by
      obtain ⟨g, hg, hgT⟩ := hfs.get fv0
      obtain ⟨w, hw, hgT⟩ := hgT.keep e0F.off
      rw [hw]
      refine SdF.t hgT (by show 3 < 1000; decide) (by
        intro u hu; unfold FdV at hu; simp only [List.mem_cons, List.not_mem_nil, or_false] at hu; rcases hu with rfl | rfl | rfl
        · exact .inl (PrimS.s _ (word_len (fw g (List.mem_of_getElem? hg))))
        · exact .inl (by cases g.many <;> exact PrimS.s _)
        · exact .inl (PrimS.b _))
    have all : ∀ x ∈ (([.non, .int 5, .str "abc", .ref p1, .ref p2, .ref p3, .ref p4] ++ [.ref p5, .ref p6, .ref p7, fvs[0], .ref p8]) ++ [.ref p9] : List V), SdF K (Off s HF) x := by
      intro x hx
      simp only [List.cons_append, List.nil_append, List.mem_cons, List.not_mem_nil, or_false] at hx
      rcases hx with rfl | rfl | rfl | rfl | rfl | rfl | rfl | rfl | rfl | rfl | rfl | rfl | rfl
      · exact SdF.p PrimS.n
      · exact SdF.p (PrimS.i _)
      · exact SdF.p (PrimS.s _)
      · exact q1.keep (same_off (fin T1))
      · exact q2.keep (same_off (fin T2))
      · exact q3.keep (same_off (fin T3))
      · exact q4.keep (same_off (fin T4))
      · exact q5.keep (same_off (fin T6))
      · exact q6.keep (same_off (fin T7))
      · exact q7.keep (same_off (fin T9))
      · exact q0
      · exact q8.keep (same_off (fin T10))
      · exact q9
    clear q1 q2 q3 q4 q5 q6 q7 q8 q9 T1 T2 T3 T4 T5 T6 T7 T8 T9 T10 a1 a2 a3 a4 a5 a6 a7 a8 a9 a10 a11 hHF fin
    refine ⟨_, rfl, _, rfl, s, c, m, ns, _, rfl, st9, hl, mnc.1,   .inl (SqL.of fm), by show 0 < 13; decide, by show 13 < 1000000; decide, fun dd v H10 hdd e10 h10 => ?_⟩
    have hv := (all v (List.mem_of_getElem? hdd)).keep e10.off
    have e010 := e0F.trans e10
    have F010 := e10 _ _ (e2F _ _ F02) F0s
    have allf : ∀ {H' : Hp}, SameX s H H' → ∀ x ∈ fvs, SdF K (Off s H') x := fun e x hx => by
      obtain ⟨j, hj⟩ := List.mem_iff_getElem?.mp hx
      obtain ⟨g, hg, hgT⟩ := hfs.get hj
      obtain ⟨w, hw, hgT⟩ := hgT.keep e.off
      rw [hw]
      refine SdF.t hgT (by show 3 < 1000; decide) (by
        intro u hu; unfold FdV at hu; simp only [List.mem_cons, List.not_mem_nil, or_false] at hu; rcases hu with rfl | rfl | rfl
        · exact .inl (PrimS.s _ (word_len (fw g (List.mem_of_getElem? hg))))
        · exact .inl (by cases g.many <;> exact PrimS.s _)
        · exact .inl (PrimS.b _))
    -- what is handed
    refine ⟨_, rfl, _, rfl, _, rfl, F0, fvs, rfl, SqL.of F010, fun g1 hg1 => ?_⟩
    have b1 := same_new (Same.refl H10) hg1 (o := .lst (cutV fvs none (some (d : Int))))
    refine ⟨_, rfl, by show 1 ≤ sizeLine; decide, fun g2 hg2 => ?_⟩
    have b2 := same_new b1 hg2 (o := .lst [v])
    have l10 : (cutV fvs none (some (d : Int))).length ≤ fvs.length := cut_len ..
    refine ⟨g1, g2, _, _, rfl, rfl, (same_new (Same.refl _) hg2) _ _ upd_same, upd_same, Nat.le_trans (by show _ + 1 ≤ 11; omega) (by decide), fun g3 hg3 => ?_⟩
    have b3 := same_new b2 hg3 (o := .lst (cutV fvs none (some (d : Int)) ++ [v]))
    refine ⟨_, rfl, _, rfl, _, rfl, s, c, ns, 2, rfl, h10.keep b3, hl, by decide, by decide, fun d3 H14 _ e14 h14 => ?_⟩
    have h3s := (h10.keep b2).ne hg3
    have b4 : SameX s H10 H14 := (same_sx b3).trans e14
    have g314 := e14 _ _ upd_same h3s.1
    have F014 := b4 _ _ F010 F0s
    refine ⟨rfl, .inr ⟨_, rfl, _, _, rfl, rfl, _, rfl, F0, fvs, rfl, SqL.of F014, fun g4 hg4 => ?_⟩⟩
    have b5 := same_new (Same.refl H14) hg4 (o := .lst (cutV fvs (some ((d : Int) + if decide (V.int (d3 : Int) = V.int 0) = true then 1 else 0)) none))
    have l11 : (cutV fvs (some ((d : Int) + if decide (V.int (d3 : Int) = V.int 0) = true then 1 else 0)) none).length ≤ fvs.length := cut_len ..
    have l12 : (cutV fvs none (some (d : Int)) ++ [v]).length ≤ 10 := by
      rw [List.length_append]
      show _ + 1 ≤ 10
      omega
    refine ⟨g3, g4, _, _, rfl, rfl, b5 _ _ g314, upd_same, Nat.le_trans (by omega : _ ≤ 30) (by decide), fun g5 hg5 => ?_⟩
    have b6 := same_new b5 hg5 (o := .lst ((cutV fvs none (some (d : Int)) ++ [v]) ++ cutV fvs (some ((d : Int) + if decide (V.int (d3 : Int) = V.int 0) = true then 1 else 0)) none))
    have b46 := b4.trans (same_sx b6)
    have e0E := e010.trans b46
    refine k g5 _ _ e0E (h14.keep b6) ((off_ne ((h14.keep b5).ne hg5).1).trans upd_same) ?_ fun u hu => ?_
    · rw [List.length_append]
      omega
    · rcases List.mem_append.mp hu with hu | hu
      · rcases List.mem_append.mp hu with hu | hu
        · exact allf e0E u (cut_mem hu)
        · rw [List.mem_singleton.mp hu]
          exact hv.keep b46.off
      · exact allf e0E u (cut_mem hu)
end
end MK
set_option Elab.async false
set_option linter.all false
set_option autoImplicit false
set_option maxRecDepth 100000
set_option maxHeartbeats 4000000
namespace MK
open PySem PySem.Spec PyProof.Rows L2
local macro_rules | `(tactic| walk_at "x") => `(tactic| dsimp only [tSeq, tAsg, tRet, tDrop, tLst, tTup, tCons, tOp, tUn, tIfS])
/-! ### a call that is bent -/
abbrev s_bent_call : Stmt := topS 71
theorem sc_bent_call : FnScope ["_law_state", "_law_row", "_law_fields", "_law_x", "_law_parts", "_law_names", "_law_at", "_law_odd", "_law_some", "_law_pairs", "_law_k"] ["_law_state", "_law_row", "_law_fields"] (defScope s_bent_call) := ⟨rfl, rfl, rfl, by decide +kernel, rfl, by decide +kernel, by decide +kernel⟩
theorem ex_one {s : Addr} {H : Hp} : Ex [s] H = Off s H := by
  funext b
  by_cases q : b = s
  · rw [q, ex_in (List.mem_singleton.mpr rfl), off_s]
  · rw [ex_out (fun m => q (List.mem_singleton.mp m)), off_ne q]
theorem ex_two {x s : Addr} {H : Hp} : Ex [x, s] H = Off x (Off s H) := by
  funext b
  by_cases q : b = x
  · rw [q, ex_in (by simp), off_s]
  · by_cases r : b = s
    · rw [off_ne q, r, ex_in (by simp), off_s]
    · rw [ex_out (by simp [q, r]), off_ne q, off_ne r]
theorem ex_off2 {L : List Addr} {x s : Addr} {H : Hp} (hx : x ∈ L) (h : s ∈ L) : Same (Ex L H) (Off x (Off s H)) := fun b o hb => by
  have n : b ∉ L := fun q => by rw [ex_in q] at hb; cases hb
  rw [ex_out n] at hb
  rw [off_ne fun e => n (by rw [e]; exact hx), off_ne fun e => n (by rw [e]; exact h)]
  exact hb
theorem five_len {a : Str} {b : Bool} (h : b ∈ deedSorts a) : a.length ≤ sizeLine := by
  unfold deedSorts at h
  split at h
  · rename_i e; rw [e]; decide
  split at h
  · rename_i e; rw [e]; decide
  split at h
  · rename_i e; rw [e]; decide
  split at h
  · rename_i e; rw [e]; decide
  split at h
  · rename_i e; rw [e]; decide
  · cases h
theorem row_sd {K : PySem.W.Frag} {H : Hp} {v : V} {cd : CD} {fs : List FD} {n : Nat} (h : CdL K H v cd) (ok : CdOk fs n cd) (fok : FsOk fs) (n4 : n ≤ 4) : ∃ (a : Addr) (m dv s : V) (ds : List V), v = .ref a ∧ SqT K H a [.str cd.nm, .str cd.hand, m, dv, s] ∧ Sd K H m ∧ Ls H dv ds ∧ ds.length ≤ 4 ∧ (∀ x ∈ ds, Sd K H x) ∧ Sd K H dv ∧ Sd K H s ∧ PrimS (.str cd.nm) ∧ PrimS (.str cd.hand) := by
  obtain ⟨m, dv, s, ds, ⟨a, rfl, h1⟩, ⟨ma, rfl, h2⟩, ⟨da, rfl, h3⟩, h4, ⟨sa, rfl, h5⟩⟩ := h
  have dl : ds.length ≤ 4 := by rw [h4.1]; exact ok.deeds
  have hds : ∀ x ∈ ds, Sd K H x := fun x hx => by
    obtain ⟨d, hd, u, rfl, hu⟩ := h4.mem hx
    obtain ⟨f, hf, e, hb⟩ := ok.deed d hd
    refine sd_tup hu (by show 2 < 1000; decide) fun y hy => ?_
    unfold DeV at hy
    simp only [List.mem_cons, List.not_mem_nil, or_false] at hy
    rcases hy with rfl | rfl
    · exact (PrimS.s _ (five_len hb)).sd
    · exact (PrimS.s _ (by rw [← e]; exact word_len (fok.word f hf))).sd
  have sl : cd.same.length ≤ (fs.map (·.nm)).length := len_sub ok.nd fun z hz => by
    obtain ⟨g, gm, rfl, _⟩ := ok.same z hz
    exact List.mem_map_of_mem gm
  rw [List.length_map] at sl
  have f3 := fok.le
  refine ⟨a, .ref ma, .ref da, .ref sa, ds, rfl, h1, sd_lst h2 (by rw [List.length_map, ok.len]; omega) fun y hy => ?_, ⟨da, rfl, h3⟩, dl, hds, sd_lst h3 (by omega) hds, sd_lst h5 (by rw [List.length_map]; omega) fun y hy => ?_, PrimS.s _ (word_len ok.word), ?_⟩
  · obtain ⟨i, _, rfl⟩ := List.mem_map.mp hy
    exact (PrimS.i i).sd
  · obtain ⟨z, hz, rfl⟩ := List.mem_map.mp hy
    obtain ⟨g, gm, rfl, _⟩ := ok.same z hz
    exact (PrimS.s _ (word_len (fok.word g gm))).sd
  · rcases ok.hand with e | e | e <;> rw [e] <;> exact PrimS.s _
def spBentC (K : PySem.W.Frag) : Sp := fun vs H Q _ => ∃ (s c l x0 : Addr) (ns : List Int) (row : V) (fvs : List V) (fs : List FD) (n : Nat) (cd : CD), vs = [.ref s, row, .ref l] ∧ StA H s c ns ∧ ns.length ≤ 63 ∧ H x0 ≠ none ∧ x0 ≠ s ∧ x0 ≠ c ∧ CdL K (Off x0 (Off s H)) row cd ∧ CdOk fs n cd ∧ FsOk fs ∧ n ≤ 4 ∧ Off s H l = some (.lst fvs) ∧ Al (FdT K (Off s H)) fvs fs ∧
  ∀ v H', SameX s H H' → StA H' s c ns → Sd K (Off x0 (Off s H')) v → Q v H'
theorem mem1 {α : Type} {P : α → Prop} {a : α} (h : P a) : ∀ x ∈ [a], P x := fun x hx => by rw [List.mem_singleton.mp hx]; exact h
theorem mem2 {α : Type} {P : α → Prop} {a b : α} (h : P a) (k : P b) : ∀ x ∈ [a, b], P x := fun x hx => by
  simp only [List.mem_cons, List.not_mem_nil, or_false] at hx
  rcases hx with rfl | rfl
  · exact h
  · exact k
theorem mem_c {α : Type} {P : α → Prop} {a : α} {l : List α} (h : P a) (k : ∀ x ∈ l, P x) : ∀ x ∈ a :: l, P x := fun x hx => (List.mem_cons.mp hx).elim (fun e => e ▸ h) (k x)
section
variable {P : Program} {w : World} {K : PySem.W.Frag} {mg : Str → Option Value} {base : Heap}
theorem ok_bentC {f : Addr} {fd : FuncData} (F : DefX K mg "_law_bent_call" s_bent_call ["_law_state", "_law_row", "_law_fields"] f fd) (T : Txt K mg) (c_take : Cal P w K mg base CX0 2 "_law_take" spTake) (c_one : Cal P w K mg base CX0 3 "_law_one" (spOne K)) : Cal P w K mg base CX0 4 "_law_bent_call" (spBentC K) := by
  refine cal_mk F sc_bent_call (fun vs H Q E h => ?_) (fun cdv A outer sh H vs Q E hr h => ?_)
  · obtain ⟨s, c, l, x0, ns, row, fvs, fs, n, cd, rfl, _⟩ := h
    rfl
  · obtain ⟨s, c, l, x0, ns, row, fvs, fs, n, cd, rfl, h0, hl, hx0, x0s, x0c, hrow, ok, fok, n4, hlf, hfs, k⟩ := h
    refine ⟨_, (pss_cut (ps_par (i := 4) (j := 5) (by rfl) sc_bent_call.nd rfl rfl (by decide) rfl rfl (pa_cons (pe_callTy call_list_of (by rfl) T.list (by decide +kernel) (pa_cons (pv 1) pa_nil)) (pa_cons (pe_lc (own := [("_law_x", 3)]) (g := (gName 3)) (tt := tYes) rfl sc_bent_call.nd (pi_list (pv 2)) (blkOk_by (own := [("_law_x", 3)]) (N := ["_law_state", "_law_row", "_law_fields", "_law_x", "_law_parts", "_law_names", "_law_at", "_law_odd", "_law_some", "_law_pairs", "_law_k"]) (sc := defScope s_bent_call) (by decide +kernel)) (fun _ _ _ _ _ => (pg_name (i := 3) sc_bent_call.nd rfl (Or.inl rfl))) (fun _ _ _ _ _ => pts_nil) (fun _ _ _ _ _ => (pe_ix (ix_tupK (K := K) rfl) (pv 3) pe_int (fun _ _ => rfl)))) pa_nil)) (by rfl))
(pss_cut (ps_set (i := 6) sc_bent_call.nd rfl (Or.inl rfl) (pe_c c_take hr (by first | decide | assumption) rfl (pa_cons (pv 0) (pa_cons pe_int pa_nil))))
(pss_cut (ps_set (i := 7) sc_bent_call.nd rfl (Or.inl rfl) (pe_lst (pa_cons pe_non (pa_cons pe_int (pa_cons pe_str (pa_cons pe_bl (pa_cons pe_dnewK (pa_cons (pe_lst pa_nil) (pa_cons (pe_tup (pa_cons pe_str pa_nil)) pa_nil)))))))))
(pss_cut (ps_set (i := 8) sc_bent_call.nd rfl (Or.inl rfl) (pe_lst (pa_cons (pe_lst (pa_cons pe_str (pa_cons pe_str (pa_cons pe_str (pa_cons pe_str (pa_cons pe_str (pa_cons pe_str pa_nil))))))) (pa_cons (pe_lst (pa_cons pe_str (pa_cons pe_str (pa_cons pe_str (pa_cons pe_str pa_nil))))) pa_nil))))
(pss_cut (ps_expr (pe_bm PySem.F.plainAttrs_list PySem.F.slot_list_append PySem.F.type_list_append mt_append (pv 8) (pa_cons (pe_lst (pa_cons (pe_lst (pa_cons pe_int pa_nil)) (pa_cons (pe_lst (pa_cons pe_int pa_nil)) (pa_cons (pe_lst (pa_cons pe_int pa_nil)) (pa_cons (pe_lst (pa_cons (pe_un un_neg pe_int) pa_nil)) (pa_cons (pe_lst (pa_cons pe_int (pa_cons pe_int pa_nil))) (pa_cons (pe_lst (pa_cons pe_bl pa_nil)) pa_nil))))))) pa_nil)))
(pss_cut (ps_set (i := 9) sc_bent_call.nd rfl (Or.inr rfl) (pe_lst (pa_cons (pe_tup (pa_cons pe_str (pa_cons (pe_ix ix_list (pv 5) pe_int (fun _ _ => rfl)) pa_nil))) (pa_cons (pe_tup (pa_cons pe_str (pa_cons (pe_ix ix_list (pv 5) pe_int (fun _ _ => rfl)) pa_nil))) (pa_cons (pe_tup (pa_cons pe_str (pa_cons (pe_ix ix_list (pv 5) pe_int (fun _ _ => rfl)) pa_nil))) (pa_cons (pe_tup (pa_cons pe_str (pa_cons (pe_ix ix_list (pv 5) (pe_un un_neg pe_int) (fun _ _ => rfl)) pa_nil))) pa_nil))))))
(pss_cut (ps_expr (pe_bm PySem.F.plainAttrs_list PySem.F.slot_list_append PySem.F.type_list_append mt_append (pv 9) (pa_cons (pe_tup (pa_cons pe_str (pa_cons (pe_ix ix_list (pv 5) (pe_un un_neg pe_int) (fun _ _ => rfl)) pa_nil))) pa_nil)))
(pss_cut (ps_set (i := 9) sc_bent_call.nd rfl (Or.inr rfl) (pe_op op_cat (pv 9) (pe_lst (pa_cons (pe_tup (pa_cons pe_str (pa_cons (pe_ix ix_list (pv 5) pe_int (fun _ _ => rfl)) pa_nil))) (pa_cons (pe_tup (pa_cons pe_str (pa_cons pe_str pa_nil))) (pa_cons (pe_tup (pa_cons pe_str pa_nil)) (pa_cons pe_non (pa_cons pe_str (pa_cons (pe_lst (pa_cons (pe_ix ix_list (pv 5) pe_int (fun _ _ => rfl)) (pa_cons pe_str pa_nil))) (pa_cons (pe_tup (pa_cons pe_int (pa_cons (pe_ix ix_list (pv 5) pe_int (fun _ _ => rfl)) pa_nil))) pa_nil))))))))))
(pss_cut (ps_expr (pe_bm PySem.F.plainAttrs_list PySem.F.slot_list_append PySem.F.type_list_append mt_append (pv 8) (pa_cons (pe_lst (pa_cons (pe_lc (own := [("_law_k", 10)]) (g := (gName 10)) (tt := tYes) rfl sc_bent_call.nd (pi_range1 (by rfl) T.range (pa_cons (pe_op op_add pe_int (pe_c c_take hr (by first | decide | assumption) rfl (pa_cons (pv 0) (pa_cons pe_int pa_nil)))) pa_nil)) (blkOk_by (own := [("_law_k", 10)]) (N := ["_law_state", "_law_row", "_law_fields", "_law_x", "_law_parts", "_law_names", "_law_at", "_law_odd", "_law_some", "_law_pairs", "_law_k"]) (sc := defScope s_bent_call) (by decide +kernel)) (fun _ _ _ _ _ => (pg_name (i := 10) sc_bent_call.nd rfl (Or.inl rfl))) (fun _ _ _ _ _ => pts_nil) (fun _ _ _ _ _ => (pe_c c_one hr (by first | decide | assumption) rfl (pa_cons (pv 0) (pa_cons (pv 9) pa_nil))))) (pa_cons (pe_op op_rep (pe_callTy call_list_of (by rfl) T.list (by decide +kernel) (pa_cons (pe_ix ix_tup (pv 1) pe_int (fun _ _ => rfl)) pa_nil)) pe_int) pa_nil))) pa_nil)))
(pss_cut (ps_expr (pe_bm PySem.F.plainAttrs_list PySem.F.slot_list_append PySem.F.type_list_append mt_append (pe_ix ix_list (pv 8) pe_int (fun _ _ => rfl)) (pa_cons (pe_lc (own := [("_law_x", 3)]) (g := (gName 3)) (tt := tYes) rfl sc_bent_call.nd (pi_list (pe_op op_cat (pv 5) (pe_slice sl_list (pv 5) po_none (po_some pe_int)))) (blkOk_by (own := [("_law_x", 3)]) (N := ["_law_state", "_law_row", "_law_fields", "_law_x", "_law_parts", "_law_names", "_law_at", "_law_odd", "_law_some", "_law_pairs", "_law_k"]) (sc := defScope s_bent_call) (by decide +kernel)) (fun _ _ _ _ _ => (pg_name (i := 3) sc_bent_call.nd rfl (Or.inl rfl))) (fun _ _ _ _ _ => pts_nil) (fun _ _ _ _ _ => (pe_tup (pa_cons pe_str (pa_cons (pv 3) pa_nil))))) pa_nil)))
(pss_cut (ps_expr (pe_bm PySem.F.plainAttrs_list PySem.F.slot_list_append PySem.F.type_list_append mt_append (pv 8) (pa_cons (pe_lst (pa_cons (pe_lst (pa_cons (pe_ix ix_list (pv 5) pe_int (fun _ _ => rfl)) pa_nil)) (pa_cons (pe_lst (pa_cons (pe_ix ix_list (pv 5) (pe_un un_neg pe_int) (fun _ _ => rfl)) (pa_cons (pe_ix ix_list (pv 5) (pe_un un_neg pe_int) (fun _ _ => rfl)) pa_nil))) (pa_cons (pe_lst (pa_cons pe_str pa_nil)) (pa_cons (pv 5) (pa_cons (pe_lst (pa_cons pe_non pa_nil)) (pa_cons (pe_lst (pa_cons pe_dnewK pa_nil)) (pa_cons (pe_op op_cat (pv 5) (pe_slice sl_list (pv 5) po_none (po_some pe_int))) pa_nil)))))))) pa_nil)))
(pss_cut (ps_asg (pe_c c_one hr (by first | decide | assumption) rfl (pa_cons (pv 0) (pa_cons (pe_cut (pe_ifExp (pt_cmpR op_gt (pe_c c_take hr (by first | decide | assumption) rfl (pa_cons (pv 0) (pa_cons pe_int pa_nil))) pe_int (nomark _)) (pe_ix ix_list (pv 8) (pv 6) (fun _ _ => rfl)) (pv 7))) pa_nil))) (pg_sub (pv 4) (pv 6) set_list))
(pss_one (ps_ret (pe_cut (pe_ifExp (pt_cmpR op_gt (pe_c c_take hr (by first | decide | assumption) rfl (pa_cons (pv 0) (pa_cons pe_int pa_nil))) pe_int (nomark _)) (pe_callTy call_tuple_of (by rfl) T.tuple (by decide +kernel) (pa_cons (pv 4) pa_nil)) (pe_slice sl_tup (pe_callTy call_tuple_of (by rfl) T.tuple (by decide +kernel) (pa_cons (pv 4) pa_nil)) po_none (po_some pe_int)))))))))))))))))), ?_⟩
    obtain ⟨ra, vm, vd, vs, ds, rfl, r1, r2, ⟨da, rfl, r3⟩, r4, r5, r6, r7, r8, r9⟩ := row_sd hrow ok fok n4
    have lf := off_same _ _ hlf
    have hs : H s ≠ none := by
      obtain ⟨_, _, _, _, _, z⟩ := h0
      rw [z]
      exact nofun
    have g0 : Gd K s c ns [x0, s] H (vm :: .ref da :: vs :: ds) [] := by
      refine ⟨h0, by simp, fun m hm => ?_, fun q => ?_, ?_, nofun⟩
      · simp only [List.mem_cons, List.not_mem_nil, or_false] at hm
        rcases hm with rfl | rfl
        · exact hx0
        · exact hs
      · simp only [List.mem_cons, List.not_mem_nil, or_false] at q
        rcases q with q | q
        · exact x0c q.symm
        · exact h0.1 q
      rw [ex_two]
      exact mem_c r2 (mem_c r6 (mem_c r7 r5))
    have fl := hfs.1
    have f3 := fok.le
    have fp := fok.pos
    generalize hNm : fs.map (·.nm) = Nm
    have Nl : Nm.length = fs.length := by rw [← hNm, List.length_map]
    have Np : ∀ z ∈ Nm, PrimS (.str z) := fun z hz => by
      rw [← hNm] at hz
      obtain ⟨g, hg, rfl⟩ := List.mem_map.mp hz
      exact PrimS.s _ (word_len (fok.word g hg))
    obtain ⟨z0, hz0, at0⟩ : ∃ z0, z0 ∈ Nm ∧ atI (Nm.map V.str) 0 = some (.str z0) := by
      have h : 0 < Nm.length := by omega
      exact ⟨Nm[0], List.getElem_mem _, atI_nat (j := 0) (by rw [List.getElem?_map, List.getElem?_eq_getElem h]; rfl)⟩
    obtain ⟨zl, hzl, atl⟩ : ∃ zl, zl ∈ Nm ∧ atI (Nm.map V.str) (-1) = some (.str zl) := by
      obtain ⟨z, hz, e⟩ := atI_last (xs := Nm.map V.str) (by rw [List.length_map]; omega)
      obtain ⟨y, hy, rfl⟩ := List.mem_map.mp hz
      exact ⟨y, hy, e⟩
    have p0 := Np z0 hz0
    have pl := Np zl hzl
    have NpV : ∀ x ∈ Nm.map V.str, PrimS x := fun x hx => by
      obtain ⟨z, hz, rfl⟩ := List.mem_map.mp hx
      exact Np z hz
    -- parts, names
    refine ⟨fun σ H1 => ∃ M0 N0 x3, Gd K s c ns [M0, x0, s] H1 (.ref N0 :: vm :: .ref da :: vs :: ds) [] ∧ SameX s H H1 ∧ H1 M0 = some (.lst [.str cd.nm, .str cd.hand, vm, .ref da, vs]) ∧ Ex [M0, x0, s] H1 N0 = some (.lst (Nm.map V.str)) ∧ M0 ≠ s ∧ H M0 = none ∧
      σ = [some (.ref s), some (.ref ra), some (.ref l), x3, some (.ref M0), some (.ref N0), none, none, none, none, none], ?_, ?_⟩
    · refine ⟨_, rfl, ra, _, rfl, .inr (same_t (off_same.trans off_same) r1), fun M0 hM0 => ?_⟩
      have g1 := g0.newM hM0 (o := .lst [.str cd.nm, .str cd.hand, vm, .ref da, vs])
      have e1 := same_new (Same.refl H) hM0 (o := .lst [.str cd.nm, .str cd.hand, vm, .ref da, vs])
      refine ⟨_, rfl, l, rfl, ⟨_, SqL.of (e1 _ _ lf)⟩, fun D hD => ?_⟩
      have g2 := g1.newM hD (o := .lst [])
      have D0 := none_of e1 hD
      have DM : D ≠ M0 := fun e => by rw [e, upd_same] at hD; cases hD
      refine lc_list (K := K) (a := l) (xs := fvs) (fun j H4 => Gd K s c ns (D :: [M0, x0, s]) H4 (vm :: .ref da :: vs :: ds) [] ∧ Same H H4 ∧ H4 M0 = some (.lst [.str cd.nm, .str cd.hand, vm, .ref da, vs]) ∧ H4 D = some (.lst ((Nm.take j).map V.str))) ⟨g2, same_new e1 hD, (same_new (Same.refl _) hD) _ _ upd_same, upd_same⟩ (fun j H4 _ h => SqL.of (h.2.1 _ _ lf)) ?_ ?_
      · rintro j v H4 hv4 ⟨g4, e4, m4, d4⟩
        obtain ⟨g, hg, u, rfl, hu⟩ := hfs.get hv4
        have hj : Nm[j]? = some g.nm := by rw [← hNm, List.getElem?_map, hg]; rfl
        refine ⟨rfl, ?_⟩
        refine ⟨_, rfl, u, _, 0, .str g.nm, rfl, rfl, same_t (off_same.trans e4) hu, rfl, _, d4, ?_, g4.mut List.mem_cons_self (h0.ne D0).1, fun b o hb => ?_, ?_, ?_⟩
        · rw [List.length_map, List.length_take]
          exact Nat.lt_of_le_of_lt (by omega : _ ≤ 3) (by decide)
        · rw [upd_ne (ne_of_none hb D0)]
          exact e4 _ _ hb
        · rw [upd_ne DM.symm]
          exact m4
        · rw [upd_same, map_take V.str hj]
      · rintro H4 ⟨g4, e4, m4, d4⟩
        rw [fl, ← Nl, List.take_length] at d4
        have Ms := (h0.ne hM0).1
        have Ds := (h0.ne D0).1
        have g5 := g4.drop (List.mem_cons_of_mem _ (by simp)) (g1.out hD) d4 (fun x hx => .inr (NpV x hx)) (by rw [List.length_map]; omega)
        refine ⟨_, _, rfl, M0, D, _, g5, same_sx e4, m4, ?_, Ms, hM0, rfl⟩
        rw [ex_out (g1.out hD)]
        exact d4
    rintro _ H1 ⟨M0, N0, x3, g1, e1, m0, n0, M0s, hM0, rfl⟩
    have R : RI K s c ns H M0 N0 [.str cd.nm, .str cd.hand, vm, .ref da, vs] (Nm.map V.str) [M0, x0, s] (.ref N0 :: vm :: .ref da :: vs :: ds) [] H1 := ⟨g1, e1, m0, n0⟩
    clear g1 e1 m0 n0
    generalize hPV : ([.str cd.nm, .str cd.hand, vm, .ref da, vs] : List V) = PV at R
    have usD : ∀ {H2 : Hp} {L : List Addr} {us ls : List V}, (∀ u ∈ (.ref N0 :: vm :: .ref da :: vs :: ds : List V), u ∈ us) → RI K s c ns H M0 N0 PV (Nm.map V.str) L us ls H2 → RI K s c ns H M0 N0 PV (Nm.map V.str) L (.ref N0 :: vm :: .ref da :: vs :: ds) ls H2 := fun h r => ⟨r.g.sub (fun u hu => .inl (h u hu)) (fun _ h => h), r.e, r.m, r.n⟩
    generalize hU : (.ref N0 :: vm :: .ref da :: vs :: ds : List V) = U at R usD
    -- at
    refine ⟨fun σ H2 => ∃ d : Nat, d < 5 ∧ RI K s c ns H M0 N0 PV (Nm.map V.str) [M0, x0, s] U [] H2 ∧ σ = [some (.ref s), some (.ref ra), some (.ref l), x3, some (.ref M0), some (.ref N0), some (.int d), none, none, none, none], ?_, ?_⟩
    · exact ⟨_, rfl, s, c, ns, 5, rfl, R.g.st, hl, by decide, by decide, fun d H2 hd e2 h2 => ⟨d, by omega, R.draw M0s e2 h2, rfl⟩⟩
    clear R
    rintro _ H1 ⟨d, d5, R, rfl⟩
    -- odd
    refine ⟨fun σ H2 => ∃ o : Addr, RI K s c ns H M0 N0 PV (Nm.map V.str) [M0, x0, s] U [.ref o] H2 ∧ σ = [some (.ref s), some (.ref ra), some (.ref l), x3, some (.ref M0), some (.ref N0), some (.int d), some (.ref o), none, none, none], ?_, ?_⟩
    · refine fun d0 hd0 => ⟨by show 0 ≤ sizeLine; decide, fun l0 hl0 => ⟨by show 1 ≤ sizeLine; decide, fun t0 ht0 => ⟨by show 7 ≤ sizeLine; decide, fun o ho => ?_⟩⟩⟩
      have g2 := R.g.dic hd0
      have g3 := g2.lst hl0 (xs := []) nofun (by decide)
      have g4 := g3.tup ht0 (xs := [.str "a"]) (mem1 (.inr (PrimS.s _))) (by show 1 < 1000; decide)
      have g5 := g4.lstL ho (xs := [.non, .int 5, .str "ab", .bl true, .ref d0, .ref l0, .ref t0]) (mem_c (.inr PrimS.n) (mem_c (.inr (PrimS.i _)) (mem_c (.inr (PrimS.s _)) (mem_c (.inr (PrimS.b _)) (mem_c (.inl (by simp)) (mem2 (.inl (by simp)) (.inl (by simp)))))))) (by show 7 < 1000; decide) (by show 0 < 7; decide)
      have f2 := same_new (same_new (same_new (same_new (Same.refl H1) hd0 (o := .dK [])) hl0 (o := .lst [])) ht0 (o := .tup [.str "a"])) ho (o := .lst [.non, .int 5, .str "ab", .bl true, .ref d0, .ref l0, .ref t0])
      exact ⟨o, usD (fun u hu => by simp [hu]) (R.st f2 g5), rfl⟩
    clear R
    rintro _ H1 ⟨o, R, rfl⟩
    -- some
    refine ⟨fun σ H2 => ∃ m1 a0 a1 : Addr, RI K s c ns H M0 N0 PV (Nm.map V.str) [m1, M0, x0, s] U [.ref a1, .ref a0, .ref o] H2 ∧ H2 m1 = some (.lst [.ref a0, .ref a1]) ∧ m1 ≠ s ∧ m1 ≠ M0 ∧ H m1 = none ∧
      σ = [some (.ref s), some (.ref ra), some (.ref l), x3, some (.ref M0), some (.ref N0), some (.int d), some (.ref o), some (.ref m1), none, none], ?_, ?_⟩
    · refine ⟨by show 6 ≤ sizeLine; decide, fun a0 ha0 => ⟨by show 4 ≤ sizeLine; decide, fun a1 ha1 => ⟨by show 2 ≤ sizeLine; decide, fun m1 hm1 => ?_⟩⟩⟩
      have g2 := R.g.lstL ha0 (xs := [.str "A", .str "aB", .str "add", .str "abcdefghi", .str "build", .str ""]) (mem_c (.inr (PrimS.s _)) (mem_c (.inr (PrimS.s _)) (mem_c (.inr (PrimS.s _)) (mem_c (.inr (PrimS.s _)) (mem2 (.inr (PrimS.s _)) (.inr (PrimS.s _))))))) (by show 6 < 1000; decide) (by show 0 < 6; decide)
      have g3 := g2.lstL ha1 (xs := [.str "self", .str "new", .str "last", .str "other"]) (mem_c (.inr (PrimS.s _)) (mem_c (.inr (PrimS.s _)) (mem2 (.inr (PrimS.s _)) (.inr (PrimS.s _))))) (by show 4 < 1000; decide) (by show 0 < 4; decide)
      have g4 := g3.newM hm1 (o := .lst [.ref a0, .ref a1])
      have f1 := same_new (same_new (Same.refl H1) ha0 (o := .lst [.str "A", .str "aB", .str "add", .str "abcdefghi", .str "build", .str ""])) ha1 (o := .lst [.str "self", .str "new", .str "last", .str "other"])
      have f2 := same_new f1 hm1 (o := .lst [.ref a0, .ref a1])
      have ms := (g3.st.ne hm1).1
      have n1 := none_of f1 hm1
      have mM : m1 ≠ M0 := fun e => by rw [e, f1 _ _ R.m] at hm1; cases hm1
      exact ⟨m1, a0, a1, usD (fun u hu => by simp [hu]) (R.more f2 n1 g4), upd_same, ms, mM, R.nw ms n1, rfl⟩
    clear R
    rintro _ H1 ⟨m1, a0, a1, R, hm1, m1s, m1M, m1H, rfl⟩
    -- moves
    refine ⟨fun σ H2 => ∃ a2 : Addr, RI K s c ns H M0 N0 PV (Nm.map V.str) [m1, M0, x0, s] U [.ref a2, .ref a1, .ref a0, .ref o] H2 ∧ H2 m1 = some (.lst [.ref a0, .ref a1, .ref a2]) ∧
      σ = [some (.ref s), some (.ref ra), some (.ref l), x3, some (.ref M0), some (.ref N0), some (.int d), some (.ref o), some (.ref m1), none, none], ?_, ?_⟩
    · refine ⟨_, rfl, .inl ⟨rfl, _, SqL.of hm1⟩, by show 1 ≤ sizeLine; decide, fun b1 hb1 => ⟨by show 1 ≤ sizeLine; decide, fun b2 hb2 => ⟨by show 1 ≤ sizeLine; decide, fun b3 hb3 => ⟨_, rfl, by show 1 ≤ sizeLine; decide, fun b4 hb4 => ⟨by show 2 ≤ sizeLine; decide, fun b5 hb5 => ⟨by show 1 ≤ sizeLine; decide, fun b6 hb6 => ⟨by show 6 ≤ sizeLine; decide, fun a2 ha2 => ?_⟩⟩⟩⟩⟩⟩⟩
      have i1 : ∀ {us : List V} (i : Int), ∀ x ∈ ([.int i] : List V), x ∈ us ∨ PrimS x := fun i => mem1 (.inr (PrimS.i _))
      have g1 := R.g.lst hb1 (xs := [.int 0]) (i1 _) (by show 1 < 1000; decide)
      have g2 := g1.lst hb2 (xs := [.int 1]) (i1 _) (by show 1 < 1000; decide)
      have g3 := g2.lst hb3 (xs := [.int 2]) (i1 _) (by show 1 < 1000; decide)
      have g4 := g3.lst hb4 (xs := [.int (-2)]) (i1 _) (by show 1 < 1000; decide)
      have g5 := g4.lst hb5 (xs := [.int 0, .int 0]) (mem2 (.inr (PrimS.i _)) (.inr (PrimS.i _))) (by show 2 < 1000; decide)
      have g6 := g5.lst hb6 (xs := [.bl true]) (mem1 (.inr (PrimS.b _))) (by show 1 < 1000; decide)
      have g7 := g6.lstL ha2 (xs := [.ref b1, .ref b2, .ref b3, .ref b4, .ref b5, .ref b6]) (mem_c (.inl (by simp)) (mem_c (.inl (by simp)) (mem_c (.inl (by simp)) (mem_c (.inl (by simp)) (mem2 (.inl (by simp)) (.inl (by simp))))))) (by show 6 < 1000; decide) (by show 0 < 6; decide)
      have f1 := same_new (same_new (same_new (same_new (same_new (same_new (same_new (Same.refl H1) hb1 (o := .lst [.int 0])) hb2 (o := .lst [.int 1])) hb3 (o := .lst [.int 2])) hb4 (o := .lst [.int (-2)])) hb5 (o := .lst [.int 0, .int 0])) hb6 (o := .lst [.bl true])) ha2 (o := .lst [.ref b1, .ref b2, .ref b3, .ref b4, .ref b5, .ref b6])
      refine ⟨m1, _, _, rfl, rfl, f1 _ _ hm1, by show 2 < sizeLine; decide, a2, RI.mut (usD (fun u hu => by simp [hu]) (R.st f1 g7)) (by simp) m1M.symm m1s m1H, upd_same, rfl⟩
    clear R hm1
    rintro _ H1 ⟨a2, R, hm1, rfl⟩
    -- pairs
    refine ⟨fun σ H2 => ∃ m2 q1 q2 q3 q4 : Addr, RI K s c ns H M0 N0 PV (Nm.map V.str) [m2, m1, M0, x0, s] (.ref q4 :: .ref q3 :: .ref q2 :: .ref q1 :: U) [.ref a2, .ref a1, .ref a0, .ref o] H2 ∧ H2 m1 = some (.lst [.ref a0, .ref a1, .ref a2]) ∧ H2 m2 = some (.lst [.ref q1, .ref q2, .ref q3, .ref q4]) ∧ m2 ≠ s ∧ m2 ≠ M0 ∧ m2 ≠ m1 ∧ H m2 = none ∧ m2 ∉ [m1, M0, x0, s] ∧
      σ = [some (.ref s), some (.ref ra), some (.ref l), x3, some (.ref M0), some (.ref N0), some (.int d), some (.ref o), some (.ref m1), some (.ref m2), none], ?_, ?_⟩
    · refine ⟨_, rfl, N0, _, 0, .str z0, rfl, rfl, SqL.of R.nv, at0, by show 2 ≤ sizeLine; decide, fun q1 hq1 => ?_⟩
      have g1 := R.g.tup hq1 (xs := [.str "set", .str z0]) (mem2 (.inr (PrimS.s _)) (.inr p0)) (by show 2 < 1000; decide)
      have f1 := same_new (Same.refl H1) hq1 (o := .tup [.str "set", .str z0])
      refine ⟨_, rfl, N0, _, 0, .str z0, rfl, rfl, SqL.of (f1 _ _ R.nv), at0, by show 2 ≤ sizeLine; decide, fun q2 hq2 => ?_⟩
      have g2 := g1.tup hq2 (xs := [.str "add", .str z0]) (mem2 (.inr (PrimS.s _)) (.inr p0)) (by show 2 < 1000; decide)
      have f2 := same_new f1 hq2 (o := .tup [.str "add", .str z0])
      refine ⟨_, rfl, N0, _, 0, .str z0, rfl, rfl, SqL.of (f2 _ _ R.nv), at0, by show 2 ≤ sizeLine; decide, fun q3 hq3 => ?_⟩
      have g3 := g2.tup hq3 (xs := [.str "strike", .str z0]) (mem2 (.inr (PrimS.s _)) (.inr p0)) (by show 2 < 1000; decide)
      have f3' := same_new f2 hq3 (o := .tup [.str "strike", .str z0])
      refine ⟨_, rfl, _, rfl, N0, _, -1, .str zl, rfl, rfl, SqL.of (f3' _ _ R.nv), atl, by show 2 ≤ sizeLine; decide, fun q4 hq4 => ?_⟩
      have g4 := g3.tup hq4 (xs := [.str "fresh", .str zl]) (mem2 (.inr (PrimS.s _)) (.inr pl)) (by show 2 < 1000; decide)
      have f4 := same_new f3' hq4 (o := .tup [.str "fresh", .str zl])
      refine ⟨by show 4 ≤ sizeLine; decide, fun m2 hm2 => ?_⟩
      have g5 := g4.newM hm2 (o := .lst [.ref q1, .ref q2, .ref q3, .ref q4])
      have f5 := same_new f4 hm2 (o := .lst [.ref q1, .ref q2, .ref q3, .ref q4])
      have n2 := none_of f4 hm2
      have ms := (g4.st.ne hm2).1
      have mM : m2 ≠ M0 := fun e => by rw [e, f4 _ _ R.m] at hm2; cases hm2
      have mm : m2 ≠ m1 := fun e => by rw [e, f4 _ _ hm1] at hm2; cases hm2
      exact ⟨m2, q1, q2, q3, q4, R.more f5 n2 g5, f5 _ _ hm1, upd_same, ms, mM, mm, R.nw ms n2, g4.out hm2, rfl⟩
    clear R hm1
    rintro _ H1 ⟨m2, q1, q2, q3, q4, R, hm1, hm2, m2s, m2M, m21, m2H, m2L, rfl⟩
    -- one more
    refine ⟨fun σ H2 => ∃ qs : List V, RI K s c ns H M0 N0 PV (Nm.map V.str) [m1, M0, x0, s] U [.ref a2, .ref a1, .ref a0, .ref o] H2 ∧ H2 m1 = some (.lst [.ref a0, .ref a1, .ref a2]) ∧ Ex [m1, M0, x0, s] H2 m2 = some (.lst qs) ∧ qs.length = 5 ∧ (∀ q ∈ qs, Sd K (Ex [m1, M0, x0, s] H2) q) ∧
      σ = [some (.ref s), some (.ref ra), some (.ref l), x3, some (.ref M0), some (.ref N0), some (.int d), some (.ref o), some (.ref m1), some (.ref m2), none], ?_, ?_⟩
    · refine ⟨_, rfl, .inl ⟨rfl, _, SqL.of hm2⟩, _, rfl, _, rfl, N0, _, -1, .str zl, rfl, rfl, SqL.of R.nv, atl, by show 2 ≤ sizeLine; decide, fun q5 hq5 => ?_⟩
      have g1 := R.g.tup hq5 (xs := [.str "clear", .str zl]) (mem2 (.inr (PrimS.s _)) (.inr pl)) (by show 2 < 1000; decide)
      have f1 := same_new (Same.refl H1) hq5 (o := .tup [.str "clear", .str zl])
      have R2 := RI.mut (o := .lst ([.ref q1, .ref q2, .ref q3, .ref q4] ++ [.ref q5])) (R.st f1 g1) List.mem_cons_self m2M.symm m2s m2H
      have nL : m2 ∉ [m1, M0, x0, s] := m2L
      have hin : ∀ q ∈ ([.ref q1, .ref q2, .ref q3, .ref q4, .ref q5] : List V), q ∈ (.ref q5 :: .ref q4 :: .ref q3 :: .ref q2 :: .ref q1 :: U : List V) := fun q hq => by
        simp only [List.mem_cons, List.not_mem_nil, or_false] at hq ⊢
        rcases hq with rfl | rfl | rfl | rfl | rfl <;> simp
      have g3 := R2.g.drop (by simp) nL upd_same (fun x hx => .inl (hin x hx)) (by show 5 < 1000; decide)
      have R3 := R2.less g3
      refine ⟨m2, _, _, rfl, rfl, f1 _ _ hm2, by show 4 < sizeLine; decide, [.ref q1, .ref q2, .ref q3, .ref q4, .ref q5], usD (fun u hu => by simp [hu]) R3, (upd_ne m21.symm).trans (f1 _ _ hm1), (ex_out nL).trans upd_same, rfl, fun q hq => g3.good q (List.mem_cons_of_mem _ (hin q hq)), rfl⟩
    clear R hm1 hm2
    rintro _ H1 ⟨qs, R, hm1, hm2, q5, hqs, rfl⟩
    -- and seven
    refine ⟨fun σ H2 => ∃ p7 : Addr, RI K s c ns H M0 N0 PV (Nm.map V.str) [m1, M0, x0, s] U [.ref p7, .ref a2, .ref a1, .ref a0, .ref o] H2 ∧ H2 m1 = some (.lst [.ref a0, .ref a1, .ref a2]) ∧
      σ = [some (.ref s), some (.ref ra), some (.ref l), x3, some (.ref M0), some (.ref N0), some (.int d), some (.ref o), some (.ref m1), some (.ref p7), none], ?_, ?_⟩
    · refine ⟨_, rfl, _, rfl, N0, _, 0, .str z0, rfl, rfl, SqL.of R.nv, at0, by show 2 ≤ sizeLine; decide, fun b1 hb1 => ?_⟩
      have g1 := R.g.tup hb1 (xs := [.str "cut", .str z0]) (mem2 (.inr (PrimS.s _)) (.inr p0)) (by show 2 < 1000; decide)
      have f1 := same_new (Same.refl H1) hb1 (o := .tup [.str "cut", .str z0])
      refine ⟨by show 2 ≤ sizeLine; decide, fun b2 hb2 => ⟨by show 1 ≤ sizeLine; decide, fun b3 hb3 => ?_⟩⟩
      have g2 := g1.tup hb2 (xs := [.str "set", .str "zz"]) (mem2 (.inr (PrimS.s _)) (.inr (PrimS.s _))) (by show 2 < 1000; decide)
      have f2 := same_new f1 hb2 (o := .tup [.str "set", .str "zz"])
      have g3 := g2.tup hb3 (xs := [.str "set"]) (mem1 (.inr (PrimS.s _))) (by show 1 < 1000; decide)
      have f3' := same_new f2 hb3 (o := .tup [.str "set"])
      refine ⟨_, rfl, N0, _, 0, .str z0, rfl, rfl, SqL.of (f3' _ _ R.nv), at0, by show 2 ≤ sizeLine; decide, fun b4 hb4 => ?_⟩
      have g4 := g3.lst hb4 (xs := [.str z0, .str "set"]) (mem2 (.inr p0) (.inr (PrimS.s _))) (by show 2 < 1000; decide)
      have f4 := same_new f3' hb4 (o := .lst [.str z0, .str "set"])
      refine ⟨_, rfl, N0, _, 0, .str z0, rfl, rfl, SqL.of (f4 _ _ R.nv), at0, by show 2 ≤ sizeLine; decide, fun b5 hb5 => ?_⟩
      have g5 := g4.tup hb5 (xs := [.int 5, .str z0]) (mem2 (.inr (PrimS.i _)) (.inr p0)) (by show 2 < 1000; decide)
      have f5 := same_new f4 hb5 (o := .tup [.int 5, .str z0])
      refine ⟨by show 7 ≤ sizeLine; decide, fun b6 hb6 => ?_⟩
      have g6 := g5.new hb6 (o := .lst [.ref b1, .ref b2, .ref b3, .non, .str "ab", .ref b4, .ref b5])
      have f6 := same_new f5 hb6 (o := .lst [.ref b1, .ref b2, .ref b3, .non, .str "ab", .ref b4, .ref b5])
      refine ⟨m2, b6, qs, _, rfl, rfl, f6 _ _ (ex_same _ _ hm2), upd_same, Nat.le_trans (by rw [q5]; exact Nat.le_refl _) (by decide : 5 + 7 ≤ sizeLine), fun p7 hp7 => ?_⟩
      have f7 := same_new f6 hp7 (o := .lst (qs ++ [.ref b1, .ref b2, .ref b3, .non, .str "ab", .ref b4, .ref b5]))
      have g7 := (g6.new hp7 (o := .lst (qs ++ [.ref b1, .ref b2, .ref b3, .non, .str "ab", .ref b4, .ref b5])))
      have hin : ∀ q ∈ ([.ref b1, .ref b2, .ref b3, .non, .str "ab", .ref b4, .ref b5] : List V), q ∈ (.ref b5 :: .ref b4 :: .ref b3 :: .ref b2 :: .ref b1 :: U : List V) ∨ PrimS q := mem_c (.inl (by simp)) (mem_c (.inl (by simp)) (mem_c (.inl (by simp)) (mem_c (.inr PrimS.n) (mem_c (.inr (PrimS.s _)) (mem2 (.inl (by simp)) (.inl (by simp)))))))
      have g8 := g7.addL ⟨p7, _, rfl, g6.at hp7, by rw [List.length_append]; show 0 < _ + 7; omega, by rw [List.length_append, q5]; show 5 + 7 < 1000; decide, fun x hx => by
        rcases List.mem_append.mp hx with hx | hx
        · exact (hqs x hx).keep (ex_mono f7)
        · exact g7.sd (hin x hx)⟩
      exact ⟨p7, usD (fun u hu => by simp [hu]) (R.st f7 g8), f7 _ _ hm1, rfl⟩
    clear R hm1 hm2 hqs
    rintro _ H1 ⟨p7, R, hm1, rfl⟩
    -- deeds
    refine ⟨fun σ H2 => ∃ (m3 B1 B2 : Addr) (x10 : Option V), RI K s c ns H M0 N0 PV (Nm.map V.str) [m3, m1, M0, x0, s] (.ref B2 :: .ref B1 :: U) [.ref p7, .ref a2, .ref a1, .ref a0, .ref o] H2 ∧ H2 m1 = some (.lst [.ref a0, .ref a1, .ref a2, .ref m3]) ∧ H2 m3 = some (.lst [.ref B1, .ref B2]) ∧ m3 ≠ s ∧ m3 ≠ M0 ∧ m3 ≠ m1 ∧ H m3 = none ∧
      σ = [some (.ref s), some (.ref ra), some (.ref l), x3, some (.ref M0), some (.ref N0), some (.int d), some (.ref o), some (.ref m1), some (.ref p7), x10], ?_, ?_⟩
    · refine ⟨_, rfl, .inl ⟨rfl, _, SqL.of hm1⟩, ?_⟩
      refine ⟨_, rfl, s, c, ns, 5, rfl, R.g.st, hl, by decide, by decide, fun d2 H2 hd2 e2 h2 => ⟨_, _, rfl, rfl, _, rfl, by omega, by omega, fun D hD => ?_⟩⟩
      have R2 := R.draw M0s e2 h2
      have m12 := e2 _ _ hm1 m1s
      have Ds := (h2.ne hD).1
      have DM : D ≠ M0 := fun e => by rw [e, R2.m] at hD; cases hD
      have Dm : D ≠ m1 := fun e => by rw [e, m12] at hD; cases hD
      have DH := R2.nw Ds hD
      have R3 := R2.more (same_new (Same.refl H2) hD (o := .lst [])) hD (R2.g.newM hD)
      refine lc_it walk_range (fun i H3 => RI K s c ns H M0 N0 PV (Nm.map V.str) [D, m1, M0, x0, s] U [.ref p7, .ref a2, .ref a1, .ref a0, .ref o] H3 ∧ H3 m1 = some (.lst [.ref a0, .ref a1, .ref a2]) ∧ ∃ xs : List V, H3 D = some (.lst xs) ∧ xs.length = i ∧ ∀ x ∈ xs, Sd K (Ex [D, m1, M0, x0, s] H3) x)
        ⟨R3, (upd_ne Dm.symm).trans m12, [], upd_same, rfl, nofun⟩ (fun _ _ _ _ => trivial) ?_ ?_
      · rintro i x H5' H5 hi ⟨R5, m15, xs, hx, xl, hxs⟩ ⟨rfl, rfl⟩
        have hi5 : i < 5 := by
          have : i < (1 + (d2 : Int)).toNat := hi
          omega
        obtain ⟨pa, ps, e7, hpa, ppos, plen, pall⟩ := R5.g.lists (.ref p7) (by simp)
        cases e7
        have pas : p7 ≠ s := fun e => by rw [e, ex_in (by simp)] at hpa; cases hpa
        refine ⟨rfl, ?_⟩
        refine ⟨_, rfl, _, rfl, s, c, p7, ns, ps, rfl, R5.g.st, hl, pas, .inl (SqL.of (ex_same _ _ hpa)), ppos, by omega, fun dd y H6 hdd e6 h6 => ?_⟩
        have d6 := e6 _ _ hx Ds
        have R6 := R5.draw M0s e6 h6
        have hy : Sd K (Ex [D, m1, M0, x0, s] H6) y := (pall y (List.mem_of_getElem? hdd)).keep (ex_sx (by simp) e6)
        refine ⟨xs, d6, by rw [xl]; exact Nat.lt_trans hi5 (by decide), R6.mut List.mem_cons_self DM.symm Ds DH, (upd_ne Dm.symm).trans (e6 _ _ m15 m1s), xs ++ [y], upd_same, by rw [List.length_append, xl]; rfl, fun x hx' => ?_⟩
        rw [ex_put List.mem_cons_self]
        rcases List.mem_append.mp hx' with hx' | hx'
        · exact (hxs x hx').keep (ex_sx (by simp) e6)
        · rw [List.mem_singleton.mp hx']
          exact hy
      · rintro H3 ⟨R3, m13, xs, hx, xl, hxs⟩
        have nL : D ∉ [m1, M0, x0, s] := R2.g.out hD
        have xl5 : xs.length ≤ 5 := by
          rw [xl]
          omega
        have g4 := R3.g.dropS (by simp) nL hx hxs (by omega)
        have R4 := R3.less g4
        have rt := same_t (off_same.trans (Same.refl H3)) (same_t (off_same.trans R4.e.off) r1)
        have rd := off_same _ _ (R4.e.off _ _ (off_same _ _ r3))
        refine ⟨_, rfl, ra, _, 3, .ref da, rfl, rfl, rt, rfl, da, ds, rfl, .inl (SqL.of rd), fun c1 hc1 => ?_⟩
        have g5 := g4.lst hc1 (xs := ds) (fun x hx => .inl (by rw [← hU]; simp [hx])) (by omega)
        have f1 := same_new (Same.refl H3) hc1 (o := .lst ds)
        refine ⟨c1, 3, _, rfl, rfl, upd_same, by decide, by decide, Nat.le_trans (by show ds.length * 3 ≤ 12; omega) (by decide), fun c2 hc2 => ?_⟩
        have fl3 : ∀ x ∈ (List.replicate (3 : Int).toNat ds).flatten, x ∈ ds := fun x hx => by
          obtain ⟨y, hy, hx⟩ := List.mem_flatten.mp hx
          rw [(List.mem_replicate.mp hy).2] at hx
          exact hx
        have ll3 : (List.replicate (3 : Int).toNat ds).flatten.length < 1000 := by
          show (List.replicate 3 ds).flatten.length < 1000
          simp [List.replicate_succ]
          omega
        have g6 := g5.lst hc2 (xs := (List.replicate (3 : Int).toNat ds).flatten) (fun x hx => .inl (by rw [← hU]; simp [fl3 x hx])) ll3
        have f2 := same_new f1 hc2 (o := .lst (List.replicate (3 : Int).toNat ds).flatten)
        refine ⟨by show 2 ≤ sizeLine; decide, fun m3 hm3 => ?_⟩
        have g7 := g6.newM hm3 (o := .lst [.ref D, .ref c2])
        have f3' := same_new f2 hm3 (o := .lst [.ref D, .ref c2])
        have n3 := none_of f2 hm3
        have ms := (g6.st.ne hm3).1
        have mM : m3 ≠ M0 := fun e => by rw [e, f2 _ _ R4.m] at hm3; cases hm3
        have mm : m3 ≠ m1 := fun e => by rw [e, f2 _ _ m13] at hm3; cases hm3
        have R5 := RI.mut (o := .lst ([.ref a0, .ref a1, .ref a2] ++ [.ref m3])) (R4.more f3' n3 g7) (by simp : m1 ∈ [m3, m1, M0, x0, s]) m1M.symm m1s m1H
        refine ⟨m1, _, _, rfl, rfl, f3' _ _ m13, by show 3 < sizeLine; decide, m3, D, c2, _, ⟨R5.g.sub (fun u hu => .inl ?_) (fun _ h => h), R5.e, R5.m, R5.n⟩, upd_same, (upd_ne mm).trans upd_same, ms, mM, mm, R4.nw ms n3, rfl⟩
        simp only [List.mem_cons] at hu ⊢
        rcases hu with rfl | rfl | hu
        · simp
        · simp
        · exact .inr (.inr (.inr hu))
    clear R hm1
    rintro _ H1 ⟨m3, B1, B2, x10, R, hm1, hm3, m3s, m3M, m31, m3H, rfl⟩
    -- one for each field, and the first of them twice
    refine ⟨fun σ H2 => ∃ (B3 : Addr), RI K s c ns H M0 N0 PV (Nm.map V.str) [m3, m1, M0, x0, s] (.ref B3 :: .ref B2 :: .ref B1 :: U) [.ref p7, .ref a2, .ref a1, .ref a0, .ref o] H2 ∧ H2 m1 = some (.lst [.ref a0, .ref a1, .ref a2, .ref m3]) ∧ H2 m3 = some (.lst [.ref B1, .ref B2, .ref B3]) ∧
      σ = [some (.ref s), some (.ref ra), some (.ref l), x3, some (.ref M0), some (.ref N0), some (.int d), some (.ref o), some (.ref m1), some (.ref p7), x10], ?_, ?_⟩
    · refine ⟨_, rfl, m1, _, 3, .ref m3, rfl, rfl, SqL.of hm1, rfl, .inl ⟨rfl, _, SqL.of hm3⟩, ?_⟩
      refine ⟨_, rfl, _, rfl, _, rfl, N0, _, rfl, SqL.of R.nv, fun n1 hn1 => ?_⟩
      have lc1 : (cutV (Nm.map V.str) none (some 1)).length ≤ (Nm.map V.str).length := cut_len ..
      have lN : (Nm.map V.str).length ≤ 3 := by rw [List.length_map]; omega
      have f1 := same_new (Same.refl H1) hn1 (o := .lst (cutV (Nm.map V.str) none (some 1)))
      refine ⟨N0, n1, _, _, rfl, rfl, f1 _ _ R.nv, upd_same, Nat.le_trans (by omega : _ ≤ 6) (by decide), fun n2 hn2 => ?_⟩
      have f2 := same_new f1 hn2 (o := .lst (Nm.map V.str ++ cutV (Nm.map V.str) none (some 1)))
      have g2 := (R.g.new hn1 (o := .lst (cutV (Nm.map V.str) none (some 1)))).new hn2 (o := .lst (Nm.map V.str ++ cutV (Nm.map V.str) none (some 1)))
      have R2 := R.st f2 g2
      have v2 : upd (upd H1 n1 (.lst (cutV (Nm.map V.str) none (some 1)))) n2 (.lst (Nm.map V.str ++ cutV (Nm.map V.str) none (some 1))) n2 = some (.lst (Nm.map V.str ++ cutV (Nm.map V.str) none (some 1))) := upd_same
      have m12 := f2 _ _ hm1
      have m32 := f2 _ _ hm3
      refine ⟨n2, rfl, ⟨_, SqL.of upd_same⟩, fun D hD => ?_⟩
      have hpr : ∀ x ∈ Nm.map V.str ++ cutV (Nm.map V.str) none (some 1), PrimS x := fun x hx => by
        rcases List.mem_append.mp hx with hx | hx
        · exact NpV x hx
        · exact NpV x (cut_mem hx)
      have l6 : (Nm.map V.str ++ cutV (Nm.map V.str) none (some 1)).length ≤ 6 := by rw [List.length_append]; omega
      revert hD m12 m32 R2 v2
      generalize upd (upd H1 n1 (.lst (cutV (Nm.map V.str) none (some 1)))) n2 (.lst (Nm.map V.str ++ cutV (Nm.map V.str) none (some 1))) = H2
      generalize Nm.map V.str ++ cutV (Nm.map V.str) none (some 1) = ws at hpr l6
      intro R2 v2 m12 m32 hD
      have Ds := (R2.g.st.ne hD).1
      have DM : D ≠ M0 := fun e => by rw [e, R2.m] at hD; cases hD
      have Dm1 : D ≠ m1 := fun e => by rw [e, m12] at hD; cases hD
      have Dm3 : D ≠ m3 := fun e => by rw [e, m32] at hD; cases hD
      have Dn : n2 ≠ D := fun e => by rw [← e, v2] at hD; cases hD
      have DH := R2.nw Ds hD
      have R3 := R2.more (same_new (Same.refl H2) hD (o := .lst [])) hD (R2.g.newM hD)
      refine lc_list (K := K) (a := n2) (xs := ws) (fun i H3 => RI K s c ns H M0 N0 PV (Nm.map V.str) [D, m3, m1, M0, x0, s] (.ref B2 :: .ref B1 :: U) [.ref p7, .ref a2, .ref a1, .ref a0, .ref o] H3 ∧ H3 n2 = some (.lst ws) ∧ H3 m1 = some (.lst [.ref a0, .ref a1, .ref a2, .ref m3]) ∧ H3 m3 = some (.lst [.ref B1, .ref B2]) ∧ ∃ xs : List V, H3 D = some (.lst xs) ∧ xs.length = i ∧ ∀ x ∈ xs, Sd K (Ex [D, m3, m1, M0, x0, s] H3) x)
        ⟨R3, (upd_ne Dn).trans v2, (upd_ne Dm1.symm).trans m12, (upd_ne Dm3.symm).trans m32, [], upd_same, rfl, nofun⟩ (fun j H4 _ h => SqL.of h.2.1) ?_ ?_
      · rintro i x H5 hxi ⟨R5, v5, m15, m35, xs, hx, xl, hxs⟩
        have hi := (List.getElem?_eq_some_iff.mp hxi).1
        refine ⟨rfl, ?_⟩
        refine ⟨_, rfl, by show 2 ≤ sizeLine; decide, fun p hp => ?_⟩
        have g6 := R5.g.tup hp (xs := [.str "add", x]) (mem2 (.inr (PrimS.s _)) (.inr (hpr x (List.mem_of_getElem? hxi)))) (by show 2 < 1000; decide)
        have f6 := same_new (Same.refl H5) hp (o := .tup [.str "add", x])
        have R6 := R5.st f6 (g6.sub (us' := .ref B2 :: .ref B1 :: U) (fun u hu => .inl (List.mem_cons_of_mem _ hu)) (fun _ h => h))
        refine ⟨xs, f6 _ _ hx, by rw [xl]; exact Nat.lt_of_lt_of_le hi (Nat.le_trans l6 (by decide)), R6.mut List.mem_cons_self DM.symm Ds DH, (upd_ne Dn).trans (f6 _ _ v5), (upd_ne Dm1.symm).trans (f6 _ _ m15), (upd_ne Dm3.symm).trans (f6 _ _ m35), xs ++ [.ref p], upd_same, by rw [List.length_append, xl]; rfl, fun y hy => ?_⟩
        rw [ex_put List.mem_cons_self]
        rcases List.mem_append.mp hy with hy | hy
        · exact (hxs y hy).keep (ex_mono f6)
        · rw [List.mem_singleton.mp hy]
          exact g6.good _ List.mem_cons_self
      · rintro H3 ⟨R3, v3, m13, m33, xs, hx, xl, hxs⟩
        have nL : D ∉ [m3, m1, M0, x0, s] := R2.g.out hD
        have R4 := R3.less (R3.g.dropS (by simp) nL hx hxs (by omega))
        refine ⟨m3, _, _, rfl, rfl, m33, by show 2 < sizeLine; decide, D, RI.mut R4 List.mem_cons_self m3M.symm m3s m3H, (upd_ne m31.symm).trans m13, upd_same, rfl⟩
    clear R hm1 hm3
    rintro _ H1 ⟨B3, R, hm1, hm3, rfl⟩
    -- same
    refine ⟨fun σ H2 => ∃ (a4 : Addr), RI K s c ns H M0 N0 PV (Nm.map V.str) [m3, m1, M0, x0, s] (.ref B3 :: .ref B2 :: .ref B1 :: U) [.ref a4, .ref p7, .ref a2, .ref a1, .ref a0, .ref o] H2 ∧ H2 m1 = some (.lst [.ref a0, .ref a1, .ref a2, .ref m3, .ref a4]) ∧ H2 m3 = some (.lst [.ref B1, .ref B2, .ref B3]) ∧
      σ = [some (.ref s), some (.ref ra), some (.ref l), x3, some (.ref M0), some (.ref N0), some (.int d), some (.ref o), some (.ref m1), some (.ref p7), x10], ?_, ?_⟩
    · refine ⟨_, rfl, .inl ⟨rfl, _, SqL.of hm1⟩, _, rfl, N0, _, 0, .str z0, rfl, rfl, SqL.of R.nv, at0, by show 1 ≤ sizeLine; decide, fun b1 hb1 => ?_⟩
      have g1 := R.g.lst hb1 (xs := [.str z0]) (mem1 (.inr p0)) (by show 1 < 1000; decide)
      have f1 := same_new (Same.refl H1) hb1 (o := .lst [.str z0])
      refine ⟨_, rfl, _, rfl, N0, _, -1, .str zl, rfl, rfl, SqL.of (f1 _ _ R.nv), atl, _, rfl, _, rfl, N0, _, -1, .str zl, rfl, rfl, SqL.of (f1 _ _ R.nv), atl, by show 2 ≤ sizeLine; decide, fun b2 hb2 => ?_⟩
      have g2 := g1.lst hb2 (xs := [.str zl, .str zl]) (mem2 (.inr pl) (.inr pl)) (by show 2 < 1000; decide)
      have f2 := same_new f1 hb2 (o := .lst [.str zl, .str zl])
      refine ⟨by show 1 ≤ sizeLine; decide, fun b3 hb3 => ⟨_, rfl, by show 1 ≤ sizeLine; decide, fun b4 hb4 => fun d0 hd0 => ⟨by show 1 ≤ sizeLine; decide, fun b5 hb5 => ?_⟩⟩⟩
      have g3 := g2.lst hb3 (xs := [.str "zz"]) (mem1 (.inr (PrimS.s _))) (by show 1 < 1000; decide)
      have f3' := same_new f2 hb3 (o := .lst [.str "zz"])
      have g4 := g3.lst hb4 (xs := [.non]) (mem1 (.inr PrimS.n)) (by show 1 < 1000; decide)
      have f4 := same_new f3' hb4 (o := .lst [.non])
      have g5 := g4.dic hd0
      have f5 := same_new f4 hd0 (o := .dK [])
      have g6 := g5.lst hb5 (xs := [.ref d0]) (mem1 (.inl (by simp))) (by show 1 < 1000; decide)
      have f6 := same_new f5 hb5 (o := .lst [.ref d0])
      refine ⟨_, rfl, _, rfl, _, rfl, N0, _, rfl, SqL.of (f6 _ _ R.nv), fun n1 hn1 => ?_⟩
      have lc1 : (cutV (Nm.map V.str) none (some 1)).length ≤ (Nm.map V.str).length := cut_len ..
      have lN : (Nm.map V.str).length ≤ 3 := by rw [List.length_map]; omega
      have g7 := g6.new hn1 (o := .lst (cutV (Nm.map V.str) none (some 1)))
      have f7 := same_new f6 hn1 (o := .lst (cutV (Nm.map V.str) none (some 1)))
      refine ⟨N0, n1, _, _, rfl, rfl, f7 _ _ R.nv, upd_same, Nat.le_trans (by omega : _ ≤ 6) (by decide), fun n2 hn2 => ?_⟩
      have g8 := g7.lst hn2 (xs := Nm.map V.str ++ cutV (Nm.map V.str) none (some 1)) (fun x hx => .inr (by
        rcases List.mem_append.mp hx with hx | hx
        · exact NpV x hx
        · exact NpV x (cut_mem hx))) (by rw [List.length_append]; omega)
      have f8 := same_new f7 hn2 (o := .lst (Nm.map V.str ++ cutV (Nm.map V.str) none (some 1)))
      refine ⟨by show 7 ≤ sizeLine; decide, fun a4 ha4 => ?_⟩
      have g9 := g8.lstL ha4 (xs := [.ref b1, .ref b2, .ref b3, .ref N0, .ref b4, .ref b5, .ref n2]) (mem_c (.inl (by simp)) (mem_c (.inl (by simp)) (mem_c (.inl (by simp)) (mem_c (.inl (by rw [← hU]; simp)) (mem_c (.inl (by simp)) (mem2 (.inl (by simp)) (.inl (by simp)))))))) (by show 7 < 1000; decide) (by show 0 < 7; decide)
      have f9 := same_new f8 ha4 (o := .lst [.ref b1, .ref b2, .ref b3, .ref N0, .ref b4, .ref b5, .ref n2])
      have R2 := R.st f9 (g9.sub (us' := .ref B3 :: .ref B2 :: .ref B1 :: U) (fun u hu => .inl (by simp only [List.mem_cons] at hu ⊢; simp [hu])) (fun _ h => h))
      refine ⟨m1, _, _, rfl, rfl, f9 _ _ hm1, by show 4 < sizeLine; decide, a4, RI.mut R2 (by simp) m1M.symm m1s m1H, upd_same, (upd_ne m31).trans (f9 _ _ hm3), rfl⟩
    clear R hm1 hm3
    rintro _ H1 ⟨a4, R, hm1, hm3, rfl⟩
    -- the part
    refine ⟨fun σ H2 => ∃ PV' : List V, SameX s H H2 ∧ StA H2 s c ns ∧ H2 M0 = some (.lst PV') ∧ PV'.length = 5 ∧ (∀ x ∈ PV', Sd K (Off x0 (Off s H2)) x) ∧
      σ = [some (.ref s), some (.ref ra), some (.ref l), x3, some (.ref M0), some (.ref N0), some (.int d), some (.ref o), some (.ref m1), some (.ref p7), x10], ?_, ?_⟩
    · refine ⟨_, rfl, fun v H2 => ∃ (a : Addr) (xs : List V), v = .ref a ∧ a ≠ s ∧ H2 a = some (.lst xs) ∧ 0 < xs.length ∧ xs.length < 1000 ∧ (∀ x ∈ xs, Sd K (Ex [m3, m1, M0, x0, s] H2) x) ∧ RI K s c ns H M0 N0 PV (Nm.map V.str) [m3, m1, M0, x0, s] (.ref B3 :: .ref B2 :: .ref B1 :: U) [.ref a4, .ref p7, .ref a2, .ref a1, .ref a0, .ref o] H2, ?_, ?_⟩
      · have fromL : ∀ {H2 : Hp} {v : V}, RI K s c ns H M0 N0 PV (Nm.map V.str) [m3, m1, M0, x0, s] (.ref B3 :: .ref B2 :: .ref B1 :: U) [.ref a4, .ref p7, .ref a2, .ref a1, .ref a0, .ref o] H2 → v ∈ ([.ref a4, .ref p7, .ref a2, .ref a1, .ref a0, .ref o] : List V) → ∃ (a : Addr) (xs : List V), v = .ref a ∧ a ≠ s ∧ H2 a = some (.lst xs) ∧ 0 < xs.length ∧ xs.length < 1000 ∧ (∀ x ∈ xs, Sd K (Ex [m3, m1, M0, x0, s] H2) x) ∧ RI K s c ns H M0 N0 PV (Nm.map V.str) [m3, m1, M0, x0, s] (.ref B3 :: .ref B2 :: .ref B1 :: U) [.ref a4, .ref p7, .ref a2, .ref a1, .ref a0, .ref o] H2 := fun R hv => by
          obtain ⟨a, xs, rfl, ha, pos, len, all⟩ := R.g.lists _ hv
          exact ⟨a, xs, rfl, (fun e => by rw [e, ex_in (by simp)] at ha; cases ha), ex_same _ _ ha, pos, len, all, R⟩
        refine ⟨_, rfl, s, c, ns, 4, rfl, R.g.st, hl, by decide, by decide, fun d3 H2 _ e2 h2 => ⟨_, _, rfl, rfl, _, rfl, ite2 (fun _ => ?_) (fun _ => ?_)⟩⟩
        · have R2 := R.draw M0s e2 h2
          have m12 := e2 _ _ hm1 m1s
          have m32 := e2 _ _ hm3 m3s
          obtain ⟨v, hv, hv2⟩ : ∃ v, ([.ref a0, .ref a1, .ref a2, .ref m3, .ref a4] : List V)[d]? = some v ∧ (v ∈ ([.ref a4, .ref p7, .ref a2, .ref a1, .ref a0, .ref o] : List V) ∨ v = .ref m3) := by
            match d, d5 with
            | 0, _ => exact ⟨_, rfl, .inl (by simp)⟩
            | 1, _ => exact ⟨_, rfl, .inl (by simp)⟩
            | 2, _ => exact ⟨_, rfl, .inl (by simp)⟩
            | 3, _ => exact ⟨_, rfl, .inr rfl⟩
            | 4, _ => exact ⟨_, rfl, .inl (by simp)⟩
          refine ⟨_, rfl, _, rfl, m1, _, _, v, rfl, rfl, SqL.of m12, atI_nat hv, ?_⟩
          rcases hv2 with hv2 | rfl
          · exact fromL R2 hv2
          · exact ⟨m3, _, rfl, m3s, m32, by show 0 < 3; decide, by show 3 < 1000; decide, fun x hx => R2.g.good x (by simp only [List.mem_cons, List.not_mem_nil, or_false] at hx ⊢; rcases hx with rfl | rfl | rfl <;> simp), R2⟩
        · exact ⟨_, rfl, fromL (R.draw M0s e2 h2) (by simp)⟩
      rintro _ H2 ⟨a, xs, rfl, as, ha, pos, len, all, R2⟩
      refine ⟨s, c, a, ns, xs, rfl, R2.g.st, hl, as, .inl (SqL.of ha), pos, by omega, fun dd x H3 hdd e3 h3 => ?_⟩
      have R3 := R2.draw M0s e3 h3
      have pl5 : PV.length = 5 := by rw [← hPV]; rfl
      have hix : ixN PV.length (d : Int) = some d := by
        unfold ixN
        rw [if_pos (by omega), if_pos (by omega)]
        rfl
      refine ⟨_, rfl, _, rfl, M0, PV, _, d, rfl, rfl, R3.m, hix, PV.set d x, R3.e.putN hM0, h3.put M0s (h0.ne hM0).2, upd_same, by rw [List.length_set]; exact pl5, fun y hy => ?_, rfl⟩
      have eO : Same (Ex [m3, m1, M0, x0, s] H3) (Off x0 (Off s (upd H3 M0 (.lst (PV.set d x))))) := by
        rw [← ex_put (m := M0) (o := .lst (PV.set d x)) (by simp : M0 ∈ [m3, m1, M0, x0, s])]
        exact ex_off2 (by simp) (by simp)
      rcases List.mem_or_eq_of_mem_set hy with hy | rfl
      · rw [← hPV] at hy
        simp only [List.mem_cons, List.not_mem_nil, or_false] at hy
        rcases hy with rfl | rfl | rfl | rfl | rfl
        · exact r8.sd
        · exact r9.sd
        · exact (R3.g.good _ (by rw [← hU]; simp)).keep eO
        · exact (R3.g.good _ (by rw [← hU]; simp)).keep eO
        · exact (R3.g.good _ (by rw [← hU]; simp)).keep eO
      · exact ((all _ (List.mem_of_getElem? hdd)).keep (ex_sx (by simp) e3)).keep eO
    clear R hm1 hm3
    rintro _ H1 ⟨PV', e1, h1, hM, l5, all, rfl⟩
    -- what is handed
    refine ⟨fun v H2 => SameX s H H2 ∧ StA H2 s c ns ∧ Sd K (Off x0 (Off s H2)) v, ?_, fun v H2 h => k v H2 h.1 h.2.1 h.2.2⟩
    refine ⟨_, rfl, s, c, ns, 9, rfl, h1, hl, by decide, by decide, fun d3 H2 _ e2 h2 => ⟨_, _, rfl, rfl, _, rfl, ?_⟩⟩
    have M2 := e2 _ _ hM M0s
    have tup : ∀ {H3 : Hp} {p : Addr} {xs : List V}, Same H2 H3 → H3 p = none → (∀ x ∈ xs, x ∈ PV') → xs.length < 1000 → SameX s H (upd H3 p (.tup xs)) ∧ StA (upd H3 p (.tup xs)) s c ns ∧ Sd K (Off x0 (Off s (upd H3 p (.tup xs)))) (.ref p) := fun {H3 p xs} e hp hx hl => by
      have f := same_new e hp (o := .tup xs)
      have ps := ((h2.keep e).ne hp).1
      have px : p ≠ x0 := fun z => by
        cases q : H x0 with
        | none => exact hx0 q
        | some o => rw [z, e _ _ ((e1.trans e2) _ _ q x0s)] at hp; cases hp
      exact ⟨(e1.trans e2).trans (same_sx f), h2.keep f, sd_tup (SqT.of ((off_ne px).trans ((off_ne ps).trans upd_same))) hl fun x hx' => ((all x (hx x hx')).keep (same_off e2.off)).keep (same_off (same_off f))⟩
    refine ite2 (fun _ => ?_) (fun _ => ?_)
    · refine ⟨_, rfl, M0, _, rfl, .inl ⟨SqL.of M2, fun p hp => ?_⟩⟩
      exact tup (Same.refl H2) hp (fun x h => h) (by omega)
    · refine ⟨_, rfl, M0, _, rfl, .inl ⟨SqL.of M2, fun p hp => ?_⟩⟩
      refine ⟨_, rfl, p, _, rfl, SqT.of upd_same, fun z => ?_, fun q hq => tup (same_new (Same.refl H2) hp) hq (fun x h => cut_mem h) (Nat.lt_of_le_of_lt (cut_len ..) (by omega))⟩
      have e : HT.sIx PV'.length PV'.length (some (4 : Int)) = min 4 PV'.length := HT.sIx_nat _ _ 4
      have := z.2
      rw [e] at this
      omega
end
end MK
set_option Elab.async false
set_option linter.all false
set_option autoImplicit false
set_option maxRecDepth 100000
set_option maxHeartbeats 4000000
namespace MK
open PySem PySem.Spec PyProof.Rows L2
local macro_rules | `(tactic| walk_at "x") => `(tactic| dsimp only [tSeq, tAsg, tRet, tDrop, tLst, tTup, tCons, tOp, tUn, tIfS])
/-! ### the law -/
abbrev s_Kind_len : Stmt := inClass (topS 50) 2
theorem sc_Kind_len : FnScope ["self"] ["self"] (defScope s_Kind_len) := ⟨rfl, rfl, rfl, by decide +kernel, rfl, by decide +kernel, by decide +kernel⟩
abbrev s_law : Stmt := topS 73
theorem sc_law : FnScope ["_law_script", "_law_state", "_law_turn", "_law_p", "_law_fields", "_law_calls", "_law_far", "_law_way", "_law_at", "_law_odd", "_law_found", "_law_due"] ["_law_script"] (defScope s_law) := ⟨rfl, rfl, rfl, by decide +kernel, rfl, by decide +kernel, by decide +kernel⟩
def spKLen (K : PySem.W.Frag) (KC : Addr) : Sp := fun vs H Q _ => ∃ (v : V) (fs : List FD) (n : Nat) (cs : List CD), vs = [v] ∧ KdA K KC H v fs n cs ∧ Q (.int cs.length) H
theorem PlanA.nt {K : PySem.W.Frag} {KC : Addr} {H : Hp} {v : V} {fs : List FD} {n : Nat} {cs : List CD} (h : PlanA K KC H v fs n cs) : PlanA K KC (Nt H) v fs n cs := by
  obtain ⟨p, l1, l2, kv, fvs, cvs, h0, h1, h2, h3, h4, h5, h6⟩ := h
  exact ⟨p, l1, l2, kv, fvs, cvs, h0, nt_of h1 nofun, nt_of h2 nofun, h3.mono fun _ _ h => Tu.nt h, nt_of h4 nofun, h5.mono fun _ _ h => CdL.nt h, h6.nt⟩
theorem Sh.nt {K : PySem.W.Frag} {H : Hp} {v : V} {d : Dt} (h : Sh K H v d) : Sh K (Nt H) v d := by
  induction h with
  | non => exact .non
  | bl b => exact .bl b
  | int i => exact .int i
  | str z h => exact .str z h
  | lst ha l1 l2 _ ih => exact .lst (nt_of ha nofun) l1 l2 ih
  | tup ha l1 l2 _ ih => exact .tup (sqt_nt ha) l1 l2 ih
  | dic ha => exact .dic (nt_of ha nofun)
theorem Sd.nt {K : PySem.W.Frag} {H : Hp} {v : V} (h : Sd K H v) : Sd K (Nt H) v := by
  obtain ⟨d, h⟩ := h
  exact ⟨d, h.nt⟩
def lamQ : Str := (envOfC "law" (defScope s_law) 0 0 .none).qual ++ "<lambda>"
/-- the state of the draws, and the law's table of codes -/
def StP (H : Hp) (s c P : Addr) (ns : List Int) : Prop := StA H s c ns ∧ LamX.TabS H P lamQ
theorem StP.sx {H H' : Hp} {s c P : Addr} {ns : List Int} (h : StP H s c P ns) (e : SameX s H H') (h' : StA H' s c ns) : StP H' s c P ns := by
  obtain ⟨h1, h2⟩ := h
  obtain ⟨_, _, a, b, m, hs⟩ := h1
  exact ⟨h', tab_sx e hs h2⟩
theorem StP.keep {H H' : Hp} {s c P : Addr} {ns : List Int} (h : StP H s c P ns) (e : Same H H') : StP H' s c P ns := ⟨h.1.keep e, h.2.ext e⟩
theorem StP.ext {H H' : Hp} {s c P : Addr} {ns : List Int} (h : StP H s c P ns) (e : LamX.ExtN H H') (t : LamX.Tabs [(P, lamQ)] H') : StP H' s c P ns := by
  obtain ⟨⟨n, h1, a, b, m, h2⟩, _⟩ := h
  exact ⟨⟨n, e _ _ h1 nofun, a, b, m, e _ _ h2 nofun⟩, t _ List.mem_cons_self⟩
theorem StP.ns {H : Hp} {s c P : Addr} {ns : List Int} (h : StP H s c P ns) : H s ≠ none := by
  obtain ⟨_, _, a, b, m, hs⟩ := h.1
  rw [hs]
  exact nofun
theorem StP.tabs {H : Hp} {s c P : Addr} {ns : List Int} (h : StP H s c P ns) : LamX.Tabs [(P, lamQ)] H := fun q hq => by
  rw [List.mem_singleton.mp hq]
  exact h.2
theorem nx_all {s : Addr} {H : Hp} : Same (Nx s H) H := nx_same.trans off_same
theorem sx_nx {s : Addr} {H H' : Hp} (e : Same H H') : Same (Nx s H) (Nx s H') := (same_sx e).nx
theorem nx_at {s p : Addr} {H : Hp} {o : HO} (h : H p = some o) (ps : p ≠ s) (n : ∀ ps, o ≠ .tbl ps) : Nx s H p = some o := nt_of ((off_ne ps).trans h) n
theorem nx_none {s p : Addr} {H : Hp} (h : H p = none) : Nx s H p = none := by
  cases q : Nx s H p with
  | none => rfl
  | some o => rw [nx_all _ _ q] at h; cases h
/-- a list that is changed keeps its table apart -/
theorem StP.put {H : Hp} {s c P a : Addr} {ns : List Int} {xs ys : List V} (h : StP H s c P ns) (h1 : a ≠ s) (h2 : a ≠ c) (ha : H a = some (.lst xs)) : StP (upd H a (.lst ys)) s c P ns := by
  refine ⟨h.1.put h1 h2, ?_⟩
  have e : SameX a H (upd H a (.lst ys)) := fun b o hb n => by rw [upd_ne n]; exact hb
  exact tab_sx e ha h.2
/-! what the law hands Kind -/
def FA (K : PySem.W.Frag) (H : Hp) (v : V) : Prop := ∃ d, Sh K H v d ∧ FlatSorts d
def MA (H : Hp) (v : V) : Prop := PrimS v ∨ ∃ b, v = .ref b ∧ H b = some (.lst [.int 1])
structure Gen (K : PySem.W.Frag) (H : Hp) (fv cv mv : V) : Prop where
  f : FA K H fv
  c : Sd K H cv
  m : MA H mv
theorem FA.keep {K : PySem.W.Frag} {H H' : Hp} {v : V} (e : Same H H') (h : FA K H v) : FA K H' v := by
  obtain ⟨d, h, f⟩ := h
  exact ⟨d, h.keep e, f⟩
theorem MA.keep {H H' : Hp} {v : V} (e : Same H H') (h : MA H v) : MA H' v := h.imp id fun ⟨b, r, h⟩ => ⟨b, r, e _ _ h⟩
theorem Gen.keep {K : PySem.W.Frag} {H H' : Hp} {fv cv mv : V} (e : Same H H') (h : Gen K H fv cv mv) : Gen K H' fv cv mv := ⟨h.f.keep e, h.c.keep e, h.m.keep e⟩
theorem fa_lst {K : PySem.W.Frag} {H : Hp} {a : Addr} {us : List V} (ha : H a = some (.lst us)) (l : us.length < 1000) (h : ∀ u ∈ us, SdF K H u) : FA K H (.ref a) := by
  have : ∀ {us : List V}, (∀ u ∈ us, SdF K H u) → ∃ ds, Al (Sh K H) us ds ∧ ∀ d ∈ ds, FlatSort d := fun {us} h => by
    induction us with
    | nil => exact ⟨[], Al.nil, nofun⟩
    | cons u us ih =>
      obtain ⟨d, hd, hf⟩ := h u List.mem_cons_self
      obtain ⟨ds, hs, hfs⟩ := ih fun w hw => h w (List.mem_cons_of_mem _ hw)
      refine ⟨d :: ds, ⟨by simp [hs.1], fun i x y h1 h2 => ?_⟩, fun x hx => (List.mem_cons.mp hx).elim (fun e => e ▸ hf) (hfs x)⟩
      cases i with
      | zero => cases h1; cases h2; exact hd
      | succ i => exact hs.2 i x y h1 h2
  obtain ⟨ds, hs, hf⟩ := this h
  exact ⟨.lst ds, .lst ha l hs.1 hs.2, fun xs e => by cases e; exact hf⟩
theorem fa_prim {K : PySem.W.Frag} {H : Hp} {v : V} (h : PrimS v) : FA K H v := by
  obtain ⟨d, hf, h⟩ := h.sh (K := K)
  exact ⟨d, h H, fun xs e => by cases d <;> first | (cases e; done) | exact Bool.noConfusion hf⟩
theorem fa_dic {K : PySem.W.Frag} {H : Hp} {a : Addr} (ha : H a = some (.dK [])) : FA K H (.ref a) := ⟨.dic, .dic ha, fun xs e => by cases e⟩
theorem fd_sdf {K : PySem.W.Frag} {H : Hp} {v : V} {f : FD} (h : FdT K H v f) (hw : wordB f.nm = true) : SdF K H v := by
  obtain ⟨w, rfl, hT⟩ := h
  refine SdF.t hT (by show 3 < 1000; decide) (by
    intro u hu; unfold FdV at hu; simp only [List.mem_cons, List.not_mem_nil, or_false] at hu; rcases hu with rfl | rfl | rfl
    · exact .inl (PrimS.s _ (word_len hw))
    · exact .inl (by cases f.many <;> exact PrimS.s _)
    · exact .inl (PrimS.b _))
theorem cd_parts {K : PySem.W.Frag} {H : Hp} {v : V} {cd : CD} {fs : List FD} {n : Nat} (h : CdL K H v cd) (ok : CdOk fs n cd) (fok : FsOk fs) (n4 : n ≤ 4) : ∃ (a : Addr) (us : List V), v = .ref a ∧ SqT K H a us ∧ us.length = 5 ∧ ∀ u ∈ us, Sd K H u := by
  obtain ⟨a, m, dv, s, ds, rfl, h1, h2, _, _, _, h6, h7, h8, h9⟩ := row_sd h ok fok n4
  exact ⟨a, _, rfl, h1, rfl, mem_c h8.sd (mem_c h9.sd (mem_c h2 (mem2 h6 h7)))⟩
theorem cd_sd {K : PySem.W.Frag} {H : Hp} {v : V} {cd : CD} {fs : List FD} {n : Nat} (h : CdL K H v cd) (ok : CdOk fs n cd) (fok : FsOk fs) (n4 : n ≤ 4) : Sd K H v := by
  obtain ⟨a, us, rfl, h1, l, h2⟩ := cd_parts h ok fok n4
  exact sd_tup h1 (by omega) h2
/-- what was tried: as is due, or a kind -/
def FoundV (K : PySem.W.Frag) (KC s : Addr) (H : Hp) (p : Addr) (mv : V) : Due → Prop
  | .fld i => H p = some (.tup [.str "field", .int (i : Nat)])
  | .mod => H p = some (.tup [.str "modes", mv])
  | .cal i r => ∃ q, H p = some (.tup [.str "call", .ref q]) ∧ H q = some (.tup [.int (i : Nat), .str r])
  | .told fs n cs => ∃ kv, H p = some (.tup [.str "told", kv]) ∧ KdA K KC (Off s H) kv fs n cs
theorem FoundV.keep {K : PySem.W.Frag} {KC s : Addr} {H H' : Hp} {p : Addr} {mv : V} (e : Same H H') : ∀ {r : Due}, FoundV K KC s H p mv r → FoundV K KC s H' p mv r
  | .fld i, h => e _ _ h
  | .mod, h => e _ _ h
  | .cal i r, ⟨q, h1, h2⟩ => ⟨q, e _ _ h1, e _ _ h2⟩
  | .told fs n cs, ⟨kv, h1, h2⟩ => ⟨kv, e _ _ h1, h2.keep (same_off e)⟩
theorem sm_prim {K : PySem.W.Frag} {H : Hp} {n : Nat} {x : V} (h : PrimS x) : Sm K H n x x := by
  have f : Flat H x x := .inl ⟨rfl, h.imp id fun h => h.imp id fun h => h.imp id fun ⟨z, e, _⟩ => ⟨z, e⟩⟩
  cases n with
  | zero => exact f
  | succ n => exact .inl f
theorem sm_tup2 {K : PySem.W.Frag} {H : Hp} {n : Nat} {p q : Addr} {x y x' y' : V} (hp : H p = some (.tup [x, y])) (hq : H q = some (.tup [x', y'])) (h1 : Sm K H n x x') (h2 : Sm K H n y y') : Sm K H (n + 1) (.ref p) (.ref q) := by
  refine .inr ⟨p, q, _, _, rfl, rfl, .inr ⟨SqT.of hp, SqT.of hq⟩, rfl, by show 2 < 100000; decide, fun i u v g1 g2 => ?_⟩
  match i with
  | 0 => cases g1; cases g2; exact h1
  | 1 => cases g1; cases g2; exact h2
  | i + 2 => cases g1
theorem MA.sm {K : PySem.W.Frag} {H : Hp} {v : V} (h : MA H v) : Sm K H 1 v v := by
  rcases h with h | ⟨b, rfl, h⟩
  · exact sm_prim h
  · refine .inr ⟨b, b, _, _, rfl, rfl, .inl ⟨SqL.of h, SqL.of h⟩, rfl, by show 1 < 100000; decide, fun i u w h1 h2 => ?_⟩
    rw [h1] at h2
    cases h2
    have m := List.mem_of_getElem? h1
    rw [List.mem_singleton.mp m]
    exact sm_prim (n := 0) (PrimS.i 1)
section
variable {P : Program} {w : World} {K : PySem.W.Frag} {mg : Str → Option Value} {base : Heap} {KC fl g fe cl Pl : Addr} {fdl fdt fde : FuncData} {A : EB}
theorem ok_klen {f : Addr} {fd : FuncData} (F : Fun K "__len__" "Kind.__len__" s_Kind_len f fd) (T : Txt K mg) (Z : KCls K KC) : FnOk P w K mg base CX0 1 f fd ["self"] (spKLen K KC) := by
  refine F.ok sc_Kind_len (fun vs H Q E h => ?_) (fun cdv A outer sh H vs Q E hr h => ?_)
  · obtain ⟨v, fs, n, cs, rfl, _⟩ := h
    rfl
  · obtain ⟨v, fs, n, cs, rfl, ⟨a, dx, so, sp, tb, t, st, tv, sv, rfl, h1, h2, h3, h4, h5, h6, h7, h8⟩, k⟩ := h
    refine ⟨_, (pss_one (ps_ret (pe_callB call_lenD (by rfl) T.len (by decide +kernel) (pa_cons (pe_fld (pv 0) rfl) pa_nil)))), ?_⟩
    refine ⟨_, rfl, a, KC, dx, _, .ref tb, rfl, h1, Z.cls, Z.table, rfl, tb, _, rfl, h8, ?_⟩
    rw [table_len h7.1]
    exact k
theorem run_law {f : Addr} (T : Txt K mg) (Z : KCls K KC) (W : ErrM K mg A) (c_fresh : Cal P w K mg base CX0 1 "_law_fresh" (spFresh K)) (c_kind : Cal P w K mg base CX0 9 "_law_kind" (spLawKind K KC)) (c_take : Cal P w K mg base CX0 2 "_law_take" spTake) (c_one : Cal P w K mg base CX0 3 "_law_one" (spOne K))
    (c_bent_call : Cal P w K mg base CX0 4 "_law_bent_call" (spBentC K)) (c_bent_field : Cal P w K mg base CX0 4 "_law_bent_field" (spBentF K)) (c_kind_due : Cal P w K mg base CX0 4 "_law_kind_due" (spDue K)) (c_same : Cal P w K mg base CX0 3 "_law_same" (spSame K 2)) (c_KindX : KMkX P w K mg base KC A.e3)
    (H_len : FnOk P w K mg base CX0 1 fl fdl ["self"] (spKLen K KC) ∧ PySem.W.findIn K (.ref KC) "__len__" = some (some (.ref fl)) ∧ PySem.W.isFn K (.ref fl) = true ∧ Binds K fdl ["self"] [])
    (F_tried : DefX K mg "_law_tried" s_tried ["_law_deed"] g fdt) (F_err : FnP P w K mg base 1 fe fde ["_law_e"] (spErr3 A)) (H_err : mg "_law_error" = some (.ref fe) ∧ PySem.W.keepIn K (.ref fe) = true ∧ Binds K fde ["_law_e"] []) (TB : LamX.TabB base mg cl Pl)
    {Ar : Around} {outer : List Env} {sh : Shared} {H : Hp} {Q : VK} {E : XK} (hr : Room 11 (Ar.deeper (envOfC "law" (defScope s_law) sh.heap.objs.size f (.ref cl)))) {a : Addr} {ns : List Int} (hS : SqL K H a (ns.map V.int)) (hn : ns.length ≤ 63) (hP : H Pl = some (.tbl #[])) (k : ∀ H', Q (.bl true) H') :
    ∃ t, PSs (cxOf CX0 P w K mg base ["_law_script", "_law_state", "_law_turn", "_law_p", "_law_fields", "_law_calls", "_law_far", "_law_way", "_law_at", "_law_odd", "_law_found", "_law_due"] "law" (defScope s_law) f (.ref cl) Ar outer sh H E).nox (defBody s_law) t ∧ t { nx := fun _ H' => Q .non H', rt := Q } (start ["_law_script", "_law_state", "_law_turn", "_law_p", "_law_fields", "_law_calls", "_law_far", "_law_way", "_law_at", "_law_odd", "_law_found", "_law_due"] [.ref a]) H := by
  refine ⟨_, (pss_cons (ps_set (i := 1) sc_law.nd rfl (Or.inl rfl) (pe_c c_fresh hr (by first | decide | assumption) rfl (pa_cons (pv 0) pa_nil)))
(pss_cons (ps_for PassesOwn.never rfl (pi_range1 (by rfl) T.range (pa_cons pe_int pa_nil)) (pg_name (i := 2) sc_law.nd rfl (Or.inl rfl))
(pss_cons (ps_set (i := 3) sc_law.nd rfl (Or.inl rfl) (pe_c c_kind hr (by first | decide | assumption) rfl (pa_cons (pv 1) (pa_cons pe_int (pa_cons pe_int (pa_cons pe_int pa_nil))))))
(pss_cut (ps_asg (pe_tup (pa_cons (pe_callTy call_list_of (by rfl) T.list (by decide +kernel) (pa_cons (pe_dget (hu_of hr) (pv 3) pe_str (fun _ _ => rfl)) pa_nil)) (pa_cons (pe_callTy call_list_of (by rfl) T.list (by decide +kernel) (pa_cons (pe_dget (hu_of hr) (pv 3) pe_str (fun _ _ => rfl)) pa_nil)) (pa_cons (pe_dget (hu_of hr) (pv 3) pe_str (fun _ _ => rfl)) pa_nil)))) (pg_tup (by rfl) (pgs_cons (pg_name (i := 4) sc_law.nd rfl (Or.inr rfl)) (pgs_cons (pg_name (i := 5) sc_law.nd rfl (Or.inr rfl)) (pgs_cons (pg_name (i := 6) sc_law.nd rfl (Or.inr rfl)) pgs_nil)))))
(pss_cut (ps_par (i := 7) (j := 8) (by rfl) sc_law.nd rfl rfl (by decide) rfl rfl (pa_cons (pe_c c_take hr (by first | decide | assumption) rfl (pa_cons (pv 1) (pa_cons pe_int pa_nil))) (pa_cons (pe_c c_take hr (by first | decide | assumption) rfl (pa_cons (pv 1) (pa_cons (pe_callB call_len_seq (by rfl) T.len (by decide +kernel) (pa_cons (pv 5) pa_nil)) pa_nil))) pa_nil)) (by rfl))
(pss_cut (ps_if (pt_cmpR op_lt (pv 7) pe_int (nomark _))
(pss_one (ps_asg (pe_c c_bent_call hr (by first | decide | assumption) rfl (pa_cons (pv 1) (pa_cons (pe_ix ix_list (pv 5) (pv 8) (fun _ _ => rfl)) (pa_cons (pv 4) pa_nil)))) (pg_sub (pv 5) (pv 8) set_list)))
pss_nil)
(pss_cut (ps_if (pt_cmpR op_eq (pv 7) pe_int (nomark _))
(pss_one (ps_set (i := 4) sc_law.nd rfl (Or.inr rfl) (pe_c c_bent_field hr (by first | decide | assumption) rfl (pa_cons (pv 1) (pa_cons (pv 4) pa_nil)))))
pss_nil)
(pss_cut (ps_if (pt_cmpR op_eq (pv 7) pe_int (nomark _))
(pss_one (ps_set (i := 6) sc_law.nd rfl (Or.inr rfl) (pe_c c_one hr (by first | decide | assumption) rfl (pa_cons (pv 1) (pa_cons (pe_lst (pa_cons pe_int (pa_cons pe_int (pa_cons pe_int (pa_cons (pe_un un_neg pe_int) (pa_cons pe_bl (pa_cons pe_non (pa_cons pe_str (pa_cons pe_int (pa_cons pe_int (pa_cons pe_int (pa_cons (pe_lst (pa_cons pe_int pa_nil)) pa_nil)))))))))))) pa_nil)))))
pss_nil)
(pss_cut (ps_if (pt_cmpR op_eq (pv 7) pe_int (nomark _))
(pss_cut (ps_set (i := 9) sc_law.nd rfl (Or.inl rfl) (pe_lst (pa_cons pe_non (pa_cons pe_int (pa_cons pe_str (pa_cons (pe_tup pa_nil) (pa_cons (pe_ix ix_list (pv 5) (pv 8) (fun _ _ => rfl)) (pa_cons (pe_op op_catT (pe_ix ix_list (pv 5) (pv 8) (fun _ _ => rfl)) (pe_tup (pa_cons pe_int pa_nil))) (pa_cons (pe_lst pa_nil) (pa_cons (pe_op op_cat (pv 5) (pv 5)) (pa_cons pe_dnewK pa_nil)))))))))))
(pss_cut (ps_set (i := 5) sc_law.nd rfl (Or.inr rfl) (pe_op op_cat (pv 5) (pe_lst (pa_cons (pe_c c_one hr (by first | decide | assumption) rfl (pa_cons (pv 1) (pa_cons (pv 9) pa_nil))) pa_nil))))
(pss_one (ps_set (i := 5) sc_law.nd rfl (Or.inr rfl) (pe_cut (pe_ifExp (pt_cmpR op_eq (pe_c c_take hr (by first | decide | assumption) rfl (pa_cons (pv 1) (pa_cons pe_int pa_nil))) pe_int (nomark _)) (pv 5) (pe_c c_one hr (by first | decide | assumption) rfl (pa_cons (pv 1) (pa_cons (pe_lst (pa_cons pe_non (pa_cons (pe_lst pa_nil) (pa_cons pe_str (pa_cons pe_dnewK (pa_cons pe_int pa_nil)))))) pa_nil)))))))))
pss_nil)
(pss_cut (ps_if (pt_cmpR op_eq (pe_c c_take hr (by first | decide | assumption) rfl (pa_cons (pv 1) (pa_cons pe_int pa_nil))) pe_int (nomark _))
(pss_one (ps_set (i := 4) sc_law.nd rfl (Or.inr rfl) (pe_c c_one hr (by first | decide | assumption) rfl (pa_cons (pv 1) (pa_cons (pe_lst (pa_cons pe_non (pa_cons (pe_lst pa_nil) (pa_cons pe_str (pa_cons pe_dnewK (pa_cons pe_int (pa_cons (pv 4) pa_nil))))))) pa_nil)))))
pss_nil)
(pss_cut (ps_set (i := 10) sc_law.nd rfl (Or.inl rfl) (pe_tried3 (k := 7) F_tried F_err W H_err TB rfl (hr.mono (by decide)) (show LamX.LamS (defScope s_law) _ from LamX.lamS_by (by decide +kernel)) rfl (fun _ _ _ _ _ => rfl) (fun A2 outer2 s2 H2 E2 f2 c2 hr2 => pe_cut <| pe_kindXK (K := K) rfl (passes_call (takes_of rfl rfl rfl rfl) (fun _ _ _ _ h => h)) c_KindX hr2 (by decide) (by rfl) (pa_cons (pv 4) (pa_cons (pv 5) pa_nil)) (pk_cons (pv 6) pk_nil))))
(pss_cut (ps_set (i := 11) sc_law.nd rfl (Or.inl rfl) (pe_c c_kind_due hr (by first | decide | assumption) rfl (pa_cons (pv 4) (pa_cons (pv 5) (pa_cons (pv 6) pa_nil)))))
(pss_cons (ps_if (pt_cut (PW.pt (pw_or (pt_cmpR op_ne (pe_ix ix_tup (pv 10) pe_int (fun _ _ => rfl)) (pe_ix ix_tup (pv 11) pe_int (fun _ _ => rfl)) (nomark _)) (pw_or1 (pt_cut (PW.pt (pw_and (pt_cmpR op_ne (pe_ix ix_tup (pv 11) pe_int (fun _ _ => rfl)) pe_str (nomark _)) (pw_and1 (pt_not (pt_val (pe_c c_same hr (by first | decide | assumption) rfl (pa_cons (pv 10) (pa_cons (pv 11) pa_nil)))))))))))))
(pss_one (ps_ret pe_bl))
pss_nil)
(pss_one (ps_if (pt_cut (PW.pt (pw_and (pt_cmpR op_eq (pe_ix ix_tup (pv 11) pe_int (fun _ _ => rfl)) pe_str (nomark _)) (pw_and1 (pt_cut (PW.pt (pw_or (pt_cmpR op_ne (pe_fld (pe_ix ix_tup (pv 10) pe_int (fun _ _ => rfl)) rfl) (pv 6) (nomark _)) (pw_or1 (pt_cmpR op_ne (pe_callB (call_lenOwn H_len.1 H_len.2.1 H_len.2.2.1 H_len.2.2.2 (hr.mono (by decide))) (by rfl) T.len (by decide +kernel) (pa_cons (pe_ix ix_tup (pv 10) pe_int (fun _ _ => rfl)) pa_nil)) (pe_callB call_len_seq (by rfl) T.len (by decide +kernel) (pa_cons (pv 5) pa_nil)) (nomark _))))))))))
(pss_one (ps_ret pe_bl))
pss_nil))))))))))))))
(pss_one (ps_ret pe_bl)))), ?_⟩
  refine ⟨_, rfl, a, ns, rfl, hS, hn, fun s c H0 e0 hs0 hc0 hS0 => ?_⟩
  have hP0 : StP H0 s c Pl ns := ⟨hS0, LamX.TabS.nil (e0 _ _ hP)⟩
  refine ⟨8, rfl, by decide, by decide, for_range (n := 8) (fun i σ H2 => StP H2 s c Pl ns ∧ ∃ x2 x3 x4 x5 x6 x7 x8 x9 x10 x11, σ = [some (.ref a), some (.ref s), x2, x3, x4, x5, x6, x7, x8, x9, x10, x11]) ⟨hP0, _, _, _, _, _, _, _, _, _, _, rfl⟩ ?_ ?_⟩
  · rintro i σ H2 hi ⟨h1, x2, x3, x4, x5, x6, x7, x8, x9, x10, x11, rfl⟩
    refine ⟨_, rfl, s, c, ns, 3, 6, 3, rfl, h1.1, hn, by decide, by decide, by decide, by decide, by decide, by decide, fun p H3 fs n cs e3 hS3 ok _ hfn nle hnm hlast pl => ?_⟩
    have h3 := h1.sx e3 hS3
    obtain ⟨pa, l1, l2, kv, fvs, cvs, rfl, p1, p2, p3, p4, p5, p6⟩ := pl.nt
    have KN : ∀ {b : Addr} {o : HO} {Z : Hp}, Nx s Z b = some o → Z b = some o := fun h => off_same _ _ (nx_same _ _ h)
    have cl := p5.1
    have fl := p3.1
    have c6 := ok.cle
    have c1 := ok.cpos
    have f3 := ok.fields.le
    have fp := ok.fields.pos
    have n4 := ok.le
    -- fields, calls, modes
    refine ⟨fun σ H4 => ∃ (F0 C0 : Addr) (x2 : Option V), StP H4 s c Pl ns ∧ Same (Nx s H3) (Nx s H4) ∧ H4 F0 = some (.lst fvs) ∧ F0 ≠ s ∧ H4 C0 = some (.lst cvs) ∧ C0 ≠ s ∧ C0 ≠ c ∧ C0 ≠ F0 ∧ Nx s H3 C0 = none ∧ σ = [some (.ref a), some (.ref s), x2, some (.ref pa), some (.ref F0), some (.ref C0), some (.int (n : Nat)), x7, x8, x9, x10, x11], ?_, ?_⟩
    · refine ⟨_, rfl, pa, .ref l1, rfl, DGet.k (k := .inr "fields") (KN p1), l1, fvs, rfl, .inl (SqL.of (KN p2)), fun F0 hF0 => ?_⟩
      have e1 := same_new (Same.refl H3) hF0 (o := .lst fvs)
      refine ⟨_, rfl, pa, .ref l2, rfl, DGet.k (k := .inr "calls") (e1 _ _ (KN p1)), l2, cvs, rfl, .inl (SqL.of (e1 _ _ (KN p4))), fun C0 hC0 => ?_⟩
      have e2 := same_new e1 hC0 (o := .lst cvs)
      refine ⟨_, rfl, pa, .int n, rfl, DGet.k (k := .inr "modes") (e2 _ _ (KN p1)), by show 3 ≤ sizeLine; decide, fun t ht => ?_⟩
      have e3' := same_new e2 ht (o := .tup [.ref F0, .ref C0, .int (n : Nat)])
      have nF := h3.1.ne hF0
      have nC := (h3.keep e1).1.ne hC0
      have CF : C0 ≠ F0 := fun e => by rw [e, upd_same] at hC0; cases hC0
      refine ⟨t, _, rfl, SqT.of upd_same, rfl, _, _, rfl, _, _, rfl, _, _, rfl, rfl, F0, C0, _, h3.keep e3', sx_nx e3', ?_, nF.1, ?_, nC.1, nC.2, CF, nx_none (none_of e1 hC0), rfl⟩
      · exact (same_new (same_new (Same.refl _) hC0) ht) _ _ upd_same
      · exact (same_new (Same.refl _) ht) _ _ upd_same
    rintro _ H4 ⟨F0, C0, x2, h4, e4, F4, F0s, C4, C0s, C0c, CF, C3n, rfl⟩
    -- way, at
    refine ⟨fun σ H5 => ∃ (wy d : Nat), wy < 6 ∧ d < cvs.length ∧ StP H5 s c Pl ns ∧ Same (Nx s H3) (Nx s H5) ∧ H5 F0 = some (.lst fvs) ∧ H5 C0 = some (.lst cvs) ∧ σ = [some (.ref a), some (.ref s), x2, some (.ref pa), some (.ref F0), some (.ref C0), some (.int (n : Nat)), some (.int (wy : Nat)), some (.int (d : Nat)), x9, x10, x11], ?_, ?_⟩
    · refine ⟨_, rfl, s, c, ns, 6, rfl, h4.1, hn, by decide, by decide, fun wy H5 hw e5 h5' => ?_⟩
      have h5 := h4.sx e5 h5'
      refine ⟨_, rfl, _, rfl, C0, _, rfl, .inl (SqL.of (e5 _ _ C4 C0s)), s, c, ns, _, rfl, h5.1, hn, by omega, by omega, fun d H6 hd e6 h6' => ?_⟩
      exact ⟨_, _, rfl, wy, d, by omega, by omega, h5.sx e6 h6', (e4.trans e5.nx).trans e6.nx, e6 _ _ (e5 _ _ F4 F0s) F0s, e6 _ _ (e5 _ _ C4 C0s) C0s, rfl⟩
    clear h4 e4 F4 C4
    rintro _ H4 ⟨wy, d, wy6, hd, h4, e4, F4, C4, rfl⟩
    obtain ⟨cd, hcd, hrow⟩ := p5.get (List.getElem?_eq_getElem hd)
    have cok := ok.calls cd (List.mem_of_getElem? hcd)
    have rowS : ∀ {H' : Hp}, Same (Nx s H3) H' → ∀ x ∈ cvs, Sd K H' x := fun e x hx => by
      obtain ⟨c', hc', h⟩ := p5.mem hx
      exact (cd_sd h (ok.calls c' hc') ok.fields n4).keep e
    have fldS : ∀ {H' : Hp}, Same (Nx s H3) (Nx s H') → H' F0 = some (.lst fvs) → FA K (Nx s H') (.ref F0) := fun e hF => fa_lst (nx_at hF F0s nofun) (by omega) fun u hu => by
      obtain ⟨f', hf', h⟩ := p3.mem hu
      exact (fd_sdf h (ok.fields.word f' hf')).keep e
    have calS : ∀ {H' : Hp}, Same (Nx s H3) (Nx s H') → H' C0 = some (.lst cvs) → Sd K (Nx s H') (.ref C0) := fun e hC => sd_lst (nx_at hC C0s nofun) (by omega) (rowS e)
    -- a call is bent
    refine ⟨fun σ H5 => ∃ fv cv mv, StP H5 s c Pl ns ∧ σ = [some (.ref a), some (.ref s), x2, some (.ref pa), some fv, some cv, some mv, some (.int (wy : Nat)), some (.int (d : Nat)), x9, x10, x11] ∧
      ((wy < 3 ∧ Gen K (Nx s H5) fv cv mv) ∨ (3 ≤ wy ∧ fv = .ref F0 ∧ cv = .ref C0 ∧ mv = .int (n : Nat) ∧ Same (Nx s H3) (Nx s H5) ∧ H5 F0 = some (.lst fvs) ∧ H5 C0 = some (.lst cvs))), ?_, ?_⟩
    · refine ⟨_, rfl, _, _, rfl, rfl, _, rfl, ite2 (fun g1 => ?_) (fun g1 => ?_)⟩
      · have g1 := of_decide_eq_true g1
        have oC : Same (Nx s H3) (Off C0 (Off s H4)) := same_offN (e4.trans nx_same) C3n
        refine ⟨_, rfl, _, rfl, _, rfl, C0, _, _, cvs[d], rfl, rfl, SqL.of C4, atI_nat (List.getElem?_eq_getElem hd), _, rfl, s, c, F0, C0, ns, cvs[d], fvs, fs, n, cd, rfl, h4.1, hn, by rw [C4]; exact nofun, C0s, C0c, hrow.keep oC, cok, ok.fields, n4, (off_ne F0s).trans F4, p3.mono fun _ _ h => FdT.keep (e4.trans nx_same) h, fun v H5 e5 h5' hv => ?_⟩
        have h5 := h4.sx e5 h5'
        have C5 := e5 _ _ C4 C0s
        have e35 := e4.trans e5.nx
        have hix : ixN cvs.length (d : Int) = some d := by
          unfold ixN
          rw [if_pos (by omega), if_pos (by omega)]
          rfl
        have e6 : Same (Nx s H3) (Nx s (upd H5 C0 (.lst (cvs.set d v)))) := fun b o hb => by
          have bn : b ≠ C0 := fun q => by rw [q, C3n] at hb; cases hb
          have h2 := e35 _ _ hb
          obtain ⟨h3, h4⟩ := nt_get h2
          refine nt_of ?_ h4
          have bs : b ≠ s := fun q => by rw [q, off_s] at h3; cases h3
          rw [off_ne bs, upd_ne bn]
          rw [off_ne bs] at h3
          exact h3
        refine ⟨_, rfl, _, rfl, C0, cvs, _, d, rfl, rfl, C5, hix, .ref F0, .ref C0, .int (n : Nat), h5.put C0s C0c C5, rfl, .inl ⟨by omega, fldS e6 ((upd_ne CF.symm).trans (e5 _ _ F4 F0s)), ?_, .inl (PrimS.i _)⟩⟩
        refine sd_lst (nx_at upd_same C0s nofun) (by rw [List.length_set]; omega) fun x hx => ?_
        rcases List.mem_or_eq_of_mem_set hx with hx | rfl
        · exact rowS e6 x hx
        · refine hv.nt.keep (fun b o hb => ?_)
          obtain ⟨h2, h3⟩ := nt_get hb
          have bn : b ≠ C0 := fun q => by rw [q, off_s] at h2; cases h2
          rw [off_ne bn] at h2
          have bs : b ≠ s := fun q => by rw [q, off_s] at h2; cases h2
          refine nt_of ?_ h3
          rw [off_ne bs] at h2 ⊢
          rw [upd_ne bn]
          exact h2
      · have g1 := of_decide_eq_false (Bool.eq_false_iff.mpr g1)
        exact ⟨.ref F0, .ref C0, .int (n : Nat), h4, rfl, .inr ⟨by omega, rfl, rfl, rfl, e4, F4, C4⟩⟩
    clear h4 e4 F4 C4
    rintro _ H4 ⟨fv, cv, mv, h4, rfl, hst⟩
    -- a field is bent
    refine ⟨fun σ H5 => ∃ fv cv mv, StP H5 s c Pl ns ∧ σ = [some (.ref a), some (.ref s), x2, some (.ref pa), some fv, some cv, some mv, some (.int (wy : Nat)), some (.int (d : Nat)), x9, x10, x11] ∧
      ((wy < 4 ∧ Gen K (Nx s H5) fv cv mv) ∨ (4 ≤ wy ∧ fv = .ref F0 ∧ cv = .ref C0 ∧ mv = .int (n : Nat) ∧ Same (Nx s H3) (Nx s H5) ∧ H5 F0 = some (.lst fvs) ∧ H5 C0 = some (.lst cvs))), ?_, ?_⟩
    · refine ⟨_, rfl, rfl, _, rfl, ?_⟩
      rw [show decide (V.int (wy : Nat) = V.int 3) = decide (wy = 3) from len_dec wy 3]
      refine ite2 (fun g1 => ?_) (fun g1 => ?_)
      · have g1 := of_decide_eq_true g1
        obtain ⟨_, rfl, rfl, rfl, e4, F4, C4⟩ := hst.resolve_left fun h => by omega
        refine ⟨_, rfl, _, rfl, s, c, F0, ns, fvs, fs, rfl, h4.1, hn, (off_ne F0s).trans F4, p3.mono fun _ _ h => FdT.keep (e4.trans nx_same) h, by omega, by omega, ok.fields.word, fun p us H5 e5 h5' hp hl hus => ?_⟩
        refine ⟨.ref p, .ref C0, .int (n : Nat), h4.sx e5 h5', rfl, .inl ⟨by omega, fa_lst (nt_of hp nofun) (by omega) fun u hu => ?_, calS (e4.trans e5.nx) (e5 _ _ C4 C0s), .inl (PrimS.i _)⟩⟩
        obtain ⟨dd, h1, h2⟩ := hus u hu
        exact ⟨dd, h1.nt, h2⟩
      · have g1 := of_decide_eq_false (Bool.eq_false_iff.mpr g1)
        refine ⟨fv, cv, mv, h4, rfl, ?_⟩
        rcases hst with ⟨hw, hg⟩ | ⟨hw, hg⟩
        · exact .inl ⟨by omega, hg⟩
        · exact .inr ⟨by omega, hg⟩
    clear h4 hst fv cv mv
    rintro _ H4 ⟨fv, cv, mv, h4, rfl, hst⟩
    -- the modes are others
    refine ⟨fun σ H5 => ∃ fv cv mv, StP H5 s c Pl ns ∧ σ = [some (.ref a), some (.ref s), x2, some (.ref pa), some fv, some cv, some mv, some (.int (wy : Nat)), some (.int (d : Nat)), x9, x10, x11] ∧
      ((wy < 5 ∧ Gen K (Nx s H5) fv cv mv) ∨ (5 ≤ wy ∧ fv = .ref F0 ∧ cv = .ref C0 ∧ mv = .int (n : Nat) ∧ Same (Nx s H3) (Nx s H5) ∧ H5 F0 = some (.lst fvs) ∧ H5 C0 = some (.lst cvs))), ?_, ?_⟩
    · refine ⟨_, rfl, rfl, _, rfl, ?_⟩
      rw [show decide (V.int (wy : Nat) = V.int 4) = decide (wy = 4) from len_dec wy 4]
      refine ite2 (fun g1 => ?_) (fun g1 => ?_)
      · have g1 := of_decide_eq_true g1
        obtain ⟨_, rfl, rfl, rfl, e4, F4, C4⟩ := hst.resolve_left fun h => by omega
        refine ⟨_, rfl, _, rfl, by show 1 ≤ sizeLine; decide, fun b hb => ⟨by show 11 ≤ sizeLine; decide, fun q hq => ?_⟩⟩
        have f1 := same_new (Same.refl H4) hb (o := .lst [.int 1])
        have f2 := same_new f1 hq (o := .lst [.int 0, .int 4, .int 5, .int (-1), .bl true, .non, .str "1", .int 1, .int 2, .int 3, .ref b])
        have bs := (h4.1.ne hb).1
        have qs := ((h4.keep f1).1.ne hq).1
        have b2 := (same_new (Same.refl _) hq (o := .lst [.int 0, .int 4, .int 5, .int (-1), .bl true, .non, .str "1", .int 1, .int 2, .int 3, .ref b])) _ _ (upd_same (H := H4) (a := b) (o := .lst [.int 1]))
        refine ⟨s, c, q, ns, _, rfl, (h4.keep f2).1, hn, qs, .inl (SqL.of upd_same), by show 0 < 11; decide, by show 11 < 1000000; decide, fun dd v H5 hdd e5 h5' => ?_⟩
        have m := List.mem_of_getElem? hdd
        have e35 := (e4.trans (sx_nx f2)).trans e5.nx
        refine ⟨.ref F0, .ref C0, v, (h4.keep f2).sx e5 h5', rfl, .inl ⟨by omega, fldS e35 (e5 _ _ (f2 _ _ F4) F0s), calS e35 (e5 _ _ (f2 _ _ C4) C0s), ?_⟩⟩
        simp only [List.mem_cons, List.not_mem_nil, or_false] at m
        rcases m with rfl | rfl | rfl | rfl | rfl | rfl | rfl | rfl | rfl | rfl | rfl
        · exact .inl (PrimS.i _)
        · exact .inl (PrimS.i _)
        · exact .inl (PrimS.i _)
        · exact .inl (PrimS.i _)
        · exact .inl (PrimS.b _)
        · exact .inl PrimS.n
        · exact .inl (PrimS.s _)
        · exact .inl (PrimS.i _)
        · exact .inl (PrimS.i _)
        · exact .inl (PrimS.i _)
        · exact .inr ⟨b, rfl, nx_at (e5 _ _ b2 bs) bs nofun⟩
      · have g1 := of_decide_eq_false (Bool.eq_false_iff.mpr g1)
        refine ⟨fv, cv, mv, h4, rfl, ?_⟩
        rcases hst with ⟨hw, hg⟩ | ⟨hw, hg⟩
        · exact .inl ⟨by omega, hg⟩
        · exact .inr ⟨by omega, hg⟩
    clear h4 hst fv cv mv
    rintro _ H4 ⟨fv, cv, mv, h4, rfl, hst⟩
    -- something more, or no calls
    refine ⟨fun σ H5 => ∃ fv cv mv x9, StP H5 s c Pl ns ∧ σ = [some (.ref a), some (.ref s), x2, some (.ref pa), some fv, some cv, some mv, some (.int (wy : Nat)), some (.int (d : Nat)), x9, x10, x11] ∧ Gen K (Nx s H5) fv cv mv, ?_, ?_⟩
    · refine ⟨_, rfl, rfl, _, rfl, ?_⟩
      rw [show decide (V.int (wy : Nat) = V.int 5) = decide (wy = 5) from len_dec wy 5]
      refine ite2 (fun g1 => ?_) (fun g1 => ?_)
      · have g1 := of_decide_eq_true g1
        obtain ⟨_, rfl, rfl, rfl, e4, F4, C4⟩ := hst.resolve_left fun h => by omega
        -- odd
        refine ⟨fun σ H5 => ∃ q os, StP H5 s c Pl ns ∧ Same (Nx s H3) (Nx s H5) ∧ H5 F0 = some (.lst fvs) ∧ H5 C0 = some (.lst cvs) ∧ q ≠ s ∧ H5 q = some (.lst os) ∧ os.length = 9 ∧ (∀ x ∈ os, Sd K (Nx s H5) x) ∧
          σ = [some (.ref a), some (.ref s), x2, some (.ref pa), some (.ref F0), some (.ref C0), some (.int (n : Nat)), some (.int (wy : Nat)), some (.int (d : Nat)), some (.ref q), x10, x11], ?_, ?_⟩
        · refine ⟨by show 0 ≤ sizeLine; decide, fun t0 ht0 => ?_⟩
          have b1 := same_new (Same.refl H4) ht0 (o := .tup [])
          refine ⟨_, rfl, _, rfl, C0, _, _, cvs[d], rfl, rfl, SqL.of (b1 _ _ C4), atI_nat (List.getElem?_eq_getElem hd), ?_⟩
          obtain ⟨ra, us, hra, hus, ul, usd⟩ := cd_parts hrow cok ok.fields n4
          refine ⟨_, rfl, _, rfl, C0, _, _, cvs[d], rfl, rfl, SqL.of (b1 _ _ C4), atI_nat (List.getElem?_eq_getElem hd), by show 1 ≤ sizeLine; decide, fun t1 ht1 => ?_⟩
          have b2 := same_new b1 ht1 (o := .tup [.int 1])
          refine ⟨ra, t1, us, _, hra, rfl, same_t ((e4.trans nx_all).trans b2) hus, SqT.of upd_same, (fun z => by rw [z] at ul; cases ul), (by rw [ul]; show 5 + 1 ≤ sizeLine; decide), nofun, fun _ t2 ht2 => ?_⟩
          have b3 := same_new b2 ht2 (o := .tup (us ++ [.int 1]))
          refine ⟨by show 0 ≤ sizeLine; decide, fun l0 hl0 => ?_⟩
          have b4 := same_new b3 hl0 (o := .lst [])
          refine ⟨_, rfl, _, rfl, C0, C0, cvs, cvs, rfl, rfl, b4 _ _ C4, b4 _ _ C4, Nat.le_trans (by omega : _ ≤ 12) (by decide), fun l1' hl1' => ?_⟩
          have b5 := same_new b4 hl1' (o := .lst (cvs ++ cvs))
          refine fun d0 hd0 => ⟨by show 9 ≤ sizeLine; decide, fun q hq => ?_⟩
          have b6 := same_new b5 hd0 (o := .dK [])
          have b7 := same_new b6 hq (o := .lst [.non, .int 5, .str "ab", .ref t0, cvs[d], .ref t2, .ref l0, .ref l1', .ref d0])
          have T5 := same_new (Same.refl _) hq (o := .lst [.non, .int 5, .str "ab", .ref t0, cvs[d], .ref t2, .ref l0, .ref l1', .ref d0])
          have T4 := (same_new (Same.refl _) hd0 (o := .dK [])).trans T5
          have T3 := (same_new (Same.refl _) hl1' (o := .lst (cvs ++ cvs))).trans T4
          have T2 := (same_new (Same.refl _) hl0 (o := .lst [])).trans T3
          have T1 := (same_new (Same.refl _) ht2 (o := .tup (us ++ [.int 1]))).trans T2
          have T0 := (same_new (Same.refl _) ht1 (o := .tup [.int 1])).trans T1
          have s0 := (h4.1.ne ht0).1
          have s2 := ((h4.keep b2).1.ne ht2).1
          have s3 := ((h4.keep b3).1.ne hl0).1
          have s4 := ((h4.keep b4).1.ne hl1').1
          have s5 := ((h4.keep b5).1.ne hd0).1
          have s6 := ((h4.keep b6).1.ne hq).1
          have e37 := e4.trans (sx_nx b7)
          refine ⟨q, _, h4.keep b7, e37, b7 _ _ F4, b7 _ _ C4, s6, upd_same, rfl, ?_, rfl⟩
          refine mem_c PrimS.n.sd (mem_c (PrimS.i _).sd (mem_c (PrimS.s _).sd (mem_c ?_ (mem_c ?_ (mem_c ?_ (mem_c ?_ (mem2 ?_ ?_)))))))
          · exact sd_tup (SqT.of (nx_at (T0 _ _ upd_same) s0 nofun)) (by show 0 < 1000; decide) nofun
          · exact rowS e37 _ (List.getElem_mem hd)
          · refine sd_tup (SqT.of (nx_at (T2 _ _ upd_same) s2 nofun)) (by rw [List.length_append, ul]; show 5 + 1 < 1000; decide) fun x hx => ?_
            rcases List.mem_append.mp hx with hx | hx
            · exact (usd x hx).keep e37
            · rw [List.mem_singleton.mp hx]
              exact (PrimS.i _).sd
          · exact sd_lst (nx_at (T3 _ _ upd_same) s3 nofun) (by show 0 < 1000; decide) nofun
          · refine sd_lst (nx_at (T4 _ _ upd_same) s4 nofun) (by rw [List.length_append]; omega) fun x hx => ?_
            exact rowS e37 x ((List.mem_append.mp hx).elim id id)
          · exact ⟨_, .dic (nx_at (T5 _ _ upd_same) s5 nofun)⟩
        clear h4 e4 F4 C4 hst
        rintro _ H4 ⟨q, os, h4, e4, F4, C4, qs, hq, ol, hos, rfl⟩
        -- one more
        refine ⟨fun σ H5 => ∃ cv, StP H5 s c Pl ns ∧ Same (Nx s H3) (Nx s H5) ∧ H5 F0 = some (.lst fvs) ∧ Sd K (Nx s H5) cv ∧
          σ = [some (.ref a), some (.ref s), x2, some (.ref pa), some (.ref F0), some cv, some (.int (n : Nat)), some (.int (wy : Nat)), some (.int (d : Nat)), some (.ref q), x10, x11], ?_, ?_⟩
        · refine ⟨_, rfl, _, rfl, _, rfl, s, c, q, ns, os, rfl, h4.1, hn, qs, .inl (SqL.of hq), by omega, by omega, fun dd v H5 hdd e5 h5' => ⟨by show 1 ≤ sizeLine; decide, fun l0 hl0 => ?_⟩⟩
          have h5 := h4.sx e5 h5'
          have b1 := same_new (Same.refl H5) hl0 (o := .lst [v])
          refine ⟨C0, l0, cvs, _, rfl, rfl, b1 _ _ (e5 _ _ C4 C0s), upd_same, Nat.le_trans (by show cvs.length + 1 ≤ 12; omega) (by decide), fun l1' hl1' => ?_⟩
          have b2 := same_new b1 hl1' (o := .lst (cvs ++ [v]))
          have e35 := (e4.trans e5.nx).trans (sx_nx b2)
          refine ⟨.ref l1', h5.keep b2, e35, b2 _ _ (e5 _ _ F4 F0s), ?_, rfl⟩
          refine sd_lst (nx_at upd_same ((h5.keep b1).1.ne hl1').1 nofun) (by rw [List.length_append]; show cvs.length + 1 < 1000; omega) fun x hx => ?_
          rcases List.mem_append.mp hx with hx | hx
          · exact rowS e35 x hx
          · rw [List.mem_singleton.mp hx]
            exact (hos v (List.mem_of_getElem? hdd)).keep (e5.nx.trans (sx_nx b2))
        clear h4 e4 F4 C4 hq hos
        rintro _ H4 ⟨cv, h4, e4, F4, hcv, rfl⟩
        -- or none
        refine ⟨fun v H5 => StP H5 s c Pl ns ∧ Same (Nx s H3) (Nx s H5) ∧ H5 F0 = some (.lst fvs) ∧ Sd K (Nx s H5) v, ?_, ?_⟩
        · refine ⟨_, rfl, s, c, ns, 2, rfl, h4.1, hn, by decide, by decide, fun d2 H5 _ e5 h5' => ⟨rfl, _, rfl, ite2 (fun _ => ?_) (fun _ => ?_)⟩⟩
          · exact ⟨_, rfl, h4.sx e5 h5', e4.trans e5.nx, e5 _ _ F4 F0s, hcv.keep e5.nx⟩
          · have h5 := h4.sx e5 h5'
            refine ⟨_, rfl, by show 0 ≤ sizeLine; decide, fun l0 hl0 => fun d0 hd0 => ⟨by show 5 ≤ sizeLine; decide, fun q2 hq2 => ?_⟩⟩
            have b1 := same_new (Same.refl H5) hl0 (o := .lst [])
            have b2 := same_new b1 hd0 (o := .dK [])
            have b3 := same_new b2 hq2 (o := .lst [.non, .ref l0, .str "ab", .ref d0, .int 5])
            have s1 := (h5.1.ne hl0).1
            have s2 := ((h5.keep b1).1.ne hd0).1
            have s3 := ((h5.keep b2).1.ne hq2).1
            have T2 := same_new (Same.refl _) hq2 (o := .lst [.non, .ref l0, .str "ab", .ref d0, .int 5])
            have T1 := (same_new (Same.refl _) hd0 (o := .dK [])).trans T2
            have v1 := T1 _ _ (upd_same (H := H5) (a := l0) (o := .lst []))
            have v2 := T2 _ _ (upd_same (a := d0) (o := .dK []))
            refine ⟨s, c, q2, ns, _, rfl, (h5.keep b3).1, hn, s3, .inl (SqL.of upd_same), by show 0 < 5; decide, by show 5 < 1000000; decide, fun dd v H6 hdd e6 h6' => ?_⟩
            have m := List.mem_of_getElem? hdd
            refine ⟨(h5.keep b3).sx e6 h6', ((e4.trans e5.nx).trans (sx_nx b3)).trans e6.nx, e6 _ _ (b3 _ _ (e5 _ _ F4 F0s)) F0s, ?_⟩
            simp only [List.mem_cons, List.not_mem_nil, or_false] at m
            rcases m with rfl | rfl | rfl | rfl | rfl
            · exact PrimS.n.sd
            · exact sd_lst (nx_at (e6 _ _ v1 s1) s1 nofun) (by show 0 < 1000; decide) nofun
            · exact (PrimS.s _).sd
            · exact ⟨_, .dic (nx_at (e6 _ _ v2 s2) s2 nofun)⟩
            · exact (PrimS.i _).sd
        · rintro v H5 ⟨h5, e5, F5, hv⟩
          exact ⟨.ref F0, v, .int (n : Nat), some (.ref q), h5, rfl, fldS e5 F5, hv, .inl (PrimS.i _)⟩
      · have g1 := of_decide_eq_false (Bool.eq_false_iff.mpr g1)
        exact ⟨fv, cv, mv, x9, h4, rfl, (hst.resolve_right fun h => by omega).2⟩
    clear h4 hst fv cv mv
    rintro _ H4 ⟨fv, cv, mv, x9, h4, rfl, hg⟩
    -- other things for fields
    refine ⟨fun σ H5 => ∃ fv, StP H5 s c Pl ns ∧ σ = [some (.ref a), some (.ref s), x2, some (.ref pa), some fv, some cv, some mv, some (.int (wy : Nat)), some (.int (d : Nat)), x9, x10, x11] ∧ Gen K (Nx s H5) fv cv mv, ?_, ?_⟩
    · refine ⟨_, rfl, s, c, ns, 9, rfl, h4.1, hn, by decide, by decide, fun d2 H5 _ e5 h5' => ⟨rfl, _, rfl, ite2 (fun _ => ?_) (fun _ => ?_)⟩⟩
      · have h5 := h4.sx e5 h5'
        refine ⟨_, rfl, by show 0 ≤ sizeLine; decide, fun l0 hl0 => fun d0 hd0 => ⟨_, rfl, by show 6 ≤ sizeLine; decide, fun q2 hq2 => ?_⟩⟩
        have b1 := same_new (Same.refl H5) hl0 (o := .lst [])
        have b2 := same_new b1 hd0 (o := .dK [])
        have b3 := same_new b2 hq2 (o := .lst [.non, .ref l0, .str "ab", .ref d0, .int 5, fv])
        have s1 := (h5.1.ne hl0).1
        have s2 := ((h5.keep b1).1.ne hd0).1
        have s3 := ((h5.keep b2).1.ne hq2).1
        have T2 := same_new (Same.refl _) hq2 (o := .lst [.non, .ref l0, .str "ab", .ref d0, .int 5, fv])
        have T1 := (same_new (Same.refl _) hd0 (o := .dK [])).trans T2
        have v1 := T1 _ _ (upd_same (H := H5) (a := l0) (o := .lst []))
        have v2 := T2 _ _ (upd_same (a := d0) (o := .dK []))
        refine ⟨s, c, q2, ns, _, rfl, (h5.keep b3).1, hn, s3, .inl (SqL.of upd_same), by show 0 < 6; decide, by show 6 < 1000000; decide, fun dd v H6 hdd e6 h6' => ?_⟩
        have m := List.mem_of_getElem? hdd
        have hg6 := hg.keep ((e5.nx.trans (sx_nx b3)).trans e6.nx)
        refine ⟨v, (h5.keep b3).sx e6 h6', rfl, ?_, hg6.c, hg6.m⟩
        simp only [List.mem_cons, List.not_mem_nil, or_false] at m
        rcases m with rfl | rfl | rfl | rfl | rfl | rfl
        · exact fa_prim PrimS.n
        · exact fa_lst (nx_at (e6 _ _ v1 s1) s1 nofun) (by show 0 < 1000; decide) nofun
        · exact fa_prim (PrimS.s _)
        · exact fa_dic (nx_at (e6 _ _ v2 s2) s2 nofun)
        · exact fa_prim (PrimS.i _)
        · exact hg6.f
      · exact ⟨fv, h4.sx e5 h5', rfl, hg.keep e5.nx⟩
    clear h4 hg fv
    rintro _ H4 ⟨fv, h4, rfl, hg⟩
    -- what is due
    obtain ⟨fd, shf, flat⟩ := hg.f
    obtain ⟨cdd, shc⟩ := hg.c
    have hmd : ∃ md, Sh K (Nx s H4) mv md := by
      rcases hg.m with h | ⟨b, rfl, h⟩
      · exact h.sd
      · exact sd_lst h (by show 1 < 1000; decide) (mem1 (PrimS.i _).sd)
    obtain ⟨md, shm⟩ := hmd
    obtain ⟨r, due⟩ := due_all fd md cdd
    -- what is tried
    refine ⟨fun σ H5 => ∃ pt, StP H5 s c Pl ns ∧ Same (Nx s H4) (Nx s H5) ∧ FoundV K KC s H5 pt mv r ∧ σ = [some (.ref a), some (.ref s), x2, some (.ref pa), some fv, some cv, some mv, some (.int (wy : Nat)), some (.int (d : Nat)), x9, some (.ref pt), x11], ?_, ?_⟩
    · refine ⟨h4.tabs, fun H5 eN tb => ?_⟩
      have h5 := h4.ext eN tb
      have e5 := ext_nx (s := s) eN
      have f5 := shf.keep (e5.trans nx_same)
      have c5 := shc.keep (e5.trans nx_same)
      have m5 := shm.keep (e5.trans nx_same)
      refine ⟨fun v H6 => Same H5 H6 ∧ ∃ fs n cs, r = .told fs n cs ∧ KdA K KC (Off s H6) v fs n cs, ⟨_, rfl, _, rfl, _, rfl, rfl, rfl, ?_⟩, ?_⟩
      · cases r with
        | fld j => 
          refine rd_kindX (KC := KC) (A3 := A.e3) h5.ns f5 flat c5 m5 due ?_
          exact fun dd H' e hd hx => ⟨.inl rfl, fun ae hae => ⟨rfl, dd, .int j, rfl, .inl ⟨rfl, hx, fun pt hpt => ⟨pt, h5.keep (same_new e hpt), e5.trans (sx_nx (same_new e hpt)), upd_same, rfl⟩⟩⟩⟩
        | mod => 
          refine rd_kindX (KC := KC) (A3 := A.e3) h5.ns f5 flat c5 m5 due ?_
          exact fun dd H' e hd hx => ⟨.inr (.inl rfl), fun ae hae => ⟨rfl, dd, mv, rfl, .inr (.inl ⟨rfl, hx, fun pt hpt => ⟨pt, h5.keep (same_new e hpt), e5.trans (sx_nx (same_new e hpt)), upd_same, rfl⟩⟩)⟩⟩
        | cal j q => 
          refine rd_kindX (KC := KC) (A3 := A.e3) h5.ns f5 flat c5 m5 due ?_
          exact fun dd H' e hd hx => ⟨.inr (.inr rfl), fun ae hae => ⟨rfl, dd, .int j, rfl, .inr (.inr ⟨.str q, rfl, hx, fun p1 p2 hp1 hp2 => ⟨p2, h5.keep (same_new (same_new e hp1) hp2), e5.trans (sx_nx (same_new (same_new e hp1) hp2)), ⟨p1, upd_same, (same_new (Same.refl _) hp2) _ _ upd_same⟩, rfl⟩⟩)⟩⟩
        | told fs' n' cs' =>
          cases due with
          | told e1 l1' e2 e3' e4' e5' e6 l2' e7 =>
            subst e3'
            obtain rfl := shm.int'
            obtain ⟨fvs', hf, hal, _⟩ := f5.sq e1
            obtain ⟨cvs', hc, hal2, _⟩ := c5.sq e6
            exact fun x dx hx hd ne => .inl (rd_kind (Q := fun v H6 => Same H5 H6 ∧ ∃ fs n cs, Due.told fs' n' cs' = .told fs n cs ∧ KdA K KC (Off s H6) v fs n cs) h5.ns hf (e2.a hal) hc (e7.a hal2) (told_ok l1' e2 e4' e5' l2' e7) (fun v H' e kd => ⟨e, _, _, _, rfl, kd⟩) x dx hx hd ne)
      · rintro v H6 ⟨e6, fs', n', cs', rfl, kd⟩
        exact ⟨by show 2 ≤ sizeLine; decide, fun pt hpt => ⟨pt, h5.keep (same_new e6 hpt), e5.trans (sx_nx (same_new e6 hpt)), ⟨v, upd_same, kd.keep (same_off (same_new (Same.refl _) hpt))⟩, rfl⟩⟩
    rintro _ H5 ⟨pt, h5, e5, fv5, rfl⟩
    -- what is due
    refine ⟨fun σ H6 => ∃ pd, Same H5 H6 ∧ DueV H6 pd mv r ∧ σ = [some (.ref a), some (.ref s), x2, some (.ref pa), some fv, some cv, some mv, some (.int (wy : Nat)), some (.int (d : Nat)), x9, some (.ref pt), some (.ref pd)], ?_, ?_⟩
    · exact ⟨_, rfl, _, rfl, _, rfl, fv, cv, mv, fd, cdd, md, r, rfl, shf.keep (e5.trans nx_all), shc.keep (e5.trans nx_all), shm.keep (e5.trans nx_all), due, fun pd H6 e6 hp hv => ⟨pd, e6, hv, rfl⟩⟩
    rintro _ H6 ⟨pd, e6, dv, rfl⟩
    have h6 := h5.keep e6
    have e46 := e5.trans (sx_nx e6)
    have fv6 := fv5.keep e6
    have done : ∀ {H' : Hp} {x2 x3 x4 x5 x6 x7 x8 x9 x10 x11 : Option V}, Same H6 H' → StP H' s c Pl ns ∧ ∃ y2 y3 y4 y5 y6 y7 y8 y9 y10 y11, [some (.ref a), some (.ref s), x2, x3, x4, x5, x6, x7, x8, x9, x10, x11] = [some (.ref a), some (.ref s), y2, y3, y4, y5, y6, y7, y8, y9, y10, y11] := fun e => ⟨h6.keep e, _, _, _, _, _, _, _, _, _, _, rfl⟩
    have m6 : MA H6 mv := (hg.m.keep e46).keep nx_all
    obtain ⟨wd, u, u', hp, hd', hsm, htold⟩ : ∃ (wd : Str) (u u' : V), H6 pt = some (.tup [.str wd, u]) ∧ H6 pd = some (.tup [.str wd, u']) ∧ (wd ≠ "told" → Sm K H6 2 (.ref pt) (.ref pd)) ∧ (wd = "told" → ∃ fs' n' cs', r = .told fs' n' cs' ∧ KdA K KC (Off s H6) u fs' n' cs') := by
      cases r with
      | fld j => exact ⟨"field", _, _, fv6, dv, fun _ => sm_tup2 fv6 dv (sm_prim (PrimS.s _)) (sm_prim (PrimS.i _)), fun e => absurd e (by decide)⟩
      | mod => exact ⟨"modes", _, _, fv6, dv, fun _ => sm_tup2 fv6 dv (sm_prim (PrimS.s _)) m6.sm, fun e => absurd e (by decide)⟩
      | cal j q =>
        obtain ⟨q1, a1, a2⟩ := fv6
        obtain ⟨q2, b1, b2⟩ := dv
        have ql : PrimS (.str q) := by
          have : q.length ≤ sizeLine := by
            cases due with
            | c0 _ _ _ _ _ _ _ => decide
            | c _ _ _ _ _ _ _ h =>
              obtain ⟨_, _, _, ⟨_, rfl⟩ | ⟨_, h⟩⟩ := h
              · decide
              · unfold reasonD at h
                split at h
                · cases h; decide
                split at h
                · cases h; decide
                split at h
                · cases h; decide
                split at h
                · cases h; decide
                split at h
                · cases h; decide
                split at h
                · cases h; decide
                · cases h
          exact PrimS.s _ this
        exact ⟨"call", _, _, a1, b1, fun _ => sm_tup2 a1 b1 (sm_prim (PrimS.s _)) (sm_tup2 a2 b2 (sm_prim (PrimS.i _)) (sm_prim ql)), fun e => absurd e (by decide)⟩
      | told fs' n' cs' =>
        obtain ⟨kv', a1, a2⟩ := fv6
        exact ⟨"told", _, _, a1, dv, fun h => absurd rfl h, fun _ => ⟨_, _, _, rfl, a2⟩⟩
    refine ⟨fun t H' => t = false ∧ Same H6 H', ?_, ?_⟩
    · refine ⟨_, rfl, pt, _, 0, .str wd, rfl, rfl, SqT.of hp, rfl, _, rfl, pd, _, 0, .str wd, rfl, rfl, SqT.of hd', rfl, rfl, _, rfl, iteB ?_ ?_⟩
      · rw [decide_eq_true rfl]
        rfl
      · refine ⟨fun t H' => t = false ∧ Same H6 H', ⟨_, rfl, pd, _, 0, .str wd, rfl, rfl, SqT.of hd', rfl, rfl, _, rfl, ?_⟩, fun t H' h => h⟩
        rw [str_dec]
        refine ite2 (fun g1 => ?_) (fun g1 => ⟨rfl, Same.refl H6⟩)
        rw [Bool.not_eq_true', decide_eq_false_iff_not] at g1
        exact ⟨_, rfl, _, rfl, .ref pt, .ref pd, rfl, hsm g1, fun H' e => ⟨true, rfl, rfl, e⟩⟩
    rintro _ H7 ⟨rfl, e7⟩
    refine iteF ?_
    refine ⟨fun t H' => t = false ∧ Same H7 H', ?_, ?_⟩
    · refine ⟨_, rfl, pd, _, 0, .str wd, rfl, rfl, SqT.of (e7 _ _ hd'), rfl, rfl, _, rfl, ?_⟩
      rw [str_dec]
      refine ite2 (fun g1 => ?_) (fun g1 => ⟨rfl, Same.refl H7⟩)
      obtain ⟨fs', n', cs', rfl, kd⟩ := htold (of_decide_eq_true g1)
      cases due with
      | told t1 t2 t3 t4 t5 t6 t7 t8 t9 =>
      subst t4
      obtain rfl := shm.int'
      obtain ⟨cvs', ⟨cb, rfl, hc⟩, hal2, _⟩ := (shc.keep ((e46.trans nx_all).trans e7)).sq t7
      have kd7 := (kd.keep off_same).keep e7
      obtain ⟨x, dx, so, sp, tb, t, st, tv, sv, rfl, k1, krest⟩ := id kd7
      have lc : cs'.length = cvs'.length := by rw [t9.len, hal2.1]
      refine ⟨fun t H' => t = false ∧ Same H7 H', ?_, fun t H' h => h⟩
      refine ⟨_, rfl, pt, _, 1, .ref x, rfl, rfl, SqT.of (e7 _ _ hp), rfl, x, KC, dx, _, .int n', rfl, k1, Z.cls, Z.modes, rfl, _, rfl, rfl, _, rfl, iteB ?_ ?_⟩
      · rw [decide_eq_true rfl]
        rfl
      · refine ⟨_, rfl, pt, _, 1, .ref x, rfl, rfl, SqT.of (e7 _ _ hp), rfl, x, dx, _, rfl, k1, .ref x, fs', n', cs', rfl, kd7, cs'.length, rfl, by have := t9.le; have := t9.len; omega, _, rfl, cb, cvs', rfl, hc, rfl, _, rfl, ?_, Same.refl H7⟩
        rw [lc, decide_eq_true rfl]
        rfl
    · rintro _ H8 ⟨rfl, e8⟩
      exact iteF (done (e7.trans e8))
  · rintro σ H2 ⟨h1, x2, x3, x4, x5, x6, x7, x8, x9, x10, x11, rfl⟩
    exact k _
end
end MK

set_option Elab.async false
set_option linter.all false
set_option autoImplicit false
set_option maxRecDepth 100000
set_option maxHeartbeats 4000000
namespace MK
open PySem PySem.Spec PyProof.Rows L2
local macro_rules | `(tactic| walk_at "x") => `(tactic| dsimp only [tSeq, tAsg, tRet, tDrop, tLst, tTup, tCons, tOp, tUn, tIfS])
/-! ### what the top has written -/
section
variable {K : PySem.W.Frag} {h : Heap} {mg : Str → Option Value}
theorem def_mk {x : Str} {st : Stmt} {ps : List Str} {f : Addr} {oc : Value} {od an : Option Addr} {osl : Array (Option Value)} {kV doc pm cdv ct : Value} (X : K.In h) (G : h.Ns mainGlobals mg) (a : PySem.W.nsIn K mainGlobals x = some (some (.ref f)))
    (l : K.lookup f = some ⟨oc, od, .func (PySem.W.fnOf x x (defArgs st) (defBody st) (defScope st) .none kV doc pm an cdv ct), osl⟩) (c : PySem.W.codeIn K cdv x = true) (k : PySem.W.keepIn K (.ref f) = true)
    (b : ∀ (kV doc pm : Value) (an : Option Addr) (cdv ct : Value) (us : List Value), us.length = ps.length → bindArgs (PySem.W.fnOf x x (defArgs st) (defBody st) (defScope st) .none kV doc pm an cdv ct) ⟨us, []⟩ = pure (ps.zip us)) :
    DefX K mg x st ps f (PySem.W.fnOf x x (defArgs st) (defBody st) (defScope st) .none kV doc pm an cdv ct) :=
  have F := fun_mk (st := st) l c k
  ⟨F, PySem.W.mg_of X G a, F.binds b⟩
theorem keep_of {K : PySem.W.Frag} {C : Addr} (h : errB K C = true) : PySem.W.keepIn K (.ref C) = true := by
  simp only [errB, Bool.and_eq_true, decide_eq_true_eq] at h
  exact h.2.2.2.1
end
theorem sod_all {K : PySem.W.Frag} {w : World} {a : Addr} (h : He.dicW K a = some (He.keysIn w.params ["set", "add", "strike", "fresh", "clear"])) (h1 : ∃ b, PySem.W.nsIn K a "set" = some (some (.ref b)) ∧ ∀ H, SqT K H b ((["one"] : List Str).map V.str)) (h2 : ∃ b, PySem.W.nsIn K a "add" = some (some (.ref b)) ∧ ∀ H, SqT K H b ((["many"] : List Str).map V.str))
    (h3 : ∃ b, PySem.W.nsIn K a "strike" = some (some (.ref b)) ∧ ∀ H, SqT K H b ((["many"] : List Str).map V.str)) (h4 : ∃ b, PySem.W.nsIn K a "fresh" = some (some (.ref b)) ∧ ∀ H, SqT K H b ((["many"] : List Str).map V.str)) (h5 : ∃ b, PySem.W.nsIn K a "clear" = some (some (.ref b)) ∧ ∀ H, SqT K H b ((["one", "many"] : List Str).map V.str)) :
    ∀ z : Str, (PySem.W.nsIn K a z = some none ∧ sodOf z = none) ∨ ∃ b l, PySem.W.nsIn K a z = some (some (.ref b)) ∧ sodOf z = some l ∧ ∀ H, SqT K H b (l.map V.str) := fun z => by
  by_cases e1 : z = ("set" : Str)
  · obtain ⟨b, x, y⟩ := h1
    exact .inr ⟨b, _, e1 ▸ x, by rw [e1]; decide +kernel, y⟩
  by_cases e2 : z = ("add" : Str)
  · obtain ⟨b, x, y⟩ := h2
    exact .inr ⟨b, _, e2 ▸ x, by rw [e2]; decide +kernel, y⟩
  by_cases e3 : z = ("strike" : Str)
  · obtain ⟨b, x, y⟩ := h3
    exact .inr ⟨b, _, e3 ▸ x, by rw [e3]; decide +kernel, y⟩
  by_cases e4 : z = ("fresh" : Str)
  · obtain ⟨b, x, y⟩ := h4
    exact .inr ⟨b, _, e4 ▸ x, by rw [e4]; decide +kernel, y⟩
  by_cases e5 : z = ("clear" : Str)
  · obtain ⟨b, x, y⟩ := h5
    exact .inr ⟨b, _, e5 ▸ x, by rw [e5]; decide +kernel, y⟩
  refine .inl ⟨ns_none h fun m => ?_, ?_⟩
  · simp only [List.mem_cons, List.not_mem_nil, or_false] at m
    rcases m with m | m | m | m | m
    · exact e1 m
    · exact e2 m
    · exact e3 m
    · exact e4 m
    · exact e5 m
  · unfold sodOf
    rw [if_neg e1, if_neg e2, if_neg e3, if_neg e4, if_neg e5]
def spLawT (K : PySem.W.Frag) (P : Addr) : Sp := fun vs H Q _ => ∃ (a : Addr) (ns : List Int), vs = [.ref a] ∧ SqL K H a (ns.map V.int) ∧ ns.length ≤ 63 ∧ H P = some (.tbl #[]) ∧ ∀ H', Q (.bl true) H'
theorem all_mk {l : PySem.W.OpenLaw} {w : World} {K : PySem.W.Frag} {h : Heap} {mg : Str → Option Value} {fa : Addr} (X : K.In h) (G : h.Ns mainGlobals mg) (hfa : mg "law" = some (.ref fa))
    {f_fresh : Addr} {od_fresh an_fresh : Option Addr} {sl_fresh : Array (Option Value)} {oc_fresh kV_fresh dc_fresh pm_fresh cd_fresh ct_fresh : Value}
    {f_fill : Addr} {od_fill an_fill : Option Addr} {sl_fill : Array (Option Value)} {oc_fill kV_fill dc_fill pm_fill cd_fill ct_fill : Value}
    {f_take : Addr} {od_take an_take : Option Addr} {sl_take : Array (Option Value)} {oc_take kV_take dc_take pm_take cd_take ct_take : Value}
    {f_one : Addr} {od_one an_one : Option Addr} {sl_one : Array (Option Value)} {oc_one kV_one dc_one pm_one cd_one ct_one : Value}
    {f_mix : Addr} {od_mix an_mix : Option Addr} {sl_mix : Array (Option Value)} {oc_mix kV_mix dc_mix pm_mix cd_mix ct_mix : Value}
    {f_same : Addr} {od_same an_same : Option Addr} {sl_same : Array (Option Value)} {oc_same kV_same dc_same pm_same cd_same ct_same : Value}
    {f_tried : Addr} {od_tried an_tried : Option Addr} {sl_tried : Array (Option Value)} {oc_tried kV_tried dc_tried pm_tried cd_tried ct_tried : Value}
    {f_error : Addr} {od_error an_error : Option Addr} {sl_error : Array (Option Value)} {oc_error kV_error dc_error pm_error cd_error ct_error : Value}
    {f_plan : Addr} {od_plan an_plan : Option Addr} {sl_plan : Array (Option Value)} {oc_plan kV_plan dc_plan pm_plan cd_plan ct_plan : Value}
    {f_deeds : Addr} {od_deeds an_deeds : Option Addr} {sl_deeds : Array (Option Value)} {oc_deeds kV_deeds dc_deeds pm_deeds cd_deeds ct_deeds : Value}
    {f_call : Addr} {od_call an_call : Option Addr} {sl_call : Array (Option Value)} {oc_call kV_call dc_call pm_call cd_call ct_call : Value}
    {f_kind : Addr} {od_kind an_kind : Option Addr} {sl_kind : Array (Option Value)} {oc_kind kV_kind dc_kind pm_kind cd_kind ct_kind : Value}
    {f_l_is_word : Addr} {od_l_is_word an_l_is_word : Option Addr} {sl_l_is_word : Array (Option Value)} {oc_l_is_word kV_l_is_word dc_l_is_word pm_l_is_word cd_l_is_word ct_l_is_word : Value}
    {f_is_number : Addr} {od_is_number an_is_number : Option Addr} {sl_is_number : Array (Option Value)} {oc_is_number kV_is_number dc_is_number pm_is_number cd_is_number ct_is_number : Value}
    {f_l_is_list : Addr} {od_l_is_list an_l_is_list : Option Addr} {sl_l_is_list : Array (Option Value)} {oc_l_is_list kV_l_is_list dc_l_is_list pm_l_is_list cd_l_is_list ct_l_is_list : Value}
    {f_l_are_deeds : Addr} {od_l_are_deeds an_l_are_deeds : Option Addr} {sl_l_are_deeds : Array (Option Value)} {oc_l_are_deeds kV_l_are_deeds dc_l_are_deeds pm_l_are_deeds cd_l_are_deeds ct_l_are_deeds : Value}
    {f_call_reason : Addr} {od_call_reason an_call_reason : Option Addr} {sl_call_reason : Array (Option Value)} {oc_call_reason kV_call_reason dc_call_reason pm_call_reason cd_call_reason ct_call_reason : Value}
    {f_kind_due : Addr} {od_kind_due an_kind_due : Option Addr} {sl_kind_due : Array (Option Value)} {oc_kind_due kV_kind_due dc_kind_due pm_kind_due cd_kind_due ct_kind_due : Value}
    {f_bent_call : Addr} {od_bent_call an_bent_call : Option Addr} {sl_bent_call : Array (Option Value)} {oc_bent_call kV_bent_call dc_bent_call pm_bent_call cd_bent_call ct_bent_call : Value}
    {f_bent_field : Addr} {od_bent_field an_bent_field : Option Addr} {sl_bent_field : Array (Option Value)} {oc_bent_field kV_bent_field dc_bent_field pm_bent_field cd_bent_field ct_bent_field : Value}
    {f_is_word : Addr} {od_is_word an_is_word : Option Addr} {sl_is_word : Array (Option Value)} {oc_is_word kV_is_word dc_is_word pm_is_word cd_is_word ct_is_word : Value}
    {f_is_integer : Addr} {od_is_integer an_is_integer : Option Addr} {sl_is_integer : Array (Option Value)} {oc_is_integer kV_is_integer dc_is_integer pm_is_integer cd_is_integer ct_is_integer : Value}
    {f_is_list : Addr} {od_is_list an_is_list : Option Addr} {sl_is_list : Array (Option Value)} {oc_is_list kV_is_list dc_is_list pm_is_list cd_is_list ct_is_list : Value}
    {f_is_modes : Addr} {od_is_modes an_is_modes : Option Addr} {sl_is_modes : Array (Option Value)} {oc_is_modes kV_is_modes dc_is_modes pm_is_modes cd_is_modes ct_is_modes : Value}
    {f_is_field : Addr} {od_is_field an_is_field : Option Addr} {sl_is_field : Array (Option Value)} {oc_is_field kV_is_field dc_is_field pm_is_field cd_is_field ct_is_field : Value}
    {f_kept_fields : Addr} {od_kept_fields an_kept_fields : Option Addr} {sl_kept_fields : Array (Option Value)} {oc_kept_fields kV_kept_fields dc_kept_fields pm_kept_fields cd_kept_fields ct_kept_fields : Value}
    {f_is_many : Addr} {od_is_many an_is_many : Option Addr} {sl_is_many : Array (Option Value)} {oc_is_many kV_is_many dc_is_many pm_is_many cd_is_many ct_is_many : Value}
    {f_is_deed : Addr} {od_is_deed an_is_deed : Option Addr} {sl_is_deed : Array (Option Value)} {oc_is_deed kV_is_deed dc_is_deed pm_is_deed cd_is_deed ct_is_deed : Value}
    {f_are_moves : Addr} {od_are_moves an_are_moves : Option Addr} {sl_are_moves : Array (Option Value)} {oc_are_moves kV_are_moves dc_are_moves pm_are_moves cd_are_moves ct_are_moves : Value}
    {f_has_call_form : Addr} {od_has_call_form an_has_call_form : Option Addr} {sl_has_call_form : Array (Option Value)} {oc_has_call_form kV_has_call_form dc_has_call_form pm_has_call_form cd_has_call_form ct_has_call_form : Value}
    {f_are_deeds : Addr} {od_are_deeds an_are_deeds : Option Addr} {sl_are_deeds : Array (Option Value)} {oc_are_deeds kV_are_deeds dc_are_deeds pm_are_deeds cd_are_deeds ct_are_deeds : Value}
    {f_is_same : Addr} {od_is_same an_is_same : Option Addr} {sl_is_same : Array (Option Value)} {oc_is_same kV_is_same dc_is_same pm_is_same cd_is_same ct_is_same : Value}
    {f_kept_call : Addr} {od_kept_call an_kept_call : Option Addr} {sl_kept_call : Array (Option Value)} {oc_kept_call kV_kept_call dc_kept_call pm_kept_call cd_kept_call ct_kept_call : Value}
    {f_wrong_part : Addr} {od_wrong_part an_wrong_part : Option Addr} {sl_wrong_part : Array (Option Value)} {oc_wrong_part kV_wrong_part dc_wrong_part pm_wrong_part cd_wrong_part ct_wrong_part : Value}
    {f_kept_calls : Addr} {od_kept_calls an_kept_calls : Option Addr} {sl_kept_calls : Array (Option Value)} {oc_kept_calls kV_kept_calls dc_kept_calls pm_kept_calls cd_kept_calls ct_kept_calls : Value}
    {cl Pl : Addr} {ocl : Value} {odl : Option Addr} {vsl : Array Value} {sll : Array (Option Value)}
    {f_law : Addr} {od_law an_law : Option Addr} {sl_law : Array (Option Value)} {oc_law kV_law dc_law pm_law ct_law : Value}
    {C_Kind : Addr}
    {C_BadField : Addr}
    {C_BadModes : Addr}
    {C_BadCall : Addr}
    {C_UnknownCall : Addr}
    {C_BadPlace : Addr}
    {C_BadText : Addr}
    {C_BadRow : Addr}
    {C_MakerError : Addr}
    {f_kinit : Addr} {od_kinit an_kinit : Option Addr} {sl_kinit : Array (Option Value)} {oc_kinit kV_kinit dc_kinit pm_kinit cd_kinit ct_kinit : Value}
    {f_klen : Addr} {od_klen an_klen : Option Addr} {sl_klen : Array (Option Value)} {oc_klen kV_klen dc_klen pm_klen cd_klen ct_klen : Value}
    {f_iF : Addr} {od_iF an_iF : Option Addr} {sl_iF : Array (Option Value)} {oc_iF kV_iF dc_iF pm_iF cd_iF ct_iF : Value}
    {f_iM : Addr} {od_iM an_iM : Option Addr} {sl_iM : Array (Option Value)} {oc_iM kV_iM dc_iM pm_iM cd_iM ct_iM : Value}
    {f_iC : Addr} {od_iC an_iC : Option Addr} {sl_iC : Array (Option Value)} {oc_iC kV_iC dc_iC pm_iC cd_iC ct_iC : Value}
    {tk_MOST_LETTERS : Tok}
    {tk_MOST_FIELDS : Tok}
    {tk_MOST_MODES : Tok}
    {tk_MOST_CALLS : Tok}
    {tk_MOST_DEEDS : Tok}
    {A_sorts : Addr}
    {A_hands : Addr}
    {A_wd : Addr}
    {A_lwd : Addr}
    {A_sod : Addr}
    {A_sod_set : Addr}
    {A_sod_add : Addr}
    {A_sod_strike : Addr}
    {A_sod_fresh : Addr}
    {A_sod_clear : Addr}
    (a_fresh : PySem.W.nsIn K mainGlobals "_law_fresh" = some (some (.ref f_fresh)))
    (l_fresh : K.lookup f_fresh = some ⟨oc_fresh, od_fresh, .func (PySem.W.fnOf "_law_fresh" "_law_fresh" (defArgs s_fresh) (defBody s_fresh) (defScope s_fresh) .none kV_fresh dc_fresh pm_fresh an_fresh cd_fresh ct_fresh), sl_fresh⟩)
    (c_fresh : PySem.W.codeIn K cd_fresh "_law_fresh" = true)
    (k_fresh : PySem.W.keepIn K (.ref f_fresh) = true)
    (a_fill : PySem.W.nsIn K mainGlobals "_law_fill" = some (some (.ref f_fill)))
    (l_fill : K.lookup f_fill = some ⟨oc_fill, od_fill, .func (PySem.W.fnOf "_law_fill" "_law_fill" (defArgs s_fill) (defBody s_fill) (defScope s_fill) .none kV_fill dc_fill pm_fill an_fill cd_fill ct_fill), sl_fill⟩)
    (c_fill : PySem.W.codeIn K cd_fill "_law_fill" = true)
    (k_fill : PySem.W.keepIn K (.ref f_fill) = true)
    (a_take : PySem.W.nsIn K mainGlobals "_law_take" = some (some (.ref f_take)))
    (l_take : K.lookup f_take = some ⟨oc_take, od_take, .func (PySem.W.fnOf "_law_take" "_law_take" (defArgs s_take) (defBody s_take) (defScope s_take) .none kV_take dc_take pm_take an_take cd_take ct_take), sl_take⟩)
    (c_take : PySem.W.codeIn K cd_take "_law_take" = true)
    (k_take : PySem.W.keepIn K (.ref f_take) = true)
    (a_one : PySem.W.nsIn K mainGlobals "_law_one" = some (some (.ref f_one)))
    (l_one : K.lookup f_one = some ⟨oc_one, od_one, .func (PySem.W.fnOf "_law_one" "_law_one" (defArgs s_one) (defBody s_one) (defScope s_one) .none kV_one dc_one pm_one an_one cd_one ct_one), sl_one⟩)
    (c_one : PySem.W.codeIn K cd_one "_law_one" = true)
    (k_one : PySem.W.keepIn K (.ref f_one) = true)
    (a_mix : PySem.W.nsIn K mainGlobals "_law_mix" = some (some (.ref f_mix)))
    (l_mix : K.lookup f_mix = some ⟨oc_mix, od_mix, .func (PySem.W.fnOf "_law_mix" "_law_mix" (defArgs s_mix) (defBody s_mix) (defScope s_mix) .none kV_mix dc_mix pm_mix an_mix cd_mix ct_mix), sl_mix⟩)
    (c_mix : PySem.W.codeIn K cd_mix "_law_mix" = true)
    (k_mix : PySem.W.keepIn K (.ref f_mix) = true)
    (a_same : PySem.W.nsIn K mainGlobals "_law_same" = some (some (.ref f_same)))
    (l_same : K.lookup f_same = some ⟨oc_same, od_same, .func (PySem.W.fnOf "_law_same" "_law_same" (defArgs s_same) (defBody s_same) (defScope s_same) .none kV_same dc_same pm_same an_same cd_same ct_same), sl_same⟩)
    (c_same : PySem.W.codeIn K cd_same "_law_same" = true)
    (k_same : PySem.W.keepIn K (.ref f_same) = true)
    (a_tried : PySem.W.nsIn K mainGlobals "_law_tried" = some (some (.ref f_tried)))
    (l_tried : K.lookup f_tried = some ⟨oc_tried, od_tried, .func (PySem.W.fnOf "_law_tried" "_law_tried" (defArgs s_tried) (defBody s_tried) (defScope s_tried) .none kV_tried dc_tried pm_tried an_tried cd_tried ct_tried), sl_tried⟩)
    (c_tried : PySem.W.codeIn K cd_tried "_law_tried" = true)
    (k_tried : PySem.W.keepIn K (.ref f_tried) = true)
    (a_error : PySem.W.nsIn K mainGlobals "_law_error" = some (some (.ref f_error)))
    (l_error : K.lookup f_error = some ⟨oc_error, od_error, .func (PySem.W.fnOf "_law_error" "_law_error" (defArgs s_error) (defBody s_error) (defScope s_error) .none kV_error dc_error pm_error an_error cd_error ct_error), sl_error⟩)
    (c_error : PySem.W.codeIn K cd_error "_law_error" = true)
    (k_error : PySem.W.keepIn K (.ref f_error) = true)
    (a_plan : PySem.W.nsIn K mainGlobals "_law_plan" = some (some (.ref f_plan)))
    (l_plan : K.lookup f_plan = some ⟨oc_plan, od_plan, .func (PySem.W.fnOf "_law_plan" "_law_plan" (defArgs s_plan) (defBody s_plan) (defScope s_plan) .none kV_plan dc_plan pm_plan an_plan cd_plan ct_plan), sl_plan⟩)
    (c_plan : PySem.W.codeIn K cd_plan "_law_plan" = true)
    (k_plan : PySem.W.keepIn K (.ref f_plan) = true)
    (a_deeds : PySem.W.nsIn K mainGlobals "_law_deeds" = some (some (.ref f_deeds)))
    (l_deeds : K.lookup f_deeds = some ⟨oc_deeds, od_deeds, .func (PySem.W.fnOf "_law_deeds" "_law_deeds" (defArgs s_deeds) (defBody s_deeds) (defScope s_deeds) .none kV_deeds dc_deeds pm_deeds an_deeds cd_deeds ct_deeds), sl_deeds⟩)
    (c_deeds : PySem.W.codeIn K cd_deeds "_law_deeds" = true)
    (k_deeds : PySem.W.keepIn K (.ref f_deeds) = true)
    (a_call : PySem.W.nsIn K mainGlobals "_law_call" = some (some (.ref f_call)))
    (l_call : K.lookup f_call = some ⟨oc_call, od_call, .func (PySem.W.fnOf "_law_call" "_law_call" (defArgs s_call) (defBody s_call) (defScope s_call) .none kV_call dc_call pm_call an_call cd_call ct_call), sl_call⟩)
    (c_call : PySem.W.codeIn K cd_call "_law_call" = true)
    (k_call : PySem.W.keepIn K (.ref f_call) = true)
    (a_kind : PySem.W.nsIn K mainGlobals "_law_kind" = some (some (.ref f_kind)))
    (l_kind : K.lookup f_kind = some ⟨oc_kind, od_kind, .func (PySem.W.fnOf "_law_kind" "_law_kind" (defArgs s_kind) (defBody s_kind) (defScope s_kind) .none kV_kind dc_kind pm_kind an_kind cd_kind ct_kind), sl_kind⟩)
    (c_kind : PySem.W.codeIn K cd_kind "_law_kind" = true)
    (k_kind : PySem.W.keepIn K (.ref f_kind) = true)
    (a_l_is_word : PySem.W.nsIn K mainGlobals "_law_is_word" = some (some (.ref f_l_is_word)))
    (l_l_is_word : K.lookup f_l_is_word = some ⟨oc_l_is_word, od_l_is_word, .func (PySem.W.fnOf "_law_is_word" "_law_is_word" (defArgs s_l_is_word) (defBody s_l_is_word) (defScope s_l_is_word) .none kV_l_is_word dc_l_is_word pm_l_is_word an_l_is_word cd_l_is_word ct_l_is_word), sl_l_is_word⟩)
    (c_l_is_word : PySem.W.codeIn K cd_l_is_word "_law_is_word" = true)
    (k_l_is_word : PySem.W.keepIn K (.ref f_l_is_word) = true)
    (a_is_number : PySem.W.nsIn K mainGlobals "_law_is_number" = some (some (.ref f_is_number)))
    (l_is_number : K.lookup f_is_number = some ⟨oc_is_number, od_is_number, .func (PySem.W.fnOf "_law_is_number" "_law_is_number" (defArgs s_is_number) (defBody s_is_number) (defScope s_is_number) .none kV_is_number dc_is_number pm_is_number an_is_number cd_is_number ct_is_number), sl_is_number⟩)
    (c_is_number : PySem.W.codeIn K cd_is_number "_law_is_number" = true)
    (k_is_number : PySem.W.keepIn K (.ref f_is_number) = true)
    (a_l_is_list : PySem.W.nsIn K mainGlobals "_law_is_list" = some (some (.ref f_l_is_list)))
    (l_l_is_list : K.lookup f_l_is_list = some ⟨oc_l_is_list, od_l_is_list, .func (PySem.W.fnOf "_law_is_list" "_law_is_list" (defArgs s_l_is_list) (defBody s_l_is_list) (defScope s_l_is_list) .none kV_l_is_list dc_l_is_list pm_l_is_list an_l_is_list cd_l_is_list ct_l_is_list), sl_l_is_list⟩)
    (c_l_is_list : PySem.W.codeIn K cd_l_is_list "_law_is_list" = true)
    (k_l_is_list : PySem.W.keepIn K (.ref f_l_is_list) = true)
    (a_l_are_deeds : PySem.W.nsIn K mainGlobals "_law_are_deeds" = some (some (.ref f_l_are_deeds)))
    (l_l_are_deeds : K.lookup f_l_are_deeds = some ⟨oc_l_are_deeds, od_l_are_deeds, .func (PySem.W.fnOf "_law_are_deeds" "_law_are_deeds" (defArgs s_l_are_deeds) (defBody s_l_are_deeds) (defScope s_l_are_deeds) .none kV_l_are_deeds dc_l_are_deeds pm_l_are_deeds an_l_are_deeds cd_l_are_deeds ct_l_are_deeds), sl_l_are_deeds⟩)
    (c_l_are_deeds : PySem.W.codeIn K cd_l_are_deeds "_law_are_deeds" = true)
    (k_l_are_deeds : PySem.W.keepIn K (.ref f_l_are_deeds) = true)
    (a_call_reason : PySem.W.nsIn K mainGlobals "_law_call_reason" = some (some (.ref f_call_reason)))
    (l_call_reason : K.lookup f_call_reason = some ⟨oc_call_reason, od_call_reason, .func (PySem.W.fnOf "_law_call_reason" "_law_call_reason" (defArgs s_call_reason) (defBody s_call_reason) (defScope s_call_reason) .none kV_call_reason dc_call_reason pm_call_reason an_call_reason cd_call_reason ct_call_reason), sl_call_reason⟩)
    (c_call_reason : PySem.W.codeIn K cd_call_reason "_law_call_reason" = true)
    (k_call_reason : PySem.W.keepIn K (.ref f_call_reason) = true)
    (a_kind_due : PySem.W.nsIn K mainGlobals "_law_kind_due" = some (some (.ref f_kind_due)))
    (l_kind_due : K.lookup f_kind_due = some ⟨oc_kind_due, od_kind_due, .func (PySem.W.fnOf "_law_kind_due" "_law_kind_due" (defArgs s_kind_due) (defBody s_kind_due) (defScope s_kind_due) .none kV_kind_due dc_kind_due pm_kind_due an_kind_due cd_kind_due ct_kind_due), sl_kind_due⟩)
    (c_kind_due : PySem.W.codeIn K cd_kind_due "_law_kind_due" = true)
    (k_kind_due : PySem.W.keepIn K (.ref f_kind_due) = true)
    (a_bent_call : PySem.W.nsIn K mainGlobals "_law_bent_call" = some (some (.ref f_bent_call)))
    (l_bent_call : K.lookup f_bent_call = some ⟨oc_bent_call, od_bent_call, .func (PySem.W.fnOf "_law_bent_call" "_law_bent_call" (defArgs s_bent_call) (defBody s_bent_call) (defScope s_bent_call) .none kV_bent_call dc_bent_call pm_bent_call an_bent_call cd_bent_call ct_bent_call), sl_bent_call⟩)
    (c_bent_call : PySem.W.codeIn K cd_bent_call "_law_bent_call" = true)
    (k_bent_call : PySem.W.keepIn K (.ref f_bent_call) = true)
    (a_bent_field : PySem.W.nsIn K mainGlobals "_law_bent_field" = some (some (.ref f_bent_field)))
    (l_bent_field : K.lookup f_bent_field = some ⟨oc_bent_field, od_bent_field, .func (PySem.W.fnOf "_law_bent_field" "_law_bent_field" (defArgs s_bent_field) (defBody s_bent_field) (defScope s_bent_field) .none kV_bent_field dc_bent_field pm_bent_field an_bent_field cd_bent_field ct_bent_field), sl_bent_field⟩)
    (c_bent_field : PySem.W.codeIn K cd_bent_field "_law_bent_field" = true)
    (k_bent_field : PySem.W.keepIn K (.ref f_bent_field) = true)
    (a_is_word : PySem.W.nsIn K mainGlobals "is_word" = some (some (.ref f_is_word)))
    (l_is_word : K.lookup f_is_word = some ⟨oc_is_word, od_is_word, .func (PySem.W.fnOf "is_word" "is_word" (defArgs s_is_word) (defBody s_is_word) (defScope s_is_word) .none kV_is_word dc_is_word pm_is_word an_is_word cd_is_word ct_is_word), sl_is_word⟩)
    (c_is_word : PySem.W.codeIn K cd_is_word "is_word" = true)
    (k_is_word : PySem.W.keepIn K (.ref f_is_word) = true)
    (a_is_integer : PySem.W.nsIn K mainGlobals "is_integer" = some (some (.ref f_is_integer)))
    (l_is_integer : K.lookup f_is_integer = some ⟨oc_is_integer, od_is_integer, .func (PySem.W.fnOf "is_integer" "is_integer" (defArgs s_is_integer) (defBody s_is_integer) (defScope s_is_integer) .none kV_is_integer dc_is_integer pm_is_integer an_is_integer cd_is_integer ct_is_integer), sl_is_integer⟩)
    (c_is_integer : PySem.W.codeIn K cd_is_integer "is_integer" = true)
    (k_is_integer : PySem.W.keepIn K (.ref f_is_integer) = true)
    (a_is_list : PySem.W.nsIn K mainGlobals "is_list" = some (some (.ref f_is_list)))
    (l_is_list : K.lookup f_is_list = some ⟨oc_is_list, od_is_list, .func (PySem.W.fnOf "is_list" "is_list" (defArgs s_is_list) (defBody s_is_list) (defScope s_is_list) .none kV_is_list dc_is_list pm_is_list an_is_list cd_is_list ct_is_list), sl_is_list⟩)
    (c_is_list : PySem.W.codeIn K cd_is_list "is_list" = true)
    (k_is_list : PySem.W.keepIn K (.ref f_is_list) = true)
    (a_is_modes : PySem.W.nsIn K mainGlobals "is_modes" = some (some (.ref f_is_modes)))
    (l_is_modes : K.lookup f_is_modes = some ⟨oc_is_modes, od_is_modes, .func (PySem.W.fnOf "is_modes" "is_modes" (defArgs s_is_modes) (defBody s_is_modes) (defScope s_is_modes) .none kV_is_modes dc_is_modes pm_is_modes an_is_modes cd_is_modes ct_is_modes), sl_is_modes⟩)
    (c_is_modes : PySem.W.codeIn K cd_is_modes "is_modes" = true)
    (k_is_modes : PySem.W.keepIn K (.ref f_is_modes) = true)
    (a_is_field : PySem.W.nsIn K mainGlobals "is_field" = some (some (.ref f_is_field)))
    (l_is_field : K.lookup f_is_field = some ⟨oc_is_field, od_is_field, .func (PySem.W.fnOf "is_field" "is_field" (defArgs s_is_field) (defBody s_is_field) (defScope s_is_field) .none kV_is_field dc_is_field pm_is_field an_is_field cd_is_field ct_is_field), sl_is_field⟩)
    (c_is_field : PySem.W.codeIn K cd_is_field "is_field" = true)
    (k_is_field : PySem.W.keepIn K (.ref f_is_field) = true)
    (a_kept_fields : PySem.W.nsIn K mainGlobals "kept_fields" = some (some (.ref f_kept_fields)))
    (l_kept_fields : K.lookup f_kept_fields = some ⟨oc_kept_fields, od_kept_fields, .func (PySem.W.fnOf "kept_fields" "kept_fields" (defArgs s_kept_fields) (defBody s_kept_fields) (defScope s_kept_fields) .none kV_kept_fields dc_kept_fields pm_kept_fields an_kept_fields cd_kept_fields ct_kept_fields), sl_kept_fields⟩)
    (c_kept_fields : PySem.W.codeIn K cd_kept_fields "kept_fields" = true)
    (k_kept_fields : PySem.W.keepIn K (.ref f_kept_fields) = true)
    (a_is_many : PySem.W.nsIn K mainGlobals "is_many" = some (some (.ref f_is_many)))
    (l_is_many : K.lookup f_is_many = some ⟨oc_is_many, od_is_many, .func (PySem.W.fnOf "is_many" "is_many" (defArgs s_is_many) (defBody s_is_many) (defScope s_is_many) .none kV_is_many dc_is_many pm_is_many an_is_many cd_is_many ct_is_many), sl_is_many⟩)
    (c_is_many : PySem.W.codeIn K cd_is_many "is_many" = true)
    (k_is_many : PySem.W.keepIn K (.ref f_is_many) = true)
    (a_is_deed : PySem.W.nsIn K mainGlobals "is_deed" = some (some (.ref f_is_deed)))
    (l_is_deed : K.lookup f_is_deed = some ⟨oc_is_deed, od_is_deed, .func (PySem.W.fnOf "is_deed" "is_deed" (defArgs s_is_deed) (defBody s_is_deed) (defScope s_is_deed) .none kV_is_deed dc_is_deed pm_is_deed an_is_deed cd_is_deed ct_is_deed), sl_is_deed⟩)
    (c_is_deed : PySem.W.codeIn K cd_is_deed "is_deed" = true)
    (k_is_deed : PySem.W.keepIn K (.ref f_is_deed) = true)
    (a_are_moves : PySem.W.nsIn K mainGlobals "are_moves" = some (some (.ref f_are_moves)))
    (l_are_moves : K.lookup f_are_moves = some ⟨oc_are_moves, od_are_moves, .func (PySem.W.fnOf "are_moves" "are_moves" (defArgs s_are_moves) (defBody s_are_moves) (defScope s_are_moves) .none kV_are_moves dc_are_moves pm_are_moves an_are_moves cd_are_moves ct_are_moves), sl_are_moves⟩)
    (c_are_moves : PySem.W.codeIn K cd_are_moves "are_moves" = true)
    (k_are_moves : PySem.W.keepIn K (.ref f_are_moves) = true)
    (a_has_call_form : PySem.W.nsIn K mainGlobals "has_call_form" = some (some (.ref f_has_call_form)))
    (l_has_call_form : K.lookup f_has_call_form = some ⟨oc_has_call_form, od_has_call_form, .func (PySem.W.fnOf "has_call_form" "has_call_form" (defArgs s_has_call_form) (defBody s_has_call_form) (defScope s_has_call_form) .none kV_has_call_form dc_has_call_form pm_has_call_form an_has_call_form cd_has_call_form ct_has_call_form), sl_has_call_form⟩)
    (c_has_call_form : PySem.W.codeIn K cd_has_call_form "has_call_form" = true)
    (k_has_call_form : PySem.W.keepIn K (.ref f_has_call_form) = true)
    (a_are_deeds : PySem.W.nsIn K mainGlobals "are_deeds" = some (some (.ref f_are_deeds)))
    (l_are_deeds : K.lookup f_are_deeds = some ⟨oc_are_deeds, od_are_deeds, .func (PySem.W.fnOf "are_deeds" "are_deeds" (defArgs s_are_deeds) (defBody s_are_deeds) (defScope s_are_deeds) .none kV_are_deeds dc_are_deeds pm_are_deeds an_are_deeds cd_are_deeds ct_are_deeds), sl_are_deeds⟩)
    (c_are_deeds : PySem.W.codeIn K cd_are_deeds "are_deeds" = true)
    (k_are_deeds : PySem.W.keepIn K (.ref f_are_deeds) = true)
    (a_is_same : PySem.W.nsIn K mainGlobals "is_same" = some (some (.ref f_is_same)))
    (l_is_same : K.lookup f_is_same = some ⟨oc_is_same, od_is_same, .func (PySem.W.fnOf "is_same" "is_same" (defArgs s_is_same) (defBody s_is_same) (defScope s_is_same) .none kV_is_same dc_is_same pm_is_same an_is_same cd_is_same ct_is_same), sl_is_same⟩)
    (c_is_same : PySem.W.codeIn K cd_is_same "is_same" = true)
    (k_is_same : PySem.W.keepIn K (.ref f_is_same) = true)
    (a_kept_call : PySem.W.nsIn K mainGlobals "kept_call" = some (some (.ref f_kept_call)))
    (l_kept_call : K.lookup f_kept_call = some ⟨oc_kept_call, od_kept_call, .func (PySem.W.fnOf "kept_call" "kept_call" (defArgs s_kept_call) (defBody s_kept_call) (defScope s_kept_call) .none kV_kept_call dc_kept_call pm_kept_call an_kept_call cd_kept_call ct_kept_call), sl_kept_call⟩)
    (c_kept_call : PySem.W.codeIn K cd_kept_call "kept_call" = true)
    (k_kept_call : PySem.W.keepIn K (.ref f_kept_call) = true)
    (a_wrong_part : PySem.W.nsIn K mainGlobals "wrong_part" = some (some (.ref f_wrong_part)))
    (l_wrong_part : K.lookup f_wrong_part = some ⟨oc_wrong_part, od_wrong_part, .func (PySem.W.fnOf "wrong_part" "wrong_part" (defArgs s_wrong_part) (defBody s_wrong_part) (defScope s_wrong_part) .none kV_wrong_part dc_wrong_part pm_wrong_part an_wrong_part cd_wrong_part ct_wrong_part), sl_wrong_part⟩)
    (c_wrong_part : PySem.W.codeIn K cd_wrong_part "wrong_part" = true)
    (k_wrong_part : PySem.W.keepIn K (.ref f_wrong_part) = true)
    (a_kept_calls : PySem.W.nsIn K mainGlobals "kept_calls" = some (some (.ref f_kept_calls)))
    (l_kept_calls : K.lookup f_kept_calls = some ⟨oc_kept_calls, od_kept_calls, .func (PySem.W.fnOf "kept_calls" "kept_calls" (defArgs s_kept_calls) (defBody s_kept_calls) (defScope s_kept_calls) .none kV_kept_calls dc_kept_calls pm_kept_calls an_kept_calls cd_kept_calls ct_kept_calls), sl_kept_calls⟩)
    (c_kept_calls : PySem.W.codeIn K cd_kept_calls "kept_calls" = true)
    (k_kept_calls : PySem.W.keepIn K (.ref f_kept_calls) = true)
    (a_law : PySem.W.nsIn K mainGlobals "law" = some (some (.ref f_law)))
    (l_law : K.lookup f_law = some ⟨oc_law, od_law, .func (PySem.W.fnOf "law" "law" (defArgs s_law) (defBody s_law) (defScope s_law) .none kV_law dc_law pm_law an_law (.ref cl) ct_law), sl_law⟩)
    (c_law : PySem.W.codeIn K (.ref cl) "law" = true)
    (k_law : PySem.W.keepIn K (.ref f_law) = true)
    (lcl : K.lookup cl = some ⟨ocl, odl, .fields vsl, sll⟩)
    (aC_Kind : PySem.W.nsIn K mainGlobals "Kind" = some (some (.ref C_Kind)))
    (aC_BadField : PySem.W.nsIn K mainGlobals "BadField" = some (some (.ref C_BadField)))
    (aC_BadModes : PySem.W.nsIn K mainGlobals "BadModes" = some (some (.ref C_BadModes)))
    (aC_BadCall : PySem.W.nsIn K mainGlobals "BadCall" = some (some (.ref C_BadCall)))
    (aC_UnknownCall : PySem.W.nsIn K mainGlobals "UnknownCall" = some (some (.ref C_UnknownCall)))
    (aC_BadPlace : PySem.W.nsIn K mainGlobals "BadPlace" = some (some (.ref C_BadPlace)))
    (aC_BadText : PySem.W.nsIn K mainGlobals "BadText" = some (some (.ref C_BadText)))
    (aC_BadRow : PySem.W.nsIn K mainGlobals "BadRow" = some (some (.ref C_BadRow)))
    (aC_MakerError : PySem.W.nsIn K mainGlobals "MakerError" = some (some (.ref C_MakerError)))
    (m_kinit : PySem.W.findIn K (.ref C_Kind) "__init__" = some (some (.ref f_kinit)))
    (l_kinit : K.lookup f_kinit = some ⟨oc_kinit, od_kinit, .func (PySem.W.fnOf "__init__" "Kind.__init__" (defArgs s_Kind_init) (defBody s_Kind_init) (defScope s_Kind_init) .none kV_kinit dc_kinit pm_kinit an_kinit cd_kinit ct_kinit), sl_kinit⟩)
    (c_kinit : PySem.W.codeIn K cd_kinit "Kind.__init__" = true)
    (k_kinit : PySem.W.keepIn K (.ref f_kinit) = true)
    (fn_kinit : PySem.W.isFn K (.ref f_kinit) = true)
    (m_klen : PySem.W.findIn K (.ref C_Kind) "__len__" = some (some (.ref f_klen)))
    (l_klen : K.lookup f_klen = some ⟨oc_klen, od_klen, .func (PySem.W.fnOf "__len__" "Kind.__len__" (defArgs s_Kind_len) (defBody s_Kind_len) (defScope s_Kind_len) .none kV_klen dc_klen pm_klen an_klen cd_klen ct_klen), sl_klen⟩)
    (c_klen : PySem.W.codeIn K cd_klen "Kind.__len__" = true)
    (k_klen : PySem.W.keepIn K (.ref f_klen) = true)
    (fn_klen : PySem.W.isFn K (.ref f_klen) = true)
    (m_iF : PySem.W.findIn K (.ref C_BadField) "__init__" = some (some (.ref f_iF)))
    (l_iF : K.lookup f_iF = some ⟨oc_iF, od_iF, .func (PySem.W.fnOf "__init__" "BadField.__init__" (defArgs s_BadField_init) (defBody s_BadField_init) (defScope s_BadField_init) .none kV_iF dc_iF pm_iF an_iF cd_iF ct_iF), sl_iF⟩)
    (c_iF : PySem.W.codeIn K cd_iF "BadField.__init__" = true)
    (k_iF : PySem.W.keepIn K (.ref f_iF) = true)
    (fn_iF : PySem.W.isFn K (.ref f_iF) = true)
    (m_iM : PySem.W.findIn K (.ref C_BadModes) "__init__" = some (some (.ref f_iM)))
    (l_iM : K.lookup f_iM = some ⟨oc_iM, od_iM, .func (PySem.W.fnOf "__init__" "BadModes.__init__" (defArgs s_BadModes_init) (defBody s_BadModes_init) (defScope s_BadModes_init) .none kV_iM dc_iM pm_iM an_iM cd_iM ct_iM), sl_iM⟩)
    (c_iM : PySem.W.codeIn K cd_iM "BadModes.__init__" = true)
    (k_iM : PySem.W.keepIn K (.ref f_iM) = true)
    (fn_iM : PySem.W.isFn K (.ref f_iM) = true)
    (m_iC : PySem.W.findIn K (.ref C_BadCall) "__init__" = some (some (.ref f_iC)))
    (l_iC : K.lookup f_iC = some ⟨oc_iC, od_iC, .func (PySem.W.fnOf "__init__" "BadCall.__init__" (defArgs s_BadCall_init) (defBody s_BadCall_init) (defScope s_BadCall_init) .none kV_iC dc_iC pm_iC an_iC cd_iC ct_iC), sl_iC⟩)
    (c_iC : PySem.W.codeIn K cd_iC "BadCall.__init__" = true)
    (k_iC : PySem.W.keepIn K (.ref f_iC) = true)
    (fn_iC : PySem.W.isFn K (.ref f_iC) = true)
    (t_iF : PySem.W.typeIn K (.ref f_iF) = some (.type "function"))
    (t_iM : PySem.W.typeIn K (.ref f_iM) = some (.type "function"))
    (t_iC : PySem.W.typeIn K (.ref f_iC) = some (.type "function"))
    (n_F : PySem.W.findIn K (.ref C_BadField) "index" = some none)
    (n_M : PySem.W.findIn K (.ref C_BadModes) "modes" = some none)
    (n_C : PySem.W.findIn K (.ref C_BadCall) "index" = some none)
    (r_C : PySem.W.findIn K (.ref C_BadCall) "reason" = some none)
    (kc_mk : PySem.W.makesIn K C_Kind = true)
    (kc_kp : PySem.W.keepIn K (.ref C_Kind) = true)
    (kc_pg : PySem.W.plainGet K C_Kind Str.empty = true)
    (kc_hd : PySem.W.hasDictIn K C_Kind = true)
    (kc_po : PySem.W.plainOver K C_Kind = true)
    (kc_sa : PySem.W.findIn K (.ref C_Kind) "__setattr__" = some (some (.builtin "object.__setattr__")))
    (kn_triples : PySem.W.findIn K (.ref C_Kind) "triples" = some none)
    (kn_sorts : PySem.W.findIn K (.ref C_Kind) "sorts" = some none)
    (kn_spots : PySem.W.findIn K (.ref C_Kind) "spots" = some none)
    (kn_modes : PySem.W.findIn K (.ref C_Kind) "modes" = some none)
    (kn_steps : PySem.W.findIn K (.ref C_Kind) "steps" = some none)
    (kn_table : PySem.W.findIn K (.ref C_Kind) "table" = some none)
    (z_len : PySem.W.nsIn K mainGlobals "len" = some none)
    (z_int : PySem.W.nsIn K mainGlobals "int" = some none)
    (z_enumerate : PySem.W.nsIn K mainGlobals "enumerate" = some none)
    (z_list : PySem.W.nsIn K mainGlobals "list" = some none)
    (z_tuple : PySem.W.nsIn K mainGlobals "tuple" = some none)
    (z_isinstance : PySem.W.nsIn K mainGlobals "isinstance" = some none)
    (z_range : PySem.W.nsIn K mainGlobals "range" = some none)
    (z_all : PySem.W.nsIn K mainGlobals "all" = some none)
    (z_zip : PySem.W.nsIn K mainGlobals "zip" = some none)
    (z_ValueError : PySem.W.nsIn K mainGlobals "ValueError" = some none)
    (z_bool : PySem.W.nsIn K mainGlobals "bool" = some none)
    (z_str : PySem.W.nsIn K mainGlobals "str" = some none)
    (z_set : PySem.W.nsIn K mainGlobals "set" = some none)
    (z_any : PySem.W.nsIn K mainGlobals "any" = some none)
    (v_MOST_LETTERS : PySem.W.nsIn K mainGlobals "MOST_LETTERS" = some (some (.int 8 tk_MOST_LETTERS)))
    (v_MOST_FIELDS : PySem.W.nsIn K mainGlobals "MOST_FIELDS" = some (some (.int 3 tk_MOST_FIELDS)))
    (v_MOST_MODES : PySem.W.nsIn K mainGlobals "MOST_MODES" = some (some (.int 4 tk_MOST_MODES)))
    (v_MOST_CALLS : PySem.W.nsIn K mainGlobals "MOST_CALLS" = some (some (.int 6 tk_MOST_CALLS)))
    (v_MOST_DEEDS : PySem.W.nsIn K mainGlobals "MOST_DEEDS" = some (some (.int 4 tk_MOST_DEEDS)))
    (v_SORTS : PySem.W.nsIn K mainGlobals "SORTS" = some (some (.ref A_sorts)))
    (v_HANDS : PySem.W.nsIn K mainGlobals "HANDS" = some (some (.ref A_hands)))
    (v_WORD_DEEDS : PySem.W.nsIn K mainGlobals "WORD_DEEDS" = some (some (.ref A_wd)))
    (v_LIST_WORD_DEEDS : PySem.W.nsIn K mainGlobals "LIST_WORD_DEEDS" = some (some (.ref A_lwd)))
    (v_sod : PySem.W.nsIn K mainGlobals "SORTS_OF_DEEDS" = some (some (.ref A_sod)))
    (sd_set : PySem.W.nsIn K A_sod "set" = some (some (.ref A_sod_set)))
    (sd_add : PySem.W.nsIn K A_sod "add" = some (some (.ref A_sod_add)))
    (sd_strike : PySem.W.nsIn K A_sod "strike" = some (some (.ref A_sod_strike)))
    (sd_fresh : PySem.W.nsIn K A_sod "fresh" = some (some (.ref A_sod_fresh)))
    (sd_clear : PySem.W.nsIn K A_sod "clear" = some (some (.ref A_sod_clear)))
    (tu_sorts : tupB K A_sorts ["one", "many"] = true)
    (tu_hands : tupB K A_hands ["self", "new", "last"] = true)
    (tu_wd : tupB K A_wd ["set", "add", "strike"] = true)
    (tu_lwd : tupB K A_lwd ["add", "strike"] = true)
    (td_set : tupB K A_sod_set ["one"] = true)
    (td_add : tupB K A_sod_add ["many"] = true)
    (td_strike : tupB K A_sod_strike ["many"] = true)
    (td_fresh : tupB K A_sod_fresh ["many"] = true)
    (td_clear : tupB K A_sod_clear ["one", "many"] = true)
    (dsod : He.dicW K A_sod = some (He.keysIn w.params ["set", "add", "strike", "fresh", "clear"]))
    (tabl : vsl[11]? = some (.ref Pl))
    (nPl : K.lookup Pl = none)
    (o_BadField : oexB K C_BadField = true)
    (o_BadModes : oexB K C_BadModes = true)
    (o_BadCall : oexB K C_BadCall = true)
    (e_BadField : errB K C_BadField = true)
    (e_BadModes : errB K C_BadModes = true)
    (e_BadCall : errB K C_BadCall = true)
    (q_f1 : PySem.W.kitOne K (.ref C_BadField) (.ref C_BadField) = some true)
    (q_m1 : PySem.W.kitOne K (.ref C_BadModes) (.ref C_BadField) = some false)
    (q_m2 : PySem.W.kitOne K (.ref C_BadModes) (.ref C_BadModes) = some true)
    (q_c1 : PySem.W.kitOne K (.ref C_BadCall) (.ref C_BadField) = some false)
    (q_c2 : PySem.W.kitOne K (.ref C_BadCall) (.ref C_BadModes) = some false)
    (q_c3 : PySem.W.kitOne K (.ref C_BadCall) (.ref C_BadCall) = some true)
    (q_mF : PySem.W.exmOne K (.ref C_BadField) (.ref C_MakerError) = some true)
    (q_mM : PySem.W.exmOne K (.ref C_BadModes) (.ref C_MakerError) = some true)
    (q_mC : PySem.W.exmOne K (.ref C_BadCall) (.ref C_MakerError) = some true)
    : ∃ (fd : FuncData) (c P : Addr) (sp : Sp), PySem.W.tabIn K "law" = some (c, P) ∧ K.lookup P = none ∧ (∀ (s : Shared) (u : Value), BindsTo s fd ⟨[u], []⟩ [("_law_script", u)]) ∧
        (∀ (H : Hp) (a : Addr) (ns : List Int), ns.length ≤ 63 → H P = some (.tbl #[]) → SqL K H a (ns.map V.int) → sp [.ref a] H (fun v _ => v = .bl true) fun _ _ _ => False) ∧
        ∀ base : Heap, K.In base → base.Ns mainGlobals mg → LamX.TabB base mg c P → FnOk l.prog w K mg base CX0 12 fa fd ["_law_script"] sp := by
  have e := hfa.symm.trans (PySem.W.mg_of X G a_law)
  cases e
  have T : Txt K mg := ⟨PySem.W.mg_none_of X G z_len, PySem.W.mg_none_of X G z_int, PySem.W.mg_none_of X G z_enumerate, PySem.W.mg_none_of X G z_list, PySem.W.mg_none_of X G z_tuple, PySem.W.mg_none_of X G z_isinstance, PySem.W.mg_none_of X G z_range, PySem.W.mg_none_of X G z_all, PySem.W.mg_none_of X G z_zip, PySem.W.mg_none_of X G z_ValueError, PySem.W.mg_none_of X G z_bool, PySem.W.mg_none_of X G z_str, PySem.W.mg_none_of X G z_set, PySem.W.mg_none_of X G z_any⟩
  have F_fresh := def_mk (st := s_fresh) (ps := ["_law_script"]) X G a_fresh l_fresh c_fresh k_fresh fun _ _ _ _ _ _ us hl => match us, hl with | [_], _ => rfl
  have F_fill := def_mk (st := s_fill) (ps := ["_law_state"]) X G a_fill l_fill c_fill k_fill fun _ _ _ _ _ _ us hl => match us, hl with | [_], _ => rfl
  have F_take := def_mk (st := s_take) (ps := ["_law_state", "_law_many"]) X G a_take l_take c_take k_take fun _ _ _ _ _ _ us hl => match us, hl with | [_, _], _ => rfl
  have F_one := def_mk (st := s_one) (ps := ["_law_state", "_law_things"]) X G a_one l_one c_one k_one fun _ _ _ _ _ _ us hl => match us, hl with | [_, _], _ => rfl
  have F_mix := def_mk (st := s_mix) (ps := ["_law_state", "_law_things"]) X G a_mix l_mix c_mix k_mix fun _ _ _ _ _ _ us hl => match us, hl with | [_, _], _ => rfl
  have F_same := def_mk (st := s_same) (ps := ["_law_found", "_law_due"]) X G a_same l_same c_same k_same fun _ _ _ _ _ _ us hl => match us, hl with | [_, _], _ => rfl
  have F_tried := def_mk (st := s_tried) (ps := ["_law_deed"]) X G a_tried l_tried c_tried k_tried fun _ _ _ _ _ _ us hl => match us, hl with | [_], _ => rfl
  have F_error := def_mk (st := s_error) (ps := ["_law_e"]) X G a_error l_error c_error k_error fun _ _ _ _ _ _ us hl => match us, hl with | [_], _ => rfl
  have F_plan := def_mk (st := s_plan) (ps := ["_law_fields", "_law_calls", "_law_far"]) X G a_plan l_plan c_plan k_plan fun _ _ _ _ _ _ us hl => match us, hl with | [_, _, _], _ => rfl
  have F_deeds := def_mk (st := s_deeds) (ps := ["_law_state", "_law_fields", "_law_many"]) X G a_deeds l_deeds c_deeds k_deeds fun _ _ _ _ _ _ us hl => match us, hl with | [_, _, _], _ => rfl
  have F_call := def_mk (st := s_call) (ps := ["_law_state", "_law_name", "_law_hand", "_law_fields", "_law_far"]) X G a_call l_call c_call k_call fun _ _ _ _ _ _ us hl => match us, hl with | [_, _, _, _, _], _ => rfl
  have F_kind := def_mk (st := s_kind) (ps := ["_law_state", "_law_wide", "_law_many", "_law_far"]) X G a_kind l_kind c_kind k_kind fun _ _ _ _ _ _ us hl => match us, hl with | [_, _, _, _], _ => rfl
  have F_l_is_word := def_mk (st := s_l_is_word) (ps := ["_law_x"]) X G a_l_is_word l_l_is_word c_l_is_word k_l_is_word fun _ _ _ _ _ _ us hl => match us, hl with | [_], _ => rfl
  have F_is_number := def_mk (st := s_is_number) (ps := ["_law_x", "_law_low", "_law_high"]) X G a_is_number l_is_number c_is_number k_is_number fun _ _ _ _ _ _ us hl => match us, hl with | [_, _, _], _ => rfl
  have F_l_is_list := def_mk (st := s_l_is_list) (ps := ["_law_x"]) X G a_l_is_list l_l_is_list c_l_is_list k_l_is_list fun _ _ _ _ _ _ us hl => match us, hl with | [_], _ => rfl
  have F_l_are_deeds := def_mk (st := s_l_are_deeds) (ps := ["_law_deeds_here", "_law_sorts"]) X G a_l_are_deeds l_l_are_deeds c_l_are_deeds k_l_are_deeds fun _ _ _ _ _ _ us hl => match us, hl with | [_, _], _ => rfl
  have F_call_reason := def_mk (st := s_call_reason) (ps := ["_law_x", "_law_sorts", "_law_far", "_law_names"]) X G a_call_reason l_call_reason c_call_reason k_call_reason fun _ _ _ _ _ _ us hl => match us, hl with | [_, _, _, _], _ => rfl
  have F_kind_due := def_mk (st := s_kind_due) (ps := ["_law_fields", "_law_calls", "_law_far"]) X G a_kind_due l_kind_due c_kind_due k_kind_due fun _ _ _ _ _ _ us hl => match us, hl with | [_, _, _], _ => rfl
  have F_bent_call := def_mk (st := s_bent_call) (ps := ["_law_state", "_law_row", "_law_fields"]) X G a_bent_call l_bent_call c_bent_call k_bent_call fun _ _ _ _ _ _ us hl => match us, hl with | [_, _, _], _ => rfl
  have F_bent_field := def_mk (st := s_bent_field) (ps := ["_law_state", "_law_fields"]) X G a_bent_field l_bent_field c_bent_field k_bent_field fun _ _ _ _ _ _ us hl => match us, hl with | [_, _], _ => rfl
  have F_is_word := def_mk (st := s_is_word) (ps := ["thing"]) X G a_is_word l_is_word c_is_word k_is_word fun _ _ _ _ _ _ us hl => match us, hl with | [_], _ => rfl
  have F_is_integer := def_mk (st := s_is_integer) (ps := ["thing"]) X G a_is_integer l_is_integer c_is_integer k_is_integer fun _ _ _ _ _ _ us hl => match us, hl with | [_], _ => rfl
  have F_is_list := def_mk (st := s_is_list) (ps := ["thing"]) X G a_is_list l_is_list c_is_list k_is_list fun _ _ _ _ _ _ us hl => match us, hl with | [_], _ => rfl
  have F_is_modes := def_mk (st := s_is_modes) (ps := ["modes"]) X G a_is_modes l_is_modes c_is_modes k_is_modes fun _ _ _ _ _ _ us hl => match us, hl with | [_], _ => rfl
  have F_is_field := def_mk (st := s_is_field) (ps := ["item", "earlier"]) X G a_is_field l_is_field c_is_field k_is_field fun _ _ _ _ _ _ us hl => match us, hl with | [_, _], _ => rfl
  have F_kept_fields := def_mk (st := s_kept_fields) (ps := ["fields"]) X G a_kept_fields l_kept_fields c_kept_fields k_kept_fields fun _ _ _ _ _ _ us hl => match us, hl with | [_], _ => rfl
  have F_is_many := def_mk (st := s_is_many) (ps := ["field", "sorts"]) X G a_is_many l_is_many c_is_many k_is_many fun _ _ _ _ _ _ us hl => match us, hl with | [_, _], _ => rfl
  have F_is_deed := def_mk (st := s_is_deed) (ps := ["pair", "sorts"]) X G a_is_deed l_is_deed c_is_deed k_is_deed fun _ _ _ _ _ _ us hl => match us, hl with | [_, _], _ => rfl
  have F_are_moves := def_mk (st := s_are_moves) (ps := ["moves", "modes"]) X G a_are_moves l_are_moves c_are_moves k_are_moves fun _ _ _ _ _ _ us hl => match us, hl with | [_, _], _ => rfl
  have F_has_call_form := def_mk (st := s_has_call_form) (ps := ["item"]) X G a_has_call_form l_has_call_form c_has_call_form k_has_call_form fun _ _ _ _ _ _ us hl => match us, hl with | [_], _ => rfl
  have F_are_deeds := def_mk (st := s_are_deeds) (ps := ["deeds", "sorts"]) X G a_are_deeds l_are_deeds c_are_deeds k_are_deeds fun _ _ _ _ _ _ us hl => match us, hl with | [_, _], _ => rfl
  have F_is_same := def_mk (st := s_is_same) (ps := ["same", "hand", "sorts"]) X G a_is_same l_is_same c_is_same k_is_same fun _ _ _ _ _ _ us hl => match us, hl with | [_, _, _], _ => rfl
  have F_kept_call := def_mk (st := s_kept_call) (ps := ["call"]) X G a_kept_call l_kept_call c_kept_call k_kept_call fun _ _ _ _ _ _ us hl => match us, hl with | [_], _ => rfl
  have F_wrong_part := def_mk (st := s_wrong_part) (ps := ["item", "earlier", "sorts", "modes"]) X G a_wrong_part l_wrong_part c_wrong_part k_wrong_part fun _ _ _ _ _ _ us hl => match us, hl with | [_, _, _, _], _ => rfl
  have F_kept_calls := def_mk (st := s_kept_calls) (ps := ["calls", "sorts", "modes"]) X G a_kept_calls l_kept_calls c_kept_calls k_kept_calls fun _ _ _ _ _ _ us hl => match us, hl with | [_, _, _], _ => rfl
  have F_kinit := fun_mk (st := s_Kind_init) l_kinit c_kinit k_kinit
  have F_klen := fun_mk (st := s_Kind_len) l_klen c_klen k_klen
  have B_klen : Binds K _ ["self"] [] := F_klen.binds fun _ _ _ _ _ _ us hl => match us, hl with | [_], _ => rfl
  have F_iF := fun_mk (st := s_BadField_init) l_iF c_iF k_iF
  have B_iF : Binds K _ ["self", "index"] [] := F_iF.binds fun _ _ _ _ _ _ us hl => match us, hl with | [_, _], _ => rfl
  have F_iM := fun_mk (st := s_BadModes_init) l_iM c_iM k_iM
  have B_iM : Binds K _ ["self", "modes"] [] := F_iM.binds fun _ _ _ _ _ _ us hl => match us, hl with | [_, _], _ => rfl
  have F_iC := fun_mk (st := s_BadCall_init) l_iC c_iC k_iC
  have B_iC : Binds K _ ["self", "index", "reason"] [] := F_iC.binds fun _ _ _ _ _ _ us hl => match us, hl with | [_, _, _], _ => rfl
  obtain ⟨oc_F, fc_F, ic_F⟩ := errB_ok e_BadField o_BadField
  have TF : ErrC K C_BadField f_iF := ⟨oc_F, m_iF, t_iF⟩
  obtain ⟨oc_M, fc_M, ic_M⟩ := errB_ok e_BadModes o_BadModes
  have TM : ErrC K C_BadModes f_iM := ⟨oc_M, m_iM, t_iM⟩
  obtain ⟨oc_C, fc_C, ic_C⟩ := errB_ok e_BadCall o_BadCall
  have TC : ErrC K C_BadCall f_iC := ⟨oc_C, m_iC, t_iC⟩
  have Z : KCls K C_Kind := ⟨⟨kc_pg, kc_hd, kc_po, kc_sa⟩, kn_triples, kn_sorts, kn_spots, kn_modes, kn_steps, kn_table⟩
  have Cs : Csts K w mg ⟨A_sorts, A_hands, A_sod, A_wd, A_lwd⟩ :=
    { MOST_LETTERS := ⟨_, PySem.W.mg_of X G v_MOST_LETTERS, _, rfl⟩,
      MOST_FIELDS := ⟨_, PySem.W.mg_of X G v_MOST_FIELDS, _, rfl⟩,
      MOST_MODES := ⟨_, PySem.W.mg_of X G v_MOST_MODES, _, rfl⟩,
      MOST_CALLS := ⟨_, PySem.W.mg_of X G v_MOST_CALLS, _, rfl⟩,
      MOST_DEEDS := ⟨_, PySem.W.mg_of X G v_MOST_DEEDS, _, rfl⟩,
      SORTS := ⟨_, PySem.W.mg_of X G v_SORTS, rfl⟩,
      HANDS := ⟨_, PySem.W.mg_of X G v_HANDS, rfl⟩,
      SORTS_OF_DEEDS := ⟨_, PySem.W.mg_of X G v_sod, rfl⟩,
      WORD_DEEDS := ⟨_, PySem.W.mg_of X G v_WORD_DEEDS, rfl⟩,
      LIST_WORD_DEEDS := ⟨_, PySem.W.mg_of X G v_LIST_WORD_DEEDS, rfl⟩,
      t_sorts := tupB_ok tu_sorts,
      t_hands := tupB_ok tu_hands,
      t_wd := tupB_ok tu_wd,
      t_lwd := tupB_ok tu_lwd,
      sodD := He.dicW_ok dsod,
      sodN := sod_all dsod ⟨_, sd_set, tupB_ok td_set⟩ ⟨_, sd_add, tupB_ok td_add⟩ ⟨_, sd_strike, tupB_ok td_strike⟩ ⟨_, sd_fresh, tupB_ok td_fresh⟩ ⟨_, sd_clear, tupB_ok td_clear⟩ }
  have W : ErrM K mg ⟨C_BadField, C_BadModes, C_BadCall, C_UnknownCall, C_BadPlace, C_BadText, C_BadRow, C_MakerError⟩ :=
    { g_BadField := PySem.W.mg_of X G aC_BadField,
      g_BadModes := PySem.W.mg_of X G aC_BadModes,
      g_BadCall := PySem.W.mg_of X G aC_BadCall,
      g_UnknownCall := PySem.W.mg_of X G aC_UnknownCall,
      g_BadPlace := PySem.W.mg_of X G aC_BadPlace,
      g_BadText := PySem.W.mg_of X G aC_BadText,
      g_BadRow := PySem.W.mg_of X G aC_BadRow,
      g_MakerError := PySem.W.mg_of X G aC_MakerError,
      iF := errI_of e_BadField,
      fF := fc_F,
      nF := n_F,
      iM := errI_of e_BadModes,
      fM := fc_M,
      nM := n_M,
      iC := errI_of e_BadCall,
      fC := fc_C,
      nC := n_C,
      rC := r_C,
      f1 := q_f1,
      m1 := q_m1,
      m2 := q_m2,
      c1 := q_c1,
      c2 := q_c2,
      c3 := q_c3,
      mF := q_mF,
      mM := q_mM,
      mC := q_mC }
  refine ⟨PySem.W.fnOf "law" "law" (defArgs s_law) (defBody s_law) (defScope s_law) .none kV_law dc_law pm_law an_law (.ref cl) ct_law, cl, Pl, spLawT K Pl, tabIn_of a_law l_law rfl lcl tabl, nPl, fun s v => .of_eq rfl, fun H a ns hl hP hS => ⟨a, ns, rfl, hS, hl, hP, fun _ => rfl⟩, fun base _ _ TB => ?_⟩
  have c_fresh := ok_fresh (P := l.prog) (w := w) (base := base) F_fresh T
  have c_fill := ok_fill (P := l.prog) (w := w) (base := base) F_fill T
  have c_take := ok_take F_take T c_fill
  have c_one := ok_one F_one T c_take
  have c_mix := ok_mix F_mix T c_take
  have c_deeds := ok_deeds F_deeds T c_take c_one
  have c_call := ok_call F_call T c_take c_one c_deeds
  have c_same := ok_same (P := l.prog) (w := w) (base := base) F_same T 2
  have c_is_word := ok_word (P := l.prog) (w := w) (base := base) F_is_word T Cs
  have c_is_integer := ok_integer (P := l.prog) (w := w) (base := base) F_is_integer T
  have c_is_list := ok_list (P := l.prog) (w := w) (base := base) F_is_list T
  have c_is_modes := ok_modes F_is_modes T Cs c_is_integer
  have c_is_field := ok_field F_is_field T Cs c_is_list c_is_word
  have c_kept_fields := ok_fields F_kept_fields T Cs c_is_list c_is_field
  have c_is_many := ok_many (P := l.prog) (w := w) (base := base) F_is_many T
  have c_is_deed := ok_deed F_is_deed T Cs c_is_list
  have c_are_moves := ok_moves F_are_moves T c_is_integer
  have c_has_call_form := ok_callForm F_has_call_form T c_is_list
  have c_are_deeds := ok_deedsOk F_are_deeds T Cs c_is_deed
  have c_is_same := ok_sameOk F_is_same T c_is_many
  have c_kept_call := ok_keptCall (P := l.prog) (w := w) (base := base) F_kept_call T
  have c_wrong_part := ok_wrong F_wrong_part T Cs c_has_call_form c_is_word c_are_moves c_are_deeds c_is_same
  have c_kept_calls := ok_calls F_kept_calls T Cs c_is_list c_wrong_part c_kept_call
  have r_F : RaiseC l.prog w K mg base 1 "BadField" C_BadField (spErr1 C_BadField "index") := ⟨⟨f_iF, _, _, TF, ok_BadField F_iF oc_F n_F, PySem.W.mg_of X G aC_BadField, B_iF⟩⟩
  have r_M : RaiseC l.prog w K mg base 1 "BadModes" C_BadModes (spErr1 C_BadModes "modes") := ⟨⟨f_iM, _, _, TM, ok_BadModes F_iM oc_M n_M, PySem.W.mg_of X G aC_BadModes, B_iM⟩⟩
  have r_C : RaiseC l.prog w K mg base 1 "BadCall" C_BadCall (spErr2 C_BadCall "index" "reason") := ⟨⟨f_iC, _, _, TC, ok_BadCall F_iC oc_C n_C r_C, PySem.W.mg_of X G aC_BadCall, B_iC⟩⟩
  have x_list := ok_listX (P := l.prog) (w := w) (base := base) F_is_list T
  have x_integer := ok_integerX (P := l.prog) (w := w) (base := base) F_is_integer T
  have x_modes := ok_modesX F_is_modes T Cs x_integer
  have x_field := ok_fieldX F_is_field T Cs x_list c_is_word
  have x_fields := ok_fieldsX F_kept_fields T Cs x_list x_field r_F
  have x_callForm := ok_callFormX F_has_call_form T x_list
  have x_moves := ok_movesX F_are_moves T x_integer
  have x_many := ok_manyX (P := l.prog) (w := w) (base := base) F_is_many T
  have x_deed := ok_deedX F_is_deed T Cs x_list
  have x_deeds := ok_deedsX F_are_deeds T Cs x_deed
  have x_same := ok_sameX F_is_same T x_many
  have x_wrong := ok_wrongX F_wrong_part T Cs x_callForm c_is_word x_moves x_deeds x_same
  have x_calls := ok_callsX F_kept_calls T Cs x_list x_wrong c_kept_call r_C
  have I_kinit : FnOk l.prog w K mg base CX0 6 f_kinit _ ["self", "fields", "calls", "modes"] (spKInit K C_Kind) := F_kinit.ok sc_Kind_init (fun vs H Q E h => by obtain ⟨_, _, _, _, _, _, _, _, _, _, rfl, _⟩ := h; rfl) fun cdv A outer s H vs Q E hr h => run_kinit T Z c_kept_fields c_is_modes c_kept_calls hr h
  have c_Kind : KMk l.prog w K mg base C_Kind := ⟨⟨f_kinit, _, ⟨kc_mk, m_kinit, fn_kinit, kc_kp⟩, I_kinit, ⟨fun s us ws _ h1 h2 => match us, ws, h1, h2 with | [_, _, _], [_], _, _ => .of_eq rfl, fun r r2 => r.append r2⟩⟩, PySem.W.mg_of X G aC_Kind⟩
  have I_kinitX : FnOk l.prog w K mg base (L2.CX l.prog w) 6 f_kinit _ ["self", "fields", "calls", "modes"] (spKInitX K C_Kind ⟨C_BadField, C_BadModes, C_BadCall⟩) := F_kinit.okX sc_Kind_init (fun vs H Q E h => by obtain ⟨_, _, _, _, _, _, _, _, _, _, rfl, _⟩ := h; rfl) fun cdv A outer s H vs Q E hr h => run_kinitX T Z c_kept_fields x_modes c_kept_calls x_fields x_calls r_M hr h
  have c_KindX : KMkX l.prog w K mg base C_Kind ⟨C_BadField, C_BadModes, C_BadCall⟩ := ⟨⟨f_kinit, _, ⟨kc_mk, m_kinit, fn_kinit, kc_kp⟩, fn_or (fn_cx I_kinit) I_kinitX, ⟨fun s us ws _ h1 h2 => match us, ws, h1, h2 with | [_, _, _], [_], _, _ => .of_eq rfl, fun r r2 => r.append r2⟩⟩, PySem.W.mg_of X G aC_Kind⟩
  have I_len := ok_klen (P := l.prog) (w := w) (base := base) F_klen T Z
  have c_lword := ok_lword (P := l.prog) (w := w) (base := base) F_l_is_word T
  have c_num := ok_num (P := l.prog) (w := w) (base := base) F_is_number T
  have c_llist := ok_llist (P := l.prog) (w := w) (base := base) F_l_is_list T
  have c_ldeeds := ok_ldeeds F_l_are_deeds T c_llist
  have c_reason := ok_reason F_call_reason T c_llist c_lword c_num c_ldeeds
  have c_due := ok_due F_kind_due T c_llist c_lword c_num c_reason
  have c_bentC := ok_bentC F_bent_call T c_take c_one
  have c_bentF := ok_bentF F_bent_field T c_take c_one
  have c_plan := ok_plan F_plan T c_Kind
  have c_kind := ok_kind F_kind T c_take c_one c_mix c_call c_plan
  have F_err := ok_err3 (P := l.prog) (w := w) (base := base) F_error T W
  refine fn_of l_law c_law sc_law (fun vs H Q E h => by obtain ⟨a, ns, rfl, _⟩ := h; rfl) fun A outer s H vs Q E hr hsp => ?_
  obtain ⟨a, ns, rfl, hS, hn, hP, k⟩ := hsp
  obtain ⟨t, h1, h2⟩ := run_law T Z W c_fresh c_kind c_take c_one c_bentC c_bentF c_due c_same c_KindX ⟨I_len, m_klen, fn_klen, B_klen⟩ F_tried F_err ⟨PySem.W.mg_of X G a_error, k_error, F_error.bi⟩ TB hr hS hn hP k
  exact ⟨t, h1.nox, h2⟩
end MK
open PySem PySem.W PyProof.Rows in
set_option maxRecDepth 100000 in
set_option maxHeartbeats 0 in
theorem PySem.Challenge.cw_makerlines_k03_kinds_refused_holds : PySem.Challenge.rw_makerlines_k03_kinds_refused.Holds := by
  w_on; o_law; k_head; (case hw => w_witness2)
  k_fill
  refine MK.walk_tab (l := PySem.Challenge.rw_makerlines_k03_kinds_refused) (k := 12) (x := "_law_script") rfl rfl ⟨rfl, by decide, by decide⟩ (by kernel_rfl) (fun w h Y => PySem.W.km_in_of Y) ?F
  case F =>
    intro w mg fa h KX G hmg
    refine' MK.all_mk KX G hmg ?a_fresh ?l_fresh ?c_fresh ?k_fresh ?a_fill ?l_fill ?c_fill ?k_fill ?a_take ?l_take ?c_take ?k_take ?a_one ?l_one ?c_one ?k_one ?a_mix ?l_mix ?c_mix ?k_mix ?a_same ?l_same ?c_same ?k_same ?a_tried ?l_tried ?c_tried ?k_tried ?a_error ?l_error ?c_error ?k_error ?a_plan ?l_plan ?c_plan ?k_plan ?a_deeds ?l_deeds ?c_deeds ?k_deeds ?a_call ?l_call ?c_call ?k_call ?a_kind ?l_kind ?c_kind ?k_kind ?a_l_is_word ?l_l_is_word ?c_l_is_word ?k_l_is_word ?a_is_number ?l_is_number ?c_is_number ?k_is_number ?a_l_is_list ?l_l_is_list ?c_l_is_list ?k_l_is_list ?a_l_are_deeds ?l_l_are_deeds ?c_l_are_deeds ?k_l_are_deeds ?a_call_reason ?l_call_reason ?c_call_reason ?k_call_reason ?a_kind_due ?l_kind_due ?c_kind_due ?k_kind_due ?a_bent_call ?l_bent_call ?c_bent_call ?k_bent_call ?a_bent_field ?l_bent_field ?c_bent_field ?k_bent_field ?a_is_word ?l_is_word ?c_is_word ?k_is_word ?a_is_integer ?l_is_integer ?c_is_integer ?k_is_integer ?a_is_list ?l_is_list ?c_is_list ?k_is_list ?a_is_modes ?l_is_modes ?c_is_modes ?k_is_modes ?a_is_field ?l_is_field ?c_is_field ?k_is_field ?a_kept_fields ?l_kept_fields ?c_kept_fields ?k_kept_fields ?a_is_many ?l_is_many ?c_is_many ?k_is_many ?a_is_deed ?l_is_deed ?c_is_deed ?k_is_deed ?a_are_moves ?l_are_moves ?c_are_moves ?k_are_moves ?a_has_call_form ?l_has_call_form ?c_has_call_form ?k_has_call_form ?a_are_deeds ?l_are_deeds ?c_are_deeds ?k_are_deeds ?a_is_same ?l_is_same ?c_is_same ?k_is_same ?a_kept_call ?l_kept_call ?c_kept_call ?k_kept_call ?a_wrong_part ?l_wrong_part ?c_wrong_part ?k_wrong_part ?a_kept_calls ?l_kept_calls ?c_kept_calls ?k_kept_calls ?a_law ?l_law ?c_law ?k_law ?lcl ?aC_Kind ?aC_BadField ?aC_BadModes ?aC_BadCall ?aC_UnknownCall ?aC_BadPlace ?aC_BadText ?aC_BadRow ?aC_MakerError ?m_kinit ?l_kinit ?c_kinit ?k_kinit ?fn_kinit ?m_klen ?l_klen ?c_klen ?k_klen ?fn_klen ?m_iF ?l_iF ?c_iF ?k_iF ?fn_iF ?m_iM ?l_iM ?c_iM ?k_iM ?fn_iM ?m_iC ?l_iC ?c_iC ?k_iC ?fn_iC ?t_iF ?t_iM ?t_iC ?n_F ?n_M ?n_C ?r_C ?kc_mk ?kc_kp ?kc_pg ?kc_hd ?kc_po ?kc_sa ?kn_triples ?kn_sorts ?kn_spots ?kn_modes ?kn_steps ?kn_table ?z_len ?z_int ?z_enumerate ?z_list ?z_tuple ?z_isinstance ?z_range ?z_all ?z_zip ?z_ValueError ?z_bool ?z_str ?z_set ?z_any ?v_MOST_LETTERS ?v_MOST_FIELDS ?v_MOST_MODES ?v_MOST_CALLS ?v_MOST_DEEDS ?v_SORTS ?v_HANDS ?v_WORD_DEEDS ?v_LIST_WORD_DEEDS ?v_sod ?sd_set ?sd_add ?sd_strike ?sd_fresh ?sd_clear ?tu_sorts ?tu_hands ?tu_wd ?tu_lwd ?td_set ?td_add ?td_strike ?td_fresh ?td_clear ?dsod ?tabl ?nPl ?o_BadField ?o_BadModes ?o_BadCall ?e_BadField ?e_BadModes ?e_BadCall ?q_f1 ?q_m1 ?q_m2 ?q_c1 ?q_c2 ?q_c3 ?q_mF ?q_mM ?q_mC
    (case a_fresh => k_is)
    (case l_fresh => k_is)
    (case c_fresh => k_is)
    (case k_fresh => k_is)
    (case a_fill => k_is)
    (case l_fill => k_is)
    (case c_fill => k_is)
    (case k_fill => k_is)
    (case a_take => k_is)
    (case l_take => k_is)
    (case c_take => k_is)
    (case k_take => k_is)
    (case a_one => k_is)
    (case l_one => k_is)
    (case c_one => k_is)
    (case k_one => k_is)
    (case a_mix => k_is)
    (case l_mix => k_is)
    (case c_mix => k_is)
    (case k_mix => k_is)
    (case a_same => k_is)
    (case l_same => k_is)
    (case c_same => k_is)
    (case k_same => k_is)
    (case a_tried => k_is)
    (case l_tried => k_is)
    (case c_tried => k_is)
    (case k_tried => k_is)
    (case a_error => k_is)
    (case l_error => k_is)
    (case c_error => k_is)
    (case k_error => k_is)
    (case a_plan => k_is)
    (case l_plan => k_is)
    (case c_plan => k_is)
    (case k_plan => k_is)
    (case a_deeds => k_is)
    (case l_deeds => k_is)
    (case c_deeds => k_is)
    (case k_deeds => k_is)
    (case a_call => k_is)
    (case l_call => k_is)
    (case c_call => k_is)
    (case k_call => k_is)
    (case a_kind => k_is)
    (case l_kind => k_is)
    (case c_kind => k_is)
    (case k_kind => k_is)
    (case a_l_is_word => k_is)
    (case l_l_is_word => k_is)
    (case c_l_is_word => k_is)
    (case k_l_is_word => k_is)
    (case a_is_number => k_is)
    (case l_is_number => k_is)
    (case c_is_number => k_is)
    (case k_is_number => k_is)
    (case a_l_is_list => k_is)
    (case l_l_is_list => k_is)
    (case c_l_is_list => k_is)
    (case k_l_is_list => k_is)
    (case a_l_are_deeds => k_is)
    (case l_l_are_deeds => k_is)
    (case c_l_are_deeds => k_is)
    (case k_l_are_deeds => k_is)
    (case a_call_reason => k_is)
    (case l_call_reason => k_is)
    (case c_call_reason => k_is)
    (case k_call_reason => k_is)
    (case a_kind_due => k_is)
    (case l_kind_due => k_is)
    (case c_kind_due => k_is)
    (case k_kind_due => k_is)
    (case a_bent_call => k_is)
    (case l_bent_call => k_is)
    (case c_bent_call => k_is)
    (case k_bent_call => k_is)
    (case a_bent_field => k_is)
    (case l_bent_field => k_is)
    (case c_bent_field => k_is)
    (case k_bent_field => k_is)
    (case a_is_word => k_is)
    (case l_is_word => k_is)
    (case c_is_word => k_is)
    (case k_is_word => k_is)
    (case a_is_integer => k_is)
    (case l_is_integer => k_is)
    (case c_is_integer => k_is)
    (case k_is_integer => k_is)
    (case a_is_list => k_is)
    (case l_is_list => k_is)
    (case c_is_list => k_is)
    (case k_is_list => k_is)
    (case a_is_modes => k_is)
    (case l_is_modes => k_is)
    (case c_is_modes => k_is)
    (case k_is_modes => k_is)
    (case a_is_field => k_is)
    (case l_is_field => k_is)
    (case c_is_field => k_is)
    (case k_is_field => k_is)
    (case a_kept_fields => k_is)
    (case l_kept_fields => k_is)
    (case c_kept_fields => k_is)
    (case k_kept_fields => k_is)
    (case a_is_many => k_is)
    (case l_is_many => k_is)
    (case c_is_many => k_is)
    (case k_is_many => k_is)
    (case a_is_deed => k_is)
    (case l_is_deed => k_is)
    (case c_is_deed => k_is)
    (case k_is_deed => k_is)
    (case a_are_moves => k_is)
    (case l_are_moves => k_is)
    (case c_are_moves => k_is)
    (case k_are_moves => k_is)
    (case a_has_call_form => k_is)
    (case l_has_call_form => k_is)
    (case c_has_call_form => k_is)
    (case k_has_call_form => k_is)
    (case a_are_deeds => k_is)
    (case l_are_deeds => k_is)
    (case c_are_deeds => k_is)
    (case k_are_deeds => k_is)
    (case a_is_same => k_is)
    (case l_is_same => k_is)
    (case c_is_same => k_is)
    (case k_is_same => k_is)
    (case a_kept_call => k_is)
    (case l_kept_call => k_is)
    (case c_kept_call => k_is)
    (case k_kept_call => k_is)
    (case a_wrong_part => k_is)
    (case l_wrong_part => k_is)
    (case c_wrong_part => k_is)
    (case k_wrong_part => k_is)
    (case a_kept_calls => k_is)
    (case l_kept_calls => k_is)
    (case c_kept_calls => k_is)
    (case k_kept_calls => k_is)
    (case a_law => k_is)
    (case l_law => k_is)
    (case c_law => k_is)
    (case k_law => k_is)
    (case lcl => k_is)
    (case aC_Kind => k_is)
    (case aC_BadField => k_is)
    (case aC_BadModes => k_is)
    (case aC_BadCall => k_is)
    (case aC_UnknownCall => k_is)
    (case aC_BadPlace => k_is)
    (case aC_BadText => k_is)
    (case aC_BadRow => k_is)
    (case aC_MakerError => k_is)
    (case m_kinit => k_is)
    (case l_kinit => k_is)
    (case c_kinit => k_is)
    (case k_kinit => k_is)
    (case fn_kinit => k_is)
    (case m_klen => k_is)
    (case l_klen => k_is)
    (case c_klen => k_is)
    (case k_klen => k_is)
    (case fn_klen => k_is)
    (case m_iF => k_is)
    (case l_iF => k_is)
    (case c_iF => k_is)
    (case k_iF => k_is)
    (case fn_iF => k_is)
    (case m_iM => k_is)
    (case l_iM => k_is)
    (case c_iM => k_is)
    (case k_iM => k_is)
    (case fn_iM => k_is)
    (case m_iC => k_is)
    (case l_iC => k_is)
    (case c_iC => k_is)
    (case k_iC => k_is)
    (case fn_iC => k_is)
    (case t_iF => k_is)
    (case t_iM => k_is)
    (case t_iC => k_is)
    (case n_F => k_is)
    (case n_M => k_is)
    (case n_C => k_is)
    (case r_C => k_is)
    (case kc_mk => k_is)
    (case kc_kp => k_is)
    (case kc_pg => k_is)
    (case kc_hd => k_is)
    (case kc_po => k_is)
    (case kc_sa => k_is)
    (case kn_triples => k_is)
    (case kn_sorts => k_is)
    (case kn_spots => k_is)
    (case kn_modes => k_is)
    (case kn_steps => k_is)
    (case kn_table => k_is)
    (case z_len => k_is)
    (case z_int => k_is)
    (case z_enumerate => k_is)
    (case z_list => k_is)
    (case z_tuple => k_is)
    (case z_isinstance => k_is)
    (case z_range => k_is)
    (case z_all => k_is)
    (case z_zip => k_is)
    (case z_ValueError => k_is)
    (case z_bool => k_is)
    (case z_str => k_is)
    (case z_set => k_is)
    (case z_any => k_is)
    (case v_MOST_LETTERS => k_is)
    (case v_MOST_FIELDS => k_is)
    (case v_MOST_MODES => k_is)
    (case v_MOST_CALLS => k_is)
    (case v_MOST_DEEDS => k_is)
    (case v_SORTS => k_is)
    (case v_HANDS => k_is)
    (case v_WORD_DEEDS => k_is)
    (case v_LIST_WORD_DEEDS => k_is)
    (case v_sod => k_is)
    (case sd_set => k_is)
    (case sd_add => k_is)
    (case sd_strike => k_is)
    (case sd_fresh => k_is)
    (case sd_clear => k_is)
    (case tu_sorts => kernel_rfl)
    (case tu_hands => kernel_rfl)
    (case tu_wd => kernel_rfl)
    (case tu_lwd => kernel_rfl)
    (case td_set => kernel_rfl)
    (case td_add => kernel_rfl)
    (case td_strike => kernel_rfl)
    (case td_fresh => kernel_rfl)
    (case td_clear => kernel_rfl)
    (case dsod => kernel_rfl)
    (case tabl => exact rfl)
    (case nPl => kernel_rfl)
    (case o_BadField => kernel_rfl)
    (case o_BadModes => kernel_rfl)
    (case o_BadCall => kernel_rfl)
    (case e_BadField => kernel_rfl)
    (case e_BadModes => kernel_rfl)
    (case e_BadCall => kernel_rfl)
    (case q_f1 => kernel_rfl)
    (case q_m1 => kernel_rfl)
    (case q_m2 => kernel_rfl)
    (case q_c1 => kernel_rfl)
    (case q_c2 => kernel_rfl)
    (case q_c3 => kernel_rfl)
    (case q_mF => kernel_rfl)
    (case q_mM => kernel_rfl)
    (case q_mC => kernel_rfl)
#print axioms PySem.Challenge.cw_makerlines_k03_kinds_refused_holds
