import PyProof.Rows.All
import Wide.All
import OpenK.AllK
import Wide.FinOn
import HandS.Base
import HandS.Call
import HandS.List
import HandS.Iter
import KE.GoesEnum
import HandS.Exc
import HandS.ExcInit
import HandS.ExcIs
import HandS.IsInst
import HandS.ForMost
import HandS.ExcValue
import KE.KExcIs
import HandS.Defaults
import HandS.TupLe
import HandS.Zip
import HandS.Walk
import HandS.More
import HandS.NoneIn
import HandS.Conv
import HandS.Strs
import HandS.DictComp
import OpenK.KMeth
import HandS.OwnEq
import PyProof.InstNe
import PyProof.EqKinds
import HandS.HotCalls
import HandS.ExcField
import HandS.Lambda
import HandS.HeadHook3
import HandS.EndTab
import HandS.EndOwn
import HandS.MakeKwOnly
import HandS.IterNext
import HandS.OwnIter
import HandS.IterVal
import HandS.WordsDict
import HandS.WordsExc
import HandS.Style
import HandS.Text
import PySem.Challenge.RW_makerlines_k02_kinds_told
set_option Elab.async false
set_option linter.all false
set_option maxRecDepth 100000
set_option maxHeartbeats 4000000
/-! enumerate of a tuple -/
namespace MK
open PySem PySem.Spec PyProof.Rows L2

/-- the tuple at a as it stands at each turn, each item in a new pair -/
def IteT (K : PySem.W.Frag) (a : Addr) : It :=
  ⟨fun i H => ∃ (xs : List V) (x : V), SqT K H a xs ∧ xs[i]? = some x, fun i H v H' => ∃ T x, v = .ref T ∧ H T = none ∧ H' = upd H T (.tup [.int (i : Nat), x]) ∧ ∀ xs, SqT K H a xs → xs[i]? = some x, fun i H => ∃ xs : List V, SqT K H a xs ∧ xs.length ≤ i⟩
theorem turn_enumT {P : Program} {w : World} {K : PySem.W.Frag} {elts : List Expr} {kk : Nat} {tpos : Pos} (a e it : Addr) :
    Turn P w K (.Tuple elts kk tpos) (IteT K a) [e, it] e (fun i h => (∃ old, IsEnum h e it ((i : Nat) : Int) old) ∧ h.IsTupleIter it a i ∧ e ≠ it ∧ a ≠ it ∧ a ≠ e) where
  mem := by simp
  obj := fun i h st b hb => by
    obtain ⟨⟨old, he⟩, ⟨o, ho, hc, hd⟩, _⟩ := st
    have e' : b = e ∨ b = it := by simpa using hb
    rcases e' with z | z
    · rw [z]; exact ⟨_, he, fun v q => nomatch q⟩
    · rw [z]; exact ⟨o, ho, fun v q => by rw [hd] at q; cases q⟩
  keep := fun i h h' st k => let ⟨⟨old, he⟩, hi, hne⟩ := st; ⟨⟨old, k e (by simp) _ he⟩, hi.at fun o q => k it (by simp) o q, hne⟩
  item := by
    intro X hP hw hK hc i pins s σ H E I hf st hg
    subst hP hw hK
    obtain ⟨⟨old, he⟩, hit, hne, hai, hae⟩ := st
    obtain ⟨xs, x, hq, hx⟩ := hg
    obtain ⟨its, rv, p, hz⟩ := I.tuple hq
    obtain ⟨u, hu, ru⟩ := rv.get hx
    have hel : e < s.heap.objs.size := Heap.lt_size he
    have hil : it < s.heap.objs.size := by obtain ⟨_, q, _⟩ := hit; exact Heap.lt_size q
    have D := Draws.tuple (prog := X.prog) (w := X.w) (A := X.A.in1) (show X.A.in1.handled = none from I.ok.hd hc) it a hai its.toArray
    have hsz : i < its.toArray.size := by
      have := (List.getElem?_eq_some_iff.mp hu).1
      simpa using this
    refine wpAny_pyNext_enum_itemD D he ⟨hit, p⟩ hsz hne (by simp [hne, Ne.symm hae]) fun v h' tk hv ho st' hT hsz' hk => ?_
    have hv : its.toArray[i]? = some v := hv
    have ev : v = u := by
      have hu' : its.toArray[i]? = some u := by simpa using hu
      rw [hu'] at hv
      exact (Option.some.inj hv).symm
    subst ev
    refine ⟨_, rfl, wpAny_letOwnedTupleGo_enum (s := { s with heap := h', toks := tk + 1 }) ho fun h'' he' sb => ?_⟩
    have hT2 : h''.get? s.heap.objs.size = some { cls := .type "tuple", data := .seq #[.int i tk, v] } := (sb.2 _ (Nat.ne_of_gt hel)).trans hT
    have new : ObjOk X.prog X.w (upd H s.heap.objs.size (.tup [.int (i : Nat), x])) h'' s.heap.objs.size (.tup [.int (i : Nat), x]) :=
      ⟨by show 2 ≤ sizeLine; decide, [.int i tk, v], .cons ⟨_, rfl⟩ (.cons ru .nil), ⟨_, hT2, rfl, _, rfl⟩⟩
    have I1 : Inv X pins σ (upd H s.heap.objs.size (.tup [.int (i : Nat), x])) { s with heap := h'', toks := tk + 1 } :=
      I.turnedNew (ch := [e, it]) (fun b ob hb q => (sb.2 b (fun z => hb (by simp [z]))).trans (hk b ob (fun z => hb (by simp [z])) (fun z => hb (by simp [z])) q)) hf (Nat.le_refl _) new
    refine ⟨.ref s.heap.objs.size, _, I1, rfl, ⟨_, x, rfl, I.hok.fresh (Nat.le_refl _), rfl, fun ys hy => by rw [I.tuple_inj hy hq]; exact hx⟩, ⟨⟨v, ?_⟩, st'.1.at fun o q => (sb.2 it (Ne.symm hne)).trans q, hne, hai, hae⟩, fun b hb => ?_⟩
    · have e1 : ((i + 1 : Nat) : Int) = (i : Int) + 1 := by omega
      rw [e1]; exact he'
    · have hb' : b < s.heap.objs.size := by
        have e' : b = e ∨ b = it := by simpa using hb
        rcases e' with z | z
        · rw [z]; exact hel
        · rw [z]; exact hil
      rw [upd_ne (Nat.ne_of_lt hb')]
      exact (hf b hb).1
  done := by
    intro X hP hw hK hc i pins s σ H E I hf st hg
    subst hP hw hK
    obtain ⟨⟨old, he⟩, hit, hne, hai, hae⟩ := st
    obtain ⟨xs, hq, hx⟩ := hg
    obtain ⟨its, rv, p, hz⟩ := I.tuple hq
    obtain ⟨f0, f1, f2, f3, f4, f5⟩ := hf it (by simp)
    have hl := rv.length
    have D : Draws X.prog X.w X.A.in1 it [it, a] i (fun _ _ => False) (fun j h => j = i ∧ h.IsTupleIter it a i ∧ IsTup h a its.toArray) :=
      { live := fun _ _ st => let ⟨_, ⟨o, ho, _⟩, _⟩ := st; ⟨o, ho⟩
        frame := fun _ _ _ st hk => ⟨st.1, st.2.1.at fun o e => hk it (by simp) o e, by
          obtain ⟨o, ho, r⟩ := st.2.2
          exact ⟨o, hk a (by simp) o ho, r⟩⟩
        item := fun j s Q E hi st hQ => absurd st.1 (Nat.ne_of_lt hi)
        done := fun s Q E st hE => wpAny_nextOf_tuple_end (show X.A.in1.handled = none from I.ok.hd hc) st.2.1 st.2.2 (by simp; omega) hE }
    exact wpAny_pyNext_enum_endD D he ⟨rfl, hit, p⟩ fun h' eb => ⟨rfl, I.turned (t' := s.toks) (fun b o hb q => eb b o hb q) f0 f1 f3 f4 f5⟩
  self := fun A i s Q E st h => let ⟨⟨_, he⟩, _⟩ := st; wpAny_pyIter_enum he h
def iEnumT (K : PySem.W.Frag) (ta : TA) : TI := fun σ H R => ta σ H fun vs H1 => ∃ a xs, vs = [.ref a] ∧ SqT K H1 a xs ∧ R (IteT K a) H1
theorem boot_enumerate' : bootBuiltins "enumerate" = some (.type "enumerate") := by decide +kernel
theorem meets_enum1 {v : Value} {o : Obj} {H : Heap → Prop} (B : Begins v o H) :
    Meets (Builtin.«enumerate.__new__» ⟨[.type "enumerate", v], []⟩) (fun _ R s => H s.heap ∧
      R (.ok (.ret (.ref (s.heap.push o).objs.size))) { s with heap := (s.heap.push o).push { cls := .type "enumerate", data := .fields #[.none, .bool false, .ref s.heap.objs.size, rawInt 0, .none, .none] } }) :=
  .of_wp fun prog w A R s h => by
    obtain ⟨hp, g, d, tk, os⟩ := s; obtain ⟨h1, h⟩ := h
    have hsub := sub_enumerate
    have it : ∀ {A' : Around} {E : Value → Shared → Prop} {Q : Value → Shared → Prop}, Q (.ref hp.objs.size) ⟨hp.push o, g, d, tk, os⟩ → wpAny (model prog w) A' (pyIter v) Q E ⟨hp, g, d, tk, os⟩ :=
      fun q => B.iter prog w _ _ ⟨hp, g, d, tk, os⟩ _ h1 q
    wp_walk using it
    refine wpAny_stack_any fun st => wpAny_pure ?_
    split
    · rename_i c _ _ _ _ _
      cases (c == Value.type "enumerate") <;> (wp_walk using it; exact ⟨_, rfl, h⟩)
    · wp_walk using it
      exact ⟨_, rfl, h⟩
theorem call_enumerate_tuple {prog : Program} {w : World} {A : Around} {E : Value → Shared → Prop} {s : Shared} {l : Addr} {items : Array Value} {Q : Value → Shared → Prop} (hL : IsTup s.heap l items)
    (h : ∀ h', IsEnum h' (s.heap.objs.size + 1) s.heap.objs.size 0 .none → h'.IsTupleIter s.heap.objs.size l 0 → h'.objs.size = s.heap.objs.size + 2 →
      (∀ b o, s.heap.get? b = some o → h'.get? b = some o) → Q (.ref (s.heap.objs.size + 1)) { s with heap := h' }) :
    wpAny (model prog w) A (call (.type "enumerate") [.ref l]) Q E s := by
  have B := begins_tuple l items
  refine callType_new F.called_enumerate (by decide) (F.typeCall_enumerate_1 _) (F.newCall_enumerate_1 _) (fun obj => F.args_object_init_2 obj _) F.entry_enumerate_new (meets_enum1 B) ⟨hL, ?_⟩
  let o : Obj := { cls := .type "tuple_iterator", data := .fields #[.ref l, .int 0 0] }
  have hz : (s.heap.push o).objs.size = s.heap.objs.size + 1 := Heap.size_push ..
  show _ ∧ _
  rw [hz]
  have he : IsEnum ((s.heap.push o).push { cls := .type "enumerate", data := .fields #[.none, .bool false, .ref s.heap.objs.size, rawInt 0, .none, .none] }) (s.heap.objs.size + 1) s.heap.objs.size 0 .none := by
    have q := Heap.get?_push_size (s.heap.push o) (o := { cls := .type "enumerate", data := .fields #[.none, .bool false, .ref s.heap.objs.size, rawInt 0, .none, .none] }) rfl
    rw [hz] at q; exact q
  exact ⟨⟨_, he, rfl⟩, h _ he ⟨_, Heap.get?_push_of_some _ (Heap.get?_push_size _ rfl), rfl, rfl⟩ (by rw [Heap.size_push, hz]) fun b o x => Heap.get?_push_of_some _ (Heap.get?_push_of_some _ x)⟩
theorem pi_enumT {X : Cx} {e : Expr} {ta : TA} {p pos tpos : Pos} {elts : List Expr} {kk : Nat} (hg : Gl X "enumerate") (hm : X.mg "enumerate" = none) (ha : PA X [e] ta) (hs : starEach [e] X.env = [(false, eval e X.env)] := by rfl) :
    PI X (.Tuple elts kk tpos) (.Call (.Name "enumerate" p) [e] [] pos) (iEnumT X.K ta) := by
  refine ⟨fun pins s σ H R I h => ?_⟩
  refine Call_ (ld_blt I hg hm boot_enumerate' (PyProof.Rows.callWith_type1 (thn (ha.run pos pins s σ H _ I h) fun us s1 ⟨vs, H1, I1, r1, q1⟩ => ?_) hs rfl))
  obtain ⟨a, xs, ex, hq, q⟩ := q1
  subst ex
  cases r1 with
  | cons r rr =>
    cases rr
    cases r
    obtain ⟨its, rv, p', hz⟩ := I1.tuple hq
    have hal : a < s1.heap.objs.size := by obtain ⟨_, q, _⟩ := p'; exact Heap.lt_size q
    refine call_enumerate_tuple p' fun h' he hit hsz hk => wpAny_pyIter_enum he ?_
    have I2 : Inv X pins σ H1 { s1 with heap := h' } := I1.kept (t' := s1.toks) hk
    refine ⟨s1.heap.objs.size + 1, [s1.heap.objs.size + 1, s1.heap.objs.size], _, _, H1, rfl, I2, turn_enumT a (s1.heap.objs.size + 1) s1.heap.objs.size, ⟨⟨.none, he⟩, hit, Nat.succ_ne_self _, Nat.ne_of_lt hal, Nat.ne_of_lt (Nat.lt_succ_of_lt hal)⟩, fun b hb => ?_, q⟩
    have e' : b = s1.heap.objs.size + 1 ∨ b = s1.heap.objs.size := by simpa using hb
    have hle : s1.heap.objs.size ≤ b := by
      rcases e' with z | z
      · rw [z]; exact Nat.le_add_right _ _
      · rw [z]; exact Nat.le_refl _
    exact I1.fpOk hle (I1.hok.fresh hle)
end MK
set_option Elab.async false
set_option linter.all false
set_option maxRecDepth 100000
set_option maxHeartbeats 4000000
/-! errors as values: made by place and by name, read, asked for their class -/
namespace MK
open PySem PySem.Spec PyProof.Rows PySem.HandSPX
open PySem.W (Looks)
section
variable {prog : Program} {w : World} {M : Model} {A : Around} {E : Value → Shared → Prop} {R : Result → Shared → Prop} {h : Heap} {g : Array GenState} {d : Drawn} {t : Nat} {os : OsState}
variable {nm q : Str} {C N : Addr} {bs bm bmB : List Value} {hdct : Bool} {sn : List Str} {sub : List Value} {ab : Bool} {col : Option Bool} {dd : Option Addr} {k0 k1 k2 k3 k5 : Option Value} {B newId initId : String}

theorem check_newK (F : ExcBaseFacts B newId initId bmB) (hT : ∀ X : String, bm.contains (.type X) = bmB.contains (.type X)) {rest : List Value} {kw : List (Str × Value)} {Q : Unit → Shared → Prop}
    (hC : h.get? C = some (excClassObj nm q C N bs bm hdct sn sub ab col dd k0 k1 k2 k3 k5 newId)) (hq : Q () ⟨h, g, d, t, os⟩) : wpAny M A (checkBuiltinCall newId ⟨.ref C :: rest, kw⟩) Q E ⟨h, g, d, t, os⟩ := by
  have hB : (Value.ref C :: bm).contains (.type B) = true := by rw [List.contains_cons, hT, F.hasB, Bool.or_true]
  have hs := F.noStar
  simp only [checkBuiltinCall, F.newKind, F.newSplit, F.newRow]
  repeat (first | refine wpAny_loadPart_at hC ?_ | (refine wpAny_isSubtype_exc hC ?_; rw [hB]) | refine wpAny_staticBase_exc hC ?_ | refine wpAny_madeBy_exc hC ?_ | simp only [bne_self_eq_false, Bool.false_eq_true, if_false] | wp_step)
  exact hq
theorem newK (F : ExcBaseFacts B newId initId bmB) (hT : ∀ X : String, bm.contains (.type X) = bmB.contains (.type X)) {rest : List Value} {kw : List (Str × Value)}
    (hC : h.get? C = some (excClassObj nm q C N bs bm hdct sn sub ab col dd k0 k1 k2 k3 k5 newId))
    (hq : R (.ok (.ret (.ref (h.objs.size + 1)))) ⟨(h.push (W.kdv_tup rest)).push (excO C h.objs.size), g, d, t, os⟩) (hrest : rest.length ≤ sizeLine) :
    codeAny (model prog w) A (.builtin newId ⟨.ref C :: rest, kw⟩) R ⟨h, g, d, t, os⟩ := by
  have he := F.ends
  have cB : (Value.ref C :: bm).contains (.type B) = true := by rw [List.contains_cons, hT, F.hasB, Bool.or_true]
  have cA : (Value.ref C :: bm).contains (.type "AttributeError") = false := by rw [List.contains_cons, hT, F.noAttr]; rfl
  have cN : (Value.ref C :: bm).contains (.type "NameError") = false := by rw [List.contains_cons, hT, F.noName]; rfl
  refine codeAny_builtinAt F.entry ?_
  unfold Builtin.«BaseException.__new__»
  refine PySem.wpAt_bind ?_
  show PySem.wpAt _ _ _ (stack >>= _) _ _ _
  refine PySem.wpAt_bind (PySem.wpAt_stack fun p below => PySem.wpAt_of_wpAny ?_)
  wp_walk
  refine PySem.wpAt_of_wpAny ?_
  rw [F.owner]
  repeat (first | with_reducible refine wpAny_madeHere_exc F.canon hC ?_ | with_reducible refine wpAny_loadPart_at hC ?_ | (with_reducible refine wpAny_isSubtype_exc hC ?_; first | rw [cB] | rw [cA] | rw [cN]) | wp_step)
  show R _ _
  rw [Heap.size_push]
  exact hq
theorem type_callK (F : ExcBaseFacts B newId initId bmB) (hT : ∀ X : String, bm.contains (.type X) = bmB.contains (.type X)) {rest : List Value} {kw : List (Str × Value)} {fI : Addr} {Q : Fin → Shared → Prop}
    (hC : h.get? C = some (excClassObj nm q C N bs bm hdct sn sub ab col dd k0 k1 k2 k3 k5 newId))
    (hi : Looks (model prog w) h (typeLookup (.ref C) "__init__") (some (.ref fI))) (hb : ∀ self, Looks (model prog w) h (bindSpecial (.ref fI) self) (.ref fI, [self])) (hrest : rest.length ≤ sizeLine)
    (hq : codeAny (model prog w) A (.call (.ref fI) ⟨.ref (h.objs.size + 1) :: rest, kw⟩)
      (fun r s' => match r with | .ok (.ret v) => v = .none ∧ Q (.done (.ret (.ref (h.objs.size + 1)))) s' | .ok _ => False | .error e => E e s')
      ⟨(h.push (W.kdv_tup rest)).push (excO C h.objs.size), g, d, t, os⟩) :
    wpAny (model prog w) A (Builtin.«type.__call__» ⟨.ref C :: rest, kw⟩) Q E ⟨h, g, d, t, os⟩ := by
  repeat (first | with_reducible refine wpAny_loadPart_at hC ?_ | with_reducible refine wpAny_madeBy_exc hC ?_ | wp_step)
  refine codeAny_call_builtin_code (Code.quiet_builtin _ F.quiet) (check_newK F hT hC ?_)
  refine newK F hT hC ?_ hrest
  show wpAny _ _ _ _ _ _
  have kp : ∀ b o, h.get? b = some o → ((h.push (W.kdv_tup rest)).push (excO C h.objs.size)).get? b = some o := fun b o e => Heap.get?_push_of_some _ (Heap.get?_push_of_some _ e)
  have C1 := kp _ _ hC
  have hg : ((h.push (W.kdv_tup rest)).push (excO C h.objs.size)).get? (h.objs.size + 1) = some (excO C h.objs.size) := by heap_get
  have cC : (Value.ref C :: bm).contains (.ref C) = true := by simp
  have i1 := hi.keeps kp
  have b1 := (hb (.ref (h.objs.size + 1))).keeps kp
  unfold isInstance
  repeat (first | with_reducible refine wpAny_loadPart_at hg ?_ | (with_reducible refine wpAny_isSubtype_exc C1 ?_; rw [cC]) | wp_step)
  show wpAny _ _ (typeLookup (.ref C) _) _ _ _
  refine i1.at ?_
  refine wpAny_holding (wpAny_bind (b1.at ?_))
  refine wpAny_bind (wpAny_call (codeAny_mono hq fun r s' z => ?_))
  rcases r with e | (v | _ | _ | _) <;> first | exact z | exact z.elim | skip
  obtain ⟨rfl, z⟩ := z
  first
    | exact wpAny_pure (wpAny_pure z)
    | (wp_walk; exact z)
theorem check_tcK {rest : List Value} {kw : List (Str × Value)} {Q : Unit → Shared → Prop} (hC : h.get? C = some (excClassObj nm q C N bs bm hdct sn sub ab col dd k0 k1 k2 k3 k5 newId))
    (hq : Q () ⟨h, g, d, t, os⟩) : wpAny M A (checkBuiltinCall "type.__call__" ⟨.ref C :: rest, kw⟩) Q E ⟨h, g, d, t, os⟩ := by
  have f3 := tc_sub
  have hT : (⟨h, g, d, t, os⟩ : Shared).TypeIs (.ref C) "type" := ⟨_, hC, rfl⟩
  simp only [checkBuiltinCall, tc_kind, tc_split]
  repeat (any_goals (first | assumption | with_reducible refine wpAny_loadPart_at hC ?_ | with_reducible refine wpAny_onRaise ?_ | with_reducible refine wpAny_map ?_ | wp_step))
theorem callK (F : ExcBaseFacts B newId initId bmB) (hT : ∀ X : String, bm.contains (.type X) = bmB.contains (.type X)) {rest : List Value} {kw : List (Str × Value)} {fI : Addr}
    (hC : h.get? C = some (excClassObj nm q C N bs bm hdct sn sub ab col dd k0 k1 k2 k3 k5 newId))
    (hi : Looks (model prog w) h (typeLookup (.ref C) "__init__") (some (.ref fI))) (hb : ∀ self, Looks (model prog w) h (bindSpecial (.ref fI) self) (.ref fI, [self])) (hrest : rest.length ≤ sizeLine)
    (hq : codeAny (model prog w) (A.under (.builtin "type.__call__" ⟨.ref C :: rest, kw⟩)) (.call (.ref fI) ⟨.ref (h.objs.size + 1) :: rest, kw⟩) (W.InitBack (h.objs.size + 1) R)
      ⟨(h.push (W.kdv_tup rest)).push (excO C h.objs.size), g, d, t, os⟩) :
    codeAny (model prog w) A (.call (.ref C) ⟨rest, kw⟩) R ⟨h, g, d, t, os⟩ := by
  have f1 := tc_lookup
  have f2 := tc_bind (.ref C)
  have hTy : (⟨h, g, d, t, os⟩ : Shared).TypeIs (.ref C) "type" := ⟨_, hC, rfl⟩
  refine codeAny_of_tree ?_
  show wpAny _ _ (callAny (.ref C) _) _ _ _
  repeat (any_goals (first | assumption | with_reducible refine wpAny_loadPart_at hC ?_ | wp_step))
  refine ⟨rfl, ?_⟩
  refine codeAny_call_builtin_at (Code.quiet_builtin _ (by decide +kernel)) entry_typeCall (check_tcK hC (type_callK F hT hC hi hb hrest ?_))
  refine codeAny_mono hq fun r s' z => ?_
  rcases r with e | (v | _ | _ | _) <;> exact z
end
end MK
set_option Elab.async false
set_option linter.all false
set_option maxRecDepth 100000
set_option maxHeartbeats 4000000
/-! errors as values: made by place and by name, read, asked for their class -/
namespace MK
open PySem PySem.Spec PyProof.Rows L2
/-- an error's class over ValueError whose __init__ is the def at fI -/
structure ErrC (K : PySem.W.Frag) (C fI : Addr) : Prop where
  cls : OexC K C
  ini : PySem.W.findIn K (.ref C) "__init__" = some (some (.ref fI))
  fn : PySem.W.typeIn K (.ref fI) = some (.type "function")
/-- C(e, .., k = v, ..) as a value -/
def tErr (C : Addr) (n m : Nat) (sp : Sp) (gV : List V → List V → List V) (E : XK) (t tk : TA) : TE := fun σ H Q => t σ H fun vs H1 => tk σ H1 fun zs H2 => vs.length = n ∧ zs.length = m ∧
  ∀ a, H2 a = none → sp (gV (.ref a :: vs) zs) (upd H2 a (exo a C none)) (fun v H3 => v = .non ∧ Q (.ref a) H3) E
section
variable {X : Cx} {CX : CXT} {k n : Nat} {f C : Addr} {fd : FuncData} {ps ks : List Str} {sp : Sp} {E : XK} {x : Str} {p pos : Pos} {e : Expr} {es : List Expr} {kws : List Keyword} {t tk : TA} {g : List Value → List Value → List Value} {gV : List V → List V → List V}
theorem run_err {pins : List (Addr × Obj)} {σ : L2.St} {H : Hp} {s : Shared} {Q : VK} {us ws : List Value} {vs zs : List V} (T : ErrC X.K C f) (F : FnOk X.prog X.w X.K X.mg X.base CX k f fd ps sp) (hr : Room (k + 1) X.A) (hb : KBn X.K fd ps (n + 1) ks g gV) (hx : Passes CX X E)
    (I : Inv X pins σ H s) (r : Vals vs us) (rz : Vals zs ws) (l1 : vs.length = n) (l2 : zs.length = ks.length) (hn : n ≤ 1000)
    (h : ∀ a, H a = none → sp (gV (.ref a :: vs) zs) (upd H a (exo a C none)) (fun v H2 => v = .non ∧ Q (.ref a) H2) E) :
    wpAny (model X.prog X.w) X.A (call (.ref C) us (ks.zip ws)) (EP X pins σ Q) X.xe s := by
  obtain ⟨nm, q, N, bs, bm, sn, sub, ab, col, dd, k0, k1, k2, k3, k5, hC, hbm⟩ := T.cls.cls
  obtain ⟨hp, g0, dr, tk, os⟩ := s
  have hsz : hp.objs.size ≤ hp.objs.size + 1 := Nat.le_succ _
  have hq := h (hp.objs.size + 1) (I.hok.fresh hsz)
  have kk : ∀ b o, hp.get? b = some o → ((hp.push (PySem.W.kdv_tup us)).push (PySem.HandSPX.excO C hp.objs.size)).get? b = some o := fun b o e => Heap.get?_push_of_some _ (Heap.get?_push_of_some _ e)
  have hget : ((hp.push (PySem.W.kdv_tup us)).push (PySem.HandSPX.excO C hp.objs.size)).get? (hp.objs.size + 1) = some (PySem.HandSPX.excO C hp.objs.size) := by heap_get
  have I2 : Inv X pins σ (upd H (hp.objs.size + 1) (exo (hp.objs.size + 1) C none)) ⟨(hp.push (PySem.W.kdv_tup us)).push (PySem.HandSPX.excO C hp.objs.size), g0, dr, tk, os⟩ :=
    I.laid (t' := tk) (a := hp.objs.size + 1) (o := exo (hp.objs.size + 1) C none) (h' := (hp.push (PySem.W.kdv_tup us)).push (PySem.HandSPX.excO C hp.objs.size)) kk hsz (exo_ok hget)
  have r1 : Vals (V.ref (hp.objs.size + 1) :: vs) (Value.ref (hp.objs.size + 1) :: us) := .cons rfl r
  have r2 := hb.rel r1 rz
  have n1 : (Value.ref (hp.objs.size + 1) :: us).length = n + 1 := by rw [List.length_cons, ← r.length, l1]
  have hus : us.length ≤ sizeLine := by
    rw [← r.length, l1, sizeLine_eq]
    omega
  refine wpAny_call (callK PySem.F.excBase_ValueError (fun Y => PySem.HandSPX.refsVE_contains Y bm hbm) (I.kIn _ _ hC) (PySem.W.looks_findIn I.kIn T.ini) (fun self => PySem.W.bind_fn I.kIn self T.fn) hus
    (codeAny_mono (F.run _ X.stack _ _ ⟨Value.ref (hp.objs.size + 1) :: us, ks.zip ws⟩ (g (Value.ref (hp.objs.size + 1) :: us) ws) _ _ E (hr.make C us (ks.zip ws)) (I2.env0.make C us (ks.zip ws))
      (hb.to _ (Value.ref (hp.objs.size + 1) :: us) ws I2.kIn n1 (rz.length.symm.trans l2)) r2 hq) fun r s' hq' => ?_))
  cases r with
  | error e => exact hx pins σ _ _ e s' I2 hq'
  | ok fl =>
    cases fl with
    | ret u =>
      obtain ⟨v, H', I3, rv, ev, q3⟩ := I2.after hq'
      subst ev
      exact ⟨rv, ⟨V.ref (hp.objs.size + 1), H', I3, rfl, q3⟩⟩
    | next => exact False.elim hq'
    | brk => exact False.elim hq'
    | cont => exact False.elim hq'
/-- C(k = v, ..) -/
theorem pe_errK0 (T : ErrC X.K C f) (F : FnOk X.prog X.w X.K X.mg X.base CX k f fd ps sp) (hr : Room (k + 1) X.A) (hg : Gl X x) (hm : X.mg x = some (.ref C)) (hb : KBn X.K fd ps 1 ks g gV) (hx : Passes CX X E) (hkw : PK X kws tk)
    (hall : (backToKw pos (keywordEach kws X.env)).all (·.1.isSome) = true := by rfl) (hks : (backToKw pos (keywordEach kws X.env)).filterMap (·.1) = ks := by rfl) (hdb : (x == ("__debug__" : Str)) = false := by decide)
    (hpl : ((backTo pos (starEach [] X.env)).any (·.1) || (backToKw pos (keywordEach kws X.env)).any (·.1.isNone)) = false := by rfl) :
    PE X (.Call (.Name x p) [] kws pos) (tErr C 0 ks.length sp gV E tNil tk) := by
  refine ⟨fun pins s σ H Q I h => ?_⟩
  refine wpAny_Call_Name_kw (ld_glob I hg hm ?_ hdb)
  refine PySem.W.callWith_KW0 (h₀ := X.base) I.ok.mod.kin T.cls.kC hall ?_ hpl
  refine thn (hkw.run pos pins s σ H _ I h) fun ws s2 ⟨zs, H2, I2, rz, l1, l2, q2⟩ => ⟨I2.kIn, ?_⟩
  rw [hks]
  exact run_err (us := []) (vs := []) T F hr hb hx I2 .nil rz rfl l2 (Nat.zero_le _) q2
/-- C(e, ..) -/
theorem pe_err (T : ErrC X.K C f) (F : FnOk X.prog X.w X.K X.mg X.base CX k f fd ps sp) (hr : Room (k + 1) X.A) (hg : Gl X x) (hm : X.mg x = some (.ref C)) (hb : KBn X.K fd ps (n + 1) [] g gV) (hx : Passes CX X E) (ha : PA X (e :: es) t) (hn : n ≤ 1000)
    (hdb : (x == ("__debug__" : Str)) = false := by decide) (he : starEach (e :: es) X.env = (false, eval e X.env) :: starEach es X.env := by rfl) (hpl : (backTo pos (starEach es X.env)).any (·.1) = false := by rfl) :
    PE X (.Call (.Name x p) (e :: es) [] pos) (tErr C n 0 sp gV E t tNil) := by
  refine ⟨fun pins s σ H Q I h => ?_⟩
  refine wpAny_Call_Name_kw (ld_glob I hg hm ?_ hdb)
  refine PySem.W.callWith_K (h₀ := X.base) I.ok.mod.kin T.cls.kC (thn (ha.run pos pins s σ H _ I h) fun us s1 ⟨vs, H1, I1, r, l1, _, q⟩ => ⟨I1.kIn, ?_⟩) he hpl
  exact run_err (ks := []) (ws := []) (zs := []) T F hr hb hx I1 r .nil l1 rfl hn q
/-- e.f of such an error -/
structure ErrF (K : PySem.W.Frag) (C : Addr) : Prop where
  ga : PySem.W.findIn K (.ref C) "__getattribute__" = some (some (.builtin "BaseException.__getattribute__"))
  gg : PySem.W.findIn K (.ref C) "__getattr__" = some none
  exC : PySem.W.subIn K (.ref C) (.type "BaseException") = some true
  hdC : PySem.W.hasDictIn K C = true
def tErrF (K : PySem.W.Frag) (n : Str) (te : TE) : TE := fun σ H Q => te σ H fun x H1 => ∃ (a C dd : Addr) (fs : List (Str × V)) (v : V), x = .ref a ∧ H1 a = some (exo a C (some dd)) ∧ H1 dd = some (exd dd fs) ∧ ErrF K C ∧
  PySem.W.findIn K (.ref C) n = some none ∧ fs.lookup n = some v ∧ Q v H1
theorem pe_errF {n : Str} {te : TE} (he : PE X e te) (hb : attributeBase e n X.env (eval e X.env) = eval e X.env := by rfl) : PE X (.Attribute e n pos) (tErrF X.K n te) := by
  refine ⟨fun pins s σ H Q I h => ?_⟩
  refine attr_of hb (thn (he.run pins s σ H _ I h) fun u s1 hh => ?_)
  obtain ⟨x, H1, I1, rx, a, C, dd, fs, v, ex, ea, ed, T, hno, l, q⟩ := hh
  subst ex
  obtain rfl : u = Value.ref a := rx
  obtain ⟨t1, hoe⟩ := exo_at I1.hok ea
  obtain ⟨mA, hns, hr⟩ := exd_at I1.hok ed
  obtain ⟨od, ho, hl⟩ := lookIn_ns hns
  obtain ⟨u, hu, ru⟩ := RelO.some_of (v := v) (o := mA n) (by rw [← l]; exact hr n)
  have J : PySem.W.InstAt s1.heap a _ C (some od) := ⟨hoe, rfl, rfl, ho⟩
  exact HandSPX.exc_get I1.kIn J T.ga T.gg T.exC (PySem.W.findObj_own T.hdC hno rfl (by rw [hl, hu])) (handed_of ru) ⟨v, H1, I1.tok _, ru, q⟩
/-- C() of a class without an __init__ of its own -/
theorem pe_exc0 {bmB : List Value} {B newId initId : String} (F : ExcBaseFacts B newId initId bmB) (q : PySem.W.excIn X.K C bmB newId = true) (gC : X.mg x = some (.ref C)) (kC : PySem.W.keepIn X.K (.ref C) = true) (hg : Gl X x)
    (hdb : (x == ("__debug__" : Str)) = false := by decide) :
    PE X (.Call (.Name x p) [] [] pos) (fun σ H Q => ∀ a, H a = none → Q (.ref a) (upd H a (exo a C none))) := by
  refine ⟨fun pins s σ H Q I h => ?_⟩
  refine wpAny_Call_Name_kw (ld_glob I hg gC ?_ hdb)
  refine PySem.W.callWith_K0 I.kIn kC ?_
  show wpAny _ _ (call (.ref C) []) _ _ _
  obtain ⟨bm, N, nm, qn, bs, hdct, sn, sub, ab, col, dd, k0, k1, k2, k3, k5, mN, hC, hN, hni, T⟩ := exc_obj I.kIn q
  refine wpAny_call_exc_subT F T hC hN hni (fun h' a hm => ?_) (by show 0 ≤ sizeLine; exact Nat.zero_le _)
  have hn : H a = none := I.hok.gone hm.new
  obtain ⟨t, ht, _, _⟩ := hm.there
  exact ⟨.ref a, upd H a (exo a C none), I.laidN hm.keeps hm.new hn (exo_ok ht), rfl, h a hn⟩
/-- what isinstance asks of an error's class -/
structure ErrI (K : PySem.W.Frag) (C : Addr) : Prop where
  cl : (PySem.W.clsIn K C).isSome = true
  ga : PySem.W.findIn K (.ref C) "__getattribute__" = some (some (.builtin "BaseException.__getattribute__"))
  gg : PySem.W.findIn K (.ref C) "__getattr__" = some none
  ex : PySem.W.subIn K (.ref C) (.type "BaseException") = some true
  ca : PySem.W.findIn K (.ref C) "__class__" = some (some (.builtin "object.__class__"))
  sp : PySem.W.specialIn K (.builtin "object.__class__") "__get__" = some (some (.builtin "getset_descriptor.__get__"))
  tk : PySem.W.takesIn K (.builtin "object.__class__") = some true
  ob : PySem.W.mroIn K C (.type "object") = some true
def rIsErr (K : PySem.W.Frag) : List V → Hp → VK → Prop := fun xs H Q => ∃ (a C : Addr) (d : Option Addr) (c : V) (cv : Value) (b : Bool), xs = [.ref a, c] ∧ H a = some (exo a C d) ∧ (∀ dd, d = some dd → ∃ fs, H dd = some (exd dd fs)) ∧ ErrI K C ∧
  ClsV c cv ∧ PySem.W.kitOne K (.ref C) cv = some b ∧ Q (.bl b) H
theorem call_isErr : CallR X (.builtin "isinstance") (rIsErr X.K) := by
  intro pins s σ H xs us Q I r h
  obtain ⟨a, C, d, c, cv, b, rfl, ha, hd, T, k, e, q⟩ := h
  obtain ⟨u1, u2, rfl, r1, r2⟩ := vals2 r
  have e2 := k.eq r2
  subst e2
  obtain rfl : u1 = Value.ref a := r1
  obtain ⟨t1, ho⟩ := exo_at I.hok ha
  have go : ∀ od : Option Obj, PySem.W.InstAt s.heap a { cls := .ref C, dict := d, data := .fields #[.ref t1, .none, .none, .none, .bool false, .none] } C od → wpAny (model X.prog X.w) X.A (call (.builtin "isinstance") [Value.ref a, u2]) (EP X pins σ Q) X.xe s := fun od J =>
    PySem.W.kia_one (PySem.W.kitx_exc (od := od) T.cl T.ga T.gg T.ex T.ca T.sp T.tk T.ob) I.kIn J e (fun z => nomatch z) fun tk => ⟨.bl b, H, I.tok tk, rfl, q⟩
  cases d with
  | none => exact go none ⟨ho, rfl, rfl, trivial⟩
  | some dd =>
    obtain ⟨fs, hfs⟩ := hd dd rfl
    obtain ⟨mA, hns, _⟩ := exd_at I.hok hfs
    obtain ⟨od, hod, _⟩ := lookIn_ns hns
    exact go (some od) ⟨ho, rfl, rfl, hod⟩
end
end MK
set_option Elab.async false
set_option linter.all false
set_option maxRecDepth 100000
set_option maxHeartbeats 4000000
/-! defs by their names, what is kept -/
namespace MK
open PySem PySem.Spec PyProof.Rows L2
section
variable {P : Program} {w : World} {K : PySem.W.Frag} {mg : Str → Option Value} {base : Heap} {CX : CXT}
/-- a def of the module that may be called by its name -/
structure Cal (P : Program) (w : World) (K : PySem.W.Frag) (mg : Str → Option Value) (base : Heap) (CX : CXT) (k : Nat) (x : Str) (sp : Sp) : Prop where
  ex : ∃ (f : Addr) (fd : FuncData) (ps : List Str), FnOk P w K mg base CX k f fd ps sp ∧ mg x = some (.ref f) ∧ PySem.W.keepIn K (.ref f) = true ∧ Binds K fd ps []
/-- what the top left of a def: its text, its name, how its arguments bind -/
structure DefX (K : PySem.W.Frag) (mg : Str → Option Value) (x : Str) (st : Stmt) (ps : List Str) (f : Addr) (fd : FuncData) : Prop where
  fn : Fun K x x st f fd
  mgf : mg x = some (.ref f)
  bi : Binds K fd ps []
theorem cal_mk {x : Str} {st : Stmt} {f : Addr} {fd : FuncData} {N ps : List Str} {k : Nat} {sp : Sp} (F : DefX K mg x st ps f fd) (S : FnScope N ps (defScope st)) (len : ∀ vs H Q E, sp vs H Q E → vs.length = ps.length)
    (hbody : ∀ (cdv : Value) (A : Around) (outer : List Env) (s : Shared) (H : Hp) (vs : List V) (Q : VK) (E : XK), Room k (A.deeper (envOfC x (defScope st) s.heap.objs.size f cdv)) → sp vs H Q E →
      ∃ t, PSs (cxOf CX0 P w K mg base N x (defScope st) f cdv A outer s H E).nox (defBody st) t ∧ t { nx := fun _ H' => Q .non H', rt := Q } (start N vs) H) : Cal P w K mg base CX0 (k + 1) x sp :=
  ⟨f, fd, ps, F.fn.ok S len hbody, F.mgf, F.fn.kp, F.bi⟩
end
section
variable {X : Cx} {k j : Nat} {x : Str} {sp : Sp} {p pos : Pos} {e : Expr} {es : List Expr} {t : TA}
theorem pe_c (c : Cal X.prog X.w X.K X.mg X.base CX0 k x sp) (hr : Room j X.A) (hk : k ≤ j) (hg : Gl X x) (ha : PA X (e :: es) t)
    (hdb : (x == ("__debug__" : Str)) = false := by decide) (he : starEach (e :: es) X.env = (false, eval e X.env) :: starEach es X.env := by rfl) (hpl : (backTo pos (starEach es X.env)).any (·.1) = false := by rfl) :
    PE X (.Call (.Name x p) (e :: es) [] pos) (tCall sp [] E0 t) := by
  obtain ⟨f, fd, ps, F, hm, kp, b⟩ := c.ex
  exact pe_call F (hr.mono hk) hg hm kp b .nil pass0 ha hdb he hpl
/-- a str times a small int -/
theorem op_repS : OpR X (binaryOp .Mult) (fun x y H Q => ∃ (z : Str) (n : Int), x = .str z ∧ y = .int n ∧ ((n ≤ 0 ∧ -(2 ^ 63) ≤ n ∧ Q (.str Str.empty) H) ∨ (n = 1 ∧ Q (.str z) H))) := by
  intro pins s σ H x y v u Q I rx ry h
  obtain ⟨z, n, rfl, rfl, h⟩ := h
  obtain ⟨t, rfl⟩ := rx
  obtain ⟨t', rfl⟩ := ry
  rcases h with ⟨h1, h2, q⟩ | ⟨rfl, q⟩
  · exact PySem.P.mul_str_none (by omega) (by omega) ⟨.str Str.empty, H, I.tok _, ⟨_, rfl⟩, q⟩
  · refine PySem.P.mul_str (by decide) (fun _ h => absurd h (by simp)) (fun _ h => absurd h (by simp)) ?_
    show Made.post (Made.val (Value.str z t)) _ _
    exact ⟨.str z, H, I, ⟨_, rfl⟩, q⟩
end
/-- a statement, then the rest, Mid between them: what follows is shown once -/
def tCut (t u : TS) : TS := fun D σ H => ∃ Mid : L2.St → Hp → Prop, t { D with nx := Mid } σ H ∧ ∀ σ' H', Mid σ' H' → u D σ' H'
theorem pss_cut {X : Cx} {st : Stmt} {rest : List Stmt} {t u : TS} (h1 : PS X st t) (h2 : PSs X rest u) : PSs X (st :: rest) (tCut t u) := by
  refine ⟨fun pins s σ H D I h => ?_⟩
  obtain ⟨Mid, a, b⟩ := h
  refine wpAny_execs_cons (thn (h1.run pins s σ H { D with nx := Mid } I a) fun f s1 q => ?_)
  cases f with
  | next =>
    obtain ⟨σ', H', I', q⟩ := q
    exact h2.run pins s1 σ' H' D I' (b σ' H' q)
  | ret v => exact q
  | brk => exact q
  | cont => exact q
/-- the name of a built-in class, as a value -/
theorem pe_tyv {X : Cx} {x : Str} {n : String} {pos : Pos} (hg : Gl X x) (hm : X.mg x = none) (hv : bootBuiltins x = some (.type n)) (hn : x ≠ "__name__" := by decide) (hd : (x == ("__debug__" : Str)) = false := by decide) : PE X (.Name x pos) (tC (.ty n)) :=
  pe_bltn hg hm hv rfl hn hd
/-- an expression, a test, with a word between it and what follows -/
def tCutE (te : TE) : TE := fun σ H Q => ∃ Mid : V → Hp → Prop, te σ H Mid ∧ ∀ v H', Mid v H' → Q v H'
def tCutT (tt : TT) : TT := fun σ H Q => ∃ Mid : Bool → Hp → Prop, tt σ H Mid ∧ ∀ b H', Mid b H' → Q b H'
theorem pe_cut {X : Cx} {e : Expr} {te : TE} (h : PE X e te) : PE X e (tCutE te) := by
  refine ⟨fun pins s σ H Q I ⟨Mid, a, b⟩ => ?_⟩
  exact thn (h.run pins s σ H Mid I a) fun u s1 ⟨v, H1, I1, r1, q1⟩ => ⟨v, H1, I1, r1, b v H1 q1⟩
theorem pt_cut {X : Cx} {e : Expr} {tt : TT} (h : PT X e tt) : PT X e (tCutT tt) := by
  refine ⟨fun pins s σ H Q I ⟨Mid, a, b⟩ => ?_⟩
  exact thn (h.run pins s σ H Mid I a) fun u s1 ⟨H1, I1, q1⟩ => ⟨H1, I1, b u H1 q1⟩
/-- all that was tracked is as it was, but what stands at s -/
def SameX (s : Addr) (H H' : Hp) : Prop := ∀ b o, H b = some o → b ≠ s → H' b = some o
theorem SameX.refl (s : Addr) (H : Hp) : SameX s H H := fun _ _ h _ => h
theorem SameX.trans {s : Addr} {H H1 H2 : Hp} (a : SameX s H H1) (b : SameX s H1 H2) : SameX s H H2 := fun c o h n => b c o (a c o h n) n
theorem SameX.new {s p : Addr} {o : HO} {H H1 : Hp} (a : SameX s H H1) (h : H1 p = none) : SameX s H (upd H1 p o) := fun c u hc n => by
  have e := a c u hc n
  rw [upd_ne (ne_of_none e h)]
  exact e
theorem SameX.put {s : Addr} {o : HO} {H H1 : Hp} (a : SameX s H H1) : SameX s H (upd H1 s o) := fun c u hc n => by
  rw [upd_ne n]
  exact a c u hc n
theorem same_sx {s : Addr} {H H1 : Hp} (a : Same H H1) : SameX s H H1 := fun c u hc _ => a c u hc
theorem SameX.none {s p : Addr} {H H1 : Hp} (a : SameX s H H1) (n : p ≠ s) (h : H1 p = Option.none) : H p = Option.none := by
  cases e : H p with
  | none => rfl
  | some o =>
    rw [a p o e n] at h
    cases h
theorem same_new {p : Addr} {o : HO} {H H1 : Hp} (a : Same H H1) (h : H1 p = none) : Same H (upd H1 p o) := fun c u hc => by
  have e := a c u hc
  rw [upd_ne (ne_of_none e h)]
  exact e
theorem SameX.l {K : PySem.W.Frag} {s a : Addr} {xs : List V} {H H1 : Hp} (e : SameX s H H1) (n : a ≠ s) (h : SqL K H a xs) : SqL K H1 a xs := by
  rcases h with (h | ⟨o, h⟩) | h
  · exact .inl (.inl (e _ _ h n))
  · exact .inl (.inr ⟨o, e _ _ h n⟩)
  · exact .inr h
theorem SameX.t {K : PySem.W.Frag} {s a : Addr} {xs : List V} {H H1 : Hp} (e : SameX s H H1) (n : a ≠ s) (h : SqT K H a xs) : SqT K H1 a xs := by
  rcases h with (h | ⟨o, h⟩) | h
  · exact .inl (.inl (e _ _ h n))
  · exact .inl (.inr ⟨o, e _ _ h n⟩)
  · exact .inr h
theorem walk_enumT {K : PySem.W.Frag} {a : Addr} {xs : List V} : Walk (IteT K a) xs.length (fun H => SqT K H a xs) (YPair (fun i => some (.int (i : Nat))) (fun i => xs[i]?)) := by
  refine ⟨fun i _ hi q => ⟨xs, xs[i], q, by simp [hi]⟩, fun _ q => ⟨xs, q, Nat.le_refl _⟩, fun i H v H' _ q y => ?_⟩
  obtain ⟨T, x, h1, h2, h3, h4⟩ := y
  exact ⟨T, .int (i : Nat), x, h1, h2, h3, rfl, h4 xs q⟩
theorem upd_none {H : Hp} {a b : Addr} {o : HO} (h : upd H a o b = none) : b ≠ a ∧ H b = none := by
  by_cases e : b = a
  · rw [e, upd_same] at h
    cases h
  · rw [upd_ne e] at h
    exact ⟨e, h⟩
/-! ### things that are the same, as the laws ask: equal, and of the same kinds -/
section
variable {K : PySem.W.Frag}
/-- nothing in it that is walked -/
def Flat (H : Hp) (x y : V) : Prop := (x = y ∧ (x = .non ∨ (∃ b, x = .bl b) ∨ (∃ i, x = .int i) ∨ ∃ z, x = .str z)) ∨
  ∃ a b kvs, x = .ref a ∧ y = .ref b ∧ H a = some (.dK kvs) ∧ H b = some (.dK kvs) ∧ (kvs.map (·.1)).Nodup ∧ ∀ p ∈ kvs, flatB p.2 = true
def Sm (K : PySem.W.Frag) (H : Hp) : Nat → V → V → Prop
  | 0, x, y => Flat H x y
  | n + 1, x, y => Flat H x y ∨ ∃ a b xs ys, x = .ref a ∧ y = .ref b ∧ ((SqL K H a xs ∧ SqL K H b ys) ∨ (SqT K H a xs ∧ SqT K H b ys)) ∧ xs.length = ys.length ∧ xs.length < 100000 ∧ ∀ (i : Nat) x y, xs[i]? = some x → ys[i]? = some y → Sm K H n x y
theorem same_t {H H' : Hp} {a : Addr} {xs : List V} (e : Same H H') (h : SqT K H a xs) : SqT K H' a xs := by
  rcases h with (h | ⟨o, h⟩) | h
  · exact .inl (.inl (e _ _ h))
  · exact .inl (.inr ⟨o, e _ _ h⟩)
  · exact .inr h
theorem Flat.keep {H H' : Hp} {x y : V} (e : Same H H') (h : Flat H x y) : Flat H' x y := by
  rcases h with h | ⟨a, b, kvs, h1, h2, h3, h4, h5⟩
  · exact .inl h
  · exact .inr ⟨a, b, kvs, h1, h2, e _ _ h3, e _ _ h4, h5⟩
theorem Sm.keep {H H' : Hp} (e : Same H H') : ∀ {n : Nat} {x y : V}, Sm K H n x y → Sm K H' n x y
  | 0, _, _, h => Flat.keep e h
  | n + 1, _, _, h => by
    rcases h with h | ⟨a, b, xs, ys, h1, h2, h3, h4, h5, h6⟩
    · exact .inl (h.keep e)
    · refine .inr ⟨a, b, xs, ys, h1, h2, ?_, h4, h5, fun i x y q1 q2 => Sm.keep e (h6 i x y q1 q2)⟩
      rcases h3 with ⟨p, q⟩ | ⟨p, q⟩
      · exact .inl ⟨e.seq p, e.seq q⟩
      · exact .inr ⟨same_t e p, same_t e q⟩
theorem tyx_l {H : Hp} {a : Addr} {xs : List V} (h : SqL K H a xs) : TyX K H (.ref a) (.type "list") := by
  rcases h with (h | ⟨o, h⟩) | ⟨o, its, n, hk, hc, _⟩
  · exact .base (.lst h)
  · exact .base (.frz h)
  · exact .kList hk hc
theorem tyx_t {H : Hp} {a : Addr} {xs : List V} (h : SqT K H a xs) : TyX K H (.ref a) (.type "tuple") := by
  rcases h with (h | ⟨o, h⟩) | ⟨o, its, n, hk, hc, _⟩
  · exact .base (.tup h)
  · exact .fTuple h
  · exact .kTuple hk hc
theorem tyx_keep {H H' : Hp} {x : V} {t : Value} (e : Same H H') (h : TyX K H x t) : TyX K H' x t := by
  cases h with
  | base h =>
    cases h with
    | non => exact .base .non
    | bl b => exact .base (.bl b)
    | int i => exact .base (.int i)
    | str z => exact .base (.str z)
    | flt z => exact .base (.flt z)
    | lst h => exact .base (.lst (e _ _ h))
    | frz h => exact .base (.frz (e _ _ h))
    | tup h => exact .base (.tup (e _ _ h))
    | dK h => exact .base (.dK (e _ _ h))
    | dT h => exact .base (.dT (e _ _ h))
    | ins h cl ha hn ht hm => exact .base (.ins (e _ _ h) cl ha hn ht hm)
  | byt b => exact .byt b
  | set h => exact .set (e _ _ h)
  | kList h c => exact .kList h c
  | kTuple h c => exact .kTuple h c
  | kDict h c => exact .kDict h c
  | fTuple h => exact .fTuple (e _ _ h)
  | fDict h => exact .fDict (e _ _ h)
theorem walk_zipT {a b : Addr} {xs ys : List V} {n : Nat} (hn : n = min xs.length ys.length) : Walk (RZ.ItzT K a b) n (fun H => SqT K H a xs ∧ SqT K H b ys) (YPair (fun i => xs[i]?) (fun i => ys[i]?)) := by
  subst hn
  refine ⟨fun i _ hi q => ?_, fun _ q => ⟨xs, ys, q.1, q.2, by omega⟩, fun i H v H' _ q y => ?_⟩
  · have h1 : i < xs.length := by omega
    have h2 : i < ys.length := by omega
    exact ⟨xs, ys, xs[i], ys[i], q.1, q.2, by simp [h1], by simp [h2]⟩
  · obtain ⟨T, x, y, h1, h2, h3, h4, h5⟩ := y
    exact ⟨T, x, y, h1, h2, h3, h4 xs q.1, h5 ys q.2⟩
end
/-- a def that is never called so -/
theorem cal_bot {P : Program} {w : World} {K : PySem.W.Frag} {mg : Str → Option Value} {base : Heap} {x : Str} {st : Stmt} {ps : List Str} {f : Addr} {fd : FuncData} (F : DefX K mg x st ps f fd) : Cal P w K mg base CX0 0 x (fun _ _ _ _ => False) :=
  ⟨f, fd, ps, ⟨fun _ _ _ _ h => h.elim, fun _ _ _ _ _ _ _ _ _ _ _ _ _ h => h.elim⟩, F.mgf, F.fn.kp, F.bi⟩
end MK
set_option Elab.async false
set_option linter.all false
set_option maxRecDepth 100000
set_option maxHeartbeats 4000000
/-! errors as values, by the names of their classes -/
namespace MK
open PySem PySem.Spec PyProof.Rows L2
theorem exo_lst {e C : Addr} {d : Option Addr} {xs : List V} : exo e C d ≠ .lst xs := fun z => by
  have z' : HO.ext _ = HO.lst xs := z
  cases z'
theorem exd_lst {e : Addr} {fs : List (Str × V)} {xs : List V} : exd e fs ≠ .lst xs := fun z => by
  have z' : HO.ext _ = HO.lst xs := z
  cases z'
/-- an error of the class at C stands at a; its attributes, the latest first -/
def Err (H : Hp) (C a : Addr) (fs : List (Str × V)) : Prop := ∃ d, H a = some (exo a C (some d)) ∧ H d = some (exd d fs)
theorem Err.keep {H H' : Hp} {C a : Addr} {fs : List (Str × V)} (e : Same H H') (h : Err H C a fs) : Err H' C a fs := by
  obtain ⟨d, h1, h2⟩ := h
  exact ⟨d, e _ _ h1, e _ _ h2⟩
theorem Err.put {H : Hp} {C a p : Addr} {fs : List (Str × V)} {xs zs : List V} (hp : H p = some (.lst xs)) (h : Err H C a fs) : Err (upd H p (.lst zs)) C a fs := by
  obtain ⟨d, h1, h2⟩ := h
  exact ⟨d, by rw [upd_ne (at_ne hp h1 (Ne.symm exo_lst))]; exact h1, by rw [upd_ne (at_ne hp h2 (Ne.symm exd_lst))]; exact h2⟩
/-- an error of the class at C without attributes -/
def Err0 (H : Hp) (C a : Addr) : Prop := H a = some (exo a C none)
/-- what the __init__ of an error with one attribute promises; with two -/
def spErr1 (C : Addr) (f : Str) : Sp := fun vs H Q _ => ∃ (a : Addr) (v : V), vs = [.ref a, v] ∧ H a = some (exo a C none) ∧ ∀ d, H d = none → d ≠ a → Q .non (upd (upd H d (exd d [(f, v)])) a (exo a C (some d)))
def spErr2 (C : Addr) (f g : Str) : Sp := fun vs H Q _ => ∃ (a : Addr) (v u : V), vs = [.ref a, v, u] ∧ H a = some (exo a C none) ∧ ∀ d, H d = none → d ≠ a →
  Q .non (upd (upd (upd H d (exd d [(f, v)])) a (exo a C (some d))) d (exd d [(g, u), (f, v)]))
/-- an error's class by its name: n values by place, the names ks -/
structure ErrCal (P : Program) (w : World) (K : PySem.W.Frag) (mg : Str → Option Value) (base : Heap) (k : Nat) (x : Str) (C : Addr) (sp : Sp) (n : Nat) (ks : List Str) (g : List Value → List Value → List Value) (gV : List V → List V → List V) : Prop where
  ex : ∃ (f : Addr) (fd : FuncData) (ps : List Str), ErrC K C f ∧ FnOk P w K mg base CX0 k f fd ps sp ∧ mg x = some (.ref C) ∧ KBn K fd ps (n + 1) ks g gV
structure Exc0 (K : PySem.W.Frag) (mg : Str → Option Value) (x : Str) (C : Addr) : Prop where
  q : PySem.W.excIn K C PySem.HandSPX.veTail "ValueError.__new__" = true
  mgC : mg x = some (.ref C)
  kp : PySem.W.keepIn K (.ref C) = true
section
variable {X : Cx} {k j n : Nat} {x : Str} {C : Addr} {sp : Sp} {p pos : Pos} {e : Expr} {es : List Expr} {t tk : TA} {kws : List Keyword} {ks : List Str} {g : List Value → List Value → List Value} {gV : List V → List V → List V}
theorem pe_errKC (c : ErrCal X.prog X.w X.K X.mg X.base k x C sp 0 ks g gV) (hr : Room j X.A) (hk : k + 1 ≤ j) (hg : Gl X x) (hkw : PK X kws tk)
    (hall : (backToKw pos (keywordEach kws X.env)).all (·.1.isSome) = true := by rfl) (hks : (backToKw pos (keywordEach kws X.env)).filterMap (·.1) = ks := by rfl) (hdb : (x == ("__debug__" : Str)) = false := by decide)
    (hpl : ((backTo pos (starEach [] X.env)).any (·.1) || (backToKw pos (keywordEach kws X.env)).any (·.1.isNone)) = false := by rfl) :
    PE X (.Call (.Name x p) [] kws pos) (tErr C 0 ks.length sp gV E0 tNil tk) := by
  obtain ⟨f, fd, ps, T, F, hm, b⟩ := c.ex
  exact pe_errK0 T F (hr.mono hk) hg hm b pass0 hkw hall hks hdb hpl
theorem pe_errC (c : ErrCal X.prog X.w X.K X.mg X.base k x C sp n [] g gV) (hr : Room j X.A) (hk : k + 1 ≤ j) (hg : Gl X x) (ha : PA X (e :: es) t) (hn : n ≤ 1000 := by decide)
    (hdb : (x == ("__debug__" : Str)) = false := by decide) (he : starEach (e :: es) X.env = (false, eval e X.env) :: starEach es X.env := by rfl) (hpl : (backTo pos (starEach es X.env)).any (·.1) = false := by rfl) :
    PE X (.Call (.Name x p) (e :: es) [] pos) (tErr C n 0 sp gV E0 t tNil) := by
  obtain ⟨f, fd, ps, T, F, hm, b⟩ := c.ex
  exact pe_err T F (hr.mono hk) hg hm b pass0 ha hn hdb he hpl
theorem pe_errFK {K : PySem.W.Frag} {n : Str} {te : TE} (he : PE X e te) (hK : X.K = K := by rfl) (hb : attributeBase e n X.env (eval e X.env) = eval e X.env := by rfl) : PE X (.Attribute e n pos) (tErrF K n te) := by
  subst hK
  exact pe_errF he hb
theorem pe_refv {a : Addr} (hg : Gl X x) (hm : X.mg x = some (.ref a)) (hd : (x == ("__debug__" : Str)) = false := by decide) : PE X (.Name x pos) (tC (.ref a)) := pe_glob hg hm rfl hd
theorem pe_x0 (c : Exc0 X.K X.mg x C) (hg : Gl X x) (hdb : (x == ("__debug__" : Str)) = false := by decide) : PE X (.Call (.Name x p) [] [] pos) (fun σ H Q => ∀ a, H a = none → Q (.ref a) (upd H a (exo a C none))) :=
  pe_exc0 PySem.F.excBase_ValueError c.q c.mgC c.kp hg hdb
end
/-! readings -/
section
variable {C : Addr} {f h : Str} {σ : L2.St} {H : Hp} {Q : VK} {t tk : TA} {v u : V} {E : XK}
theorem rd_errK (ht : ∀ R : List V → Hp → Prop, R [v] H → tk σ H R) (q : ∀ a H', H a = none → Same H H' → Err H' C a [(f, v)] → Q (.ref a) H') : tErr C 0 1 (spErr1 C f) (fun vs zs => vs ++ zs) E tNil tk σ H Q := by
  refine ht _ ⟨rfl, rfl, fun a ha => ⟨a, v, rfl, upd_same, fun d hd da => ⟨rfl, ?_⟩⟩⟩
  have hd' := (upd_none hd).2
  refine q a _ ha (fun b o hb => ?_) ⟨d, upd_same, (upd_ne da).trans upd_same⟩
  have ba := ne_of_none hb ha
  have bd := ne_of_none hb hd'
  rw [upd_ne ba, upd_ne bd, upd_ne ba]
  exact hb
theorem rd_err1 (ht : ∀ R : List V → Hp → Prop, R [v] H → t σ H R) (q : ∀ a H', H a = none → Same H H' → Err H' C a [(f, v)] → Q (.ref a) H') : tErr C 1 0 (spErr1 C f) (fun vs _ => vs) E t tNil σ H Q := by
  refine ht _ ⟨rfl, rfl, fun a ha => ⟨a, v, rfl, upd_same, fun d hd da => ⟨rfl, ?_⟩⟩⟩
  have hd' := (upd_none hd).2
  refine q a _ ha (fun b o hb => ?_) ⟨d, upd_same, (upd_ne da).trans upd_same⟩
  have ba := ne_of_none hb ha
  have bd := ne_of_none hb hd'
  rw [upd_ne ba, upd_ne bd, upd_ne ba]
  exact hb
theorem same_err2 {a d : Addr} {o1 o2 o3 o4 : HO} (ha : H a = none) (hd : H d = none) : Same H (upd (upd (upd (upd H a o1) d o2) a o3) d o4) := fun b o hb => by
  have ba := ne_of_none hb ha
  have bd := ne_of_none hb hd
  rw [upd_ne bd, upd_ne ba, upd_ne bd, upd_ne ba]
  exact hb
theorem rd_err2 (ht : ∀ R : List V → Hp → Prop, R [v, u] H → t σ H R) (q : ∀ a H', H a = none → Same H H' → Err H' C a [(h, u), (f, v)] → Q (.ref a) H') : tErr C 2 0 (spErr2 C f h) (fun vs _ => vs) E t tNil σ H Q := by
  refine ht _ ⟨rfl, rfl, fun a ha => ⟨a, v, u, rfl, upd_same, fun d hd da => ⟨rfl, ?_⟩⟩⟩
  exact q a _ ha (same_err2 ha (upd_none hd).2) ⟨d, (upd_ne da.symm).trans upd_same, upd_same⟩
/-- the names the other way about -/
theorem rd_errK2 (ht : ∀ R : List V → Hp → Prop, R [u, v] H → tk σ H R) (q : ∀ a H', H a = none → Same H H' → Err H' C a [(h, u), (f, v)] → Q (.ref a) H') : tErr C 0 2 (spErr2 C f h) (fun vs zs => vs ++ zs.reverse) E tNil tk σ H Q := by
  refine ht _ ⟨rfl, rfl, fun a ha => ⟨a, v, u, rfl, upd_same, fun d hd da => ⟨rfl, ?_⟩⟩⟩
  exact q a _ ha (same_err2 ha (upd_none hd).2) ⟨d, (upd_ne da.symm).trans upd_same, upd_same⟩
theorem rd_errF {K : PySem.W.Frag} {te : TE} {a : Addr} {fs : List (Str × V)} (ht : ∀ R : VK, R (.ref a) H → te σ H R) (he : Err H C a fs) (hF : ErrF K C) (hn : PySem.W.findIn K (.ref C) f = some none) (hl : fs.lookup f = some v) (q : Q v H) : tErrF K f te σ H Q := by
  obtain ⟨d, h1, h2⟩ := he
  exact ht _ ⟨a, C, d, fs, v, rfl, h1, h2, hF, hn, hl, q⟩
end
/-! lists of truth values, compared -/
theorem dp_bools {K : PySem.W.Frag} {H : Hp} : ∀ bs : List Bool, DpAll K H (bs.map V.bl) (bs.map PyData.bool)
  | [] => .nil
  | b :: bs => .cons (.bl b) (dp_bools bs)
theorem bools_lay : ∀ bs : List Bool, PyData.canLayAll0 (bs.map PyData.bool) = true
  | [] => rfl
  | b :: bs => by
    rw [List.map_cons]
    unfold PyData.canLayAll0 PyData.canLay0
    rw [Bool.true_and]
    exact bools_lay bs
theorem bools_depth : ∀ bs : List Bool, PyData.depthAll (bs.map PyData.bool) = 0
  | [] => rfl
  | b :: bs => by
    rw [List.map_cons]
    unfold PyData.depthAll
    rw [bools_depth bs]
    rfl
theorem bools_shaped (bs : List Bool) : SeqAt.shaped (.list (bs.map PyData.bool)) = true := by
  have h1 : PyData.canLay0 (.list (bs.map PyData.bool)) = true := by
    unfold PyData.canLay0
    exact bools_lay bs
  have h2 : PyData.depth (.list (bs.map PyData.bool)) ≤ 64 := by
    unfold PyData.depth
    rw [bools_depth bs]
    decide
  unfold SeqAt.shaped
  rw [h1, decide_eq_true h2]
  rfl
theorem bools_eqv (bs : List Bool) : PyData.eqv (.list (bs.map PyData.bool)) (.list (bs.map PyData.bool)) = true :=
  SeqAt.eqv_refl _ (SeqAt.canLay_of_shaped (bools_shaped bs))
/-! what the written part says of an error's class, by one look -/
def oexB (K : PySem.W.Frag) (C : Addr) : Bool := match K.lookup C with
  | some ⟨.type "type", _, .cls cd, sl⟩ => (match cd.mro, sl.toList with
    | .ref C' :: bm, [_, _, _, _, some (.builtin n), _] => C' == C && (n == "ValueError.__new__" && (!cd.hasDel && (cd.hasDict && PySem.HandSPX.refsVE bm)))
    | _, _ => false)
  | _ => false
theorem oexB_ok {K : PySem.W.Frag} {C : Addr} (h : oexB K C = true) :
    ∃ nm q N bs bm sn sub ab col dd k0 k1 k2 k3 k5, K.lookup C = some (excClassObj nm q C N bs bm true sn sub ab col dd k0 k1 k2 k3 k5 "ValueError.__new__") ∧ PySem.HandSPX.refsVE bm = true := by
  unfold oexB at h
  split at h
  · rename_i dd cd sl ho
    split at h
    · rename_i C' bm k0 k1 k2 k3 n k5 hm hs
      simp only [Bool.and_eq_true, beq_iff_eq, Bool.not_eq_true'] at h
      obtain ⟨rfl, rfl, hdel, hdict, hb⟩ := h
      obtain ⟨nm, bs, mro, ns, qn, hd, sn, sub, ab, col, del⟩ := cd
      dsimp only at hm hdel hdict
      subst hm hdel hdict
      have hsl : sl = #[k0, k1, k2, k3, some (.builtin "ValueError.__new__"), k5] := by
        obtain ⟨z⟩ := sl
        simp only at hs
        rw [hs]
      subst hsl
      exact ⟨_, _, _, _, _, _, _, _, _, _, _, _, _, _, _, ho, hb⟩
    · cases h
  · cases h
def errB (K : PySem.W.Frag) (C : Addr) : Bool :=
  decide (PySem.W.findIn K (.ref C) "__setattr__" = some (some (.builtin "object.__setattr__"))) && (decide (PySem.W.subIn K (.ref C) (.type "BaseException") = some true) && (decide (PySem.W.typeIn K (.ref C) = some (.type "type")) && (PySem.W.keepIn K (.ref C) &&
  (decide (PySem.W.findIn K (.ref C) "__getattribute__" = some (some (.builtin "BaseException.__getattribute__"))) && (decide (PySem.W.findIn K (.ref C) "__getattr__" = some none) && (PySem.W.hasDictIn K C && ((PySem.W.clsIn K C).isSome &&
  (decide (PySem.W.findIn K (.ref C) "__class__" = some (some (.builtin "object.__class__"))) && (decide (PySem.W.specialIn K (.builtin "object.__class__") "__get__" = some (some (.builtin "getset_descriptor.__get__"))) &&
  (decide (PySem.W.takesIn K (.builtin "object.__class__") = some true) && decide (PySem.W.mroIn K C (.type "object") = some true)))))))))))
theorem errB_ok {K : PySem.W.Frag} {C : Addr} (h : errB K C = true) (o : oexB K C = true) : OexC K C ∧ ErrF K C ∧ ErrI K C := by
  simp only [errB, Bool.and_eq_true, decide_eq_true_eq] at h
  obtain ⟨h1, h2, h3, h4, h5, h6, h7, h8, h9, h10, h11, h12⟩ := h
  exact ⟨⟨oexB_ok o, h1, h2, h3, h4⟩, ⟨h5, h6, h2, h7⟩, ⟨h8, h5, h6, h2, h9, h10, h11, h12⟩⟩
theorem errI_of {K : PySem.W.Frag} {C : Addr} (h : errB K C = true) : ErrI K C := by
  simp only [errB, Bool.and_eq_true, decide_eq_true_eq] at h
  obtain ⟨h1, h2, h3, h4, h5, h6, h7, h8, h9, h10, h11, h12⟩ := h
  exact ⟨h8, h5, h6, h2, h9, h10, h11, h12⟩
/-- which class is one of which -/
def kitsB (K : PySem.W.Frag) (cs : List Addr) (M : Addr) : Bool :=
  ((List.range cs.length).all fun i => (List.range cs.length).all fun j => decide (PySem.W.kitOne K (.ref (cs.getD i 0)) (.ref (cs.getD j 0)) = some (decide (j = i)))) &&
  (((List.range cs.length).all fun i => decide (PySem.W.kitOne K (.ref M) (.ref (cs.getD i 0)) = some false) && (decide (PySem.W.kitOne K (.ref (cs.getD i 0)) (.ref M) = some true) && decide (PySem.W.kitOne K (.ref (cs.getD i 0)) (.type "ValueError") = some true))) &&
  decide (PySem.W.kitOne K (.ref M) (.type "ValueError") = some true))
theorem getD_of {l : List Addr} {i : Nat} {a : Addr} (h : l[i]? = some a) : i < l.length ∧ l.getD i 0 = a := by
  obtain ⟨h1, h2⟩ := List.getElem?_eq_some_iff.mp h
  exact ⟨h1, by rw [List.getD_eq_getElem?_getD, h]; rfl⟩
theorem kitsB_ok {K : PySem.W.Frag} {cs : List Addr} {M : Addr} (h : kitsB K cs M = true) :
    (∀ (i j : Nat) (C D : Addr), cs[i]? = some C → cs[j]? = some D → PySem.W.kitOne K (.ref C) (.ref D) = some (decide (j = i))) ∧ (∀ (j : Nat) (D : Addr), cs[j]? = some D → PySem.W.kitOne K (.ref M) (.ref D) = some false) ∧
    (∀ (i : Nat) (C : Addr), cs[i]? = some C → PySem.W.kitOne K (.ref C) (.ref M) = some true) ∧ (∀ (i : Nat) (C : Addr), cs[i]? = some C → PySem.W.kitOne K (.ref C) (.type "ValueError") = some true) ∧ PySem.W.kitOne K (.ref M) (.type "ValueError") = some true := by
  simp only [kitsB, Bool.and_eq_true, decide_eq_true_eq, List.all_eq_true, List.mem_range] at h
  obtain ⟨h1, h2, h3⟩ := h
  refine ⟨fun i j C D hC hD => ?_, fun j D hD => ?_, fun i C hC => ?_, fun i C hC => ?_, h3⟩
  · have z := h1 i (getD_of hC).1 j (getD_of hD).1
    rw [(getD_of hC).2, (getD_of hD).2] at z
    exact z
  · have z := (h2 j (getD_of hD).1).1
    rw [(getD_of hD).2] at z
    exact z
  · have z := (h2 i (getD_of hC).1).2.1
    rw [(getD_of hC).2] at z
    exact z
  · have z := (h2 i (getD_of hC).1).2.2
    rw [(getD_of hC).2] at z
    exact z
end MK
set_option Elab.async false
set_option linter.all false
set_option autoImplicit false
set_option maxRecDepth 100000
set_option maxHeartbeats 4000000
/-! kinds as data, and where they stand -/
namespace MK
open PySem PySem.Spec PyProof.Rows L2
/-- all but what stands at s -/
def Off (s : Addr) (H : Hp) : Hp := fun b => if b = s then none else H b
theorem off_ne {s b : Addr} {H : Hp} (h : b ≠ s) : Off s H b = H b := if_neg h
theorem off_s {s : Addr} {H : Hp} : Off s H s = none := if_pos rfl
theorem off_same {s : Addr} {H : Hp} : Same (Off s H) H := fun b o h => by
  by_cases e : b = s
  · rw [e, off_s] at h
    cases h
  · rw [off_ne e] at h
    exact h
theorem SameX.off {s : Addr} {H H' : Hp} (e : SameX s H H') : Same (Off s H) (Off s H') := fun b o h => by
  by_cases q : b = s
  · rw [q, off_s] at h
    cases h
  · rw [off_ne q] at h ⊢
    exact e _ _ h q
theorem same_off {s : Addr} {H H' : Hp} (e : Same H H') : Same (Off s H) (Off s H') := (same_sx e).off
theorem off_upd {s a : Addr} {o : HO} {H : Hp} (h : a ≠ s) : Off s (upd H a o) = upd (Off s H) a o := by
  funext b
  by_cases e : b = s
  · subst e
    rw [off_s, upd_ne (Ne.symm h), off_s]
  · by_cases q : b = a
    · subst q
      rw [off_ne e, upd_same, upd_same]
    · rw [off_ne e, upd_ne q, upd_ne q, off_ne e]
theorem off_get {s a : Addr} {o : HO} {H : Hp} (h : Off s H a = some o) : H a = some o := off_same _ _ h
theorem off_none {s a : Addr} {H : Hp} (h : H a = none) : Off s H a = none := by
  by_cases e : a = s
  · rw [e, off_s]
  · rw [off_ne e]
    exact h
theorem SameX.putN {s a : Addr} {o : HO} {H H1 : Hp} (e : SameX s H H1) (h : H a = Option.none) : SameX s H (upd H1 a o) := fun b u hb n => by
  rw [upd_ne (fun q => by rw [q, h] at hb; cases hb)]
  exact e _ _ hb n
/-! ### sequences -/
section
variable {K : PySem.W.Frag}
def Sq (K : PySem.W.Frag) (H : Hp) (v : V) (xs : List V) : Prop := ∃ a, v = .ref a ∧ (SqL K H a xs ∨ SqT K H a xs)
def Tu (K : PySem.W.Frag) (H : Hp) (v : V) (xs : List V) : Prop := ∃ a, v = .ref a ∧ SqT K H a xs
theorem Tu.sq {H : Hp} {v : V} {xs : List V} (h : Tu K H v xs) : Sq K H v xs := by
  obtain ⟨a, e, h⟩ := h
  exact ⟨a, e, .inr h⟩
theorem Tu.keep {H H' : Hp} {v : V} {xs : List V} (e : Same H H') (h : Tu K H v xs) : Tu K H' v xs := by
  obtain ⟨a, r, h⟩ := h
  exact ⟨a, r, same_t e h⟩
theorem Sq.keep {H H' : Hp} {v : V} {xs : List V} (e : Same H H') (h : Sq K H v xs) : Sq K H' v xs := by
  obtain ⟨a, r, h⟩ := h
  rcases h with h | h
  · exact ⟨a, r, .inl (e.seq h)⟩
  · exact ⟨a, r, .inr (same_t e h)⟩
theorem Sq.lst {H : Hp} {a : Addr} {xs : List V} (h : H a = some (.lst xs)) : Sq K H (.ref a) xs := ⟨a, rfl, .inl (SqL.of h)⟩
theorem Tu.tup {H : Hp} {a : Addr} {xs : List V} (h : H a = some (.tup xs)) : Tu K H (.ref a) xs := ⟨a, rfl, SqT.of h⟩
end
/-- item by item -/
def Al {α : Type} (R : V → α → Prop) (xs : List V) (ys : List α) : Prop := xs.length = ys.length ∧ ∀ (i : Nat) x y, xs[i]? = some x → ys[i]? = some y → R x y
section
variable {α : Type} {R S : V → α → Prop} {xs : List V} {ys : List α}
theorem Al.nil : Al R [] [] := ⟨rfl, fun i x y h => by simp at h⟩
theorem Al.mono (h : Al R xs ys) (f : ∀ x y, R x y → S x y) : Al S xs ys := ⟨h.1, fun i x y h1 h2 => f _ _ (h.2 i x y h1 h2)⟩
theorem Al.snoc {x : V} {y : α} (h : Al R xs ys) (r : R x y) : Al R (xs ++ [x]) (ys ++ [y]) := by
  refine ⟨by simp [h.1], fun i u v h1 h2 => ?_⟩
  by_cases q : i < xs.length
  · rw [List.getElem?_append_left q] at h1
    rw [List.getElem?_append_left (h.1 ▸ q)] at h2
    exact h.2 i u v h1 h2
  · have q2 : ys.length ≤ i := by have := h.1; omega
    rw [List.getElem?_append_right (by omega)] at h1
    rw [List.getElem?_append_right q2] at h2
    rw [← h.1] at h2
    cases hz : i - xs.length with
    | zero =>
      rw [hz] at h1 h2
      simp at h1 h2
      rw [← h1, ← h2]
      exact r
    | succ n =>
      rw [hz] at h1
      simp at h1
theorem Al.get (h : Al R xs ys) {i : Nat} {x : V} (hx : xs[i]? = some x) : ∃ y, ys[i]? = some y ∧ R x y := by
  have hi : i < xs.length := (List.getElem?_eq_some_iff.mp hx).1
  have hj : i < ys.length := h.1 ▸ hi
  exact ⟨ys[i], List.getElem?_eq_getElem hj, h.2 i x _ hx (List.getElem?_eq_getElem hj)⟩
theorem Al.get' (h : Al R xs ys) {i : Nat} {y : α} (hy : ys[i]? = some y) : ∃ x, xs[i]? = some x ∧ R x y := by
  have hi : i < ys.length := (List.getElem?_eq_some_iff.mp hy).1
  have hj : i < xs.length := h.1.symm ▸ hi
  exact ⟨xs[i], List.getElem?_eq_getElem hj, h.2 i _ y (List.getElem?_eq_getElem hj) hy⟩
theorem Al.map {f : α → V} (g : ∀ y, R (f y) y) : Al R (ys.map f) ys := ⟨by simp, fun i x y h1 h2 => by
  rw [List.getElem?_map, h2] at h1
  cases h1
  exact g y⟩
theorem Al.mem (h : Al R xs ys) {x : V} (hx : x ∈ xs) : ∃ y ∈ ys, R x y := by
  obtain ⟨i, hi⟩ := List.mem_iff_getElem?.mp hx
  obtain ⟨y, hy, r⟩ := h.get hi
  exact ⟨y, List.mem_of_getElem? hy, r⟩
end
theorem off_put {a : Addr} {o : HO} {H : Hp} : Off a (upd H a o) = Off a H := by
  funext b
  by_cases e : b = a
  · rw [e, off_s, off_s]
  · rw [off_ne e, off_ne e, upd_ne e]
theorem inV_strs (z : Str) (zs : List Str) : inV (.str z) (zs.map V.str) = decide (z ∈ zs) := by
  rw [Bool.eq_iff_iff, decide_eq_true_iff]
  unfold inV
  rw [List.any_map, List.any_eq_true]
  constructor
  · rintro ⟨y, m, e⟩
    have e : (y == z) = true := e
    rw [beq_iff_eq] at e
    exact e ▸ m
  · intro m
    exact ⟨z, m, beq_self_eq_true z⟩
theorem flat_strs (zs : List Str) : (zs.map V.str).all flatV = true := by
  rw [List.all_map, List.all_eq_true]
  exact fun _ _ => rfl
theorem rep_flat (z : Str) : ∀ m : Nat, (List.replicate m [V.str z]).flatten = (List.replicate m z).map V.str
  | 0 => rfl
  | m + 1 => by
    rw [List.replicate_succ, List.flatten_cons, rep_flat z m, List.replicate_succ]
    rfl
theorem none_of {H H1 : Hp} {a : Addr} (e : Same H H1) (h : H1 a = none) : H a = none := by
  cases q : H a with
  | none => rfl
  | some o =>
    rw [e _ _ q] at h
    cases h
theorem noneX {s : Addr} {H H1 : Hp} {a : Addr} (e : SameX s H H1) (n : a ≠ s) (h : H1 a = none) : H a = none := by
  cases q : H a with
  | none => rfl
  | some o =>
    rw [e _ _ q n] at h
    cases h
theorem seqIndex_nat {d n : Nat} (h : d < n) : seqIndex? (d : Int) n = some d := by
  rw [PySem.seqIndex_of (by omega) (by omega)]
  rfl
theorem eraseIdx_mapV {α β : Type} (f : α → β) : ∀ (l : List α) (d : Nat), (l.map f).eraseIdx d = (l.eraseIdx d).map f
  | [], _ => rfl
  | _ :: _, 0 => rfl
  | x :: xs, d + 1 => by
    show f x :: (xs.map f).eraseIdx d = f x :: (xs.eraseIdx d).map f
    rw [eraseIdx_mapV f xs d]
theorem perm_erase {α : Type} : ∀ (l : List α) (d : Nat) (h : d < l.length), (l[d] :: l.eraseIdx d).Perm l
  | x :: xs, 0, _ => List.Perm.refl _
  | x :: xs, d + 1, h => by
    show (xs[d]'(by simpa using h) :: x :: xs.eraseIdx d).Perm (x :: xs)
    exact (List.Perm.swap _ _ _).trans ((perm_erase xs d _).cons x)
/-! ### rules with the frag said -/
section
variable {X : Cx} {K : PySem.W.Frag}
theorem ix_tupK (h : X.K = K) : IxR X (rIxT K) := by subst h; exact ix_tup
theorem ix_seqK (h : X.K = K) : IxR X (rIx K) := by subst h; exact ix_seq
theorem op_in_seqK (h : X.K = K) : OpR X (compareOp .In) (rIn K false) := by subst h; exact op_in_seq
theorem op_notIn_seqK (h : X.K = K) : OpR X (compareOp .NotIn) (rIn K true) := by subst h; exact op_notIn_seq
theorem call_isiK (h : X.K = K) : CallR X (.builtin "isinstance") (rIsi K) := by subst h; exact call_isi
theorem call_isiTK (h : X.K = K) : CallR X (.builtin "isinstance") (rIsiT K) := by subst h; exact call_isiT
theorem call_len_seqK (h : X.K = K) : CallR X (.builtin "len") (fun xs H Q => ∃ p ys, xs = [.ref p] ∧ (SqL K H p ys ∨ SqT K H p ys) ∧ Q (.int ys.length) H) := by subst h; exact call_len_seq
end
/-! ### fields, calls -/
structure FD where
  nm : Str
  many : Bool
  need : Bool
deriving DecidableEq
structure CD where
  nm : Str
  hand : Str
  moves : List Int
  deeds : List (Str × Str)
  same : List Str
deriving DecidableEq
def sortS (b : Bool) : Str := if b then "many" else "one"
section
variable {K : PySem.W.Frag}
def FdV (f : FD) : List V := [.str f.nm, .str (sortS f.many), .bl f.need]
def DeV (d : Str × Str) : List V := [.str d.1, .str d.2]
def FdA (K : PySem.W.Frag) (H : Hp) (v : V) (f : FD) : Prop := Sq K H v (FdV f)
def FdT (K : PySem.W.Frag) (H : Hp) (v : V) (f : FD) : Prop := Tu K H v (FdV f)
def DeA (K : PySem.W.Frag) (H : Hp) (v : V) (d : Str × Str) : Prop := Sq K H v (DeV d)
def DeT (K : PySem.W.Frag) (H : Hp) (v : V) (d : Str × Str) : Prop := Tu K H v (DeV d)
def CdA (K : PySem.W.Frag) (H : Hp) (v : V) (c : CD) : Prop := ∃ m d s ds, Sq K H v [.str c.nm, .str c.hand, m, d, s] ∧ Sq K H m (c.moves.map V.int) ∧ Sq K H d ds ∧ Al (DeA K H) ds c.deeds ∧ Sq K H s (c.same.map V.str)
def CdT (K : PySem.W.Frag) (H : Hp) (v : V) (c : CD) : Prop := ∃ m d s ds, Tu K H v [.str c.nm, .str c.hand, m, d, s] ∧ Tu K H m (c.moves.map V.int) ∧ Tu K H d ds ∧ Al (DeT K H) ds c.deeds ∧ Tu K H s (c.same.map V.str)
theorem FdA.keep {H H' : Hp} {v : V} {f : FD} (e : Same H H') (h : FdA K H v f) : FdA K H' v f := Sq.keep e h
theorem FdT.keep {H H' : Hp} {v : V} {f : FD} (e : Same H H') (h : FdT K H v f) : FdT K H' v f := Tu.keep e h
theorem DeA.keep {H H' : Hp} {v : V} {f : Str × Str} (e : Same H H') (h : DeA K H v f) : DeA K H' v f := Sq.keep e h
theorem DeT.keep {H H' : Hp} {v : V} {f : Str × Str} (e : Same H H') (h : DeT K H v f) : DeT K H' v f := Tu.keep e h
theorem CdA.keep {H H' : Hp} {v : V} {c : CD} (e : Same H H') (h : CdA K H v c) : CdA K H' v c := by
  obtain ⟨m, d, s, ds, h1, h2, h3, h4, h5⟩ := h
  exact ⟨m, d, s, ds, h1.keep e, h2.keep e, h3.keep e, h4.mono fun _ _ h => DeA.keep e h, h5.keep e⟩
theorem CdT.keep {H H' : Hp} {v : V} {c : CD} (e : Same H H') (h : CdT K H v c) : CdT K H' v c := by
  obtain ⟨m, d, s, ds, h1, h2, h3, h4, h5⟩ := h
  exact ⟨m, d, s, ds, h1.keep e, h2.keep e, h3.keep e, h4.mono fun _ _ h => DeT.keep e h, h5.keep e⟩
theorem FdT.a {H : Hp} {v : V} {f : FD} (h : FdT K H v f) : FdA K H v f := Tu.sq h
theorem DeT.a {H : Hp} {v : V} {f : Str × Str} (h : DeT K H v f) : DeA K H v f := Tu.sq h
theorem CdT.a {H : Hp} {v : V} {c : CD} (h : CdT K H v c) : CdA K H v c := by
  obtain ⟨m, d, s, ds, h1, h2, h3, h4, h5⟩ := h
  exact ⟨m, d, s, ds, h1.sq, h2.sq, h3.sq, h4.mono fun _ _ h => DeT.a h, h5.sq⟩
end
/-! ### what makes them a kind -/
def letterB (c : Nat) : Bool := decide (97 ≤ c) && decide (c ≤ 122)
def wordB (z : Str) : Bool := decide (1 ≤ z.cps.size) && decide (z.cps.size ≤ 8) && z.cps.toList.all letterB
def deedSorts (z : Str) : List Bool :=
  if z = "set" then [false] else if z = "add" then [true] else if z = "strike" then [true] else if z = "fresh" then [true] else if z = "clear" then [false, true] else []
def worded (ds : List (Str × Str)) : List Str := (ds.filter fun d => decide (d.1 = ("add" : Str)) || decide (d.1 = ("strike" : Str))).map (·.2)
structure FsOk (fs : List FD) : Prop where
  pos : 1 ≤ fs.length
  le : fs.length ≤ 3
  word : ∀ f ∈ fs, wordB f.nm = true
  nd : (fs.map (·.nm)).Nodup
structure CdOk (fs : List FD) (n : Nat) (c : CD) : Prop where
  word : wordB c.nm = true
  hand : c.hand = "self" ∨ c.hand = "new" ∨ c.hand = "last"
  len : c.moves.length = n
  move : ∀ m ∈ c.moves, -1 ≤ m ∧ m < n
  deeds : c.deeds.length ≤ 4
  deed : ∀ d ∈ c.deeds, ∃ f ∈ fs, f.nm = d.2 ∧ f.many ∈ deedSorts d.1
  once : (worded c.deeds).Nodup
  same : ∀ x ∈ c.same, ∃ f ∈ fs, f.nm = x ∧ f.many = true
  self : c.hand = "self" → c.same = []
  nd : c.same.Nodup
structure KdOk (fs : List FD) (n : Nat) (cs : List CD) : Prop where
  fields : FsOk fs
  pos : 1 ≤ n
  le : n ≤ 4
  cpos : 1 ≤ cs.length
  cle : cs.length ≤ 6
  calls : ∀ c ∈ cs, CdOk fs n c
  nd : (cs.map (·.nm)).Nodup
def DeOk (fs : List FD) (d : Str × Str) : Prop := ∃ f ∈ fs, f.nm = d.2 ∧ f.many ∈ deedSorts d.1
theorem worded_snoc (ds : List (Str × Str)) (d : Str × Str) : worded (ds ++ [d]) = worded ds ++ (if d.1 = ("add" : Str) ∨ d.1 = ("strike" : Str) then [d.2] else []) := by
  unfold worded
  rw [List.filter_append, List.map_append]
  congr 1
  by_cases h : d.1 = ("add" : Str) ∨ d.1 = ("strike" : Str)
  · rw [if_pos h]
    rcases h with h | h <;> simp [h]
  · rw [if_neg h]
    rw [not_or] at h
    simp [h.1, h.2]
/-- a list that may be changed -/
def Ls (H : Hp) (v : V) (xs : List V) : Prop := ∃ a, v = .ref a ∧ H a = some (.lst xs)
theorem Ls.sq {K : PySem.W.Frag} {H : Hp} {v : V} {xs : List V} (h : Ls H v xs) : Sq K H v xs := by
  obtain ⟨a, e, h⟩ := h
  exact ⟨a, e, .inl (SqL.of h)⟩
theorem Ls.keep {H H' : Hp} {v : V} {xs : List V} (e : Same H H') (h : Ls H v xs) : Ls H' v xs := by
  obtain ⟨a, r, h⟩ := h
  exact ⟨a, r, e _ _ h⟩
/-- a call as the laws draw them: a tuple with lists in it -/
def CdL (K : PySem.W.Frag) (H : Hp) (v : V) (c : CD) : Prop := ∃ m d s ds, Tu K H v [.str c.nm, .str c.hand, m, d, s] ∧ Ls H m (c.moves.map V.int) ∧ Ls H d ds ∧ Al (DeT K H) ds c.deeds ∧ Ls H s (c.same.map V.str)
theorem CdL.keep {K : PySem.W.Frag} {H H' : Hp} {v : V} {c : CD} (e : Same H H') (h : CdL K H v c) : CdL K H' v c := by
  obtain ⟨m, d, s, ds, h1, h2, h3, h4, h5⟩ := h
  exact ⟨m, d, s, ds, h1.keep e, h2.keep e, h3.keep e, h4.mono fun _ _ h => DeT.keep e h, h5.keep e⟩
theorem CdL.a {K : PySem.W.Frag} {H : Hp} {v : V} {c : CD} (h : CdL K H v c) : CdA K H v c := by
  obtain ⟨m, d, s, ds, h1, h2, h3, h4, h5⟩ := h
  exact ⟨m, d, s, ds, h1.sq, h2.sq, h3.sq, h4.mono fun _ _ h => DeT.a h, h5.sq⟩
/-- the modes that are drawn from -/
def smV (far : Int) (m : Nat) : List V := (List.replicate 3 (rgV 0 far)).flatten ++ (List.replicate m [V.int (-1)]).flatten
theorem rgV_mem {far : Int} {x : V} (h : x ∈ rgV 0 far) : ∃ z : Int, x = .int z ∧ 0 ≤ z ∧ z < far := by
  unfold rgV at h
  obtain ⟨i, hi, rfl⟩ := List.mem_map.mp h
  rw [List.mem_range] at hi
  exact ⟨_, rfl, by omega, by omega⟩
theorem smV_mem {far : Int} {m : Nat} {x : V} (hf : 0 < far) (h : x ∈ smV far m) : ∃ z : Int, x = .int z ∧ -1 ≤ z ∧ z < far := by
  unfold smV at h
  rcases List.mem_append.mp h with h | h
  · obtain ⟨l, hl, hx⟩ := List.mem_flatten.mp h
    obtain ⟨_, rfl⟩ := List.mem_replicate.mp hl
    obtain ⟨z, e, h0, h1⟩ := rgV_mem hx
    exact ⟨z, e, by omega, h1⟩
  · obtain ⟨l, hl, hx⟩ := List.mem_flatten.mp h
    obtain ⟨_, rfl⟩ := List.mem_replicate.mp hl
    exact ⟨-1, List.mem_singleton.mp hx, by omega, by omega⟩
theorem smV_len {far : Int} {m : Nat} (hf : 0 < far) : (smV far m).length = 3 * far.toNat + m := by
  unfold smV
  have h3 : (List.replicate 3 (rgV 0 far)).flatten.length = 3 * far.toNat := by
    show (rgV 0 far ++ (rgV 0 far ++ (rgV 0 far ++ []))).length = _
    rw [List.length_append, List.length_append, List.length_append, rgV_length]
    show (far - 0).toNat + ((far - 0).toNat + ((far - 0).toNat + 0)) = _
    rw [Int.sub_zero]
    omega
  have h4 : ∀ k : Nat, (List.replicate k [V.int (-1)]).flatten.length = k := fun k => by
    induction k with
    | zero => rfl
    | succ k ih =>
      rw [List.replicate_succ, List.flatten_cons, List.length_append, ih]
      show 1 + k = k + 1
      omega
  rw [List.length_append, h3, h4]
/-! ### texts, deep ones -/
theorem dp_strs {K : PySem.W.Frag} {H : Hp} : ∀ zs : List Str, DpAll K H (zs.map V.str) (zs.map PyData.str)
  | [] => .nil
  | z :: zs => .cons (.str z) (dp_strs zs)
theorem strs_lay : ∀ zs : List Str, (∀ z ∈ zs, PyData.strOk z = true) → PyData.canLayAll0 (zs.map PyData.str) = true
  | [], _ => rfl
  | z :: zs, h => by
    rw [List.map_cons]
    unfold PyData.canLayAll0 PyData.canLay0
    rw [h z (List.mem_cons_self ..), Bool.true_and]
    exact strs_lay zs fun y hy => h y (List.mem_cons_of_mem _ hy)
theorem strs_depth : ∀ zs : List Str, PyData.depthAll (zs.map PyData.str) = 0
  | [] => rfl
  | z :: zs => by
    rw [List.map_cons]
    unfold PyData.depthAll
    rw [strs_depth zs]
    rfl
theorem strs_shaped (zs : List Str) (h : ∀ z ∈ zs, PyData.strOk z = true) : SeqAt.shaped (.list (zs.map PyData.str)) = true := by
  have h1 : PyData.canLay0 (.list (zs.map PyData.str)) = true := by
    unfold PyData.canLay0
    exact strs_lay zs h
  have h2 : PyData.depth (.list (zs.map PyData.str)) ≤ 64 := by
    unfold PyData.depth
    rw [strs_depth zs]
    decide
  unfold SeqAt.shaped
  rw [h1, decide_eq_true h2]
  rfl
theorem eqv_nil (zs : List Str) : PyData.eqv (.list (zs.map PyData.str)) (.list []) = zs.isEmpty := by
  cases zs <;> simp [PyData.eqv, PyData.eqvAll]
end MK
set_option Elab.async false
set_option linter.all false
set_option autoImplicit false
set_option maxRecDepth 100000
set_option maxHeartbeats 4000000
/-! set(texts), the texts distinct; len(set(texts)) -/
namespace MK
open PySem PySem.Spec PyProof.Rows L2
theorem take_next {zs : List Str} {i : Nat} (hi : i < zs.length) (y : Str) : decide (y ∈ zs.take (i + 1)) = (decide (y ∈ zs.take i) || decide (y = zs.getD i Str.empty)) := by
  have e : zs.take (i + 1) = zs.take i ++ [zs.getD i Str.empty] := by
    rw [List.take_add_one, List.getElem?_eq_getElem hi, List.getD_eq_getElem?_getD, List.getElem?_eq_getElem hi]
    rfl
  rw [e, Bool.eq_iff_iff]
  simp
theorem not_ahead {zs : List Str} {i : Nat} (nd : zs.Nodup) (hi : i < zs.length) : zs.getD i Str.empty ∉ zs.take i := by
  rw [List.getD_eq_getElem?_getD, List.getElem?_eq_getElem hi]
  intro m
  obtain ⟨j, hj⟩ := List.mem_iff_getElem?.mp m
  rw [List.getElem?_take] at hj
  split at hj
  · rename_i lt
    have hjl : j < zs.length := by omega
    rw [List.getElem?_eq_getElem hjl] at hj
    exact (List.pairwise_iff_getElem.mp nd j i hjl hi lt) (Option.some.inj hj)
  · cases hj
section
variable {prog : Program} {w : World} {A : Around} {R : Result → Shared → Prop} {I S : Addr} {fp wr : List Addr} {G : Array GenState → Array GenState → Prop} {n : Nat} {P : Nat → Value → Prop} {St : Nat → Shared → Prop} {zs : List Str}
theorem all_added (W : WalksS prog w A.in1 I fp wr G n P St) (off : S ∉ fp) (len : zs.length = n) (nd : zs.Nodup) (few : n < 1000) (at_ : ∀ i v, P i v → ∃ t, v = .str (zs.getD i Str.empty) t) :
    ∀ (left i : Nat) (s : Shared), i + left = n → St i s → s.heap.SetOf (strKind prog w) S (fun y => decide (y ∈ zs.take i)) i →
      (∀ s1, Moved (S :: wr) G s s1 → s1.heap.SetOf (strKind prog w) S (fun y => decide (y ∈ zs)) n → R (.ok (.ret .none)) s1) → codeAny (model prog w) A (.builtin "set.update.loop" ⟨[.ref S, .ref I], []⟩) R s := by
  intro left
  have off2 : S ∉ wr := fun m => off (W.sub _ m)
  induction left with
  | zero =>
    intro i s e st so k
    obtain rfl : i = n := e
    refine codeAny_builtin PyProof.Rows.F.entry_set_update_loop ?_
    rw [Around.under_plainId PyProof.Rows.F.plain_set_update_loop _]
    refine wpAny_bind (W.done s _ _ st fun s1 mv => wpAny_pure (k s1 (mv.mono fun b m => List.mem_cons_of_mem _ m) ?_))
    obtain ⟨o, es, ep, t, g, more⟩ := so
    have so1 : s1.heap.SetOf (strKind prog w) S (fun y => decide (y ∈ zs.take i)) i := ⟨o, es, ep, t, mv.heap S _ off2 g, more⟩
    rw [← len, List.take_length] at so1
    rw [← len]
    exact so1
  | succ left ih =>
    intro i s e st so k
    have lt : i < n := by omega
    have ltz : i < zs.length := by omega
    refine codeAny_builtin PyProof.Rows.F.entry_set_update_loop ?_
    rw [Around.under_plainId PyProof.Rows.F.plain_set_update_loop _]
    refine wpAny_bind (W.item i s _ _ lt st fun v s1 pv st1 mv => ?_)
    obtain ⟨t, rfl⟩ := at_ i v pv
    have so1 : s1.heap.SetOf (strKind prog w) S (fun y => decide (y ∈ zs.take i)) i := by
      obtain ⟨o, es, ep, tb, g, more⟩ := so
      exact ⟨o, es, ep, tb, mv.heap S _ off2 g, more⟩
    refine wpAny_bind (wpAny_holding ?_)
    unfold setAdd
    refine wpAny_holding (wpAny_bind ((strKind prog w).pyHash (k := zs.getD i Str.empty) (strKind_is _ _ _ _) ?_))
    refine wpAny_setAddHashed_of (knd := strKind prog w) (s := { s1 with toks := s1.toks + 1 }) (strKind_is _ _ _ _) rfl so1 (by unfold scanBound; omega) fun h2 only so2 => ?_
    have so3 : h2.SetOf (strKind prog w) S (fun y => decide (y ∈ zs.take (i + 1))) (i + 1) := by
      refine SetOf_congr so2 (fun y => (take_next ltz y).symm) ?_
      rw [decide_eq_false (not_ahead nd ltz)]
      rfl
    have keep : ∀ b, b ≠ S → ∀ o, s1.heap.get? b = some o → h2.get? b = some o := fun b ne o g => by
      rw [only.2 b ne]
      exact g
    refine wpAny_pure ⟨plainId_quiet PyProof.Rows.F.plain_set_update_loop _, ih (i + 1) _ (by omega) (W.frame _ s1 _ _ st1 (Nat.le_succ _) fun b m o g => keep b (fun q => off (q ▸ m)) o g) so3 fun s3 mv3 so4 => ?_⟩
    exact k s3 (Moved.trans W.gtrans ((mv.mono fun b m => List.mem_cons_of_mem _ m).then_heap (Nat.le_succ _) fun b o m g => keep b (fun q => m (by rw [q]; exact List.mem_cons_self)) o g) mv3) so4
end
section
variable {prog : Program} {w : World} {A : Around} {E : Value → Shared → Prop} {s : Shared} {l : Addr} {its : Array Value} {zs : List Str}
/-- a new set -/
def set0 (led : Bool) : Obj := { cls := .type "set", dict := none, data := .set #[] 0 (.fresh 0 0 led) }
def newS (s : Shared) (led : Bool) : Shared := { s with heap := s.heap.push (set0 led) }
/-- what set(texts) leaves -/
def Laid (prog : Program) (w : World) (s : Shared) (zs : List Str) (h : Heap) : Prop := h.SetOf (strKind prog w) s.heap.objs.size (fun y => decide (y ∈ zs)) zs.length ∧ ∀ b o, b < s.heap.objs.size → s.heap.get? b = some o → h.get? b = some o
theorem set_texts {Q : Value → Shared → Prop} (calm : A.handled = none) (hl : s.heap.IsList l its) (hz : StrsAre its.toList zs) (nd : zs.Nodup) (few : zs.length < 1000)
    (k : ∀ (h : Heap) (tk : Nat), Laid prog w s zs h → Q (.ref s.heap.objs.size) { s with heap := h, toks := tk }) : wpAny (model prog w) A (call (.type "set") [.ref l]) Q E s := by
  obtain ⟨c, tl, hmro⟩ := PySem.F.called_set.mro
  have m1 := PySem.F.called_set.made
  have m2 := PySem.F.called_set.sub
  refine wpAny_call (codeAny_of_tree (show wpAny _ _ (callAny (.type "set") _) _ _ _ from ?_))
  refine wpAny_pure ⟨Code.quiet_builtin _ (by decide +kernel), codeAny_builtin PySem.F.entry_type_call ?_⟩
  rw [Around.under_plain (weight_type_call_type "set" [.ref l] []) rfl]
  have m3 := PySem.F.called_set.notType
  have m4 := PySem.F.called_set.canCreate
  have m5 := PySem.F.typeCall_set_1 (.ref l)
  repeat (any_goals (first | assumption | wp_step))
  refine codeAny_mono (code_set_new_1 (.ref l) (E := E) (Q₁ := fun v s1 => ∃ led : Bool, v = .ref s.heap.objs.size ∧ s1 = newS s led) fun led => ⟨led, rfl, rfl⟩) fun r s1 hr => ?_
  cases r with
  | error e => exact hr
  | ok fl =>
    cases fl with
    | next => exact hr.elim
    | brk => exact hr.elim
    | cont => exact hr.elim
    | ret v =>
      obtain ⟨led, rfl, rfl⟩ := hr
      have at0 : (s.heap.push (set0 led)).get? s.heap.objs.size = some (set0 led) := Heap.get?_push_size _ rfl
      have ty0 : Shared.TypeIs (newS s led) (.ref s.heap.objs.size) "set" := ⟨_, at0, rfl⟩
      have m6 := PySem.F.called_set.init.lookup
      have m7 := PySem.F.called_set.init.bind (.ref s.heap.objs.size)
      unfold newS at ty0 ⊢
      repeat (any_goals (first | assumption | wp_step))
      refine codeAny_mono (codeAny_call_builtin (R := wants (fun v s2 => v = .none ∧ ∃ h tk, s2 = { s with heap := h, toks := tk } ∧ Laid prog w s zs h) E) PySem.F.called_set.init.plain PySem.F.entry_set_init (check_set_init_1 ty0 ?_)) fun r2 s2 h2 => ?_
      · obtain ⟨⟨cl, di, da, sl⟩, g, rfl, nl, rfl⟩ := hl
        have g0 : (s.heap.push (set0 led)).get? l = some { cls := .type "list", dict := di, data := .seq its nl, slots := sl } := Heap.get?_push_of_some _ g
        have n1 := PySem.F.sub_list_set
        have n2 := PySem.F.sub_list_frozenset
        have n3 : (Value.type "list" == Value.type "dict") = false := by decide
        have l0 : (s.heap.push (set0 led)).IsList l its := ⟨_, g0, rfl, nl, rfl⟩
        unfold Builtin.«set.__init__» noKeywords Builtin.Frozenset.updateFrom
        generalize hit : pyIter = it
        wp_walk
        subst hit
        refine wpAny_pyIter_list l0 (wpAny_bind (wpAny_runValue ?_))
        have below : l < s.heap.objs.size := Heap.lt_size g
        have sz : (s.heap.push (set0 led)).objs.size = s.heap.objs.size + 1 := Heap.size_push ..
        have d1 : l ≠ (s.heap.push (set0 led)).objs.size := Nat.ne_of_lt (by rw [sz]; exact Nat.lt_succ_of_lt below)
        have d2 : s.heap.objs.size ∉ [(s.heap.push (set0 led)).objs.size, l] := by
          rw [sz]
          intro m
          rcases List.mem_cons.mp m with e | m
          · omega
          · exact absurd (List.mem_singleton.mp m) (Nat.ne_of_gt below)
        have lz : zs.length = its.size := by rw [← StrsAre.len_eq hz, Array.length_toList]
        refine all_added (S := s.heap.objs.size) ((Walks.list (by simp [calm]) _ l d1 its).toS) d2 lz nd (by omega) (fun i v e => SS.strs_at hz i v (by rw [Array.getElem?_toList]; exact e)) its.size 0 _ (Nat.zero_add _)
          ⟨⟨_, Heap.get?_push_size _ rfl, rfl, rfl⟩, l0.push _⟩ ?_ ?_
        · have g1 := Heap.get?_push_of_some { cls := .type "list_iterator", data := .fields #[.ref l, .int 0 0] } at0
          exact SetOf_congr ((setObjOf_fresh (knd := strKind prog w) led).setOf g1 (by unfold scanBound; omega)) (fun _ => rfl) rfl
        · rintro ⟨h, g', d', tk, os'⟩ mv so
          obtain rfl : g' = s.gens := mv.gens
          obtain rfl : d' = s.drawn := mv.drawn
          obtain rfl : os' = s.os := mv.os
          refine wpAny_pure (wpAny_pure ⟨rfl, h, tk, rfl, by rw [lz]; exact so, fun b o lt e => ?_⟩)
          refine mv.heap b o (fun m => ?_) (Heap.get?_push_of_some _ (Heap.get?_push_of_some _ e))
          rcases List.mem_cons.mp m with q | m
          · exact Nat.ne_of_lt lt q
          · rcases List.mem_cons.mp m with q | m
            · rw [sz] at q
              exact Nat.ne_of_lt (Nat.lt_succ_of_lt lt) q
            · cases m
      · cases r2 with
        | error e => exact h2
        | ok fl =>
          cases fl with
          | next => exact h2.elim
          | brk => exact h2.elim
          | cont => exact h2.elim
          | ret v =>
            obtain ⟨rfl, h, tk, rfl, laid⟩ := h2
            repeat (any_goals (first | assumption | wp_step))
            exact k h _ laid
end
end MK
set_option Elab.async false
set_option linter.all false
set_option autoImplicit false
set_option maxRecDepth 100000
set_option maxHeartbeats 4000000
namespace MK
open PySem PySem.Spec PyProof.Rows L2
section
variable {prog : Program} {w : World} {A : Around} {E : Value → Shared → Prop} {s : Shared} {l : Addr} {its : Array Value} {zs : List Str}
theorem set_textsT {Q : Value → Shared → Prop} (calm : A.handled = none) (hl : s.heap.IsTuple l its) (hz : StrsAre its.toList zs) (nd : zs.Nodup) (few : zs.length < 1000)
    (k : ∀ (h : Heap) (tk : Nat), Laid prog w s zs h → Q (.ref s.heap.objs.size) { s with heap := h, toks := tk }) : wpAny (model prog w) A (call (.type "set") [.ref l]) Q E s := by
  obtain ⟨c, tl, hmro⟩ := PySem.F.called_set.mro
  have m1 := PySem.F.called_set.made
  have m2 := PySem.F.called_set.sub
  refine wpAny_call (codeAny_of_tree (show wpAny _ _ (callAny (.type "set") _) _ _ _ from ?_))
  refine wpAny_pure ⟨Code.quiet_builtin _ (by decide +kernel), codeAny_builtin PySem.F.entry_type_call ?_⟩
  rw [Around.under_plain (weight_type_call_type "set" [.ref l] []) rfl]
  have m3 := PySem.F.called_set.notType
  have m4 := PySem.F.called_set.canCreate
  have m5 := PySem.F.typeCall_set_1 (.ref l)
  repeat (any_goals (first | assumption | wp_step))
  refine codeAny_mono (code_set_new_1 (.ref l) (E := E) (Q₁ := fun v s1 => ∃ led : Bool, v = .ref s.heap.objs.size ∧ s1 = newS s led) fun led => ⟨led, rfl, rfl⟩) fun r s1 hr => ?_
  cases r with
  | error e => exact hr
  | ok fl =>
    cases fl with
    | next => exact hr.elim
    | brk => exact hr.elim
    | cont => exact hr.elim
    | ret v =>
      obtain ⟨led, rfl, rfl⟩ := hr
      have at0 : (s.heap.push (set0 led)).get? s.heap.objs.size = some (set0 led) := Heap.get?_push_size _ rfl
      have ty0 : Shared.TypeIs (newS s led) (.ref s.heap.objs.size) "set" := ⟨_, at0, rfl⟩
      have m6 := PySem.F.called_set.init.lookup
      have m7 := PySem.F.called_set.init.bind (.ref s.heap.objs.size)
      unfold newS at ty0 ⊢
      repeat (any_goals (first | assumption | wp_step))
      refine codeAny_mono (codeAny_call_builtin (R := wants (fun v s2 => v = .none ∧ ∃ h tk, s2 = { s with heap := h, toks := tk } ∧ Laid prog w s zs h) E) PySem.F.called_set.init.plain PySem.F.entry_set_init (check_set_init_1 ty0 ?_)) fun r2 s2 h2 => ?_
      · obtain ⟨⟨cl, di, da, sl⟩, g, rfl, nl, rfl⟩ := hl
        have g0 : (s.heap.push (set0 led)).get? l = some { cls := .type "tuple", dict := di, data := .seq its nl, slots := sl } := Heap.get?_push_of_some _ g
        have n1 := PySem.F.sub_tuple_set
        have n2 := PySem.F.sub_tuple_frozenset
        have n3 : (Value.type "tuple" == Value.type "dict") = false := by decide
        have l0 : (s.heap.push (set0 led)).IsTuple l its := ⟨_, g0, rfl, nl, rfl⟩
        unfold Builtin.«set.__init__» noKeywords Builtin.Frozenset.updateFrom
        generalize hit : pyIter = it
        wp_walk
        subst hit
        refine wpAny_pyIter_tuple l0 (wpAny_bind (wpAny_runValue ?_))
        have below : l < s.heap.objs.size := Heap.lt_size g
        have sz : (s.heap.push (set0 led)).objs.size = s.heap.objs.size + 1 := Heap.size_push ..
        have d1 : l ≠ (s.heap.push (set0 led)).objs.size := Nat.ne_of_lt (by rw [sz]; exact Nat.lt_succ_of_lt below)
        have d2 : s.heap.objs.size ∉ [(s.heap.push (set0 led)).objs.size, l] := by
          rw [sz]
          intro m
          rcases List.mem_cons.mp m with e | m
          · omega
          · exact absurd (List.mem_singleton.mp m) (Nat.ne_of_gt below)
        have lz : zs.length = its.size := by rw [← StrsAre.len_eq hz, Array.length_toList]
        refine all_added (S := s.heap.objs.size) ((Walks.tuple (by simp [calm]) _ l d1 its).toS) d2 lz nd (by omega) (fun i v e => SS.strs_at hz i v (by rw [Array.getElem?_toList]; exact e)) its.size 0 _ (Nat.zero_add _)
          ⟨⟨_, Heap.get?_push_size _ rfl, rfl, rfl⟩, l0.push _⟩ ?_ ?_
        · have g1 := Heap.get?_push_of_some { cls := .type "tuple_iterator", data := .fields #[.ref l, .int 0 0] } at0
          exact SetOf_congr ((setObjOf_fresh (knd := strKind prog w) led).setOf g1 (by unfold scanBound; omega)) (fun _ => rfl) rfl
        · rintro ⟨h, g', d', tk, os'⟩ mv so
          obtain rfl : g' = s.gens := mv.gens
          obtain rfl : d' = s.drawn := mv.drawn
          obtain rfl : os' = s.os := mv.os
          refine wpAny_pure (wpAny_pure ⟨rfl, h, tk, rfl, by rw [lz]; exact so, fun b o lt e => ?_⟩)
          refine mv.heap b o (fun m => ?_) (Heap.get?_push_of_some _ (Heap.get?_push_of_some _ e))
          rcases List.mem_cons.mp m with q | m
          · exact Nat.ne_of_lt lt q
          · rcases List.mem_cons.mp m with q | m
            · rw [sz] at q
              exact Nat.ne_of_lt (Nat.lt_succ_of_lt lt) q
            · cases m
      · cases r2 with
        | error e => exact h2
        | ok fl =>
          cases fl with
          | next => exact h2.elim
          | brk => exact h2.elim
          | cont => exact h2.elim
          | ret v =>
            obtain ⟨rfl, h, tk, rfl, laid⟩ := h2
            repeat (any_goals (first | assumption | wp_step))
            exact k h _ laid
end
/-- len(set(xs)), xs a list or tuple of distinct texts -/
def tLenS (K : PySem.W.Frag) (ta : TE) : TE := fun σ H Q => ta σ H fun x H1 => ∃ zs : List Str, Sq K H1 x (zs.map V.str) ∧ zs.Nodup ∧ zs.length < 1000 ∧ Q (.int zs.length) H1
theorem pe_lenS {X : Cx} {a : Expr} {ta : TE} {p p2 q pos : Pos} (hc : X.calm = true) (hg : Gl X "len") (hm : X.mg "len" = none) (hg2 : Gl X "set") (hm2 : X.mg "set" = none) (ha : PE X a ta)
    (na : starEach [a] X.env = (false, eval a X.env) :: starEach [] X.env := by rfl) : PE X (.Call (.Name "len" p) [.Call (.Name "set" p2) [a] [] q] [] pos) (tLenS X.K ta) := by
  refine ⟨fun pins s σ H Q I h => Call_ (ld_blt I hg hm boot_len (callWith_builtin1 (args_cons (Call_ (ld_blt I hg2 hm2 boot_set ?_)) rfl) rfl rfl))⟩
  refine callWith_type1 (args_cons (thn (ha.run pins s σ H _ I h) fun v s1 ⟨x, H1, I1, r1, zs, ⟨l, e, sq⟩, nd, few, q⟩ => args_nil ?_) na) na rfl
  subst e
  cases r1
  have fin : ∀ (h : Heap) (tk : Nat), Laid X.prog X.w s1 zs h → wpAny (model X.prog X.w) X.A (spliced (backTo pos (starEach [] X.env)))
      (fun vs s2 => wpAny (model X.prog X.w) X.A (call (.builtin "len") (Value.ref s1.heap.objs.size :: vs)) (EP X pins σ Q) X.xe s2) X.xe { s1 with heap := h, toks := tk } := fun h tk ⟨so, kp⟩ => by
    obtain ⟨o, es, ep, t, g, ex, hd, _, _, _, fits, cnt⟩ := so
    have I2 : Inv X pins σ H1 { s1 with heap := h, toks := tk } := I1.kept fun b o e => kp b o (Heap.lt_size e) e
    exact args_nil (call_len_set g ex hd fits (by rw [cnt] <;> omega) ⟨.int zs.length, H1, I2.tok _, ⟨_, by rw [cnt]⟩, q⟩)
  rcases sq with sq | sq
  · obtain ⟨us, r, pl, _⟩ := I1.list sq
    exact set_texts (I1.ok.hd hc) pl.isList (by simpa using strsAre_of r) nd few fin
  · obtain ⟨us, r, pl, _⟩ := I1.tuple sq
    exact set_textsT (I1.ok.hd hc) pl (by simpa using strsAre_of r) nd few fin
end MK
set_option Elab.async false
set_option linter.all false
set_option autoImplicit false
set_option maxRecDepth 100000
set_option maxHeartbeats 4000000
namespace MK
open PySem PySem.Spec PyProof.Rows L2
/-- a constant of the module -/
theorem pe_cst {X : Cx} {x : Str} {pos : Pos} {v : V} (hg : Gl X x) (h : ∃ u, X.mg x = some u ∧ RelV v u) (hd : (x == ("__debug__" : Str)) = false := by decide) : PE X (.Name x pos) (tC v) := by
  obtain ⟨u, m, r⟩ := h
  exact pe_glob hg m r hd
theorem any_two {K : PySem.W.Frag} {t a b : String} {r1 r2 : Bool} (h1 : kitB t a = some r1) (h2 : kitB t b = some r2) : PySem.W.kitAny K (.type t) [.type a, .type b] = some (r1 || r2) := by
  refine kitAny_cons (kit_ty h1) (fun e => ?_) (fun e => by rw [e]; rfl)
  refine kitAny_cons (kit_ty h2) (fun e2 => ?_) (fun e2 => by rw [e2, Bool.or_true])
  rw [e, e2]
  rfl
/-- it is a list or a tuple -/
theorem sq_ty {K : PySem.W.Frag} {H : Hp} {a : Addr} {xs : List V} (h : SqL K H a xs ∨ SqT K H a xs) : ∃ t, TyX K H (.ref a) (.type t) ∧ PySem.W.kitAny K (.type t) [.type "list", .type "tuple"] = some true := by
  rcases h with h | h
  · exact ⟨"list", tyx_l h, any_two (r1 := true) (r2 := false) (by decide +kernel) (by decide +kernel)⟩
  · exact ⟨"tuple", tyx_t h, any_two (r1 := false) (r2 := true) (by decide +kernel) (by decide +kernel)⟩
/-- (a, b, ..) = a list or a tuple of that length -/
def gSq (K : PySem.W.Frag) (n : Nat) (t : TGs) : TG := fun v σ H Q => ∃ xs, Sq K H v xs ∧ xs.length = n ∧ t xs σ H Q
theorem pg_sq {X : Cx} {es : List Expr} {k : Nat} {t : TGs} {n : Nat} {pos : Pos} (hc : X.calm = true) (h : PGs X es t)
    (hn : (assignEach es X.env).length = n := by rfl) (hst : (assignEach es X.env).findIdx? (·.1) = none := by rfl) : PG X (.Tuple es k pos) (gSq X.K n t) := by
  refine ⟨fun pins s σ H v u Q I r ⟨xs, ⟨a, e, sq⟩, l, q⟩ => ?_⟩
  rcases sq with sq | sq
  · exact (pg_unl hc h hn hst).run pins s σ H v u Q I r ⟨a, xs, e, sq, l, q⟩
  · exact (pg_tup hc h hn hst).run pins s σ H v u Q I r ⟨a, xs, e, sq, l, q⟩
/-- what is walked is a list or a tuple, of which nothing changes on the way -/
def iSqS (K : PySem.W.Frag) (te : TE) : TI := fun σ H R => te σ H fun v H1 => ∃ (a : Addr) (xs : List V) (H0 : Hp), v = .ref a ∧ (SqL K H0 a xs ∨ SqT K H0 a xs) ∧ Same H0 H1 ∧
  ∀ (J : It) (G : Hp → Prop), Walk J xs.length G (YAt xs) → (∀ H', Same H0 H' → G H') → R J H1
def iEnS (K : PySem.W.Frag) (ta : TA) : TI := fun σ H R => ta σ H fun vs H1 => ∃ (a : Addr) (xs : List V) (H0 : Hp), vs = [.ref a] ∧ (SqL K H0 a xs ∨ SqT K H0 a xs) ∧ Same H0 H1 ∧
  ∀ (J : It) (G : Hp → Prop), Walk J xs.length G (YPair (fun i => some (.int (i : Nat))) (fun i => xs[i]?)) → (∀ H', Same H0 H' → G H') → R J H1
theorem pi_sqV {X : Cx} {tg e : Expr} {i : Nat} (h : PE X e (tVar i)) : PI X tg e (iSqS X.K (tVar i)) := by
  refine ⟨fun pins s σ H R I ⟨v, ev, a, xs, H0, r, sq, sm, k⟩ => ?_⟩
  subst r
  rcases sq with sq | sq
  · exact (pi_list h).run pins s σ H R I ⟨_, ev, a, rfl, ⟨xs, sm.seq sq⟩, k _ _ walk_list fun H' e' => e'.seq sq⟩
  · exact (pi_tup h).run pins s σ H R I ⟨_, ev, a, rfl, ⟨xs, same_t sm sq⟩, k _ _ walk_tup fun H' e' => same_t e' sq⟩
theorem pi_enV {X : Cx} {e : Expr} {i : Nat} {p pos tpos : Pos} {elts : List Expr} {kk : Nat} (hg : Gl X "enumerate") (hm : X.mg "enumerate" = none) (ha : PA X [e] (tCons (tVar i) tNil)) (hs : starEach [e] X.env = [(false, eval e X.env)] := by rfl) :
    PI X (.Tuple elts kk tpos) (.Call (.Name "enumerate" p) [e] [] pos) (iEnS X.K (tCons (tVar i) tNil)) := by
  refine ⟨fun pins s σ H R I ⟨v, ev, a, xs, H0, r, sq, sm, k⟩ => ?_⟩
  obtain ⟨rfl, _⟩ := List.cons.inj r
  rcases sq with sq | sq
  · exact (pi_enum hg hm ha hs).run pins s σ H R I ⟨_, ev, a, xs, rfl, sm.seq sq, k _ _ walk_enum fun H' e' => e'.seq sq⟩
  · exact (pi_enumT hg hm ha hs).run pins s σ H R I ⟨_, ev, a, xs, rfl, same_t sm sq, k _ _ walk_enumT fun H' e' => same_t e' sq⟩
theorem iteB {b : Bool} {A B : Prop} (e : b = false) (h : B) : if b = true then A else B := by
  subst e
  exact iteF h
theorem iteA {b : Bool} {A B : Prop} (e : b = true) (h : A) : if b = true then A else B := by
  subst e
  exact iteT h
/-- d[e], d a written dict of the module -/
def tKGet (K : PySem.W.Frag) (d : Addr) (td ty : TE) : TE := fun σ H Q => td σ H fun x H1 => ty σ H1 fun y H2 => ∃ (z : Str) (u0 : Value) (v0 : V), x = .ref d ∧ y = .str z ∧ PySem.W.nsIn K d z = some (some u0) ∧ RelV v0 u0 ∧ Q v0 H2
theorem pe_kget {X : Cx} {d : Addr} {es : Array DictEntry} {n : Nat} {o i : Expr} {pos : Pos} {td ty : TE} (D : KDict X.K X.w d es n) (ho : PE X o td) (hi : PE X i ty) (hs : NoSl i) : PE X (.Subscript o i pos) (tKGet X.K d td ty) := by
  refine ⟨fun pins s σ H Q I h => ?_⟩
  refine subD_of PySem.F.slot_dict_getitem.lookup hs (thn (ho.run pins s σ H _ I h) fun u s1 ⟨x, H1, I1, rx, q1⟩ => thn (hi.run pins s1 σ H1 _ I1 q1) fun iv s2 ⟨y, H2, I2, ry, z, u0, v0, ex, ey, eq, rv, q2⟩ => ?_)
  have rx' := rx
  rw [ex] at rx'
  obtain rfl : u = Value.ref d := rx'
  exact ⟨kd_type D I2, op_item_kd D pins s2 σ H2 x y _ iv Q I2 rx ry ⟨z, u0, v0, ex, ey, eq, rv, q2⟩⟩
/-- the dict of the sorts -/
def sortsV (fs : List FD) : List (Key × V) := fs.map fun f => (.inr f.nm, .str (sortS f.many))
theorem sorts_get : ∀ {fs : List FD}, (fs.map (·.nm)).Nodup → ∀ {f : FD}, f ∈ fs → valV (sortsV fs) (.inr f.nm) = some (.str (sortS f.many))
  | [], _, f, h => by cases h
  | g :: gs, nd, f, h => by
    rw [List.map_cons, List.nodup_cons] at nd
    rcases List.mem_cons.mp h with rfl | h
    · exact valV_pos rfl
    · have ne : ¬ g.nm = f.nm := fun e => nd.1 (e ▸ List.mem_map_of_mem h)
      show valV ((.inr g.nm, .str (sortS g.many)) :: sortsV gs) (.inr f.nm) = _
      rw [valV_neg (fun e => ne (Sum.inr.inj e))]
      exact sorts_get nd.2 h
theorem call_tuple_ofK {X : Cx} {K : PySem.W.Frag} (h : X.K = K) : CallR X (.type "tuple") (fun xs H Q => ∃ p ys, xs = [.ref p] ∧ ((SqL K H p ys ∧ ∀ l, H l = none → Q (.ref l) (upd H l (.tup ys))) ∨ (SqT K H p ys ∧ Q (.ref p) H))) := by subst h; exact call_tuple_of
theorem rd_tup {K : PySem.W.Frag} {s : Addr} {H : Hp} {x : V} {ys : List V} {Q : VK} (hs : H s ≠ none) (h : Sq K (Off s H) x ys) (q : ∀ v H', Same H H' → Tu K (Off s H') v ys → Q v H') :
    ∃ p zs, [x] = [.ref p] ∧ ((SqL K H p zs ∧ ∀ l, H l = none → Q (.ref l) (upd H l (.tup zs))) ∨ (SqT K H p zs ∧ Q (.ref p) H)) := by
  obtain ⟨p, rfl, h⟩ := h
  rcases h with h | h
  · refine ⟨p, ys, rfl, .inl ⟨off_same.seq h, fun l hl => q _ _ (same_new (Same.refl H) hl) (Tu.tup ?_)⟩⟩
    rw [off_ne (fun e : l = s => hs (by rw [← e]; exact hl)), upd_same]
  · exact ⟨p, ys, rfl, .inr ⟨same_t off_same h, q _ _ (Same.refl H) ⟨p, rfl, h⟩⟩⟩
theorem rd_tupM {K : PySem.W.Frag} {s : Addr} {H : Hp} {x : V} {ys : List V} (hs : H s ≠ none) (h : Sq K (Off s H) x ys) :
    ∃ p zs, [x] = [.ref p] ∧ ((SqL K H p zs ∧ ∀ l, H l = none → Same H (upd H l (.tup zs)) ∧ Tu K (Off s (upd H l (.tup zs))) (.ref l) ys) ∨ (SqT K H p zs ∧ Same H H ∧ Tu K (Off s H) (.ref p) ys)) :=
  rd_tup (Q := fun v H' => Same H H' ∧ Tu K (Off s H') v ys) hs h fun _ _ e t => ⟨e, t⟩
theorem ne_s {s d : Addr} {H H1 : Hp} (hs : H s ≠ none) (e : Same H H1) (h : H1 d = none) : d ≠ s := fun q => by
  cases z : H s with
  | none => exact hs z
  | some o => rw [q, e _ _ z] at h; cases h
theorem kept_s {s : Addr} {H H1 : Hp} (hs : H s ≠ none) (e : Same H H1) : H1 s ≠ none := by
  cases z : H s with
  | none => exact absurd z hs
  | some o => rw [e _ _ z]; exact nofun
theorem len_sub : ∀ {xs ys : List Str}, xs.Nodup → (∀ x ∈ xs, x ∈ ys) → xs.length ≤ ys.length
  | [], _, _, _ => Nat.zero_le _
  | x :: xs, ys, nd, h => by
    rw [List.nodup_cons] at nd
    have hx := h x (List.mem_cons_self ..)
    have := len_sub (ys := ys.erase x) nd.2 fun y hy => (List.mem_erase_of_ne (fun e : y = x => nd.1 (by rw [← e]; exact hy))).mpr (h y (List.mem_cons_of_mem _ hy))
    rw [List.length_erase_of_mem hx] at this
    have := List.length_pos_of_mem hx
    rw [List.length_cons]
    omega
theorem Tu.offL {K : PySem.W.Frag} {H : Hp} {v : V} {xs : List V} {d : Addr} {ys : List V} (h : Tu K H v xs) (hd : H d = some (.lst ys)) : Tu K (Off d H) v xs := by
  obtain ⟨b, rfl, h⟩ := h
  refine ⟨b, rfl, ?_⟩
  rcases h with (h | ⟨o, h⟩) | h
  · exact .inl (.inl ((off_ne (fun e => by rw [e, hd] at h; cases h)).trans h))
  · exact .inl (.inr ⟨o, (off_ne (fun e => by rw [e, hd] at h; cases h)).trans h⟩)
  · exact .inr h
/-- nothing that is a tuple -/
def NoTup (o : HO) : Prop := (∀ ys, o ≠ .tup ys) ∧ ∀ p ys, o ≠ .frz p (.tup ys)
theorem Tu.off {K : PySem.W.Frag} {H : Hp} {v : V} {xs : List V} {d : Addr} {o : HO} (h : Tu K H v xs) (hd : H d = some o) (no : NoTup o) : Tu K (Off d H) v xs := by
  obtain ⟨b, rfl, h⟩ := h
  refine ⟨b, rfl, ?_⟩
  rcases h with (h | ⟨p, h⟩) | h
  · exact .inl (.inl ((off_ne (fun e => by rw [e, hd] at h; exact no.1 _ (Option.some.inj h))).trans h))
  · exact .inl (.inr ⟨p, (off_ne (fun e => by rw [e, hd] at h; exact no.2 _ _ (Option.some.inj h))).trans h⟩)
  · exact .inr h
theorem CdT.off {K : PySem.W.Frag} {H : Hp} {v : V} {c : CD} {d : Addr} {o : HO} (h : CdT K H v c) (hd : H d = some o) (no : NoTup o) : CdT K (Off d H) v c := by
  obtain ⟨m, dv, s, ds, h1, h2, h3, h4, h5⟩ := h
  exact ⟨m, dv, s, ds, h1.off hd no, h2.off hd no, h3.off hd no, h4.mono fun _ _ h => Tu.off h hd no, h5.off hd no⟩
theorem no_lst {xs : List V} : NoTup (.lst xs) := ⟨fun _ h => HO.noConfusion h, fun _ _ h => HO.noConfusion h⟩
theorem no_ins {C dx : Addr} {fs : List (Str × V)} : NoTup (.ins C dx fs) := ⟨fun _ h => HO.noConfusion h, fun _ _ h => HO.noConfusion h⟩
theorem no_dK {kvs : List (Key × V)} : NoTup (.dK kvs) := ⟨fun _ h => HO.noConfusion h, fun _ _ h => HO.noConfusion h⟩
theorem same_offN {A B : Hp} {d : Addr} (e : Same A B) (h : A d = none) : Same A (Off d B) := fun b o hb => by
  rw [off_ne (fun q => by rw [q, h] at hb; cases hb)]
  exact e _ _ hb
/-- the i-th turn of a dict comprehension, over anything that is walked -/
theorem dc_it {J : It} {n : Nat} {G : Hp → Prop} {Y : Nat → Hp → V → Hp → Prop} (wk : Walk J n G Y) {g : TG} {tt : TT} {tk tv : TE} {vs : List Nat} {σ : L2.St} {H1 : Hp} {D : Addr} {Qd : Hp → Prop} (Pv : Nat → Hp → Prop) (h0 : Pv 0 (upd H1 D (.dK []))) (hG : ∀ i H, i ≤ n → Pv i H → G H)
    (hs : ∀ i x H H', i < n → Pv i H → Y i H x H' → g x (wipe σ vs) H' fun σ2 H2 => wipe σ2 vs = wipe σ vs ∧ tt σ2 H2 fun b H3 =>
      if b = true then tk σ2 H3 fun y H4 => tv σ2 H4 fun z H5 => ∃ kvs k, y = kV k ∧ H5 D = some (.dK kvs) ∧ kvs.length < sizeLine ∧ Pv (i + 1) (upd H5 D (.dK (putK kvs k z))) else Pv (i + 1) H3) (hd : ∀ H, Pv n H → Qd H) :
    ∃ W : Nat → Nat → Hp → Prop, (∃ m, W 0 m (upd H1 D (.dK []))) ∧ ∀ i m H, W i m H →
      (J.stop i H ∧ Qd H) ∨ (J.go i H ∧ ∃ Nx : Hp → Prop, (∀ H', Nx H' → ∃ m', m' < m ∧ W (i + 1) m' H') ∧ ∀ x H', J.yld i H x H' → g x (wipe σ vs) H' fun σ2 H2 => wipe σ2 vs = wipe σ vs ∧ tt σ2 H2 fun b H3 =>
        if b = true then tk σ2 H3 fun y H4 => tv σ2 H4 fun z H5 => ∃ kvs k, y = kV k ∧ H5 D = some (.dK kvs) ∧ kvs.length < sizeLine ∧ Nx (upd H5 D (.dK (putK kvs k z))) else Nx H3) := by
  refine ⟨fun i m H => m + i = n ∧ Pv i H, ⟨n, rfl, h0⟩, fun i m H ⟨e, p⟩ => ?_⟩
  cases m with
  | zero =>
    have e : i = n := by omega
    subst e
    exact .inl ⟨wk.stops _ (hG _ _ (Nat.le_refl _) p), hd _ p⟩
  | succ m =>
    have lt : i < n := by omega
    have gH := hG _ _ (Nat.le_of_lt lt) p
    exact .inr ⟨wk.goes _ _ lt gH, Pv (i + 1), fun H' p' => ⟨m, Nat.lt_succ_self m, by omega, p'⟩, fun x H' y => hs i x H H' lt p (wk.yields _ _ _ _ lt gH y)⟩
theorem putK_new {kvs : List (Key × V)} {k : Key} {v : V} (h : ∀ p ∈ kvs, p.1 ≠ k) : putK kvs k v = kvs ++ [(k, v)] := by
  unfold putK
  rw [if_neg]
  intro q
  obtain ⟨p, hp, e⟩ := List.any_eq_true.mp q
  exact h p hp (of_decide_eq_true e)
/-- the places of the fields, the calls by their names -/
def spotsV (fs : List FD) : List (Key × V) := (List.range fs.length).zipWith (fun i (f : FD) => ((.inr f.nm : Key), V.int (i : Nat))) fs
def tableV (cs : List CD) (sv : List V) : List (Key × V) := List.zipWith (fun (c : CD) v => ((.inr c.nm : Key), v)) cs sv
def KdA (K : PySem.W.Frag) (KC : Addr) (H : Hp) (v : V) (fs : List FD) (n : Nat) (cs : List CD) : Prop := ∃ (x dx so sp tb : Addr) (t st : V) (tv sv : List V), v = .ref x ∧
  H x = some (.ins KC dx [("triples", t), ("sorts", .ref so), ("spots", .ref sp), ("modes", .int n), ("steps", st), ("table", .ref tb)]) ∧ Tu K H t tv ∧ Al (FdT K H) tv fs ∧ H so = some (.dK (sortsV fs)) ∧ H sp = some (.dK (spotsV fs)) ∧
  Tu K H st sv ∧ Al (CdT K H) sv cs ∧ H tb = some (.dK (tableV cs sv))
theorem KdA.keep {K : PySem.W.Frag} {KC : Addr} {H H' : Hp} {v : V} {fs : List FD} {n : Nat} {cs : List CD} (e : Same H H') (h : KdA K KC H v fs n cs) : KdA K KC H' v fs n cs := by
  obtain ⟨x, dx, so, sp, tb, t, st, tv, sv, h0, h1, h2, h3, h4, h5, h6, h7, h8⟩ := h
  exact ⟨x, dx, so, sp, tb, t, st, tv, sv, h0, e _ _ h1, h2.keep e, h3.mono fun _ _ h => FdT.keep e h, e _ _ h4, e _ _ h5, h6.keep e, h7.mono fun _ _ h => CdT.keep e h, e _ _ h8⟩
theorem lt_sing (a b : Nat) : (decide ([a] < [b])) = decide (a < b) := by
  rw [Bool.eq_iff_iff, decide_eq_true_iff, decide_eq_true_iff]
  constructor
  · intro h
    cases h with
    | rel h => exact h
    | cons h => cases h
  · intro h
    exact List.Lex.rel h
theorem letter_le (c : Nat) : (!decide ((⟨#[c]⟩ : Str).cps.toList < ("a" : Str).cps.toList)) = decide (97 ≤ c) := by
  show (!decide ([c] < [97])) = _
  rw [lt_sing, Bool.eq_iff_iff]
  simp
theorem letter_ge (c : Nat) : (!decide (("z" : Str).cps.toList < (⟨#[c]⟩ : Str).cps.toList)) = decide (c ≤ 122) := by
  show (!decide ([122] < [c])) = _
  rw [lt_sing, Bool.eq_iff_iff]
  simp
theorem letters_take (xs : List Nat) (i : Nat) (c : Nat) (h : xs[i]? = some c) : (xs.take (i + 1)).map letterB = (xs.take i).map letterB ++ [letterB c] := by
  rw [List.take_succ, h]
  simp
end MK
set_option Elab.async false
set_option linter.all false
set_option autoImplicit false
set_option maxRecDepth 100000
set_option maxHeartbeats 400000
namespace MK
open PySem PySem.Spec PyProof.Rows L2
theorem put_take {full : List (Key × V)} {i : Nat} {k : Key} {v : V} (nd : (full.map (·.1)).Nodup) (h : full[i]? = some (k, v)) : putK (full.take i) k v = full.take (i + 1) := by
  rw [List.take_succ, h]
  refine putK_new fun p hp e => ?_
  obtain ⟨j, hj⟩ := List.mem_iff_getElem?.mp hp
  rw [List.getElem?_take] at hj
  split at hj
  · rename_i lt
    obtain ⟨hjl, ej⟩ := List.getElem?_eq_some_iff.mp hj
    obtain ⟨hil, ei⟩ := List.getElem?_eq_some_iff.mp h
    refine List.pairwise_iff_getElem.mp nd j i (by simpa using hjl) (by simpa using hil) lt ?_
    rw [List.getElem_map, List.getElem_map, ej, ei]
    exact e
  · cases hj
theorem inr_nodup : ∀ {zs : List Str}, zs.Nodup → (zs.map (Sum.inr : Str → Key)).Nodup
  | [], _ => List.nodup_nil
  | z :: zs, h => by
    rw [List.nodup_cons] at h
    rw [List.map_cons, List.nodup_cons]
    refine ⟨fun m => ?_, inr_nodup h.2⟩
    obtain ⟨y, hy, e⟩ := List.mem_map.mp m
    exact h.1 (Sum.inr.inj e ▸ hy)
theorem sorts_nd {fs : List FD} (h : (fs.map (·.nm)).Nodup) : ((sortsV fs).map (·.1)).Nodup := by
  have := inr_nodup h
  rw [List.map_map] at this
  unfold sortsV
  rw [List.map_map]
  exact this
theorem zip_keys {α β : Type} (g : α → β → Key × V) (q : β → Key) (e : ∀ a b, (g a b).1 = q b) : ∀ (as : List α) (bs : List β), as.length = bs.length → (List.zipWith g as bs).map (·.1) = bs.map q
  | [], [], _ => rfl
  | a :: as, b :: bs, h => by
    rw [List.zipWith_cons_cons, List.map_cons, List.map_cons, e, zip_keys g q e as bs (by simpa using h)]
  | [], _ :: _, h => by simp at h
  | _ :: _, [], h => by simp at h
theorem spots_nd {fs : List FD} (h : (fs.map (·.nm)).Nodup) : ((spotsV fs).map (·.1)).Nodup := by
  have := inr_nodup h
  rw [List.map_map] at this
  unfold spotsV
  rw [zip_keys _ (fun f => Sum.inr f.nm) (fun _ _ => rfl) _ _ (by rw [List.length_range])]
  exact this
theorem zip_keys2 {α β : Type} (g : α → β → Key × V) (q : α → Key) (e : ∀ a b, (g a b).1 = q a) : ∀ (as : List α) (bs : List β), as.length = bs.length → (List.zipWith g as bs).map (·.1) = as.map q
  | [], [], _ => rfl
  | a :: as, b :: bs, h => by
    rw [List.zipWith_cons_cons, List.map_cons, List.map_cons, e, zip_keys2 g q e as bs (by simpa using h)]
  | [], _ :: _, h => by simp at h
  | _ :: _, [], h => by simp at h
theorem table_nd {cs : List CD} {sv : List V} (h : (cs.map (·.nm)).Nodup) (l : sv.length = cs.length) : ((tableV cs sv).map (·.1)).Nodup := by
  have := inr_nodup h
  rw [List.map_map] at this
  unfold tableV
  rw [zip_keys2 _ (fun c => Sum.inr c.nm) (fun _ _ => rfl) _ _ l.symm]
  exact this
theorem sorts_at {fs : List FD} {i : Nat} {f : FD} (h : fs[i]? = some f) : (sortsV fs)[i]? = some (.inr f.nm, .str (sortS f.many)) := by
  unfold sortsV
  rw [List.getElem?_map, h]
  rfl
theorem spots_at {fs : List FD} {i : Nat} {f : FD} (h : fs[i]? = some f) : (spotsV fs)[i]? = some (.inr f.nm, .int (i : Nat)) := by
  unfold spotsV
  have hi := (List.getElem?_eq_some_iff.mp h).1
  rw [List.getElem?_zipWith, h, List.getElem?_range hi]
theorem table_at {cs : List CD} {sv : List V} {i : Nat} {c : CD} {v : V} (h : cs[i]? = some c) (hv : sv[i]? = some v) : (tableV cs sv)[i]? = some (.inr c.nm, v) := by
  unfold tableV
  rw [List.getElem?_zipWith, h, hv]
theorem sorts_len (fs : List FD) : (sortsV fs).length = fs.length := List.length_map ..
theorem spots_len (fs : List FD) : (spotsV fs).length = fs.length := by
  unfold spotsV
  rw [List.length_zipWith, List.length_range, Nat.min_self]
theorem table_len {cs : List CD} {sv : List V} (l : sv.length = cs.length) : (tableV cs sv).length = cs.length := by
  unfold tableV
  rw [List.length_zipWith, l, Nat.min_self]
/-- a new list -/
def LsN (H0 H : Hp) (v : V) (xs : List V) : Prop := ∃ a, v = .ref a ∧ H0 a = none ∧ H a = some (.lst xs)
theorem LsN.ls {H0 H : Hp} {v : V} {xs : List V} (h : LsN H0 H v xs) : Ls H v xs := by
  obtain ⟨a, e, _, h⟩ := h
  exact ⟨a, e, h⟩
theorem LsN.keep {H0 H H' : Hp} {v : V} {xs : List V} (e : Same H H') (h : LsN H0 H v xs) : LsN H0 H' v xs := by
  obtain ⟨a, r, n, h⟩ := h
  exact ⟨a, r, n, e _ _ h⟩
theorem LsN.off {H0 H : Hp} {v : V} {xs : List V} {d : Addr} {o : HO} (h : LsN H0 H v xs) (hd : H0 d = some o) : LsN H0 (Off d H) v xs := by
  obtain ⟨a, r, n, h⟩ := h
  exact ⟨a, r, n, (off_ne (fun e => by rw [e, hd] at n; cases n)).trans h⟩
/-- a drawn call whose lists are new -/
def CdN (K : PySem.W.Frag) (H0 H : Hp) (v : V) (c : CD) : Prop := ∃ m d s ds, Tu K H v [.str c.nm, .str c.hand, m, d, s] ∧ LsN H0 H m (c.moves.map V.int) ∧ LsN H0 H d ds ∧ Al (DeT K H) ds c.deeds ∧ LsN H0 H s (c.same.map V.str)
theorem CdN.l {K : PySem.W.Frag} {H0 H : Hp} {v : V} {c : CD} (h : CdN K H0 H v c) : CdL K H v c := by
  obtain ⟨m, d, s, ds, h1, h2, h3, h4, h5⟩ := h
  exact ⟨m, d, s, ds, h1, h2.ls, h3.ls, h4, h5.ls⟩
theorem CdN.off {K : PySem.W.Frag} {H0 H : Hp} {v : V} {c : CD} {d : Addr} {xs ys : List V} (h : CdN K H0 H v c) (h0 : H0 d = some (.lst xs)) (hd : H d = some (.lst ys)) : CdN K H0 (Off d H) v c := by
  obtain ⟨m, dv, s, ds, h1, h2, h3, h4, h5⟩ := h
  exact ⟨m, dv, s, ds, h1.off hd no_lst, h2.off h0, h3.off h0, h4.mono fun _ _ h => Tu.off h hd no_lst, h5.off h0⟩
end MK
set_option Elab.async false
set_option linter.all false
set_option autoImplicit false
set_option maxRecDepth 100000
set_option maxHeartbeats 400000
/-! x in o, o of an own class with its own __contains__ -/
namespace MK
open PySem PySem.Spec PyProof.Rows L2
def rInOwn (C : Addr) (sp : Sp) (neg : Bool) : R2 := fun x y H Q => ∃ a dx fs, y = .ref a ∧ H a = some (.ins C dx fs) ∧ sp [y, x] H (fun v H' => ∃ b, v = .bl b ∧ Q (.bl (if neg then !b else b)) H') E0
section
variable {X : Cx} {C f : Addr} {fd : FuncData} {ps : List Str} {k : Nat} {sp : Sp}
theorem op_inOwn (F : FnOk X.prog X.w X.K X.mg X.base CX0 k f fd ps sp) (hs : PySem.W.findIn X.K (.ref C) "__contains__" = some (some (.ref f))) (hf : PySem.W.isFn X.K (.ref f) = true) (hb : Binds X.K fd ps []) (hr : Room k X.A) : OpR X (compareOp .In) (rInOwn C sp false) := by
  intro pins s σ H x y v u Q I rx ry ⟨a, dx, fs, ey, ha, h⟩
  subst ey
  cases ry
  obtain ⟨mA, J, _⟩ := ins_get I.hok ha
  obtain ⟨od, J, _⟩ := J.look
  obtain ⟨m, hF⟩ := I.fr
  refine PySem.W.in_K hF I.ok.mod.kin J hs hf ?_
  have r2 : Vals [V.ref a, x] [Value.ref a, v] := .cons rfl (.cons rx .nil)
  refine thn (run_fn F hr hb .nil pass0 I r2 h) fun w s1 ⟨z, H1, I1, rz, b, ez, q⟩ => ?_
  subst ez
  cases rz
  exact wpAny_truthy_bool ⟨.bl b, H1, I1, rfl, q⟩
theorem op_notInOwn (F : FnOk X.prog X.w X.K X.mg X.base CX0 k f fd ps sp) (hs : PySem.W.findIn X.K (.ref C) "__contains__" = some (some (.ref f))) (hf : PySem.W.isFn X.K (.ref f) = true) (hb : Binds X.K fd ps []) (hr : Room k X.A) : OpR X (compareOp .NotIn) (rInOwn C sp true) := by
  intro pins s σ H x y v u Q I rx ry ⟨a, dx, fs, ey, ha, h⟩
  subst ey
  cases ry
  obtain ⟨mA, J, _⟩ := ins_get I.hok ha
  obtain ⟨od, J, _⟩ := J.look
  obtain ⟨m, hF⟩ := I.fr
  refine PySem.W.notIn_K hF I.ok.mod.kin J hs hf ?_
  have r2 : Vals [V.ref a, x] [Value.ref a, v] := .cons rfl (.cons rx .nil)
  refine thn (run_fn F hr hb .nil pass0 I r2 h) fun w s1 ⟨z, H1, I1, rz, b, ez, q⟩ => ?_
  subst ez
  cases rz
  exact wpAny_truthy_bool ⟨.bl (!b), H1, I1, rfl, q⟩
end
end MK
set_option Elab.async false
set_option linter.all false
set_option autoImplicit false
set_option maxRecDepth 100000
set_option maxHeartbeats 400000
/-! fields and calls as deep data, compared -/
namespace MK
open PySem PySem.Spec PyProof.Rows L2
theorem dp_map {α : Type} {K : PySem.W.Frag} {H : Hp} {R : V → α → Prop} {g : α → PyData} (h : ∀ x y, R x y → Dp K H x (g y)) : ∀ {xs : List V} {ys : List α}, Al R xs ys → DpAll K H xs (ys.map g)
  | [], [], _ => .nil
  | [], _ :: _, e => by cases e.1
  | _ :: _, [], e => by cases e.1
  | x :: xs, y :: ys, e => .cons (h x y (e.2 0 x y rfl rfl)) (dp_map h ⟨Nat.succ.inj e.1, fun i u v h1 h2 => e.2 (i + 1) u v h1 h2⟩)
theorem lay_map {α : Type} {g : α → PyData} : ∀ (ys : List α), (∀ y ∈ ys, PyData.canLay0 (g y) = true) → PyData.canLayAll0 (ys.map g) = true
  | [], _ => rfl
  | y :: ys, h => by
    rw [List.map_cons]
    unfold PyData.canLayAll0
    rw [h y (List.mem_cons_self ..), Bool.true_and]
    exact lay_map ys fun z hz => h z (List.mem_cons_of_mem _ hz)
theorem depth_map {α : Type} {g : α → PyData} {d : Nat} (h : ∀ y, PyData.depth (g y) ≤ d) : ∀ (ys : List α), PyData.depthAll (ys.map g) ≤ d
  | [] => Nat.zero_le _
  | y :: ys => by
    rw [List.map_cons]
    unfold PyData.depthAll
    exact Nat.max_le.mpr ⟨h y, depth_map h ys⟩
theorem eqv_map {α : Type} [DecidableEq α] {g : α → PyData} (h : ∀ x y, PyData.eqv (g x) (g y) = decide (x = y)) : ∀ (xs ys : List α), PyData.eqvAll (xs.map g) (ys.map g) = decide (xs = ys)
  | [], [] => rfl
  | [], _ :: _ => rfl
  | _ :: _, [] => rfl
  | x :: xs, y :: ys => by
    rw [List.map_cons, List.map_cons]
    unfold PyData.eqvAll
    rw [h x y, eqv_map h xs ys, Bool.eq_iff_iff]
    simp
def pdF (f : FD) : PyData := .tuple [.str f.nm, .str (sortS f.many), .bool f.need]
def pdD (d : Str × Str) : PyData := .tuple [.str d.1, .str d.2]
def pdC (c : CD) : PyData := .tuple [.str c.nm, .str c.hand, .tuple (c.moves.map PyData.int), .tuple (c.deeds.map pdD), .tuple (c.same.map PyData.str)]
theorem dp_f {K : PySem.W.Frag} {H : Hp} {v : V} {f : FD} (h : FdT K H v f) : Dp K H v (pdF f) := by
  obtain ⟨a, rfl, h⟩ := h
  exact .tup h (.cons (.str _) (.cons (.str _) (.cons (.bl _) .nil)))
theorem dp_d {K : PySem.W.Frag} {H : Hp} {v : V} {d : Str × Str} (h : DeT K H v d) : Dp K H v (pdD d) := by
  obtain ⟨a, rfl, h⟩ := h
  exact .tup h (.cons (.str _) (.cons (.str _) .nil))
theorem dp_ints {K : PySem.W.Frag} {H : Hp} : ∀ zs : List Int, DpAll K H (zs.map V.int) (zs.map PyData.int)
  | [] => .nil
  | z :: zs => .cons (.int z) (dp_ints zs)
theorem dp_c {K : PySem.W.Frag} {H : Hp} {v : V} {c : CD} (h : CdT K H v c) : Dp K H v (pdC c) := by
  obtain ⟨m, d, s, ds, ⟨a, rfl, h1⟩, ⟨b, rfl, h2⟩, ⟨e, rfl, h3⟩, h4, ⟨g, rfl, h5⟩⟩ := h
  exact .tup h1 (.cons (.str _) (.cons (.str _) (.cons (.tup h2 (dp_ints _)) (.cons (.tup h3 (dp_map (fun _ _ h => dp_d h) h4)) (.cons (.tup h5 (dp_strs _)) .nil)))))
theorem sort_inj {a b : Bool} (h : sortS a = sortS b) : a = b := by
  cases a <;> cases b <;> first | rfl | exact absurd h (by decide)
theorem eqv_f (f g : FD) : PyData.eqv (pdF f) (pdF g) = decide (f = g) := by
  obtain ⟨n1, m1, d1⟩ := f
  obtain ⟨n2, m2, d2⟩ := g
  rw [Bool.eq_iff_iff, decide_eq_true_iff]
  simp only [pdF, PyData.eqv, PyData.eqvAll, Bool.and_eq_true, beq_iff_eq, Bool.true_and, Bool.and_true, FD.mk.injEq]
  constructor
  · rintro ⟨h1, h2, h3⟩
    exact ⟨h1, sort_inj h2, h3⟩
  · rintro ⟨h1, h2, h3⟩
    exact ⟨h1, by rw [h2], h3⟩
theorem eqv_d (c d : Str × Str) : PyData.eqv (pdD c) (pdD d) = decide (c = d) := by
  obtain ⟨n1, m1⟩ := c
  obtain ⟨n2, m2⟩ := d
  rw [Bool.eq_iff_iff, decide_eq_true_iff]
  simp only [pdD, PyData.eqv, PyData.eqvAll, Bool.and_eq_true, beq_iff_eq, Bool.and_true, Prod.mk.injEq]
theorem eqv_ints (x y : Int) : PyData.eqv (.int x) (.int y) = decide (x = y) := by
  rw [Bool.eq_iff_iff, decide_eq_true_iff]
  simp only [PyData.eqv, beq_iff_eq]
theorem eqv_strs (x y : Str) : PyData.eqv (.str x) (.str y) = decide (x = y) := by
  rw [Bool.eq_iff_iff, decide_eq_true_iff]
  simp only [PyData.eqv, beq_iff_eq]
theorem eqv_c (c d : CD) : PyData.eqv (pdC c) (pdC d) = decide (c = d) := by
  obtain ⟨n1, h1, m1, d1, s1⟩ := c
  obtain ⟨n2, h2, m2, d2, s2⟩ := d
  rw [Bool.eq_iff_iff, decide_eq_true_iff]
  simp only [pdC, PyData.eqv, PyData.eqvAll, Bool.and_eq_true, beq_iff_eq, Bool.and_true, CD.mk.injEq, eqv_map eqv_ints, eqv_map eqv_d, eqv_map eqv_strs, decide_eq_true_iff]
end MK
set_option Elab.async false
set_option linter.all false
set_option autoImplicit false
set_option maxRecDepth 100000
set_option maxHeartbeats 400000
namespace MK
open PySem PySem.Spec PyProof.Rows L2
theorem word_ok {z : Str} (h : wordB z = true) : PyData.strOk z = true := by
  unfold wordB at h
  have h2 := (Bool.and_eq_true_iff.mp h).2
  unfold PyData.strOk
  rw [← Array.all_toList, List.all_eq_true]
  intro c hc
  have := (List.all_eq_true.mp h2) c hc
  unfold letterB at this
  have h3 := of_decide_eq_true (Bool.and_eq_true_iff.mp this).2
  exact decide_eq_true (by omega)
theorem sort_ok (b : Bool) : PyData.strOk (sortS b) = true := by cases b <;> decide +kernel
theorem hand_ok {z : Str} (h : z = "self" ∨ z = "new" ∨ z = "last") : PyData.strOk z = true := by
  rcases h with rfl | rfl | rfl <;> decide +kernel
theorem deed_ok {z : Str} {b : Bool} (h : b ∈ deedSorts z) : PyData.strOk z = true := by
  unfold deedSorts at h
  split at h
  · rename_i e; rw [e]; decide +kernel
  split at h
  · rename_i e; rw [e]; decide +kernel
  split at h
  · rename_i e; rw [e]; decide +kernel
  split at h
  · rename_i e; rw [e]; decide +kernel
  split at h
  · rename_i e; rw [e]; decide +kernel
  · cases h
theorem lay_f {f : FD} (h : wordB f.nm = true) : PyData.canLay0 (pdF f) = true := by
  simp only [pdF, PyData.canLay0, PyData.canLayAll0, word_ok h, sort_ok, Bool.and_true]
theorem ints_lay : ∀ zs : List Int, PyData.canLayAll0 (zs.map PyData.int) = true := fun zs => lay_map zs fun _ _ => rfl
theorem lay_c {fs : List FD} {n : Nat} {c : CD} (fok : FsOk fs) (h : CdOk fs n c) : PyData.canLay0 (pdC c) = true := by
  have w : ∀ z ∈ c.same, PyData.strOk z = true := fun z hz => by
    obtain ⟨f, hf, rfl, _⟩ := h.same z hz
    exact word_ok (fok.word f hf)
  have d : ∀ e ∈ c.deeds, PyData.canLay0 (pdD e) = true := fun e he => by
    obtain ⟨f, hf, e2, hd⟩ := h.deed e he
    have h2 : PyData.strOk e.2 = true := by
      rw [← e2]
      exact word_ok (fok.word f hf)
    simp only [pdD, PyData.canLay0, PyData.canLayAll0, deed_ok hd, h2, Bool.and_true]
  simp only [pdC, PyData.canLay0, PyData.canLayAll0, word_ok h.word, hand_ok h.hand, ints_lay, lay_map c.deeds d, strs_lay c.same w, Bool.and_true]
theorem depth_f (f : FD) : PyData.depth (pdF f) ≤ 1 := by
  simp only [pdF, PyData.depth, PyData.depthAll]
  decide
theorem depth_d (d : Str × Str) : PyData.depth (pdD d) ≤ 1 := by
  simp only [pdD, PyData.depth, PyData.depthAll]
  decide
theorem ints_depth (zs : List Int) : PyData.depthAll (zs.map PyData.int) ≤ 0 := depth_map (g := PyData.int) (d := 0) (fun _ => by unfold PyData.depth; exact Nat.le_refl _) zs
theorem depth_c (c : CD) : PyData.depth (pdC c) ≤ 4 := by
  have h1 := ints_depth c.moves
  have h2 := depth_map depth_d c.deeds
  have h3 := strs_depth c.same
  simp only [pdC, PyData.depth, PyData.depthAll]
  omega
theorem shaped_fs {fs : List FD} (h : FsOk fs) : SeqAt.shaped (.tuple (fs.map pdF)) = true := by
  have h1 := lay_map fs fun f hf => lay_f (h.word f hf)
  have h2 := depth_map depth_f fs
  unfold SeqAt.shaped
  rw [show PyData.canLay0 (.tuple (fs.map pdF)) = true by unfold PyData.canLay0; exact h1, decide_eq_true (by unfold PyData.depth; omega)]
  rfl
theorem shaped_cs {fs : List FD} {n : Nat} {cs : List CD} (fok : FsOk fs) (h : ∀ c ∈ cs, CdOk fs n c) : SeqAt.shaped (.tuple (cs.map pdC)) = true := by
  have h1 := lay_map cs fun c hc => lay_c fok (h c hc)
  have h2 := depth_map depth_c cs
  unfold SeqAt.shaped
  rw [show PyData.canLay0 (.tuple (cs.map pdC)) = true by unfold PyData.canLay0; exact h1, decide_eq_true (by unfold PyData.depth; omega)]
  rfl
theorem eqv_fs (fs gs : List FD) : PyData.eqv (.tuple (fs.map pdF)) (.tuple (gs.map pdF)) = decide (fs = gs) := by
  unfold PyData.eqv
  exact eqv_map eqv_f fs gs
theorem eqv_cs (cs ds : List CD) : PyData.eqv (.tuple (cs.map pdC)) (.tuple (ds.map pdC)) = decide (cs = ds) := by
  unfold PyData.eqv
  exact eqv_map eqv_c cs ds
theorem dp_fs {K : PySem.W.Frag} {H : Hp} {v : V} {tv : List V} {fs : List FD} (h : Tu K H v tv) (al : Al (FdT K H) tv fs) : Dp K H v (.tuple (fs.map pdF)) := by
  obtain ⟨a, rfl, h⟩ := h
  exact .tup h (dp_map (fun _ _ h => dp_f h) al)
theorem dp_cs {K : PySem.W.Frag} {H : Hp} {v : V} {tv : List V} {cs : List CD} (h : Tu K H v tv) (al : Al (CdT K H) tv cs) : Dp K H v (.tuple (cs.map pdC)) := by
  obtain ⟨a, rfl, h⟩ := h
  exact .tup h (dp_map (fun _ _ h => dp_c h) al)
end MK
set_option Elab.async false
set_option linter.all false
set_option autoImplicit false
set_option maxRecDepth 100000
set_option maxHeartbeats 400000
/-! x == y of own instances, both answers -/
namespace MK
open PySem PySem.Spec PyProof.Rows L2
def rEqOwn (C : Addr) (sp : Sp) : R2 := fun x y H Q => ∃ a dx fs b dy gs, x = .ref a ∧ y = .ref b ∧ H a = some (.ins C dx fs) ∧ H b = some (.ins C dy gs) ∧ sp [x, y] H (fun v H' => ∃ r, v = .bl r ∧ Q v H') E0
theorem op_eqOwn {X : Cx} {C f : Addr} {fd : FuncData} {ps : List Str} {k : Nat} {sp : Sp} (F : FnOk X.prog X.w X.K X.mg X.base CX0 k f fd ps sp) (hs : PySem.W.findIn X.K (.ref C) "__eq__" = some (some (.ref f))) (hf : PySem.W.isFn X.K (.ref f) = true) (hb : Binds X.K fd ps []) (hr : Room k X.A) :
    OpR X (compareOp .Eq) (rEqOwn C sp) := by
  intro pins s σ H x y v u Q I rx ry ⟨a, dx, fs, b, dy, gs, ex, ey, ha, hb', h⟩
  subst ex
  subst ey
  cases rx
  cases ry
  obtain ⟨mA, J, _⟩ := ins_get I.hok ha
  obtain ⟨mB, J', _⟩ := ins_get I.hok hb'
  obtain ⟨od, J, _⟩ := J.look
  obtain ⟨od', J', _⟩ := J'.look
  obtain ⟨m, hF⟩ := I.fr
  refine PySem.W.cmp_K (op := .Eq) (tb := .ref C) hr.units0 hF I.ok.mod.kin J J'.type (by simp [PySem.W.notFirst]) hs hf ?_
  have r2 : Vals [V.ref a, V.ref b] [Value.ref a, Value.ref b] := .cons rfl (.cons rfl .nil)
  refine thn (run_fn F hr hb .nil pass0 I r2 h) fun w s1 ⟨z, H1, I1, rz, r, ez, q⟩ => ?_
  subst ez
  cases rz
  exact ⟨.bl r, H1, I1, rfl, q⟩
end MK
set_option Elab.async false
set_option linter.all false
set_option autoImplicit false
set_option maxRecDepth 100000
set_option maxHeartbeats 400000
/-! x != y of own instances with an own __eq__ and no __ne__ -/
namespace PySem.W
open PySem PySem.Spec PySem.Calls PyProof.Rows
section
variable {prog : Program} {w : World} {A : Around} {E : Value → Shared → Prop} {s : Shared} {K : Frag} {x C f : Addr} {ox : Obj} {od : Option Obj} {h₀ : Heap} {L : Addr} {m : Str → Option Value} {b tb : Value}
theorem ne_ownK {Q : Value → Shared → Prop} (hu : A.units + 1 < cLine) (Fh : Fr h₀ L s.heap m) (X₀ : K.In h₀) (I : InstAt s.heap x ox C od) (hb : Looks (model prog w) s.heap (typeOf b) tb) (hn : notFirst K C tb = true)
    (hs : findIn K (.ref C) "__ne__" = some (some (.builtin "object.__ne__"))) (he : findIn K (.ref C) "__eq__" = some (some (.ref f))) (hf : isFn K (.ref f) = true) (ho : subIn K (.ref C) (.type "object") = some true)
    (h : wpAny (model prog w) A.in1 (call (.ref f) [.ref x, b]) (fun v s' => ∃ r, v = .bool r ∧ Q (.bool (!r)) s') E s) : wpAny (model prog w) A (richCompare .NotEq (.ref x) b) Q E s := by
  have X := X₀.keeps Fh.keep
  have entry : wpAny (model prog w) A.in1 (Builtin.«object.__ne__» ⟨[.ref x, b], []⟩) (fun fin s' => ∃ r, fin = .done (.ret (.bool r)) ∧ Q (.bool r) s') E s := by
    unfold Builtin.«object.__ne__»
    refine wpAny_bind (wpAny_of_eq (a := ((Value.ref x : Value), [b])) (by first | rfl | (simp only [slotArgs]; rfl)) ?_)
    refine wpAny_bind (wpAny_cRoomFor hu ?_)
    refine wpAny_bind (ifBound_K X I he hf (wpAny_mono h (fun v s' hv => ?_) fun _ _ e => e))
    obtain ⟨r, rfl, q⟩ := hv
    refine wpAny_bind (wpAny_truthy_bool ?_)
    exact wpAny_pure ⟨_, rfl, q⟩
  have one : wpAny (model prog w) A (tryCompare (.ref x) "__ne__" b) (fun r s' => ∃ v, r = some v ∧ Q v s') E s := by
    unfold tryCompare
    refine wpAny_bind ?_
    simp only [callSpecialIfBound?, bindSpecialIfBound?]
    refine wpAny_holding (wpAny_bind (wpAny_bind (wpAny_bind (I.type.here ((looks_findIn X hs).here ?_)))))
    simp only [PySem.F.cmp_object.ne.bind]
    refine wpAny_bind (wpAny_askSetting (wpAny_ite ?_))
    have fin : wpAny (model prog w) A (call (.builtin "object.__ne__") ([.ref x] ++ [b]) >>= fun v => pure (some v)) (fun r s' => wpAny (model prog w) A (match r with
      | some .notImplemented | none => pure none
      | some r => pure (some r) : Sem (Option Value)) (fun r s' => ∃ v, r = some v ∧ Q v s') E s') E s := by
      refine wpAny_bind (wpAny_call (codeAny_call_builtin PySem.F.cmp_object.ne.plain PySem.F.cmpEntry_ne ?_))
      refine check_slot PySem.F.cmpKind_ne PySem.F.cmpSplit_ne (I.type.andThen (looks_subIn X ho)) (PySem.F.cmpArgs_ne _ _) ?_
      refine wpAny_mono entry (fun fin s' hv => ?_) fun _ _ e => e
      obtain ⟨r, rfl, q⟩ := hv
      exact wpAny_pure (wpAny_pure ⟨_, rfl, q⟩)
    split
    · exact wpAny_bind (wpAny_pure (wpAny_pure fin))
    · exact wpAny_tryCatch (wpAny_bind (wpAny_pure (wpAny_pure fin)))
  unfold richCompare
  simp only [oneThing_ref]
  refine wpAny_holding (wpAny_bind (wpAny_cRoomFor (Nat.lt_of_succ_lt hu) ?_))
  refine wpAny_bind (I.type.here (wpAny_bind (hb.here ?_)))
  split
  · rename_i q
    have e : subIn K tb (.ref C) = some false := by
      rcases Bool.or_eq_true_iff.mp hn with e | e
      · rw [beq_iff_eq.mp e] at q; simp at q
      · exact beq_iff_eq.mp e
    refine wpAny_bind ((looks_subIn X e).here ?_)
    simp only [Bool.false_eq_true, if_false]
    refine wpAny_bind (wpAny_mono one (fun r s' z => ?_) fun _ _ e => e)
    obtain ⟨v, rfl, hq⟩ := z
    exact wpAny_pure hq
  · refine wpAny_bind (wpAny_pure ?_)
    simp only [Bool.false_eq_true, if_false]
    refine wpAny_bind (wpAny_mono one (fun r s' z => ?_) fun _ _ e => e)
    obtain ⟨v, rfl, hq⟩ := z
    exact wpAny_pure hq
end
end PySem.W

namespace MK
open PySem PySem.Spec PyProof.Rows L2
def rNeOwn (C : Addr) (sp : Sp) : R2 := fun x y H Q => ∃ a dx fs b dy gs, x = .ref a ∧ y = .ref b ∧ H a = some (.ins C dx fs) ∧ H b = some (.ins C dy gs) ∧ sp [x, y] H (fun v H' => ∃ r, v = .bl r ∧ Q (.bl (!r)) H') E0
theorem op_neOwn {X : Cx} {C f : Addr} {fd : FuncData} {ps : List Str} {k : Nat} {sp : Sp} (F : FnOk X.prog X.w X.K X.mg X.base CX0 k f fd ps sp) (hn : PySem.W.findIn X.K (.ref C) "__ne__" = some (some (.builtin "object.__ne__"))) (hs : PySem.W.findIn X.K (.ref C) "__eq__" = some (some (.ref f)))
    (hf : PySem.W.isFn X.K (.ref f) = true) (ho : PySem.W.subIn X.K (.ref C) (.type "object") = some true) (hb : Binds X.K fd ps []) (hr : Room (k + 1) X.A) :
    OpR X (compareOp .NotEq) (rNeOwn C sp) := by
  intro pins s σ H x y v u Q I rx ry ⟨a, dx, fs, b, dy, gs, ex, ey, ha, hb', h⟩
  subst ex
  subst ey
  cases rx
  cases ry
  obtain ⟨mA, J, _⟩ := ins_get I.hok ha
  obtain ⟨mB, J', _⟩ := ins_get I.hok hb'
  obtain ⟨od, J, _⟩ := J.look
  obtain ⟨od', J', _⟩ := J'.look
  obtain ⟨m, hF⟩ := I.fr
  refine PySem.W.ne_ownK (tb := .ref C) (by have := hr.un; omega) hF I.ok.mod.kin J J'.type (by simp [PySem.W.notFirst]) hn hs hf ho ?_
  have r2 : Vals [V.ref a, V.ref b] [Value.ref a, Value.ref b] := .cons rfl (.cons rfl .nil)
  have hl : [Value.ref a, Value.ref b].length = ps.length := by rw [← r2.length]; exact F.len _ _ _ _ h
  refine wpAny_call (codeAny_mono (F.run X.A.in1 X.stack s H ⟨[.ref a, .ref b], []⟩ _ _ _ E0 hr.in1 I.env0.in1 (by have := hb s [.ref a, .ref b] I.kIn (by rw [List.append_nil]; exact hl); rw [List.append_nil] at this; exact this) r2 h) fun r s' hq => ?_)
  cases r with
  | error e => exact False.elim hq
  | ok fl =>
    cases fl with
    | ret u =>
      obtain ⟨v, H1, I1, rz, r, ez, q⟩ := I.after hq
      subst ez
      cases rz
      exact ⟨r, rfl, .bl (!r), H1, I1, rfl, q⟩
    | next => exact False.elim hq
    | brk => exact False.elim hq
    | cont => exact False.elim hq
end MK
set_option Elab.async false
set_option linter.all false
set_option autoImplicit false
set_option maxRecDepth 100000
set_option maxHeartbeats 400000
/-! a str is no dict; x not in a tuple of texts, for any x -/
namespace PySem.SeqAt
open AutoSeq1 (wpAny_loadPart')
open MeetsSeq MeetsSeq2 MeetsSeq3 SeqRoads2
section
variable {A : Around} {s : Shared}
theorem dict_eq_declines_str (l : Addr) (es : Array DictEntry) (n : Nat) (dd : Option Addr) (sl : Array (Option Value)) (b : Str) (u : Tok) :
    Meets (Builtin.«dict.__eq__» ⟨[.ref l, .str b u], []⟩) (fun _ R s => s.heap.get? l = some { cls := .type "dict", dict := dd, data := .dict es n, slots := sl } ∧ R (.ok (.ret .notImplemented)) s) :=
  .of_wp fun prog w A R s h => by obtain ⟨hp, g, d, tk, os⟩ := s; obtain ⟨hl, h⟩ := h; have f1 := F.sub_str_dict; wp_walk using wpAny_loadPart' hl, wpAny_load hl; exact ⟨_, rfl, h⟩
theorem str_eq_declines_dict (b : Str) (u : Tok) (l : Addr) (c : Value) (es : Array DictEntry) (n : Nat) (dd : Option Addr) (sl : Array (Option Value)) :
    Meets (Builtin.«str.__eq__» ⟨[.str b u, .ref l], []⟩) (fun _ R s => s.heap.get? l = some { cls := c, dict := dd, data := .dict es n, slots := sl } ∧ R (.ok (.ret .notImplemented)) s) :=
  .of_wp fun prog w A R s h => by obtain ⟨hp, g, d, tk, os⟩ := s; obtain ⟨hl, h⟩ := h; wp_walk using wpAny_loadPart' hl, wpAny_load hl; exact ⟨_, rfl, h⟩
theorem RcAt.str_dict {l : Addr} {o : Obj} {es : Array DictEntry} {n : Nat} (b : Str) (u : Tok) (ho : s.heap.get? l = some o) (hx : o.cls = .type "dict") (hd : o.data = .dict es n) (hu : A.units < cLine) : RcAt A s (.str b u) (.ref l) false := fun prog w E Q h => by
  obtain ⟨cls, dd, data, sl⟩ := o
  simp only at hx hd
  subst hx hd
  exact rc_eq_decline_or (k := false) (typeIs_str s b u) ⟨_, ho, rfl⟩ (by decide) F.sub_dict_str F.slot_str_eq F.slot_dict_eq_refl
    (fun _ hq => call_meets F.slot_str_eq (typeIs_str s b u) F.entry_str_eq (F.args_str_eq_2 _ _) (str_eq_declines_dict b u l (.type "dict") es n dd sl) ⟨ho, hq⟩)
    (fun _ hq => call_meets F.slot_dict_eq_refl ⟨_, ho, rfl⟩ F.entry_dict_eq (F.args_dict_eq_2 _ _) (dict_eq_declines_str l es n dd sl b u) ⟨ho, hq⟩)
    (fun _ hq => wpAny_of_eq (rfl : isSame (.str b u) (.ref l) = pure false) hq) (.inr hu) h
theorem EqAt.str_dict {l : Addr} {o : Obj} {es : Array DictEntry} {n : Nat} (b : Str) (u : Tok) (ho : s.heap.get? l = some o) (hx : o.cls = .type "dict") (hd : o.data = .dict es n) (hu : A.units < cLine) : EqAt A s (.str b u) (.ref l) false := fun prog w E Q h => by
  unfold eqBool
  refine wpAny_holding ?_
  refine wpAny_ite_split (fun hab => absurd (eq_of_beq hab) nofun) (fun _ => ?_)
  exact wpAny_bind (RcAt.str_dict b u ho hx hd hu prog w E _ (wpAny_truthy_bool h))
end
end PySem.SeqAt
namespace MK
open PySem PySem.Spec PyProof.Rows L2
theorem strs_vals : ∀ {zs : List Str} {us : List Value}, Vals (zs.map V.str) us → ∀ u ∈ us, ∃ z t, u = .str z t
  | [], _, .nil => fun u hu => by cases hu
  | z :: zs, _, .cons r t => fun u hu => by
    rcases List.mem_cons.mp hu with rfl | hu
    · obtain ⟨t, rfl⟩ := r
      exact ⟨z, t, rfl⟩
    · exact strs_vals t u hu
/-- x not in a tuple of texts -/
def rNotInS (K : PySem.W.Frag) : R2 := fun x y H Q => ∃ (p : Addr) (zs : List Str), y = .ref p ∧ SqT K H p (zs.map V.str) ∧ ((flatV x = true ∧ Q (.bl (!inV x (zs.map V.str))) H) ∨ (∃ (a : Addr) (xs : List V), x = .ref a ∧ SqL K H a xs ∧ Q (.bl true) H) ∨ ∃ (a : Addr) (kvs : List (Key × V)), x = .ref a ∧ H a = some (.dK kvs) ∧ Q (.bl true) H)
theorem op_notInS {X : Cx} (hu : X.A.units + 1 < cLine) : OpR X (compareOp .NotIn) (rNotInS X.K) := by
  intro pins s σ H x y v u Q I rx ry h
  obtain ⟨p, zs, rfl, hq, h⟩ := h
  cases ry
  rcases h with ⟨fx, q⟩ | ⟨a, xs, rfl, ha, q⟩ | ⟨a, kvs, rfl, ha, q⟩
  · exact op_notIn_seq pins s σ H x (V.ref p) v (Value.ref p) Q I rx (show RelV (V.ref p) (Value.ref p) from rfl) ⟨p, _, rfl, .inr hq, fx, by simp [flatV], q⟩
  · cases rx
    obtain ⟨its, r, pl, hz⟩ := I.tuple hq
    obtain ⟨its2, r2, pl2, hz2⟩ := I.list ha
    refine SeqAt.notIn_tupleAt (fun _ => false) pl (fun w hw => ?_) ⟨.bl true, H, I, ?_, q⟩
    · obtain ⟨z, t, rfl⟩ := strs_vals r w (by simpa using hw)
      exact SeqAt.EqAt.str_list z t pl2.isList (show X.A.units + 1 < cLine from hu)
    · show Value.bool _ = Value.bool _
      simp
  · cases rx
    obtain ⟨its, r, pl, hz⟩ := I.tuple hq
    obtain ⟨_, _, vs, _, o, es, ep, ho, hx, hd, _⟩ := (show ObjOk X.prog X.w H s.heap a (.dK kvs) from I.hok a _ ha)
    refine SeqAt.notIn_tupleAt (fun _ => false) pl (fun w hw => ?_) ⟨.bl true, H, I, ?_, q⟩
    · obtain ⟨z, t, rfl⟩ := strs_vals r w (by simpa using hw)
      exact SeqAt.EqAt.str_dict z t ho hx.1 hd (show X.A.units + 1 < cLine from hu)
    · show Value.bool _ = Value.bool _
      simp
end MK
set_option Elab.async false
set_option linter.all false
set_option autoImplicit false
set_option maxRecDepth 100000
set_option maxHeartbeats 1000000
/-! own errors that are raised, and held by an except suite that hands them on -/
namespace MK
open PySem PySem.Spec PyProof.Rows L2
/-- an error class whose __init__ is walked, raised with positional arguments -/
structure RaiseC (P : Program) (w : World) (K : PySem.W.Frag) (mg : Str → Option Value) (base : Heap) (k : Nat) (x : Str) (C : Addr) (sp : Sp) : Prop where
  ex : ∃ (f : Addr) (fd : FuncData) (ps : List Str), ErrC K C f ∧ FnOk P w K mg base CX0 k f fd ps sp ∧ mg x = some (.ref C) ∧ Binds K fd ps []
theorem ps_raiseC {X : Cx} {W : WX} {k j : Nat} {x : Str} {C : Addr} {sp : Sp} {p pos pos2 : Pos} {e : Expr} {es : List Expr} {ta : TA} (c : RaiseC X.prog X.w X.K X.mg X.base k x C sp) (hc : X.calm = true) (tk : Takes X W) (hr : Room j X.A) (hk : k + 1 ≤ j) (hg : Gl X x) (ha : PA X (e :: es) ta)
    (hdb : (x == ("__debug__" : Str)) = false := by decide) (he : starEach (e :: es) X.env = (false, eval e X.env) :: starEach es X.env := by rfl) (hpl : (backTo pos (starEach es X.env)).any (·.1) = false := by rfl) :
    PS X (.Raise (some (.Call (.Name x p) (e :: es) [] pos)) none pos2) (fun _ σ H => tMkO C sp [] ta σ H fun cls d H' => W cls d σ H') := by
  obtain ⟨f, fd, ps, T, F, hm, b⟩ := c.ex
  exact ps_raise hc tk (pmk_oex T.cls T.ini T.fn F (hr.mono hk) b .nil pass0 hg hm ha hdb he hpl)
theorem rd_raise1 {C : Addr} {f : Str} {ta : TA} {σ : L2.St} {H : Hp} {v : V} {W : XK} (ht : ∀ R : List V → Hp → Prop, R [v] H → ta σ H R) (q : ∀ d H', Same H H' → H d = none → H' d = some (.xd [(f, v)]) → W (.ref C) (some d) H') : tMkO C (spErr1 C f) [] ta σ H W := by
  refine ht _ ⟨by show 1 ≤ 1000; decide, fun a ha => ⟨a, v, rfl, upd_same, fun d hd hda => ⟨rfl, d, [(f, v)], upd_same, (upd_ne hda).trans upd_same, ?_, ?_⟩⟩⟩
  · rw [upd_ne hda] at hd
    exact hd
  · have hd' : H d = none := by rw [upd_ne hda] at hd; exact hd
    refine q d _ (fun b o hb => ?_) hd' upd_same
    have ba : b ≠ a := fun z => by rw [z, ha] at hb; cases hb
    have bd : b ≠ d := fun z => by rw [z, hd'] at hb; cases hb
    rw [upd_ne bd, del_ne ba, upd_ne ba, upd_ne bd, upd_ne ba]
    exact hb
/-! ### a caught error, known by its pin -/
section
variable {X : Cx} {a : Addr} {oe : Obj} {cls : Value} {d : Option Addr}
def tErrP (K : PySem.W.Frag) (a : Addr) (cls : Value) (d : Option Addr) (f : Str) (te : TE) : TE := fun σ H Q => te σ H fun x H1 => x = .ref a ∧ ∃ (C dd : Addr) (fs : List (Str × V)) (v : V), cls = .ref C ∧ d = some dd ∧ ErrF K C ∧ PySem.W.findIn K (.ref C) f = some none ∧ H1 dd = some (.xd fs) ∧ fs.lookup f = some v ∧ Q v H1
theorem pe_errP {e : Expr} {te : TE} {pos : Pos} {n : Str} (hp : (a, oe) ∈ X.pn) (hz : Zc cls d oe) (hf : ∃ vs, oe.data = .fields vs) (he : PE X e te) (hb : attributeBase e n X.env (eval e X.env) = eval e X.env := by rfl) :
    PE X (.Attribute e n pos) (tErrP X.K a cls d n te) := by
  refine ⟨fun pins s σ H Q I h => ?_⟩
  refine attr_of hb (thn (he.run pins s σ H _ I h) fun u s1 hh => ?_)
  obtain ⟨x, H1, I1, rx, ex, C, dd, fs, v, ec, ed, T, hno, ea, l, q⟩ := hh
  subst ex ec ed
  obtain rfl : u = Value.ref a := rx
  have hget := (I1.pin (a, oe) (List.mem_append_left _ hp)).1
  obtain ⟨vs, hd⟩ := hf
  obtain ⟨mA, hns, hr⟩ := (show ObjOk X.prog X.w H1 s1.heap dd (.xd fs) from I1.hok dd _ ea)
  obtain ⟨od, ho, hl⟩ := lookIn_ns hns
  obtain ⟨y, hy, ry⟩ := RelO.some_of (v := v) (o := mA n) (by rw [← l]; exact hr n)
  have J : PySem.W.InstAt s1.heap a oe C (some od) := ⟨hget, hz.1, by unfold PySem.W.notCls; rw [hd] <;> rfl, by rw [hz.2]; exact ho⟩
  exact HandSPX.exc_get I1.kIn J T.ga T.gg T.exC (PySem.W.findObj_own T.hdC hno rfl (by rw [hl, hy])) (handed_of ry) ⟨v, H1, I1.tok _, ry, q⟩
def rIsP (K : PySem.W.Frag) (a : Addr) (cls : Value) (d : Option Addr) : List V → Hp → VK → Prop := fun xs H Q => ∃ (C dd : Addr) (fs : List (Str × V)) (c : V) (cv : Value) (b : Bool), xs = [.ref a, c] ∧ cls = .ref C ∧ d = some dd ∧ H dd = some (.xd fs) ∧ ErrI K C ∧ ClsV c cv ∧ PySem.W.kitOne K (.ref C) cv = some b ∧ Q (.bl b) H
theorem call_isP (hp : (a, oe) ∈ X.pn) (hz : Zc cls d oe) (hf : ∃ vs, oe.data = .fields vs) : CallR X (.builtin "isinstance") (rIsP X.K a cls d) := by
  intro pins s σ H xs us Q I r h
  obtain ⟨C, dd, fs, c, cv, b, rfl, ec, ed, hfs, T, k, e, q⟩ := h
  subst ec ed
  obtain ⟨u1, u2, rfl, r1, r2⟩ := vals2 r
  have e2 := k.eq r2
  subst e2
  obtain rfl : u1 = Value.ref a := r1
  have hget := (I.pin (a, oe) (List.mem_append_left _ hp)).1
  obtain ⟨vs, hd⟩ := hf
  obtain ⟨mA, hns, _⟩ := (show ObjOk X.prog X.w H s.heap dd (.xd fs) from I.hok dd _ hfs)
  obtain ⟨od, hod, _⟩ := lookIn_ns hns
  have J : PySem.W.InstAt s.heap a oe C (some od) := ⟨hget, hz.1, by unfold PySem.W.notCls; rw [hd] <;> rfl, by rw [hz.2]; exact hod⟩
  exact PySem.W.kia_one (PySem.W.kitx_exc (od := some od) T.cl T.ga T.gg T.ex T.ca T.sp T.tk T.ob) I.kIn J e (fun z => nomatch z) fun tk => ⟨.bl b, H, I.tok tk, rfl, q⟩
end
/-! ### a def that a suite hands its error -/
/-- what is promised of a def called with a caught error at p.1, of the class cls with the dict d -/
abbrev SpP := Addr → Value → Option Addr → Sp
structure FnP (P : Program) (w : World) (K : PySem.W.Frag) (mg : Str → Option Value) (base : Heap) (k : Nat) (f : Addr) (fd : FuncData) (ps : List Str) (sp : SpP) : Prop where
  len : ∀ a cls d vs H Q, sp a cls d vs H Q E0 → vs.length = ps.length
  run : ∀ (A : Around) (outer : List Env) (s : Shared) (H : Hp) (args : Args) (us : List Value) (vs : List V) (Q : VK) (p : Addr × Obj) (cls : Value) (d : Option Addr), L2H.RoomH k A → L2H.PinOk outer H s p → Zc cls d p.2 → (∃ fs, p.2.data = .fields fs) →
    Env0 P w K mg base A outer s H → BindsTo s fd args (ps.zip us) → Vals vs us → sp p.1 cls d vs H Q E0 → codeAny (model P w) A (.call (.ref f) args) (CR CX0 outer P w H s Q E0) s
theorem fnP_of {P : Program} {w : World} {K : PySem.W.Frag} {mg : Str → Option Value} {base : Heap} {k : Nat} {x : Str} {st : Stmt} {f : Addr} {fd : FuncData} {N ps : List Str} {sp : SpP} (F : DefX K mg x st ps f fd) (S : FnScope N ps (defScope st))
    (len : ∀ a cls d vs H Q, sp a cls d vs H Q E0 → vs.length = ps.length)
    (hbody : ∀ (cdv : Value) (A : Around) (outer : List Env) (s : Shared) (H : Hp) (vs : List V) (Q : VK) (a : Addr) (oe : Obj) (cls : Value) (d : Option Addr), Zc cls d oe → (∃ fs, oe.data = .fields fs) → L2H.RoomH k (A.deeper (envOfC x (defScope st) s.heap.objs.size f cdv)) → sp a cls d vs H Q E0 →
      ∃ t, PSs (L2H.cxH CX0 P w K mg base N x (defScope st) f cdv A outer s H E0 (a, oe)) (defBody st) t ∧ t { nx := fun _ H' => Q .non H', rt := Q } (L2.start N vs) H) : FnP P w K mg base (k + 1) f fd ps sp := by
  obtain ⟨oc, od, kV, doc, pm, an, cdv, ct, osl, rfl, lk, hcd⟩ := F.fn.ex
  refine ⟨len, fun A outer s H args us vs Q p cls d hr hpin hz hf e0 hb r hsp => ?_⟩
  have vl := len _ _ _ _ _ _ hsp
  have kin := e0.mod.kin.keeps fun b o e => (e0.bs b o e).1
  have lim := e0.mod.nolimit.keeps fun b o e => (e0.bs b o e).1
  refine codeAny_call_function hr.depth (kin _ _ lk) rfl S.co S.gen rfl (PySem.W.codeRec_of kin hcd) (hb _ _ _ _ (wpAny_newFunctionEnv_cells S.kind (fun ⟨n, v⟩ hy => ?_) fun env he s1 x1 => ?_))
  · exact (S.par n (List.of_mem_zip hy).1).imp id fun q => ⟨q, PySem.W.cellsFrom_some _ _ _ (.inl q)⟩
  subst he
  refine ⟨lim.keeps x1.toInCall.keep, codeAny_func ?_⟩
  obtain ⟨t, ht, hq⟩ := hbody cdv A outer s H vs Q p.1 p.2 cls d hz hf (hr.deeper _) hsp
  have I := L2H.inv_startH (CX := CX0) (E := E0) (N := N) (f := f) (cd := cdv) (qual := x) S hpin e0 vl r x1
  have fin : ∀ {σ' : L2.St} {H' : Hp} {v : V} {u : Value} {s' : Shared}, Inv (L2H.cxH CX0 P w K mg base N x (defScope st) f cdv A outer s H E0 p) [] σ' H' s' → RelV v u → Q v H' → CE outer P w H s Q u s' :=
    fun J rv q => ⟨_, _, J.os, J.bare, J.base, J.hok, rv, q⟩
  refine wpAny_mono (ht.run [] s1 (L2.start N vs) H _ I hq) (fun fl s' hs => ?_) fun e s' hs => hs
  cases fl with
  | ret u => obtain ⟨v, σ', H', J, rv, q⟩ := hs; exact fin J rv q
  | next => obtain ⟨σ', H', J, q⟩ := hs; exact fin (v := V.non) (u := Value.none) J rfl q
  | brk => obtain ⟨_, _, _, q⟩ := hs; exact q.elim
  | cont => obtain ⟨_, _, _, q⟩ := hs; exact q.elim
/-- f(e), e the caught error -/
def tCallP (sp : SpP) (a : Addr) (cls : Value) (d : Option Addr) (ta : TA) : TE := fun σ H Q => ta σ H fun vs H1 => sp a cls d vs H1 Q E0
theorem pe_callP {X : Cx} {a : Addr} {oe : Obj} {cls : Value} {d : Option Addr} {k : Nat} {f : Addr} {fd : FuncData} {ps : List Str} {sp : SpP} {x : Str} {p pos : Pos} {e : Expr} {es : List Expr} {ta : TA} (hp : (a, oe) ∈ X.pn) (hz : Zc cls d oe) (hf : ∃ vs, oe.data = .fields vs)
    (F : FnP X.prog X.w X.K X.mg X.base k f fd ps sp) (hr : L2H.RoomH k X.A) (hg : Gl X x) (hm : X.mg x = some (.ref f)) (hk : PySem.W.keepIn X.K (.ref f) = true) (hb : Binds X.K fd ps []) (ha : PA X (e :: es) ta)
    (hdb : (x == ("__debug__" : Str)) = false := by decide) (he : starEach (e :: es) X.env = (false, eval e X.env) :: starEach es X.env := by rfl) (hpl : (backTo pos (starEach es X.env)).any (·.1) = false := by rfl) :
    PE X (.Call (.Name x p) (e :: es) [] pos) (tCallP sp a cls d ta) := by
  refine ⟨fun pins s σ H Q I h => wpAny_Call_Name_kw (ld_glob I hg hm (PySem.W.callWith_K (h₀ := X.base) I.ok.mod.kin hk (thn (ha.run pos pins s σ H _ I h) fun us s1 hh => ?_) he hpl) hdb)⟩
  obtain ⟨vs, H1, I1, r, q⟩ := hh
  refine ⟨I1.kIn, wpAny_call (codeAny_mono (F.run X.A X.stack s1 H1 ⟨us, []⟩ us vs Q (a, oe) cls d hr ?_ hz hf I1.env0 ?_ r q) fun z s' hq => ?_)⟩
  · have P1 := I1.pin (a, oe) (List.mem_append_left _ hp)
    exact ⟨P1.1, P1.2.1, fun z => (List.mem_cons.mp (I1.stkSub a z)).elim P1.2.2.1 P1.2.2.2.1, P1.2.2.2.2⟩
  · have hl : us.length = ps.length := r.length.symm.trans (F.len _ _ _ _ _ _ q)
    have b := hb s1 us I1.kIn (by rw [List.append_nil]; exact hl)
    rwa [List.append_nil] at b
  · cases z with
    | error e => exact False.elim hq
    | ok fl => cases fl with
      | ret u => exact I1.after hq
      | next => exact False.elim hq
      | brk => exact False.elim hq
      | cont => exact False.elim hq
end MK
set_option Elab.async false
set_option linter.all false
set_option autoImplicit false
set_option maxRecDepth 100000
set_option maxHeartbeats 400000
/-! heaps without the tables of code objects -/
namespace MK
open PySem PySem.Spec PyProof.Rows L2
def Nt (H : Hp) : Hp := fun b => match H b with
  | some (.tbl _) => none
  | x => x
theorem nt_of {H : Hp} {b : Addr} {o : HO} (h : H b = some o) (n : ∀ ps, o ≠ .tbl ps) : Nt H b = some o := by
  unfold Nt
  rw [h]
  cases o <;> first | rfl | exact absurd rfl (n _)
theorem nt_get {H : Hp} {b : Addr} {o : HO} (h : Nt H b = some o) : H b = some o ∧ ∀ ps, o ≠ .tbl ps := by
  unfold Nt at h
  split at h
  · cases h
  · rename_i e
    exact ⟨h, fun ps z => e ps (by rw [h, z])⟩
theorem nt_same {H : Hp} : Same (Nt H) H := fun _ _ h => (nt_get h).1
theorem same_nt {H H' : Hp} (e : Same H H') : Same (Nt H) (Nt H') := fun b o h => nt_of (e b o (nt_get h).1) (nt_get h).2
theorem ext_nt {H H' : Hp} (e : LamX.ExtN H H') : Same (Nt H) (Nt H') := fun b o h => nt_of (e b o (nt_get h).1 (nt_get h).2) (nt_get h).2
theorem ext_off {s : Addr} {H H' : Hp} (e : LamX.ExtN H H') : LamX.ExtN (Off s H) (Off s H') := fun b o h n => by
  by_cases q : b = s
  · rw [q, off_s] at h
    cases h
  · rw [off_ne q] at h ⊢
    exact e b o h n
/-- what is told of H, but of s and of tables -/
abbrev Nx (s : Addr) (H : Hp) : Hp := Nt (Off s H)
theorem SameX.nx {s : Addr} {H H' : Hp} (e : SameX s H H') : Same (Nx s H) (Nx s H') := same_nt e.off
theorem ext_nx {s : Addr} {H H' : Hp} (e : LamX.ExtN H H') : Same (Nx s H) (Nx s H') := ext_nt (ext_off e)
theorem nx_same {s : Addr} {H : Hp} : Same (Nx s H) (Off s H) := nt_same
section
variable {K : PySem.W.Frag} {H : Hp} {v : V} {xs : List V}
theorem sqt_nt {a : Addr} (h : SqT K H a xs) : SqT K (Nt H) a xs := by
  rcases h with ⟨h | ⟨o, h⟩⟩ | h
  · exact .inl (.inl (nt_of h nofun))
  · exact .inl (.inr ⟨o, nt_of h nofun⟩)
  · exact .inr h
theorem Tu.nt (h : Tu K H v xs) : Tu K (Nt H) v xs := by
  obtain ⟨a, r, h⟩ := h
  exact ⟨a, r, sqt_nt h⟩
theorem Ls.nt (h : Ls H v xs) : Ls (Nt H) v xs := by
  obtain ⟨a, r, h⟩ := h
  exact ⟨a, r, nt_of h nofun⟩
theorem CdT.nt {c : CD} (h : CdT K H v c) : CdT K (Nt H) v c := by
  obtain ⟨m, d, s, ds, h1, h2, h3, h4, h5⟩ := h
  exact ⟨m, d, s, ds, h1.nt, h2.nt, h3.nt, h4.mono fun _ _ h => Tu.nt h, h5.nt⟩
theorem CdL.nt {c : CD} (h : CdL K H v c) : CdL K (Nt H) v c := by
  obtain ⟨m, d, s, ds, h1, h2, h3, h4, h5⟩ := h
  exact ⟨m, d, s, ds, h1.nt, h2.nt, h3.nt, h4.mono fun _ _ h => Tu.nt h, h5.nt⟩
theorem KdA.nt {KC : Addr} {fs : List FD} {n : Nat} {cs : List CD} (h : KdA K KC H v fs n cs) : KdA K KC (Nt H) v fs n cs := by
  obtain ⟨x, dx, so, sp, tb, t, st, tv, sv, h0, h1, h2, h3, h4, h5, h6, h7, h8⟩ := h
  exact ⟨x, dx, so, sp, tb, t, st, tv, sv, h0, nt_of h1 nofun, h2.nt, h3.mono fun _ _ h => Tu.nt h, nt_of h4 nofun, nt_of h5 nofun, h6.nt, h7.mono fun _ _ h => CdT.nt h, nt_of h8 nofun⟩
end
/-! ### tables stay behind -/
theorem tab_sx {s : Addr} {H H' : Hp} {P : Addr} {q : Str} {xs : List V} (e : SameX s H H') (hs : H s = some (.lst xs)) (t : LamX.TabS H P q) : LamX.TabS H' P q := by
  obtain ⟨ps, h1, h2, h3⟩ := t
  have ne : ∀ {b : Addr} {o : HO}, H b = some o → (o ≠ .lst xs) → b ≠ s := fun hb n z => by
    rw [z, hs] at hb
    exact n (Option.some.inj hb).symm
  refine ⟨ps, e _ _ h1 (ne h1 nofun), h2, fun pos cv hc => ?_⟩
  obtain ⟨c, e1, e2⟩ := h3 pos cv hc
  exact ⟨c, e1, e _ _ e2 (ne e2 fun z => by
    unfold LamX.CodeO at z
    cases z)⟩
theorem passes_cx0 {X : Cx} : Passes (L2.CX X.prog X.w) X E0 := fun _ _ _ _ _ _ _ h => by
  obtain ⟨_, _, _, _, _, _, _, _, _, _, _, _, z⟩ := h
  exact z.elim
end MK
set_option Elab.async false
set_option linter.all false
set_option autoImplicit false
set_option maxRecDepth 100000
set_option maxHeartbeats 400000
/-! cuts of lists, item by item; one call of a kind exchanged -/
namespace MK
open PySem PySem.Spec PyProof.Rows L2
section
variable {α : Type} {R : V → α → Prop} {xs xs' : List V} {ys ys' : List α}
theorem Al.take (h : Al R xs ys) (i : Nat) : Al R (xs.take i) (ys.take i) := by
  refine ⟨by rw [List.length_take, List.length_take, h.1], fun j x y h1 h2 => ?_⟩
  rw [List.getElem?_take] at h1 h2
  split at h1
  · rename_i q
    rw [if_pos q] at h2
    exact h.2 j x y h1 h2
  · cases h1
theorem Al.drop (h : Al R xs ys) (i : Nat) : Al R (xs.drop i) (ys.drop i) := by
  refine ⟨by rw [List.length_drop, List.length_drop, h.1], fun j x y h1 h2 => ?_⟩
  rw [List.getElem?_drop] at h1 h2
  exact h.2 _ x y h1 h2
theorem Al.append (h : Al R xs ys) (h' : Al R xs' ys') : Al R (xs ++ xs') (ys ++ ys') := by
  refine ⟨by rw [List.length_append, List.length_append, h.1, h'.1], fun j x y h1 h2 => ?_⟩
  by_cases q : j < xs.length
  · rw [List.getElem?_append_left q] at h1
    rw [List.getElem?_append_left (h.1 ▸ q)] at h2
    exact h.2 j x y h1 h2
  · rw [List.getElem?_append_right (by omega)] at h1
    rw [List.getElem?_append_right (by have := h.1; omega)] at h2
    rw [← h.1] at h2
    exact h'.2 _ x y h1 h2
theorem Al.one {x : V} {y : α} (r : R x y) : Al R [x] [y] := (Al.nil (R := R)).snoc r
end
theorem cut_to (xs : List V) (i : Nat) : cutV xs none (some (i : Int)) = xs.take i := by
  have e := HT.sIx_nat xs.length xs.length i
  unfold cutV
  rw [HT.sIx_none, e, List.drop_zero, Nat.sub_zero]
  rcases Nat.le_total i xs.length with h | h
  · rw [Nat.min_eq_left h]
  · rw [Nat.min_eq_right h, List.take_of_length_le (Nat.le_refl _), List.take_of_length_le h]
theorem cut_from (xs : List V) (i : Nat) (h : i ≤ xs.length) : cutV xs (some (i : Int)) none = xs.drop i := by
  have e := HT.sIx_nat xs.length 0 i
  unfold cutV
  rw [HT.sIx_none, e, Nat.min_eq_left h]
  exact List.take_of_length_le (by rw [List.length_drop]; exact Nat.le_refl _)
end MK
set_option Elab.async false
set_option linter.all false
set_option autoImplicit false
set_option maxRecDepth 100000
set_option maxHeartbeats 1000000
/-! facts of the head: tuples of texts, dicts with text keys, the law's table of codes; the end -/
namespace MK
open PySem PySem.Spec PyProof.Rows L2
def strsB : List Str → List Value → Bool
  | [], [] => true
  | z :: zs, .str y _ :: us => decide (y = z) && strsB zs us
  | _, _ => false
theorem strsB_ok : ∀ {zs : List Str} {us : List Value}, strsB zs us = true → Vals (zs.map V.str) us
  | [], [], _ => .nil
  | z :: zs, .str y t :: us, h => by
    obtain ⟨h1, h2⟩ := Bool.and_eq_true_iff.mp (show (decide (y = z) && strsB zs us) = true from h)
    have e := of_decide_eq_true h1
    exact .cons ⟨t, by rw [e]⟩ (strsB_ok h2)
  | [], _ :: _, h => by cases h
  | _ :: _, [], h => by cases h
  | _ :: _, .none :: _, h => by cases h
  | _ :: _, .bool _ :: _, h => by cases h
  | _ :: _, .int _ _ :: _, h => by cases h
  | _ :: _, .ref _ :: _, h => by cases h
  | _ :: _, .type _ :: _, h => by cases h
  | _ :: _, .builtin _ :: _, h => by cases h
  | _ :: _, .notImplemented :: _, h => by cases h
  | _ :: _, .ellipsis :: _, h => by cases h
  | _ :: _, .float _ _ :: _, h => by cases h
def tupB (K : PySem.W.Frag) (a : Addr) (zs : List Str) : Bool := match K.lookup a with
  | some ⟨.type c, _, .seq its _, _⟩ => decide (c = "tuple") && (decide (its.size ≤ 100) && strsB zs its.toList)
  | _ => false
theorem tupB_ok {K : PySem.W.Frag} {a : Addr} {zs : List Str} (h : tupB K a zs = true) (H : Hp) : SqT K H a (zs.map V.str) := by
  unfold tupB at h
  split at h
  · rename_i c d its n sl q
    obtain ⟨h1, h2⟩ := Bool.and_eq_true_iff.mp h
    obtain ⟨h2, h3⟩ := Bool.and_eq_true_iff.mp h2
    have e := of_decide_eq_true h1
    exact .inr ⟨_, its, n, q, by rw [e], rfl, Nat.le_trans (of_decide_eq_true h2) (by decide), strsB_ok h3⟩
  · cases h
theorem keys_none {P : Params} {z : Str} : ∀ {l : List DictEntry} {ks : List Str}, l.map He.keyOf = He.keysIn P ks → z ∉ ks → l.find? (·.key.isStr z) = none ∧ l.any (·.refKey) = false
  | [], _, _, _ => ⟨rfl, rfl⟩
  | e :: r, [], h, _ => by cases h
  | e :: r, k :: ks, h, hz => by
    have h1 : He.keyOf e :: r.map He.keyOf = some (k, PyData.keyHash P k) :: He.keysIn P ks := h
    injection h1 with h2 h3
    obtain ⟨i1, i2⟩ := keys_none h3 fun m => hz (List.mem_cons_of_mem _ m)
    unfold He.keyOf at h2
    split at h2
    · rename_i x t q
      obtain ⟨h5, _⟩ := Prod.mk.inj (Option.some.inj h2)
      have ne : (x == z) = false := by
        rw [beq_eq_false_iff_ne, h5]
        exact fun e => hz (e ▸ List.mem_cons_self)
      constructor
      · rw [List.find?_cons]
        have : e.key.isStr z = false := by rw [q]; exact ne
        rw [this]
        exact i1
      · rw [List.any_cons, i2, Bool.or_false]
        unfold DictEntry.refKey
        rw [q]
    · cases h2
theorem ns_none {K : PySem.W.Frag} {w : World} {a : Addr} {ks : List Str} {z : Str} (h : He.dicW K a = some (He.keysIn w.params ks)) (hz : z ∉ ks) : PySem.W.nsIn K a z = some none := by
  obtain ⟨es, n, D⟩ := He.dicW_ok h
  have e := D.at_
  unfold He.dicW at h
  rw [e] at h
  have h1 : (match decide ((("dict" : String)) = "dict") && ((#[] : Array (Option Value)).isEmpty && !(a == sysModules)) with
    | true => some (es.toList.map He.keyOf)
    | false => none) = some (He.keysIn w.params ks) := h
  rw [D.low] at h1
  obtain ⟨i1, i2⟩ := keys_none (Option.some.inj h1) hz
  unfold PySem.W.nsIn
  rw [e]
  show (match es.toList.find? (·.key.isStr z) with
      | some e => some (some e.val)
      | none => if es.toList.any (·.refKey) then none else some none) = some none
  rw [i1]
  show (if es.toList.any (·.refKey) then none else some none) = some none
  rw [i2]
  rfl
theorem tabIn_of {K : PySem.W.Frag} {x : Str} {f c P : Addr} {oc e : Value} {od dd : Option Addr} {fd : FuncData} {osl sl : Array (Option Value)} {vs : Array Value} (h1 : PySem.W.nsIn K mainGlobals x = some (some (.ref f))) (h2 : K.lookup f = some ⟨oc, od, .func fd, osl⟩) (h3 : fd.code = .ref c)
    (h4 : K.lookup c = some ⟨e, dd, .fields vs, sl⟩) (h5 : vs[11]? = some (.ref P)) : PySem.W.tabIn K x = some (c, P) := by
  unfold PySem.W.tabIn
  rw [h1]
  show (match K.lookup f with
    | some ⟨_, _, .func fd, _⟩ => (match fd.code with
      | .ref c => (match K.lookup c with
        | some ⟨_, _, .fields vs, _⟩ => (match (vs[11]? : Option Value) with
          | some (.ref P) => some (c, P)
          | _ => none)
        | _ => none)
      | _ => none)
    | _ => none) = some (c, P)
  rw [h2]
  show (match fd.code with
      | .ref c => (match K.lookup c with
        | some ⟨_, _, .fields vs, _⟩ => (match (vs[11]? : Option Value) with
          | some (.ref P) => some (c, P)
          | _ => none)
        | _ => none)
      | _ => none) = some (c, P)
  rw [h3]
  show (match K.lookup c with
        | some ⟨_, _, .fields vs, _⟩ => (match (vs[11]? : Option Value) with
          | some (.ref P) => some (c, P)
          | _ => none)
        | _ => none) = some (c, P)
  rw [h4]
  show (match (vs[11]? : Option Value) with
          | some (.ref P) => some (c, P)
          | _ => none) = some (c, P)
  rw [h5]
/-- the end of a law that holds lambdas of its own -/
theorem walk_tab {l : PySem.W.OpenLaw} {k : Nat} {q : Program} {loose : List Str} {XP : (Str → Option Value) → Heap → Prop} {YP : World → Heap → Prop} {d : DefRec} {K : Params → PySem.W.Frag} {x : Str}
    (hn : l.most = some 63) (hdf : d.params.defaults = []) (hr : Room k callerA) (hrec : ((recsOf q).any fun e => e.name == d.name) = true) (hY : ∀ (w : World) (h : Heap), YP w h → (K w.params).In h)
    (F : ∀ (w : World) (mg : Str → Option Value) (fa : Addr) (h : Heap), (K w.params).In h → h.Ns mainGlobals mg → mg d.name = some (.ref fa) →
      ∃ (fd : FuncData) (c P : Addr) (sp : Sp), PySem.W.tabIn (K w.params) d.name = some (c, P) ∧ (K w.params).lookup P = none ∧ (∀ (s : Shared) (u : Value), BindsTo s fd ⟨[u], []⟩ [(x, u)]) ∧
        (∀ (H : Hp) (a : Addr) (ns : List Int), ns.length ≤ 63 → H P = some (.tbl #[]) → SqL (K w.params) H a (ns.map V.int) → sp [.ref a] H (fun v _ => v = .bl true) fun _ _ _ => False) ∧
        ∀ base : Heap, (K w.params).In base → base.Ns mainGlobals mg → LamX.TabB base mg c P → FnOk l.prog w (K w.params) mg base CX0 k fa fd [x] sp) :
    PySem.W.WalkO q loose XP YP l.row.toRowW d [] (fun f vs => PySem.call f vs) := by
  refine Att.attach_callB hn hdf fun w s₀ s₁ mg mb fa o pm cd doc a vs ns G Y ho hd hcd hmg hobj hints hlen hbits hg => ?_
  have KX := hY w _ Y
  obtain ⟨fd, c, P, sp, hT, nT, hb, hsp, hF⟩ := F w mg fa _ KX G.T.g hmg
  obtain ⟨dL, hr2⟩ : ∃ dL, (recsOf q).find? (fun e => e.name == d.name) = some dL := by
    have : ((recsOf q).find? (fun e => e.name == d.name)).isSome = true := by
      rw [List.find?_isSome]
      exact List.any_eq_true.mp hrec
    exact Option.isSome_iff_exists.mp this
  obtain ⟨C, hP⟩ := PySem.W.tab_of G.T KX hr2 hT
  have one : ∀ {Pr : Addr × Addr → Prop}, Pr (c, P) → ∀ p ∈ [(c, P)], Pr p := fun h p hp => by
    rw [List.mem_singleton.mp hp]
    exact h
  exact LamX.law_callTs (cs := [(c, P)]) KX G.T.g G.T.b G.T.builtins G.T.nolimit hg (one hP) (one nT) (one C) G.T.bmain hobj hints (Nat.le_trans hlen (by decide)) hr
    (fun base h1 h2 h3 => hF base h1 h2 (h3 _ List.mem_cons_self)) hb (fun H hH hS => hsp H a ns hlen (hH _ List.mem_cons_self) hS) fun H e s' h => h.elim
end MK
set_option Elab.async false
set_option linter.all false
set_option autoImplicit false
set_option maxRecDepth 100000
set_option maxHeartbeats 1000000
/-! len(o), o[x] of own instances -/
namespace MK
open PySem PySem.Spec PyProof.Rows L2
def rLenOwn (C : Addr) (sp : Sp) : List V → Hp → VK → Prop := fun xs H Q => ∃ a dx fs, xs = [.ref a] ∧ H a = some (.ins C dx fs) ∧ sp [.ref a] H (fun v H' => ∃ n : Nat, v = .int n ∧ n < 1000000 ∧ Q (.int n) H') E0
def rIxOwn (C : Addr) (sp : Sp) (E : XK) : R2 := fun x y H Q => ∃ a dx fs, x = .ref a ∧ H a = some (.ins C dx fs) ∧ sp [x, y] H Q E
section
variable {X : Cx} {C f : Addr} {fd : FuncData} {ps : List Str} {k : Nat} {sp : Sp} {CX : CXT} {E : XK}
theorem call_lenOwn (F : FnOk X.prog X.w X.K X.mg X.base CX0 k f fd ps sp) (hs : PySem.W.findIn X.K (.ref C) "__len__" = some (some (.ref f))) (hf : PySem.W.isFn X.K (.ref f) = true) (hb : Binds X.K fd ps []) (hr : Room (k + 1) X.A) : CallR X (.builtin "len") (rLenOwn C sp) := by
  intro pins s σ H xs us Q I r h
  obtain ⟨a, dx, fs, rfl, ha, h⟩ := h
  obtain ⟨u, rfl, ru⟩ := vals1 r
  cases ru
  obtain ⟨mA, J, _⟩ := ins_get I.hok ha
  obtain ⟨od, J, _⟩ := J.look
  obtain ⟨m, hF⟩ := I.fr
  refine PySem.W.len_K hF I.ok.mod.kin J hs hf ?_
  have r2 : Vals [V.ref a] [Value.ref a] := .cons rfl .nil
  have hl : [Value.ref a].length = ps.length := by rw [← r2.length]; exact F.len _ _ _ _ h
  refine wpAny_call (codeAny_mono (F.run X.A.in1 X.stack s H ⟨[.ref a], []⟩ _ _ _ E0 hr.in1 I.env0.in1 (by have := hb s [.ref a] I.kIn (by rw [List.append_nil]; exact hl); rw [List.append_nil] at this; exact this) r2 h) fun r s' hq => ?_)
  cases r with
  | error e => exact False.elim hq
  | ok fl =>
    cases fl with
    | ret u =>
      obtain ⟨v, H1, I1, rz, n, ez, hn, q⟩ := I.after hq
      subst ez
      obtain ⟨t, rfl⟩ := rz
      exact ⟨⟨by omega, by have : (n : Int) < 1000000 := by omega
                           omega⟩, .int n, H1, I1.tok _, ⟨_, rfl⟩, q⟩
    | next => exact False.elim hq
    | brk => exact False.elim hq
    | cont => exact False.elim hq
theorem pe_ixOwn {ea eb : Expr} {ta tb : TE} {pos : Pos} (ha : PE X ea ta) (he : PE X eb tb) (F : FnOk X.prog X.w X.K X.mg X.base CX k f fd ps sp) (hs : PySem.W.findIn X.K (.ref C) "__getitem__" = some (some (.ref f))) (hq : PySem.W.fnIn X.K f = true) (hf : PySem.W.isFn X.K (.ref f) = true) (hb : Binds X.K fd ps []) (hr : Room (k + 1) X.A) (hx : Passes CX X E)
    (hsl : ∀ (x : Addr) (i : Value), subscripted eb true (.ref x) i = runValue (.builtin "lifetime.subscript" ⟨[.ref x, i], []⟩)) : PE X (.Subscript ea eb pos) (tOp (rIxOwn C sp E) ta tb) := by
  refine ⟨fun pins s σ H Q I h => ?_⟩
  refine Subscript_ (binT ha he I h fun v u s2 x y H2 I2 rx ry q => ?_)
  obtain ⟨a, dx, fs, ex, ea', q⟩ := q
  subst ex
  obtain rfl : v = Value.ref a := rx
  obtain ⟨mA, J, _⟩ := ins_get I2.hok ea'
  obtain ⟨od, J, _⟩ := J.look
  obtain ⟨m, hF⟩ := I2.fr
  have r2 : Vals [V.ref a, y] [Value.ref a, u] := .cons rfl (.cons ry .nil)
  have hl : [Value.ref a, u].length = ps.length := by rw [← r2.length]; exact F.len _ _ _ _ q
  have hbd := hb s2 [.ref a, u] I2.kIn (by rw [List.append_nil]; exact hl)
  rw [List.append_nil] at hbd
  refine PySem.W.sub_K hF I2.ok.mod.kin J hs hq hf (wpAny_call (codeAny_mono (F.run X.A.in1 X.stack s2 H2 ⟨[.ref a, u], []⟩ _ _ _ E hr.in1 I2.env0.in1 hbd r2 q) fun r s' hq => ?_)) (hsl a u)
  cases r with
  | error e => exact hx pins σ H2 s2 e s' I2 hq
  | ok fl =>
    cases fl with
    | ret u => exact I2.after hq
    | next => exact False.elim hq
    | brk => exact False.elim hq
    | cont => exact False.elim hq
end
end MK
set_option Elab.async false
set_option linter.all false
set_option autoImplicit false
set_option maxRecDepth 100000
set_option maxHeartbeats 1000000
/-! for x in o, where o's own __iter__ returns the iterator of a dict of its -/
namespace MK
open PySem PySem.Spec PyProof.Rows L2 ItX
/-- what is promised of a def, told with the number of objects that there are when it is called -/
structure FnS (P : Program) (w : World) (K : PySem.W.Frag) (mg : Str → Option Value) (base : Heap) (k : Nat) (f : Addr) (fd : FuncData) (ps : List Str) (sp : Nat → Sp) : Prop where
  len : ∀ n vs H Q, sp n vs H Q E0 → vs.length = ps.length
  run : ∀ (A : Around) (outer : List Env) (s : Shared) (H : Hp) (us : List Value) (vs : List V) (Q : VK), Room k A → Env0 P w K mg base A outer s H → BindsTo s fd ⟨us, []⟩ (ps.zip us) → Vals vs us →
    sp s.heap.objs.size vs H Q E0 → codeAny (model P w) A (.call (.ref f) ⟨us, []⟩) (CR CX0 outer P w H s Q E0) s
theorem fnS_of {P : Program} {w : World} {K : PySem.W.Frag} {mg : Str → Option Value} {base : Heap} {k : Nat} {x qual : Str} {st : Stmt} {f : Addr} {fd : FuncData} {N ps : List Str} {sp : Nat → Sp} (F : Fun K x qual st f fd) (S : FnScope N ps (defScope st))
    (len : ∀ n vs H Q, sp n vs H Q E0 → vs.length = ps.length)
    (hbody : ∀ (cdv : Value) (A : Around) (outer : List Env) (s : Shared) (H : Hp) (vs : List V) (Q : VK), Room k (A.deeper (envOfC qual (defScope st) s.heap.objs.size f cdv)) → sp s.heap.objs.size vs H Q E0 →
      ∃ t, PSs (cxOf CX0 P w K mg base N qual (defScope st) f cdv A outer s H E0).nox (defBody st) t ∧ t { nx := fun _ H' => Q .non H', rt := Q } (start N vs) H) : FnS P w K mg base (k + 1) f fd ps sp := by
  obtain ⟨oc, od, kV, doc, pm, an, cdv, ct, osl, rfl, lk, hcd⟩ := F.ex
  refine ⟨len, fun A outer s H us vs Q hr e0 hb r hsp => ?_⟩
  have nn := len _ _ _ _ hsp
  have kin := e0.mod.kin.keeps fun b o e => (e0.bs b o e).1
  have noL := e0.mod.nolimit.keeps fun b o e => (e0.bs b o e).1
  have kinds : ∀ y ∈ ps.zip us, (defScope st).names.lookup y.1 = some .local ∨
      ((defScope st).names.lookup y.1 = some .cell ∧ ((cellsFrom (s.heap.objs.size + 1) (defScope st).names []).lookup y.1).isSome = true) := by
    rintro ⟨n, v⟩ hy
    rcases S.par n (List.of_mem_zip hy).1 with q | q
    · exact Or.inl q
    · exact Or.inr ⟨q, PySem.W.cellsFrom_some _ _ _ (Or.inl q)⟩
  refine codeAny_call_function hr.depth (kin _ _ lk) rfl S.co S.gen rfl (PySem.W.codeRec_of kin hcd)
    (hb _ _ _ _ ?_)
  refine wpAny_newFunctionEnv_cells S.kind kinds
    fun env he s1 x => ?_
  cases he
  refine ⟨noL.keeps x.toInCall.keep,
    codeAny_func ?_⟩
  obtain ⟨t, ht, hq⟩ := hbody cdv A outer s H vs Q (hr.deeper _) hsp
  have J0 := inv_start (CX := CX0) (E := E0) (qual := qual) (f := f) (cd := cdv)
    S hr.hd e0 nn r x
  refine wpAny_mono (ht.nox.run [] s1 _ H _ J0 hq)
    (fun fl s' hs => ?_) fun e s' hs => hs
  cases fl with
  | ret u =>
    obtain ⟨v, σ', H', J, rv, q⟩ := hs
    exact ⟨v, H', J.os, J.bare, J.base, J.hok, rv, q⟩
  | next =>
    obtain ⟨σ', H', J, q⟩ := hs
    exact ⟨V.non, H', J.os, J.bare, J.base, J.hok, rfl, q⟩
  | brk => exact hs.elim fun _ h => h.elim fun _ h => h.elim fun _ h => h.elim
  | cont => exact hs.elim fun _ h => h.elim fun _ h => h.elim fun _ h => h.elim
/-- a dict's iterator over its keys, new -/
def KitO (it d : Addr) (n ep : Nat) : HO := .ext fun h => h.IsKeyIter it d 0 n ep
theorem kit_ok {P : Program} {w : World} {H : Hp} {h : Heap} {d ep : Nat} {es : Array DictEntry} {n : Nat} (hz : es.size = n) :
    ObjOk P w H (h.push { cls := .type "dict_keyiterator", data := .fields #[.ref d, .int 0 0, .int es.size 0, .int ep 0] }) h.objs.size (KitO h.objs.size d n ep) := by
  refine ⟨?_, ⟨_, Heap.get?_push_size _ rfl⟩, fun h1 h2 x k => ?_⟩
  · refine ⟨_, Heap.get?_push_size _ rfl, rfl, ?_⟩
    rw [hz]
    rfl
  · obtain ⟨o, ho, hc⟩ := x
    exact ⟨o, k o ho, hc⟩
/-- iter(d), d locked -/
def rIterK (n : Nat) : List V → Hp → VK → Prop := fun xs H Q => ∃ (d : Addr) (o : Obj) (kvs : List (Key × V)), xs = [.ref d] ∧ H d = some (.frz o (.dK kvs)) ∧
  ∀ it es ep, o.data = .dict es ep → H it = none → n ≤ it → Q (.ref it) (upd H it (KitO it d kvs.length ep))
section
variable {X : Cx}
theorem call_iterK : CallR X (.builtin "iter") (rIterK X.s_0.heap.objs.size) := by
  intro pins s σ H xs us Q I r h
  obtain ⟨d, o, kvs, rfl, hd, q⟩ := h
  obtain ⟨u, rfl, ru⟩ := vals1 r
  cases ru
  obtain ⟨hs, hgd, hx, es, ep, vs, hdt, hsz, kv, hm⟩ := I.frzK hd
  refine Calls.call_function_entry (by decide +kernel) (by decide +kernel)
    PySem.W.kdk_entry_iter (PySem.W.kdk_args_iter _) ?_
  unfold Builtin.«iter»
  refine wpAny_bind (m := someArgs "iter" 1 2 _)
    (wpAny_of_eq (a := [Value.ref d]) (by first | rfl | kernel_rfl!) ?_)
  show wpAny _ _ (pyIter (.ref d) >>= _) _ _ _
  refine wpAny_bind (iter_keys hs hgd hx hdt ?_)
  refine wpAny_pure ⟨_, rfl, .ref s.heap.objs.size, _, I.laid (t' := s.toks) (fun b u e => Heap.get?_push_of_some _ e) (Nat.le_refl _) ?_, rfl, q _ es ep hdt (I.hok.fresh (Nat.le_refl _)) I.sz⟩
  exact kit_ok hsz
/-- the keys of the dict d of an own instance, through its own __iter__; d is locked -/
def iOwn (C : Addr) (fld : Str) (te : TE) : TI := fun σ H R => te σ H fun x H1 => ∃ (a dx d : Addr) (fs : List (Str × V)) (o : Obj) (kvs : List (Key × V)), x = .ref a ∧ H1 a = some (.ins C dx fs) ∧ fs.lookup fld = some (.ref d) ∧ H1 d = some (.frz o (.dK kvs)) ∧ R (Itk d o kvs) H1
/-- what the own __iter__ promises -/
def spIter (C : Addr) (fld : Str) (n : Nat) : Sp := fun vs H Q _ => ∃ (a dx d : Addr) (fs : List (Str × V)) (o : Obj) (kvs : List (Key × V)), vs = [.ref a] ∧ H a = some (.ins C dx fs) ∧ fs.lookup fld = some (.ref d) ∧ H d = some (.frz o (.dK kvs)) ∧
  ∀ it es ep, o.data = .dict es ep → H it = none → n ≤ it → Q (.ref it) (upd H it (KitO it d kvs.length ep))
theorem pi_own {tg e : Expr} {te : TE} {C f : Addr} {fd : FuncData} {ps : List Str} {fld : Str} {k : Nat} (he : PE X e te) (F : FnS X.prog X.w X.K X.mg X.base k f fd ps (spIter C fld)) (hs : PySem.W.findIn X.K (.ref C) "__iter__" = some (some (.ref f))) (hf : PySem.W.isFn X.K (.ref f) = true) (hb : Binds X.K fd ps []) (hr : Room k X.A) :
    PI X tg e (iOwn C fld te) := by
  refine ⟨fun pins s σ H R I h => ?_⟩
  refine thn (he.run pins s σ H _ I h) fun u s1 ⟨x, H1, I1, rx, a, dx, d, fs, o, kvs, ex, ha, hl, hd, q⟩ => ?_
  subst ex
  obtain rfl : u = Value.ref a := rx
  obtain ⟨mA, J, _⟩ := ins_get I1.hok ha
  obtain ⟨od, J, _⟩ := J.look
  obtain ⟨m, hF⟩ := I1.fr
  have r2 : Vals [V.ref a] [Value.ref a] := .cons rfl .nil
  obtain ⟨hs0, hgd, hx, es, ep, vs, hdt, hsz, kv, hm⟩ := I1.frzK hd
  have hsp : spIter C fld s1.heap.objs.size [.ref a] H1 (fun v H2 => ∃ it, v = .ref it ∧ H1 it = none ∧ s1.heap.objs.size ≤ it ∧ H2 = upd H1 it (KitO it d kvs.length ep)) E0 :=
    ⟨a, dx, d, fs, o, kvs, rfl, ha, hl, hd, fun it es' ep' he' hn hle => ⟨it, rfl, hn, hle, by rw [(dict_ep hdt he').2]⟩⟩
  have hln := F.len _ _ _ _ hsp
  have hbd := hb s1 [.ref a] I1.kIn (by rw [List.append_nil, ← r2.length]; exact hln)
  rw [List.append_nil] at hbd
  refine PySem.W.owit_iter hF I1.ok.mod.kin J hs hf (wpAny_call (codeAny_mono (F.run X.A X.stack s1 H1 [.ref a] _ _ hr I1.env0 hbd r2 hsp) fun r s' hq => ?_))
  cases r with
  | error e => exact False.elim hq
  | ok fl =>
    cases fl with
    | ret u =>
      obtain ⟨v, H2, I2, rz, it, ev, hn, hle, eH⟩ := I1.after hq
      subst ev eH
      obtain rfl : u = Value.ref it := rz
      have hit : upd H1 it (KitO it d kvs.length ep) it = some (KitO it d kvs.length ep) := upd_same
      have st : s'.heap.IsKeyIter it d 0 kvs.length ep := (show ObjOk X.prog X.w _ s'.heap it (KitO it d kvs.length ep) from I2.hok it _ hit).1
      unfold PySem.W.OwitIt
      refine (wpAny_specialOf (name := Str.ofString "__next__") st.typeIs PySem.F.slot_dict_keyiterator_next.lookup ?_)
      have hit' := hit
      unfold KitO at hit'
      have e1 : dropH (upd H1 it (KitO it d kvs.length ep)) it = H1 := by
        funext b
        by_cases z : b = it
        · rw [z, dropH_same, hn]
        · rw [dropH_ne z, upd_ne z]
      have I3 := inv_drop I2 hit'
      rw [e1] at I3
      refine ⟨it, [it], _, Itk d o kvs, H1, rfl, I3, turn_keys it hdt, st, fun b hb => ?_, q⟩
      have e : b = it := by simpa using hb
      rw [e, ← e1]
      exact inv_fp I2 hit (Nat.le_trans I1.sz hle)
    | next => exact False.elim hq
    | brk => exact False.elim hq
    | cont => exact False.elim hq
end
end MK
set_option Elab.async false
set_option linter.all false
set_option autoImplicit false
set_option maxRecDepth 100000
set_option maxHeartbeats 1000000
/-! lists within lists and tuples, by their addresses: what may be changed -/
namespace MK
open PySem PySem.Spec PyProof.Rows L2
def Prim (x : V) : Prop := x = .non ∨ (∃ b, x = .bl b) ∨ (∃ i, x = .int i) ∨ ∃ z, x = .str z
theorem prim_str (z : Str) : Prim (.str z) := .inr (.inr (.inr ⟨z, rfl⟩))
theorem prim_int (i : Int) : Prim (.int i) := .inr (.inr (.inl ⟨i, rfl⟩))
theorem prim_bl (b : Bool) : Prim (.bl b) := .inr (.inl ⟨b, rfl⟩)
/-- item by item, the addresses one behind another -/
def WL (R : V → List Addr → Prop) : List V → List Addr → Prop
  | [], L => L = []
  | x :: xs, L => ∃ L1 L2, L = L1 ++ L2 ∧ R x L1 ∧ WL R xs L2
theorem WL.mono {R S : V → List Addr → Prop} : ∀ {xs : List V} {L : List Addr}, (∀ x ∈ xs, ∀ M, (∀ b ∈ M, b ∈ L) → R x M → S x M) → WL R xs L → WL S xs L
  | [], _, _, h => h
  | x :: xs, L, f, ⟨M1, M2, e, r, h⟩ => ⟨M1, M2, e, f x List.mem_cons_self M1 (fun b hb => by rw [e]; exact List.mem_append_left _ hb) r,
      h.mono fun y hy M hM => f y (List.mem_cons_of_mem _ hy) M fun b hb => by rw [e]; exact List.mem_append_right _ (hM b hb)⟩
theorem WL.snoc {R : V → List Addr → Prop} : ∀ {xs : List V} {L : List Addr} {x : V} {M : List Addr}, WL R xs L → R x M → WL R (xs ++ [x]) (L ++ M)
  | [], L, x, M, h, r => ⟨M, [], by rw [show L = [] from h]; simp, r, rfl⟩
  | y :: ys, L, x, M, ⟨M1, M2, e, r1, h⟩, r => ⟨M1, M2 ++ M, by rw [e, List.append_assoc], r1, h.snoc r⟩
theorem WL.flat {R : V → List Addr → Prop} : ∀ {xs : List V}, (∀ x ∈ xs, R x []) → WL R xs []
  | [], _ => rfl
  | x :: xs, h => ⟨[], [], rfl, h x List.mem_cons_self, WL.flat fun y hy => h y (List.mem_cons_of_mem _ hy)⟩
theorem WL.mem {R : V → List Addr → Prop} : ∀ {xs : List V} {L : List Addr} {b : Addr}, WL R xs L → b ∈ L → ∃ x ∈ xs, ∃ M, R x M ∧ b ∈ M
  | [], L, b, h, hb => by rw [show L = [] from h] at hb; cases hb
  | x :: xs, L, b, ⟨M1, M2, e, r, h⟩, hb => by
    rw [e] at hb
    rcases List.mem_append.mp hb with hb | hb
    · exact ⟨x, List.mem_cons_self, M1, r, hb⟩
    · obtain ⟨y, hy, M, r2, m⟩ := h.mem hb
      exact ⟨y, List.mem_cons_of_mem _ hy, M, r2, m⟩
/-- to depth n, with L the addresses of its lists -/
def W (K : PySem.W.Frag) (H : Hp) : Nat → V → List Addr → Prop
  | 0, x, L => Prim x ∧ L = []
  | n + 1, x, L => (Prim x ∧ L = []) ∨ (∃ a xs Ls, x = .ref a ∧ H a = some (.lst xs) ∧ WL (W K H n) xs Ls ∧ L = a :: Ls ∧ xs.length < 1000) ∨
      (∃ a xs, x = .ref a ∧ SqT K H a xs ∧ WL (W K H n) xs L ∧ xs.length < 1000)
theorem W.prim {K : PySem.W.Frag} {H : Hp} {x : V} (h : Prim x) : ∀ n, W K H n x []
  | 0 => ⟨h, rfl⟩
  | _ + 1 => .inl ⟨h, rfl⟩
def LstAt (L : List Addr) (H : Hp) : Prop := ∀ b ∈ L, ∃ ys, H b = some (.lst ys)
theorem W.lsts {K : PySem.W.Frag} {H : Hp} : ∀ {n : Nat} {x : V} {L : List Addr}, W K H n x L → LstAt L H
  | 0, _, _, ⟨_, e⟩, b, hb => by rw [e] at hb; cases hb
  | n + 1, _, L, h, b, hb => by
    rcases h with ⟨_, e⟩ | ⟨a, xs, Ls, _, ha, hw, e, _⟩ | ⟨a, xs, _, _, hw, _⟩
    · rw [e] at hb; cases hb
    · rw [e] at hb
      rcases List.mem_cons.mp hb with rfl | hb
      · exact ⟨xs, ha⟩
      · obtain ⟨y, hy, M, r, m⟩ := hw.mem hb
        exact W.lsts r b m
    · obtain ⟨y, hy, M, r, m⟩ := hw.mem hb
      exact W.lsts r b m
/-- but for the lists at M all is as it was -/
def Chg (M : List Addr) (H H' : Hp) : Prop := (∀ b o, H b = some o → b ∉ M → H' b = some o) ∧ LstAt M H'
theorem Chg.nil {H H' : Hp} (e : Same H H') : Chg [] H H' := ⟨fun b o h _ => e b o h, nofun⟩
theorem Chg.trans {M N : List Addr} {H H1 H2 : Hp} (a : Chg M H H1) (b : Chg N H1 H2) : Chg (M ++ N) H H2 := by
  refine ⟨fun c o h hc => b.1 c o (a.1 c o h fun z => hc (List.mem_append_left _ z)) fun z => hc (List.mem_append_right _ z), fun c hc => ?_⟩
  by_cases z : c ∈ N
  · exact b.2 c z
  · obtain ⟨ys, h⟩ := a.2 c ((List.mem_append.mp hc).resolve_right z)
    exact ⟨ys, b.1 c _ h z⟩
theorem sqt_chg {K : PySem.W.Frag} {M : List Addr} {H H' : Hp} {a : Addr} {xs : List V} (c : Chg M H H') (l : LstAt M H) (h : SqT K H a xs) : SqT K H' a xs := by
  have no : ∀ {o : HO}, H a = some o → (∀ ys, o ≠ .lst ys) → a ∉ M := fun ha n z => by
    obtain ⟨ys, e⟩ := l a z
    rw [ha] at e
    exact n ys (Option.some.inj e)
  rcases h with (h | ⟨o, h⟩) | h
  · exact .inl (.inl (c.1 _ _ h (no h nofun)))
  · exact .inl (.inr ⟨o, c.1 _ _ h (no h nofun)⟩)
  · exact .inr h
theorem W.chg {K : PySem.W.Frag} {M : List Addr} {H H' : Hp} (c : Chg M H H') (l : LstAt M H) : ∀ {n : Nat} {x : V} {L : List Addr}, W K H n x L → (∀ b ∈ L, b ∉ M) → W K H' n x L
  | 0, _, _, h, _ => h
  | n + 1, _, L, h, d => by
    rcases h with h | ⟨a, xs, Ls, r, ha, hw, e, z⟩ | ⟨a, xs, r, ha, hw, z⟩
    · exact .inl h
    · refine .inr (.inl ⟨a, xs, Ls, r, c.1 _ _ ha (d a (by rw [e]; exact List.mem_cons_self)), hw.mono fun y _ N hN w => W.chg c l w fun b hb => d b (by rw [e]; exact List.mem_cons_of_mem _ (hN b hb)), e, z⟩)
    · exact .inr (.inr ⟨a, xs, r, sqt_chg c l ha, hw.mono fun y _ N hN w => W.chg c l w fun b hb => d b (hN b hb), z⟩)
theorem W.keep {K : PySem.W.Frag} {H H' : Hp} (e : Same H H') {n : Nat} {x : V} {L : List Addr} (h : W K H n x L) : W K H' n x L := h.chg (Chg.nil e) nofun fun _ _ => by simp
theorem prim_t {K : PySem.W.Frag} {H : Hp} {x : V} (h : Prim x) : ∃ t : String, TyX K H x (.type t) ∧ kitB t "list" = some false ∧ kitB t "tuple" = some false := by
  rcases h with rfl | ⟨b, rfl⟩ | ⟨i, rfl⟩ | ⟨z, rfl⟩
  · exact ⟨"NoneType", .base .non, by decide +kernel, by decide +kernel⟩
  · exact ⟨"bool", .base (.bl b), by decide +kernel, by decide +kernel⟩
  · exact ⟨"int", .base (.int i), by decide +kernel, by decide +kernel⟩
  · exact ⟨"str", .base (.str z), by decide +kernel, by decide +kernel⟩
/-- one address alone -/
def One (H : Hp) (a : Addr) : Hp := fun b => if b = a then H b else none
theorem one_at {H : Hp} {a : Addr} : One H a a = H a := if_pos rfl
theorem one_same {H H' : Hp} {a : Addr} (e : ∀ o, H a = some o → H' a = some o) : Same (One H a) H' := fun b o h => by
  unfold One at h
  split at h
  · rename_i q
    subst q
    exact e o h
  · cases h
theorem one_sqt {K : PySem.W.Frag} {H : Hp} {a : Addr} {xs : List V} (h : SqT K H a xs) : SqT K (One H a) a xs := by
  rcases h with (h | ⟨o, h⟩) | h
  · exact .inl (.inl (one_at.trans h))
  · exact .inl (.inr ⟨o, one_at.trans h⟩)
  · exact .inr h
end MK
set_option Elab.async false
set_option linter.all false
set_option autoImplicit false
set_option maxRecDepth 100000
set_option maxHeartbeats 400000
/-! x == y, x of an own class with its own __eq__, y of a built-in type -/
namespace MK
open PySem PySem.Spec PyProof.Rows L2
theorem ty_looks {X : Cx} {pins : List (Addr × Obj)} {σ : L2.St} {H : Hp} {s : Shared} {M : Model} {x : V} {u : Value} {t : String} (I : Inv X pins σ H s) (rx : RelV x u) (ty : TyOf X.K H x (.type t)) : PySem.W.Looks M s.heap (typeOf u) (.type t) := by
  have heapT : ∀ {a : Addr} {o : Obj} {t : String}, s.heap.get? a = some o → o.cls = .type t → PySem.W.Looks M s.heap (typeOf (.ref a)) (.type t) := fun h1 h2 => h2 ▸ (PySem.W.Looks.ld h1).andThen .now
  cases ty with
  | non =>
    cases (show u = Value.none from rx)
    exact .of_pure rfl
  | bl y =>
    cases (show u = Value.bool y from rx)
    exact .of_pure rfl
  | int i =>
    obtain ⟨t, q⟩ := (show ∃ t, u = Value.int i t from rx)
    cases q
    exact .of_pure rfl
  | str y =>
    obtain ⟨t, q⟩ := (show ∃ t, u = Value.str y t from rx)
    cases q
    exact .of_pure rfl
  | flt y =>
    obtain ⟨t, q⟩ := (show ∃ t, u = Value.float y t from rx)
    cases q
    exact .of_pure rfl
  | @lst a xs ea =>
    cases (show u = Value.ref a from rx)
    obtain ⟨_, _, n, _, h1⟩ := (show ObjOk X.prog X.w H s.heap a (.lst xs) from I.hok a _ ea)
    exact heapT h1 rfl
  | @frz a ob xs ea =>
    cases (show u = Value.ref a from rx)
    obtain ⟨_, _, _, n, _, h1⟩ := (show ObjOk X.prog X.w H s.heap a (.frz ob (.lst xs)) from I.hok a _ ea)
    exact heapT h1 rfl
  | @tup a xs ea =>
    cases (show u = Value.ref a from rx)
    obtain ⟨_, _, _, p⟩ := (show ObjOk X.prog X.w H s.heap a (.tup xs) from I.hok a _ ea)
    obtain ⟨o, h1, h2, _⟩ := p
    exact heapT h1 h2
  | @dK a kvs ea =>
    cases (show u = Value.ref a from rx)
    obtain ⟨_, _, vs, _, p⟩ := (show ObjOk X.prog X.w H s.heap a (.dK kvs) from I.hok a _ ea)
    obtain ⟨o, es, ep, h1, h2, _⟩ := p
    exact heapT h1 h2.1
  | @dT a kvs ea =>
    cases (show u = Value.ref a from rx)
    obtain ⟨_, _, xs, _, o, es, ep, h1, h2, _⟩ := (show ObjOk X.prog X.w H s.heap a (.dT kvs) from I.hok a _ ea)
    exact heapT h1 h2.1
def rEqOdd (K : PySem.W.Frag) (C : Addr) (sp : Sp) : R2 := fun x y H Q => ∃ (a dx : Addr) (fs : List (Str × V)) (t : String), x = .ref a ∧ H a = some (.ins C dx fs) ∧ TyOf K H y (.type t) ∧ PySem.W.notFirst K C (.type t) = true ∧ sp [x, y] H (fun v H' => ∃ r, v = .bl r ∧ Q v H') E0
theorem op_eqOdd {X : Cx} {C f : Addr} {fd : FuncData} {ps : List Str} {k : Nat} {sp : Sp} (F : FnOk X.prog X.w X.K X.mg X.base CX0 k f fd ps sp) (hs : PySem.W.findIn X.K (.ref C) "__eq__" = some (some (.ref f))) (hf : PySem.W.isFn X.K (.ref f) = true) (hb : Binds X.K fd ps []) (hr : Room k X.A) :
    OpR X (compareOp .Eq) (rEqOdd X.K C sp) := by
  intro pins s σ H x y v u Q I rx ry ⟨a, dx, fs, t, ex, ha, ty, nf, h⟩
  subst ex
  obtain rfl : v = Value.ref a := rx
  obtain ⟨mA, J, _⟩ := ins_get I.hok ha
  obtain ⟨od, J, _⟩ := J.look
  obtain ⟨m, hF⟩ := I.fr
  refine PySem.W.cmp_K (op := .Eq) (tb := .type t) hr.units0 hF I.ok.mod.kin J (ty_looks I ry ty) nf hs hf ?_
  have r2 : Vals [V.ref a, y] [Value.ref a, u] := .cons rfl (.cons ry .nil)
  refine thn (run_fn F hr hb .nil pass0 I r2 h) fun w s1 ⟨z, H1, I1, rz, r, ez, q⟩ => ?_
  subst ez
  cases rz
  exact ⟨.bl r, H1, I1, rfl, q⟩
end MK
set_option Elab.async false
set_option linter.all false
set_option autoImplicit false
set_option maxRecDepth 100000
set_option maxHeartbeats 4000000
namespace MK
open PySem PySem.Spec PyProof.Rows L2
local macro_rules | `(tactic| walk_at "x") => `(tactic| dsimp only [tSeq, tAsg, tRet, tDrop, tLst, tTup, tCons, tOp, tUn, tIfS])
def topS (i : Nat) : Stmt := PySem.Challenge.pw_makerlines_k02_kinds_told.main.body.getD i (.Pass ⟨0, 0, 0, 0⟩)
structure Txt (K : PySem.W.Frag) (mg : Str → Option Value) : Prop where
  len : mg "len" = none
  int : mg "int" = none
  enumerate : mg "enumerate" = none
  list : mg "list" = none
  tuple : mg "tuple" = none
  isinstance : mg "isinstance" = none
  range : mg "range" = none
  all : mg "all" = none
  zip : mg "zip" = none
  ValueError : mg "ValueError" = none
  bool : mg "bool" = none
  str : mg "str" = none
  set : mg "set" = none
  any : mg "any" = none
/-- what stands at the names of the program's own constants -/
structure Cst where
  sorts : Addr
  hands : Addr
  sod : Addr
  wd : Addr
  lwd : Addr
def sodOf (z : Str) : Option (List Str) :=
  if z = "set" then some ["one"] else if z = "add" then some ["many"] else if z = "strike" then some ["many"] else if z = "fresh" then some ["many"] else if z = "clear" then some ["one", "many"] else none
structure Csts (K : PySem.W.Frag) (w : World) (mg : Str → Option Value) (C : Cst) : Prop where
  MOST_LETTERS : ∃ u, mg "MOST_LETTERS" = some u ∧ RelV (.int 8) u
  MOST_FIELDS : ∃ u, mg "MOST_FIELDS" = some u ∧ RelV (.int 3) u
  MOST_MODES : ∃ u, mg "MOST_MODES" = some u ∧ RelV (.int 4) u
  MOST_CALLS : ∃ u, mg "MOST_CALLS" = some u ∧ RelV (.int 6) u
  MOST_DEEDS : ∃ u, mg "MOST_DEEDS" = some u ∧ RelV (.int 4) u
  SORTS : ∃ u, mg "SORTS" = some u ∧ RelV (.ref C.sorts) u
  HANDS : ∃ u, mg "HANDS" = some u ∧ RelV (.ref C.hands) u
  SORTS_OF_DEEDS : ∃ u, mg "SORTS_OF_DEEDS" = some u ∧ RelV (.ref C.sod) u
  WORD_DEEDS : ∃ u, mg "WORD_DEEDS" = some u ∧ RelV (.ref C.wd) u
  LIST_WORD_DEEDS : ∃ u, mg "LIST_WORD_DEEDS" = some u ∧ RelV (.ref C.lwd) u
  t_sorts : ∀ H, SqT K H C.sorts [.str "one", .str "many"]
  t_hands : ∀ H, SqT K H C.hands [.str "self", .str "new", .str "last"]
  t_wd : ∀ H, SqT K H C.wd [.str "set", .str "add", .str "strike"]
  t_lwd : ∀ H, SqT K H C.lwd [.str "add", .str "strike"]
  sodD : ∃ es n, KDict K w C.sod es n
  sodN : ∀ z : Str, (PySem.W.nsIn K C.sod z = some none ∧ sodOf z = none) ∨ ∃ a l, PySem.W.nsIn K C.sod z = some (some (.ref a)) ∧ sodOf z = some l ∧ ∀ H, SqT K H a (l.map V.str)
/-! ### the draws of a law: the state is a list at s, its cells a list at c -/
abbrev s_fresh : Stmt := topS 52
theorem sc_fresh : FnScope ["_law_script"] ["_law_script"] (defScope s_fresh) := ⟨rfl, rfl, rfl, by decide +kernel, rfl, by decide +kernel, by decide +kernel⟩
abbrev s_fill : Stmt := topS 53
theorem sc_fill : FnScope ["_law_state", "_law_cells", "_law_nth", "_law_seed", "_law_k", "_law_prime", "_law_far"] ["_law_state"] (defScope s_fill) := ⟨rfl, rfl, rfl, by decide +kernel, rfl, by decide +kernel, by decide +kernel⟩
abbrev s_take : Stmt := topS 54
theorem sc_take : FnScope ["_law_state", "_law_many", "_law_laps", "_law_digit"] ["_law_state", "_law_many"] (defScope s_take) := ⟨rfl, rfl, rfl, by decide +kernel, rfl, by decide +kernel, by decide +kernel⟩
abbrev s_one : Stmt := topS 55
theorem sc_one : FnScope ["_law_state", "_law_things"] ["_law_state", "_law_things"] (defScope s_one) := ⟨rfl, rfl, rfl, by decide +kernel, rfl, by decide +kernel, by decide +kernel⟩
/-- the state of the draws: at s, its cells ns at c -/
def StA (H : Hp) (s c : Addr) (ns : List Int) : Prop := c ≠ s ∧ H c = some (.lst (ns.map V.int)) ∧ ∃ (a b : Int) (m : Bool), H s = some (.lst [.ref c, .int a, .int b, .bl m])
theorem StA.keep {H H' : Hp} {s c : Addr} {ns : List Int} (x : StA H s c ns) (e : Same H H') : StA H' s c ns := by
  obtain ⟨n, h1, a, b, m, h2⟩ := x
  exact ⟨n, e _ _ h1, a, b, m, e _ _ h2⟩
theorem cut63 (ns : List Int) (h : ns.length ≤ 63) : cutV (ns.map V.int) none (some 63) = ns.map V.int := by
  have e : HT.sIx (ns.map V.int).length (ns.map V.int).length (some 63) = min 63 (ns.map V.int).length := HT.sIx_nat _ _ 63
  unfold cutV
  rw [HT.sIx_none, e, List.drop_zero, Nat.sub_zero]
  exact List.take_of_length_le (by rw [List.length_map]; omega)
def primes : List V := [.int 2147483647, .int 2147483629, .int 2147483587, .int 2147483579, .int 2147483563]
theorem primes_ok {i : Nat} {y : V} (h : primes[i]? = some y) : ∃ p : Int, y = .int p ∧ 0 < p ∧ p < 4294967296 := by
  have m := List.mem_of_getElem? h
  simp only [primes, List.mem_cons, List.not_mem_nil, or_false] at m
  rcases m with rfl | rfl | rfl | rfl | rfl <;> exact ⟨_, rfl, by decide, by decide⟩
def spFresh (K : PySem.W.Frag) : Sp := fun vs H Q _ => ∃ (a : Addr) (ns : List Int), vs = [.ref a] ∧ SqL K H a (ns.map V.int) ∧ ns.length ≤ 63 ∧
  ∀ s c H', Same H H' → H s = none → H c = none → StA H' s c ns → Q (.ref s) H'
def spFill : Sp := fun vs H Q _ => ∃ (s c : Addr) (ns : List Int), vs = [.ref s] ∧ StA H s c ns ∧ ns.length ≤ 63 ∧ ∀ H', SameX s H H' → StA H' s c ns → Q .non H'
def spTake : Sp := fun vs H Q _ => ∃ (s c : Addr) (ns : List Int) (n : Int), vs = [.ref s, .int n] ∧ StA H s c ns ∧ ns.length ≤ 63 ∧ 0 < n ∧ n < 1000000 ∧
  ∀ (d : Nat) H', (d : Int) < n → SameX s H H' → StA H' s c ns → Q (.int d) H'
def spOne (K : PySem.W.Frag) : Sp := fun vs H Q _ => ∃ (s c l : Addr) (ns : List Int) (xs : List V), vs = [.ref s, .ref l] ∧ StA H s c ns ∧ ns.length ≤ 63 ∧ l ≠ s ∧ (SqL K H l xs ∨ SqT K H l xs) ∧ 0 < xs.length ∧ xs.length < 1000000 ∧
  ∀ (d : Nat) (x : V) H', xs[d]? = some x → SameX s H H' → StA H' s c ns → Q x H'
section
variable {P : Program} {w : World} {K : PySem.W.Frag} {mg : Str → Option Value} {base : Heap}
theorem ok_fresh {f : Addr} {fd : FuncData} (F : DefX K mg "_law_fresh" s_fresh ["_law_script"] f fd) (T : Txt K mg) : Cal P w K mg base CX0 1 "_law_fresh" (spFresh K) := by
  refine cal_mk F sc_fresh (fun vs H Q E h => ?_) (fun cdv A outer s H vs Q E hr h => ?_)
  · obtain ⟨a, ns, rfl, _⟩ := h
    rfl
  · obtain ⟨a, ns, rfl, hs, hl, k⟩ := h
    refine ⟨_, (pss_one (ps_ret (pe_lst (pa_cons (pe_slice sl_list (pv 0) po_none (po_some pe_int)) (pa_cons pe_int (pa_cons pe_int (pa_cons pe_bl pa_nil))))))), ?_⟩
    refine ⟨_, rfl, _, rfl, a, _, rfl, hs, fun c hc => ⟨(by show 4 ≤ sizeLine; decide), fun t ht => ?_⟩⟩
    rw [cut63 ns hl] at ht ⊢
    obtain ⟨tc, htn⟩ := upd_none ht
    refine k t c _ (same_new (same_new (Same.refl H) hc) ht) htn hc ⟨tc.symm, ?_, 0, 0, false, upd_same⟩
    rw [upd_ne tc.symm, upd_same]
theorem ok_fill {f : Addr} {fd : FuncData} (F : DefX K mg "_law_fill" s_fill ["_law_state"] f fd) (T : Txt K mg) : Cal P w K mg base CX0 1 "_law_fill" spFill := by
  refine cal_mk F sc_fill (fun vs H Q E h => ?_) (fun cdv A outer s H vs Q E hr h => ?_)
  · obtain ⟨s, c, ns, rfl, _⟩ := h
    rfl
  · obtain ⟨s, c, ns, rfl, ⟨cs, hc, a, b, m, hs⟩, hl, k⟩ := h
    refine ⟨_, (pss_cons (ps_par (i := 1) (j := 2) (by rfl) sc_fill.nd rfl rfl (by decide) rfl rfl (pa_cons (pe_ix ix_list (pv 0) pe_int (fun _ _ => rfl)) (pa_cons (pe_ix ix_list (pv 0) pe_int (fun _ _ => rfl)) pa_nil)) (by rfl))
(pss_cons (ps_set (i := 3) sc_fill.nd rfl (Or.inl rfl) (pe_op op_add (pe_op op_mul pe_int (pv 2)) pe_int))
(pss_cut (ps_if (pt_cmpR op_gt (pe_callB call_len_seq (by rfl) T.len (by decide +kernel) (pa_cons (pv 1) pa_nil)) pe_int (nomark _))
(pss_one (ps_set (i := 3) sc_fill.nd rfl (Or.inl rfl) (pe_op op_add (pe_op op_mul pe_int (pe_op op_fdivN (pv 2) (pe_callB call_len_seq (by rfl) T.len (by decide +kernel) (pa_cons (pv 1) pa_nil)))) (pe_ix ix_list (pv 1) (pe_op op_modN (pe_callTy call_int1 (by rfl) T.int (by decide +kernel) (pa_cons (pv 2) pa_nil)) (pe_callB call_len_seq (by rfl) T.len (by decide +kernel) (pa_cons (pv 1) pa_nil))) (fun _ _ => rfl)))))
pss_nil)
(pss_cons (ps_asg (pe_op op_add (pv 2) pe_int) (pg_sub (pv 0) pe_int set_list))
(pss_cons (ps_asg (pe_cut (pe_or (pe_cmpR op_ge (pv 2) (pe_callB call_len_seq (by rfl) T.len (by decide +kernel) (pa_cons (pv 1) pa_nil)) (nomark _)) (pe_one (pe_cmpR op_lt (pv 3) (pe_op op_pow pe_int pe_int) (nomark _))))) (pg_sub (pv 0) pe_int set_list))
(pss_cons (ps_asg (pe_op op_sub (pv 3) (pe_op op_pow pe_int pe_int)) (pg_sub (pv 0) pe_int set_list))
(pss_one (ps_if (pt_val (pe_ix ix_list (pv 0) pe_int (fun _ _ => rfl)))
(pss_cons (ps_asg pe_int (pg_sub (pv 0) pe_int set_list))
(pss_one (ps_for PassesOwn.never rfl (pi_enumT (by rfl) T.enumerate (pa_cons (pe_tup (pa_cons pe_int (pa_cons pe_int (pa_cons pe_int (pa_cons pe_int (pa_cons pe_int pa_nil)))))) pa_nil)) (pg_tup (by rfl) (pgs_cons (pg_name (i := 4) sc_fill.nd rfl (Or.inl rfl)) (pgs_cons (pg_name (i := 5) sc_fill.nd rfl (Or.inl rfl)) pgs_nil)))
(pss_cons (ps_set (i := 6) sc_fill.nd rfl (Or.inl rfl) (pe_op op_modN (pe_callTy call_int1 (by rfl) T.int (by decide +kernel) (pa_cons (pe_op op_mul (pe_op op_add (pe_op op_add (pv 3) (pe_op op_mul (pe_op op_mul pe_int (pv 4)) (pv 4))) (pe_op op_mul pe_int (pv 4))) (pe_op op_add pe_int (pe_op op_mul pe_int (pv 4)))) pa_nil)) (pv 5)))
(pss_one (ps_asg (pe_op op_add (pe_op op_mul (pe_ix ix_list (pv 0) pe_int (fun _ _ => rfl)) (pv 5)) (pe_op op_modN (pe_callTy call_int1 (by rfl) T.int (by decide +kernel) (pa_cons (pe_op op_pow (pv 6) pe_int) pa_nil)) (pv 5))) (pg_sub (pv 0) pe_int set_list)))))))
pss_nil)))))))), ?_⟩
    have sq : ∀ {H' : Hp}, SameX s H H' → SqL K H' c (ns.map V.int) := fun e => .inl (.inl (e _ _ hc cs))
    have kd : ∀ (H' : Hp) (b' : Int) (m' : Bool) (a' : Int), SameX s H H' → H' s = some (.lst [.ref c, .int a', .int b', .bl m']) → Q .non H' := fun H' b' m' a' e h => k H' e ⟨cs, e _ _ hc cs, a', b', m', h⟩
    -- cells, nth = state[0], state[1]
    refine ⟨_, rfl, s, _, 0, .ref c, rfl, rfl, SqL.of hs, rfl, _, rfl, s, _, 1, .int a, rfl, rfl, SqL.of hs, rfl, _, _, rfl, ?_⟩
    refine ⟨_, rfl, _, _, rfl, rfl, .inl (by decide), _, _, rfl, rfl, ?_⟩
    -- the seed is some int
    refine ⟨fun σ' H' => H' = H ∧ ∃ z : Int, σ' = [some (.ref s), some (.ref c), some (.int a), some (.int z), none, none, none], ?_, ?_⟩
    · refine ⟨_, rfl, c, _, rfl, .inl (sq (SameX.refl s H)), _, _, rfl, rfl, _, rfl, ?_⟩
      refine ite2 (fun hp => ?_) (fun hn => ?_)
      · have hpos : 0 < ns.length := by
          have q : (0 : Int) < ((ns.map V.int).length : Int) := of_decide_eq_true hp
          rw [List.length_map] at q
          omega
        have hne : ((ns.map V.int).length : Int) ≠ 0 := by rw [List.length_map]; omega
        have hsm : ((ns.map V.int).length : Int).natAbs < 1073741824 := by rw [List.length_map]; omega
        have sq0 := sq (SameX.refl s H)
        obtain ⟨v, hv⟩ : ∃ v, atI (ns.map V.int) (a.fmod ((ns.map V.int).length : Int)) = some (V.int v) := by
          have h0 := Int.fmod_nonneg_of_pos a (b := ((ns.map V.int).length : Int)) (by rw [List.length_map]; omega)
          have h1 := Int.fmod_lt_of_pos a (b := ((ns.map V.int).length : Int)) (by rw [List.length_map]; omega)
          obtain ⟨j, hj⟩ := Int.eq_ofNat_of_zero_le h0
          rw [hj] at h1 ⊢
          rw [List.length_map] at h1
          have hjl : j < ns.length := by omega
          exact ⟨ns[j], atI_nat (by rw [List.getElem?_map, List.getElem?_eq_getElem hjl]; rfl)⟩
        refine ⟨_, rfl, _, rfl, c, _, rfl, .inl sq0, _, _, rfl, rfl, ⟨hne, hsm⟩, _, _, rfl, rfl, .inl (by decide), ?_⟩
        refine ⟨_, rfl, _, rfl, .inl ⟨_, rfl, _, rfl, c, _, rfl, .inl sq0, _, _, rfl, rfl, hne, ?_⟩⟩
        exact ⟨c, _, _, _, rfl, rfl, sq0, hv, _, _, rfl, rfl, rfl, _, rfl⟩
      · exact ⟨rfl, _, rfl⟩
    · rintro σ' H' ⟨rfl, z, rfl⟩
      have e1 : SameX s H' (upd H' s (.lst [.ref c, .int (a + 1), .int b, .bl m])) := (SameX.refl s H').put
      -- state[1] = nth + 1; state[3] = ..
      refine ⟨_, rfl, _, _, rfl, rfl, _, rfl, s, _, 1, 1, rfl, rfl, hs, rfl, ?_⟩
      refine ⟨fun v H2 => H2 = _ ∧ ∃ d : Bool, v = .bl d, ⟨_, rfl, _, rfl, c, _, rfl, .inl (sq e1), _, _, rfl, rfl, _, rfl, ite2 (fun _ => ⟨rfl, _, rfl⟩) (fun _ => ?_)⟩, ?_⟩
      · exact ⟨_, rfl, _, _, rfl, rfl, ⟨by decide, by decide, by decide⟩, _, _, rfl, rfl, rfl, _, rfl⟩
      rintro _ _ ⟨rfl, d, rfl⟩
      refine ⟨_, rfl, s, _, 3, 3, rfl, rfl, upd_same, rfl, ?_⟩
      rw [upd_upd]
      -- state[2] = seed - 10 ** 18
      refine ⟨_, rfl, _, _, rfl, rfl, ⟨by decide, by decide, by decide⟩, _, _, rfl, rfl, _, rfl, s, _, 2, 2, rfl, rfl, upd_same, rfl, ?_⟩
      rw [upd_upd]
      refine ⟨_, rfl, s, _, 3, .bl d, rfl, rfl, SqL.of upd_same, rfl, d, rfl, ite2 (fun _ => ?_) (fun _ => ?_)⟩
      · -- mixed
        refine ⟨_, rfl, s, _, 2, 2, rfl, rfl, upd_same, rfl, ?_⟩
        rw [upd_upd]
        refine ⟨by show 5 ≤ sizeLine; decide, fun t ht => ⟨t, _, rfl, SqT.of upd_same, ?_⟩⟩
        obtain ⟨ts, ht'⟩ := upd_none ht
        refine for_it walk_enumT (fun i σ H2 => SameX s H' H2 ∧ H2 t = some (.tup primes) ∧ (∃ b2 : Int, H2 s = some (.lst [.ref c, .int (a + 1), .int b2, .bl d])) ∧ ∃ x4 x5 x6, σ = [some (.ref s), some (.ref c), some (.int a), some (.int z), x4, x5, x6])
          ⟨((SameX.refl s H').put).new ht, upd_same, ⟨0, (upd_ne ts.symm).trans upd_same⟩, none, none, none, rfl⟩ (fun i σ H2 _ q => SqT.of q.2.1) ?_ ?_
        · rintro i x σ H2 H3 hi ⟨e2, e3, ⟨b2, e4⟩, x4, x5, x6, rfl⟩ ⟨U, _, y, rfl, hU, rfl, h1, hy⟩
          obtain rfl := Option.some.inj h1
          obtain ⟨p, rfl, p0, p1⟩ := primes_ok (i := i) hy
          have us : s ≠ U := fun q => by rw [q, hU] at e4; cases e4
          refine ⟨U, _, rfl, SqT.of upd_same, rfl, _, _, rfl, _, _, rfl, rfl, ?_⟩
          have hf0 : p ≠ 0 := by omega
          have hi5 : i < 5 := hi
          -- far
          refine ⟨_, rfl, _, rfl, _, _, rfl, rfl, .inl (by decide), _, rfl, _, _, rfl, rfl, .inr (by omega), _, _, rfl, rfl, _, rfl, _, _, rfl, rfl, .inl (by decide), _, _, rfl, rfl, ?_⟩
          refine ⟨_, rfl, _, _, rfl, rfl, .inl (by decide), _, _, rfl, rfl, _, _, rfl, rfl, .inr (by omega), .inl ⟨_, rfl, _, rfl, _, _, rfl, rfl, hf0, ?_⟩⟩
          have f0 := Int.fmod_nonneg_of_pos ((z + 10007 * (i : Int) * (i : Int) + 101 * (i : Int)) * (48271 + 2 * (i : Int))) (b := p) (by omega)
          have f1 := Int.fmod_lt_of_pos ((z + 10007 * (i : Int) * (i : Int) + 101 * (i : Int)) * (48271 + 2 * (i : Int))) (b := p) (by omega)
          have e5 : upd H2 U (.tup [.int (i : Nat), .int p]) s = some (.lst [.ref c, .int (a + 1), .int b2, .bl d]) := by rw [upd_ne us]; exact e4
          refine ⟨_, rfl, s, _, 2, .int b2, rfl, rfl, SqL.of e5, rfl, _, rfl, _, _, rfl, rfl, .inr (by omega), ?_⟩
          refine ⟨_, rfl, _, _, rfl, rfl, ⟨by decide, by decide, by omega⟩, .inl ⟨_, rfl, _, rfl, _, _, rfl, rfl, hf0, _, _, rfl, rfl, _, rfl, s, _, 2, 2, rfl, rfl, e5, rfl, ?_⟩⟩
          have tU : t ≠ U := fun q => by rw [q, hU] at e3; cases e3
          exact ⟨(e2.new hU).put, by rw [upd_ne ts, upd_ne tU]; exact e3, ⟨_, upd_same⟩, _, _, _, rfl⟩
        · rintro σ H2 ⟨e2, _, ⟨b2, e4⟩, _⟩
          exact kd _ _ _ _ e2 e4
      · exact kd _ _ _ _ (SameX.refl s H').put upd_same
def lapsOf (σ : L2.St) (_ : Hp) : Nat := match (σ[2]? : Option (Option V)) with
  | some (some (V.int l)) => (64 - l).toNat
  | _ => 0
theorem ok_take {f : Addr} {fd : FuncData} (F : DefX K mg "_law_take" s_take ["_law_state", "_law_many"] f fd) (T : Txt K mg) (c_fill : Cal P w K mg base CX0 1 "_law_fill" spFill) : Cal P w K mg base CX0 2 "_law_take" spTake := by
  refine cal_mk F sc_take (fun vs H Q E h => ?_) (fun cdv A outer s H vs Q E hr h => ?_)
  · obtain ⟨s, c, ns, n, rfl, _⟩ := h
    rfl
  · obtain ⟨s, c, ns, n, rfl, h0, hl, n0, n1, k⟩ := h
    refine ⟨_, (pss_cons (ps_set (i := 2) sc_take.nd rfl (Or.inl rfl) pe_int)
(pss_cons (ps_while PassesOwn.never (pt_cut (PW.pt (pw_and (pt_cmpR op_lt (pv 2) pe_int (nomark _)) (pw_and1 (pt_cut (PW.pt (pw_or (pt_cmpR op_eq (pe_ix ix_list (pv 0) pe_int (fun _ _ => rfl)) pe_int (nomark _)) (pw_or1 (pt_cut (PW.pt (pw_and (pt_val (pe_ix ix_list (pv 0) pe_int (fun _ _ => rfl))) (pw_and1 (pt_cmpR op_lt (pe_ix ix_list (pv 0) pe_int (fun _ _ => rfl)) (pe_op op_mul (pv 1) pe_int) (nomark _))))))))))))))
(pss_cons (ps_expr (pe_c c_fill hr (by first | decide | assumption) rfl (pa_cons (pv 0) pa_nil)))
(pss_cons (ps_aug (i := 2) sc_take.nd rfl (Or.inl rfl) pe_int ip_add)
(pss_one (ps_if (pt_cut (PW.pt (pw_and (pt_val (pe_ix ix_list (pv 0) pe_int (fun _ _ => rfl))) (pw_and1 (pt_cmpR op_lt (pe_ix ix_list (pv 0) pe_int (fun _ _ => rfl)) (pe_op op_mul (pv 1) pe_int) (nomark _))))))
(pss_one (ps_asg (pe_op op_add (pe_ix ix_list (pv 0) pe_int (fun _ _ => rfl)) (pe_op op_mul (pe_op op_mul (pv 1) pe_int) (pe_op op_add pe_int (pe_op op_modN (pe_callTy call_int1 (by rfl) T.int (by decide +kernel) (pa_cons (pe_ix ix_list (pv 0) pe_int (fun _ _ => rfl)) pa_nil)) pe_int)))) (pg_sub (pv 0) pe_int set_list)))
pss_nil)))))
(pss_cons (ps_set (i := 3) sc_take.nd rfl (Or.inl rfl) (pe_op op_modN (pe_callTy call_int1 (by rfl) T.int (by decide +kernel) (pa_cons (pe_ix ix_list (pv 0) pe_int (fun _ _ => rfl)) pa_nil)) (pv 1)))
(pss_cons (ps_asg (pe_op op_fdivN (pe_ix ix_list (pv 0) pe_int (fun _ _ => rfl)) (pv 1)) (pg_sub (pv 0) pe_int set_list))
(pss_one (ps_ret (pv 3))))))), ?_⟩
    show tWhile _ _ _ [some (.ref s), some (.int n), some (.int 0), none] H
    refine while_by (fun σ H2 => SameX s H H2 ∧ StA H2 s c ns ∧ ∃ l : Int, σ = [some (.ref s), some (.int n), some (.int l), none]) lapsOf ⟨SameX.refl s H, h0, 0, rfl⟩ ?_ (fun σ H Q Q' h x => ?_)
    · rintro σ H2 ⟨e2, ⟨cs, hc, a, b, m, hs⟩, l, rfl⟩
      refine ⟨fun t H3 => H3 = H2 ∧ (t = true → l < 64), ?_, ?_⟩
      · refine ⟨_, rfl, _, _, rfl, rfl, _, rfl, ite2 (fun h1 => ?_) (fun h1 => ⟨rfl, fun h => nomatch h⟩)⟩
        have hl64 : l < 64 := of_decide_eq_true h1
        refine ⟨fun t H3 => H3 = H2, ⟨_, rfl, s, _, 2, _, rfl, rfl, SqL.of hs, rfl, rfl, _, rfl, ite2 (fun _ => rfl) (fun _ => ?_)⟩, fun t H3 e => ⟨e, fun _ => hl64⟩⟩
        refine ⟨fun t H3 => H3 = H2, ⟨_, rfl, s, _, 3, _, rfl, rfl, SqL.of hs, rfl, m, rfl, ite2 (fun _ => ?_) (fun _ => rfl)⟩, fun t H3 e => e⟩
        exact ⟨_, rfl, s, _, 2, _, rfl, rfl, SqL.of hs, rfl, _, rfl, _, _, rfl, rfl, .inr (by decide), _, _, rfl, rfl, _, rfl, rfl⟩
      · rintro t H3 ⟨rfl, ht⟩
        refine ite2 (fun h1 => ?_) (fun h1 => ?_)
        · have hl64 := ht h1
          have dec : ∀ x : Option V, lapsOf [some (.ref s), some (.int n), some (.int (l + 1)), x] H3 < lapsOf [some (.ref s), some (.int n), some (.int l), none] H3 := fun x => by
            show (64 - (l + 1)).toNat < (64 - l).toNat
            omega
          refine ⟨_, rfl, s, c, ns, rfl, ⟨cs, hc, a, b, m, hs⟩, hl, fun H4 e4 h4 => ?_⟩
          obtain ⟨_, hc4, a4, b4, m4, hs4⟩ := id h4
          refine ⟨_, rfl, _, _, rfl, rfl, ?_⟩
          refine ⟨fun t H5 => H5 = H4, ⟨_, rfl, s, _, 3, _, rfl, rfl, SqL.of hs4, rfl, m4, rfl, ite2 (fun _ => ?_) (fun _ => rfl)⟩, ?_⟩
          · exact ⟨_, rfl, s, _, 2, _, rfl, rfl, SqL.of hs4, rfl, _, rfl, _, _, rfl, rfl, .inr (by decide), _, _, rfl, rfl, _, rfl, rfl⟩
          rintro t5 H5 rfl
          refine ite2 (fun _ => ?_) (fun _ => ?_)
          · refine ⟨_, rfl, s, _, 2, _, rfl, rfl, SqL.of hs4, rfl, _, rfl, _, _, rfl, rfl, .inr (by decide), ?_⟩
            refine ⟨_, rfl, s, _, 2, _, rfl, rfl, SqL.of hs4, rfl, .inl ⟨_, rfl, _, _, rfl, rfl, (by show (4093 : Int) ≠ 0; decide), _, _, rfl, rfl, _, _, rfl, rfl, .inl ?_, _, _, rfl, rfl, ?_⟩⟩
            · show -(2 ^ 64) < n * 4096 ∧ n * 4096 < 2 ^ 64
              omega
            refine ⟨_, rfl, s, _, 2, 2, rfl, rfl, hs4, rfl, ⟨(e2.trans e4).put, ⟨cs, ?_, _, _, _, upd_same⟩, _, rfl⟩, dec none⟩
            rw [upd_ne cs]
            exact hc4
          · exact ⟨⟨e2.trans e4, h4, _, rfl⟩, dec none⟩
        · refine ⟨_, rfl, s, _, 2, _, rfl, rfl, SqL.of hs, rfl, .inl ⟨_, rfl, _, rfl, _, _, rfl, rfl, by omega, ?_⟩⟩
          refine ⟨_, rfl, s, _, 2, _, rfl, rfl, SqL.of hs, rfl, _, rfl, _, _, rfl, rfl, ⟨by omega, by omega⟩, _, rfl, s, _, 2, 2, rfl, rfl, hs, rfl, _, rfl, ?_⟩
          have d0 := Int.fmod_nonneg_of_pos b (b := n) n0
          have d1 := Int.fmod_lt_of_pos b (b := n) n0
          obtain ⟨d, hd⟩ := Int.eq_ofNat_of_zero_le d0
          show Q (.int (b.fmod n)) _
          rw [hd]
          refine k d _ (by omega) e2.put ⟨cs, ?_, _, _, _, upd_same⟩
          rw [upd_ne cs]
          exact hc
    · obtain ⟨M, a, b⟩ := x
      exact ⟨M, a, fun b' H' m => h _ _ (b b' H' m)⟩
theorem ok_one {f : Addr} {fd : FuncData} (F : DefX K mg "_law_one" s_one ["_law_state", "_law_things"] f fd) (T : Txt K mg) (c_take : Cal P w K mg base CX0 2 "_law_take" spTake) : Cal P w K mg base CX0 3 "_law_one" (spOne K) := by
  refine cal_mk F sc_one (fun vs H Q E h => ?_) (fun cdv A outer s H vs Q E hr h => ?_)
  · obtain ⟨s, c, l, ns, xs, rfl, _⟩ := h
    rfl
  · obtain ⟨s, c, l, ns, xs, rfl, h0, hl, ls, hx, x0, x1, k⟩ := h
    refine ⟨_, (pss_one (ps_ret (pe_ix ix_seq (pv 1) (pe_c c_take hr (by first | decide | assumption) rfl (pa_cons (pv 0) (pa_cons (pe_callB call_len_seq (by rfl) T.len (by decide +kernel) (pa_cons (pv 1) pa_nil)) pa_nil))) (fun _ _ => rfl)))), ?_⟩
    refine ⟨_, rfl, _, rfl, _, rfl, l, xs, rfl, hx, s, c, ns, _, rfl, h0, hl, by omega, by omega, fun d H2 hd e2 h2 => ?_⟩
    have hdl : d < xs.length := by omega
    have hv : xs[d]? = some xs[d] := List.getElem?_eq_getElem hdl
    rcases hx with hx | hx
    · exact .inl ⟨l, xs, _, _, rfl, rfl, e2.l ls hx, atI_nat hv, k d _ H2 hv e2 h2⟩
    · exact .inr (.inl ⟨l, xs, _, _, rfl, rfl, e2.t ls hx, atI_nat hv, k d _ H2 hv e2 h2⟩)
end
end MK
set_option Elab.async false
set_option linter.all false
set_option autoImplicit false
set_option maxRecDepth 100000
set_option maxHeartbeats 4000000
namespace MK
open PySem PySem.Spec PyProof.Rows L2
local macro_rules | `(tactic| walk_at "x") => `(tactic| dsimp only [tSeq, tAsg, tRet, tDrop, tLst, tTup, tCons, tOp, tUn, tIfS])
/-! ### what counts as a word, an integer, a list -/
abbrev s_is_word : Stmt := topS 20
theorem sc_is_word : FnScope ["thing", "letter"] ["thing"] (defScope s_is_word) := ⟨rfl, rfl, rfl, by decide +kernel, rfl, by decide +kernel, by decide +kernel⟩
abbrev s_is_integer : Stmt := topS 21
theorem sc_is_integer : FnScope ["thing"] ["thing"] (defScope s_is_integer) := ⟨rfl, rfl, rfl, by decide +kernel, rfl, by decide +kernel, by decide +kernel⟩
abbrev s_is_list : Stmt := topS 22
theorem sc_is_list : FnScope ["thing"] ["thing"] (defScope s_is_list) := ⟨rfl, rfl, rfl, by decide +kernel, rfl, by decide +kernel, by decide +kernel⟩
abbrev s_is_modes : Stmt := topS 35
theorem sc_is_modes : FnScope ["modes"] ["modes"] (defScope s_is_modes) := ⟨rfl, rfl, rfl, by decide +kernel, rfl, by decide +kernel, by decide +kernel⟩
def NoStr (K : PySem.W.Frag) (H : Hp) (x : V) : Prop := ∃ t, TyX K H x (.type t) ∧ kitB t "str" = some false
def spWord (K : PySem.W.Frag) : Sp := fun vs H Q _ => ∃ x, vs = [x] ∧ ((∃ z, x = .str z ∧ z.length ≤ sizeLine ∧ ∀ H', Same H H' → Q (.bl (wordB z)) H') ∨ (NoStr K H x ∧ Q (.bl false) H))
def spInt : Sp := fun vs H Q _ => ∃ i, vs = [.int i] ∧ Q (.bl true) H
def spList (K : PySem.W.Frag) : Sp := fun vs H Q _ => ∃ x xs, vs = [x] ∧ Sq K H x xs ∧ ∀ H', Same H H' → Q (.bl true) H'
def spModes : Sp := fun vs H Q _ => ∃ i : Int, vs = [.int i] ∧ Q (.bl (decide (1 ≤ i) && decide (i ≤ 4))) H
section
variable {P : Program} {w : World} {K : PySem.W.Frag} {mg : Str → Option Value} {base : Heap} {C : Cst}
theorem ok_word {f : Addr} {fd : FuncData} (F : DefX K mg "is_word" s_is_word ["thing"] f fd) (T : Txt K mg) (Cs : Csts K w mg C) : Cal P w K mg base CX0 1 "is_word" (spWord K) := by
  refine cal_mk F sc_is_word (fun vs H Q E h => ?_) (fun cdv A outer sh H vs Q E hr h => ?_)
  · obtain ⟨x, rfl, _⟩ := h
    rfl
  · obtain ⟨x, rfl, h⟩ := h
    refine ⟨_, (pss_cons (ps_if (pt_cut (PW.pt (pw_or (pt_not (pt_val (pe_callB call_isi (by rfl) T.isinstance (by decide +kernel) (pa_cons (pv 0) (pa_cons (pe_tyv (n := "str") (by rfl) T.str (by decide +kernel)) pa_nil))))) (pw_or1 (pt_not (pt_chain op_le op_le pe_int (pe_callB call_len_str (by rfl) T.len (by decide +kernel) (pa_cons (pv 0) pa_nil)) (pe_cst rfl Cs.MOST_LETTERS)))))))
(pss_one (ps_ret pe_bl))
pss_nil)
(pss_one (ps_ret (pe_callB (cr_all rfl) (by rfl) T.all (by decide +kernel) (pa_cons (pe_lc (own := [("letter", 1)]) (g := (gName 1)) (tt := tYes) rfl sc_is_word.nd (pi_str (pv 0)) (blkOk_by (own := [("letter", 1)]) (N := ["thing", "letter"]) (sc := defScope s_is_word) (by decide +kernel)) (fun _ _ _ _ _ => (pg_name (i := 1) sc_is_word.nd rfl (Or.inl rfl))) (fun _ _ _ _ _ => pts_nil) (fun _ _ _ _ _ => (pe_chain op_le_str op_le_str pe_str (pv 1) pe_str))) pa_nil))))), ?_⟩
    rcases h with ⟨z, rfl, hz, q⟩ | ⟨⟨t, ty, kt⟩, q⟩
    · refine ⟨fun t H' => H' = H ∧ t = !(decide (1 ≤ z.cps.size) && decide (z.cps.size ≤ 8)), ?_, ?_⟩
      · refine ⟨_, rfl, _, _, _, _, true, rfl, .ty _, .base (.str z), kit_ty (by decide +kernel), true, rfl, iteF ?_⟩
        refine ⟨_, rfl, z, rfl, hz, _, _, rfl, rfl, _, rfl, ?_⟩
        have e1 : decide ((1 : Int) ≤ (z.length : Int)) = decide (1 ≤ z.cps.size) := decide_eq_decide.mpr (by show ((1 : Int) ≤ (z.cps.size : Int)) ↔ _; omega)
        have e2 : decide ((z.length : Int) ≤ 8) = decide (z.cps.size ≤ 8) := decide_eq_decide.mpr (by show (((z.cps.size : Nat) : Int) ≤ 8) ↔ _; omega)
        rw [e1]
        refine ite2 (fun h1 => ?_) (fun h1 => ?_)
        · refine ⟨_, _, rfl, rfl, _, rfl, rfl, ?_⟩
          rw [e2, h1, Bool.true_and]
        · refine ⟨_, rfl, rfl, ?_⟩
          rw [Bool.not_eq_true] at h1
          rw [h1, Bool.false_and]
      · rintro t H' ⟨rfl, rfl⟩
        refine ite2 (fun h1 => ?_) (fun h1 => ?_)
        · have e : wordB z = false := by
            rw [Bool.not_eq_true'] at h1
            unfold wordB
            rw [h1, Bool.false_and]
          have := q _ (Same.refl H')
          rw [e] at this
          exact this
        · rw [Bool.not_eq_true', Bool.not_eq_false] at h1
          have hs : z.cps.toList.length < 9 := by
            have := of_decide_eq_true (Bool.and_eq_true_iff.mp h1).2
            rw [Array.length_toList]
            omega
          refine ⟨_, rfl, z, rfl, fun D hD => ?_⟩
          refine lc_it walk_str (fun i H2 => Same H' H2 ∧ H2 D = some (.lst (((z.cps.toList.take i).map letterB).map V.bl))) ⟨same_new (Same.refl H') hD, by rw [upd_same]; rfl⟩ (fun _ _ _ _ => trivial) ?_ ?_
          · rintro i x H3 H2 hi ⟨e2, d2⟩ ⟨rfl, c, hc, rfl⟩
            refine ⟨rfl, ?_⟩
            refine ⟨_, rfl, _, _, rfl, rfl, _, rfl, ?_⟩
            rw [letter_le]
            have step : Same H' (upd H2 D (.lst (((z.cps.toList.take i).map letterB).map V.bl ++ [V.bl (letterB c)]))) ∧ upd H2 D (.lst (((z.cps.toList.take i).map letterB).map V.bl ++ [V.bl (letterB c)])) D = some (.lst (((z.cps.toList.take (i + 1)).map letterB).map V.bl)) := by
              refine ⟨fun b o hb => ?_, ?_⟩
              · rw [upd_ne (ne_of_none hb hD)]
                exact e2 _ _ hb
              · rw [upd_same, letters_take _ i c (by rw [Array.getElem?_toList]; exact hc), List.map_append]
                rfl
            have short : (((z.cps.toList.take i).map letterB).map V.bl).length < sizeLine := by
              rw [List.length_map, List.length_map]
              exact Nat.lt_of_le_of_lt (List.length_take_le' ..) (Nat.lt_trans hs (by decide))
            refine ite2 (fun h2 => ?_) (fun h2 => ?_)
            · refine ⟨_, _, rfl, rfl, _, d2, short, ?_⟩
              rw [letter_ge, show decide (c ≤ 122) = letterB c by unfold letterB; rw [h2, Bool.true_and]]
              exact step
            · refine ⟨_, d2, short, ?_⟩
              rw [Bool.not_eq_true] at h2
              rw [show false = letterB c by unfold letterB; rw [h2, Bool.false_and]]
              exact step
          · rintro H2 ⟨e2, d2⟩
            refine ⟨D, _, rfl, SqL.of d2, ?_⟩
            have := q _ e2
            unfold wordB at this
            rw [h1, Bool.true_and] at this
            have ev : ((z.cps.toList.take z.cps.size).map letterB).all id = z.cps.toList.all letterB := by
              rw [← Array.length_toList, List.take_length, List.all_map]
              rfl
            rw [ev]
            exact this
    · refine ⟨fun t H' => H' = H ∧ t = true, ?_, ?_⟩
      · refine ⟨_, rfl, _, _, _, _, false, rfl, .ty _, ty, kit_ty kt, false, rfl, iteT ⟨rfl, rfl⟩⟩
      · rintro _ _ ⟨rfl, rfl⟩
        exact iteT q
theorem ok_integer {f : Addr} {fd : FuncData} (F : DefX K mg "is_integer" s_is_integer ["thing"] f fd) (T : Txt K mg) : Cal P w K mg base CX0 1 "is_integer" spInt := by
  refine cal_mk F sc_is_integer (fun vs H Q E h => ?_) (fun cdv A outer sh H vs Q E hr h => ?_)
  · obtain ⟨i, rfl, _⟩ := h
    rfl
  · obtain ⟨i, rfl, q⟩ := h
    refine ⟨_, (pss_one (ps_ret (pe_cut (pe_and (pe_callB call_isi (by rfl) T.isinstance (by decide +kernel) (pa_cons (pv 0) (pa_cons (pe_tyv (n := "int") (by rfl) T.int (by decide +kernel)) pa_nil))) (pe_one (pe_not (pe_callB call_isi (by rfl) T.isinstance (by decide +kernel) (pa_cons (pv 0) (pa_cons (pe_tyv (n := "bool") (by rfl) T.bool (by decide +kernel)) pa_nil))))))))), ?_⟩
    refine ⟨fun v H2 => v = .bl true ∧ H2 = H, ?_, fun v H2 e => by rw [e.1, e.2]; exact q⟩
    refine ⟨_, rfl, _, _, _, _, true, rfl, .ty _, .base (.int i), kit_ty (by decide +kernel), true, rfl, iteT ?_⟩
    exact ⟨_, rfl, _, _, _, _, false, rfl, .ty _, .base (.int i), kit_ty (by decide +kernel), _, rfl, rfl, rfl⟩
theorem ok_list {f : Addr} {fd : FuncData} (F : DefX K mg "is_list" s_is_list ["thing"] f fd) (T : Txt K mg) : Cal P w K mg base CX0 1 "is_list" (spList K) := by
  refine cal_mk F sc_is_list (fun vs H Q E h => ?_) (fun cdv A outer sh H vs Q E hr h => ?_)
  · obtain ⟨x, xs, rfl, _⟩ := h
    rfl
  · obtain ⟨x, xs, rfl, ⟨a, rfl, sq⟩, q⟩ := h
    refine ⟨_, (pss_one (ps_ret (pe_callB call_isiT (by rfl) T.isinstance (by decide +kernel) (pa_cons (pv 0) (pa_cons (pe_tup (pa_cons (pe_tyv (n := "list") (by rfl) T.list (by decide +kernel)) (pa_cons (pe_tyv (n := "tuple") (by rfl) T.tuple (by decide +kernel)) pa_nil))) pa_nil))))), ?_⟩
    obtain ⟨t, ty, kt⟩ := sq_ty sq
    refine ⟨_, rfl, by show 2 ≤ sizeLine; decide, fun p hp => ?_⟩
    have e1 : Same H (upd H p (.tup [.ty "list", .ty "tuple"])) := same_new (Same.refl H) hp
    exact ⟨_, p, _, _, _, true, rfl, upd_same, .cons (.ty _) (.cons (.ty _) .nil), tyx_keep e1 ty, kt, q _ e1⟩
theorem ok_modes {f : Addr} {fd : FuncData} (F : DefX K mg "is_modes" s_is_modes ["modes"] f fd) (T : Txt K mg) (Cs : Csts K w mg C) (c_is_integer : Cal P w K mg base CX0 1 "is_integer" spInt) : Cal P w K mg base CX0 2 "is_modes" spModes := by
  refine cal_mk F sc_is_modes (fun vs H Q E h => ?_) (fun cdv A outer sh H vs Q E hr h => ?_)
  · obtain ⟨i, rfl, _⟩ := h
    rfl
  · obtain ⟨i, rfl, q⟩ := h
    refine ⟨_, (pss_one (ps_ret (pe_cut (pe_and (pe_c c_is_integer hr (by first | decide | assumption) rfl (pa_cons (pv 0) pa_nil)) (pe_one (pe_chain op_le op_le pe_int (pv 0) (pe_cst rfl Cs.MOST_MODES))))))), ?_⟩
    refine ⟨fun v H2 => v = .bl (decide (1 ≤ i) && decide (i ≤ 4)) ∧ H2 = H, ?_, fun v H2 e => by rw [e.1, e.2]; exact q⟩
    refine ⟨_, rfl, i, rfl, true, rfl, iteT ?_⟩
    refine ⟨_, rfl, _, _, rfl, rfl, _, rfl, ite2 (fun h1 => ?_) (fun h1 => ?_)⟩
    · refine ⟨_, _, rfl, rfl, ?_, rfl⟩
      rw [h1, Bool.true_and]
    · refine ⟨?_, rfl⟩
      rw [Bool.not_eq_true] at h1
      rw [h1, Bool.false_and]
end
end MK
set_option Elab.async false
set_option linter.all false
set_option autoImplicit false
set_option maxRecDepth 100000
set_option maxHeartbeats 4000000
namespace MK
open PySem PySem.Spec PyProof.Rows L2
local macro_rules | `(tactic| walk_at "x") => `(tactic| dsimp only [tSeq, tAsg, tRet, tDrop, tLst, tTup, tCons, tOp, tUn, tIfS])
/-! ### fields -/
abbrev s_is_field : Stmt := topS 34
theorem sc_is_field : FnScope ["item", "earlier", "name", "sort", "need"] ["item", "earlier"] (defScope s_is_field) := ⟨rfl, rfl, rfl, by decide +kernel, rfl, by decide +kernel, by decide +kernel⟩
abbrev s_kept_fields : Stmt := topS 33
theorem sc_kept_fields : FnScope ["fields", "kept", "index", "item", "field", "earlier"] ["fields"] (defScope s_kept_fields) := ⟨rfl, rfl, rfl, by decide +kernel, rfl, by decide +kernel, by decide +kernel⟩
/-- a field -/
def spField (K : PySem.W.Frag) : Sp := fun vs H Q _ => ∃ (v : V) (e : Addr) (fd : FD) (ys : List Str), vs = [v, .ref e] ∧ FdA K H v fd ∧ SqL K H e (ys.map V.str) ∧ wordB fd.nm = true ∧ fd.nm ∉ ys ∧ ∀ H', Same H H' → Q (.bl true) H'
def spFields (K : PySem.W.Frag) : Sp := fun vs H Q _ => ∃ (s : Addr) (v : V) (fvs : List V) (fs : List FD), vs = [v] ∧ H s ≠ none ∧ Sq K (Off s H) v fvs ∧ Al (FdA K (Off s H)) fvs fs ∧ FsOk fs ∧
  ∀ r rvs H', Same H H' → Tu K (Off s H') r rvs → Al (FdT K (Off s H')) rvs fs → Q r H'
theorem word_len {z : Str} (h : wordB z = true) : z.length ≤ sizeLine := by
  unfold wordB at h
  have h1 := (Bool.and_eq_true_iff.mp h).1
  have h2 := of_decide_eq_true (Bool.and_eq_true_iff.mp h1).2
  exact Nat.le_trans (show z.cps.size ≤ 8 from h2) (by decide)
theorem nm_new {zs : List Str} {i : Nat} {z : Str} (nd : zs.Nodup) (h : zs[i]? = some z) : z ∉ zs.take i := by
  have hi := (List.getElem?_eq_some_iff.mp h).1
  have := not_ahead nd hi
  rw [List.getD_eq_getElem?_getD, h] at this
  exact this
section
variable {P : Program} {w : World} {K : PySem.W.Frag} {mg : Str → Option Value} {base : Heap} {C : Cst}
theorem ok_field {f : Addr} {fd : FuncData} (F : DefX K mg "is_field" s_is_field ["item", "earlier"] f fd) (T : Txt K mg) (Cs : Csts K w mg C) (c_is_list : Cal P w K mg base CX0 1 "is_list" (spList K)) (c_is_word : Cal P w K mg base CX0 1 "is_word" (spWord K)) : Cal P w K mg base CX0 2 "is_field" (spField K) := by
  refine cal_mk F sc_is_field (fun vs H Q E h => ?_) (fun cdv A outer sh H vs Q E hr h => ?_)
  · obtain ⟨v, e, fd, ys, rfl, _⟩ := h
    rfl
  · obtain ⟨v, e, fd, ys, rfl, ⟨a, rfl, hf⟩, he, hw, hn, q⟩ := h
    refine ⟨_, (pss_cons (ps_if (pt_cut (PW.pt (pw_or (pt_not (pt_val (pe_c c_is_list hr (by first | decide | assumption) rfl (pa_cons (pv 0) pa_nil)))) (pw_or1 (pt_cmpR op_ne (pe_callB call_len_seq (by rfl) T.len (by decide +kernel) (pa_cons (pv 0) pa_nil)) pe_int (nomark _))))))
(pss_one (ps_ret pe_bl))
pss_nil)
(pss_cons (ps_asg (pv 0) (pg_sq (by rfl) (pgs_cons (pg_name (i := 2) sc_is_field.nd rfl (Or.inl rfl)) (pgs_cons (pg_name (i := 3) sc_is_field.nd rfl (Or.inl rfl)) (pgs_cons (pg_name (i := 4) sc_is_field.nd rfl (Or.inl rfl)) pgs_nil)))))
(pss_one (ps_ret (pe_cut (pe_and (pe_c c_is_word hr (by first | decide | assumption) rfl (pa_cons (pv 2) pa_nil)) (pe_and (pe_cmpR op_notIn_seq (pv 2) (pv 1) (by rfl)) (pe_and (pe_cmpR op_in_seq (pv 3) (pe_cst rfl Cs.SORTS) (by rfl)) (pe_one (pe_callB call_isi (by rfl) T.isinstance (by decide +kernel) (pa_cons (pv 4) (pa_cons (pe_tyv (n := "bool") (by rfl) T.bool (by decide +kernel)) pa_nil)))))))))))), ?_⟩
    refine ⟨fun t H' => t = false ∧ Same H H', ⟨_, rfl, .ref a, _, rfl, ⟨a, rfl, hf⟩, fun H1 e1 => ⟨true, rfl, iteF ?_⟩⟩, ?_⟩
    · exact ⟨_, rfl, a, _, rfl, hf.elim (fun h => .inl (e1.seq h)) (fun h => .inr (same_t e1 h)), rfl, _, rfl, rfl, e1⟩
    rintro _ H1 ⟨rfl, e1⟩
    refine iteF ?_
    have hf1 : SqL K H1 a (FdV fd) ∨ SqT K H1 a (FdV fd) := hf.elim (fun h => .inl (e1.seq h)) (fun h => .inr (same_t e1 h))
    refine ⟨_, rfl, _, ⟨a, rfl, hf1⟩, rfl, _, _, rfl, _, _, rfl, _, _, rfl, rfl, ?_⟩
    refine ⟨fun v H2 => v = .bl true ∧ Same H H2, ?_, fun v H2 e => by rw [e.1]; exact q _ e.2⟩
    refine ⟨_, rfl, _, rfl, .inl ⟨_, rfl, word_len hw, fun H2 e2 => ?_⟩⟩
    rw [hw]
    refine ⟨_, rfl, iteT ?_⟩
    have e02 := e1.trans e2
    refine ⟨_, rfl, _, rfl, e, _, rfl, .inl (e02.seq he), rfl, flat_strs _, ?_⟩
    rw [inV_strs, decide_eq_false hn]
    refine ⟨_, rfl, iteT ?_⟩
    refine ⟨_, rfl, C.sorts, _, rfl, .inr (Cs.t_sorts _), rfl, rfl, true, ?_, iteT ?_⟩
    · cases fd.many <;> decide
    · exact ⟨_, rfl, _, _, _, _, true, rfl, .ty _, .base (.bl _), kit_ty (by decide +kernel), rfl, e02⟩
theorem ok_fields {f : Addr} {fd : FuncData} (F : DefX K mg "kept_fields" s_kept_fields ["fields"] f fd) (T : Txt K mg) (Cs : Csts K w mg C) (c_is_list : Cal P w K mg base CX0 1 "is_list" (spList K)) (c_is_field : Cal P w K mg base CX0 2 "is_field" (spField K)) : Cal P w K mg base CX0 3 "kept_fields" (spFields K) := by
  refine cal_mk F sc_kept_fields (fun vs H Q E h => ?_) (fun cdv A outer sh H vs Q E hr h => ?_)
  · obtain ⟨s, v, fvs, fs, rfl, _⟩ := h
    rfl
  · obtain ⟨s, v, fvs, fs, rfl, hs, ⟨a, rfl, hv⟩, hal, hok, k⟩ := h
    refine ⟨_, (pss_cons (ps_if (pt_cut (PW.pt (pw_or (pt_not (pt_val (pe_c c_is_list hr (by first | decide | assumption) rfl (pa_cons (pv 0) pa_nil)))) (pw_or1 (pt_cmpR op_eq (pe_callB call_len_seq (by rfl) T.len (by decide +kernel) (pa_cons (pv 0) pa_nil)) pe_int (nomark _))))))
(pss_one (ps_never))
pss_nil)
(pss_cons (ps_set (i := 1) sc_kept_fields.nd rfl (Or.inl rfl) (pe_lst pa_nil))
(pss_cons (ps_for PassesOwn.never rfl (pi_enV (by rfl) T.enumerate (pa_cons (pv 0) pa_nil)) (pg_tup (by rfl) (pgs_cons (pg_name (i := 2) sc_kept_fields.nd rfl (Or.inl rfl)) (pgs_cons (pg_name (i := 3) sc_kept_fields.nd rfl (Or.inl rfl)) pgs_nil)))
(pss_cons (ps_setLc (i := 5) (own := [("field", 4)]) (g := (gName 4)) (tt := tYes) rfl sc_kept_fields.nd rfl rfl (sw_true rfl rfl rfl (by decide +kernel)) (pi_list (pv 1)) (blkOk_by (own := [("field", 4)]) (N := ["fields", "kept", "index", "item", "field", "earlier"]) (sc := defScope s_kept_fields) (by decide +kernel)) (fun _ _ _ _ _ => (pg_name (i := 4) sc_kept_fields.nd rfl (Or.inl rfl))) (fun _ _ _ _ _ => pts_nil) (fun _ _ _ _ _ => (pe_ix (ix_tupK (K := K) rfl) (pv 4) pe_int (fun _ _ => rfl))))
(pss_cons (ps_if (pt_cut (PW.pt (pw_or (pt_cmpR op_ge (pv 2) (pe_cst rfl Cs.MOST_FIELDS) (nomark _)) (pw_or1 (pt_not (pt_val (pe_c c_is_field hr (by first | decide | assumption) rfl (pa_cons (pv 3) (pa_cons (pv 5) pa_nil)))))))))
(pss_one (ps_never))
pss_nil)
(pss_one (ps_expr (pe_bm PySem.F.plainAttrs_list PySem.F.slot_list_append PySem.F.type_list_append mt_append (pv 1) (pa_cons (pe_callTy call_tuple_of (by rfl) T.tuple (by decide +kernel) (pa_cons (pv 3) pa_nil)) pa_nil)))))))
(pss_one (ps_ret (pe_callTy call_tuple_of (by rfl) T.tuple (by decide +kernel) (pa_cons (pv 1) pa_nil))))))), ?_⟩
    have hv0 : SqL K H a fvs ∨ SqT K H a fvs := hv.elim (fun h => .inl (off_same.seq h)) (fun h => .inr (same_t off_same h))
    have len3 : fvs.length = fs.length := hal.1
    have l1 := hok.pos
    have l3 := hok.le
    refine ⟨fun t H' => t = false ∧ Same H H', ⟨_, rfl, .ref a, _, rfl, ⟨a, rfl, hv0⟩, fun H1 e1 => ⟨true, rfl, iteF ?_⟩⟩, ?_⟩
    · exact ⟨_, rfl, a, _, rfl, hv0.elim (fun h => .inl (e1.seq h)) (fun h => .inr (same_t e1 h)), rfl, _, rfl, decide_eq_false (fun e => by have := V.int.inj e; omega), e1⟩
    rintro _ H1 ⟨rfl, e1⟩
    refine iteF ?_
    refine ⟨by show 0 ≤ sizeLine; decide, fun D hD => ?_⟩
    have hsD : D ≠ s := fun e => by
      cases q : H s with
      | none => exact hs q
      | some o => rw [e, e1 _ _ q] at hD; cases hD
    have hD0 := none_of e1 hD
    refine ⟨_, rfl, a, fvs, Off s H, rfl, hv, off_same.trans (same_new e1 hD), fun J G wk hG => ?_⟩
    refine for_it wk (fun i σ H2 => Same H H2 ∧ ∃ kvs : List V, H2 D = some (.lst kvs) ∧ Al (FdT K (Off D (Off s H2))) kvs (fs.take i) ∧ ∃ x2 x3 x4 x5, σ = [some (.ref a), some (.ref D), x2, x3, x4, x5])
      ⟨same_new e1 hD, [], upd_same, Al.nil, none, none, none, none, rfl⟩ (fun i σ H2 _ h => hG _ (off_same.trans h.1)) ?_ ?_
    · rintro i x σ H2 H3 hi ⟨e2, kvs, d2, al, x2, x3, x4, x5, rfl⟩ ⟨U, _, y, rfl, hU, rfl, h1, hy⟩
      obtain rfl := Option.some.inj h1
      obtain ⟨f, hf, hfa⟩ := hal.get hy
      have hfm := List.mem_of_getElem? hf
      have e3 : Same H2 (upd H2 U (.tup [.int (i : Nat), y])) := same_new (Same.refl H2) hU
      refine ⟨U, _, rfl, SqT.of upd_same, rfl, _, _, rfl, _, _, rfl, rfl, ?_⟩
      refine ⟨_, rfl, D, rfl, ⟨_, SqL.of (e3 _ _ d2)⟩, fun D2 hD2 => ?_⟩
      refine lc_list (K := K) (a := D) (xs := kvs) (fun j H4 => Same H2 H4 ∧ H4 D2 = some (.lst ((((fs.take i).take j).map (·.nm)).map V.str))) ⟨same_new e3 hD2, upd_same⟩ (fun j H4 _ h => SqL.of (h.1 _ _ d2)) ?_ ?_
      · rintro j v H4 hv4 ⟨e4, d4⟩
        obtain ⟨g, hg, u, rfl, hu⟩ := al.get hv4
        have hu4 : SqT K H4 u (FdV g) := same_t (off_same.trans (off_same.trans e4)) hu
        refine ⟨rfl, ?_⟩
        refine ⟨_, rfl, u, _, 0, .str g.nm, rfl, rfl, hu4, rfl, _, d4, ?_, fun b o hb => ?_, ?_⟩
        · rw [List.length_map, List.length_map, List.length_take, List.length_take]
          exact Nat.lt_of_le_of_lt (by omega : _ ≤ 3) (by decide)
        · rw [upd_ne (ne_of_none (e3 _ _ hb) hD2)]
          exact e4 _ _ hb
        · rw [upd_same, List.take_succ (i := j), hg]
          simp
      rintro H4 ⟨e4, d4⟩
      rw [show kvs.length = (fs.take i).length from al.1, List.take_length] at d4
      have hi3 : i < fs.length := by
        have : i < fvs.length := hi
        omega
      have e24 := e2.trans e4
      refine ⟨fun t H' => t = false ∧ Same H4 H', ⟨_, rfl, _, _, rfl, rfl, _, rfl, iteB (decide_eq_false (by omega)) ?_⟩, ?_⟩
      · refine ⟨_, rfl, _, rfl, y, D2, f, _, rfl, FdA.keep (off_same.trans e24) hfa, SqL.of d4, hok.word f hfm, ?_, fun H5 e5 => ⟨true, rfl, rfl, e5⟩⟩
        rw [List.map_take]
        exact nm_new hok.nd (by rw [List.getElem?_map, hf]; rfl)
      rintro _ H5 ⟨rfl, e5⟩
      refine iteF ?_
      have e25 := e24.trans e5
      have d5 := (e4.trans e5) _ _ d2
      have kl : kvs.length < sizeLine := by
        rw [al.1, List.length_take]
        exact Nat.lt_of_le_of_lt (by omega : _ ≤ 3) (by decide)
      have tk : fs.take (i + 1) = fs.take i ++ [f] := by
        rw [List.take_succ, hf]
        rfl
      have fin : ∀ v H6, Same H5 H6 → FdT K (Off D (Off s H6)) v f → Same H (upd H6 D (.lst (kvs ++ [v]))) ∧ upd H6 D (.lst (kvs ++ [v])) D = some (.lst (kvs ++ [v])) ∧ Al (FdT K (Off D (Off s (upd H6 D (.lst (kvs ++ [v])))))) (kvs ++ [v]) (fs.take (i + 1)) := fun v H6 e6 hf6 => by
        refine ⟨fun b o hb => ?_, upd_same, ?_⟩
        · rw [upd_ne (ne_of_none hb hD0)]
          exact e6 _ _ (e25 _ _ hb)
        · rw [off_upd hsD, off_put, tk]
          exact (al.mono fun _ _ h => FdT.keep (same_off (same_off (e4.trans (e5.trans e6)))) h).snoc hf6
      refine ⟨_, rfl, .inl ⟨rfl, _, SqL.of d5⟩, _, rfl, ?_⟩
      obtain ⟨b, rfl, hb⟩ := hfa
      rcases hb with hb | hb
      · refine ⟨b, _, rfl, .inl ⟨(off_same.trans e25).seq hb, fun l hl => ?_⟩⟩
        have ls : l ≠ s := fun e => by
          cases q : H s with
          | none => exact hs q
          | some o => rw [e, e25 _ _ q] at hl; cases hl
        have lD : l ≠ D := fun e => by rw [e, d5] at hl; cases hl
        obtain ⟨p1, p2, p3⟩ := fin (.ref l) (upd H5 l (.tup (FdV f))) (same_new (Same.refl H5) hl) (Tu.tup (by rw [off_ne lD, off_ne ls, upd_same]))
        exact ⟨D, kvs, _, rfl, rfl, (upd_ne (Ne.symm lD)).trans d5, kl, p1, _, p2, p3, _, _, _, _, rfl⟩
      · obtain ⟨p1, p2, p3⟩ := fin (.ref b) H5 (Same.refl H5) ⟨b, rfl, same_t (same_offN (same_off e25) (off_none hD0)) hb⟩
        exact ⟨b, _, rfl, .inr ⟨same_t (off_same.trans e25) hb, ⟨D, kvs, _, rfl, rfl, d5, kl, p1, _, p2, p3, _, _, _, _, rfl⟩⟩⟩
    · rintro σ H2 ⟨e2, kvs, d2, al, x2, x3, x4, x5, rfl⟩
      refine ⟨_, rfl, D, kvs, rfl, .inl ⟨SqL.of d2, fun p hp => ?_⟩⟩
      have ps : p ≠ s := fun e => by
        cases q : H s with
        | none => exact hs q
        | some o => rw [e, e2 _ _ q] at hp; cases hp
      rw [len3, List.take_length] at al
      have e3 : Same H2 (upd H2 p (.tup kvs)) := same_new (Same.refl H2) hp
      refine k _ kvs _ (e2.trans e3) (Tu.tup (by rw [off_ne ps, upd_same])) (al.mono fun _ _ h => FdT.keep (off_same.trans (same_off e3)) h)
end
end MK
set_option Elab.async false
set_option linter.all false
set_option autoImplicit false
set_option maxRecDepth 100000
set_option maxHeartbeats 4000000
namespace MK
open PySem PySem.Spec PyProof.Rows L2
local macro_rules | `(tactic| walk_at "x") => `(tactic| dsimp only [tSeq, tAsg, tRet, tDrop, tLst, tTup, tCons, tOp, tUn, tIfS])
/-! ### moves, deeds, same -/
abbrev s_is_many : Stmt := topS 43
theorem sc_is_many : FnScope ["field", "sorts"] ["field", "sorts"] (defScope s_is_many) := ⟨rfl, rfl, rfl, by decide +kernel, rfl, by decide +kernel, by decide +kernel⟩
abbrev s_is_deed : Stmt := topS 41
theorem sc_is_deed : FnScope ["pair", "sorts", "deed", "field"] ["pair", "sorts"] (defScope s_is_deed) := ⟨rfl, rfl, rfl, by decide +kernel, rfl, by decide +kernel, by decide +kernel⟩
abbrev s_are_moves : Stmt := topS 39
theorem sc_are_moves : FnScope ["moves", "modes", "move"] ["moves", "modes"] (defScope s_are_moves) := ⟨rfl, rfl, rfl, by decide +kernel, rfl, by decide +kernel, by decide +kernel⟩
abbrev s_has_call_form : Stmt := topS 38
theorem sc_has_call_form : FnScope ["item", "name", "hand", "moves", "deeds", "same"] ["item"] (defScope s_has_call_form) := ⟨rfl, rfl, rfl, by decide +kernel, rfl, by decide +kernel, by decide +kernel⟩
def spMany : Sp := fun vs H Q _ => ∃ (z : Str) (so : Addr) (fs : List FD), vs = [.str z, .ref so] ∧ H so = some (.dK (sortsV fs)) ∧ (fs.map (·.nm)).Nodup ∧ (∃ f ∈ fs, f.nm = z ∧ f.many = true) ∧ Q (.bl true) H
def spDeed (K : PySem.W.Frag) : Sp := fun vs H Q _ => ∃ (v : V) (so : Addr) (fs : List FD) (d : Str × Str), vs = [v, .ref so] ∧ DeA K H v d ∧ H so = some (.dK (sortsV fs)) ∧ (fs.map (·.nm)).Nodup ∧ DeOk fs d ∧ ∀ H', Same H H' → Q (.bl true) H'
def spMoves (K : PySem.W.Frag) : Sp := fun vs H Q _ => ∃ (v : V) (n : Nat) (ms : List Int), vs = [v, .int n] ∧ Sq K H v (ms.map V.int) ∧ ms.length = n ∧ n ≤ 4 ∧ (∀ m ∈ ms, -1 ≤ m ∧ m < n) ∧ ∀ H', Same H H' → Q (.bl true) H'
def spCallForm (K : PySem.W.Frag) : Sp := fun vs H Q _ => ∃ (v : V) (cd : CD), vs = [v] ∧ CdA K H v cd ∧ ∀ H', Same H H' → Q (.bl true) H'
theorem sod_deed {z : Str} {b : Bool} (h : b ∈ deedSorts z) : ∃ l, sodOf z = some l ∧ sortS b ∈ l := by
  unfold deedSorts at h
  unfold sodOf
  split at h
  · rw [if_pos (by assumption)]
    exact ⟨_, rfl, by rw [List.mem_singleton.mp h]; decide⟩
  rw [if_neg (by assumption)]
  split at h
  · rw [if_pos (by assumption)]
    exact ⟨_, rfl, by rw [List.mem_singleton.mp h]; decide⟩
  rw [if_neg (by assumption)]
  split at h
  · rw [if_pos (by assumption)]
    exact ⟨_, rfl, by rw [List.mem_singleton.mp h]; decide⟩
  rw [if_neg (by assumption)]
  split at h
  · rw [if_pos (by assumption)]
    exact ⟨_, rfl, by rw [List.mem_singleton.mp h]; decide⟩
  rw [if_neg (by assumption)]
  split at h
  · rw [if_pos (by assumption)]
    exact ⟨_, rfl, by cases b <;> decide⟩
  · cases h
theorem sq_at {K : PySem.W.Frag} {H H' : Hp} {a : Addr} {xs : List V} (e : Same H H') (h : SqL K H a xs ∨ SqT K H a xs) : SqL K H' a xs ∨ SqT K H' a xs := h.elim (fun h => .inl (e.seq h)) (fun h => .inr (same_t e h))
section
variable {P : Program} {w : World} {K : PySem.W.Frag} {mg : Str → Option Value} {base : Heap} {C : Cst}
theorem ok_many {f : Addr} {fd : FuncData} (F : DefX K mg "is_many" s_is_many ["field", "sorts"] f fd) (T : Txt K mg) : Cal P w K mg base CX0 1 "is_many" spMany := by
  refine cal_mk F sc_is_many (fun vs H Q E h => ?_) (fun cdv A outer sh H vs Q E hr h => ?_)
  · obtain ⟨z, so, fs, rfl, _⟩ := h
    rfl
  · obtain ⟨z, so, fs, rfl, hso, nd, ⟨g, gm, rfl, gt⟩, q⟩ := h
    refine ⟨_, (pss_one (ps_ret (pe_cut (pe_and (pe_callB call_isi (by rfl) T.isinstance (by decide +kernel) (pa_cons (pv 0) (pa_cons (pe_tyv (n := "str") (by rfl) T.str (by decide +kernel)) pa_nil))) (pe_and (pe_cmp (pc_din (hu_of hr) (pv 0) (pv 1)) rfl) (pe_one (pe_cmpR op_eq (pe_dget (hu_of hr) (pv 1) (pv 0) (fun _ _ => rfl)) pe_str (nomark _)))))))), ?_⟩
    refine ⟨fun v H2 => v = .bl true ∧ H2 = H, ?_, fun v H2 e => by rw [e.1, e.2]; exact q⟩
    have hg : DGet H so (.str g.nm) (some (.str (sortS g.many))) := by
      have := DGet.k (k := .inr g.nm) hso
      rw [sorts_get nd gm] at this
      exact this
    refine ⟨_, rfl, _, _, _, _, true, rfl, .ty _, .base (.str _), kit_ty (by decide +kernel), true, rfl, iteT ?_⟩
    refine ⟨_, rfl, _, rfl, so, _, rfl, hg, true, rfl, iteT ?_⟩
    refine ⟨_, rfl, _, rfl, so, _, rfl, hg, rfl, ?_, rfl⟩
    rw [gt]
    rfl
theorem ok_deed {f : Addr} {fd : FuncData} (F : DefX K mg "is_deed" s_is_deed ["pair", "sorts"] f fd) (T : Txt K mg) (Cs : Csts K w mg C) (c_is_list : Cal P w K mg base CX0 1 "is_list" (spList K)) : Cal P w K mg base CX0 2 "is_deed" (spDeed K) := by
  obtain ⟨es, n, KD⟩ := Cs.sodD
  refine cal_mk F sc_is_deed (fun vs H Q E h => ?_) (fun cdv A outer sh H vs Q E hr h => ?_)
  · obtain ⟨v, so, fs, d, rfl, _⟩ := h
    rfl
  · obtain ⟨v, so, fs, d, rfl, ⟨a, rfl, hd⟩, hso, nd, ⟨g, gm, ge, gd⟩, q⟩ := h
    refine ⟨_, (pss_cons (ps_if (pt_cut (PW.pt (pw_or (pt_not (pt_val (pe_c c_is_list hr (by first | decide | assumption) rfl (pa_cons (pv 0) pa_nil)))) (pw_or1 (pt_cmpR op_ne (pe_callB call_len_seq (by rfl) T.len (by decide +kernel) (pa_cons (pv 0) pa_nil)) pe_int (nomark _))))))
(pss_one (ps_ret pe_bl))
pss_nil)
(pss_cons (ps_asg (pv 0) (pg_sq (by rfl) (pgs_cons (pg_name (i := 2) sc_is_deed.nd rfl (Or.inl rfl)) (pgs_cons (pg_name (i := 3) sc_is_deed.nd rfl (Or.inl rfl)) pgs_nil))))
(pss_cons (ps_if (pt_cut (PW.pt (pw_or (pt_not (pt_val (pe_callB call_isi (by rfl) T.isinstance (by decide +kernel) (pa_cons (pv 2) (pa_cons (pe_tyv (n := "str") (by rfl) T.str (by decide +kernel)) pa_nil))))) (pw_or1 (pt_cmpR (op_notIn_kd KD) (pv 2) (pe_cst rfl Cs.SORTS_OF_DEEDS) (by rfl))))))
(pss_one (ps_ret pe_bl))
pss_nil)
(pss_one (ps_ret (pe_cut (pe_and (pe_callB call_isi (by rfl) T.isinstance (by decide +kernel) (pa_cons (pv 3) (pa_cons (pe_tyv (n := "str") (by rfl) T.str (by decide +kernel)) pa_nil))) (pe_and (pe_cmp (pc_din (hu_of hr) (pv 3) (pv 1)) rfl) (pe_one (pe_cmpR op_in_seq (pe_dget (hu_of hr) (pv 1) (pv 3) (fun _ _ => rfl)) (pe_kget KD (pe_cst rfl Cs.SORTS_OF_DEEDS) (pv 2) (fun _ _ => rfl)) (by rfl))))))))))), ?_⟩
    refine ⟨fun t H' => t = false ∧ Same H H', ⟨_, rfl, .ref a, _, rfl, ⟨a, rfl, hd⟩, fun H1 e1 => ⟨true, rfl, iteF ⟨_, rfl, a, _, rfl, sq_at e1 hd, rfl, _, rfl, rfl, e1⟩⟩⟩, ?_⟩
    rintro _ H1 ⟨rfl, e1⟩
    refine iteF ?_
    refine ⟨_, rfl, _, ⟨a, rfl, sq_at e1 hd⟩, rfl, _, _, rfl, _, _, rfl, rfl, ?_⟩
    obtain ⟨l, hl, hml⟩ := sod_deed gd
    obtain ⟨sa, l', hns, hl', hsa⟩ := (Cs.sodN d.1).resolve_left fun q => by rw [q.2] at hl; cases hl
    obtain rfl : l' = l := by rw [hl'] at hl; exact Option.some.inj hl
    refine ⟨fun t H' => t = false ∧ H' = H1, ⟨_, rfl, _, _, _, _, true, rfl, .ty _, .base (.str _), kit_ty (by decide +kernel), true, rfl, iteF ⟨_, rfl, _, _, rfl, rfl, hns, _, rfl, rfl, rfl⟩⟩, ?_⟩
    rintro _ H1 ⟨rfl, rfl⟩
    refine iteF ?_
    have hg : DGet H1 so (.str d.2) (some (.str (sortS g.many))) := by
      have := DGet.k (k := .inr g.nm) (e1 _ _ hso)
      rw [sorts_get nd gm] at this
      rw [← ge]
      exact this
    refine ⟨fun v H2 => v = .bl true ∧ H2 = H1, ?_, fun v H2 e => by rw [e.1, e.2]; exact q _ e1⟩
    refine ⟨_, rfl, _, _, _, _, true, rfl, .ty _, .base (.str _), kit_ty (by decide +kernel), true, rfl, iteT ?_⟩
    refine ⟨_, rfl, _, rfl, so, _, rfl, hg, true, rfl, iteT ?_⟩
    refine ⟨_, rfl, _, rfl, so, _, rfl, hg, _, rfl, _, _, .ref sa, rfl, rfl, hns, rfl, ?_⟩
    refine ⟨sa, _, rfl, .inr (hsa _), rfl, flat_strs _, ?_, rfl⟩
    rw [inV_strs, decide_eq_true hml]
    rfl
theorem ok_moves {f : Addr} {fd : FuncData} (F : DefX K mg "are_moves" s_are_moves ["moves", "modes"] f fd) (T : Txt K mg) (c_is_integer : Cal P w K mg base CX0 1 "is_integer" spInt) : Cal P w K mg base CX0 2 "are_moves" (spMoves K) := by
  refine cal_mk F sc_are_moves (fun vs H Q E h => ?_) (fun cdv A outer sh H vs Q E hr h => ?_)
  · obtain ⟨v, n, ms, rfl, _⟩ := h
    rfl
  · obtain ⟨v, n, ms, rfl, ⟨a, rfl, hm⟩, rfl, n4, hz, q⟩ := h
    refine ⟨_, (pss_cons (ps_if (pt_cmpR op_ne (pe_callB call_len_seq (by rfl) T.len (by decide +kernel) (pa_cons (pv 0) pa_nil)) (pv 1) (nomark _))
(pss_one (ps_ret pe_bl))
pss_nil)
(pss_one (ps_ret (pe_callB (cr_all rfl) (by rfl) T.all (by decide +kernel) (pa_cons (pe_lc (own := [("move", 2)]) (g := (gName 2)) (tt := tYes) rfl sc_are_moves.nd (pi_sqV (pv 0)) (blkOk_by (own := [("move", 2)]) (N := ["moves", "modes", "move"]) (sc := defScope s_are_moves) (by decide +kernel)) (fun _ _ _ _ _ => (pg_name (i := 2) sc_are_moves.nd rfl (Or.inl rfl))) (fun _ _ _ _ _ => pts_nil) (fun _ _ _ _ _ => (pe_cut (pe_and (pe_c c_is_integer hr (by first | decide | assumption) rfl (pa_cons (pv 2) pa_nil)) (pe_one (pe_chain op_le op_lt (pe_un un_neg pe_int) (pv 2) (pv 1))))))) pa_nil))))), ?_⟩
    refine ⟨_, rfl, a, _, rfl, hm, _, rfl, rfl, _, rfl, iteB ?_ ?_⟩
    · rw [List.length_map, decide_eq_true rfl]
      rfl
    refine ⟨_, rfl, a, _, H, rfl, hm, Same.refl H, fun J G wk hG D hD => ?_⟩
    refine lc_it wk (fun i H2 => Same H H2 ∧ H2 D = some (.lst ((List.replicate i true).map V.bl))) ⟨same_new (Same.refl H) hD, upd_same⟩ (fun i H2 _ h => hG _ h.1) ?_ ?_
    · rintro i x H3 H2 hi ⟨e2, d2⟩ ⟨rfl, hx⟩
      rw [List.getElem?_map] at hx
      obtain ⟨m, hm2, rfl⟩ := Option.map_eq_some_iff.mp hx
      have hmz := hz m (List.mem_of_getElem? hm2)
      have hi4 : i < 4 := by
        have : i < (ms.map V.int).length := hi
        rw [List.length_map] at this
        omega
      refine ⟨rfl, ?_⟩
      refine ⟨fun v H4 => v = .bl true ∧ H4 = H2, ?_, ?_⟩
      · refine ⟨_, rfl, m, rfl, true, rfl, iteT ?_⟩
        refine ⟨_, rfl, _, rfl, _, _, rfl, rfl, _, rfl, iteA (decide_eq_true (by omega)) ⟨_, rfl, _, _, rfl, rfl, ?_, rfl⟩⟩
        exact congrArg V.bl (decide_eq_true hmz.2)
      · rintro _ _ ⟨rfl, rfl⟩
        refine ⟨_, d2, ?_, fun b o hb => ?_, ?_⟩
        · rw [List.length_map, List.length_replicate]
          exact Nat.lt_trans hi4 (by decide)
        · rw [upd_ne (ne_of_none hb hD)]
          exact e2 _ _ hb
        · rw [upd_same, List.replicate_succ', List.map_append]
          rfl
    · rintro H2 ⟨e2, d2⟩
      refine ⟨D, _, rfl, SqL.of d2, ?_⟩
      rw [show (List.replicate (ms.map V.int).length true).all id = true by simp]
      exact q _ e2
theorem ok_callForm {f : Addr} {fd : FuncData} (F : DefX K mg "has_call_form" s_has_call_form ["item"] f fd) (T : Txt K mg) (c_is_list : Cal P w K mg base CX0 1 "is_list" (spList K)) : Cal P w K mg base CX0 2 "has_call_form" (spCallForm K) := by
  refine cal_mk F sc_has_call_form (fun vs H Q E h => ?_) (fun cdv A outer sh H vs Q E hr h => ?_)
  · obtain ⟨v, cd, rfl, _⟩ := h
    rfl
  · obtain ⟨v, cd, rfl, ⟨m, d, s, ds, ⟨a, rfl, h1⟩, h2, h3, h4, h5⟩, q⟩ := h
    refine ⟨_, (pss_cons (ps_if (pt_cut (PW.pt (pw_or (pt_not (pt_val (pe_c c_is_list hr (by first | decide | assumption) rfl (pa_cons (pv 0) pa_nil)))) (pw_or1 (pt_cmpR op_ne (pe_callB call_len_seq (by rfl) T.len (by decide +kernel) (pa_cons (pv 0) pa_nil)) pe_int (nomark _))))))
(pss_one (ps_ret pe_bl))
pss_nil)
(pss_cons (ps_asg (pv 0) (pg_sq (by rfl) (pgs_cons (pg_name (i := 1) sc_has_call_form.nd rfl (Or.inl rfl)) (pgs_cons (pg_name (i := 2) sc_has_call_form.nd rfl (Or.inl rfl)) (pgs_cons (pg_name (i := 3) sc_has_call_form.nd rfl (Or.inl rfl)) (pgs_cons (pg_name (i := 4) sc_has_call_form.nd rfl (Or.inl rfl)) (pgs_cons (pg_name (i := 5) sc_has_call_form.nd rfl (Or.inl rfl)) pgs_nil)))))))
(pss_cons (ps_if (pt_cut (PW.pt (pw_or (pt_not (pt_val (pe_callB call_isi (by rfl) T.isinstance (by decide +kernel) (pa_cons (pv 1) (pa_cons (pe_tyv (n := "str") (by rfl) T.str (by decide +kernel)) pa_nil))))) (pw_or1 (pt_not (pt_val (pe_callB call_isi (by rfl) T.isinstance (by decide +kernel) (pa_cons (pv 2) (pa_cons (pe_tyv (n := "str") (by rfl) T.str (by decide +kernel)) pa_nil)))))))))
(pss_one (ps_ret pe_bl))
pss_nil)
(pss_one (ps_ret (pe_cut (pe_and (pe_c c_is_list hr (by first | decide | assumption) rfl (pa_cons (pv 3) pa_nil)) (pe_and (pe_c c_is_list hr (by first | decide | assumption) rfl (pa_cons (pv 4) pa_nil)) (pe_one (pe_c c_is_list hr (by first | decide | assumption) rfl (pa_cons (pv 5) pa_nil))))))))))), ?_⟩
    obtain ⟨ma, rfl, h2⟩ := h2
    obtain ⟨da, rfl, h3⟩ := h3
    obtain ⟨sa, rfl, h5⟩ := h5
    refine ⟨fun t H' => t = false ∧ Same H H', ⟨_, rfl, .ref a, _, rfl, ⟨a, rfl, h1⟩, fun H1 e1 => ⟨true, rfl, iteF ⟨_, rfl, a, _, rfl, sq_at e1 h1, rfl, _, rfl, rfl, e1⟩⟩⟩, ?_⟩
    rintro _ H1 ⟨rfl, e1⟩
    refine iteF ?_
    refine ⟨_, rfl, _, ⟨a, rfl, sq_at e1 h1⟩, rfl, _, _, rfl, _, _, rfl, _, _, rfl, _, _, rfl, _, _, rfl, rfl, ?_⟩
    refine ⟨fun t H' => t = false ∧ H' = H1, ⟨_, rfl, _, _, _, _, true, rfl, .ty _, .base (.str _), kit_ty (by decide +kernel), true, rfl, iteF ⟨_, rfl, _, _, _, _, true, rfl, .ty _, .base (.str _), kit_ty (by decide +kernel), true, rfl, rfl, rfl⟩⟩, ?_⟩
    rintro _ H1 ⟨rfl, rfl⟩
    refine iteF ?_
    refine ⟨fun v H2 => v = .bl true ∧ Same H H2, ?_, fun v H2 e => by rw [e.1]; exact q _ e.2⟩
    refine ⟨_, rfl, .ref ma, _, rfl, ⟨ma, rfl, sq_at e1 h2⟩, fun H2 e2 => ⟨true, rfl, iteT ?_⟩⟩
    refine ⟨_, rfl, .ref da, _, rfl, ⟨da, rfl, sq_at (e1.trans e2) h3⟩, fun H3 e3 => ⟨true, rfl, iteT ?_⟩⟩
    exact ⟨_, rfl, .ref sa, _, rfl, ⟨sa, rfl, sq_at ((e1.trans e2).trans e3) h5⟩, fun H4 e4 => ⟨rfl, ((e1.trans e2).trans e3).trans e4⟩⟩
end
end MK
set_option Elab.async false
set_option linter.all false
set_option autoImplicit false
set_option maxRecDepth 100000
set_option maxHeartbeats 4000000
namespace MK
open PySem PySem.Spec PyProof.Rows L2
local macro_rules | `(tactic| walk_at "x") => `(tactic| dsimp only [tSeq, tAsg, tRet, tDrop, tLst, tTup, tCons, tOp, tUn, tIfS])
/-! ### deeds and same, whole; a call -/
abbrev s_are_deeds : Stmt := topS 40
theorem sc_are_deeds : FnScope ["deeds", "sorts", "pair", "deed", "field", "worded"] ["deeds", "sorts"] (defScope s_are_deeds) := ⟨rfl, rfl, rfl, by decide +kernel, rfl, by decide +kernel, by decide +kernel⟩
abbrev s_is_same : Stmt := topS 42
theorem sc_is_same : FnScope ["same", "hand", "sorts", "field"] ["same", "hand", "sorts"] (defScope s_is_same) := ⟨rfl, rfl, rfl, by decide +kernel, rfl, by decide +kernel, by decide +kernel⟩
abbrev s_kept_call : Stmt := topS 44
theorem sc_kept_call : FnScope ["call", "name", "hand", "moves", "deeds", "same", "pair"] ["call"] (defScope s_kept_call) := ⟨rfl, rfl, rfl, by decide +kernel, rfl, by decide +kernel, by decide +kernel⟩
abbrev s_wrong_part : Stmt := topS 37
theorem sc_wrong_part : FnScope ["item", "earlier", "sorts", "modes", "name", "hand", "moves", "deeds", "same"] ["item", "earlier", "sorts", "modes"] (defScope s_wrong_part) := ⟨rfl, rfl, rfl, by decide +kernel, rfl, by decide +kernel, by decide +kernel⟩
def spDeedsOk (K : PySem.W.Frag) : Sp := fun vs H Q _ => ∃ (v : V) (so : Addr) (fs : List FD) (dvs : List V) (ds : List (Str × Str)), vs = [v, .ref so] ∧ Sq K H v dvs ∧ Al (DeA K H) dvs ds ∧ H so = some (.dK (sortsV fs)) ∧ (fs.map (·.nm)).Nodup ∧ (∀ d ∈ ds, DeOk fs d) ∧ ds.length ≤ 4 ∧ (worded ds).Nodup ∧ ∀ H', Same H H' → Q (.bl true) H'
def spSameOk (K : PySem.W.Frag) : Sp := fun vs H Q _ => ∃ (v : V) (so : Addr) (fs : List FD) (hd : Str) (zs : List Str), vs = [v, .str hd, .ref so] ∧ Sq K H v (zs.map V.str) ∧ H so = some (.dK (sortsV fs)) ∧ (fs.map (·.nm)).Nodup ∧ (∀ z ∈ zs, ∃ f ∈ fs, f.nm = z ∧ f.many = true) ∧ zs.length < 100 ∧ (hd = "self" → zs = []) ∧ zs.Nodup ∧ ∀ H', Same H H' → Q (.bl true) H'
def spKeptCall (K : PySem.W.Frag) : Sp := fun vs H Q _ => ∃ (s : Addr) (v : V) (cd : CD), vs = [v] ∧ H s ≠ none ∧ CdA K (Off s H) v cd ∧ cd.deeds.length ≤ 4 ∧ ∀ r H', Same H H' → CdT K (Off s H') r cd → Q r H'
def spWrong (K : PySem.W.Frag) : Sp := fun vs H Q _ => ∃ (v : V) (e so : Addr) (n : Nat) (fs : List FD) (ys : List Str) (cd : CD), vs = [v, .ref e, .ref so, .int n] ∧ CdA K H v cd ∧ SqL K H e (ys.map V.str) ∧ H so = some (.dK (sortsV fs)) ∧ FsOk fs ∧ n ≤ 4 ∧ CdOk fs n cd ∧ cd.nm ∉ ys ∧ ∀ H', Same H H' → Q .non H'
section
variable {P : Program} {w : World} {K : PySem.W.Frag} {mg : Str → Option Value} {base : Heap} {C : Cst}
theorem ok_deedsOk {f : Addr} {fd : FuncData} (F : DefX K mg "are_deeds" s_are_deeds ["deeds", "sorts"] f fd) (T : Txt K mg) (Cs : Csts K w mg C) (c_is_deed : Cal P w K mg base CX0 2 "is_deed" (spDeed K)) : Cal P w K mg base CX0 3 "are_deeds" (spDeedsOk K) := by
  refine cal_mk F sc_are_deeds (fun vs H Q E h => ?_) (fun cdv A outer sh H vs Q E hr h => ?_)
  · obtain ⟨v, so, fs, dvs, ds, rfl, _⟩ := h
    rfl
  · obtain ⟨v, so, fs, dvs, ds, rfl, ⟨a, rfl, hd⟩, hal, hso, nd, hok, d4, wnd, q⟩ := h
    refine ⟨_, (pss_cons (ps_if (pt_cut (PW.pt (pw_or (pt_cmpR op_gt (pe_callB call_len_seq (by rfl) T.len (by decide +kernel) (pa_cons (pv 0) pa_nil)) (pe_cst rfl Cs.MOST_DEEDS) (nomark _)) (pw_or1 (pt_not (pt_val (pe_callB (cr_all rfl) (by rfl) T.all (by decide +kernel) (pa_cons (pe_lc (own := [("pair", 2)]) (g := (gName 2)) (tt := tYes) rfl sc_are_deeds.nd (pi_sqV (pv 0)) (blkOk_by (own := [("pair", 2)]) (N := ["deeds", "sorts", "pair", "deed", "field", "worded"]) (sc := defScope s_are_deeds) (by decide +kernel)) (fun _ _ _ _ _ => (pg_name (i := 2) sc_are_deeds.nd rfl (Or.inl rfl))) (fun _ _ _ _ _ => pts_nil) (fun _ _ _ _ _ => (pe_c c_is_deed hr (by first | decide | assumption) rfl (pa_cons (pv 2) (pa_cons (pv 1) pa_nil))))) pa_nil))))))))
(pss_one (ps_ret pe_bl))
pss_nil)
(pss_cons (ps_setLc (i := 5) (own := [("deed", 3), ("field", 4)]) (g := (gSq K 2 (gCons (gName 3) (gCons (gName 4) gNil)))) rfl sc_are_deeds.nd rfl rfl (sw_true rfl rfl rfl (by decide +kernel)) (pi_sqV (pv 0)) (blkOk_by (own := [("deed", 3), ("field", 4)]) (N := ["deeds", "sorts", "pair", "deed", "field", "worded"]) (sc := defScope s_are_deeds) (by decide +kernel)) (fun _ _ _ _ _ => (pg_sq (by rfl) (pgs_cons (pg_name (i := 3) sc_are_deeds.nd rfl (Or.inl rfl)) (pgs_cons (pg_name (i := 4) sc_are_deeds.nd rfl (Or.inl rfl)) pgs_nil)))) (fun _ _ _ _ _ => (pts_one (pt_cmpR (op_in_seqK (K := K) rfl) (pv 3) (pe_cst rfl Cs.LIST_WORD_DEEDS) (by rfl)))) (fun _ _ _ _ _ => (pv 4)))
(pss_one (ps_ret (pe_cmpR op_eq (pe_lenS rfl (by rfl) T.len (by rfl) T.set (pv 5)) (pe_callB call_len_seq (by rfl) T.len (by decide +kernel) (pa_cons (pv 5) pa_nil)) (nomark _)))))), ?_⟩
    have dl : dvs.length ≤ 4 := by rw [hal.1]; exact d4
    refine ⟨fun t H' => t = false ∧ Same H H', ⟨_, rfl, a, _, rfl, hd, _, _, rfl, rfl, _, rfl, iteB (decide_eq_false (by omega)) ?_⟩, ?_⟩
    · refine ⟨_, rfl, a, _, H, rfl, hd, Same.refl H, fun J G wk hG D hD => ?_⟩
      refine lc_it wk (fun i H2 => Same H H2 ∧ H2 D = some (.lst ((List.replicate i true).map V.bl))) ⟨same_new (Same.refl H) hD, upd_same⟩ (fun i H2 _ h => hG _ h.1) ?_ ?_
      · rintro i x H3 H2 hi ⟨e2, d2⟩ ⟨rfl, hx⟩
        obtain ⟨dd, hdd, hda⟩ := hal.get hx
        refine ⟨rfl, ?_⟩
        refine ⟨_, rfl, _, rfl, x, so, fs, dd, rfl, DeA.keep e2 hda, e2 _ _ hso, nd, hok dd (List.mem_of_getElem? hdd), fun H4 e4 => ⟨_, e4 _ _ d2, ?_, fun b o hb => ?_, ?_⟩⟩
        · rw [List.length_map, List.length_replicate]
          exact Nat.lt_trans (Nat.lt_of_lt_of_le hi dl) (by decide)
        · rw [upd_ne (ne_of_none hb hD)]
          exact e4 _ _ (e2 _ _ hb)
        · rw [upd_same, List.replicate_succ', List.map_append]
          rfl
      · rintro H2 ⟨e2, d2⟩
        refine ⟨D, _, rfl, SqL.of d2, true, ?_, rfl, e2⟩
        simp
    rintro _ H1 ⟨rfl, e1⟩
    refine iteF ?_
    refine ⟨_, rfl, a, _, H, rfl, hd, e1, fun J G wk hG D hD => ?_⟩
    refine lc_it wk (fun i H2 => Same H H2 ∧ H2 D = some (.lst ((worded (ds.take i)).map V.str))) ⟨same_new e1 hD, upd_same⟩ (fun i H2 _ h => hG _ h.1) ?_ ?_
    · rintro i x H3 H2 hi ⟨e2, d2⟩ ⟨rfl, hx⟩
      obtain ⟨dd, hdd, hda⟩ := hal.get hx
      have tk : worded (ds.take (i + 1)) = worded (ds.take i) ++ (if dd.1 = ("add" : Str) ∨ dd.1 = ("strike" : Str) then [dd.2] else []) := by
        rw [List.take_succ, hdd]
        exact worded_snoc _ _
      refine ⟨DeV dd, DeA.keep e2 hda, rfl, _, _, rfl, _, _, rfl, rfl, rfl, ?_⟩
      refine ⟨_, rfl, C.lwd, _, rfl, .inr (Cs.t_lwd _), rfl, rfl, _, rfl, ?_⟩
      rw [show ([.str "add", .str "strike"] : List V) = (["add", "strike"] : List Str).map V.str from rfl, inV_strs]
      refine ite2 (fun h1 => ?_) (fun h1 => ?_)
      · have hm : dd.1 = ("add" : Str) ∨ dd.1 = ("strike" : Str) := by
          have := of_decide_eq_true h1
          simpa using this
        refine ⟨_, rfl, _, d2, ?_, fun b o hb => ?_, ?_⟩
        · rw [List.length_map]
          have : (worded (ds.take i)).length ≤ (ds.take i).length := by unfold worded; rw [List.length_map]; exact List.length_filter_le ..
          have h2 : (ds.take i).length ≤ ds.length := List.length_take_le' ..
          exact Nat.lt_of_le_of_lt (by omega : _ ≤ 4) (by decide)
        · rw [upd_ne (ne_of_none hb (none_of e1 hD))]
          exact e2 _ _ hb
        · rw [upd_same, tk, if_pos hm, List.map_append]
          rfl
      · have hm : ¬ (dd.1 = ("add" : Str) ∨ dd.1 = ("strike" : Str)) := fun q => h1 (decide_eq_true (by simpa using q))
        refine ⟨e2, ?_⟩
        rw [tk, if_neg hm, List.append_nil]
        exact d2
    · rintro H2 ⟨e2, d2⟩
      rw [hal.1, List.take_length] at d2
      have wl : (worded ds).length < 1000 := by
        have : (worded ds).length ≤ ds.length := by unfold worded; rw [List.length_map]; exact List.length_filter_le ..
        omega
      refine ⟨_, rfl, worded ds, Sq.lst d2, wnd, wl, _, rfl, D, _, rfl, .inl (SqL.of d2), rfl, ?_⟩
      rw [List.length_map, decide_eq_true rfl]
      exact q _ e2
theorem ok_sameOk {f : Addr} {fd : FuncData} (F : DefX K mg "is_same" s_is_same ["same", "hand", "sorts"] f fd) (T : Txt K mg) (c_is_many : Cal P w K mg base CX0 1 "is_many" spMany) : Cal P w K mg base CX0 2 "is_same" (spSameOk K) := by
  refine cal_mk F sc_is_same (fun vs H Q E h => ?_) (fun cdv A outer sh H vs Q E hr h => ?_)
  · obtain ⟨v, so, fs, hd, zs, rfl, _⟩ := h
    rfl
  · obtain ⟨v, so, fs, hd, zs, rfl, ⟨a, rfl, hz⟩, hso, nd, hok, z9, hself, znd, q⟩ := h
    refine ⟨_, (pss_cons (ps_if (pt_not (pt_val (pe_callB (cr_all rfl) (by rfl) T.all (by decide +kernel) (pa_cons (pe_lc (own := [("field", 3)]) (g := (gName 3)) (tt := tYes) rfl sc_is_same.nd (pi_sqV (pv 0)) (blkOk_by (own := [("field", 3)]) (N := ["same", "hand", "sorts", "field"]) (sc := defScope s_is_same) (by decide +kernel)) (fun _ _ _ _ _ => (pg_name (i := 3) sc_is_same.nd rfl (Or.inl rfl))) (fun _ _ _ _ _ => pts_nil) (fun _ _ _ _ _ => (pe_c c_is_many hr (by first | decide | assumption) rfl (pa_cons (pv 3) (pa_cons (pv 2) pa_nil))))) pa_nil))))
(pss_one (ps_ret pe_bl))
pss_nil)
(pss_cons (ps_if (pt_cut (PW.pt (pw_and (pt_cmpR op_eq (pv 1) pe_str (nomark _)) (pw_and1 (pt_cmpR op_gt (pe_callB call_len_seq (by rfl) T.len (by decide +kernel) (pa_cons (pv 0) pa_nil)) pe_int (nomark _))))))
(pss_one (ps_ret pe_bl))
pss_nil)
(pss_one (ps_ret (pe_cmpR op_eq (pe_lenS rfl (by rfl) T.len (by rfl) T.set (pv 0)) (pe_callB call_len_seq (by rfl) T.len (by decide +kernel) (pa_cons (pv 0) pa_nil)) (nomark _)))))), ?_⟩
    refine ⟨_, rfl, a, _, H, rfl, hz, Same.refl H, fun J G wk hG D hD => ?_⟩
    refine lc_it wk (fun i H2 => Same H H2 ∧ H2 D = some (.lst ((List.replicate i true).map V.bl))) ⟨same_new (Same.refl H) hD, upd_same⟩ (fun i H2 _ h => hG _ h.1) ?_ ?_
    · rintro i x H3 H2 hi ⟨e2, d2⟩ ⟨rfl, hx⟩
      rw [List.getElem?_map] at hx
      obtain ⟨z, hz2, rfl⟩ := Option.map_eq_some_iff.mp hx
      have hi9 : i < 100 := by
        have : i < (zs.map V.str).length := hi
        rw [List.length_map] at this
        omega
      refine ⟨rfl, ?_⟩
      refine ⟨_, rfl, _, rfl, z, so, fs, rfl, e2 _ _ hso, nd, hok z (List.mem_of_getElem? hz2), _, d2, ?_, fun b o hb => ?_, ?_⟩
      · rw [List.length_map, List.length_replicate]
        exact Nat.lt_trans hi9 (by decide)
      · rw [upd_ne (ne_of_none hb hD)]
        exact e2 _ _ hb
      · rw [upd_same, List.replicate_succ', List.map_append]
        rfl
    · rintro H2 ⟨e2, d2⟩
      refine ⟨D, _, rfl, SqL.of d2, true, by simp, iteF ?_⟩
      refine ⟨fun t H' => t = false ∧ H' = H2, ⟨_, rfl, rfl, _, rfl, ite2 (fun h1 => ?_) (fun h1 => ⟨rfl, rfl⟩)⟩, ?_⟩
      · obtain rfl := hself (V.str.inj (of_decide_eq_true h1))
        exact ⟨_, rfl, a, _, rfl, sq_at e2 hz, _, _, rfl, rfl, _, rfl, rfl, rfl⟩
      rintro _ H2 ⟨rfl, rfl⟩
      refine iteF ?_
      refine ⟨_, rfl, zs, ⟨a, rfl, sq_at e2 hz⟩, znd, by omega, _, rfl, a, _, rfl, sq_at e2 hz, rfl, ?_⟩
      rw [List.length_map, decide_eq_true rfl]
      exact q _ e2
theorem ok_keptCall {f : Addr} {fd : FuncData} (F : DefX K mg "kept_call" s_kept_call ["call"] f fd) (T : Txt K mg) : Cal P w K mg base CX0 1 "kept_call" (spKeptCall K) := by
  refine cal_mk F sc_kept_call (fun vs H Q E h => ?_) (fun cdv A outer sh H vs Q E hr h => ?_)
  · obtain ⟨s, v, cd, rfl, _⟩ := h
    rfl
  · obtain ⟨s, v, cd, rfl, hs, ⟨m, d, sm, ds, ⟨a, rfl, h1⟩, h2, h3, h4, h5⟩, d4, k⟩ := h
    refine ⟨_, (pss_cons (ps_asg (pv 0) (pg_sq (by rfl) (pgs_cons (pg_name (i := 1) sc_kept_call.nd rfl (Or.inl rfl)) (pgs_cons (pg_name (i := 2) sc_kept_call.nd rfl (Or.inl rfl)) (pgs_cons (pg_name (i := 3) sc_kept_call.nd rfl (Or.inl rfl)) (pgs_cons (pg_name (i := 4) sc_kept_call.nd rfl (Or.inl rfl)) (pgs_cons (pg_name (i := 5) sc_kept_call.nd rfl (Or.inl rfl)) pgs_nil)))))))
(pss_one (ps_ret (pe_tup (pa_cons (pv 1) (pa_cons (pv 2) (pa_cons (pe_cut (pe_callTy call_tuple_of (by rfl) T.tuple (by decide +kernel) (pa_cons (pv 3) pa_nil))) (pa_cons (pe_cut (pe_callTy call_tuple_of (by rfl) T.tuple (by decide +kernel) (pa_cons (pe_lc (own := [("pair", 6)]) (g := (gName 6)) (tt := tYes) rfl sc_kept_call.nd (pi_sqV (pv 4)) (blkOk_by (own := [("pair", 6)]) (N := ["call", "name", "hand", "moves", "deeds", "same", "pair"]) (sc := defScope s_kept_call) (by decide +kernel)) (fun _ _ _ _ _ => (pg_name (i := 6) sc_kept_call.nd rfl (Or.inl rfl))) (fun _ _ _ _ _ => pts_nil) (fun _ _ _ _ _ => (pe_cut (pe_callTy (call_tuple_ofK (K := K) rfl) (by rfl) T.tuple (by decide +kernel) (pa_cons (pv 6) pa_nil))))) pa_nil))) (pa_cons (pe_cut (pe_callTy call_tuple_of (by rfl) T.tuple (by decide +kernel) (pa_cons (pv 5) pa_nil))) pa_nil))))))))), ?_⟩
    have h10 : SqL K H a [.str cd.nm, .str cd.hand, m, d, sm] ∨ SqT K H a [.str cd.nm, .str cd.hand, m, d, sm] := sq_at off_same h1
    obtain ⟨da, rfl, h3⟩ := h3
    obtain ⟨ma, rfl, h2⟩ := h2
    obtain ⟨sa, rfl, h5⟩ := h5
    refine ⟨_, rfl, _, ⟨a, rfl, h10⟩, rfl, _, _, rfl, _, _, rfl, _, _, rfl, _, _, rfl, _, _, rfl, rfl, ?_⟩
    refine ⟨_, rfl, _, rfl, fun v H1 => Same H H1 ∧ Tu K (Off s H1) v (cd.moves.map V.int), ⟨_, rfl, rd_tupM (K := K) hs ⟨ma, rfl, h2⟩⟩, ?_⟩
    rintro mv H1 ⟨e1, tm⟩
    refine ⟨fun v H4 => Same H1 H4 ∧ ∃ tvs, Tu K (Off s H4) v tvs ∧ Al (DeT K (Off s H4)) tvs cd.deeds, ?_, ?_⟩
    · refine ⟨_, rfl, da, ds, Off s H, rfl, h3, off_same.trans e1, fun J G wk hG D hD => ?_⟩
      have Ds := ne_s hs e1 hD
      refine lc_it wk (fun i H2 => Same H1 H2 ∧ ∃ tvs : List V, H2 D = some (.lst tvs) ∧ Al (DeT K (Off D (Off s H2))) tvs (cd.deeds.take i)) ⟨same_new (Same.refl H1) hD, [], upd_same, Al.nil⟩ (fun i H2 _ h => hG _ ((off_same.trans e1).trans h.1)) ?_ ?_
      · rintro i x H3 H2 hi ⟨e2, tvs, d2, al⟩ ⟨rfl, hx⟩
        obtain ⟨dd, hdd, hda⟩ := h4.get hx
        have e12 := e1.trans e2
        refine ⟨rfl, ?_⟩
        refine ⟨fun v H4 => Same H2 H4 ∧ DeT K (Off s H4) v dd, ⟨_, rfl, rd_tupM (K := K) (kept_s hs e12) (DeA.keep (same_off e12) hda)⟩, ?_⟩
        rintro v H4 ⟨e4, tv⟩
        have d4' := e4 _ _ d2
        refine ⟨_, d4', ?_, fun b o hb => ?_, tvs ++ [v], upd_same, ?_⟩
        · rw [al.1]
          have : (cd.deeds.take i).length ≤ cd.deeds.length := List.length_take_le' ..
          exact Nat.lt_of_le_of_lt (by omega : _ ≤ 4) (by decide)
        · rw [upd_ne (ne_of_none hb hD)]
          exact e4 _ _ (e2 _ _ hb)
        · rw [off_upd Ds, off_put, List.take_succ, hdd]
          exact (al.mono fun _ _ h => DeT.keep (same_off (same_off e4)) h).snoc (Tu.offL tv ((off_ne Ds).trans d4'))
      · rintro H2 ⟨e2, tvs, d2, al⟩
        have e12 := e1.trans e2
        have al : Al (DeT K (Off D (Off s H2))) tvs cd.deeds := by
          have h := al
          rw [h4.1, List.take_length] at h
          exact h
        refine ⟨D, _, rfl, .inl ⟨SqL.of d2, fun l hl => ?_⟩⟩
        have e3 := same_new (Same.refl H2) hl (o := .tup tvs)
        refine ⟨e2.trans e3, tvs, Tu.tup ?_, al.mono fun _ _ h => DeT.keep (off_same.trans (same_off e3)) h⟩
        rw [off_ne (ne_s hs e12 hl), upd_same]
    rintro dv H2 ⟨e2, tvs, td, al⟩
    have e12 := e1.trans e2
    refine ⟨fun v H4 => Same H2 H4 ∧ Tu K (Off s H4) v (cd.same.map V.str), ⟨_, rfl, rd_tupM (K := K) (kept_s hs e12) (Sq.keep (same_off e12) ⟨sa, rfl, h5⟩)⟩, ?_⟩
    rintro sv H4 ⟨e4, ts⟩
    refine ⟨by show 5 ≤ sizeLine; decide, fun p hp => ?_⟩
    have e14 := e12.trans e4
    have e5 := same_new (Same.refl H4) hp (o := .tup [.str cd.nm, .str cd.hand, mv, dv, sv])
    refine k (.ref p) _ (e14.trans e5) ⟨mv, dv, sv, tvs, Tu.tup ?_, tm.keep (same_off (e2.trans (e4.trans e5))), td.keep (same_off (e4.trans e5)), al.mono fun _ _ h => DeT.keep (same_off (e4.trans e5)) h, ts.keep (same_off e5)⟩
    rw [off_ne (ne_s hs e14 hp), upd_same]
theorem ok_wrong {f : Addr} {fd : FuncData} (F : DefX K mg "wrong_part" s_wrong_part ["item", "earlier", "sorts", "modes"] f fd) (T : Txt K mg) (Cs : Csts K w mg C) (c_has_call_form : Cal P w K mg base CX0 2 "has_call_form" (spCallForm K)) (c_is_word : Cal P w K mg base CX0 1 "is_word" (spWord K))
    (c_are_moves : Cal P w K mg base CX0 2 "are_moves" (spMoves K)) (c_are_deeds : Cal P w K mg base CX0 3 "are_deeds" (spDeedsOk K)) (c_is_same : Cal P w K mg base CX0 2 "is_same" (spSameOk K)) : Cal P w K mg base CX0 4 "wrong_part" (spWrong K) := by
  refine cal_mk F sc_wrong_part (fun vs H Q E h => ?_) (fun cdv A outer sh H vs Q E hr h => ?_)
  · obtain ⟨v, e, so, n, fs, ys, cd, rfl, _⟩ := h
    rfl
  · obtain ⟨v, e, so, n, fs, ys, cd, rfl, ⟨m, d, sm, ds, ⟨a, rfl, h1⟩, ⟨ma, rfl, h2⟩, ⟨da, rfl, h3⟩, h4, ⟨sa, rfl, h5⟩⟩, he, hso, fok, n4, ok, hn, q⟩ := h
    refine ⟨_, (pss_cons (ps_if (pt_not (pt_val (pe_c c_has_call_form hr (by first | decide | assumption) rfl (pa_cons (pv 0) pa_nil))))
(pss_one (ps_ret pe_str))
pss_nil)
(pss_cons (ps_asg (pv 0) (pg_sq (by rfl) (pgs_cons (pg_name (i := 4) sc_wrong_part.nd rfl (Or.inl rfl)) (pgs_cons (pg_name (i := 5) sc_wrong_part.nd rfl (Or.inl rfl)) (pgs_cons (pg_name (i := 6) sc_wrong_part.nd rfl (Or.inl rfl)) (pgs_cons (pg_name (i := 7) sc_wrong_part.nd rfl (Or.inl rfl)) (pgs_cons (pg_name (i := 8) sc_wrong_part.nd rfl (Or.inl rfl)) pgs_nil)))))))
(pss_cons (ps_if (pt_cut (PW.pt (pw_or (pt_not (pt_val (pe_c c_is_word hr (by first | decide | assumption) rfl (pa_cons (pv 4) pa_nil)))) (pw_or1 (pt_cmpR op_in_seq (pv 4) (pv 1) (by rfl))))))
(pss_one (ps_ret pe_str))
pss_nil)
(pss_cons (ps_if (pt_cmpR op_notIn_seq (pv 5) (pe_cst rfl Cs.HANDS) (by rfl))
(pss_one (ps_ret pe_str))
pss_nil)
(pss_cons (ps_if (pt_not (pt_val (pe_c c_are_moves hr (by first | decide | assumption) rfl (pa_cons (pv 6) (pa_cons (pv 3) pa_nil)))))
(pss_one (ps_ret pe_str))
pss_nil)
(pss_cons (ps_if (pt_not (pt_val (pe_c c_are_deeds hr (by first | decide | assumption) rfl (pa_cons (pv 7) (pa_cons (pv 2) pa_nil)))))
(pss_one (ps_ret pe_str))
pss_nil)
(pss_cons (ps_if (pt_not (pt_val (pe_c c_is_same hr (by first | decide | assumption) rfl (pa_cons (pv 8) (pa_cons (pv 5) (pa_cons (pv 2) pa_nil))))))
(pss_one (ps_ret pe_str))
pss_nil)
(pss_one (ps_ret pe_non))))))))), ?_⟩
    have hcd : CdA K H (.ref a) cd := ⟨_, _, _, ds, ⟨a, rfl, h1⟩, ⟨ma, rfl, h2⟩, ⟨da, rfl, h3⟩, h4, ⟨sa, rfl, h5⟩⟩
    refine ⟨_, rfl, .ref a, cd, rfl, hcd, fun H1 e1 => ⟨true, rfl, iteF ?_⟩⟩
    refine ⟨_, rfl, _, ⟨a, rfl, sq_at e1 h1⟩, rfl, _, _, rfl, _, _, rfl, _, _, rfl, _, _, rfl, _, _, rfl, rfl, ?_⟩
    refine ⟨fun t H' => t = false ∧ Same H H', ⟨_, rfl, _, rfl, .inl ⟨_, rfl, word_len ok.word, fun H2 e2 => ?_⟩⟩, ?_⟩
    · rw [ok.word]
      refine ⟨true, rfl, iteF ⟨_, rfl, _, rfl, e, _, rfl, .inl ((e1.trans e2).seq he), rfl, flat_strs _, ?_⟩⟩
      rw [inV_strs, decide_eq_false hn]
      exact ⟨_, rfl, rfl, e1.trans e2⟩
    rintro _ H2 ⟨rfl, e2⟩
    refine iteF ?_
    refine ⟨_, rfl, C.hands, _, rfl, .inr (Cs.t_hands _), rfl, rfl, false, ?_, iteF ?_⟩
    · rcases ok.hand with h | h | h <;> rw [h] <;> decide
    refine ⟨_, rfl, _, rfl, .ref ma, n, cd.moves, rfl, ⟨ma, rfl, sq_at e2 h2⟩, ok.len, n4, ok.move, fun H3 e3 => ⟨true, rfl, iteF ?_⟩⟩
    have e23 := e2.trans e3
    refine ⟨_, rfl, _, rfl, .ref da, so, fs, ds, cd.deeds, rfl, ⟨da, rfl, sq_at e23 h3⟩, h4.mono fun _ _ h => DeA.keep e23 h, e23 _ _ hso, fok.nd, ok.deed, ok.deeds, ok.once, fun H4 e4 => ⟨true, rfl, iteF ?_⟩⟩
    have e24 := e23.trans e4
    have sl : cd.same.length < 100 := by
      have : cd.same.length ≤ (fs.map (·.nm)).length := len_sub ok.nd fun z hz => by
        obtain ⟨g, gm, rfl, _⟩ := ok.same z hz
        exact List.mem_map_of_mem gm
      rw [List.length_map] at this
      have := fok.le
      omega
    refine ⟨_, rfl, _, rfl, _, rfl, .ref sa, so, fs, cd.hand, cd.same, rfl, ⟨sa, rfl, sq_at e24 h5⟩, e24 _ _ hso, fok.nd, ok.same, sl, ok.self, ok.nd, fun H5 e5 => ⟨true, rfl, iteF ?_⟩⟩
    exact q _ (e24.trans e5)
end
end MK
set_option Elab.async false
set_option linter.all false
set_option autoImplicit false
set_option maxRecDepth 100000
set_option maxHeartbeats 4000000
namespace MK
open PySem PySem.Spec PyProof.Rows L2
local macro_rules | `(tactic| walk_at "x") => `(tactic| dsimp only [tSeq, tAsg, tRet, tDrop, tLst, tTup, tCons, tOp, tUn, tIfS])
/-! ### the calls -/
abbrev s_kept_calls : Stmt := topS 36
theorem sc_kept_calls : FnScope ["calls", "sorts", "modes", "kept", "index", "item", "call", "reason"] ["calls", "sorts", "modes"] (defScope s_kept_calls) := ⟨rfl, rfl, rfl, by decide +kernel, rfl, by decide +kernel, by decide +kernel⟩
def spCalls (K : PySem.W.Frag) : Sp := fun vs H Q _ => ∃ (s : Addr) (v : V) (so : Addr) (n : Nat) (fs : List FD) (cvs : List V) (cs : List CD), vs = [v, .ref so, .int n] ∧ H s ≠ none ∧ Sq K (Off s H) v cvs ∧ Al (CdA K (Off s H)) cvs cs ∧ H so = some (.dK (sortsV fs)) ∧ FsOk fs ∧ n ≤ 4 ∧
  1 ≤ cs.length ∧ cs.length ≤ 6 ∧ (∀ c ∈ cs, CdOk fs n c) ∧ (cs.map (·.nm)).Nodup ∧ ∀ r rvs H', Same H H' → Tu K (Off s H') r rvs → Al (CdT K (Off s H')) rvs cs → Q r H'
section
variable {P : Program} {w : World} {K : PySem.W.Frag} {mg : Str → Option Value} {base : Heap} {C : Cst}
theorem ok_calls {f : Addr} {fd : FuncData} (F : DefX K mg "kept_calls" s_kept_calls ["calls", "sorts", "modes"] f fd) (T : Txt K mg) (Cs : Csts K w mg C) (c_is_list : Cal P w K mg base CX0 1 "is_list" (spList K)) (c_wrong_part : Cal P w K mg base CX0 4 "wrong_part" (spWrong K)) (c_kept_call : Cal P w K mg base CX0 1 "kept_call" (spKeptCall K)) :
    Cal P w K mg base CX0 5 "kept_calls" (spCalls K) := by
  refine cal_mk F sc_kept_calls (fun vs H Q E h => ?_) (fun cdv A outer sh H vs Q E hr h => ?_)
  · obtain ⟨s, v, so, n, fs, cvs, cs, rfl, _⟩ := h
    rfl
  · obtain ⟨s, v, so, n, fs, cvs, cs, rfl, hs, ⟨a, rfl, hv⟩, hal, hso, fok, n4, c1, c6, cok, cnd, k⟩ := h
    refine ⟨_, (pss_cons (ps_if (pt_cut (PW.pt (pw_or (pt_not (pt_val (pe_c c_is_list hr (by first | decide | assumption) rfl (pa_cons (pv 0) pa_nil)))) (pw_or1 (pt_cmpR op_eq (pe_callB call_len_seq (by rfl) T.len (by decide +kernel) (pa_cons (pv 0) pa_nil)) pe_int (nomark _))))))
(pss_one (ps_never))
pss_nil)
(pss_cons (ps_set (i := 3) sc_kept_calls.nd rfl (Or.inl rfl) (pe_lst pa_nil))
(pss_cons (ps_for PassesOwn.never rfl (pi_enV (by rfl) T.enumerate (pa_cons (pv 0) pa_nil)) (pg_tup (by rfl) (pgs_cons (pg_name (i := 4) sc_kept_calls.nd rfl (Or.inl rfl)) (pgs_cons (pg_name (i := 5) sc_kept_calls.nd rfl (Or.inl rfl)) pgs_nil)))
(pss_cons (ps_if (pt_cmpR op_ge (pv 4) (pe_cst rfl Cs.MOST_CALLS) (nomark _))
(pss_one (ps_never))
pss_nil)
(pss_cons (ps_set (i := 7) sc_kept_calls.nd rfl (Or.inl rfl) (pe_c c_wrong_part hr (by first | decide | assumption) rfl (pa_cons (pv 5) (pa_cons (pe_lc (own := [("call", 6)]) (g := (gName 6)) (tt := tYes) rfl sc_kept_calls.nd (pi_list (pv 3)) (blkOk_by (own := [("call", 6)]) (N := ["calls", "sorts", "modes", "kept", "index", "item", "call", "reason"]) (sc := defScope s_kept_calls) (by decide +kernel)) (fun _ _ _ _ _ => (pg_name (i := 6) sc_kept_calls.nd rfl (Or.inl rfl))) (fun _ _ _ _ _ => pts_nil) (fun _ _ _ _ _ => (pe_ix (ix_tupK (K := K) rfl) (pv 6) pe_int (fun _ _ => rfl)))) (pa_cons (pv 1) (pa_cons (pv 2) pa_nil))))))
(pss_cons (ps_if (pt_cmpR op_notN (pv 7) pe_non (nomark _))
(pss_one (ps_never))
pss_nil)
(pss_one (ps_expr (pe_bm PySem.F.plainAttrs_list PySem.F.slot_list_append PySem.F.type_list_append mt_append (pv 3) (pa_cons (pe_c c_kept_call hr (by first | decide | assumption) rfl (pa_cons (pv 5) pa_nil)) pa_nil))))))))
(pss_one (ps_ret (pe_callTy call_tuple_of (by rfl) T.tuple (by decide +kernel) (pa_cons (pv 3) pa_nil))))))), ?_⟩
    have hv0 : SqL K H a cvs ∨ SqT K H a cvs := sq_at off_same hv
    have len3 : cvs.length = cs.length := hal.1
    refine ⟨fun t H' => t = false ∧ Same H H', ⟨_, rfl, .ref a, _, rfl, ⟨a, rfl, hv0⟩, fun H1 e1 => ⟨true, rfl, iteF ?_⟩⟩, ?_⟩
    · exact ⟨_, rfl, a, _, rfl, sq_at e1 hv0, rfl, _, rfl, decide_eq_false (fun e => by have := V.int.inj e; omega), e1⟩
    rintro _ H1 ⟨rfl, e1⟩
    refine iteF ?_
    refine ⟨by show 0 ≤ sizeLine; decide, fun D hD => ?_⟩
    have hsD : D ≠ s := ne_s hs e1 hD
    have hD0 := none_of e1 hD
    refine ⟨_, rfl, a, cvs, Off s H, rfl, hv, off_same.trans (same_new e1 hD), fun J G wk hG => ?_⟩
    refine for_it wk (fun i σ H2 => Same H H2 ∧ ∃ kvs : List V, H2 D = some (.lst kvs) ∧ Al (CdT K (Off D (Off s H2))) kvs (cs.take i) ∧ ∃ x4 x5 x6 x7, σ = [some (.ref a), some (.ref so), some (.int n), some (.ref D), x4, x5, x6, x7])
      ⟨same_new e1 hD, [], upd_same, Al.nil, none, none, none, none, rfl⟩ (fun i σ H2 _ h => hG _ (off_same.trans h.1)) ?_ ?_
    · rintro i x σ H2 H3 hi ⟨e2, kvs, d2, al, x4, x5, x6, x7, rfl⟩ ⟨U, _, y, rfl, hU, rfl, h1, hy⟩
      obtain rfl := Option.some.inj h1
      obtain ⟨c, hc, hca⟩ := hal.get hy
      have hcm := List.mem_of_getElem? hc
      have hi6 : i < cs.length := by
        have : i < cvs.length := hi
        omega
      have e3 : Same H2 (upd H2 U (.tup [.int (i : Nat), y])) := same_new (Same.refl H2) hU
      refine ⟨U, _, rfl, SqT.of upd_same, rfl, _, _, rfl, _, _, rfl, rfl, ?_⟩
      refine ⟨_, rfl, _, _, rfl, rfl, _, rfl, iteB (decide_eq_false (by omega)) ?_⟩
      refine ⟨_, rfl, _, rfl, D, rfl, ⟨_, SqL.of (e3 _ _ d2)⟩, fun D2 hD2 => ?_⟩
      refine lc_list (K := K) (a := D) (xs := kvs) (fun j H4 => Same H2 H4 ∧ H4 D2 = some (.lst ((((cs.take i).take j).map (·.nm)).map V.str))) ⟨same_new e3 hD2, upd_same⟩ (fun j H4 _ h => SqL.of (h.1 _ _ d2)) ?_ ?_
      · rintro j v H4 hv4 ⟨e4, d4⟩
        obtain ⟨g, hg, m', d', s', ds', ⟨u, rfl, hu⟩, _⟩ := al.get hv4
        have hu4 := same_t (off_same.trans (off_same.trans e4)) hu
        refine ⟨rfl, ?_⟩
        refine ⟨_, rfl, u, _, 0, .str g.nm, rfl, rfl, hu4, rfl, _, d4, ?_, fun b o hb => ?_, ?_⟩
        · rw [List.length_map, List.length_map, List.length_take, List.length_take]
          exact Nat.lt_of_le_of_lt (by omega : _ ≤ 6) (by decide)
        · rw [upd_ne (ne_of_none (e3 _ _ hb) hD2)]
          exact e4 _ _ hb
        · rw [upd_same, List.take_succ (i := j), hg]
          simp
      rintro H4 ⟨e4, d4⟩
      rw [show kvs.length = (cs.take i).length from al.1, List.take_length] at d4
      have e24 := e2.trans e4
      refine ⟨_, rfl, _, rfl, y, D2, so, n, fs, _, c, rfl, CdA.keep (off_same.trans e24) hca, SqL.of d4, e24 _ _ hso, fok, n4, cok c hcm, ?_, fun H5 e5 => ?_⟩
      · rw [List.map_take]
        exact nm_new cnd (by rw [List.getElem?_map, hc]; rfl)
      refine ⟨_, rfl, rfl, _, rfl, iteF ?_⟩
      have e25 := e24.trans e5
      have d5 := (e4.trans e5) _ _ d2
      refine ⟨_, rfl, .inl ⟨rfl, _, SqL.of d5⟩, _, rfl, s, y, c, rfl, kept_s hs e25, CdA.keep (same_off e25) hca, (cok c hcm).deeds, fun r H6 e6 hr6 => ?_⟩
      have kl : kvs.length < sizeLine := by
        rw [al.1, List.length_take]
        exact Nat.lt_of_le_of_lt (by omega : _ ≤ 6) (by decide)
      have d6 := e6 _ _ d5
      refine ⟨D, kvs, _, rfl, rfl, d6, kl, fun b o hb => ?_, _, upd_same, ?_, _, _, _, _, rfl⟩
      · rw [upd_ne (ne_of_none hb hD0)]
        exact e6 _ _ (e25 _ _ hb)
      · rw [off_upd hsD, off_put, List.take_succ, hc]
        exact (al.mono fun _ _ h => CdT.keep (same_off (same_off (e4.trans (e5.trans e6)))) h).snoc (CdT.off hr6 ((off_ne hsD).trans d6) no_lst)
    · rintro σ H2 ⟨e2, kvs, d2, al, x4, x5, x6, x7, rfl⟩
      refine ⟨_, rfl, D, kvs, rfl, .inl ⟨SqL.of d2, fun p hp => ?_⟩⟩
      have ps : p ≠ s := ne_s hs e2 hp
      rw [len3, List.take_length] at al
      have e3 : Same H2 (upd H2 p (.tup kvs)) := same_new (Same.refl H2) hp
      refine k _ kvs _ (e2.trans e3) (Tu.tup (by rw [off_ne ps, upd_same])) (al.mono fun _ _ h => CdT.keep (off_same.trans (same_off e3)) h)
end
end MK
set_option Elab.async false
set_option linter.all false
set_option autoImplicit false
set_option maxRecDepth 100000
set_option maxHeartbeats 4000000
namespace MK
open PySem PySem.Spec PyProof.Rows L2
local macro_rules | `(tactic| walk_at "x") => `(tactic| dsimp only [tSeq, tAsg, tRet, tDrop, tLst, tTup, tCons, tOp, tUn, tIfS])
/-! ### the kind is made -/
abbrev s_Kind_init : Stmt := inClass (topS 50) 0
theorem sc_Kind_init : FnScope ["self", "fields", "calls", "modes", "name", "sort", "need", "at", "field", "call"] ["self", "fields", "calls", "modes"] (defScope s_Kind_init) := ⟨rfl, rfl, rfl, by decide +kernel, rfl, by decide +kernel, by decide +kernel⟩
/-- the class of kinds -/
structure KCls (K : PySem.W.Frag) (KC : Addr) : Prop where
  cls : Cls K KC
  triples : NoAttr K KC "triples"
  sorts : NoAttr K KC "sorts"
  spots : NoAttr K KC "spots"
  modes : NoAttr K KC "modes"
  steps : NoAttr K KC "steps"
  table : NoAttr K KC "table"
def spKInit (K : PySem.W.Frag) (KC : Addr) : Sp := fun vs H Q _ => ∃ (s x dx : Addr) (fv cv : V) (n : Nat) (fvs cvs : List V) (fs : List FD) (cs : List CD), vs = [.ref x, fv, cv, .int n] ∧ x ≠ s ∧ H s ≠ none ∧ H x = some (.ins KC dx []) ∧
  Sq K (Off x (Off s H)) fv fvs ∧ Al (FdA K (Off x (Off s H))) fvs fs ∧ Sq K (Off x (Off s H)) cv cvs ∧ Al (CdA K (Off x (Off s H))) cvs cs ∧ KdOk fs n cs ∧ ∀ H', SameX x H H' → KdA K KC (Off s H') (.ref x) fs n cs → Q .non H'
section
variable {P : Program} {w : World} {K : PySem.W.Frag} {mg : Str → Option Value} {base : Heap} {C : Cst} {KC : Addr}
theorem run_kinit (T : Txt K mg) (Z : KCls K KC) (c_kept_fields : Cal P w K mg base CX0 3 "kept_fields" (spFields K)) (c_is_modes : Cal P w K mg base CX0 2 "is_modes" spModes) (c_kept_calls : Cal P w K mg base CX0 5 "kept_calls" (spCalls K))
    {f : Addr} {cdv : Value} {A : Around} {outer : List Env} {sh : Shared} {H : Hp} {vs : List V} {Q : VK} {E : XK} (hr : Room 5 (A.deeper (envOfC "Kind.__init__" (defScope s_Kind_init) sh.heap.objs.size f cdv))) (h : spKInit K KC vs H Q E) :
    ∃ t, PSs (cxOf CX0 P w K mg base ["self", "fields", "calls", "modes", "name", "sort", "need", "at", "field", "call"] "Kind.__init__" (defScope s_Kind_init) f cdv A outer sh H E).nox (defBody s_Kind_init) t ∧ t { nx := fun _ H' => Q .non H', rt := Q } (start ["self", "fields", "calls", "modes", "name", "sort", "need", "at", "field", "call"] vs) H := by
  obtain ⟨s, x, dx, fv, cv, n, fvs, cvs, fs, cs, rfl, xs, hs, hx, hf, hfs, hc, hcs, ok, k⟩ := h
  refine ⟨_, (pss_cons (ps_fld (pv 0) (pe_c c_kept_fields hr (by first | decide | assumption) rfl (pa_cons (pv 1) pa_nil)) rfl)
(pss_cons (ps_fld (pv 0) (pe_dc (own := [("name", 4), ("sort", 5), ("need", 6)]) (g := (gTup K 3 (gCons (gName 4) (gCons (gName 5) (gCons (gName 6) gNil))))) (tt := tYes) rfl sc_Kind_init.nd (pi_tup (pe_fld (pv 0) rfl)) (blkOk_by (own := [("name", 4), ("sort", 5), ("need", 6)]) (N := ["self", "fields", "calls", "modes", "name", "sort", "need", "at", "field", "call"]) (sc := defScope s_Kind_init) (by decide +kernel)) (fun _ _ _ _ _ => (pg_tup (by rfl) (pgs_cons (pg_name (i := 4) sc_Kind_init.nd rfl (Or.inl rfl)) (pgs_cons (pg_name (i := 5) sc_Kind_init.nd rfl (Or.inl rfl)) (pgs_cons (pg_name (i := 6) sc_Kind_init.nd rfl (Or.inl rfl)) pgs_nil))))) (fun _ _ _ _ _ => pts_nil) (fun _ _ _ _ _ => (pv 4)) (fun _ _ _ _ _ => (pv 5))) rfl)
(pss_cons (ps_fld (pv 0) (pe_dc (own := [("at", 7), ("field", 8)]) (g := (gTup K 2 (gCons (gName 7) (gCons (gName 8) gNil)))) (tt := tYes) rfl sc_Kind_init.nd (pi_enumT (by rfl) T.enumerate (pa_cons (pe_fld (pv 0) rfl) pa_nil)) (blkOk_by (own := [("at", 7), ("field", 8)]) (N := ["self", "fields", "calls", "modes", "name", "sort", "need", "at", "field", "call"]) (sc := defScope s_Kind_init) (by decide +kernel)) (fun _ _ _ _ _ => (pg_tup (by rfl) (pgs_cons (pg_name (i := 7) sc_Kind_init.nd rfl (Or.inl rfl)) (pgs_cons (pg_name (i := 8) sc_Kind_init.nd rfl (Or.inl rfl)) pgs_nil)))) (fun _ _ _ _ _ => pts_nil) (fun _ _ _ _ _ => (pe_ix (ix_tupK (K := K) rfl) (pv 8) pe_int (fun _ _ => rfl))) (fun _ _ _ _ _ => (pv 7))) rfl)
(pss_cons (ps_if (pt_not (pt_val (pe_c c_is_modes hr (by first | decide | assumption) rfl (pa_cons (pv 3) pa_nil))))
(pss_one (ps_never))
pss_nil)
(pss_cons (ps_fld (pv 0) (pv 3) rfl)
(pss_cons (ps_fld (pv 0) (pe_c c_kept_calls hr (by first | decide | assumption) rfl (pa_cons (pv 2) (pa_cons (pe_fld (pv 0) rfl) (pa_cons (pv 3) pa_nil)))) rfl)
(pss_one (ps_fld (pv 0) (pe_dc (own := [("call", 9)]) (g := (gName 9)) (tt := tYes) rfl sc_Kind_init.nd (pi_tup (pe_fld (pv 0) rfl)) (blkOk_by (own := [("call", 9)]) (N := ["self", "fields", "calls", "modes", "name", "sort", "need", "at", "field", "call"]) (sc := defScope s_Kind_init) (by decide +kernel)) (fun _ _ _ _ _ => (pg_name (i := 9) sc_Kind_init.nd rfl (Or.inl rfl))) (fun _ _ _ _ _ => pts_nil) (fun _ _ _ _ _ => (pe_ix (ix_tupK (K := K) rfl) (pv 9) pe_int (fun _ _ => rfl))) (fun _ _ _ _ _ => (pv 9))) rfl)))))))), ?_⟩
  have n1 := ok.pos
  have n4 := ok.le
  -- triples
  refine ⟨_, rfl, s, fv, fvs, fs, rfl, hs, hf.keep off_same, hfs.mono fun _ _ h => FdA.keep off_same h, ok.fields, fun r rvs H1 e1 tr al => ?_⟩
  have x1 := e1 _ _ hx
  refine ⟨_, rfl, x, KC, dx, [], rfl, x1, Z.cls, Z.triples, by decide, ?_⟩
  have hB1 : Off s H1 x = some (.ins KC dx []) := (off_ne xs).trans x1
  have tr1 : Tu K (Off x (Off s H1)) r rvs := tr.off hB1 no_ins
  have al1 : Al (FdT K (Off x (Off s H1))) rvs fs := al.mono fun _ _ h => Tu.off h hB1 no_ins
  obtain ⟨ra, rfl, tra⟩ := tr1
  have e01 : SameX x H (upd H1 x (.ins KC dx [("triples", .ref ra)])) := (same_sx e1).put
  have hB : ∀ {H' : Hp} {o : HO}, Off x (Off s (upd H' x o)) = Off x (Off s H') := by
    intro H' o
    rw [off_upd xs, off_put]
  have hs2 : upd H1 x (.ins KC dx [("triples", .ref ra)]) s ≠ none := by
    rw [upd_ne (Ne.symm xs)]
    exact kept_s hs e1
  have F2 : SqT K (Off x (Off s (upd H1 x (.ins KC dx [("triples", .ref ra)])))) ra rvs ∧ Al (FdT K (Off x (Off s (upd H1 x (.ins KC dx [("triples", .ref ra)]))))) rvs fs := by
    rw [hB]
    exact ⟨tra, al1⟩
  have C2 : Sq K (Off x (Off s (upd H1 x (.ins KC dx [("triples", .ref ra)])))) cv cvs ∧ Al (CdA K (Off x (Off s (upd H1 x (.ins KC dx [("triples", .ref ra)]))))) cvs cs := by
    rw [hB]
    exact ⟨hc.keep (same_off (same_off e1)), hcs.mono fun _ _ h => CdA.keep (same_off (same_off e1)) h⟩
  have x2 : upd H1 x (.ins KC dx [("triples", .ref ra)]) x = some (.ins KC dx [("triples", .ref ra)]) := upd_same
  show tSeq _ _ _ _ (upd H1 x (.ins KC dx [("triples", .ref ra)]))
  generalize upd H1 x (.ins KC dx [("triples", .ref ra)]) = H2 at e01 hs2 F2 C2 x2
  have rl : rvs.length ≤ 3 := by rw [al.1]; exact ok.fields.le
  -- sorts
  refine ⟨_, rfl, x, KC, dx, _, .ref ra, rfl, x2, Z.cls, Z.triples, rfl, ra, rfl, ⟨rvs, same_t (off_same.trans off_same) F2.1⟩, fun D hD => ?_⟩
  refine dc_it (walk_tup (K := K) (a := ra) (xs := rvs)) (fun i H' => Same H2 H' ∧ H' D = some (.dK ((sortsV fs).take i))) ⟨same_new (Same.refl H2) hD, upd_same⟩ (fun i H' _ h => same_t ((off_same.trans off_same).trans h.1) F2.1) ?_ ?_
  · rintro i v H3' H3 hi ⟨e3, d3⟩ ⟨rfl, hv⟩
    obtain ⟨f', hf', u, rfl, hu⟩ := F2.2.get hv
    refine ⟨u, FdV f', rfl, same_t ((off_same.trans off_same).trans e3) hu, rfl, _, _, rfl, _, _, rfl, _, _, rfl, rfl, rfl, ?_⟩
    refine ⟨_, rfl, _, rfl, _, .inr f'.nm, rfl, d3, ?_, fun b o hb => ?_, ?_⟩
    · exact Nat.lt_of_le_of_lt (Nat.le_trans (List.length_take_le' ..) (by rw [sorts_len]; exact ok.fields.le)) (by decide)
    · rw [upd_ne (ne_of_none hb hD)]
      exact e3 _ _ hb
    · rw [upd_same, put_take (sorts_nd ok.fields.nd) (sorts_at hf')]
  rintro H3 ⟨e3, d3⟩
  rw [show rvs.length = (sortsV fs).length by rw [sorts_len]; exact F2.2.1, List.take_length] at d3
  have x3 := e3 _ _ x2
  refine ⟨_, rfl, x, KC, dx, _, rfl, x3, Z.cls, Z.sorts, by simp, ?_⟩
  show tSeq _ _ _ _ (upd H3 x (.ins KC dx [("triples", .ref ra), ("sorts", .ref D)]))
  have Dx : D ≠ x := fun e => by rw [e, x3] at d3; cases d3
  have Ds : D ≠ s := ne_s hs2 (Same.refl H2) hD
  have e04 : SameX x H (upd H3 x (.ins KC dx [("triples", .ref ra), ("sorts", .ref D)])) := (e01.trans (same_sx e3)).put
  have b24 : Same (Off x (Off s H2)) (Off x (Off s (upd H3 x (.ins KC dx [("triples", .ref ra), ("sorts", .ref D)])))) := by
    rw [hB]
    exact same_off (same_off e3)
  have hs4 : upd H3 x (.ins KC dx [("triples", .ref ra), ("sorts", .ref D)]) s ≠ none := by
    rw [upd_ne (Ne.symm xs)]
    exact kept_s hs2 e3
  have d4 : Off x (Off s (upd H3 x (.ins KC dx [("triples", .ref ra), ("sorts", .ref D)]))) D = some (.dK (sortsV fs)) := by
    rw [hB, off_ne Dx, off_ne Ds]
    exact d3
  have x4 : upd H3 x (.ins KC dx [("triples", .ref ra), ("sorts", .ref D)]) x = some (.ins KC dx [("triples", .ref ra), ("sorts", .ref D)]) := upd_same
  generalize upd H3 x (.ins KC dx [("triples", .ref ra), ("sorts", .ref D)]) = H4 at e04 b24 hs4 d4 x4
  -- spots
  refine ⟨_, rfl, x, KC, dx, _, .ref ra, rfl, x4, Z.cls, Z.triples, rfl, ra, rvs, rfl, same_t (b24.trans (off_same.trans off_same)) F2.1, fun D2 hD2 => ?_⟩
  refine dc_it (walk_enumT (K := K) (a := ra) (xs := rvs)) (fun i H' => Same H4 H' ∧ H' D2 = some (.dK ((spotsV fs).take i))) ⟨same_new (Same.refl H4) hD2, upd_same⟩ (fun i H' _ h => same_t ((b24.trans (off_same.trans off_same)).trans h.1) F2.1) ?_ ?_
  · rintro i v H5 H5' hi ⟨e5, d5⟩ ⟨U, _, y, rfl, hU, rfl, h1, hy⟩
    obtain rfl := Option.some.inj h1
    obtain ⟨f', hf', u, rfl, hu⟩ := F2.2.get hy
    have e6 : Same H5 (upd H5 U (.tup [.int (i : Nat), .ref u])) := same_new (Same.refl H5) hU
    have hu6 : SqT K (upd H5 U (.tup [.int (i : Nat), .ref u])) u (FdV f') := same_t ((b24.trans (off_same.trans off_same)).trans (e5.trans e6)) hu
    refine ⟨U, _, rfl, SqT.of upd_same, rfl, _, _, rfl, _, _, rfl, rfl, rfl, ?_⟩
    refine ⟨_, rfl, u, _, 0, .str f'.nm, rfl, rfl, hu6, rfl, _, rfl, _, .inr f'.nm, rfl, e6 _ _ d5, ?_, fun b o hb => ?_, ?_⟩
    · exact Nat.lt_of_le_of_lt (Nat.le_trans (List.length_take_le' ..) (by rw [spots_len]; exact ok.fields.le)) (by decide)
    · rw [upd_ne (ne_of_none hb hD2)]
      exact e6 _ _ (e5 _ _ hb)
    · rw [upd_same, put_take (spots_nd ok.fields.nd) (spots_at hf')]
  rintro H5 ⟨e5, d5⟩
  rw [show rvs.length = (spotsV fs).length by rw [spots_len]; exact F2.2.1, List.take_length] at d5
  have x5 := e5 _ _ x4
  refine ⟨_, rfl, x, KC, dx, _, rfl, x5, Z.cls, Z.spots, by simp, ?_⟩
  show tSeq _ _ _ _ (upd H5 x (.ins KC dx [("triples", .ref ra), ("sorts", .ref D), ("spots", .ref D2)]))
  have D2x : D2 ≠ x := fun e => by rw [e, x5] at d5; cases d5
  have D2s : D2 ≠ s := ne_s hs4 (Same.refl H4) hD2
  have e06 : SameX x H (upd H5 x (.ins KC dx [("triples", .ref ra), ("sorts", .ref D), ("spots", .ref D2)])) := (e04.trans (same_sx e5)).put
  have b26 : Same (Off x (Off s H4)) (Off x (Off s (upd H5 x (.ins KC dx [("triples", .ref ra), ("sorts", .ref D), ("spots", .ref D2)])))) := by
    rw [hB]
    exact same_off (same_off e5)
  have hs6 : upd H5 x (.ins KC dx [("triples", .ref ra), ("sorts", .ref D), ("spots", .ref D2)]) s ≠ none := by
    rw [upd_ne (Ne.symm xs)]
    exact kept_s hs4 e5
  have d6 : Off x (Off s (upd H5 x (.ins KC dx [("triples", .ref ra), ("sorts", .ref D), ("spots", .ref D2)]))) D2 = some (.dK (spotsV fs)) := by
    rw [hB, off_ne D2x, off_ne D2s]
    exact d5
  have x6 : upd H5 x (.ins KC dx [("triples", .ref ra), ("sorts", .ref D), ("spots", .ref D2)]) x = some (.ins KC dx [("triples", .ref ra), ("sorts", .ref D), ("spots", .ref D2)]) := upd_same
  generalize upd H5 x (.ins KC dx [("triples", .ref ra), ("sorts", .ref D), ("spots", .ref D2)]) = H6 at e06 b26 hs6 d6 x6
  -- modes
  refine ⟨_, rfl, (n : Int), rfl, ?_⟩
  rw [decide_eq_true (by omega : (1 : Int) ≤ n), decide_eq_true (by omega : (n : Int) ≤ 4)]
  refine ⟨true, rfl, iteF ?_⟩
  refine ⟨_, rfl, _, rfl, x, KC, dx, _, rfl, x6, Z.cls, Z.modes, by simp, ?_⟩
  show tSeq _ _ _ _ (upd H6 x (.ins KC dx [("triples", .ref ra), ("sorts", .ref D), ("spots", .ref D2), ("modes", .int n)]))
  have e07 : SameX x H (upd H6 x (.ins KC dx [("triples", .ref ra), ("sorts", .ref D), ("spots", .ref D2), ("modes", .int n)])) := e06.put
  have b67 : Off x (Off s (upd H6 x (.ins KC dx [("triples", .ref ra), ("sorts", .ref D), ("spots", .ref D2), ("modes", .int n)]))) = Off x (Off s H6) := hB
  have hs7 : upd H6 x (.ins KC dx [("triples", .ref ra), ("sorts", .ref D), ("spots", .ref D2), ("modes", .int n)]) s ≠ none := by
    rw [upd_ne (Ne.symm xs)]
    exact hs6
  have x7 : upd H6 x (.ins KC dx [("triples", .ref ra), ("sorts", .ref D), ("spots", .ref D2), ("modes", .int n)]) x = some (.ins KC dx [("triples", .ref ra), ("sorts", .ref D), ("spots", .ref D2), ("modes", .int n)]) := upd_same
  generalize upd H6 x (.ins KC dx [("triples", .ref ra), ("sorts", .ref D), ("spots", .ref D2), ("modes", .int n)]) = H7 at e07 b67 hs7 x7
  have b47 : Same (Off x (Off s H4)) (Off x (Off s H7)) := by
    rw [b67]
    exact b26
  have b27 := b24.trans b47
  rw [← b67] at d6
  -- steps
  refine ⟨_, rfl, _, rfl, x, KC, dx, _, .ref D, rfl, x7, Z.cls, Z.sorts, rfl, _, rfl, s, cv, D, n, fs, cvs, cs, rfl, hs7, C2.1.keep (b27.trans off_same), C2.2.mono fun _ _ h => CdA.keep (b27.trans off_same) h, (b47.trans (off_same.trans off_same)) _ _ d4, ok.fields, n4, ok.cpos, ok.cle, ok.calls, ok.nd, fun r8 svs H8 e8 tr8 al8 => ?_⟩
  have x8 := e8 _ _ x7
  refine ⟨_, rfl, x, KC, dx, _, rfl, x8, Z.cls, Z.steps, by simp, ?_⟩
  have hB8 : Off s H8 x = some (.ins KC dx [("triples", .ref ra), ("sorts", .ref D), ("spots", .ref D2), ("modes", .int n)]) := (off_ne xs).trans x8
  have tr9 : Tu K (Off x (Off s H8)) r8 svs := tr8.off hB8 no_ins
  have al9 : Al (CdT K (Off x (Off s H8))) svs cs := al8.mono fun _ _ h => CdT.off h hB8 no_ins
  obtain ⟨rb, rfl, trb⟩ := tr9
  rw [show putF ("steps" : Str) (V.ref rb) ([("triples", .ref ra), ("sorts", .ref D), ("spots", .ref D2), ("modes", .int n)] : List (Str × V)) = ([("triples", .ref ra), ("sorts", .ref D), ("spots", .ref D2), ("modes", .int n), ("steps", .ref rb)] : List (Str × V)) from rfl]
  have e09 : SameX x H (upd H8 x (.ins KC dx [("triples", .ref ra), ("sorts", .ref D), ("spots", .ref D2), ("modes", .int n), ("steps", .ref rb)])) := (e07.trans (same_sx e8)).put
  have b89 : Off x (Off s (upd H8 x (.ins KC dx [("triples", .ref ra), ("sorts", .ref D), ("spots", .ref D2), ("modes", .int n), ("steps", .ref rb)]))) = Off x (Off s H8) := hB
  have hs9 : upd H8 x (.ins KC dx [("triples", .ref ra), ("sorts", .ref D), ("spots", .ref D2), ("modes", .int n), ("steps", .ref rb)]) s ≠ none := by
    rw [upd_ne (Ne.symm xs)]
    exact kept_s hs7 e8
  have x9 : upd H8 x (.ins KC dx [("triples", .ref ra), ("sorts", .ref D), ("spots", .ref D2), ("modes", .int n), ("steps", .ref rb)]) x = some (.ins KC dx [("triples", .ref ra), ("sorts", .ref D), ("spots", .ref D2), ("modes", .int n), ("steps", .ref rb)]) := upd_same
  generalize upd H8 x (.ins KC dx [("triples", .ref ra), ("sorts", .ref D), ("spots", .ref D2), ("modes", .int n), ("steps", .ref rb)]) = H9 at e09 b89 hs9 x9
  have b79 : Same (Off x (Off s H7)) (Off x (Off s H9)) := by
    rw [b89]
    exact same_off (same_off e8)
  rw [← b89] at trb al9
  have sl : svs.length ≤ 6 := by rw [al9.1]; exact ok.cle
  -- table
  refine ⟨_, rfl, x, KC, dx, _, .ref rb, rfl, x9, Z.cls, Z.steps, rfl, rb, rfl, ⟨svs, same_t (off_same.trans off_same) trb⟩, fun D3 hD3 => ?_⟩
  refine dc_it (walk_tup (K := K) (a := rb) (xs := svs)) (fun i H' => Same H9 H' ∧ H' D3 = some (.dK ((tableV cs svs).take i))) ⟨same_new (Same.refl H9) hD3, upd_same⟩ (fun i H' _ h => same_t ((off_same.trans off_same).trans h.1) trb) ?_ ?_
  · rintro i v Ha' Ha hi ⟨ea, da⟩ ⟨rfl, hv⟩
    obtain ⟨c', hc', m', d', s', ds', ⟨u, rfl, hu⟩, _⟩ := al9.get hv
    refine ⟨rfl, ?_⟩
    refine ⟨_, rfl, u, _, 0, .str c'.nm, rfl, rfl, same_t ((off_same.trans off_same).trans ea) hu, rfl, _, rfl, _, .inr c'.nm, rfl, da, ?_, fun b o hb => ?_, ?_⟩
    · exact Nat.lt_of_le_of_lt (Nat.le_trans (List.length_take_le' ..) (by rw [table_len al9.1]; exact ok.cle)) (by decide)
    · rw [upd_ne (ne_of_none hb hD3)]
      exact ea _ _ hb
    · rw [upd_same, put_take (table_nd ok.nd al9.1) (table_at hc' hv)]
  rintro Ha ⟨ea, da⟩
  rw [show svs.length = (tableV cs svs).length by rw [table_len al9.1]; exact al9.1, List.take_length] at da
  have xa := ea _ _ x9
  refine ⟨_, rfl, x, KC, dx, _, rfl, xa, Z.cls, Z.table, by simp, ?_⟩
  have D3x : D3 ≠ x := fun e => by rw [e, xa] at da; cases da
  have D3s : D3 ≠ s := ne_s hs9 (Same.refl H9) hD3
  show Q .non (upd Ha x (.ins KC dx [("triples", .ref ra), ("sorts", .ref D), ("spots", .ref D2), ("modes", .int n), ("steps", .ref rb), ("table", .ref D3)]))
  have b9a : Same (Off x (Off s H9)) (Off s (upd Ha x (.ins KC dx [("triples", .ref ra), ("sorts", .ref D), ("spots", .ref D2), ("modes", .int n), ("steps", .ref rb), ("table", .ref D3)]))) := by
    refine Same.trans (H1 := Off x (Off s (upd Ha x (.ins KC dx [("triples", .ref ra), ("sorts", .ref D), ("spots", .ref D2), ("modes", .int n), ("steps", .ref rb), ("table", .ref D3)])))) ?_ off_same
    rw [hB]
    exact same_off (same_off ea)
  refine k _ ((e09.trans (same_sx ea)).put) ⟨x, dx, D, D2, D3, .ref ra, .ref rb, rvs, svs, rfl, ?_, ⟨ra, rfl, same_t ((b27.trans b79).trans b9a) F2.1⟩, F2.2.mono fun _ _ h => FdT.keep ((b27.trans b79).trans b9a) h, ((b47.trans b79).trans b9a) _ _ d4, (b79.trans b9a) _ _ d6, ⟨rb, rfl, same_t b9a trb⟩, al9.mono fun _ _ h => CdT.keep b9a h, ?_⟩
  · rw [off_ne xs, upd_same]
  · rw [off_ne D3s, upd_ne D3x]
    exact da
end
end MK
set_option Elab.async false
set_option linter.all false
set_option autoImplicit false
set_option maxRecDepth 100000
set_option maxHeartbeats 4000000
namespace MK
open PySem PySem.Spec PyProof.Rows L2
local macro_rules | `(tactic| walk_at "x") => `(tactic| dsimp only [tSeq, tAsg, tRet, tDrop, tLst, tTup, tCons, tOp, tUn, tIfS])
/-! ### things in a drawn order -/
abbrev s_mix : Stmt := topS 56
theorem sc_mix : FnScope ["_law_state", "_law_things", "_law_left", "_law_found"] ["_law_state", "_law_things"] (defScope s_mix) := ⟨rfl, rfl, rfl, by decide +kernel, rfl, by decide +kernel, by decide +kernel⟩
def spMix (K : PySem.W.Frag) : Sp := fun vs H Q _ => ∃ (s c l : Addr) (ns : List Int) (zs : List Str), vs = [.ref s, .ref l] ∧ StA H s c ns ∧ ns.length ≤ 63 ∧ SqL K H l (zs.map V.str) ∧ zs.length < 1000 ∧ (∀ z ∈ zs, PyData.strOk z = true) ∧
  ∀ (a : Addr) (ys : List Str) H', ys.Perm zs → H a = none → H' a = some (.lst (ys.map V.str)) → SameX s H H' → StA H' s c ns → Q (.ref a) H'
section
variable {P : Program} {w : World} {K : PySem.W.Frag} {mg : Str → Option Value} {base : Heap}
def lenAt (a : Addr) (H : Hp) : Nat := match H a with
  | some (.lst xs) => xs.length
  | _ => 0
theorem StA.put {H : Hp} {s c a : Addr} {ns : List Int} {o : HO} (x : StA H s c ns) (h1 : a ≠ s) (h2 : a ≠ c) : StA (upd H a o) s c ns := by
  obtain ⟨n, e1, p, q, m, e2⟩ := x
  exact ⟨n, (upd_ne (Ne.symm h2)).trans e1, p, q, m, (upd_ne (Ne.symm h1)).trans e2⟩
theorem StA.ne {H : Hp} {s c a : Addr} {ns : List Int} (x : StA H s c ns) (h : H a = none) : a ≠ s ∧ a ≠ c := by
  obtain ⟨n, e1, p, q, m, e2⟩ := x
  exact ⟨fun e => (by rw [e, e2] at h; cases h), fun e => (by rw [e, e1] at h; cases h)⟩
theorem ok_mix {f : Addr} {fd : FuncData} (F : DefX K mg "_law_mix" s_mix ["_law_state", "_law_things"] f fd) (T : Txt K mg) (c_take : Cal P w K mg base CX0 2 "_law_take" spTake) : Cal P w K mg base CX0 3 "_law_mix" (spMix K) := by
  refine cal_mk F sc_mix (fun vs H Q E h => ?_) (fun cdv A outer sh H vs Q E hr h => ?_)
  · obtain ⟨s, c, l, ns, zs, rfl, _⟩ := h
    rfl
  · obtain ⟨s, c, l, ns, zs, rfl, h0, hl, hx, hz, hok, k⟩ := h
    refine ⟨_, (pss_cons (ps_par (i := 2) (j := 3) (by rfl) sc_mix.nd rfl rfl (by decide) rfl rfl (pa_cons (pe_callTy call_list_of (by rfl) T.list (by decide +kernel) (pa_cons (pv 1) pa_nil)) (pa_cons (pe_lst pa_nil) pa_nil)) (by rfl))
(pss_cons (ps_while PassesOwn.never (pt_cmpR (op_neD hr.units) (pv 2) (pe_lst pa_nil) (nomark _))
(pss_one (ps_expr (pe_bm PySem.F.plainAttrs_list PySem.F.slot_list_append PySem.F.type_list_append mt_append (pv 3) (pa_cons (pe_bm PySem.F.plainAttrs_list PySem.F.slot_list_pop PySem.F.type_list_pop mt_popAt (pv 2) (pa_cons (pe_c c_take hr (by first | decide | assumption) rfl (pa_cons (pv 0) (pa_cons (pe_callB call_len_seq (by rfl) T.len (by decide +kernel) (pa_cons (pv 2) pa_nil)) pa_nil))) pa_nil)) pa_nil)))))
(pss_one (ps_ret (pv 3))))), ?_⟩
    refine ⟨_, rfl, l, _, rfl, .inl hx, fun a ha => ?_⟩
    refine ⟨by show 0 ≤ sizeLine; decide, fun b hb => ?_⟩
    obtain ⟨ba, hb0⟩ := upd_none hb
    have hs0 : H s ≠ none := by
      obtain ⟨_, _, _, _, _, e⟩ := h0
      rw [e]
      exact nofun
    have sa : a ≠ s := fun e => hs0 (e ▸ ha)
    have sb : b ≠ s := fun e => hs0 (e ▸ hb0)
    have hb1 : upd (upd H a (.lst (zs.map V.str))) b (.lst []) a = some (.lst (zs.map V.str)) := by rw [upd_ne (Ne.symm ba), upd_same]
    refine ⟨_, _, rfl, ?_⟩
    refine while_by (fun σ H2 => SameX s H H2 ∧ StA H2 s c ns ∧ ∃ ls fs : List Str, (fs ++ ls).Perm zs ∧ H2 a = some (.lst (ls.map V.str)) ∧ H2 b = some (.lst (fs.map V.str)) ∧ σ = [some (.ref s), some (.ref l), some (.ref a), some (.ref b)]) (fun _ H2 => lenAt a H2) ?_ ?_ (fun σ H Q Q' h x => ?_)
    · refine ⟨((SameX.refl s H).putN ha).putN hb0, h0.keep (same_new (same_new (Same.refl H) ha) hb), zs, [], by simp, hb1, upd_same, rfl⟩
    · rintro σ H2 ⟨e2, h2, ls, fs, hp, ea, eb, rfl⟩
      have okl : ∀ z ∈ ls, PyData.strOk z = true := fun z m => hok z (hp.mem_iff.mp (List.mem_append_right _ m))
      refine ⟨_, rfl, by show 0 ≤ sizeLine; decide, fun p hp2 => ?_⟩
      have e3 : Same H2 (upd H2 p (.lst [])) := same_new (Same.refl H2) hp2
      refine ⟨_, _, .lst (SqL.of (e3 _ _ ea)) (dp_strs ls), .lst (SqL.of upd_same) .nil, strs_shaped ls okl, strs_shaped [] nofun, _, rfl, ?_⟩
      rw [eqv_nil]
      refine ite2 (fun h1 => ?_) (fun h1 => ?_)
      · cases ls with
        | nil => cases h1
        | cons z0 ls =>
        have lz : (z0 :: ls).length < 1000 := by
          have := hp.length_eq
          rw [List.length_append] at this
          omega
        refine ⟨_, rfl, (.inl ⟨rfl, _, SqL.of (e3 _ _ eb)⟩), _, rfl, (.inl ⟨rfl, _, SqL.of (e3 _ _ ea)⟩), _, rfl, _, rfl, a, _, rfl, .inl (SqL.of (e3 _ _ ea)), s, c, ns, _, rfl, h2.keep e3, hl, by rw [List.length_map, List.length_cons]; omega, by rw [List.length_map]; omega, fun d H4 hd e4 h4 => ?_⟩
        rw [List.length_map] at hd
        have hdl : d < (z0 :: ls).length := by omega
        have a4 := e4 _ _ (e3 _ _ ea) sa
        have b4 := e4 _ _ (e3 _ _ eb) sb
        refine ⟨a, _, _, d, .str (z0 :: ls)[d], rfl, rfl, a4, by omega, by omega, seqIndex_nat (by rw [List.length_map]; exact hdl), by rw [List.getElem?_map, List.getElem?_eq_getElem hdl]; rfl, ?_⟩
        have fl : fs.length < 1000 := by
          have := hp.length_eq
          rw [List.length_append] at this
          omega
        refine ⟨b, _, _, rfl, rfl, (upd_ne ba).trans b4, by rw [List.length_map]; exact Nat.lt_of_lt_of_le fl (by decide), ?_⟩
        refine ⟨⟨(((e2.trans (same_sx e3)).trans e4).putN ha).putN hb0, ?_, (z0 :: ls).eraseIdx d, fs ++ [(z0 :: ls)[d]], ?_, ?_, ?_, rfl⟩, ?_⟩
        · exact (h4.put (h0.ne ha).1 (h0.ne ha).2).put (h0.ne hb0).1 (h0.ne hb0).2
        · rw [List.append_assoc]
          exact ((perm_erase (z0 :: ls) d hdl).append_left fs).trans hp
        · rw [upd_ne (Ne.symm ba), upd_same, eraseIdx_mapV]
        · rw [upd_same, List.map_append]
          rfl
        · show lenAt a _ < lenAt a _
          unfold lenAt
          rw [upd_ne (Ne.symm ba), upd_same, ea]
          show (List.eraseIdx _ _).length < (List.map V.str (z0 :: ls)).length
          rw [List.length_eraseIdx, List.length_map, if_pos hdl]
          omega
      · cases ls with
        | cons z0 ls => exact absurd rfl h1
        | nil =>
        refine ⟨_, rfl, ?_⟩
        exact k b fs _ (by simpa using hp) hb0 (e3 _ _ eb) (e2.trans (same_sx e3)) (h2.keep e3)
    · obtain ⟨v, h1, h2, h3⟩ := x
      exact ⟨v, h1, h2, fun p hp => by
        obtain ⟨d, e, a1, a2, a3, a4, k, a5, a6⟩ := h3 p hp
        exact ⟨d, e, a1, a2, a3, a4, k, a5, h _ _ a6⟩⟩
end
end MK
set_option Elab.async false
set_option linter.all false
set_option autoImplicit false
set_option maxRecDepth 100000
set_option maxHeartbeats 4000000
namespace MK
open PySem PySem.Spec PyProof.Rows L2
local macro_rules | `(tactic| walk_at "x") => `(tactic| dsimp only [tSeq, tAsg, tRet, tDrop, tLst, tTup, tCons, tOp, tUn, tIfS])
/-! ### drawn deeds -/
abbrev s_deeds : Stmt := topS 66
theorem sc_deeds : FnScope ["_law_state", "_law_fields", "_law_many", "_law_found", "_law_busy", "_law_k", "_law_name", "_law_sort", "_law_need", "_law_some", "_law_deed"] ["_law_state", "_law_fields", "_law_many"] (defScope s_deeds) := ⟨rfl, rfl, rfl, by decide +kernel, rfl, by decide +kernel, by decide +kernel⟩
def spDeeds (K : PySem.W.Frag) : Sp := fun vs H Q _ => ∃ (s c l : Addr) (ns : List Int) (n : Int) (fvs : List V) (fs : List FD), vs = [.ref s, .ref l, .int n] ∧ StA H s c ns ∧ ns.length ≤ 63 ∧ Off s H l = some (.lst fvs) ∧ Al (FdT K (Off s H)) fvs fs ∧ 0 < fs.length ∧ fs.length < 10 ∧ 0 ≤ n ∧ n < 10 ∧
  ∀ (a : Addr) (ds : List (Str × Str)) (dvs : List V) H', H a = none → Off s H' a = some (.lst dvs) → Al (DeT K (Off s H')) dvs ds → (ds.length : Int) ≤ n → (∀ d ∈ ds, DeOk fs d) → (worded ds).Nodup → SameX s H H' → StA H' s c ns → Q (.ref a) H'
section
variable {P : Program} {w : World} {K : PySem.W.Frag} {mg : Str → Option Value} {base : Heap}
theorem ok_deeds {f : Addr} {fd : FuncData} (F : DefX K mg "_law_deeds" s_deeds ["_law_state", "_law_fields", "_law_many"] f fd) (T : Txt K mg) (c_take : Cal P w K mg base CX0 2 "_law_take" spTake) (c_one : Cal P w K mg base CX0 3 "_law_one" (spOne K)) : Cal P w K mg base CX0 4 "_law_deeds" (spDeeds K) := by
  refine cal_mk F sc_deeds (fun vs H Q E h => ?_) (fun cdv A outer sh H vs Q E hr h => ?_)
  · obtain ⟨s, c, l, ns, n, fvs, fs, rfl, _⟩ := h
    rfl
  · obtain ⟨s, c, l, ns, n, fvs, fs, rfl, h0, hl, hx, hfs, f0, f1, n0, n1, k⟩ := h
    refine ⟨_, (pss_cons (ps_par (i := 3) (j := 4) (by rfl) sc_deeds.nd rfl rfl (by decide) rfl rfl (pa_cons (pe_lst pa_nil) (pa_cons (pe_lst pa_nil) pa_nil)) (by rfl))
(pss_cons (ps_for PassesOwn.never rfl (pi_range1 (by rfl) T.range (pa_cons (pe_c c_take hr (by first | decide | assumption) rfl (pa_cons (pv 0) (pa_cons (pe_op op_add (pv 2) pe_int) pa_nil))) pa_nil)) (pg_name (i := 5) sc_deeds.nd rfl (Or.inl rfl))
(pss_cons (ps_asg (pe_c c_one hr (by first | decide | assumption) rfl (pa_cons (pv 0) (pa_cons (pv 1) pa_nil))) (pg_tup (by rfl) (pgs_cons (pg_name (i := 6) sc_deeds.nd rfl (Or.inl rfl)) (pgs_cons (pg_name (i := 7) sc_deeds.nd rfl (Or.inl rfl)) (pgs_cons (pg_name (i := 8) sc_deeds.nd rfl (Or.inl rfl)) pgs_nil)))))
(pss_cons (ps_set (i := 9) sc_deeds.nd rfl (Or.inl rfl) (pe_cut (pe_ifExp (pt_cmpR op_eq (pv 7) pe_str (nomark _)) (pe_lst (pa_cons pe_str (pa_cons pe_str pa_nil))) (pe_lst (pa_cons pe_str (pa_cons pe_str (pa_cons pe_str (pa_cons pe_str (pa_cons pe_str pa_nil)))))))))
(pss_cons (ps_set (i := 10) sc_deeds.nd rfl (Or.inl rfl) (pe_c c_one hr (by first | decide | assumption) rfl (pa_cons (pv 0) (pa_cons (pv 9) pa_nil))))
(pss_one (ps_if (pt_cut (PW.pt (pw_or (pt_cmpR op_notIn_seq (pv 10) (pe_tup (pa_cons pe_str (pa_cons pe_str pa_nil))) (by rfl)) (pw_or1 (pt_cmpR op_notIn_seq (pv 6) (pv 4) (by rfl))))))
(pss_cons (ps_set (i := 4) sc_deeds.nd rfl (Or.inl rfl) (pe_op op_cat (pv 4) (pe_op op_rep (pe_lst (pa_cons (pv 6) pa_nil)) (pe_callTy call_int1 (by rfl) T.int (by decide +kernel) (pa_cons (pe_cmpR op_in_seq (pv 10) (pe_tup (pa_cons pe_str (pa_cons pe_str pa_nil))) (by rfl)) pa_nil)))))
(pss_one (ps_expr (pe_bm PySem.F.plainAttrs_list PySem.F.slot_list_append PySem.F.type_list_append mt_append (pv 3) (pa_cons (pe_tup (pa_cons (pv 10) (pa_cons (pv 6) pa_nil))) pa_nil)))))
pss_nil))))))
(pss_one (ps_ret (pv 3))))), ?_⟩
    have ls : l ≠ s := fun e => by rw [e, off_s] at hx; cases hx
    refine ⟨by show 0 ≤ sizeLine; decide, fun a ha => ⟨by show 0 ≤ sizeLine; decide, fun b hb => ⟨_, _, rfl, ?_⟩⟩⟩
    obtain ⟨ba, hb0⟩ := upd_none hb
    obtain ⟨as, ac⟩ := h0.ne ha
    obtain ⟨bs, bc⟩ := h0.ne hb0
    have e1 : SameX s H (upd (upd H a (.lst [])) b (.lst [])) := ((SameX.refl s H).putN ha).putN hb0
    refine ⟨_, rfl, _, rfl, _, _, rfl, rfl, s, c, ns, n + 1, rfl, (h0.put as ac).put bs bc, hl, by omega, by omega, fun d H2 hd e2 h2 => ?_⟩
    have a2 := e2 _ _ ((upd_ne (Ne.symm ba)).trans upd_same) as
    have b2 := e2 _ _ upd_same bs
    refine ⟨(d : Int), rfl, by omega, by omega, ?_⟩
    refine for_it walk_range (fun i σ H2 => SameX s H H2 ∧ StA H2 s c ns ∧ ∃ (ds : List (Str × Str)) (dvs : List V) (b : Addr), H2 a = some (.lst dvs) ∧ H2 b = some (.lst ((worded ds).map V.str)) ∧ b ≠ s ∧ b ≠ a ∧
      Al (DeT K (Off a (Off s H2))) dvs ds ∧ ds.length ≤ i ∧ (∀ d ∈ ds, DeOk fs d) ∧ (worded ds).Nodup ∧ ∃ x5 x6 x7 x8 x9 x10, σ = [some (.ref s), some (.ref l), some (.int n), some (.ref a), some (.ref b), x5, x6, x7, x8, x9, x10])
      ⟨e1.trans e2, h2, [], [], b, a2, b2, bs, ba, Al.nil, Nat.le_refl _, nofun, List.nodup_nil, none, none, none, none, none, none, rfl⟩ (fun _ _ _ _ _ => trivial) ?_ ?_
    · rintro i x σ H3' H3 hi ⟨e3, h3, ds, dvs, b, ea, eb, bs, ba, hal, hln, hok, hnd, x5, x6, x7, x8, x9, x10, rfl⟩ ⟨rfl, rfl⟩
      have hi10 : i < 10 := by
        have : i < d := hi
        omega
      have fl : fvs.length < 10 := by rw [hfs.1]; exact f1
      refine ⟨_, rfl, _, rfl, s, c, l, ns, fvs, rfl, h3, hl, ls, .inl (SqL.of (e3 _ _ (off_get hx) ls)), by rw [hfs.1]; exact f0, by omega, fun j v H4 hj e4 h4 => ?_⟩
      obtain ⟨f, hfj, hft⟩ := hfs.get hj
      have e04 := e3.trans e4
      obtain ⟨u, rfl, hu⟩ := (FdT.keep e04.off hft)
      have hu : SqT K H4 u (FdV f) := same_t off_same hu
      refine ⟨u, _, rfl, hu, rfl, _, _, rfl, _, _, rfl, _, _, rfl, rfl, ?_⟩
      refine ⟨fun v H5 => ∃ (q : Addr) (zs : List Str), v = .ref q ∧ H4 q = none ∧ H5 = upd H4 q (.lst (zs.map V.str)) ∧ 0 < zs.length ∧ zs.length < 10 ∧ ∀ z ∈ zs, f.many ∈ deedSorts z, ?_, ?_⟩
      · refine ⟨_, rfl, rfl, _, rfl, ?_⟩
        refine ite2 (fun h1 => ⟨by show 2 ≤ sizeLine; decide, fun q hq => ⟨q, ["set", "clear"], rfl, hq, rfl, by decide, by decide, ?_⟩⟩) (fun h1 => ⟨by show 5 ≤ sizeLine; decide, fun q hq => ⟨q, ["add", "add", "strike", "clear", "fresh"], rfl, hq, rfl, by decide, by decide, ?_⟩⟩)
        · have h2 : sortS f.many = "one" := by
            have := of_decide_eq_true h1
            exact V.str.inj this
          have : f.many = false := by
            cases e : f.many with
            | false => rfl
            | true =>
              rw [e] at h2
              exact absurd h2 (by decide)
          rw [this]
          decide
        · have : f.many = true := by
            cases e : f.many with
            | true => rfl
            | false =>
              rw [e] at h1
              exact absurd rfl (fun h => h1 (decide_eq_true h))
          rw [this]
          decide
      rintro _ _ ⟨q, zs, rfl, hq, rfl, z0, z1, hz⟩
      have e5 : Same H4 (upd H4 q (.lst (zs.map V.str))) := same_new (Same.refl H4) hq
      have qs := (h4.ne hq).1
      -- the deed
      refine ⟨_, rfl, _, rfl, s, c, q, ns, _, rfl, h4.keep e5, hl, qs, .inl (SqL.of upd_same), by rw [List.length_map]; exact z0, by rw [List.length_map]; omega, fun j2 v H6 hj2 e6 h6 => ?_⟩
      rw [List.getElem?_map] at hj2
      obtain ⟨z, hz2, rfl⟩ := Option.map_eq_some_iff.mp hj2
      have hzm := hz z (List.mem_of_getElem? hz2)
      have e46 : SameX s H3 H6 := (e4.trans (same_sx e5)).trans e6
      have a6 := e46 _ _ ea as
      have b6 := e46 _ _ eb bs
      have hal6 : Al (DeT K (Off a (Off s H6))) dvs ds := hal.mono fun _ _ h => DeT.keep (same_off e46.off) h
      have kp : ∀ {H' : Hp}, Same H6 H' → SameX s H H' ∧ StA H' s c ns ∧ Al (DeT K (Off a (Off s H'))) dvs ds := fun e => ⟨(e3.trans e46).trans (same_sx e), h6.keep e, hal6.mono fun _ _ h => DeT.keep (same_off (same_off e)) h⟩
      have dl : dvs.length < 1000 := by rw [hal.1]; omega
      have wl : (worded ds).length < 1000 := by
        have : (worded ds).length ≤ ds.length := by unfold worded; rw [List.length_map]; exact List.length_filter_le ..
        omega
      -- the test
      refine ⟨fun t H7 => Same H6 H7 ∧ (t = true → (z = "add" ∨ z = "strike") → f.nm ∉ worded ds), ?_, ?_⟩
      · refine ⟨_, rfl, by show 2 ≤ sizeLine; decide, fun p hp => ?_⟩
        have e7 : Same H6 (upd H6 p (.tup [.str "add", .str "strike"])) := same_new (Same.refl H6) hp
        refine ⟨p, _, rfl, .inr (SqT.of upd_same), rfl, rfl, _, rfl, ?_⟩
        rw [show ([.str "add", .str "strike"] : List V) = (["add", "strike"] : List Str).map V.str from rfl, inV_strs]
        refine ite2 (fun h1 => ⟨e7, fun _ h2 => ?_⟩) (fun h1 => ?_)
        · have hm : z ∈ (["add", "strike"] : List Str) := by rcases h2 with rfl | rfl <;> decide
          rw [decide_eq_true hm] at h1
          cases h1
        · refine ⟨_, rfl, _, rfl, b, _, rfl, .inl (SqL.of (e7 _ _ b6)), rfl, flat_strs _, ?_⟩
          rw [inV_strs]
          refine ⟨_, rfl, e7, fun h2 _ hm => ?_⟩
          rw [decide_eq_true hm] at h2
          cases h2
      rintro t H7 ⟨e7, ht⟩
      refine ite2 (fun h1 => ?_) (fun h1 => ?_)
      · refine ⟨_, rfl, _, rfl, by show 1 ≤ sizeLine; decide, fun p hp => ?_⟩
        refine ⟨_, rfl, by show 2 ≤ sizeLine; decide, fun p2 hp2 => ⟨p2, _, rfl, .inr (SqT.of upd_same), rfl, rfl, .inr ⟨_, rfl, ?_⟩⟩⟩
        rw [show ([.str "add", .str "strike"] : List V) = (["add", "strike"] : List Str).map V.str from rfl, inV_strs]
        have e8 : Same H6 (upd (upd H7 p (.lst [.str f.nm])) p2 (.tup ((["add", "strike"] : List Str).map V.str))) := same_new (same_new e7 hp) hp2
        have p8 : upd (upd H7 p (.lst [.str f.nm])) p2 (.tup ((["add", "strike"] : List Str).map V.str)) p = some (.lst [.str f.nm]) := by
          rw [upd_ne (Ne.symm (upd_none hp2).1), upd_same]
        obtain ⟨m, hm, m1, hw⟩ : ∃ m : Nat, (if (if false = true then !decide (z ∈ (["add", "strike"] : List Str)) else decide (z ∈ (["add", "strike"] : List Str))) = true then (1 : Int) else 0) = (m : Int) ∧ m ≤ 1 ∧ worded (ds ++ [(z, f.nm)]) = worded ds ++ List.replicate m f.nm := by
          rw [worded_snoc]
          by_cases q : z ∈ (["add", "strike"] : List Str)
          · refine ⟨1, by rw [decide_eq_true q]; rfl, Nat.le_refl _, ?_⟩
            rw [if_pos (by simpa using q)]
            rfl
          · refine ⟨0, by rw [decide_eq_false q]; rfl, by decide, ?_⟩
            rw [if_neg (by simpa using q)]
            rfl
        refine ⟨p, m, _, rfl, congrArg V.int hm, p8, by omega, by omega, ?_, fun p3 hp3 => ?_⟩
        · rw [Int.toNat_natCast]
          show 1 * m ≤ sizeLine
          exact Nat.le_trans (by omega : 1 * m ≤ 1) (by decide)
        rw [Int.toNat_natCast, rep_flat]
        have e9 := same_new e8 hp3 (o := .lst ((List.replicate m f.nm).map V.str))
        refine ⟨b, p3, _, _, rfl, rfl, e9 _ _ b6, upd_same, ?_, fun p4 hp4 => ?_⟩
        · rw [List.length_map, List.length_map, List.length_replicate]
          exact Nat.le_trans (by omega : (worded ds).length + m ≤ 1001) (by decide)
        rw [← List.map_append, ← hw]
        have e10 := same_new e9 hp4 (o := .lst ((worded (ds ++ [(z, f.nm)])).map V.str))
        refine ⟨_, rfl, .inl ⟨rfl, _, SqL.of (e10 _ _ a6)⟩, _, rfl, _, rfl, by show 2 ≤ sizeLine; decide, fun p5 hp5 => ?_⟩
        have e11 := same_new e10 hp5 (o := .tup [.str z, .str f.nm])
        refine ⟨a, _, _, rfl, rfl, e11 _ _ a6, Nat.lt_of_lt_of_le dl (by decide), ?_⟩
        obtain ⟨k1, k2, k3⟩ := kp e11
        have n4 := (h6.keep e9).ne hp4
        have n4a : p4 ≠ a := fun e => by rw [e, e9 _ _ a6] at hp4; cases hp4
        have n5 := (h6.keep e10).ne hp5
        have n5a : p5 ≠ a := fun e => by rw [e, e10 _ _ a6] at hp5; cases hp5
        refine ⟨k1.putN ha, k2.put as ac, ds ++ [(z, f.nm)], dvs ++ [.ref p5], p4, upd_same, ?_, n4.1, n4a, ?_, ?_, ?_, ?_, _, _, _, _, _, _, rfl⟩
        · rw [upd_ne n4a, upd_ne (fun e => by rw [← e, upd_same] at hp5; cases hp5), upd_same]
        · rw [off_upd as, off_put]
          exact k3.snoc (Tu.tup (by rw [off_ne n5a, off_ne n5.1, upd_same]; rfl))
        · rw [List.length_append]
          exact Nat.succ_le_succ hln
        · intro d' hd'
          rcases List.mem_append.mp hd' with h | h
          · exact hok d' h
          · obtain rfl := List.mem_singleton.mp h
            exact ⟨f, List.mem_of_getElem? hfj, rfl, hzm⟩
        · rw [worded_snoc]
          by_cases q : z = ("add" : Str) ∨ z = ("strike" : Str)
          · rw [if_pos q]
            exact List.nodup_append.mpr ⟨hnd, by simp, fun x hx y hy e => ht h1 q (by have e2 : y = f.nm := List.mem_singleton.mp hy; rw [← e2, ← e]; exact hx)⟩
          · rw [if_neg q, List.append_nil]
            exact hnd
      · obtain ⟨k1, k2, k3⟩ := kp e7
        exact ⟨k1, k2, ds, dvs, b, e7 _ _ a6, e7 _ _ b6, bs, ba, k3, Nat.le_succ_of_le hln, hok, hnd, _, _, _, _, _, _, rfl⟩
    · rintro σ H3 ⟨e3, h3, ds, dvs, b, ea, eb, bs, ba, hal, hln, hok, hnd, x5, x6, x7, x8, x9, x10, rfl⟩
      refine ⟨_, rfl, ?_⟩
      have hd' : ds.length ≤ d := hln
      exact k a ds dvs H3 ha ((off_ne as).trans ea) (hal.mono fun _ _ h => DeT.keep off_same h) (by omega) hok hnd e3 h3
end
end MK
set_option Elab.async false
set_option linter.all false
set_option autoImplicit false
set_option maxRecDepth 100000
set_option maxHeartbeats 4000000
namespace MK
open PySem PySem.Spec PyProof.Rows L2
local macro_rules | `(tactic| walk_at "x") => `(tactic| dsimp only [tSeq, tAsg, tRet, tDrop, tLst, tTup, tCons, tOp, tUn, tIfS])
/-! ### a drawn call -/
abbrev s_call : Stmt := topS 67
theorem sc_call : FnScope ["_law_state", "_law_name", "_law_hand", "_law_fields", "_law_far", "_law_some", "_law_k", "_law_moves", "_law_x", "_law_lists", "_law_deeds_here"] ["_law_state", "_law_name", "_law_hand", "_law_fields", "_law_far"] (defScope s_call) := ⟨rfl, rfl, rfl, by decide +kernel, rfl, by decide +kernel, by decide +kernel⟩
def spCall (K : PySem.W.Frag) : Sp := fun vs H Q _ => ∃ (s c l : Addr) (ns : List Int) (nm hd : Str) (far : Nat) (fvs : List V) (fs : List FD), vs = [.ref s, .str nm, .str hd, .ref l, .int far] ∧ StA H s c ns ∧ ns.length ≤ 63 ∧ Off s H l = some (.lst fvs) ∧ Al (FdT K (Off s H)) fvs fs ∧ 0 < fs.length ∧ fs.length < 10 ∧
  (fs.map (·.nm)).Nodup ∧ 1 ≤ far ∧ far ≤ 4 ∧ wordB nm = true ∧ (hd = "self" ∨ hd = "new" ∨ hd = "last") ∧
  ∀ (v : V) (cd : CD) H', cd.nm = nm → cd.hand = hd → CdN K H (Off s H') v cd → CdOk fs far cd → SameX s H H' → StA H' s c ns → Q v H'
section
variable {P : Program} {w : World} {K : PySem.W.Frag} {mg : Str → Option Value} {base : Heap}
theorem ok_call {f : Addr} {fd : FuncData} (F : DefX K mg "_law_call" s_call ["_law_state", "_law_name", "_law_hand", "_law_fields", "_law_far"] f fd) (T : Txt K mg) (c_take : Cal P w K mg base CX0 2 "_law_take" spTake) (c_one : Cal P w K mg base CX0 3 "_law_one" (spOne K)) (c_deeds : Cal P w K mg base CX0 4 "_law_deeds" (spDeeds K)) : Cal P w K mg base CX0 5 "_law_call" (spCall K) := by
  refine cal_mk F sc_call (fun vs H Q E h => ?_) (fun cdv A outer sh H vs Q E hr h => ?_)
  · obtain ⟨s, c, l, ns, nm, hd, far, fvs, fs, rfl, _⟩ := h
    rfl
  · obtain ⟨s, c, l, ns, nm, hd, far, fvs, fs, rfl, h0, hl, hx, hfs, f0, f1, fnd, far0, far1, hw, hh, k⟩ := h
    refine ⟨_, (pss_cut (ps_set (i := 5) sc_call.nd rfl (Or.inr rfl) (pe_op op_cat (pe_op op_rep (pe_listRg rfl (by rfl) T.list (prg_1 (by rfl) T.range (pv 4))) pe_int) (pe_op op_rep (pe_lst (pa_cons (pe_un un_neg pe_int) pa_nil)) (pe_callTy call_int1 (by rfl) T.int (by decide +kernel) (pa_cons (pe_cmpR op_gt (pv 4) pe_int (nomark _)) pa_nil)))))
(pss_cut (ps_setLc (i := 7) (own := [("_law_k", 6)]) (g := (gName 6)) (tt := tYes) rfl sc_call.nd rfl rfl (sw_true rfl rfl rfl (by decide +kernel)) (pi_range1 (by rfl) T.range (pa_cons (pv 4) pa_nil)) (blkOk_by (own := [("_law_k", 6)]) (N := ["_law_state", "_law_name", "_law_hand", "_law_fields", "_law_far", "_law_some", "_law_k", "_law_moves", "_law_x", "_law_lists", "_law_deeds_here"]) (sc := defScope s_call) (by decide +kernel)) (fun _ _ _ _ _ => (pg_name (i := 6) sc_call.nd rfl (Or.inl rfl))) (fun _ _ _ _ _ => pts_nil) (fun _ _ _ _ _ => (pe_c c_one hr (by first | decide | assumption) rfl (pa_cons (pv 0) (pa_cons (pv 5) pa_nil)))))
(pss_cut (ps_setLc (i := 9) (own := [("_law_x", 8)]) (g := (gName 8)) rfl sc_call.nd rfl rfl (sw_true rfl rfl rfl (by decide +kernel)) (pi_list (pv 3)) (blkOk_by (own := [("_law_x", 8)]) (N := ["_law_state", "_law_name", "_law_hand", "_law_fields", "_law_far", "_law_some", "_law_k", "_law_moves", "_law_x", "_law_lists", "_law_deeds_here"]) (sc := defScope s_call) (by decide +kernel)) (fun _ _ _ _ _ => (pg_name (i := 8) sc_call.nd rfl (Or.inl rfl))) (fun _ _ _ _ _ => (pts_one (pt_cut (PW.pt (pw_and (pt_cmpR op_eq (pe_ix (ix_tupK (K := K) rfl) (pv 8) pe_int (fun _ _ => rfl)) pe_str (nomark _)) (pw_and1 (pt_cmpR op_eq (pe_c c_take hr (by first | decide | assumption) rfl (pa_cons (pv 0) (pa_cons pe_int pa_nil))) pe_int (nomark _)))))))) (fun _ _ _ _ _ => (pe_ix (ix_tupK (K := K) rfl) (pv 8) pe_int (fun _ _ => rfl))))
(pss_cons (ps_set (i := 10) sc_call.nd rfl (Or.inl rfl) (pe_c c_deeds hr (by first | decide | assumption) rfl (pa_cons (pv 0) (pa_cons (pv 3) (pa_cons (pe_c c_one hr (by first | decide | assumption) rfl (pa_cons (pv 0) (pa_cons (pe_lst (pa_cons pe_int (pa_cons pe_int (pa_cons pe_int (pa_cons pe_int pa_nil))))) pa_nil))) pa_nil)))))
(pss_one (ps_ret (pe_tup (pa_cons (pv 1) (pa_cons (pv 2) (pa_cons (pv 7) (pa_cons (pv 10) (pa_cons (pe_cut (pe_ifExp (pt_cmpR op_ne (pv 2) pe_str (nomark _)) (pv 9) (pe_lst pa_nil))) pa_nil)))))))))))), ?_⟩
    have ls : l ≠ s := fun e => by rw [e, off_s] at hx; cases hx
    have fl : fvs.length < 10 := by rw [hfs.1]; exact f1
    refine ⟨fun σ H5 => ∃ q5 x6 x7 x8 x9 x10, ∃ m : Nat, m ≤ 1 ∧ Same H H5 ∧ q5 ≠ s ∧ H5 q5 = some (.lst (smV (far : Int) m)) ∧ σ = [some (.ref s), some (.str nm), some (.str hd), some (.ref l), some (.int far), some (.ref q5), x6, x7, x8, x9, x10], ?_, ?_⟩
    · refine ⟨_, rfl, (far : Int), rfl, RgOk.of_le (by omega) (by omega) (by omega) (by omega), fun q hq => ?_⟩
      have e1 := same_new (Same.refl H) hq (o := .lst (rgV 0 (far : Int)))
      have rl : (rgV 0 (far : Int)).length = far := by rw [rgV_length, Int.sub_zero, Int.toNat_natCast]
      refine ⟨q, 3, _, rfl, rfl, upd_same, by decide, by decide, ?_, fun q2 hq2 => ?_⟩
      · rw [rl]
        exact Nat.le_trans (by show far * 3 ≤ 12; omega) (by decide)
      have e2 := same_new e1 hq2 (o := .lst (List.replicate 3 (rgV 0 (far : Int))).flatten)
      refine ⟨_, rfl, by show 1 ≤ sizeLine; decide, fun q3 hq3 => ?_⟩
      have e3 := same_new e2 hq3 (o := .lst [V.int (-1)])
      refine ⟨_, rfl, _, _, rfl, rfl, .inr ⟨_, rfl, ?_⟩⟩
      obtain ⟨m, hm, m1⟩ : ∃ m : Nat, (if decide ((far : Int) > 1) = true then (1 : Int) else 0) = (m : Int) ∧ m ≤ 1 := by
        by_cases q : (far : Int) > 1
        · exact ⟨1, by rw [decide_eq_true q]; rfl, Nat.le_refl _⟩
        · exact ⟨0, by rw [decide_eq_false q]; rfl, by decide⟩
      refine ⟨q3, m, _, rfl, congrArg V.int hm, upd_same, by omega, by omega, ?_, fun q4 hq4 => ?_⟩
      · rw [Int.toNat_natCast]
        exact Nat.le_trans (by show 1 * m ≤ 1; omega) (by decide)
      rw [Int.toNat_natCast]
      have e4 := same_new e3 hq4 (o := .lst (List.replicate m [V.int (-1)]).flatten)
      have z3 : q2 ≠ q3 := fun e => by rw [← e, upd_same] at hq3; cases hq3
      have z4 : q2 ≠ q4 := fun e => by rw [← e, upd_ne z3, upd_same] at hq4; cases hq4
      have sml := smV_len (far := (far : Int)) (m := m) (by omega)
      refine ⟨q2, q4, _, _, rfl, rfl, by rw [upd_ne z4, upd_ne z3, upd_same], upd_same, ?_, fun q5 hq5 => ?_⟩
      · have : (smV (far : Int) m).length ≤ sizeLine := Nat.le_trans (by omega : _ ≤ 13) (by decide)
        unfold smV at this
        rw [List.length_append] at this
        exact this
      exact ⟨q5, _, _, _, _, _, m, m1, same_new e4 hq5, ((h0.keep e4).ne hq5).1, upd_same, rfl⟩
    rintro _ H5 ⟨q5, x6, x7, x8, x9, x10, m, m1, e5, q5s, s5, rfl⟩
    have h5 := h0.keep e5
    have sml := smV_len (far := (far : Int)) (m := m) (by omega)
    have smm : ∀ x ∈ smV (far : Int) m, ∃ z : Int, x = .int z ∧ -1 ≤ z ∧ z < far := fun x h => smV_mem (by omega) h
    -- the moves
    refine ⟨fun σ H6 => ∃ (D : Addr) (ms : List Int) (x6 x8 x9 x10 : Option V), SameX s H H6 ∧ StA H6 s c ns ∧ D ≠ s ∧ H D = none ∧ H6 D = some (.lst (ms.map V.int)) ∧ ms.length = far ∧ (∀ z ∈ ms, -1 ≤ z ∧ z < far) ∧
      σ = [some (.ref s), some (.str nm), some (.str hd), some (.ref l), some (.int far), some (.ref q5), x6, some (.ref D), x8, x9, x10], ?_, ?_⟩
    · refine ⟨_, rfl, (far : Int), rfl, by omega, by omega, fun D hD => ?_⟩
      obtain ⟨Ds, Dc⟩ := h5.ne hD
      refine lc_it walk_range (fun i H6 => SameX s H H6 ∧ StA H6 s c ns ∧ H6 q5 = some (.lst (smV (far : Int) m)) ∧ ∃ ms : List Int, H6 D = some (.lst (ms.map V.int)) ∧ ms.length = i ∧ ∀ z ∈ ms, -1 ≤ z ∧ z < far)
        ⟨same_sx (same_new e5 hD), h5.put Ds Dc, same_new (Same.refl H5) hD _ _ s5, [], upd_same, rfl, nofun⟩ (fun _ _ _ _ => trivial) ?_ ?_
      · rintro i x H6' H6 hi ⟨e6, h6, s6, ms, hms, hlen, hz⟩ ⟨rfl, rfl⟩
        have hi4 : i < far := by
          have : i < (far : Int).toNat := hi
          omega
        refine ⟨rfl, ?_⟩
        refine ⟨_, rfl, _, rfl, s, c, q5, ns, _, rfl, h6, hl, q5s, .inl (SqL.of s6), by rw [sml]; omega, by rw [sml]; omega, fun d v H7 hd7 e7 h7 => ?_⟩
        obtain ⟨z, rfl, z0, z1⟩ := smm v (List.mem_of_getElem? hd7)
        refine ⟨_, e7 _ _ hms Ds, by rw [List.length_map]; exact Nat.lt_of_lt_of_le (by omega : ms.length < 4) (by decide), ?_⟩
        have q5D : q5 ≠ D := fun e => by rw [e, hD] at s5; cases s5
        refine ⟨(e6.trans e7).putN (none_of e5 hD), h7.put Ds Dc, (upd_ne q5D).trans (e7 _ _ s6 q5s), ms ++ [z], ?_, by rw [List.length_append, hlen]; rfl, ?_⟩
        · rw [upd_same, List.map_append]
          rfl
        · intro y hy
          rcases List.mem_append.mp hy with hy | hy
          · exact hz y hy
          · rw [List.mem_singleton.mp hy]
            exact ⟨z0, z1⟩
      · rintro H6 ⟨e6, h6, _, ms, hms, hlen, hz⟩
        exact ⟨D, ms, _, _, _, _, e6, h6, Ds, none_of e5 hD, hms, by rw [hlen]; exact Int.toNat_natCast far, hz, rfl⟩
    rintro _ H6 ⟨D, ms, x6, x8, x9, x10, e6, h6, Ds, Dn, hms, hml, hmz, rfl⟩
    -- the lists in common
    refine ⟨fun σ H7 => ∃ (D2 : Addr) (zs : List Str) (x6 x8 x10 : Option V), SameX s H H7 ∧ StA H7 s c ns ∧ D2 ≠ s ∧ H D2 = none ∧ H7 D = some (.lst (ms.map V.int)) ∧ H7 D2 = some (.lst (zs.map V.str)) ∧ zs.Nodup ∧ (∀ z ∈ zs, ∃ f ∈ fs, f.nm = z ∧ f.many = true) ∧
      σ = [some (.ref s), some (.str nm), some (.str hd), some (.ref l), some (.int far), some (.ref q5), x6, some (.ref D), x8, some (.ref D2), x10], ?_, ?_⟩
    · refine ⟨_, rfl, l, rfl, ⟨_, SqL.of (e6 _ _ (off_get hx) ls)⟩, fun D2 hD2 => ?_⟩
      obtain ⟨D2s, D2c⟩ := h6.ne hD2
      have D2D : D ≠ D2 := fun e => by rw [← e, hms] at hD2; cases hD2
      refine lc_list (K := K) (a := l) (xs := fvs) (fun i H7 => SameX s H6 H7 ∧ StA H7 s c ns ∧ ∃ zs : List Str, H7 D2 = some (.lst (zs.map V.str)) ∧ zs.length ≤ i ∧ zs.Sublist ((fs.take i).map (·.nm)) ∧ ∀ z ∈ zs, ∃ f ∈ fs, f.nm = z ∧ f.many = true)
        ⟨same_sx (same_new (Same.refl H6) hD2), h6.put D2s D2c, [], upd_same, Nat.le_refl _, List.nil_sublist _, nofun⟩ (fun i H7 _ h => SqL.of (h.1 _ _ (e6 _ _ (off_get hx) ls) ls)) ?_ ?_
      · rintro i v H7 hv7 ⟨e7, h7, zs, hzs, hzl, hsub, hzm⟩
        obtain ⟨f, hfi, hft⟩ := hfs.get hv7
        have il : i < fvs.length := (List.getElem?_eq_some_iff.mp hv7).1
        obtain ⟨u, rfl, hu0⟩ := FdT.keep (e6.trans e7).off hft
        have hu : SqT K H7 u (FdV f) := same_t off_same hu0
        refine ⟨rfl, ?_⟩
        refine ⟨fun t H8 => SameX s H7 H8 ∧ StA H8 s c ns ∧ (t = true → f.many = true), ?_, ?_⟩
        · refine ⟨_, rfl, u, _, 1, .str (sortS f.many), rfl, rfl, hu, rfl, rfl, _, rfl, ite2 (fun h1 => ?_) (fun h1 => ⟨SameX.refl s H7, h7, nofun⟩)⟩
          refine ⟨_, rfl, s, c, ns, 2, rfl, h7, hl, by decide, by decide, fun d H8 hd e8 h8 => ⟨rfl, _, rfl, e8, h8, fun _ => ?_⟩⟩
          cases e : f.many with
          | true => rfl
          | false =>
            rw [e] at h1
            exact absurd (V.str.inj (of_decide_eq_true h1)) (by decide)
        rintro t H8 ⟨e8, h8, ht⟩
        have fi : (fs.take (i + 1)).map (·.nm) = (fs.take i).map (·.nm) ++ [f.nm] := by
          rw [List.take_succ, hfi]
          simp
        refine ite2 (fun h1 => ?_) (fun h1 => ?_)
        · refine ⟨_, rfl, u, _, 0, .str f.nm, rfl, rfl, same_t off_same (same_t e8.off hu0), rfl, ?_⟩
          refine ⟨_, e8 _ _ hzs D2s, by rw [List.length_map]; exact Nat.lt_of_lt_of_le (by omega : zs.length < 10) (by decide), ?_⟩
          refine ⟨(e7.trans e8).putN hD2, h8.put D2s D2c, zs ++ [f.nm], ?_, by rw [List.length_append]; exact Nat.succ_le_succ hzl, ?_, ?_⟩
          · rw [upd_same, List.map_append]
            rfl
          · rw [fi]
            exact hsub.append (List.Sublist.refl _)
          · intro y hy
            rcases List.mem_append.mp hy with hy | hy
            · exact hzm y hy
            · rw [List.mem_singleton.mp hy]
              exact ⟨f, List.mem_of_getElem? hfi, rfl, ht h1⟩
        · refine ⟨e7.trans e8, h8, zs, e8 _ _ hzs D2s, Nat.le_succ_of_le hzl, ?_, hzm⟩
          rw [fi]
          exact hsub.trans (List.sublist_append_left _ _)
      · rintro H7 ⟨e7, h7, zs, hzs, hzl, hsub, hzm⟩
        refine ⟨D2, zs, _, _, _, e6.trans e7, h7, D2s, noneX e6 D2s hD2, e7 _ _ hms Ds, hzs, ?_, hzm, rfl⟩
        refine hsub.nodup (List.Nodup.sublist ?_ fnd)
        exact (List.take_sublist _ _).map _
    rintro _ H7 ⟨D2, zs, x6, x8, x10, e7, h7, D2s, D2n, hms7, hzs, hznd, hzm, rfl⟩
    -- the deeds
    refine ⟨_, rfl, _, rfl, _, rfl, by show 4 ≤ sizeLine; decide, fun b hb => ?_⟩
    have e8 := same_new (Same.refl H7) hb (o := .lst [.int 1, .int 2, .int 2, .int 4])
    refine ⟨s, c, b, ns, _, rfl, h7.keep e8, hl, (h7.ne hb).1, .inl (SqL.of upd_same), by decide, by decide, fun d v H8 hd8 e9 h8 => ?_⟩
    obtain ⟨n, rfl, n0, n1⟩ : ∃ n : Int, v = .int n ∧ 0 ≤ n ∧ n ≤ 4 := by
      have m := List.mem_of_getElem? hd8
      simp only [List.mem_cons, List.not_mem_nil, or_false] at m
      rcases m with rfl | rfl | rfl | rfl <;> exact ⟨_, rfl, by decide, by decide⟩
    have e78 := (same_sx (s := s) e8).trans e9
    have e08 := e7.trans e78
    refine ⟨s, c, l, ns, n, fvs, fs, rfl, h8, hl, ?_, hfs.mono fun _ _ h => FdT.keep e08.off h, f0, f1, n0, by omega, fun a ds dvs H9 ha hda hal hdl hdok hdnd e10 h9 => ?_⟩
    · rw [off_ne ls]
      exact e08 _ _ (off_get hx) ls
    have e79 := e78.trans e10
    -- what is handed
    refine ⟨_, rfl, _, rfl, _, rfl, _, rfl, ?_⟩
    refine ⟨fun v H10 => Same H9 H10 ∧ ∃ ys : List Str, LsN H (Off s H10) v (ys.map V.str) ∧ ys.Nodup ∧ (∀ z ∈ ys, ∃ f ∈ fs, f.nm = z ∧ f.many = true) ∧ (hd = "self" → ys = []), ?_, ?_⟩
    · refine ⟨_, rfl, rfl, _, rfl, ite2 (fun h1 => ?_) (fun h1 => ?_)⟩
      · refine ⟨_, rfl, Same.refl H9, zs, ⟨D2, rfl, D2n, ?_⟩, hznd, hzm, fun e => ?_⟩
        · rw [off_ne D2s]
          exact e79 _ _ hzs D2s
        · subst e
          exact absurd h1 (by decide)
      · refine ⟨by show 0 ≤ sizeLine; decide, fun p hp => ⟨same_new (Same.refl H9) hp, [], ⟨p, rfl, noneX (e08.trans e10) (h9.ne hp).1 hp, ?_⟩, List.nodup_nil, nofun, fun _ => rfl⟩⟩
        rw [off_ne (h9.ne hp).1, upd_same]
        rfl
    rintro v H10 ⟨e11, ys, hys, ynd, hym, hself⟩
    refine ⟨by show 5 ≤ sizeLine; decide, fun p hp => ?_⟩
    have e12 := same_new e11 hp (o := .tup [.str nm, .str hd, .ref D, .ref a, v])
    have ps := ((h9.keep e11).ne hp).1
    have e13 : Same (Off s H10) (Off s (upd H10 p (.tup [.str nm, .str hd, .ref D, .ref a, v]))) := same_off (same_new (Same.refl H10) hp)
    refine k (.ref p) ⟨nm, hd, ms, ds, ys⟩ _ rfl rfl ⟨.ref D, .ref a, v, dvs, Tu.tup ?_, ⟨D, rfl, Dn, ?_⟩, ⟨a, rfl, noneX e08 (h8.ne ha).1 ha, same_off e12 _ _ hda⟩, hal.mono fun _ _ h => DeT.keep (same_off e12) h, hys.keep e13⟩ ?_ (((e08.trans e10).trans (same_sx e12))) (h9.keep e12)
    · rw [off_ne ps, upd_same]
    · rw [off_ne Ds]
      exact e12 _ _ (e79 _ _ hms7 Ds)
    · exact ⟨hw, hh, hml, hmz, (by have : (ds.length : Int) ≤ 4 := Int.le_trans hdl n1; exact Int.ofNat_le.mp this), hdok, hdnd, hym, hself, ynd⟩
end
end MK

set_option Elab.async false
set_option linter.all false
set_option autoImplicit false
set_option maxRecDepth 100000
set_option maxHeartbeats 4000000
namespace MK
open PySem PySem.Spec PyProof.Rows L2
local macro_rules | `(tactic| walk_at "x") => `(tactic| dsimp only [tSeq, tAsg, tRet, tDrop, tLst, tTup, tCons, tOp, tUn, tIfS])
/-! ### Kind(..), the law's kinds -/
abbrev s_plan : Stmt := topS 64
theorem sc_plan : FnScope ["_law_fields", "_law_calls", "_law_far"] ["_law_fields", "_law_calls", "_law_far"] (defScope s_plan) := ⟨rfl, rfl, rfl, by decide +kernel, rfl, by decide +kernel, by decide +kernel⟩
structure KMk (P : Program) (w : World) (K : PySem.W.Frag) (mg : Str → Option Value) (base : Heap) (KC : Addr) : Prop where
  ex : ∃ (f : Addr) (fd : FuncData), Mk K KC f ∧ FnOk P w K mg base CX0 6 f fd ["self", "fields", "calls", "modes"] (spKInit K KC) ∧ KBn K fd ["self", "fields", "calls", "modes"] 3 ["modes"] (fun us ws => us ++ ws) (fun vs zs => vs ++ zs)
  g : mg "Kind" = some (.ref KC)
theorem pe_kind {X : Cx} {KC : Addr} {j : Nat} {p pos : Pos} {e : Expr} {es : List Expr} {kws : List Keyword} {t tk : TA} (c : KMk X.prog X.w X.K X.mg X.base KC) (hr : Room j X.A) (hk : 7 ≤ j) (hg : Gl X "Kind") (ha : PA X (e :: es) t) (hkw : PK X kws tk)
    (hall : (backToKw pos (keywordEach kws X.env)).all (·.1.isSome) = true := by rfl) (hks : (backToKw pos (keywordEach kws X.env)).filterMap (·.1) = (["modes"] : List Str) := by rfl)
    (he : starEach (e :: es) X.env = (false, eval e X.env) :: starEach es X.env := by rfl) (hpl : ((backTo pos (starEach (e :: es) X.env)).any (·.1) || (backToKw pos (keywordEach kws X.env)).any (·.1.isNone)) = false := by rfl) :
    PE X (.Call (.Name "Kind" p) (e :: es) kws pos) (tCutE (tMakeK KC 2 1 (spKInit X.K KC) (fun vs zs => vs ++ zs) E0 t tk)) := by
  obtain ⟨f, fd, M, F, hb⟩ := c.ex
  exact pe_cut <| pe_makeK (n := 2) M F (hr.mono hk) hg c.g hb pass0 ha hkw hall hks (by decide) he hpl
theorem rd_kind {K : PySem.W.Frag} {KC s : Addr} {H : Hp} {fv cv : V} {n : Nat} {fvs cvs : List V} {fs : List FD} {cs : List CD} {Q : VK} {E : XK} (hs : H s ≠ none) (hf : Sq K (Off s H) fv fvs) (hfs : Al (FdA K (Off s H)) fvs fs) (hc : Sq K (Off s H) cv cvs) (hcs : Al (CdA K (Off s H)) cvs cs) (ok : KdOk fs n cs)
    (q : ∀ v H', Same H H' → KdA K KC (Off s H') v fs n cs → Q v H') : ∀ x dx, H x = none → H dx = none → dx ≠ x → spKInit K KC (.ref x :: ([fv, cv] ++ [.int n])) (upd (upd H dx (.own x)) x (.ins KC dx [])) (fun v H3 => v = .non ∧ Q (.ref x) H3) E := by
  intro x dx hx hd ne
  have xs : x ≠ s := fun e => hs (e ▸ hx)
  have ds : dx ≠ s := fun e => hs (e ▸ hd)
  have b : Same (Off s H) (Off x (Off s (upd (upd H dx (.own x)) x (.ins KC dx [])))) := by
    rw [off_upd xs, off_put]
    exact same_offN (same_off (same_new (Same.refl H) hd)) (off_none hx)
  refine ⟨s, x, dx, fv, cv, n, fvs, cvs, fs, cs, rfl, xs, ?_, upd_same, hf.keep b, hfs.mono fun _ _ h => FdA.keep b h, hc.keep b, hcs.mono fun _ _ h => CdA.keep b h, ok, fun H' e kd => ⟨rfl, q _ _ (fun a o ha => ?_) kd⟩⟩
  · rw [upd_ne (Ne.symm xs), upd_ne (Ne.symm ds)]
    exact hs
  · refine e a o ?_ (fun z => by rw [z, hx] at ha; cases ha)
    rw [upd_ne (fun z => by rw [z, hx] at ha; cases ha), upd_ne (fun z => by rw [z, hd] at ha; cases ha)]
    exact ha
theorem rd_kindM {K : PySem.W.Frag} {KC s : Addr} {H : Hp} {fv cv : V} {n : Nat} {fvs cvs : List V} {fs : List FD} {cs : List CD} {E : XK} (hs : H s ≠ none) (hf : Sq K (Off s H) fv fvs) (hfs : Al (FdA K (Off s H)) fvs fs) (hc : Sq K (Off s H) cv cvs) (hcs : Al (CdA K (Off s H)) cvs cs) (ok : KdOk fs n cs) :
    ∀ x dx, H x = none → H dx = none → dx ≠ x → spKInit K KC (.ref x :: ([fv, cv] ++ [.int n])) (upd (upd H dx (.own x)) x (.ins KC dx [])) (fun v H3 => v = .non ∧ Same H H3 ∧ KdA K KC (Off s H3) (.ref x) fs n cs) E :=
  rd_kind (Q := fun v H' => Same H H' ∧ KdA K KC (Off s H') v fs n cs) hs hf hfs hc hcs ok fun _ _ e k => ⟨e, k⟩
theorem KdA.off {K : PySem.W.Frag} {KC p : Addr} {H : Hp} {v : V} {fs : List FD} {n : Nat} {cs : List CD} (h : KdA K KC H v fs n cs) (hp : H p = some (.dK [])) (f0 : 0 < fs.length) (c0 : 0 < cs.length) : KdA K KC (Off p H) v fs n cs := by
  obtain ⟨x, dx, so, sp, tb, t, st, tv, sv, h0, h1, h2, h3, h4, h5, h6, h7, h8⟩ := h
  have full : ∀ {a : Addr} {kvs : List (Key × V)}, H a = some (.dK kvs) → 0 < kvs.length → Off p H a = some (.dK kvs) := fun {a kvs} ha hl => by
    rw [off_ne (fun e => by
      rw [e, hp] at ha
      have := HO.dK.inj (Option.some.inj ha)
      rw [← this] at hl
      cases hl)]
    exact ha
  refine ⟨x, dx, so, sp, tb, t, st, tv, sv, h0, ?_, h2.off hp no_dK, h3.mono fun _ _ h => Tu.off h hp no_dK, full h4 (by rw [sorts_len]; exact f0), full h5 (by rw [spots_len]; exact f0), h6.off hp no_dK, h7.mono fun _ _ h => CdT.off h hp no_dK, full h8 (by rw [table_len h7.1]; exact c0)⟩
  rw [off_ne (fun e => by rw [e, hp] at h1; cases h1)]
  exact h1
/-- what the law holds of a kind -/
def planV (l1 l2 : Addr) (n : Nat) (kv : V) : List (Key × V) := [(.inr "fields", .ref l1), (.inr "calls", .ref l2), (.inr "modes", .int n), (.inr "known", kv)]
def PlanA (K : PySem.W.Frag) (KC : Addr) (H : Hp) (v : V) (fs : List FD) (n : Nat) (cs : List CD) : Prop := ∃ (p l1 l2 : Addr) (kv : V) (fvs cvs : List V), v = .ref p ∧ H p = some (.dK (planV l1 l2 n kv)) ∧ H l1 = some (.lst fvs) ∧ Al (FdT K H) fvs fs ∧ H l2 = some (.lst cvs) ∧ Al (CdL K H) cvs cs ∧
  KdA K KC H kv fs n cs
theorem PlanA.keep {K : PySem.W.Frag} {KC : Addr} {H H' : Hp} {v : V} {fs : List FD} {n : Nat} {cs : List CD} (e : Same H H') (h : PlanA K KC H v fs n cs) : PlanA K KC H' v fs n cs := by
  obtain ⟨p, l1, l2, kv, fvs, cvs, h0, h1, h2, h3, h4, h5, h6⟩ := h
  exact ⟨p, l1, l2, kv, fvs, cvs, h0, e _ _ h1, e _ _ h2, h3.mono fun _ _ h => FdT.keep e h, e _ _ h4, h5.mono fun _ _ h => CdL.keep e h, h6.keep e⟩
def spPlan (K : PySem.W.Frag) (KC : Addr) : Sp := fun vs H Q _ => ∃ (s l1 l2 : Addr) (n : Nat) (fvs cvs : List V) (fs : List FD) (cs : List CD), vs = [.ref l1, .ref l2, .int n] ∧ H s ≠ none ∧ Off s H l1 = some (.lst fvs) ∧ Al (FdT K (Off s H)) fvs fs ∧ Off s H l2 = some (.lst cvs) ∧ Al (CdL K (Off s H)) cvs cs ∧ KdOk fs n cs ∧
  ∀ v H', Same H H' → PlanA K KC (Off s H') v fs n cs → Q v H'
section
variable {P : Program} {w : World} {K : PySem.W.Frag} {mg : Str → Option Value} {base : Heap} {C : Cst} {KC : Addr}
theorem ok_plan {f : Addr} {fd : FuncData} (F : DefX K mg "_law_plan" s_plan ["_law_fields", "_law_calls", "_law_far"] f fd) (T : Txt K mg) (c_Kind : KMk P w K mg base KC) : Cal P w K mg base CX0 8 "_law_plan" (spPlan K KC) := by
  refine cal_mk F sc_plan (fun vs H Q E h => ?_) (fun cdv A outer sh H vs Q E hr h => ?_)
  · obtain ⟨s, l1, l2, n, fvs, cvs, fs, cs, rfl, _⟩ := h
    rfl
  · obtain ⟨s, l1, l2, n, fvs, cvs, fs, cs, rfl, hs, h1, hfs, h2, hcs, ok, k⟩ := h
    refine ⟨_, (pss_one (ps_ret (pe_disp (pps_cons pe_str (pv 0) (pps_cons pe_str (pv 1) (pps_cons pe_str (pv 2) (pps_cons pe_str (pe_kind c_Kind hr (by first | decide | assumption) rfl (pa_cons (pv 0) (pa_cons (pv 1) pa_nil)) (pk_cons (pv 2) pk_nil)) pps_nil)))) (by rfl) (by rfl) (fun z => by cases z) (by decide)))), ?_⟩
    intro p hp
    have e1 : Same H (upd H p (.dK [])) := same_new (Same.refl H) hp
    have ps : p ≠ s := ne_s hs (Same.refl H) hp
    have b1 := same_off (s := s) e1
    refine ⟨_, rfl, _, rfl, _, rfl, fun v H3 => Same (upd H p (.dK [])) H3 ∧ KdA K KC (Off s H3) v fs n cs, ⟨_, rfl, _, rfl, _, rfl, rfl, rfl, rd_kindM (s := s) (kept_s hs e1) (Ls.sq ⟨l1, rfl, b1 _ _ h1⟩) (hfs.mono fun _ _ h => FdT.a (FdT.keep b1 h)) (Ls.sq ⟨l2, rfl, b1 _ _ h2⟩) (hcs.mono fun _ _ h => CdL.a (CdL.keep b1 h)) ok⟩, ?_⟩
    rintro v H3 ⟨e3, kd⟩
    refine ⟨e3 _ _ upd_same, planV l1 l2 n v, rfl, by show 4 ≤ 15; decide, ?_⟩
    rw [show mergeK [] (planV l1 l2 n v) = planV l1 l2 n v from rfl]
    have pv := off_ne (s := s) (H := H3) ps
    have kd2 : KdA K KC (Off p (Off s H3)) v fs n cs := kd.off (pv.trans (e3 _ _ upd_same)) ok.fields.pos ok.cpos
    have b2 : Same (Off p (Off s H3)) (Off s (upd H3 p (.dK (planV l1 l2 n v)))) := by
      refine Same.trans (H1 := Off p (Off s (upd H3 p (.dK (planV l1 l2 n v))))) ?_ off_same
      rw [off_upd ps, off_put]
      exact fun _ _ h => h
    have b3 : Same (Off s H) (Off s (upd H3 p (.dK (planV l1 l2 n v)))) := by
      refine Same.trans (H1 := Off p (Off s H3)) (same_offN (same_off (e1.trans e3)) (off_none hp)) b2
    refine k _ _ (fun a o ha => ?_) ⟨p, l1, l2, v, fvs, cvs, rfl, ?_, b3 _ _ h1, hfs.mono fun _ _ h => FdT.keep b3 h, b3 _ _ h2, hcs.mono fun _ _ h => CdL.keep b3 h, kd2.keep b2⟩
    · rw [upd_ne (ne_of_none ha hp)]
      exact e3 _ _ (e1 _ _ ha)
    · rw [off_ne ps, upd_same]
end
end MK

set_option Elab.async false
set_option linter.all false
set_option autoImplicit false
set_option maxRecDepth 100000
set_option maxHeartbeats 4000000
namespace MK
open PySem PySem.Spec PyProof.Rows L2
local macro_rules | `(tactic| walk_at "x") => `(tactic| dsimp only [tSeq, tAsg, tRet, tDrop, tLst, tTup, tCons, tOp, tUn, tIfS])
/-! ### a drawn kind -/
abbrev s_kind : Stmt := topS 68
theorem sc_kind : FnScope ["_law_state", "_law_wide", "_law_many", "_law_far", "_law_fields", "_law_names", "_law_k", "_law_top", "_law_calls", "_law_name"] ["_law_state", "_law_wide", "_law_many", "_law_far"] (defScope s_kind) := ⟨rfl, rfl, rfl, by decide +kernel, rfl, by decide +kernel, by decide +kernel⟩
def fieldNames : List Str := ["a", "need", "many", "do", "quantity"]
def callNames : List Str := ["add", "put", "cut", "make", "jqzxvkgw"]
def spLawKind (K : PySem.W.Frag) (KC : Addr) : Sp := fun vs H Q _ => ∃ (s c : Addr) (ns : List Int) (wide many far : Nat), vs = [.ref s, .int wide, .int many, .int far] ∧ StA H s c ns ∧ ns.length ≤ 63 ∧ 1 ≤ wide ∧ wide ≤ 3 ∧ 2 ≤ many ∧ many ≤ 6 ∧ 1 ≤ far ∧ far ≤ 3 ∧
  ∀ v H' fs n cs, SameX s H H' → StA H' s c ns → KdOk fs n cs → fs.length ≤ wide → (∀ f ∈ fs, f.nm ∈ fieldNames) → n ≤ far → (∃ j, j < many ∧ cs.map (·.nm) = callNames.take j ++ (["build"] : List Str)) → (∃ cs' b, cs = cs' ++ [b] ∧ b.hand = ("last" : Str)) → PlanA K KC (Off s H') v fs n cs → Q v H'
section
variable {P : Program} {w : World} {K : PySem.W.Frag} {mg : Str → Option Value} {base : Heap} {C : Cst} {KC : Addr}
theorem ok_kind {f : Addr} {fd : FuncData} (F : DefX K mg "_law_kind" s_kind ["_law_state", "_law_wide", "_law_many", "_law_far"] f fd) (T : Txt K mg) (c_take : Cal P w K mg base CX0 2 "_law_take" spTake) (c_one : Cal P w K mg base CX0 3 "_law_one" (spOne K)) (c_mix : Cal P w K mg base CX0 3 "_law_mix" (spMix K))
    (c_call : Cal P w K mg base CX0 5 "_law_call" (spCall K)) (c_plan : Cal P w K mg base CX0 8 "_law_plan" (spPlan K KC)) : Cal P w K mg base CX0 9 "_law_kind" (spLawKind K KC) := by
  refine cal_mk F sc_kind (fun vs H Q E h => ?_) (fun cdv A outer sh H vs Q E hr h => ?_)
  · obtain ⟨s, c, ns, wide, many, far, rfl, _⟩ := h
    rfl
  · obtain ⟨s, c, ns, wide, many, far, rfl, h0, hl, w1, w3, m2, m6, f1, f3, k⟩ := h
    refine ⟨_, (pss_cons (ps_par (i := 4) (j := 5) (by rfl) sc_kind.nd rfl rfl (by decide) rfl rfl (pa_cons (pe_lst pa_nil) (pa_cons (pe_c c_mix hr (by first | decide | assumption) rfl (pa_cons (pv 0) (pa_cons (pe_lst (pa_cons pe_str (pa_cons pe_str (pa_cons pe_str (pa_cons pe_str (pa_cons pe_str pa_nil)))))) pa_nil))) pa_nil)) (by rfl))
(pss_cons (ps_for PassesOwn.never rfl (pi_range1 (by rfl) T.range (pa_cons (pe_op op_add pe_int (pe_c c_take hr (by first | decide | assumption) rfl (pa_cons (pv 0) (pa_cons (pv 1) pa_nil)))) pa_nil)) (pg_name (i := 6) sc_kind.nd rfl (Or.inl rfl))
(pss_one (ps_expr (pe_bm PySem.F.plainAttrs_list PySem.F.slot_list_append PySem.F.type_list_append mt_append (pv 4) (pa_cons (pe_tup (pa_cons (pe_ix ix_list (pv 5) (pv 6) (fun _ _ => rfl)) (pa_cons (pe_c c_one hr (by first | decide | assumption) rfl (pa_cons (pv 0) (pa_cons (pe_lst (pa_cons pe_str (pa_cons pe_str (pa_cons pe_str pa_nil)))) pa_nil))) (pa_cons (pe_cmpR op_eq (pe_c c_take hr (by first | decide | assumption) rfl (pa_cons (pv 0) (pa_cons pe_int pa_nil))) pe_int (nomark _)) pa_nil)))) pa_nil)))))
(pss_cons (ps_par (i := 7) (j := 8) (by rfl) sc_kind.nd rfl rfl (by decide) rfl rfl (pa_cons (pe_op op_add pe_int (pe_c c_take hr (by first | decide | assumption) rfl (pa_cons (pv 0) (pa_cons (pv 3) pa_nil)))) (pa_cons (pe_lst pa_nil) pa_nil)) (by rfl))
(pss_cons (ps_for PassesOwn.never rfl (pi_list (pe_slice sl_list (pe_lst (pa_cons pe_str (pa_cons pe_str (pa_cons pe_str (pa_cons pe_str (pa_cons pe_str pa_nil)))))) po_none (po_some (pe_op op_add pe_int (pe_c c_take hr (by first | decide | assumption) rfl (pa_cons (pv 0) (pa_cons (pe_op op_sub (pv 2) pe_int) pa_nil))))))) (pg_name (i := 9) sc_kind.nd rfl (Or.inl rfl))
(pss_one (ps_expr (pe_bm PySem.F.plainAttrs_list PySem.F.slot_list_append PySem.F.type_list_append mt_append (pv 8) (pa_cons (pe_c c_call hr (by first | decide | assumption) rfl (pa_cons (pv 0) (pa_cons (pv 9) (pa_cons (pe_c c_one hr (by first | decide | assumption) rfl (pa_cons (pv 0) (pa_cons (pe_lst (pa_cons pe_str (pa_cons pe_str (pa_cons pe_str (pa_cons pe_str (pa_cons pe_str pa_nil)))))) pa_nil))) (pa_cons (pv 4) (pa_cons (pv 7) pa_nil)))))) pa_nil)))))
(pss_cons (ps_expr (pe_bm PySem.F.plainAttrs_list PySem.F.slot_list_append PySem.F.type_list_append mt_append (pv 8) (pa_cons (pe_c c_call hr (by first | decide | assumption) rfl (pa_cons (pv 0) (pa_cons pe_str (pa_cons pe_str (pa_cons (pv 4) (pa_cons (pv 7) pa_nil)))))) pa_nil)))
(pss_one (ps_ret (pe_c c_plan hr (by first | decide | assumption) rfl (pa_cons (pv 4) (pa_cons (pv 8) (pa_cons (pv 7) pa_nil))))))))))), ?_⟩
    refine ⟨by show 0 ≤ sizeLine; decide, fun fa hfa => ?_⟩
    have e1 := same_new (Same.refl H) hfa (o := .lst [])
    have h1 := h0.keep e1
    obtain ⟨fas, fac⟩ := h0.ne hfa
    refine ⟨_, rfl, by show 5 ≤ sizeLine; decide, fun q hq => ?_⟩
    have e2 := same_new e1 hq (o := .lst (fieldNames.map V.str))
    have h2 := h0.keep e2
    refine ⟨s, c, q, ns, fieldNames, rfl, h2, hl, SqL.of upd_same, by decide, by decide +kernel, fun an ys H3 hp han hys e3 h3 => ⟨_, _, rfl, ?_⟩⟩
    have e03 : SameX s H H3 := (same_sx e2).trans e3
    have fq : fa ≠ q := fun e => by rw [← e, upd_same] at hq; cases hq
    have fan : fa ≠ an := fun e => by rw [← e, upd_ne fq, upd_same] at han; cases han
    have ans : an ≠ s := (h2.ne han).1
    have fa3 : H3 fa = some (.lst []) := e3 _ _ ((upd_ne fq).trans upd_same) fas
    -- the fields
    refine ⟨_, rfl, _, rfl, s, c, ns, wide, rfl, h3, hl, by omega, by omega, fun d H4 hd e4 h4 => ?_⟩
    refine ⟨_, _, rfl, rfl, _, rfl, by omega, by omega, ?_⟩
    refine for_it walk_range (fun i σ H2 => SameX s H H2 ∧ StA H2 s c ns ∧ H2 an = some (.lst (ys.map V.str)) ∧ ∃ (fs : List FD) (fvs : List V), H2 fa = some (.lst fvs) ∧ Al (FdT K (Off fa (Off s H2))) fvs fs ∧ fs.map (·.nm) = ys.take i ∧
      ∃ x6 x7 x8 x9, σ = [some (.ref s), some (.int wide), some (.int many), some (.int far), some (.ref fa), some (.ref an), x6, x7, x8, x9])
      ⟨e03.trans e4, h4, e4 _ _ hys ans, [], [], e4 _ _ fa3 fas, Al.nil, rfl, none, none, none, none, rfl⟩ (fun _ _ _ _ _ => trivial) ?_ ?_
    · rintro i x σ H5' H5 hi ⟨e5, h5, an5, fs, fvs, fa5, al, hnm, x6, x7, x8, x9, rfl⟩ ⟨rfl, rfl⟩
      have yl : ys.length = 5 := hp.length_eq
      have hi5 : i < 5 := by
        have : i < (1 + (d : Int)).toNat := hi
        omega
      have hiy : i < ys.length := by omega
      have fl : fs.length ≤ 5 := by
        have := congrArg List.length hnm
        rw [List.length_map, List.length_take] at this
        omega
      refine ⟨_, rfl, .inl ⟨rfl, _, SqL.of fa5⟩, _, rfl, _, rfl, an, _, _, .str ys[i], rfl, rfl, SqL.of an5, ?_, ?_⟩
      · rw [Int.zero_add]
        exact atI_nat (by rw [List.getElem?_map, List.getElem?_eq_getElem hiy]; rfl)
      refine ⟨_, rfl, by show 3 ≤ sizeLine; decide, fun q2 hq2 => ?_⟩
      have e6 := same_new (Same.refl H5) hq2 (o := .lst [.str "many", .str "many", .str "one"])
      refine ⟨s, c, q2, ns, _, rfl, h5.keep e6, hl, (h5.ne hq2).1, .inl (SqL.of upd_same), by decide, by decide, fun d2 v H7 hd7 e7 h7 => ?_⟩
      obtain ⟨b, rfl⟩ : ∃ b : Bool, v = .str (sortS b) := by
        have m := List.mem_of_getElem? hd7
        simp only [List.mem_cons, List.not_mem_nil, or_false] at m
        rcases m with rfl | rfl | rfl
        · exact ⟨true, rfl⟩
        · exact ⟨true, rfl⟩
        · exact ⟨false, rfl⟩
      refine ⟨_, rfl, s, c, ns, 2, rfl, h7, hl, by decide, by decide, fun d3 H8 _ e8 h8 => ⟨rfl, ?_⟩⟩
      refine ⟨by show 3 ≤ sizeLine; decide, fun p hp8 => ?_⟩
      have e58 : SameX s H5 H8 := ((same_sx e6).trans e7).trans e8
      have fa8 := e58 _ _ fa5 fas
      have ps := (h8.ne hp8).1
      have pfa : p ≠ fa := fun e => by rw [e, fa8] at hp8; cases hp8
      have pan : p ≠ an := fun e => by rw [e, e58 _ _ an5 ans] at hp8; cases hp8
      refine ⟨fa, _, _, rfl, rfl, (upd_ne (Ne.symm pfa)).trans fa8, by rw [al.1]; exact Nat.lt_of_le_of_lt fl (by decide), ?_⟩
      refine ⟨((e5.trans e58).trans (same_sx (same_new (Same.refl H8) hp8))).putN hfa, (h8.keep (same_new (Same.refl H8) hp8)).put fas fac, ?_, fs ++ [⟨ys[i], b, decide (V.int d3 = V.int 0)⟩], _, upd_same, ?_, ?_, _, _, _, _, rfl⟩
      · rw [upd_ne (Ne.symm fan), upd_ne (Ne.symm pan)]
        exact e58 _ _ an5 ans
      · rw [off_upd fas, off_put]
        have e9 : Same (Off fa (Off s H5)) (Off fa (Off s (upd H8 p (.tup [.str ys[i], .str (sortS b), .bl (decide (V.int d3 = V.int 0))])))) := same_off ((e58.trans (same_sx (same_new (Same.refl H8) hp8))).off)
        exact (al.mono fun _ _ h => FdT.keep e9 h).snoc (Tu.tup (by rw [off_ne pfa, off_ne ps, upd_same]; rfl))
      · rw [List.map_append, hnm, List.take_succ, List.getElem?_eq_getElem hiy]
        rfl
    rintro σ H5 ⟨e5, h5, _, fs, fvs, fa5, al, hnm, x6, x7, x8, x9, rfl⟩
    have yl : ys.length = 5 := hp.length_eq
    have dl : d < 3 := by omega
    have fsl : fs.length = d + 1 := by
      have := congrArg List.length hnm
      rw [List.length_map, List.length_take] at this
      omega
    have ynd : ys.Nodup := hp.nodup_iff.mpr (by decide +kernel)
    have hfn : ∀ f ∈ fs, f.nm ∈ fieldNames := fun f hf => by
      have m : f.nm ∈ fs.map (·.nm) := List.mem_map_of_mem hf
      rw [hnm] at m
      exact hp.mem_iff.mp (List.mem_of_mem_take m)
    have fok : FsOk fs := ⟨by omega, by omega, fun f hf => (by decide +kernel : ∀ z ∈ fieldNames, wordB z = true) _ (hfn f hf), by rw [hnm]; exact ynd.sublist (List.take_sublist _ _)⟩
    have al5 : Al (FdT K (Off s H5)) fvs fs := al.mono fun _ _ h => FdT.keep off_same h
    refine ⟨_, rfl, _, rfl, s, c, ns, far, rfl, h5, hl, by omega, by omega, fun d2 H6 hd2 e6 h6 => ⟨_, _, rfl, rfl, by show 0 ≤ sizeLine; decide, fun ca hca => ⟨_, _, rfl, ?_⟩⟩⟩
    obtain ⟨cas, cac⟩ := h6.ne hca
    have e7 := same_new (Same.refl H6) hca (o := .lst [])
    -- the calls
    refine ⟨by show 5 ≤ sizeLine; decide, fun q3 hq3 => ?_⟩
    have e8 := same_new e7 hq3 (o := .lst (callNames.map V.str))
    refine ⟨_, rfl, _, rfl, _, _, rfl, rfl, s, c, ns, (many : Int) - 1, rfl, h6.keep e8, hl, by omega, by omega, fun d4 H9 hd4 e9 h9 => ?_⟩
    have e79 : SameX s H6 H9 := (same_sx e8).trans e9
    have caq : ca ≠ q3 := fun e => by rw [← e, upd_same] at hq3; cases hq3
    have ca9 : H9 ca = some (.lst []) := e9 _ _ ((upd_ne caq).trans upd_same) cas
    have qs : q3 ≠ s := ((h6.keep e7).ne hq3).1
    refine ⟨_, _, rfl, rfl, _, rfl, q3, _, rfl, SqL.of (e9 _ _ upd_same qs), fun q4 hq4 => ?_⟩
    obtain ⟨q4s, q4c⟩ := h9.ne hq4
    have ca4 : ca ≠ q4 := fun e => by rw [← e, ca9] at hq4; cases hq4
    have cut : cutV (callNames.map V.str) none (some (1 + (d4 : Int))) = (callNames.take (d4 + 1)).map V.str := by
      have e : HT.sIx (callNames.map V.str).length (callNames.map V.str).length (some (1 + (d4 : Int))) = min (1 + d4) (callNames.map V.str).length := by
        rw [show (1 + (d4 : Int)) = ((1 + d4 : Nat) : Int) by omega]
        exact HT.sIx_nat _ _ _
      unfold cutV
      rw [HT.sIx_none, e, List.drop_zero, Nat.sub_zero, show min (1 + d4) (callNames.map V.str).length = d4 + 1 from (by show min (1 + d4) 5 = d4 + 1; omega), List.map_take]
    have e10 : Same H9 (upd H9 q4 (.lst (cutV (callNames.map V.str) none (some (1 + (d4 : Int)))))) := same_new (Same.refl H9) hq4
    have e610 := e79.trans (same_sx e10)
    have e510 := e6.trans e610
    refine ⟨q4, rfl, ⟨_, SqL.of upd_same⟩, ?_⟩
    refine for_list (K := K) (a := q4) (xs := (callNames.take (d4 + 1)).map V.str) (fun i σ H2 => SameX s H5 H2 ∧ StA H2 s c ns ∧ H2 q4 = some (.lst ((callNames.take (d4 + 1)).map V.str)) ∧ ∃ (cs : List CD) (cvs : List V), H2 ca = some (.lst cvs) ∧
      Al (CdL K (Off ca (Off s H2))) cvs cs ∧ (∀ c ∈ cs, CdOk fs (d2 + 1) c) ∧ cs.map (·.nm) = (callNames.take (d4 + 1)).take i ∧ ∃ x6 x9, σ = [some (.ref s), some (.int wide), some (.int many), some (.int far), some (.ref fa), some (.ref an), x6, some (.int ((d2 + 1 : Nat) : Int)), some (.ref ca), x9])
      ⟨e510, h9.keep e10, (by rw [upd_same]; exact congrArg (fun l => some (HO.lst l)) cut), [], [], (upd_ne ca4).trans ca9, Al.nil, nofun, rfl, _, _, (by rw [show ((d2 + 1 : Nat) : Int) = 1 + (d2 : Int) by omega]; rfl)⟩ (fun i σ H2 _ h => SqL.of h.2.2.1) ?_ ?_
    · rintro i x σ H2 hx' ⟨e2, h2, q42, cs, cvs, ca2, al, cok, hnm, x6, x9, rfl⟩
      rw [List.getElem?_map] at hx'
      obtain ⟨z, hz, rfl⟩ := Option.map_eq_some_iff.mp hx'
      have zm : z ∈ callNames := List.mem_of_mem_take (List.mem_of_getElem? hz)
      have cl : cs.length ≤ 5 := by
        have := congrArg List.length hnm
        rw [List.length_map, List.length_take, List.length_take] at this
        have : callNames.length = 5 := rfl
        omega
      refine ⟨_, rfl, .inl ⟨rfl, _, SqL.of ca2⟩, _, rfl, _, rfl, _, rfl, by show 5 ≤ sizeLine; decide, fun q5 hq5 => ?_⟩
      have e3 := same_new (Same.refl H2) hq5 (o := .lst [.str "self", .str "new", .str "self", .str "new", .str "last"])
      refine ⟨s, c, q5, ns, _, rfl, h2.keep e3, hl, (h2.ne hq5).1, .inl (SqL.of upd_same), by decide, by decide, fun d5 v Ha hda ea ha => ?_⟩
      obtain ⟨hd, rfl, hhd⟩ : ∃ hd : Str, v = .str hd ∧ (hd = "self" ∨ hd = "new" ∨ hd = "last") := by
        have m := List.mem_of_getElem? hda
        simp only [List.mem_cons, List.not_mem_nil, or_false] at m
        rcases m with rfl | rfl | rfl | rfl | rfl
        · exact ⟨_, rfl, .inl rfl⟩
        · exact ⟨_, rfl, .inr (.inl rfl)⟩
        · exact ⟨_, rfl, .inl rfl⟩
        · exact ⟨_, rfl, .inr (.inl rfl)⟩
        · exact ⟨_, rfl, .inr (.inr rfl)⟩
      have e2a : SameX s H2 Ha := (same_sx e3).trans ea
      have e5a := e2.trans e2a
      have caa := e2a _ _ ca2 cas
      refine ⟨_, rfl, _, rfl, s, c, fa, ns, z, hd, d2 + 1, fvs, fs, rfl, ha, hl, ?_, al5.mono fun _ _ h => FdT.keep e5a.off h, by omega, by omega, fok.nd, by omega, by omega, (by decide +kernel : ∀ z ∈ callNames, wordB z = true) z zm, hhd, fun v cd Hb cn ch cdn cdok eb hb => ?_⟩
      · rw [off_ne fas]
        exact e5a _ _ fa5 fas
      have cab := eb _ _ caa cas
      have e2b := e2a.trans eb
      refine ⟨ca, cvs, v, rfl, rfl, cab, by rw [al.1]; exact Nat.lt_of_le_of_lt cl (by decide), ?_⟩
      have q4ca : q4 ≠ ca := Ne.symm ca4
      refine ⟨(e2.trans e2b).putN (noneX e6 cas hca), hb.put cas cac, (upd_ne q4ca).trans (e2b _ _ q42 q4s), cs ++ [cd], cvs ++ [v], upd_same, ?_, ?_, ?_, _, _, rfl⟩
      · rw [off_upd cas, off_put]
        exact (al.mono fun _ _ h => CdL.keep (same_off e2b.off) h).snoc (cdn.off (caa) ((off_ne cas).trans cab)).l
      · intro c' hc'
        rcases List.mem_append.mp hc' with h | h
        · exact cok c' h
        · rw [List.mem_singleton.mp h]
          exact cdok
      · rw [List.map_append, hnm, List.take_succ (i := i), hz, ← cn]
        rfl
    · rintro σ H2 ⟨e2, h2, q42, cs, cvs, ca2, al, cok, hnm, x6, x9, rfl⟩
      rw [List.length_map, List.take_length] at hnm
      have jl : (callNames.take (d4 + 1)).length = d4 + 1 := by
        rw [List.length_take]
        show min (d4 + 1) 5 = d4 + 1
        omega
      have cl : cs.length = d4 + 1 := by
        have := congrArg List.length hnm
        rw [List.length_map, jl] at this
        exact this
      refine ⟨_, rfl, .inl ⟨rfl, _, SqL.of ca2⟩, _, rfl, _, rfl, _, rfl, s, c, fa, ns, "build", "last", d2 + 1, fvs, fs, rfl, h2, hl, ?_, al5.mono fun _ _ h => FdT.keep e2.off h, by omega, by omega, fok.nd, by omega, by omega, by decide +kernel, .inr (.inr rfl), fun v cd Hb cn ch cdn cdok eb hb => ?_⟩
      · rw [off_ne fas]
        exact e2 _ _ fa5 fas
      have cab := eb _ _ ca2 cas
      refine ⟨ca, cvs, v, rfl, rfl, cab, by rw [al.1, cl]; exact Nat.lt_of_le_of_lt (by omega : _ ≤ 6) (by decide), ?_⟩
      have faca : fa ≠ ca := fun e => by
        have := noneX e6 cas hca
        rw [← e, fa5] at this
        cases this
      have e5b := e2.trans eb
      have e5c : SameX s H5 (upd Hb ca (.lst (cvs ++ [v]))) := e5b.putN (noneX e6 cas hca)
      have hc := hb.put (o := .lst (cvs ++ [v])) cas cac
      have hsc : upd Hb ca (.lst (cvs ++ [v])) s ≠ none := by
        obtain ⟨_, _, _, _, _, e⟩ := hc
        rw [e]
        exact nofun
      have alc : Al (CdL K (Off s (upd Hb ca (.lst (cvs ++ [v]))))) (cvs ++ [v]) (cs ++ [cd]) := by
        have : Al (CdL K (Off ca (Off s (upd Hb ca (.lst (cvs ++ [v])))))) (cvs ++ [v]) (cs ++ [cd]) := by
          rw [off_upd cas, off_put]
          exact (al.mono fun _ _ h => CdL.keep (same_off eb.off) h).snoc (cdn.off ca2 ((off_ne cas).trans cab)).l
        exact this.mono fun _ _ h => CdL.keep off_same h
      have nms : (cs ++ [cd]).map (·.nm) = callNames.take (d4 + 1) ++ (["build"] : List Str) := by
        rw [List.map_append, hnm, ← cn]
        rfl
      have kok : KdOk fs (d2 + 1) (cs ++ [cd]) := by
        refine ⟨fok, by omega, by omega, by rw [List.length_append]; exact Nat.le_add_left .., by rw [List.length_append, cl]; show d4 + 1 + 1 ≤ 6; omega, fun c' hc' => ?_, ?_⟩
        · rcases List.mem_append.mp hc' with h | h
          · exact cok c' h
          · rw [List.mem_singleton.mp h]
            exact cdok
        · rw [nms]
          exact ((by decide +kernel : (callNames ++ (["build"] : List Str)).Nodup)).sublist ((List.take_sublist _ _).append (List.Sublist.refl _))
      refine ⟨_, rfl, _, rfl, _, rfl, s, fa, ca, d2 + 1, fvs, cvs ++ [v], fs, cs ++ [cd], rfl, hsc, ?_, al5.mono fun _ _ h => FdT.keep e5c.off h, ?_, alc, kok, fun v' H' e' pa => ?_⟩
      · rw [off_ne fas]
        exact e5c _ _ fa5 fas
      · rw [off_ne cas, upd_same]
      · exact k v' H' fs (d2 + 1) (cs ++ [cd]) ((e5.trans e5c).trans (same_sx e')) (hc.keep e') kok (by omega) hfn (by omega) ⟨d4 + 1, by omega, nms⟩ ⟨cs, cd, rfl, ch⟩ pa
end
end MK

set_option Elab.async false
set_option linter.all false
set_option autoImplicit false
set_option maxRecDepth 100000
set_option maxHeartbeats 4000000
namespace MK
open PySem PySem.Spec PyProof.Rows L2
local macro_rules | `(tactic| walk_at "x") => `(tactic| dsimp only [tSeq, tAsg, tRet, tDrop, tLst, tTup, tCons, tOp, tUn, tIfS])
/-! ### whether a call has the name -/
abbrev s_Kind_contains : Stmt := inClass (topS 50) 4
theorem sc_Kind_contains : FnScope ["self", "x"] ["self", "x"] (defScope s_Kind_contains) := ⟨rfl, rfl, rfl, by decide +kernel, rfl, by decide +kernel, by decide +kernel⟩
theorem table_has {cs : List CD} {sv : List V} (l : sv.length = cs.length) (z : Str) : (valV (tableV cs sv) (.inr z)).isSome = decide (z ∈ cs.map (·.nm)) := by
  rw [← valV_any, Bool.eq_iff_iff, decide_eq_true_iff, List.any_eq_true]
  have keys : (tableV cs sv).map (·.1) = (cs.map (·.nm)).map (Sum.inr : Str → Key) := by
    unfold tableV
    rw [zip_keys2 _ (fun c => Sum.inr c.nm) (fun _ _ => rfl) _ _ l.symm, List.map_map]
    rfl
  constructor
  · rintro ⟨p, hp, e⟩
    have m : p.1 ∈ (tableV cs sv).map (·.1) := List.mem_map_of_mem hp
    rw [keys, of_decide_eq_true e] at m
    obtain ⟨y, hy, e⟩ := List.mem_map.mp m
    exact Sum.inr.inj e ▸ hy
  · intro m
    have m2 : (Sum.inr z : Key) ∈ (tableV cs sv).map (·.1) := by
      rw [keys]
      exact List.mem_map_of_mem m
    obtain ⟨p, hp, e⟩ := List.mem_map.mp m2
    exact ⟨p, hp, decide_eq_true e⟩
def spHas (K : PySem.W.Frag) (KC : Addr) : Sp := fun vs H Q _ => ∃ (v x : V) (fs : List FD) (n : Nat) (cs : List CD), vs = [v, x] ∧ KdA K KC H v fs n cs ∧ ((∃ z, x = .str z ∧ Q (.bl (decide (z ∈ cs.map (·.nm)))) H) ∨ (NoStr K H x ∧ Q (.bl false) H))
section
variable {P : Program} {w : World} {K : PySem.W.Frag} {mg : Str → Option Value} {base : Heap} {C : Cst} {KC : Addr}
theorem run_has (T : Txt K mg) (Z : KCls K KC) {f : Addr} {cdv : Value} {A : Around} {outer : List Env} {sh : Shared} {H : Hp} {vs : List V} {Q : VK} {E : XK} (hr : Room 0 (A.deeper (envOfC "Kind.__contains__" (defScope s_Kind_contains) sh.heap.objs.size f cdv))) (h : spHas K KC vs H Q E) :
    ∃ t, PSs (cxOf CX0 P w K mg base ["self", "x"] "Kind.__contains__" (defScope s_Kind_contains) f cdv A outer sh H E).nox (defBody s_Kind_contains) t ∧ t { nx := fun _ H' => Q .non H', rt := Q } (start ["self", "x"] vs) H := by
  obtain ⟨v, x, fs, n, cs, rfl, ⟨a, dx, so, sp, tb, t, st, tv, sv, rfl, h1, h2, h3, h4, h5, h6, h7, h8⟩, h⟩ := h
  refine ⟨_, (pss_one (ps_ret (pe_cut (pe_and (pe_callB call_isi (by rfl) T.isinstance (by decide +kernel) (pa_cons (pv 1) (pa_cons (pe_tyv (n := "str") (by rfl) T.str (by decide +kernel)) pa_nil))) (pe_one (pe_cmp (pc_din (hu_of hr) (pv 1) (pe_fld (pv 0) rfl)) rfl)))))), ?_⟩
  rcases h with ⟨z, rfl, q⟩ | ⟨⟨t, ty, kt⟩, q⟩
  · refine ⟨fun v H2 => v = .bl (decide (z ∈ cs.map (·.nm))) ∧ H2 = H, ?_, fun v H2 e => by rw [e.1, e.2]; exact q⟩
    refine ⟨_, rfl, _, _, _, _, true, rfl, .ty _, .base (.str z), kit_ty (by decide +kernel), true, rfl, iteT ?_⟩
    refine ⟨_, rfl, _, rfl, a, KC, dx, _, .ref tb, rfl, h1, Z.cls, Z.table, rfl, tb, _, rfl, DGet.k (k := .inr z) h8, ?_, rfl⟩
    rw [table_has h7.1]
  · refine ⟨fun v H2 => v = .bl false ∧ H2 = H, ?_, fun v H2 e => by rw [e.1, e.2]; exact q⟩
    exact ⟨_, rfl, _, _, _, _, false, rfl, .ty _, ty, kit_ty kt, false, rfl, iteF ⟨rfl, rfl⟩⟩
end
end MK

set_option Elab.async false
set_option linter.all false
set_option autoImplicit false
set_option maxRecDepth 100000
set_option maxHeartbeats 4000000
namespace MK
open PySem PySem.Spec PyProof.Rows L2
local macro_rules | `(tactic| walk_at "x") => `(tactic| dsimp only [tSeq, tAsg, tRet, tDrop, tLst, tTup, tCons, tOp, tUn, tIfS])
/-! ### kinds are equal -/
abbrev s_Kind_eq : Stmt := inClass (topS 50) 1
theorem sc_Kind_eq : FnScope ["self", "other"] ["self", "other"] (defScope s_Kind_eq) := ⟨rfl, rfl, rfl, by decide +kernel, rfl, by decide +kernel, by decide +kernel⟩
structure KIns (K : PySem.W.Frag) (KC : Addr) : Prop where
  ha : PySem.W.findIn K (.ref KC) "__class__" = some (some (.builtin "object.__class__"))
  hn : PySem.W.specialIn K (.builtin "object.__class__") "__get__" = some (some (.builtin "getset_descriptor.__get__"))
  htk : PySem.W.takesIn K (.builtin "object.__class__") = some true
  hm : PySem.W.mroIn K KC (.type "object") = some true
def spKEq (K : PySem.W.Frag) (KC : Addr) : Sp := fun vs H Q _ => ∃ (v w : V) (fs gs : List FD) (n m : Nat) (cs ds : List CD), vs = [v, w] ∧ KdA K KC H v fs n cs ∧ KdA K KC H w gs m ds ∧ KdOk fs n cs ∧ KdOk gs m ds ∧ Q (.bl (decide (fs = gs ∧ n = m ∧ cs = ds))) H
section
variable {P : Program} {w : World} {K : PySem.W.Frag} {mg : Str → Option Value} {base : Heap} {C : Cst} {KC : Addr}
theorem run_keq (T : Txt K mg) (Z : KCls K KC) (Y : KIns K KC) (gK : mg "Kind" = some (.ref KC)) {f : Addr} {cdv : Value} {A : Around} {outer : List Env} {sh : Shared} {H : Hp} {vs : List V} {Q : VK} {E : XK} (hr : Room 0 (A.deeper (envOfC "Kind.__eq__" (defScope s_Kind_eq) sh.heap.objs.size f cdv))) (h : spKEq K KC vs H Q E) :
    ∃ t, PSs (cxOf CX0 P w K mg base ["self", "other"] "Kind.__eq__" (defScope s_Kind_eq) f cdv A outer sh H E).nox (defBody s_Kind_eq) t ∧ t { nx := fun _ H' => Q .non H', rt := Q } (start ["self", "other"] vs) H := by
  obtain ⟨v, w', fs, gs, n, m, cs, ds, rfl, ⟨a, dx, so, sp, tb, t, st, tv, sv, rfl, h1, h2, h3, h4, h5, h6, h7, h8⟩, ⟨b, dy, so', sp', tb', t', st', tv', sv', rfl, g1, g2, g3, g4, g5, g6, g7, g8⟩, ok1, ok2, q⟩ := h
  refine ⟨_, (pss_one (ps_ret (pe_cut (pe_and (pe_callB call_isi (by rfl) T.isinstance (by decide +kernel) (pa_cons (pv 1) (pa_cons (pe_refv (by rfl) gK) pa_nil))) (pe_and (pe_cmpR (op_eqD hr.units) (pe_fld (pv 0) rfl) (pe_fld (pv 1) rfl) (nomark _)) (pe_and (pe_cmpR op_eq (pe_fld (pv 0) rfl) (pe_fld (pv 1) rfl) (nomark _)) (pe_one (pe_cmpR (op_eqD hr.units) (pe_fld (pv 0) rfl) (pe_fld (pv 1) rfl) (nomark _))))))))), ?_⟩
  refine ⟨fun v H2 => v = .bl (decide (fs = gs ∧ n = m ∧ cs = ds)) ∧ H2 = H, ?_, fun v H2 e => by rw [e.1, e.2]; exact q⟩
  refine ⟨_, rfl, _, _, _, _, true, rfl, .own _, .base (.ins g1 Z.cls Y.ha Y.hn Y.htk Y.hm), if_pos (beq_self_eq_true _), true, rfl, iteT ?_⟩
  refine ⟨_, rfl, a, KC, dx, _, t, rfl, h1, Z.cls, Z.triples, rfl, _, rfl, b, KC, dy, _, t', rfl, g1, Z.cls, Z.triples, rfl, _, _, dp_fs h2 h3, dp_fs g2 g3, shaped_fs ok1.fields, shaped_fs ok2.fields, ?_⟩
  rw [eqv_fs]
  refine ⟨_, rfl, ite2 (fun e => ?_) (fun e => ⟨?_, rfl⟩)⟩
  · have e := of_decide_eq_true e
    refine ⟨_, rfl, a, KC, dx, _, .int n, rfl, h1, Z.cls, Z.modes, rfl, _, rfl, b, KC, dy, _, .int m, rfl, g1, Z.cls, Z.modes, rfl, rfl, _, rfl, ite2 (fun e2 => ?_) (fun e2 => ⟨?_, rfl⟩)⟩
    · have e2 : n = m := by
        have := V.int.inj (of_decide_eq_true e2)
        omega
      refine ⟨_, rfl, a, KC, dx, _, st, rfl, h1, Z.cls, Z.steps, rfl, _, rfl, b, KC, dy, _, st', rfl, g1, Z.cls, Z.steps, rfl, _, _, dp_cs h6 h7, dp_cs g6 g7, shaped_cs ok1.fields ok1.calls, shaped_cs ok2.fields ok2.calls, ?_, rfl⟩
      rw [eqv_cs]
      exact congrArg V.bl (decide_eq_decide.mpr ⟨fun x => ⟨e, e2, x⟩, fun x => x.2.2⟩)
    · have e2 : ¬ n = m := fun x => e2 (decide_eq_true (by rw [x]))
      exact congrArg V.bl (decide_eq_false (p := fs = gs ∧ n = m ∧ cs = ds) fun x => e2 x.2.1).symm
  · have e : ¬ fs = gs := fun x => e (decide_eq_true x)
    exact congrArg V.bl (decide_eq_false (p := fs = gs ∧ n = m ∧ cs = ds) fun x => e x.1).symm
end
end MK

set_option Elab.async false
set_option linter.all false
set_option autoImplicit false
set_option maxRecDepth 100000
set_option maxHeartbeats 4000000
namespace MK
open PySem PySem.Spec PyProof.Rows L2
local macro_rules | `(tactic| walk_at "x") => `(tactic| dsimp only [tSeq, tAsg, tRet, tDrop, tLst, tTup, tCons, tOp, tUn, tIfS])
/-! ### _law_same -/
abbrev s_same : Stmt := topS 58
theorem sc_same : FnScope ["_law_found", "_law_due", "_law_a", "_law_b"] ["_law_found", "_law_due"] (defScope s_same) := ⟨rfl, rfl, rfl, by decide +kernel, rfl, by decide +kernel, by decide +kernel⟩
def spSame (K : PySem.W.Frag) (n : Nat) : Sp := fun vs H Q _ => ∃ x y, vs = [x, y] ∧ Sm K H n x y ∧ ∀ H', Same H H' → Q (.bl true) H'
section
variable {P : Program} {w : World} {K : PySem.W.Frag} {mg : Str → Option Value} {base : Heap}
theorem ty2 {P1 P2 : Prop} (a : P1) (b : P2) : P1 ∧ P2 := ⟨a, b⟩
theorem any2 {t a b : String} {r1 r2 : Bool} (h1 : kitB t a = some r1) (h2 : kitB t b = some r2) : PySem.W.kitAny K (.type t) [.type a, .type b] = some (r1 || r2) := by
  refine kitAny_cons (kit_ty h1) (fun e => ?_) (fun e => by rw [e]; rfl)
  refine kitAny_cons (kit_ty h2) (fun e2 => ?_) (fun e2 => by rw [e2, Bool.or_true])
  rw [e, e2]
  rfl
theorem any4 {t a b c d : String} (h1 : kitB t a = some false) (h2 : kitB t b = some false) (h3 : kitB t c = some false) (h4 : kitB t d = some false) : PySem.W.kitAny K (.type t) [.type a, .type b, .type c, .type d] = some false :=
  kitAny_cons (kit_ty h1) (fun _ => kitAny_cons (kit_ty h2) (fun _ => kitAny_cons (kit_ty h3) (fun _ => kitAny_cons (kit_ty h4) (fun _ => rfl) nofun) nofun) nofun) nofun
/-- what the last rows of it see of flat things -/
structure FlatT (K : PySem.W.Frag) (H : Hp) (x y : V) (t : String) : Prop where
  tx : TyX K H x (.type t)
  ty : TyX K H y (.type t)
  l : kitB t "list" = some false
  u : kitB t "tuple" = some false
  i : (kitB t "int" = some false ∧ kitB t "bool" = some false) ∨ (kitB t "int" = some true ∧ ∃ b, kitB t "bool" = some b)
  eq : ∀ H', Same H H' → ∀ Q : VK, Q (.bl true) H' → (rEq x y H' Q ∨ ∃ a b kvs, x = .ref a ∧ y = .ref b ∧ H' a = some (.dK kvs) ∧ H' b = some (.dK kvs) ∧ (kvs.map (·.1)).Nodup ∧ (∀ p ∈ kvs, flatB p.2 = true) ∧ Q (.bl true) H')
theorem eq_refl {x : V} {H : Hp} {Q : VK} (h : scal x x = true) (q : Q (.bl true) H) : rEq x x H Q := ⟨h, by rw [decide_eq_true rfl]; exact q⟩
theorem flat_t {H : Hp} {x y : V} (h : Flat H x y) : ∃ t, FlatT K H x y t := by
  rcases h with ⟨rfl, h⟩ | ⟨a, b, kvs, rfl, rfl, ha, hb, hd, hv⟩
  · rcases h with rfl | ⟨b, rfl⟩ | ⟨i, rfl⟩ | ⟨z, rfl⟩
    · exact ⟨"NoneType", .base .non, .base .non, by decide +kernel, by decide +kernel, .inl ⟨by decide +kernel, by decide +kernel⟩, fun H' _ Q q => .inl (eq_refl rfl q)⟩
    · exact ⟨"bool", .base (.bl b), .base (.bl b), by decide +kernel, by decide +kernel, .inr ⟨by decide +kernel, true, by decide +kernel⟩, fun H' _ Q q => .inl (eq_refl rfl q)⟩
    · exact ⟨"int", .base (.int i), .base (.int i), by decide +kernel, by decide +kernel, .inr ⟨by decide +kernel, false, by decide +kernel⟩, fun H' _ Q q => .inl (eq_refl rfl q)⟩
    · exact ⟨"str", .base (.str z), .base (.str z), by decide +kernel, by decide +kernel, .inl ⟨by decide +kernel, by decide +kernel⟩, fun H' _ Q q => .inl (eq_refl rfl q)⟩
  · exact ⟨"dict", .base (.dK ha), .base (.dK hb), by decide +kernel, by decide +kernel, .inl ⟨by decide +kernel, by decide +kernel⟩, fun H' e Q q => .inr ⟨a, b, kvs, rfl, rfl, e _ _ ha, e _ _ hb, hd, hv, q⟩⟩
theorem ok_same0 {f : Addr} {fd : FuncData} (F : DefX K mg "_law_same" s_same ["_law_found", "_law_due"] f fd) (T : Txt K mg) (n k : Nat) (sp' : Sp) (c_same : Cal P w K mg base CX0 k "_law_same" sp') (hk : k ≤ n) (hsp : ∀ m, n = m + 1 → sp' = spSame K m) :
    Cal P w K mg base CX0 (n + 1) "_law_same" (spSame K n) := by
  refine cal_mk F sc_same (fun vs H Q E h => ?_) (fun cdv A outer s H vs Q E hr h => ?_)
  · obtain ⟨x, y, rfl, _⟩ := h
    rfl
  · obtain ⟨x, y, rfl, h, q⟩ := h
    refine ⟨_, (pss_cons (ps_if (pt_val (pe_callB call_isiT (by rfl) T.isinstance (by decide +kernel) (pa_cons (pv 1) (pa_cons (pe_tup (pa_cons (pe_tyv (n := "list") (by rfl) T.list (by decide +kernel)) (pa_cons (pe_tyv (n := "tuple") (by rfl) T.tuple (by decide +kernel)) pa_nil))) pa_nil))))
(pss_cons (ps_if (pt_cut (PW.pt (pw_or (pt_cmpR op_ne (pe_callB call_isi (by rfl) T.isinstance (by decide +kernel) (pa_cons (pv 0) (pa_cons (pe_tyv (n := "list") (by rfl) T.list (by decide +kernel)) pa_nil))) (pe_callB call_isi (by rfl) T.isinstance (by decide +kernel) (pa_cons (pv 1) (pa_cons (pe_tyv (n := "list") (by rfl) T.list (by decide +kernel)) pa_nil))) (nomark _)) (pw_or1 (pt_cmpR op_ne (pe_callB call_isi (by rfl) T.isinstance (by decide +kernel) (pa_cons (pv 0) (pa_cons (pe_tyv (n := "tuple") (by rfl) T.tuple (by decide +kernel)) pa_nil))) (pe_callB call_isi (by rfl) T.isinstance (by decide +kernel) (pa_cons (pv 1) (pa_cons (pe_tyv (n := "tuple") (by rfl) T.tuple (by decide +kernel)) pa_nil))) (nomark _))))))
(pss_one (ps_ret pe_bl))
pss_nil)
(pss_one (ps_ret (pe_cut (pe_and (pe_cmpR op_eq (pe_callB call_len_seq (by rfl) T.len (by decide +kernel) (pa_cons (pv 0) pa_nil)) (pe_callB call_len_seq (by rfl) T.len (by decide +kernel) (pa_cons (pv 1) pa_nil)) (nomark _)) (pe_one (pe_callB (cr_all rfl) (by rfl) T.all (by decide +kernel) (pa_cons (pe_lc (own := [("_law_a", 2), ("_law_b", 3)]) (g := (gTup K 2 (gCons (gName 2) (gCons (gName 3) gNil)))) (tt := tYes) rfl sc_same.nd (RZ.pi_zipA (by rfl) T.zip (pa_cons (pv 0) (pa_cons (pv 1) pa_nil))) (blkOk_by (own := [("_law_a", 2), ("_law_b", 3)]) (N := ["_law_found", "_law_due", "_law_a", "_law_b"]) (sc := defScope s_same) (by decide +kernel)) (fun _ _ _ _ _ => (pg_tup (by rfl) (pgs_cons (pg_name (i := 2) sc_same.nd rfl (Or.inl rfl)) (pgs_cons (pg_name (i := 3) sc_same.nd rfl (Or.inl rfl)) pgs_nil)))) (fun _ _ _ _ _ => pts_nil) (fun _ _ _ _ _ => (pe_c c_same hr (by first | decide | assumption) rfl (pa_cons (pv 2) (pa_cons (pv 3) pa_nil))))) pa_nil))))))))
pss_nil)
(pss_cons (ps_if (pt_val (pe_callB call_isi (by rfl) T.isinstance (by decide +kernel) (pa_cons (pv 1) (pa_cons (pe_tyv (n := "int") (by rfl) T.int (by decide +kernel)) pa_nil))))
(pss_one (ps_ret (pe_cut (pe_and (pe_callB call_isi (by rfl) T.isinstance (by decide +kernel) (pa_cons (pv 0) (pa_cons (pe_tyv (n := "int") (by rfl) T.int (by decide +kernel)) pa_nil))) (pe_and (pe_cmpR op_eq (pe_callB call_isi (by rfl) T.isinstance (by decide +kernel) (pa_cons (pv 0) (pa_cons (pe_tyv (n := "bool") (by rfl) T.bool (by decide +kernel)) pa_nil))) (pe_callB call_isi (by rfl) T.isinstance (by decide +kernel) (pa_cons (pv 1) (pa_cons (pe_tyv (n := "bool") (by rfl) T.bool (by decide +kernel)) pa_nil))) (nomark _)) (pe_one (pe_cmpR (OpR.or op_eq (op_eq_dict hr.units0)) (pv 0) (pv 1) (nomark _))))))))
pss_nil)
(pss_one (ps_ret (pe_cut (pe_and (pe_cmpR op_is_bl (pe_callB call_isiT (by rfl) T.isinstance (by decide +kernel) (pa_cons (pv 0) (pa_cons (pe_tup (pa_cons (pe_tyv (n := "bool") (by rfl) T.bool (by decide +kernel)) (pa_cons (pe_tyv (n := "int") (by rfl) T.int (by decide +kernel)) (pa_cons (pe_tyv (n := "list") (by rfl) T.list (by decide +kernel)) (pa_cons (pe_tyv (n := "tuple") (by rfl) T.tuple (by decide +kernel)) pa_nil))))) pa_nil))) pe_bl (nomark _)) (pe_one (pe_cmpR (OpR.or op_eq (op_eq_dict hr.units0)) (pv 0) (pv 1) (nomark _))))))))), ?_⟩
    have spl : Flat H x y ∨ ∃ m, n = m + 1 ∧ ∃ a b xs ys, x = V.ref a ∧ y = V.ref b ∧ ((SqL K H a xs ∧ SqL K H b ys) ∨ (SqT K H a xs ∧ SqT K H b ys)) ∧ xs.length = ys.length ∧ xs.length < 100000 ∧ ∀ (i : Nat) x y, xs[i]? = some x → ys[i]? = some y → Sm K H m x y := by
      cases n with
      | zero => exact .inl h
      | succ m =>
        rcases h with h | h
        · exact .inl h
        · exact .inr ⟨m, rfl, h⟩
    refine ⟨_, rfl, by show 2 ≤ sizeLine; decide, fun p hp => ?_⟩
    have e1 : Same H (upd H p (.tup [.ty "list", .ty "tuple"])) := same_new (Same.refl H) hp
    rcases spl with hf | ⟨m, hn, a, b, xs, ys, rfl, rfl, hs, hl, hz, hi⟩
    · obtain ⟨t, ft⟩ := flat_t (K := K) hf
      refine ⟨_, p, _, _, _, false, rfl, upd_same, .cons (.ty _) (.cons (.ty _) .nil), tyx_keep e1 ft.ty, any2 ft.l ft.u, false, rfl, iteF ?_⟩
      rcases ft.i with ⟨hi, hb⟩ | ⟨hi, bb, hb⟩
      · refine ⟨_, rfl, _, _, _, _, false, rfl, .ty _, tyx_keep e1 ft.ty, kit_ty hi, false, rfl, iteF ?_⟩
        refine ⟨fun v H2 => v = .bl true ∧ Same H H2, ?_, fun v H2 e => by rw [e.1]; exact q _ e.2⟩
        refine ⟨_, rfl, by show 4 ≤ sizeLine; decide, fun p2 hp2 => ?_⟩
        have e2 := same_new e1 hp2 (o := .tup [.ty "bool", .ty "int", .ty "list", .ty "tuple"])
        refine ⟨_, p2, _, _, _, false, rfl, upd_same, .cons (.ty _) (.cons (.ty _) (.cons (.ty _) (.cons (.ty _) .nil))), tyx_keep e2 ft.tx, any4 hb hi ft.l ft.u, _, _, rfl, rfl, _, rfl, iteT ?_⟩
        exact ⟨_, rfl, _, rfl, ft.eq _ e2 _ ⟨rfl, e2⟩⟩
      · refine ⟨_, rfl, _, _, _, _, true, rfl, .ty _, tyx_keep e1 ft.ty, kit_ty hi, true, rfl, iteT ?_⟩
        refine ⟨fun v H2 => v = .bl true ∧ Same H H2, ?_, fun v H2 e => by rw [e.1]; exact q _ e.2⟩
        refine ⟨_, rfl, _, _, _, _, true, rfl, .ty _, tyx_keep e1 ft.tx, kit_ty hi, true, rfl, iteT ?_⟩
        refine ⟨_, rfl, _, _, _, _, bb, rfl, .ty _, tyx_keep e1 ft.tx, kit_ty hb, _, rfl, _, _, _, _, bb, rfl, .ty _, tyx_keep e1 ft.ty, kit_ty hb, rfl, _, rfl, ?_⟩
        rw [decide_eq_true rfl]
        exact iteT ⟨_, rfl, _, rfl, ft.eq _ e1 _ ⟨rfl, e1⟩⟩
    · have hsp := hsp m hn
      subst hsp
      obtain ⟨t, tx, ty, h1, bl, bu⟩ : ∃ t, TyX K H (.ref a) (.type t) ∧ TyX K H (.ref b) (.type t) ∧ (∀ r1 r2, kitB t "list" = some r1 → kitB t "tuple" = some r2 → (r1 || r2) = true) ∧ (∃ r1, kitB t "list" = some r1) ∧ ∃ r2, kitB t "tuple" = some r2 := by
        rcases hs with ⟨h1, h2⟩ | ⟨h1, h2⟩
        · refine ⟨"list", tyx_l h1, tyx_l h2, fun r1 r2 q1 q2 => ?_, ⟨true, by decide +kernel⟩, ⟨false, by decide +kernel⟩⟩
          have z : kitB "list" "list" = some true := by decide +kernel
          rw [z] at q1
          cases q1
          rfl
        · refine ⟨"tuple", tyx_t h1, tyx_t h2, fun r1 r2 q1 q2 => ?_, ⟨false, by decide +kernel⟩, ⟨true, by decide +kernel⟩⟩
          have z : kitB "tuple" "tuple" = some true := by decide +kernel
          rw [z] at q2
          cases q2
          rw [Bool.or_true]
      obtain ⟨r1, b1⟩ := bl
      obtain ⟨r2, b2⟩ := bu
      refine ⟨_, p, _, _, _, true, rfl, upd_same, .cons (.ty _) (.cons (.ty _) .nil), tyx_keep e1 ty, by rw [← h1 r1 r2 b1 b2]; exact any2 b1 b2, true, rfl, iteT ?_⟩
      -- of the same kinds
      refine ⟨fun t H2 => t = false ∧ H2 = upd H p (.tup [.ty "list", .ty "tuple"]), ?_, ?_⟩
      · refine ⟨_, rfl, _, _, _, _, r1, rfl, .ty _, tyx_keep e1 tx, kit_ty b1, _, rfl, _, _, _, _, r1, rfl, .ty _, tyx_keep e1 ty, kit_ty b1, rfl, _, rfl, ?_⟩
        rw [decide_eq_true rfl]
        refine iteF ?_
        refine ⟨_, rfl, _, _, _, _, r2, rfl, .ty _, tyx_keep e1 tx, kit_ty b2, _, rfl, _, _, _, _, r2, rfl, .ty _, tyx_keep e1 ty, kit_ty b2, rfl, _, rfl, ?_⟩
        rw [decide_eq_true rfl]
        exact ⟨rfl, rfl⟩
      rintro _ _ ⟨rfl, rfl⟩
      refine iteF ?_
      have hs1 : (SqL K (upd H p (.tup [.ty "list", .ty "tuple"])) a xs ∧ SqL K (upd H p (.tup [.ty "list", .ty "tuple"])) b ys) ∨ (SqT K (upd H p (.tup [.ty "list", .ty "tuple"])) a xs ∧ SqT K (upd H p (.tup [.ty "list", .ty "tuple"])) b ys) := by
        rcases hs with ⟨q1, q2⟩ | ⟨q1, q2⟩
        · exact .inl ⟨e1.seq q1, e1.seq q2⟩
        · exact .inr ⟨same_t e1 q1, same_t e1 q2⟩
      refine ⟨fun v H2 => v = .bl true ∧ Same H H2, ?_, fun v H2 e => by rw [e.1]; exact q _ e.2⟩
      refine ⟨_, rfl, a, xs, rfl, hs1.imp (·.1) (·.1), _, rfl, b, ys, rfl, hs1.imp (·.2) (·.2), rfl, _, rfl, ?_⟩
      rw [hl, decide_eq_true rfl]
      refine iteT ?_
      have kp : ∀ H2 : Hp, Same H H2 → (SqL K H2 a xs ∧ SqL K H2 b ys) ∨ (SqT K H2 a xs ∧ SqT K H2 b ys) := fun H2 e => by
        rcases hs with ⟨q1, q2⟩ | ⟨q1, q2⟩
        · exact .inl ⟨e.seq q1, e.seq q2⟩
        · exact .inr ⟨same_t e q1, same_t e q2⟩
      rcases hs with ⟨q1, q2⟩ | ⟨q1, q2⟩
      all_goals
        refine ⟨_, rfl, _, rfl, a, b, xs, ys, rfl, ?_⟩
        first
          | refine .inl ⟨e1.seq q1, e1.seq q2, fun D hD => lc_it (walk_zip (n := xs.length) (by omega)) (fun i H2 => Same H H2 ∧ H D = none ∧ H2 D = some (.lst (List.replicate i (.bl true)))) ⟨same_new e1 hD, (upd_none hD).2, upd_same⟩ (fun i H2 _ e => ⟨e.1.seq q1, e.1.seq q2⟩) ?_ ?_⟩
          | refine .inr ⟨same_t e1 q1, same_t e1 q2, fun D hD => lc_it (walk_zipT (n := xs.length) (by omega)) (fun i H2 => Same H H2 ∧ H D = none ∧ H2 D = some (.lst (List.replicate i (.bl true)))) ⟨same_new e1 hD, (upd_none hD).2, upd_same⟩ (fun i H2 _ e => ⟨same_t e.1 q1, same_t e.1 q2⟩) ?_ ?_⟩
        · rintro i v H2 H3 hlt ⟨e2, d0, d2⟩ ⟨U, x', y', rfl, hU, rfl, hx, hy⟩
          refine ⟨U, _, rfl, SqT.of upd_same, rfl, _, _, rfl, _, _, rfl, rfl, rfl, ?_⟩
          have e3 := same_new e2 hU (o := .tup [x', y'])
          have ud : U ≠ D := fun z => by rw [z, d2] at hU; cases hU
          refine ⟨_, rfl, _, rfl, x', y', rfl, (hi i x' y' hx hy).keep e3, fun H4 e4 => ⟨List.replicate i (.bl true), e4 _ _ ((upd_ne ud.symm).trans d2), by rw [List.length_replicate, sizeLine_eq]; omega, fun c o hc => ?_, d0, ?_⟩⟩
          · have dc : c ≠ D := fun z => by rw [z, d0] at hc; cases hc
            rw [upd_ne dc]
            exact e4 _ _ (e3 _ _ hc)
          · rw [upd_same, List.replicate_succ']
        · rintro H2 ⟨e2, d0, d2⟩
          refine ⟨D, List.replicate xs.length true, rfl, ?_, ?_, e2⟩
          · rw [List.map_replicate]
            exact SqL.of d2
          · simp
theorem ok_same {f : Addr} {fd : FuncData} (F : DefX K mg "_law_same" s_same ["_law_found", "_law_due"] f fd) (T : Txt K mg) : ∀ n : Nat, Cal P w K mg base CX0 (n + 1) "_law_same" (spSame K n)
  | 0 => ok_same0 F T 0 0 _ (cal_bot F) (Nat.le_refl _) (fun _ h => nomatch h)
  | n + 1 => ok_same0 F T (n + 1) (n + 1) _ (ok_same F T n) (Nat.le_refl _) (fun m h => by cases h; rfl)
end
end MK

set_option Elab.async false
set_option linter.all false
set_option autoImplicit false
set_option maxRecDepth 100000
set_option maxHeartbeats 4000000
namespace MK
open PySem PySem.Spec PyProof.Rows L2
local macro_rules | `(tactic| walk_at "x") => `(tactic| dsimp only [tSeq, tAsg, tRet, tDrop, tLst, tTup, tCons, tOp, tUn, tIfS])
/-! ### words for errors -/
abbrev s_error : Stmt := topS 62
theorem sc_error : FnScope ["_law_e"] ["_law_e"] (defScope s_error) := ⟨rfl, rfl, rfl, by decide +kernel, rfl, by decide +kernel, by decide +kernel⟩
abbrev s_tried : Stmt := topS 61
theorem sc_tried : FnScope ["_law_deed", "_law_e"] ["_law_deed"] (defScope s_tried) := ⟨rfl, rfl, rfl, by decide +kernel, rfl, by decide +kernel, by decide +kernel⟩
theorem pe_nev {X : Cx} {e : Expr} : PE X e (fun _ _ _ => False) := ⟨fun _ _ _ _ _ _ h => h.elim⟩
structure EB where
  BadField : Addr
  BadModes : Addr
  BadCall : Addr
  UnknownCall : Addr
  BadPlace : Addr
  BadText : Addr
  BadRow : Addr
  MakerError : Addr
structure ErrN (K : PySem.W.Frag) (mg : Str → Option Value) (A : EB) : Prop where
  g_BadField : mg "BadField" = some (.ref A.BadField)
  g_BadModes : mg "BadModes" = some (.ref A.BadModes)
  g_BadCall : mg "BadCall" = some (.ref A.BadCall)
  g_UnknownCall : mg "UnknownCall" = some (.ref A.UnknownCall)
  g_BadPlace : mg "BadPlace" = some (.ref A.BadPlace)
  g_BadText : mg "BadText" = some (.ref A.BadText)
  g_BadRow : mg "BadRow" = some (.ref A.BadRow)
  g_MakerError : mg "MakerError" = some (.ref A.MakerError)
  iU : ErrI K A.UnknownCall
  fU : ErrF K A.UnknownCall
  nU : PySem.W.findIn K (.ref A.UnknownCall) "name" = some none
  iP : ErrI K A.BadPlace
  fP : ErrF K A.BadPlace
  nP : PySem.W.findIn K (.ref A.BadPlace) "place" = some none
  u1 : PySem.W.kitOne K (.ref A.UnknownCall) (.ref A.BadField) = some false
  u2 : PySem.W.kitOne K (.ref A.UnknownCall) (.ref A.BadModes) = some false
  u3 : PySem.W.kitOne K (.ref A.UnknownCall) (.ref A.BadCall) = some false
  u4 : PySem.W.kitOne K (.ref A.UnknownCall) (.ref A.UnknownCall) = some true
  p1 : PySem.W.kitOne K (.ref A.BadPlace) (.ref A.BadField) = some false
  p2 : PySem.W.kitOne K (.ref A.BadPlace) (.ref A.BadModes) = some false
  p3 : PySem.W.kitOne K (.ref A.BadPlace) (.ref A.BadCall) = some false
  p4 : PySem.W.kitOne K (.ref A.BadPlace) (.ref A.UnknownCall) = some false
  p5 : PySem.W.kitOne K (.ref A.BadPlace) (.ref A.BadPlace) = some true
  mU : PySem.W.exmOne K (.ref A.UnknownCall) (.ref A.MakerError) = some true
  mP : PySem.W.exmOne K (.ref A.BadPlace) (.ref A.MakerError) = some true
def spErrW (A : EB) : SpP := fun a cls d vs H Q _ => vs = [.ref a] ∧ ∃ (dd : Addr) (v : V), d = some dd ∧
  ((cls = .ref A.UnknownCall ∧ H dd = some (.xd [("name", v)]) ∧ ∀ p, H p = none → Q (.ref p) (upd H p (.tup [.str "unknown", v]))) ∨
   (cls = .ref A.BadPlace ∧ H dd = some (.xd [("place", v)]) ∧ ∀ p, H p = none → Q (.ref p) (upd H p (.tup [.str "place", v]))))
section
variable {P : Program} {w : World} {K : PySem.W.Frag} {mg : Str → Option Value} {base : Heap} {A : EB}
theorem ok_errw {f : Addr} {fd : FuncData} (F : DefX K mg "_law_error" s_error ["_law_e"] f fd) (T : Txt K mg) (W : ErrN K mg A) : FnP P w K mg base 1 f fd ["_law_e"] (spErrW A) := by
  refine fnP_of F sc_error (fun a cls d vs H Q h => ?_) (fun cdv Ar outer sh H vs Q a oe cls d hz hf hr h => ?_)
  · rw [h.1]
    rfl
  · obtain ⟨rfl, dd, v, rfl, h⟩ := h
    have hp : (a, oe) ∈ [(a, oe)] := List.mem_cons_self
    refine ⟨_, (pss_cons (ps_if (pt_val (pe_callB (call_isP hp hz hf) (by rfl) T.isinstance (by decide +kernel) (pa_cons (pv 0) (pa_cons (pe_refv (by rfl) W.g_BadField) pa_nil))))
(pss_one (ps_ret (pe_tup (pa_cons pe_str (pa_cons (pe_errP hp hz hf (pv 0)) pa_nil)))))
pss_nil)
(pss_cons (ps_if (pt_val (pe_callB (call_isP hp hz hf) (by rfl) T.isinstance (by decide +kernel) (pa_cons (pv 0) (pa_cons (pe_refv (by rfl) W.g_BadModes) pa_nil))))
(pss_one (ps_ret (pe_tup (pa_cons pe_str (pa_cons (pe_errP hp hz hf (pv 0)) pa_nil)))))
pss_nil)
(pss_cons (ps_if (pt_val (pe_callB (call_isP hp hz hf) (by rfl) T.isinstance (by decide +kernel) (pa_cons (pv 0) (pa_cons (pe_refv (by rfl) W.g_BadCall) pa_nil))))
(pss_one (ps_ret (pe_tup (pa_cons pe_str (pa_cons (pe_tup (pa_cons (pe_errP hp hz hf (pv 0)) (pa_cons (pe_errP hp hz hf (pv 0)) pa_nil))) pa_nil)))))
pss_nil)
(pss_cons (ps_if (pt_val (pe_callB (call_isP hp hz hf) (by rfl) T.isinstance (by decide +kernel) (pa_cons (pv 0) (pa_cons (pe_refv (by rfl) W.g_UnknownCall) pa_nil))))
(pss_one (ps_ret (pe_tup (pa_cons pe_str (pa_cons (pe_errP hp hz hf (pv 0)) pa_nil)))))
pss_nil)
(pss_cons (ps_if (pt_val (pe_callB (call_isP hp hz hf) (by rfl) T.isinstance (by decide +kernel) (pa_cons (pv 0) (pa_cons (pe_refv (by rfl) W.g_BadPlace) pa_nil))))
(pss_one (ps_ret (pe_tup (pa_cons pe_str (pa_cons (pe_errP hp hz hf (pv 0)) pa_nil)))))
pss_nil)
(pss_cons (ps_if (pt_val (pe_callB (call_isP hp hz hf) (by rfl) T.isinstance (by decide +kernel) (pa_cons (pv 0) (pa_cons (pe_refv (by rfl) W.g_BadText) pa_nil))))
(pss_one (ps_ret (pe_tup (pa_cons pe_str (pa_cons (pe_errP hp hz hf (pv 0)) pa_nil)))))
pss_nil)
(pss_cons (ps_if (pt_val (pe_callB (call_isP hp hz hf) (by rfl) T.isinstance (by decide +kernel) (pa_cons (pv 0) (pa_cons (pe_refv (by rfl) W.g_BadRow) pa_nil))))
(pss_one (ps_ret (pe_tup (pa_cons pe_str (pa_cons (pe_errP hp hz hf (pv 0)) pa_nil)))))
pss_nil)
(pss_one (ps_ret (pe_nev)))))))))), ?_⟩
    rcases h with ⟨rfl, hd, q⟩ | ⟨rfl, hd, q⟩
    · refine ⟨_, rfl, A.UnknownCall, dd, _, _, _, false, rfl, rfl, rfl, hd, W.iU, .own _, W.u1, false, rfl, iteF ?_⟩
      refine ⟨_, rfl, A.UnknownCall, dd, _, _, _, false, rfl, rfl, rfl, hd, W.iU, .own _, W.u2, false, rfl, iteF ?_⟩
      refine ⟨_, rfl, A.UnknownCall, dd, _, _, _, false, rfl, rfl, rfl, hd, W.iU, .own _, W.u3, false, rfl, iteF ?_⟩
      refine ⟨_, rfl, A.UnknownCall, dd, _, _, _, true, rfl, rfl, rfl, hd, W.iU, .own _, W.u4, true, rfl, iteT ?_⟩
      exact ⟨_, rfl, rfl, A.UnknownCall, dd, _, v, rfl, rfl, W.fU, W.nU, hd, rfl, by show 2 ≤ sizeLine; decide, fun p hp => q p hp⟩
    · refine ⟨_, rfl, A.BadPlace, dd, _, _, _, false, rfl, rfl, rfl, hd, W.iP, .own _, W.p1, false, rfl, iteF ?_⟩
      refine ⟨_, rfl, A.BadPlace, dd, _, _, _, false, rfl, rfl, rfl, hd, W.iP, .own _, W.p2, false, rfl, iteF ?_⟩
      refine ⟨_, rfl, A.BadPlace, dd, _, _, _, false, rfl, rfl, rfl, hd, W.iP, .own _, W.p3, false, rfl, iteF ?_⟩
      refine ⟨_, rfl, A.BadPlace, dd, _, _, _, false, rfl, rfl, rfl, hd, W.iP, .own _, W.p4, false, rfl, iteF ?_⟩
      refine ⟨_, rfl, A.BadPlace, dd, _, _, _, true, rfl, rfl, rfl, hd, W.iP, .own _, W.p5, true, rfl, iteT ?_⟩
      exact ⟨_, rfl, rfl, A.BadPlace, dd, _, v, rfl, rfl, W.fP, W.nP, hd, rfl, by show 2 ≤ sizeLine; decide, fun p hp => q p hp⟩
end
end MK

set_option Elab.async false
set_option linter.all false
set_option autoImplicit false
set_option maxRecDepth 100000
set_option maxHeartbeats 4000000
namespace MK
open PySem PySem.Spec PyProof.Rows L2
local macro_rules | `(tactic| walk_at "x") => `(tactic| dsimp only [tSeq, tAsg, tRet, tDrop, tLst, tTup, tCons, tOp, tUn, tIfS])
/-! ### what is tried -/
def TTried (A : EB) : (XK → Hp → VK → Prop) → Hp → VK → Prop := fun tl H Q =>
  tl (fun cls d H' => (cls = .ref A.UnknownCall ∨ cls = .ref A.BadPlace) ∧ ∀ a, H' a = none → spErrW A a cls d [.ref a] H' Q E0) H fun v H' => ([V.str "told", v] : List V).length ≤ sizeLine ∧ ∀ p, H' p = none → Q (.ref p) (upd H' p (.tup [.str "told", v]))
def tVarL (n i : Nat) : TE := fun σ H Q => ∃ v : V, (σ.length = n → σ[i]? = some (some v)) ∧ Q v H
theorem pe_varL {X : Cx} {x : Str} {n i : Nat} {pos : Pos} (hl : X.N.length = n) (hN : X.N[i]? = some x := by rfl) (hv : Vis X.env.scope x := by first | exact .inl rfl | exact .inr (.inl rfl)) (hd : (x == ("__debug__" : Str)) = false := by decide) (hcd : (x == ("__classdict__" : Str)) = false := by decide) :
    PE X (.Name x pos) (tVarL n i) := ⟨fun pins s σ H Q I ⟨v, h, q⟩ => (pe_var (i := i) hN hv hd hcd).run pins s σ H Q I ⟨v, h (I.len.trans hl), q⟩⟩
theorem tried_gives {X : Cx} {A : EB} {fe g : Addr} {fde : FuncData} {cdg : Value} {q : Str} (F : FnP X.prog X.w X.K X.mg X.base 1 fe fde ["_law_e"] (spErrW A)) (W : ErrN X.K X.mg A) (hm : X.mg "_law_error" = some (.ref fe)) (hk : PySem.W.keepIn X.K (.ref fe) = true) (hb : Binds X.K fde ["_law_e"] []) (hr : Room 3 X.A) :
    LamX.GivesTo X ["_law_deed", "_law_e"] "_law_tried" (defScope s_tried) g cdg (defBody s_tried) "_law_deed" q (TTried A) := by
  intro f c' s H Q tl act hc h
  have hrH : ∀ (a : Addr), L2H.RoomH 1 (((cxOf C8.CX0 X.prog X.w X.K X.mg X.base ["_law_deed", "_law_e"] "_law_tried" (defScope s_tried) g cdg X.A X.stack s H C8.E0).nox.A).mark (some (.ref a))) := fun a => by
    have r := (hr.mono (j := 2) (by decide)).deeper (envOfC "_law_tried" (defScope s_tried) s.heap.objs.size g cdg)
    exact ⟨r.dp, r.un⟩
  refine ⟨_, pss_one (ps_try_as (X := (cxOf C8.CX0 X.prog X.w X.K X.mg X.base ["_law_deed", "_law_e"] "_law_tried" (defScope s_tried) g cdg X.A X.stack s H C8.E0).nox) (c := .ref A.MakerError) (i := 1)
      (tb := fun W D σ H => ∃ Ech : XK, (∀ cls d σ' H', Ech cls d H' → W cls d σ' H') ∧ σ[0]? = some (some (.ref f)) ∧ H c' = some (LamX.CodeO c' q) ∧ tl Ech H fun v H' => ([V.str "told", v] : List V).length ≤ sizeLine ∧ ∀ p, H' p = none → D.rt (.ref p) (upd H' p (.tup [.str "told", v])))
      (ts := fun a cls d => tRet (tCallP (spErrW A) a cls d (tCons (tVarL 2 1) tNil)))
      (Wout := fun _ _ _ _ => False) rfl rfl sc_tried.nd rfl rfl ⟨rfl, by decide, .inl W.g_MakerError⟩ LamX.takes0 (fun W pn xe tk _ => ?_)
      (fun a oe cls d pn hz hf => pss_one (ps_ret (pe_callP (X := Cx.suite _ a ((a, oe) :: pn)) List.mem_cons_self hz hf F (hrH a) rfl hm hk hb (pa_cons (pe_varL rfl) pa_nil))))), ?_⟩
  · refine ⟨fun pins s' σ H' D I h' => ?_⟩
    obtain ⟨Ech, hW, h1, h2, h3⟩ := h'
    refine (pss_one (ps_ret (pe_tup (pa_cons pe_str (pa_cons (act W pn xe Ech _ _ tk hW) pa_nil))))).run pins s' σ H' D I ?_
    exact ⟨h1, h2, h3⟩
  · refine ⟨fun cls d H' => (cls = .ref A.UnknownCall ∨ cls = .ref A.BadPlace) ∧ ∀ a, H' a = none → spErrW A a cls d [.ref a] H' Q E0, fun cls d σ' H' ⟨hc, hE⟩ => ⟨true, ?_, fun _ a ha => ?_, fun z => nomatch z⟩, rfl, hc, h⟩
    · rcases hc with rfl | rfl
      · exact W.mU
      · exact W.mP
    · exact ⟨.ref a, fun z => by rw [List.getElem?_set_self (by rw [List.length_set] at z; rw [z]; decide)], hE a ha⟩
end MK

set_option Elab.async false
set_option linter.all false
set_option autoImplicit false
set_option maxRecDepth 100000
set_option maxHeartbeats 4000000
namespace MK
open PySem PySem.Spec PyProof.Rows L2
local macro_rules | `(tactic| walk_at "x") => `(tactic| dsimp only [tSeq, tAsg, tRet, tDrop, tLst, tTup, tCons, tOp, tUn, tIfS])
/-! ### what a kind tells -/
abbrev s_told_call : Stmt := topS 45
theorem sc_told_call : FnScope ["call", "name", "hand", "moves", "deeds", "same"] ["call"] (defScope s_told_call) := ⟨rfl, rfl, rfl, by decide +kernel, rfl, by decide +kernel, by decide +kernel⟩
/-- lists by their addresses: L holds those of the items of xs, item by item -/
def AlL {α : Type} (R : V → α → List Addr → Prop) : List V → List α → List Addr → Prop
  | [], [], L => L = []
  | x :: xs, y :: ys, L => ∃ L1 L2, L = L1 ++ L2 ∧ R x y L1 ∧ AlL R xs ys L2
  | _, _, _ => False
theorem AlL.snoc {α : Type} {R : V → α → List Addr → Prop} : ∀ {xs : List V} {ys : List α} {L : List Addr} {x : V} {y : α} {L1 : List Addr}, AlL R xs ys L → R x y L1 → AlL R (xs ++ [x]) (ys ++ [y]) (L ++ L1)
  | [], [], L, x, y, L1, h, r => ⟨L1, [], by rw [show L = [] from h]; simp, r, rfl⟩
  | a :: xs, b :: ys, L, x, y, L1, ⟨M1, M2, e, r1, h⟩, r => ⟨M1, M2 ++ L1, by rw [e, List.append_assoc], r1, h.snoc r⟩
  | [], _ :: _, _, _, _, _, h, _ => h.elim
  | _ :: _, [], _, _, _, _, h, _ => h.elim
theorem AlL.mono {α : Type} {R S : V → α → List Addr → Prop} (f : ∀ x y L, R x y L → S x y L) : ∀ {xs : List V} {ys : List α} {L : List Addr}, AlL R xs ys L → AlL S xs ys L
  | [], [], _, h => h
  | _ :: _, _ :: _, _, ⟨M1, M2, e, r, h⟩ => ⟨M1, M2, e, f _ _ _ r, h.mono f⟩
  | [], _ :: _, _, h => h.elim
  | _ :: _, [], _, h => h.elim
theorem AlL.al {α : Type} {R : V → α → List Addr → Prop} {S : V → α → Prop} (f : ∀ x y L, R x y L → S x y) : ∀ {xs : List V} {ys : List α} {L : List Addr}, AlL R xs ys L → Al S xs ys
  | [], [], _, _ => Al.nil
  | x :: xs, y :: ys, _, ⟨M1, M2, e, r, h⟩ => by
    have t := h.al f
    refine ⟨congrArg Nat.succ t.1, fun i a b h1 h2 => ?_⟩
    cases i with
    | zero =>
      cases h1
      cases h2
      exact f _ _ _ r
    | succ i => exact t.2 i a b h1 h2
  | [], _ :: _, _, h => h.elim
  | _ :: _, [], _, h => h.elim
/-- a call as it is told, its three lists -/
def CdW (K : PySem.W.Frag) (H : Hp) (v : V) (c : CD) (L : List Addr) : Prop := ∃ (ra am ad as : Addr) (ds : List V), v = .ref ra ∧ H ra = some (.tup [.str c.nm, .str c.hand, .ref am, .ref ad, .ref as]) ∧ H am = some (.lst (c.moves.map V.int)) ∧ H ad = some (.lst ds) ∧ Al (DeT K H) ds c.deeds ∧ H as = some (.lst (c.same.map V.str)) ∧ L = [am, ad, as]
theorem CdW.keep {K : PySem.W.Frag} {H H' : Hp} {v : V} {c : CD} {L : List Addr} (e : Same H H') (h : CdW K H v c L) : CdW K H' v c L := by
  obtain ⟨ra, am, ad, as, ds, h0, h1, h2, h3, h4, h5, h6⟩ := h
  exact ⟨ra, am, ad, as, ds, h0, e _ _ h1, e _ _ h2, e _ _ h3, h4.mono fun _ _ h => DeT.keep e h, e _ _ h5, h6⟩
theorem CdW.l {K : PySem.W.Frag} {H : Hp} {v : V} {c : CD} {L : List Addr} (h : CdW K H v c L) : CdL K H v c := by
  obtain ⟨ra, am, ad, as, ds, rfl, h1, h2, h3, h4, h5, h6⟩ := h
  exact ⟨.ref am, .ref ad, .ref as, ds, Tu.tup h1, ⟨am, rfl, h2⟩, ⟨ad, rfl, h3⟩, h4, ⟨as, rfl, h5⟩⟩
/-- none of them was there -/
def Fresh (H : Hp) (L : List Addr) : Prop := ∀ b ∈ L, H b = none
def spTold (K : PySem.W.Frag) : Sp := fun vs H Q _ => ∃ (s : Addr) (v : V) (cd : CD), vs = [v] ∧ H s ≠ none ∧ CdT K (Off s H) v cd ∧ ∀ r H' L, Same H H' → CdW K (Off s H') r cd L → Fresh H L → L.Nodup → Q r H'
section
variable {P : Program} {w : World} {K : PySem.W.Frag} {mg : Str → Option Value} {base : Heap} {C : Cst} {KC : Addr}
theorem ok_told {f : Addr} {fd : FuncData} (F : DefX K mg "told_call" s_told_call ["call"] f fd) (T : Txt K mg) : Cal P w K mg base CX0 1 "told_call" (spTold K) := by
  refine cal_mk F sc_told_call (fun vs H Q E h => ?_) (fun cdv A outer sh H vs Q E hr h => ?_)
  · obtain ⟨s, v, cd, rfl, _⟩ := h
    rfl
  · obtain ⟨s, v, cd, rfl, hs, ⟨m, d, sm, ds, ⟨a, rfl, h1⟩, ⟨ma, rfl, h2⟩, ⟨da, rfl, h3⟩, h4, ⟨sa, rfl, h5⟩⟩, k⟩ := h
    refine ⟨_, (pss_cons (ps_asg (pv 0) (pg_tup (by rfl) (pgs_cons (pg_name (i := 1) sc_told_call.nd rfl (Or.inl rfl)) (pgs_cons (pg_name (i := 2) sc_told_call.nd rfl (Or.inl rfl)) (pgs_cons (pg_name (i := 3) sc_told_call.nd rfl (Or.inl rfl)) (pgs_cons (pg_name (i := 4) sc_told_call.nd rfl (Or.inl rfl)) (pgs_cons (pg_name (i := 5) sc_told_call.nd rfl (Or.inl rfl)) pgs_nil)))))))
(pss_one (ps_ret (pe_tup (pa_cons (pv 1) (pa_cons (pv 2) (pa_cons (pe_callTy call_list_of (by rfl) T.list (by decide +kernel) (pa_cons (pv 3) pa_nil)) (pa_cons (pe_callTy call_list_of (by rfl) T.list (by decide +kernel) (pa_cons (pv 4) pa_nil)) (pa_cons (pe_callTy call_list_of (by rfl) T.list (by decide +kernel) (pa_cons (pv 5) pa_nil)) pa_nil))))))))), ?_⟩
    have u1 : ∀ {l1 : Addr}, H l1 = none → Same H (upd H l1 (.lst (cd.moves.map V.int))) := fun h => same_new (Same.refl H) h
    refine ⟨_, rfl, a, _, rfl, same_t off_same h1, rfl, _, _, rfl, _, _, rfl, _, _, rfl, _, _, rfl, _, _, rfl, rfl, ?_⟩
    refine ⟨_, rfl, _, rfl, _, rfl, ma, _, rfl, .inr (same_t off_same h2), fun l1 hl1 => ⟨_, rfl, da, ds, rfl, .inr (same_t (off_same.trans (same_new (Same.refl H) hl1)) h3), fun l2 hl2 => ?_⟩⟩
    have f2 := same_new (same_new (Same.refl H) hl1 (o := .lst (cd.moves.map V.int))) hl2 (o := .lst ds)
    refine ⟨_, rfl, sa, _, rfl, .inr (same_t (off_same.trans f2) h5), fun l3 hl3 => ⟨by show 5 ≤ sizeLine; decide, fun p hp => ?_⟩⟩
    have f3 := same_new f2 hl3 (o := .lst (cd.same.map V.str))
    have f4 := same_new f3 hp (o := .tup [.str cd.nm, .str cd.hand, .ref l1, .ref l2, .ref l3])
    have z1 := (same_new (same_new (same_new (Same.refl _) hl2 (o := .lst ds)) hl3 (o := .lst (cd.same.map V.str))) hp (o := .tup [.str cd.nm, .str cd.hand, .ref l1, .ref l2, .ref l3])) l1 _ upd_same
    have z2 := (same_new (same_new (Same.refl _) hl3 (o := .lst (cd.same.map V.str))) hp (o := .tup [.str cd.nm, .str cd.hand, .ref l1, .ref l2, .ref l3])) l2 _ upd_same
    have z3 := (same_new (Same.refl _) hp (o := .tup [.str cd.nm, .str cd.hand, .ref l1, .ref l2, .ref l3])) l3 _ upd_same
    have n12 : l1 ≠ l2 := fun e => by rw [← e, upd_same] at hl2; cases hl2
    have n13 : l1 ≠ l3 := fun e => by rw [← e, upd_ne n12, upd_same] at hl3; cases hl3
    have n23 : l2 ≠ l3 := fun e => by rw [← e, upd_same] at hl3; cases hl3
    have fr2 : H l2 = none := none_of (same_new (Same.refl H) hl1) hl2
    have fr3 : H l3 = none := none_of f2 hl3
    have e4 := same_off (s := s) f4
    refine k (.ref p) _ [l1, l2, l3] f4 ⟨p, l1, l2, l3, ds, rfl, (off_ne (ne_s hs f3 hp)).trans upd_same, (off_ne (ne_s hs (Same.refl H) hl1)).trans z1, (off_ne (ne_s hs (Same.refl H) fr2)).trans z2, h4.mono fun _ _ h => DeT.keep e4 h, (off_ne (ne_s hs (Same.refl H) fr3)).trans z3, rfl⟩ ?_ ?_
    · intro b hb
      simp only [List.mem_cons, List.not_mem_nil, or_false] at hb
      rcases hb with rfl | rfl | rfl
      · exact hl1
      · exact fr2
      · exact fr3
    · simp [n12, n13, n23]
end
end MK

set_option Elab.async false
set_option linter.all false
set_option autoImplicit false
set_option maxRecDepth 100000
set_option maxHeartbeats 4000000
namespace MK
open PySem PySem.Spec PyProof.Rows L2
local macro_rules | `(tactic| walk_at "x") => `(tactic| dsimp only [tSeq, tAsg, tRet, tDrop, tLst, tTup, tCons, tOp, tUn, tIfS])
/-! ### what a kind tells: fields, calls, names -/
abbrev s_Kind_fields : Stmt := inClass (topS 50) 6
theorem sc_Kind_fields : FnScope ["self"] ["self"] (defScope s_Kind_fields) := ⟨rfl, rfl, rfl, by decide +kernel, rfl, by decide +kernel, by decide +kernel⟩
abbrev s_Kind_calls : Stmt := inClass (topS 50) 7
theorem sc_Kind_calls : FnScope ["self", "call"] ["self"] (defScope s_Kind_calls) := ⟨rfl, rfl, rfl, by decide +kernel, rfl, by decide +kernel, by decide +kernel⟩
abbrev s_Kind_names : Stmt := inClass (topS 50) 8
theorem sc_Kind_names : FnScope ["self"] ["self"] (defScope s_Kind_names) := ⟨rfl, rfl, rfl, by decide +kernel, rfl, by decide +kernel, by decide +kernel⟩
def spKFields (K : PySem.W.Frag) (KC : Addr) : Sp := fun vs H Q _ => ∃ (s : Addr) (v : V) (fs : List FD) (n : Nat) (cs : List CD), vs = [v] ∧ H s ≠ none ∧ KdA K KC (Off s H) v fs n cs ∧
  ∀ l tv H', Same H H' → H l = none → H' l = some (.lst tv) → Al (FdT K (Off s H')) tv fs → Q (.ref l) H'
def spKCalls (K : PySem.W.Frag) (KC : Addr) : Sp := fun vs H Q _ => ∃ (s : Addr) (v : V) (fs : List FD) (n : Nat) (cs : List CD), vs = [v] ∧ H s ≠ none ∧ KdA K KC (Off s H) v fs n cs ∧ cs.length ≤ 6 ∧
  ∀ l xs L H', Same H H' → Fresh H (l :: L) → (l :: L).Nodup → H' l = some (.lst xs) → AlL (CdW K (Off s H')) xs cs L → Q (.ref l) H'
def spKNames (K : PySem.W.Frag) (KC : Addr) : Sp := fun vs H Q _ => ∃ (v : V) (fs : List FD) (n : Nat) (cs : List CD), vs = [v] ∧ KdA K KC H v fs n cs ∧ ∀ l H', Same H H' → H l = none → H' l = some (.lst (cs.map fun c => V.str c.nm)) → Q (.ref l) H'
section
variable {P : Program} {w : World} {K : PySem.W.Frag} {mg : Str → Option Value} {base : Heap} {C : Cst} {KC : Addr}
theorem ok_kfields {f : Addr} {fd : FuncData} (F : Fun K "fields" "Kind.fields" s_Kind_fields f fd) (T : Txt K mg) (Z : KCls K KC) : FnOk P w K mg base CX0 1 f fd ["self"] (spKFields K KC) := by
  refine F.ok sc_Kind_fields (fun vs H Q E h => ?_) (fun cdv A outer sh H vs Q E hr h => ?_)
  · obtain ⟨s, v, fs, n, cs, rfl, _⟩ := h
    rfl
  · obtain ⟨s, v, fs, n, cs, rfl, hs, ⟨a, dx, so, sp, tb, t, st, tv, sv, rfl, h1, ⟨ta, rfl, h2⟩, h3, _⟩, k⟩ := h
    refine ⟨_, (pss_one (ps_ret (pe_callTy call_list_of (by rfl) T.list (by decide +kernel) (pa_cons (pe_fld (pv 0) rfl) pa_nil)))), ?_⟩
    refine ⟨_, rfl, a, KC, dx, _, .ref ta, rfl, off_same _ _ h1, Z.cls, Z.triples, rfl, ta, tv, rfl, .inr (same_t off_same h2), fun l hl => ?_⟩
    exact k l tv _ (same_new (Same.refl H) hl) hl upd_same (h3.mono fun _ _ h => FdT.keep (same_off (same_new (Same.refl H) hl)) h)
theorem tableV_names {cs : List CD} {sv : List V} (l : sv.length = cs.length) : (tableV cs sv).map (fun kv => kV kv.1) = cs.map fun c => V.str c.nm := by
  have keys : (tableV cs sv).map (·.1) = (cs.map (·.nm)).map (Sum.inr : Str → Key) := by
    unfold tableV
    rw [zip_keys2 _ (fun c => Sum.inr c.nm) (fun _ _ => rfl) _ _ l.symm, List.map_map]
    rfl
  have e : (tableV cs sv).map (fun kv => kV kv.1) = ((tableV cs sv).map (·.1)).map kV := by rw [List.map_map]; rfl
  rw [e, keys, List.map_map, List.map_map]
  rfl
theorem ok_knames {f : Addr} {fd : FuncData} (F : Fun K "names" "Kind.names" s_Kind_names f fd) (T : Txt K mg) (Z : KCls K KC) : FnOk P w K mg base CX0 1 f fd ["self"] (spKNames K KC) := by
  refine F.ok sc_Kind_names (fun vs H Q E h => ?_) (fun cdv A outer sh H vs Q E hr h => ?_)
  · obtain ⟨v, fs, n, cs, rfl, _⟩ := h
    rfl
  · obtain ⟨v, fs, n, cs, rfl, ⟨a, dx, so, sp, tb, t, st, tv, sv, rfl, h1, h2, h3, h4, h5, h6, h7, h8⟩, k⟩ := h
    refine ⟨_, (pss_one (ps_ret (pe_callTy (call_listD rfl) (by rfl) T.list (by decide +kernel) (pa_cons (pe_fld (pv 0) rfl) pa_nil)))), ?_⟩
    refine ⟨_, rfl, a, KC, dx, _, .ref tb, rfl, h1, Z.cls, Z.table, rfl, tb, _, rfl, .inl h8, fun l hl => ?_⟩
    rw [tableV_names h7.1]
    exact k l _ (same_new (Same.refl H) hl) hl upd_same
theorem ok_kcalls {f : Addr} {fd : FuncData} (F : Fun K "calls" "Kind.calls" s_Kind_calls f fd) (T : Txt K mg) (Z : KCls K KC) (c_told_call : Cal P w K mg base CX0 1 "told_call" (spTold K)) : FnOk P w K mg base CX0 2 f fd ["self"] (spKCalls K KC) := by
  refine F.ok sc_Kind_calls (fun vs H Q E h => ?_) (fun cdv A outer sh H vs Q E hr h => ?_)
  · obtain ⟨s, v, fs, n, cs, rfl, _⟩ := h
    rfl
  · obtain ⟨s, v, fs, n, cs, rfl, hs, ⟨a, dx, so, sp, tb, t, st, tv, sv, rfl, h1, h2, h3, h4, h5, ⟨sa, rfl, h6⟩, h7, h8⟩, c6, k⟩ := h
    refine ⟨_, (pss_one (ps_ret (pe_lc (own := [("call", 1)]) (g := (gName 1)) (tt := tYes) rfl sc_Kind_calls.nd (pi_tup (pe_fld (pv 0) rfl)) (blkOk_by (own := [("call", 1)]) (N := ["self", "call"]) (sc := defScope s_Kind_calls) (by decide +kernel)) (fun _ _ _ _ _ => (pg_name (i := 1) sc_Kind_calls.nd rfl (Or.inl rfl))) (fun _ _ _ _ _ => pts_nil) (fun _ _ _ _ _ => (pe_c c_told_call hr (by first | decide | assumption) rfl (pa_cons (pv 1) pa_nil)))))), ?_⟩
    refine ⟨_, rfl, a, KC, dx, _, .ref sa, rfl, off_same _ _ h1, Z.cls, Z.steps, rfl, sa, rfl, ⟨sv, same_t off_same h6⟩, fun D hD => ?_⟩
    have Ds := ne_s hs (Same.refl H) hD
    refine lc_it (walk_tup (K := K) (a := sa) (xs := sv)) (fun i H2 => Same H H2 ∧ ∃ ws L, H2 D = some (.lst ws) ∧ Fresh H L ∧ (D :: L).Nodup ∧ (∀ b ∈ L, H2 b ≠ none) ∧ AlL (CdW K (Off D (Off s H2))) ws (cs.take i) L) ⟨same_new (Same.refl H) hD, [], [], upd_same, nofun, by simp, nofun, rfl⟩ (fun i H2 _ h => same_t (off_same.trans h.1) h6) ?_ ?_
    · rintro i x H3 H2 hi ⟨e2, ws, L, d2, fr, nd, lv, al⟩ ⟨rfl, hx⟩
      obtain ⟨c, hc, hcT⟩ := h7.get hx
      refine ⟨rfl, ?_⟩
      refine ⟨_, rfl, s, x, c, rfl, kept_s hs e2, hcT.keep (same_off e2), fun r H4 L4 e4 hr4 fr4 nd4 => ?_⟩
      have d4 := e4 _ _ d2
      have e24 : Same H H4 := e2.trans e4
      refine ⟨ws, d4, ?_, fun b o hb => ?_, ws ++ [r], L ++ L4, upd_same, ?_, ?_, ?_, ?_⟩
      · have al' := al.al (S := fun _ _ => True) fun _ _ _ _ => trivial
        rw [al'.1, List.length_take]
        exact Nat.lt_of_le_of_lt (by omega : _ ≤ 6) (by decide)
      · rw [upd_ne (ne_of_none hb hD)]
        exact e24 _ _ hb
      · intro b hb
        rcases List.mem_append.mp hb with hb | hb
        · exact fr b hb
        · exact none_of e2 (fr4 b hb)
      · rw [← List.cons_append, List.nodup_append]
        refine ⟨nd, nd4, fun b hb b' hb' e => ?_⟩
        subst e
        have n4 := fr4 b hb'
        rcases List.mem_cons.mp hb with rfl | hb
        · rw [d2] at n4
          cases n4
        · exact lv b hb n4
      · intro b hb
        have nn : ∀ {o : HO}, H4 b = some o → upd H4 D (.lst (ws ++ [r])) b ≠ none := fun h => by
          by_cases z : b = D
          · rw [z, upd_same]
            exact nofun
          · rw [upd_ne z, h]
            exact nofun
        rcases List.mem_append.mp hb with hb | hb
        · cases q : H2 b with
          | none => exact absurd q (lv b hb)
          | some o => exact nn (e4 _ _ q)
        · obtain ⟨ra, am, ad, as, ds, _, _, g2, g3, _, g5, rfl⟩ := hr4
          simp only [List.mem_cons, List.not_mem_nil, or_false] at hb
          rcases hb with rfl | rfl | rfl
          · exact nn (off_same _ _ g2)
          · exact nn (off_same _ _ g3)
          · exact nn (off_same _ _ g5)
      · rw [off_upd Ds, off_put, List.take_succ, hc]
        refine (al.mono fun _ _ _ h => CdW.keep (same_off (same_off e4)) h).snoc ?_
        have dn : ∀ b ∈ L4, b ≠ D := fun b hb e => by
          have := fr4 b hb
          rw [e, d2] at this
          cases this
        obtain ⟨ra, am, ad, as, ds, g0, g1, g2, g3, g4, g5, rfl⟩ := hr4
        have hDl : Off s H4 D = some (.lst ws) := (off_ne Ds).trans d4
        have rn : ra ≠ D := fun e => by rw [e, hDl] at g1; cases g1
        exact ⟨ra, am, ad, as, ds, g0, (off_ne rn).trans g1, (off_ne (dn am (by simp))).trans g2, (off_ne (dn ad (by simp))).trans g3, g4.mono fun _ _ h => Tu.off h hDl no_lst, (off_ne (dn as (by simp))).trans g5, rfl⟩
    · rintro H2 ⟨e2, ws, L, d2, fr, nd, lv, al⟩
      rw [h7.1, List.take_length] at al
      refine k D ws L H2 e2 ?_ nd d2 (al.mono fun _ _ _ h => CdW.keep off_same h)
      intro b hb
      rcases List.mem_cons.mp hb with rfl | hb
      · exact hD
      · exact fr b hb
end
end MK

set_option Elab.async false
set_option linter.all false
set_option autoImplicit false
set_option maxRecDepth 100000
set_option maxHeartbeats 4000000
namespace MK
open PySem PySem.Spec PyProof.Rows L2
local macro_rules | `(tactic| walk_at "x") => `(tactic| dsimp only [tSeq, tAsg, tRet, tDrop, tLst, tTup, tCons, tOp, tUn, tIfS])
/-! ### len, iterating, one call, whether it takes a word -/
abbrev s_Kind_len : Stmt := inClass (topS 50) 2
theorem sc_Kind_len : FnScope ["self"] ["self"] (defScope s_Kind_len) := ⟨rfl, rfl, rfl, by decide +kernel, rfl, by decide +kernel, by decide +kernel⟩
abbrev s_Kind_iter : Stmt := inClass (topS 50) 3
theorem sc_Kind_iter : FnScope ["self"] ["self"] (defScope s_Kind_iter) := ⟨rfl, rfl, rfl, by decide +kernel, rfl, by decide +kernel, by decide +kernel⟩
abbrev s_Kind_getitem : Stmt := inClass (topS 50) 5
theorem sc_Kind_getitem : FnScope ["self", "at"] ["self", "at"] (defScope s_Kind_getitem) := ⟨rfl, rfl, rfl, by decide +kernel, rfl, by decide +kernel, by decide +kernel⟩
abbrev s_Kind_takes : Stmt := inClass (topS 50) 9
theorem sc_Kind_takes : FnScope ["self", "name", "deed", "field"] ["self", "name"] (defScope s_Kind_takes) := ⟨rfl, rfl, rfl, by decide +kernel, rfl, by decide +kernel, by decide +kernel⟩
/-- no text -/
def NoS (K : PySem.W.Frag) (H : Hp) (x : V) : Prop := ∃ t : Value, TyX K H x t ∧ PySem.W.kitOne K t (.type "str") = some false
theorem NoStr.s {K : PySem.W.Frag} {H : Hp} {x : V} (h : NoStr K H x) : NoS K H x := by
  obtain ⟨t, ty, k⟩ := h
  exact ⟨_, ty, kit_ty k⟩
theorem tyx_k {K : PySem.W.Frag} {H H' : Hp} {x : V} {t : Value} (e : Same H H') (h : TyX K H x t) : TyX K H' x t := tyx_keep e h
theorem NoS.keep {K : PySem.W.Frag} {H H' : Hp} {y : V} (e : Same H H') (h : NoS K H y) : NoS K H' y := by
  obtain ⟨t, h, k⟩ := h
  exact ⟨t, tyx_keep e h, k⟩
def spHasX (K : PySem.W.Frag) (KC : Addr) : Sp := fun vs H Q _ => ∃ (v x : V) (fs : List FD) (n : Nat) (cs : List CD), vs = [v, x] ∧ KdA K KC H v fs n cs ∧ ((∃ z, x = .str z ∧ Q (.bl (decide (z ∈ cs.map (·.nm)))) H) ∨ (NoS K H x ∧ Q (.bl false) H))
def spKLen (K : PySem.W.Frag) (KC : Addr) : Sp := fun vs H Q _ => ∃ (v : V) (fs : List FD) (n : Nat) (cs : List CD), vs = [v] ∧ KdA K KC H v fs n cs ∧ Q (.int cs.length) H
def takesB (c : CD) : Bool := c.deeds.any fun d => decide (d.1 ∈ (["set", "add", "strike"] : List Str))
def spKGet (K : PySem.W.Frag) (KC CU : Addr) : Sp := fun vs H Q E => ∃ (s : Addr) (v x : V) (fs : List FD) (n : Nat) (cs : List CD), vs = [v, x] ∧ H s ≠ none ∧ KdA K KC (Off s H) v fs n cs ∧ KdOk fs n cs ∧
  (((NoS K H x ∨ ∃ z, x = .str z ∧ z ∉ cs.map (·.nm)) ∧ ∀ d H', Same H H' → H d = none → H' d = some (.xd [("name", x)]) → E (.ref CU) (some d) H') ∨
   ∃ (i : Nat) (cd : CD), cs[i]? = some cd ∧ x = .str cd.nm ∧ ∀ r H' L, Same H H' → CdW K (Off s H') r cd L → Fresh H L → L.Nodup → Q r H')
def spKTakes (K : PySem.W.Frag) (KC CU : Addr) : Sp := fun vs H Q E => ∃ (s : Addr) (v x : V) (fs : List FD) (n : Nat) (cs : List CD), vs = [v, x] ∧ H s ≠ none ∧ KdA K KC (Off s H) v fs n cs ∧ KdOk fs n cs ∧
  (((NoS K H x ∨ ∃ z, x = .str z ∧ z ∉ cs.map (·.nm)) ∧ ∀ d H', Same H H' → H d = none → H' d = some (.xd [("name", x)]) → E (.ref CU) (some d) H') ∨
   ∃ (i : Nat) (cd : CD), cs[i]? = some cd ∧ x = .str cd.nm ∧ ∀ H', Same H H' → Q (.bl (takesB cd)) H')
section
variable {P : Program} {w : World} {K : PySem.W.Frag} {mg : Str → Option Value} {base : Heap} {C : Cst} {KC CU fh : Addr} {fdh : FuncData}
theorem ok_khas {f : Addr} {fd : FuncData} (F : Fun K "__contains__" "Kind.__contains__" s_Kind_contains f fd) (T : Txt K mg) (Z : KCls K KC) : FnOk P w K mg base CX0 1 f fd ["self", "x"] (spHasX K KC) := by
  refine F.ok sc_Kind_contains (fun vs H Q E h => ?_) (fun cdv A outer sh H vs Q E hr h => ?_)
  · obtain ⟨v, x, fs, n, cs, rfl, _⟩ := h
    rfl
  · obtain ⟨v, x, fs, n, cs, rfl, ⟨a, dx, so, sp, tb, t, st, tv, sv, rfl, h1, h2, h3, h4, h5, h6, h7, h8⟩, h⟩ := h
    refine ⟨_, (pss_one (ps_ret (pe_cut (pe_and (pe_callB call_isi (by rfl) T.isinstance (by decide +kernel) (pa_cons (pv 1) (pa_cons (pe_tyv (n := "str") (by rfl) T.str (by decide +kernel)) pa_nil))) (pe_one (pe_cmp (pc_din (hu_of hr) (pv 1) (pe_fld (pv 0) rfl)) rfl)))))), ?_⟩
    rcases h with ⟨z, rfl, q⟩ | ⟨⟨t, ty, kt⟩, q⟩
    · refine ⟨fun v H2 => v = .bl (decide (z ∈ cs.map (·.nm))) ∧ H2 = H, ?_, fun v H2 e => by rw [e.1, e.2]; exact q⟩
      refine ⟨_, rfl, _, _, _, _, true, rfl, .ty _, .base (.str z), kit_ty (by decide +kernel), true, rfl, iteT ?_⟩
      refine ⟨_, rfl, _, rfl, a, KC, dx, _, .ref tb, rfl, h1, Z.cls, Z.table, rfl, tb, _, rfl, DGet.k (k := .inr z) h8, ?_, rfl⟩
      rw [table_has h7.1]
    · refine ⟨fun v H2 => v = .bl false ∧ H2 = H, ?_, fun v H2 e => by rw [e.1, e.2]; exact q⟩
      exact ⟨_, rfl, _, _, _, _, false, rfl, .ty _, ty, kt, false, rfl, iteF ⟨rfl, rfl⟩⟩
theorem ok_klen {f : Addr} {fd : FuncData} (F : Fun K "__len__" "Kind.__len__" s_Kind_len f fd) (T : Txt K mg) (Z : KCls K KC) : FnOk P w K mg base CX0 1 f fd ["self"] (spKLen K KC) := by
  refine F.ok sc_Kind_len (fun vs H Q E h => ?_) (fun cdv A outer sh H vs Q E hr h => ?_)
  · obtain ⟨v, fs, n, cs, rfl, _⟩ := h
    rfl
  · obtain ⟨v, fs, n, cs, rfl, ⟨a, dx, so, sp, tb, t, st, tv, sv, rfl, h1, h2, h3, h4, h5, h6, h7, h8⟩, k⟩ := h
    refine ⟨_, (pss_one (ps_ret (pe_callB call_lenD (by rfl) T.len (by decide +kernel) (pa_cons (pe_fld (pv 0) rfl) pa_nil)))), ?_⟩
    refine ⟨_, rfl, a, KC, dx, _, .ref tb, rfl, h1, Z.cls, Z.table, rfl, tb, _, rfl, h8, ?_⟩
    rw [table_len h7.1]
    exact k
theorem ok_kiter {f : Addr} {fd : FuncData} (F : Fun K "__iter__" "Kind.__iter__" s_Kind_iter f fd) (T : Txt K mg) (hiter : mg "iter" = none) (Z : KCls K KC) : FnS P w K mg base 1 f fd ["self"] (spIter KC "table") := by
  refine fnS_of F sc_Kind_iter (fun n vs H Q h => ?_) (fun cdv A outer sh H vs Q hr h => ?_)
  · obtain ⟨a, dx, d, fs, o, kvs, rfl, _⟩ := h
    rfl
  · obtain ⟨a, dx, d, fs, o, kvs, rfl, ha, hl, hd, k⟩ := h
    refine ⟨_, (pss_one (ps_ret (pe_callB call_iterK (by rfl) hiter (by decide +kernel) (pa_cons (pe_fld (pv 0) rfl) pa_nil)))), ?_⟩
    exact ⟨_, rfl, a, KC, dx, fs, .ref d, rfl, ha, Z.cls, Z.table, hl, d, o, kvs, rfl, hd, k⟩
theorem table_val {fs : List FD} {n : Nat} {cs : List CD} {sv : List V} (ok : KdOk fs n cs) {R : V → CD → Prop} (al : Al R sv cs) {i : Nat} {cd : CD} {c : V} (hi : cs[i]? = some cd) (hc : sv[i]? = some c) : valV (tableV cs sv) (.inr cd.nm) = some c := by
  have keys : (tableV cs sv).map (·.1) = (cs.map (·.nm)).map (Sum.inr : Str → Key) := by
    unfold tableV
    rw [zip_keys2 _ (fun c => Sum.inr c.nm) (fun _ _ => rfl) _ _ al.1.symm, List.map_map]
    rfl
  exact val_nodup (by rw [keys]; exact List.Pairwise.map Sum.inr (fun _ _ h1 h2 => h1 (Sum.inr.inj h2)) ok.nd) (Sum.inr cd.nm, c) (List.mem_of_getElem? (table_at hi hc))
theorem ok_kget {f : Addr} {fd : FuncData} (F : Fun K "__getitem__" "Kind.__getitem__" s_Kind_getitem f fd) (T : Txt K mg) (Z : KCls K KC) (c_told_call : Cal P w K mg base CX0 1 "told_call" (spTold K)) (r_Unknown : RaiseC P w K mg base 1 "UnknownCall" CU (spErr1 CU "name")) :
    FnOk P w K mg base (L2.CX P w) 3 f fd ["self", "at"] (spKGet K KC CU) := by
  refine F.okX sc_Kind_getitem (fun vs H Q E h => ?_) (fun cdv A outer sh H vs Q E hr h => ?_)
  · obtain ⟨s, v, x, fs, n, cs, rfl, _⟩ := h
    rfl
  · obtain ⟨s, v, x, fs, n, cs, rfl, hs, ⟨a, dx, so, sp, tb, t, st, tv, sv, rfl, h1, h2, h3, h4, h5, h6, h7, h8⟩, ok, h⟩ := h
    refine ⟨_, (pss_cons (ps_if (pt_cut (PW.pt (pw_or (pt_not (pt_val (pe_callB call_isi (by rfl) T.isinstance (by decide +kernel) (pa_cons (pv 1) (pa_cons (pe_tyv (n := "str") (by rfl) T.str (by decide +kernel)) pa_nil))))) (pw_or1 (pt_cmp (pc_dnotin (hu_of hr) (pv 1) (pe_fld (pv 0) rfl)))))))
(pss_one (ps_raiseC r_Unknown rfl (takes_of rfl rfl rfl rfl) hr (by decide) rfl (pa_cons (pv 1) pa_nil)))
pss_nil)
(pss_one (ps_ret (pe_c c_told_call hr (by first | decide | assumption) rfl (pa_cons (pe_dget (hu_of hr) (pe_fld (pv 0) rfl) (pv 1) (fun _ _ => rfl)) pa_nil))))), ?_⟩
    have g1 := off_same _ _ h1
    have g8 := off_same _ _ h8
    rcases h with ⟨hx, hE⟩ | ⟨i, cd, hi, rfl, k⟩
    · refine ⟨fun b H' => b = true ∧ H' = H, ?_, fun b H' e => ?_⟩
      · rcases hx with ⟨t0, ty, kt⟩ | ⟨z, rfl, hz⟩
        · exact ⟨_, rfl, _, _, _, _, false, rfl, .ty _, ty, kt, false, rfl, iteT ⟨rfl, rfl⟩⟩
        · refine ⟨_, rfl, _, _, _, _, true, rfl, .ty _, .base (.str z), kit_ty (by decide +kernel), true, rfl, iteF ?_⟩
          refine ⟨_, rfl, _, rfl, a, KC, dx, _, .ref tb, rfl, g1, Z.cls, Z.table, rfl, tb, _, rfl, DGet.k (k := .inr z) g8, _, rfl, ?_, rfl⟩
          rw [table_has h7.1, decide_eq_false hz]
          rfl
      · obtain ⟨rfl, rfl⟩ := e
        exact iteT (rd_raise1 (fun R hR => ⟨_, rfl, hR⟩) hE)
    · have hm : cd.nm ∈ cs.map (·.nm) := List.mem_map_of_mem (List.mem_of_getElem? hi)
      obtain ⟨ci, hci, ct⟩ := h7.get' hi
      refine ⟨fun b H' => b = false ∧ H' = H, ?_, fun b H' e => ?_⟩
      · refine ⟨_, rfl, _, _, _, _, true, rfl, .ty _, .base (.str _), kit_ty (by decide +kernel), true, rfl, iteF ?_⟩
        refine ⟨_, rfl, _, rfl, a, KC, dx, _, .ref tb, rfl, g1, Z.cls, Z.table, rfl, tb, _, rfl, DGet.k (k := .inr cd.nm) g8, _, rfl, ?_, rfl⟩
        rw [table_has h7.1, decide_eq_true hm]
        rfl
      · obtain ⟨rfl, rfl⟩ := e
        refine iteF ⟨_, rfl, a, KC, dx, _, .ref tb, rfl, g1, Z.cls, Z.table, rfl, _, rfl, tb, ci, rfl, table_val ok h7 hi hci ▸ DGet.k (k := .inr cd.nm) g8, ?_⟩
        exact ⟨s, ci, cd, rfl, hs, ct, k⟩
theorem ok_ktakes {f : Addr} {fd : FuncData} (F : Fun K "takes" "Kind.takes" s_Kind_takes f fd) (T : Txt K mg) (Cs : Csts K w mg C) (Z : KCls K KC)
    (H_has : FnOk P w K mg base CX0 1 fh fdh ["self", "x"] (spHasX K KC) ∧ PySem.W.findIn K (.ref KC) "__contains__" = some (some (.ref fh)) ∧ PySem.W.isFn K (.ref fh) = true ∧ Binds K fdh ["self", "x"] []) (r_Unknown : RaiseC P w K mg base 1 "UnknownCall" CU (spErr1 CU "name")) :
    FnOk P w K mg base (L2.CX P w) 3 f fd ["self", "name"] (spKTakes K KC CU) := by
  refine F.okX sc_Kind_takes (fun vs H Q E h => ?_) (fun cdv A outer sh H vs Q E hr h => ?_)
  · obtain ⟨s, v, x, fs, n, cs, rfl, _⟩ := h
    rfl
  · obtain ⟨s, v, x, fs, n, cs, rfl, hs, ⟨a, dx, so, sp, tb, t, st, tv, sv, rfl, h1, h2, h3, h4, h5, h6, h7, h8⟩, ok, h⟩ := h
    refine ⟨_, (pss_cons (ps_if (pt_cmpR (op_notInOwn H_has.1 H_has.2.1 H_has.2.2.1 H_has.2.2.2 (hr.mono (by decide))) (pv 1) (pv 0) (by rfl))
(pss_one (ps_raiseC r_Unknown rfl (takes_of rfl rfl rfl rfl) hr (by decide) rfl (pa_cons (pv 1) pa_nil)))
pss_nil)
(pss_one (ps_ret (pe_callB (cr_any rfl) (by rfl) T.any (by decide +kernel) (pa_cons (pe_lc (own := [("deed", 2), ("field", 3)]) (g := (gTup K 2 (gCons (gName 2) (gCons (gName 3) gNil)))) (tt := tYes) rfl sc_Kind_takes.nd (pi_tup (pe_ix ix_tup (pe_dget (hu_of hr) (pe_fld (pv 0) rfl) (pv 1) (fun _ _ => rfl)) pe_int (fun _ _ => rfl))) (blkOk_by (own := [("deed", 2), ("field", 3)]) (N := ["self", "name", "deed", "field"]) (sc := defScope s_Kind_takes) (by decide +kernel)) (fun _ _ _ _ _ => (pg_tup (by rfl) (pgs_cons (pg_name (i := 2) sc_Kind_takes.nd rfl (Or.inl rfl)) (pgs_cons (pg_name (i := 3) sc_Kind_takes.nd rfl (Or.inl rfl)) pgs_nil)))) (fun _ _ _ _ _ => pts_nil) (fun _ _ _ _ _ => (pe_cmpR (op_in_seqK (K := K) rfl) (pv 2) (pe_cst rfl Cs.WORD_DEEDS) (by rfl)))) pa_nil))))), ?_⟩
    have g1 := off_same _ _ h1
    have g8 := off_same _ _ h8
    have kd0 : KdA K KC H (.ref a) fs n cs := KdA.keep off_same ⟨a, dx, so, sp, tb, t, st, tv, sv, rfl, h1, h2, h3, h4, h5, h6, h7, h8⟩
    rcases h with ⟨hx, hE⟩ | ⟨i, cd, hi, rfl, k⟩
    · refine ⟨x, rfl, _, rfl, a, dx, _, rfl, g1, ⟨_, x, fs, n, cs, rfl, kd0, ?_⟩⟩
      rcases hx with hx | ⟨z, rfl, hz⟩
      · exact .inr ⟨hx, false, rfl, true, rfl, iteT (rd_raise1 (fun R hR => ⟨x, rfl, hR⟩) hE)⟩
      · exact .inl ⟨z, rfl, false, congrArg V.bl (decide_eq_false hz), true, rfl, iteT (rd_raise1 (fun R hR => ⟨_, rfl, hR⟩) hE)⟩
    · have hm : cd.nm ∈ cs.map (·.nm) := List.mem_map_of_mem (List.mem_of_getElem? hi)
      obtain ⟨ci, hci, m, dv, sm, ds, ⟨ta, rfl, t1⟩, t2, ⟨da, rfl, t3⟩, t4, t5⟩ := h7.get' hi
      refine ⟨_, rfl, _, rfl, a, dx, _, rfl, g1, ⟨_, _, fs, n, cs, rfl, kd0, .inl ⟨_, rfl, true, congrArg V.bl (decide_eq_true hm), false, rfl, iteF ?_⟩⟩⟩
      refine ⟨_, rfl, a, KC, dx, _, .ref tb, rfl, g1, Z.cls, Z.table, rfl, _, rfl, tb, .ref ta, rfl, table_val ok h7 hi hci ▸ DGet.k (k := .inr cd.nm) g8, ta, _, 3, .ref da, rfl, rfl, same_t off_same t1, rfl, da, rfl, ⟨ds, same_t off_same t3⟩, fun D hD => ?_⟩
      refine lc_it (walk_tup (K := K) (a := da) (xs := ds)) (fun j H2 => Same H H2 ∧ H2 D = some (.lst ((cd.deeds.take j).map fun d => V.bl (decide (d.1 ∈ (["set", "add", "strike"] : List Str)))))) ⟨same_new (Same.refl H) hD, upd_same⟩ (fun j H2 _ h => same_t (off_same.trans h.1) t3) ?_ ?_
      · rintro j x H3 H2 hj ⟨e2, d2⟩ ⟨rfl, hx⟩
        obtain ⟨d, hd, ⟨pa, rfl, pt⟩⟩ := t4.get hx
        have dl := (ok.calls cd (List.mem_of_getElem? hi)).deeds
        refine ⟨pa, _, rfl, same_t (off_same.trans e2) pt, rfl, _, _, rfl, _, _, rfl, rfl, rfl, ?_⟩
        refine ⟨_, rfl, C.wd, _, rfl, .inr (Cs.t_wd _), rfl, flat_strs ["set", "add", "strike"], ?_⟩
        refine ⟨_, d2, ?_, fun b o hb => ?_, ?_⟩
        · rw [List.length_map, List.length_take]
          exact Nat.lt_of_le_of_lt (by show min j cd.deeds.length ≤ 4; omega) (by decide)
        · rw [upd_ne (ne_of_none hb hD)]
          exact e2 _ _ hb
        · rw [upd_same, List.take_succ, hd, List.map_append]
          show some (HO.lst (_ ++ [V.bl (inV (.str d.1) ((["set", "add", "strike"] : List Str).map V.str))])) = _
          rw [inV_strs]
          rfl
      · rintro H2 ⟨e2, d2⟩
        rw [t4.1, List.take_length] at d2
        refine ⟨D, cd.deeds.map fun d => decide (d.1 ∈ (["set", "add", "strike"] : List Str)), rfl, SqL.of (by rw [List.map_map]; exact d2), ?_⟩
        rw [List.any_map]
        exact k _ e2
end
end MK

set_option Elab.async false
set_option linter.all false
set_option autoImplicit false
set_option maxRecDepth 100000
set_option maxHeartbeats 4000000
namespace MK
open PySem PySem.Spec PyProof.Rows L2
local macro_rules | `(tactic| walk_at "x") => `(tactic| dsimp only [tSeq, tAsg, tRet, tDrop, tLst, tTup, tCons, tOp, tUn, tIfS])
/-! ### whether a call takes a word; a call as it is told -/
abbrev s_takes : Stmt := topS 65
theorem sc_takes : FnScope ["_law_row", "_law_x"] ["_law_row"] (defScope s_takes) := ⟨rfl, rfl, rfl, by decide +kernel, rfl, by decide +kernel, by decide +kernel⟩
abbrev s_as_call : Stmt := topS 70
theorem sc_as_call : FnScope ["_law_row"] ["_law_row"] (defScope s_as_call) := ⟨rfl, rfl, rfl, by decide +kernel, rfl, by decide +kernel, by decide +kernel⟩
def spLTakes (K : PySem.W.Frag) : Sp := fun vs H Q _ => ∃ (v : V) (cd : CD), vs = [v] ∧ CdL K H v cd ∧ cd.deeds.length ≤ 4 ∧ ∀ H', Same H H' → Q (.bl (takesB cd)) H'
def spAsCall (K : PySem.W.Frag) : Sp := fun vs H Q _ => ∃ (s : Addr) (v : V) (cd : CD), vs = [v] ∧ H s ≠ none ∧ CdL K (Off s H) v cd ∧ ∀ r H' L, Same H H' → CdW K (Off s H') r cd L → Fresh H L → L.Nodup → Q r H'
section
variable {P : Program} {w : World} {K : PySem.W.Frag} {mg : Str → Option Value} {base : Heap} {C : Cst} {KC : Addr}
theorem ok_ltakes {f : Addr} {fd : FuncData} (F : DefX K mg "_law_takes" s_takes ["_law_row"] f fd) (T : Txt K mg) : Cal P w K mg base CX0 1 "_law_takes" (spLTakes K) := by
  refine cal_mk F sc_takes (fun vs H Q E h => ?_) (fun cdv A outer sh H vs Q E hr h => ?_)
  · obtain ⟨v, cd, rfl, _⟩ := h
    rfl
  · obtain ⟨v, cd, rfl, ⟨m, d, sm, ds, ⟨a, rfl, h1⟩, h2, ⟨da, rfl, h3⟩, h4, h5⟩, dl, k⟩ := h
    refine ⟨_, (pss_one (ps_ret (pe_callB (cr_any rfl) (by rfl) T.any (by decide +kernel) (pa_cons (pe_lc (own := [("_law_x", 1)]) (g := (gName 1)) (tt := tYes) rfl sc_takes.nd (pi_list (pe_ix (ix_tupK (K := K) rfl) (pv 0) pe_int (fun _ _ => rfl))) (blkOk_by (own := [("_law_x", 1)]) (N := ["_law_row", "_law_x"]) (sc := defScope s_takes) (by decide +kernel)) (fun _ _ _ _ _ => (pg_name (i := 1) sc_takes.nd rfl (Or.inl rfl))) (fun _ _ _ _ _ => pts_nil) (fun _ _ _ _ _ => (pe_cmpR (op_in_seqK (K := K) rfl) (pe_ix (ix_tupK (K := K) rfl) (pv 1) pe_int (fun _ _ => rfl)) (pe_tup (pa_cons pe_str (pa_cons pe_str (pa_cons pe_str pa_nil)))) (by rfl)))) pa_nil)))), ?_⟩
    refine ⟨_, rfl, a, _, 3, .ref da, rfl, rfl, h1, rfl, da, rfl, ⟨ds, SqL.of h3⟩, fun D hD => ?_⟩
    refine lc_it (walk_list (K := K) (a := da) (xs := ds)) (fun j H2 => Same H H2 ∧ H2 D = some (.lst ((cd.deeds.take j).map fun d => V.bl (decide (d.1 ∈ (["set", "add", "strike"] : List Str)))))) ⟨same_new (Same.refl H) hD, upd_same⟩ (fun j H2 _ h => SqL.of (h.1 _ _ h3)) ?_ ?_
    · rintro j x H3 H2 hj ⟨e2, d2⟩ ⟨rfl, hx⟩
      obtain ⟨d, hd, ⟨pa, rfl, pt⟩⟩ := h4.get hx
      refine ⟨rfl, ?_⟩
      refine ⟨_, rfl, pa, _, 0, .str d.1, rfl, rfl, same_t e2 pt, rfl, by show 3 ≤ sizeLine; decide, fun q hq => ?_⟩
      have e3 := same_new e2 hq (o := .tup [.str "set", .str "add", .str "strike"])
      have d3 := (same_new (Same.refl H2) hq (o := .tup [.str "set", .str "add", .str "strike"])) _ _ d2
      refine ⟨q, _, rfl, .inr (SqT.of upd_same), rfl, flat_strs ["set", "add", "strike"], ?_⟩
      refine ⟨_, d3, ?_, fun b o hb => ?_, ?_⟩
      · rw [List.length_map, List.length_take]
        exact Nat.lt_of_le_of_lt (by show min j cd.deeds.length ≤ 4; omega) (by decide)
      · rw [upd_ne (ne_of_none hb hD)]
        exact e3 _ _ hb
      · rw [upd_same, List.take_succ, hd, List.map_append]
        show some (HO.lst (_ ++ [V.bl (inV (.str d.1) ((["set", "add", "strike"] : List Str).map V.str))])) = _
        rw [inV_strs]
        rfl
    · rintro H2 ⟨e2, d2⟩
      rw [h4.1, List.take_length] at d2
      refine ⟨D, cd.deeds.map fun d => decide (d.1 ∈ (["set", "add", "strike"] : List Str)), rfl, SqL.of (by rw [List.map_map]; exact d2), ?_⟩
      rw [List.any_map]
      exact k _ e2
theorem ok_as_call {f : Addr} {fd : FuncData} (F : DefX K mg "_law_as_call" s_as_call ["_law_row"] f fd) (T : Txt K mg) : Cal P w K mg base CX0 1 "_law_as_call" (spAsCall K) := by
  refine cal_mk F sc_as_call (fun vs H Q E h => ?_) (fun cdv A outer sh H vs Q E hr h => ?_)
  · obtain ⟨s, v, cd, rfl, _⟩ := h
    rfl
  · obtain ⟨s, v, cd, rfl, hs, ⟨m, d, sm, ds, ⟨a, rfl, h1⟩, ⟨ma, rfl, h2⟩, ⟨da, rfl, h3⟩, h4, ⟨sa, rfl, h5⟩⟩, k⟩ := h
    refine ⟨_, (pss_one (ps_ret (pe_tup (pa_cons (pe_ix ix_tup (pv 0) pe_int (fun _ _ => rfl)) (pa_cons (pe_ix ix_tup (pv 0) pe_int (fun _ _ => rfl)) (pa_cons (pe_callTy call_list_of (by rfl) T.list (by decide +kernel) (pa_cons (pe_ix ix_tup (pv 0) pe_int (fun _ _ => rfl)) pa_nil)) (pa_cons (pe_callTy call_list_of (by rfl) T.list (by decide +kernel) (pa_cons (pe_ix ix_tup (pv 0) pe_int (fun _ _ => rfl)) pa_nil)) (pa_cons (pe_callTy call_list_of (by rfl) T.list (by decide +kernel) (pa_cons (pe_ix ix_tup (pv 0) pe_int (fun _ _ => rfl)) pa_nil)) pa_nil)))))))), ?_⟩
    have t0 : ∀ {H2 : Hp}, Same H H2 → SqT K H2 a [.str cd.nm, .str cd.hand, .ref ma, .ref da, .ref sa] := fun e => same_t (off_same.trans e) h1
    refine ⟨_, rfl, a, _, 0, _, rfl, rfl, t0 (Same.refl H), rfl, _, rfl, a, _, 1, _, rfl, rfl, t0 (Same.refl H), rfl, _, rfl, a, _, 2, _, rfl, rfl, t0 (Same.refl H), rfl, ma, _, rfl, .inl (SqL.of (off_same _ _ h2)), fun l1 hl1 => ?_⟩
    have f1 := same_new (Same.refl H) hl1 (o := .lst (cd.moves.map V.int))
    refine ⟨_, rfl, a, _, 3, _, rfl, rfl, t0 f1, rfl, da, ds, rfl, .inl (SqL.of (f1 _ _ (off_same _ _ h3))), fun l2 hl2 => ?_⟩
    have f2 := same_new f1 hl2 (o := .lst ds)
    refine ⟨_, rfl, a, _, 4, _, rfl, rfl, t0 f2, rfl, sa, _, rfl, .inl (SqL.of (f2 _ _ (off_same _ _ h5))), fun l3 hl3 => ⟨by show 5 ≤ sizeLine; decide, fun p hp => ?_⟩⟩
    have f3 := same_new f2 hl3 (o := .lst (cd.same.map V.str))
    have f4 := same_new f3 hp (o := .tup [.str cd.nm, .str cd.hand, .ref l1, .ref l2, .ref l3])
    have z1 := (same_new (same_new (same_new (Same.refl _) hl2 (o := .lst ds)) hl3 (o := .lst (cd.same.map V.str))) hp (o := .tup [.str cd.nm, .str cd.hand, .ref l1, .ref l2, .ref l3])) l1 _ upd_same
    have z2 := (same_new (same_new (Same.refl _) hl3 (o := .lst (cd.same.map V.str))) hp (o := .tup [.str cd.nm, .str cd.hand, .ref l1, .ref l2, .ref l3])) l2 _ upd_same
    have z3 := (same_new (Same.refl _) hp (o := .tup [.str cd.nm, .str cd.hand, .ref l1, .ref l2, .ref l3])) l3 _ upd_same
    have fr2 : H l2 = none := none_of f1 hl2
    have fr3 : H l3 = none := none_of f2 hl3
    have e4 := same_off (s := s) f4
    have n12 : l1 ≠ l2 := fun e => by rw [← e, upd_same] at hl2; cases hl2
    have n13 : l1 ≠ l3 := fun e => by rw [← e, upd_ne n12, upd_same] at hl3; cases hl3
    have n23 : l2 ≠ l3 := fun e => by rw [← e, upd_same] at hl3; cases hl3
    refine k (.ref p) _ [l1, l2, l3] f4 ⟨p, l1, l2, l3, ds, rfl, (off_ne (ne_s hs f3 hp)).trans upd_same, (off_ne (ne_s hs (Same.refl H) hl1)).trans z1, (off_ne (ne_s hs (Same.refl H) fr2)).trans z2, h4.mono fun _ _ h => DeT.keep e4 h, (off_ne (ne_s hs (Same.refl H) fr3)).trans z3, rfl⟩ ?_ ?_
    · intro b hb
      simp only [List.mem_cons, List.not_mem_nil, or_false] at hb
      rcases hb with rfl | rfl | rfl
      · exact hl1
      · exact fr2
      · exact fr3
    · simp [n12, n13, n23]
end
end MK

set_option Elab.async false
set_option linter.all false
set_option autoImplicit false
set_option maxRecDepth 100000
set_option maxHeartbeats 4000000
namespace MK
open PySem PySem.Spec PyProof.Rows L2
local macro_rules | `(tactic| walk_at "x") => `(tactic| dsimp only [tSeq, tAsg, tRet, tDrop, tLst, tTup, tCons, tOp, tUn, tIfS])
/-! ### lists that are changed -/
abbrev s_spoil : Stmt := topS 59
theorem sc_spoil : FnScope ["_law_x", "_law_y"] ["_law_x"] (defScope s_spoil) := ⟨rfl, rfl, rfl, by decide +kernel, rfl, by decide +kernel, by decide +kernel⟩
def spSpoil (K : PySem.W.Frag) (n : Nat) : Sp := fun vs H Q _ => ∃ (x : V) (L : List Addr), vs = [x] ∧ W K H n x L ∧ L.Nodup ∧ ∀ H', Chg L H H' → Q .non H'
section
variable {P : Program} {w : World} {K : PySem.W.Frag} {mg : Str → Option Value} {base : Heap} {C : Cst} {KC : Addr}
theorem wl_lsts {H : Hp} {n : Nat} {xs : List V} {L : List Addr} (h : WL (W K H n) xs L) : LstAt L H := fun b hb => by
  obtain ⟨y, _, M, r, m⟩ := h.mem hb
  exact r.lsts b m
/-- the loop over the items -/
def SpInv (K : PySem.W.Frag) (H1 : Hp) (m : Nat) (xs : List V) (Ls : List Addr) (x : V) (i : Nat) (σ : L2.St) (H2 : Hp) : Prop := ∃ A C y, Ls = A ++ C ∧ WL (W K H1 m) (xs.drop i) C ∧ Chg A H1 H2 ∧ σ = [some x, y]
theorem kit2 {a b c : String} {r1 r2 : Bool} (h1 : kitB a b = some r1) (h2 : kitB a c = some r2) : PySem.W.kitAny K (.type a) [.type b, .type c] = some (r1 || r2) := any2 h1 h2
theorem ok_spoil0 {f : Addr} {fd : FuncData} (F : DefX K mg "_law_spoil" s_spoil ["_law_x"] f fd) (T : Txt K mg) (n k : Nat) (sp' : Sp) (c_spoil : Cal P w K mg base CX0 k "_law_spoil" sp') (hk : k ≤ n) (hsp : ∀ m, n = m + 1 → sp' = spSpoil K m) :
    Cal P w K mg base CX0 (n + 1) "_law_spoil" (spSpoil K n) := by
  refine cal_mk F sc_spoil (fun vs H Q E h => ?_) (fun cdv A outer sh H vs Q E hr h => ?_)
  · obtain ⟨x, L, rfl, _⟩ := h
    rfl
  · obtain ⟨x, L, rfl, hw, nd, k'⟩ := h
    refine ⟨_, (pss_cut (ps_if (pt_val (pe_callB call_isiT (by rfl) T.isinstance (by decide +kernel) (pa_cons (pv 0) (pa_cons (pe_tup (pa_cons (pe_tyv (n := "list") (by rfl) T.list (by decide +kernel)) (pa_cons (pe_tyv (n := "tuple") (by rfl) T.tuple (by decide +kernel)) pa_nil))) pa_nil))))
(pss_one (ps_for PassesOwn.never rfl (pi_sqV (pv 0)) (pg_name (i := 1) sc_spoil.nd rfl (Or.inl rfl))
(pss_one (ps_expr (pe_c c_spoil hr (by first | decide | assumption) rfl (pa_cons (pv 1) pa_nil))))))
pss_nil)
(pss_one (ps_if (pt_val (pe_callB call_isi (by rfl) T.isinstance (by decide +kernel) (pa_cons (pv 0) (pa_cons (pe_tyv (n := "list") (by rfl) T.list (by decide +kernel)) pa_nil))))
(pss_one (ps_expr (pe_bm PySem.F.plainAttrs_list PySem.F.slot_list_append PySem.F.type_list_append mt_append (pv 0) (pa_cons pe_str pa_nil))))
pss_nil))), ?_⟩
    have spl : (Prim x ∧ L = []) ∨ ∃ m, n = m + 1 ∧ ((∃ a xs Ls, x = .ref a ∧ H a = some (.lst xs) ∧ WL (W K H m) xs Ls ∧ L = a :: Ls ∧ xs.length < 1000) ∨ (∃ a xs, x = .ref a ∧ SqT K H a xs ∧ WL (W K H m) xs L ∧ xs.length < 1000)) := by
      cases n with
      | zero => exact .inl hw
      | succ m => exact hw.elim .inl fun h => .inr ⟨m, rfl, h⟩
    rcases spl with ⟨hp, rfl⟩ | ⟨m, hn, hc⟩
    · obtain ⟨t, ty, tl, tu⟩ := prim_t (K := K) (H := H) hp
      refine ⟨fun σ H' => (∃ y, σ = [some x, y]) ∧ Same H H', ?_, ?_⟩
      · refine ⟨_, rfl, by show 2 ≤ sizeLine; decide, fun p hp => ?_⟩
        have e1 : Same H (upd H p (.tup [.ty "list", .ty "tuple"])) := same_new (Same.refl H) hp
        exact ⟨_, p, _, _, _, false, rfl, upd_same, .cons (.ty _) (.cons (.ty _) .nil), tyx_keep e1 ty, any2 tl tu, false, rfl, iteF ⟨⟨_, rfl⟩, e1⟩⟩
      · rintro σ H' ⟨⟨y, rfl⟩, e⟩
        exact ⟨_, rfl, _, _, _, _, false, rfl, .ty _, tyx_keep e ty, kit_ty tl, false, rfl, iteF (k' _ (Chg.nil e))⟩
    have hsp := hsp m hn
    subst hsp
    -- the items
    have loop : ∀ (H1 Hg : Hp) (a : Addr) (xs : List V) (Ls : List Addr) (D : Ends) (σ0 : L2.St), x = .ref a → (SqL K Hg a xs ∨ SqT K Hg a xs) → (∀ A H2, (∀ b ∈ A, b ∈ Ls) → Chg A H1 H2 → Same Hg H2) → WL (W K H1 m) xs Ls → Ls.Nodup → σ0 = [some x, none] →
        (∀ H2 y, Chg Ls H1 H2 → D.nx [some x, y] H2) → tFor (iSqS K (tVar 0)) (gName 1) (tDrop (tCall (spSpoil K m) [] E0 (tCons (tVar 1) tNil))) D σ0 H1 := by
      rintro H1 Hg a xs Ls D σ0 rfl hs hsame hw nd2 rfl hk2
      have ls1 : LstAt Ls H1 := wl_lsts hw
      refine ⟨_, rfl, a, xs, Hg, rfl, hs, hsame [] H1 nofun (Chg.nil (Same.refl _)), fun J G wk hG => ?_⟩
      refine for_it wk (SpInv K H1 m xs Ls (.ref a)) ⟨[], Ls, none, rfl, hw, Chg.nil (Same.refl _), rfl⟩ (fun i σ H2 _ h => hG _ ?_) ?_ ?_
      · obtain ⟨A, C, y, e, _, c, _⟩ := h
        exact hsame A H2 (fun b hb => by rw [e]; exact List.mem_append_left _ hb) c
      · rintro i y σ H2 H3 hi ⟨A, C, y0, e, hC, c, rfl⟩ ⟨rfl, hy⟩
        have hlt : i < xs.length := hi
        have he : xs[i] = y := (List.getElem?_eq_some_iff.mp hy).2
        rw [List.drop_eq_getElem_cons hlt, he] at hC
        obtain ⟨L1, L2', e2, w1, w2⟩ := hC
        have nd3 := nd2
        rw [e, e2] at nd3
        have d1 := List.nodup_append.mp nd3
        have d2 := List.nodup_append.mp d1.2.1
        have lA : LstAt A H1 := fun b hb => ls1 b (by rw [e]; exact List.mem_append_left _ hb)
        refine ⟨_, rfl, y, L1, rfl, w1.chg c lA fun b hb z => d1.2.2 b z b (List.mem_append_left _ hb) rfl, d2.1, fun H4 c4 => ?_⟩
        exact ⟨A ++ L1, L2', _, by rw [e, e2, List.append_assoc], w2, c.trans c4, rfl⟩
      · rintro σ H2 ⟨A, C, y, e, hC, c, rfl⟩
        rw [List.drop_length] at hC
        rw [show C = [] from hC, List.append_nil] at e
        exact hk2 _ _ (e ▸ c)
    rcases hc with ⟨a, xs, Ls, rfl, ha, hw2, rfl, hz⟩ | ⟨a, xs, rfl, ha, hw2, hz⟩
    · have na : a ∉ Ls := (List.nodup_cons.mp nd).1
      refine ⟨fun σ H' => (∃ y, σ = [some (.ref a), y]) ∧ Chg Ls H H', ?_, ?_⟩
      · refine ⟨_, rfl, by show 2 ≤ sizeLine; decide, fun p hp => ?_⟩
        have e1 : Same H (upd H p (.tup [.ty "list", .ty "tuple"])) := same_new (Same.refl H) hp
        refine ⟨_, p, _, _, _, true, rfl, upd_same, .cons (.ty _) (.cons (.ty _) .nil), tyx_l (SqL.of (e1 _ _ ha)), any2 (r1 := true) (r2 := false) (by decide +kernel) (by decide +kernel), true, rfl, iteT ?_⟩
        exact loop _ (One _ a) a xs Ls _ _ rfl (.inl (SqL.of (one_at.trans (e1 _ _ ha)))) (fun A H2 hA c => one_same fun o ho => c.1 _ _ ho fun z => na (hA _ z)) (hw2.mono fun _ _ _ _ w => w.keep e1) (List.nodup_cons.mp nd).2 rfl fun H2 y c => ⟨⟨_, rfl⟩, (Chg.nil e1).trans c⟩
      · rintro σ H2 ⟨⟨y, rfl⟩, c⟩
        have h2 := c.1 _ _ ha na
        refine ⟨_, rfl, _, _, _, _, true, rfl, .ty _, tyx_l (SqL.of h2), kit_ty (by decide +kernel), true, rfl, iteT ?_⟩
        refine ⟨_, rfl, .inl ⟨rfl, _, SqL.of h2⟩, a, _, _, rfl, rfl, h2, Nat.lt_trans hz (by decide), k' _ ⟨fun b o hb hn => ?_, fun b hb => ?_⟩⟩
        · have nb : b ≠ a ∧ b ∉ Ls := ⟨fun e => hn (e ▸ List.mem_cons_self), fun m => hn (List.mem_cons_of_mem _ m)⟩
          rw [upd_ne nb.1]
          exact c.1 b o hb nb.2
        · rcases List.mem_cons.mp hb with rfl | hb
          · exact ⟨_, upd_same⟩
          · obtain ⟨ys, q⟩ := c.2 b hb
            exact ⟨ys, (upd_ne fun z => na (by rw [← z]; exact hb)).trans q⟩
    · have gd : ∀ {H1 : Hp}, Same H H1 → ∃ Hg, SqT K Hg a xs ∧ ∀ A H2, (∀ b ∈ A, b ∈ L) → Chg A H1 H2 → Same Hg H2 := fun {H1} e1 => by
        have ls1 : LstAt L H1 := wl_lsts (hw2.mono fun _ _ _ _ w => w.keep e1)
        have na : ∀ {o : HO}, H1 a = some o → (∀ ys, o ≠ .lst ys) → a ∉ L := fun q n z => by
          obtain ⟨ys, q2⟩ := ls1 a z
          rw [q] at q2
          exact n ys (Option.some.inj q2)
        rcases ha with (h | ⟨o, h⟩) | h
        · exact ⟨One H1 a, SqT.of (one_at.trans (e1 _ _ h)), fun A H2 hA c => one_same fun o ho => c.1 _ _ ho fun z => na (e1 _ _ h) nofun (hA _ z)⟩
        · exact ⟨One H1 a, .inl (.inr ⟨o, one_at.trans (e1 _ _ h)⟩), fun A H2 hA c => one_same fun o' ho => c.1 _ _ ho fun z => na (e1 _ _ h) nofun (hA _ z)⟩
        · exact ⟨fun _ => none, .inr h, fun A H2 hA c b o hb => by cases hb⟩
      refine ⟨fun σ H' => (∃ y, σ = [some (.ref a), y]) ∧ Chg L H H' ∧ SqT K H' a xs, ?_, ?_⟩
      · refine ⟨_, rfl, by show 2 ≤ sizeLine; decide, fun p hp => ?_⟩
        have e1 : Same H (upd H p (.tup [.ty "list", .ty "tuple"])) := same_new (Same.refl H) hp
        refine ⟨_, p, _, _, _, true, rfl, upd_same, .cons (.ty _) (.cons (.ty _) .nil), tyx_t (same_t e1 ha), any2 (r1 := false) (r2 := true) (by decide +kernel) (by decide +kernel), true, rfl, iteT ?_⟩
        obtain ⟨Hg, g1, g2⟩ := gd e1
        have ls1 : LstAt L _ := wl_lsts (hw2.mono fun _ _ _ _ w => w.keep e1)
        exact loop _ Hg a xs L _ _ rfl (.inr g1) g2 (hw2.mono fun _ _ _ _ w => w.keep e1) nd rfl fun H2 y c => ⟨⟨_, rfl⟩, (Chg.nil e1).trans c, sqt_chg c ls1 (same_t e1 ha)⟩
      · rintro σ H2 ⟨⟨y, rfl⟩, c, t2⟩
        exact ⟨_, rfl, _, _, _, _, false, rfl, .ty _, tyx_t t2, kit_ty (by decide +kernel), false, rfl, iteF (k' _ c)⟩
theorem ok_spoil {f : Addr} {fd : FuncData} (F : DefX K mg "_law_spoil" s_spoil ["_law_x"] f fd) (T : Txt K mg) : ∀ n : Nat, Cal P w K mg base CX0 (n + 1) "_law_spoil" (spSpoil K n)
  | 0 => ok_spoil0 F T 0 0 _ (cal_bot F) (Nat.le_refl _) (fun _ h => nomatch h)
  | n + 1 => ok_spoil0 F T (n + 1) (n + 1) _ (ok_spoil F T n) (Nat.le_refl _) (fun m h => by cases h; rfl)
end
end MK

set_option Elab.async false
set_option linter.all false
set_option autoImplicit false
set_option maxRecDepth 100000
set_option maxHeartbeats 4000000
namespace MK
open PySem PySem.Spec PyProof.Rows L2
local macro_rules | `(tactic| walk_at "x") => `(tactic| dsimp only [tSeq, tAsg, tRet, tDrop, tLst, tTup, tCons, tOp, tUn, tIfS])
/-! ### what is passed: lists or tuples -/
abbrev s_handed : Stmt := topS 57
theorem sc_handed : FnScope ["_law_state", "_law_things"] ["_law_state", "_law_things"] (defScope s_handed) := ⟨rfl, rfl, rfl, by decide +kernel, rfl, by decide +kernel, by decide +kernel⟩
abbrev s_in_lists : Stmt := topS 60
theorem sc_in_lists : FnScope ["_law_state", "_law_x", "_law_y"] ["_law_state", "_law_x"] (defScope s_in_lists) := ⟨rfl, rfl, rfl, by decide +kernel, rfl, by decide +kernel, by decide +kernel⟩
abbrev RelH (α : Type) : Type := Hp → V → α → List Addr → Prop
/-- a list or a tuple of such items -/
def Ho {α : Type} (K : PySem.W.Frag) (R : RelH α) (H : Hp) (v : V) (ys : List α) (L : List Addr) : Prop := ∃ (xs : List V) (L' : List Addr), AlL (R H) xs ys L' ∧ ((∃ a, v = .ref a ∧ H a = some (.lst xs) ∧ L = a :: L') ∨ (Tu K H v xs ∧ L = L'))
def RF {α : Type} (f : α → V) : RelH α := fun _ x y L => x = f y ∧ L = []
/-- what keeps such a relation -/
structure RelOk {α : Type} (R : RelH α) : Prop where
  keep : ∀ {H H' : Hp} {x : V} {y : α} {L : List Addr}, Same H H' → R H x y L → R H' x y L
  off : ∀ {H : Hp} {d : Addr} {ys : List V} {x : V} {y : α} {L : List Addr}, H d = some (.lst ys) → d ∉ L → R H x y L → R (Off d H) x y L
theorem rf_ok {α : Type} (f : α → V) : RelOk (RF f) := ⟨fun _ h => h, fun _ _ h => h⟩
theorem AlL.sub {α : Type} {R S : V → α → List Addr → Prop} : ∀ {xs : List V} {ys : List α} {L : List Addr}, (∀ x y M, (∀ b ∈ M, b ∈ L) → R x y M → S x y M) → AlL R xs ys L → AlL S xs ys L
  | [], [], _, _, h => h
  | _ :: _, _ :: _, _, f, ⟨M1, M2, e, r, h⟩ => ⟨M1, M2, e, f _ _ _ (fun b hb => by rw [e]; exact List.mem_append_left _ hb) r, h.sub fun x y M hM => f x y M fun b hb => by rw [e]; exact List.mem_append_right _ (hM b hb)⟩
  | [], _ :: _, _, _, h => h.elim
  | _ :: _, [], _, _, h => h.elim
theorem ho_ok {α : Type} {K : PySem.W.Frag} {R : RelH α} (k : RelOk R) : RelOk (fun H v (ys : List α) L => Ho K R H v ys L) where
  keep := fun e h => by
    obtain ⟨xs, L', al, h⟩ := h
    refine ⟨xs, L', al.mono fun _ _ _ r => k.keep e r, ?_⟩
    rcases h with ⟨a, r, h, q⟩ | ⟨h, q⟩
    · exact .inl ⟨a, r, e _ _ h, q⟩
    · exact .inr ⟨h.keep e, q⟩
  off := fun {H d ys x y L} hd hn h => by
    obtain ⟨xs, L', al, h⟩ := h
    rcases h with ⟨a, r, h, q⟩ | ⟨h, q⟩
    · subst q
      exact ⟨xs, L', al.sub fun _ _ M hM r => k.off hd (fun z => hn (List.mem_cons_of_mem _ (hM _ z))) r, .inl ⟨a, r, (off_ne fun z => hn (by rw [z]; exact List.mem_cons_self)).trans h, rfl⟩⟩
    · subst q
      exact ⟨xs, L, al.sub fun _ _ M hM r => k.off hd (fun z => hn (hM _ z)) r, .inr ⟨h.offL hd, rfl⟩⟩
theorem al_wl {α : Type} {R : V → α → List Addr → Prop} {S : V → List Addr → Prop} (f : ∀ x y M, R x y M → S x M) : ∀ {xs : List V} {ys : List α} {L : List Addr}, AlL R xs ys L → WL S xs L
  | [], [], _, h => h
  | _ :: _, _ :: _, _, ⟨M1, M2, e, r, h⟩ => ⟨M1, M2, e, f _ _ _ r, al_wl f h⟩
  | [], _ :: _, _, h => h.elim
  | _ :: _, [], _, h => h.elim
theorem AlL.len {α : Type} {R : V → α → List Addr → Prop} {xs : List V} {ys : List α} {L : List Addr} (h : AlL R xs ys L) : xs.length = ys.length := (h.al (S := fun _ _ => True) fun _ _ _ _ => trivial).1
theorem Ho.w {α : Type} {K : PySem.W.Frag} {R : RelH α} {H : Hp} {v : V} {ys : List α} {L : List Addr} {n : Nat} (h : Ho K R H v ys L) (f : ∀ x y M, R H x y M → W K H n x M) (hl : ys.length < 1000) : W K H (n + 1) v L := by
  obtain ⟨xs, L', al, h⟩ := h
  have wl := al_wl f al
  have xl : xs.length < 1000 := by rw [al.len]; exact hl
  rcases h with ⟨a, r, h, q⟩ | ⟨⟨a, r, h⟩, q⟩
  · exact .inr (.inl ⟨a, xs, L', r, h, wl, q, xl⟩)
  · exact .inr (.inr ⟨a, xs, r, h, q ▸ wl, xl⟩)
theorem rf_map {α : Type} {f : α → V} {H : Hp} : ∀ (ys : List α), AlL (RF f H) (ys.map f) ys []
  | [] => rfl
  | y :: ys => ⟨[], [], rfl, ⟨rfl, rfl⟩, rf_map ys⟩
theorem rf_eq {α : Type} {f : α → V} {H : Hp} : ∀ {xs : List V} {ys : List α} {L : List Addr}, AlL (RF f H) xs ys L → xs = ys.map f ∧ L = []
  | [], [], _, h => ⟨rfl, h⟩
  | x :: xs, y :: ys, L, ⟨M1, M2, e, r, h⟩ => by
    obtain ⟨h1, h2⟩ := rf_eq h
    exact ⟨by rw [h1, r.1]; rfl, by rw [e, r.2, h2]; rfl⟩
  | [], _ :: _, _, h => h.elim
  | _ :: _, [], _, h => h.elim
theorem Ho.sq {α : Type} {K : PySem.W.Frag} {f : α → V} {H : Hp} {v : V} {ys : List α} {L : List Addr} (h : Ho K (RF f) H v ys L) : Sq K H v (ys.map f) := by
  obtain ⟨xs, L', al, h⟩ := h
  obtain ⟨rfl, _⟩ := rf_eq al
  rcases h with ⟨a, r, h, _⟩ | ⟨h, _⟩
  · exact ⟨a, r, .inl (SqL.of h)⟩
  · exact h.sq
theorem Ho.all {α : Type} {K : PySem.W.Frag} {R : RelH α} {S : V → α → Prop} {H : Hp} {v : V} {ys : List α} {L : List Addr} (h : Ho K R H v ys L) (f : ∀ x y M, R H x y M → S x y) : ∃ xs, Sq K H v xs ∧ Al S xs ys := by
  obtain ⟨xs, L', al, h⟩ := h
  refine ⟨xs, ?_, al.al f⟩
  rcases h with ⟨a, r, h, _⟩ | ⟨h, _⟩
  · exact ⟨a, r, .inl (SqL.of h)⟩
  · exact h.sq
theorem sqt_off {K : PySem.W.Frag} {H : Hp} {s a : Addr} {xs ys : List V} (h : SqT K H a xs) (hs : H s = some (.lst ys)) : SqT K (Off s H) a xs := by
  obtain ⟨b, e, h⟩ := Tu.offL ⟨a, rfl, h⟩ hs
  cases e
  exact h
def spHanded (K : PySem.W.Frag) : Sp := fun vs H Q _ => ∃ (s c l : Addr) (ns : List Int) (xs : List V), vs = [.ref s, .ref l] ∧ StA H s c ns ∧ ns.length ≤ 63 ∧ (SqL K (Off s H) l xs ∨ SqT K (Off s H) l xs) ∧
  ∀ a H', SameX s H H' → StA H' s c ns → ((H a = none ∧ Off s H' a = some (.lst xs)) ∨ SqT K (Off s H') a xs) → Q (.ref a) H'
section
variable {P : Program} {w : World} {K : PySem.W.Frag} {mg : Str → Option Value} {base : Heap} {C : Cst} {KC : Addr}
theorem ok_handed {f : Addr} {fd : FuncData} (F : DefX K mg "_law_handed" s_handed ["_law_state", "_law_things"] f fd) (T : Txt K mg) (c_take : Cal P w K mg base CX0 2 "_law_take" spTake) : Cal P w K mg base CX0 3 "_law_handed" (spHanded K) := by
  refine cal_mk F sc_handed (fun vs H Q E h => ?_) (fun cdv A outer sh H vs Q E hr h => ?_)
  · obtain ⟨s, c, l, ns, xs, rfl, _⟩ := h
    rfl
  · obtain ⟨s, c, l, ns, xs, rfl, h0, hl, hx, k⟩ := h
    refine ⟨_, (pss_one (ps_ret (pe_cut (pe_ifExp (pt_cmpR op_eq (pe_c c_take hr (by first | decide | assumption) rfl (pa_cons (pv 0) (pa_cons pe_int pa_nil))) pe_int (nomark _)) (pe_callTy call_list_of (by rfl) T.list (by decide +kernel) (pa_cons (pv 1) pa_nil)) (pe_callTy call_tuple_of (by rfl) T.tuple (by decide +kernel) (pa_cons (pv 1) pa_nil)))))), ?_⟩
    refine ⟨fun v H' => ∃ a, v = .ref a ∧ SameX s H H' ∧ StA H' s c ns ∧ ((H a = none ∧ Off s H' a = some (.lst xs)) ∨ SqT K (Off s H') a xs), ?_, ?_⟩
    · refine ⟨_, rfl, s, c, ns, 2, rfl, h0, hl, by decide, by decide, fun d H1 _ e1 h1 => ⟨rfl, _, rfl, ?_⟩⟩
      have sq1 : SqL K (Off s H1) l xs ∨ SqT K (Off s H1) l xs := hx.imp (fun h => e1.off.seq h) fun h => same_t e1.off h
      have sq2 : SqL K H1 l xs ∨ SqT K H1 l xs := sq1.imp (fun h => off_same.seq h) fun h => same_t off_same h
      refine ite2 (fun _ => ?_) (fun _ => ?_)
      · refine ⟨_, rfl, l, xs, rfl, sq2, fun a ha => ?_⟩
        have hn := h1.ne ha
        have e2 := same_sx (s := s) (same_new (Same.refl H1) ha (o := .lst xs))
        exact ⟨a, rfl, e1.trans e2, h1.keep (same_new (Same.refl H1) ha), .inl ⟨noneX e1 hn.1 ha, (off_ne hn.1).trans upd_same⟩⟩
      · refine ⟨_, rfl, l, xs, rfl, ?_⟩
        rcases sq1 with h | h
        · refine .inl ⟨off_same.seq h, fun a ha => ?_⟩
          have hn := h1.ne ha
          exact ⟨a, rfl, e1.trans (same_sx (same_new (Same.refl H1) ha)), h1.keep (same_new (Same.refl H1) ha), .inr (SqT.of ((off_ne hn.1).trans upd_same))⟩
        · exact .inr ⟨same_t off_same h, l, rfl, e1, h1, .inr h⟩
    · rintro v H' ⟨a, rfl, e, h, q⟩
      exact k a H' e h q
end
end MK

set_option Elab.async false
set_option linter.all false
set_option autoImplicit false
set_option maxRecDepth 100000
set_option maxHeartbeats 4000000
namespace MK
open PySem PySem.Spec PyProof.Rows L2
local macro_rules | `(tactic| walk_at "x") => `(tactic| dsimp only [tSeq, tAsg, tRet, tDrop, tLst, tTup, tCons, tOp, tUn, tIfS])
/-! ### lists or tuples at every depth -/
def Held (L : List Addr) (H : Hp) : Prop := ∀ b ∈ L, H b ≠ none
theorem Held.keep {L : List Addr} {H H' : Hp} (e : ∀ b o, H b = some o → ∃ o', H' b = some o') (h : Held L H) : Held L H' := fun b hb => by
  cases q : H b with
  | none => exact absurd q (h b hb)
  | some o =>
    obtain ⟨o', z⟩ := e b o q
    rw [z]
    exact nofun
theorem nodup_app {H1 : Hp} {L M : List Addr} (n1 : L.Nodup) (n2 : M.Nodup) (hl : Held L H1) (fr : Fresh H1 M) : (L ++ M).Nodup := by
  rw [List.nodup_append]
  exact ⟨n1, n2, fun a ha b hb e => hl a ha (by rw [e]; exact fr b hb)⟩
def spIn {α : Type} (G : Hp → V → α → Prop) (R : RelH α) : Sp := fun vs H Q _ => ∃ (s c : Addr) (ns : List Int) (x : V) (y : α), vs = [.ref s, x] ∧ StA H s c ns ∧ ns.length ≤ 63 ∧ G (Off s H) x y ∧
  ∀ v L H', SameX s H H' → StA H' s c ns → R (Off s H') v y L → Fresh H L → L.Nodup → Held L H' → Q v H'
def RP : RelH V := fun _ x y L => x = y ∧ Prim x ∧ L = []
theorem rp_ok : RelOk RP := ⟨fun _ h => h, fun _ _ h => h⟩
theorem rp_eq {H : Hp} : ∀ {xs ys : List V} {L : List Addr}, AlL (RP H) xs ys L → xs = ys ∧ L = []
  | [], [], _, h => ⟨rfl, h⟩
  | x :: xs, y :: ys, L, ⟨M1, M2, e, r, h⟩ => by
    obtain ⟨h1, h2⟩ := rp_eq h
    exact ⟨by rw [h1, r.1], by rw [e, r.2.2, h2]; rfl⟩
  | [], _ :: _, _, h => h.elim
  | _ :: _, [], _, h => h.elim
def G0 : Hp → V → V → Prop := fun _ x y => x = y ∧ Prim x
def GS {α : Type} (K : PySem.W.Frag) (G : Hp → V → α → Prop) : Hp → V → List α → Prop := fun H x ys => ∃ xs, Tu K H x xs ∧ Al (G H) xs ys ∧ ys.length ≤ 10
theorem sx_held {s : Addr} {L : List Addr} {H H' : Hp} {xs : List V} (e : SameX s H H') (hs : H' s = some (.lst xs)) (h : Held L H) : Held L H' := h.keep fun b o hb => by
  by_cases z : b = s
  · exact ⟨_, z ▸ hs⟩
  · exact ⟨o, e b o hb z⟩
theorem StA.at {H : Hp} {s c : Addr} {ns : List Int} (h : StA H s c ns) : ∃ xs, H s = some (.lst xs) := by
  obtain ⟨_, _, a, b, m, hs⟩ := h
  exact ⟨_, hs⟩
section
variable {P : Program} {w : World} {K : PySem.W.Frag} {mg : Str → Option Value} {base : Heap} {C : Cst} {KC : Addr}
theorem ok_in0 {f : Addr} {fd : FuncData} (F : DefX K mg "_law_in_lists" s_in_lists ["_law_state", "_law_x"] f fd) (T : Txt K mg) (c_handed : Cal P w K mg base CX0 3 "_law_handed" (spHanded K)) (c_in_lists : Cal P w K mg base CX0 0 "_law_in_lists" (fun _ _ _ _ => False)) :
    Cal P w K mg base CX0 4 "_law_in_lists" (spIn G0 RP) := by
  refine cal_mk F sc_in_lists (fun vs H Q E h => ?_) (fun cdv A outer sh H vs Q E hr h => ?_)
  · obtain ⟨s, c, ns, x, y, rfl, _⟩ := h
    rfl
  · obtain ⟨s, c, ns, x, y, rfl, h0, hl, ⟨rfl, hp⟩, k⟩ := h
    refine ⟨_, (pss_cons (ps_if (pt_val (pe_callB call_isi (by rfl) T.isinstance (by decide +kernel) (pa_cons (pv 1) (pa_cons (pe_tyv (n := "tuple") (by rfl) T.tuple (by decide +kernel)) pa_nil))))
(pss_one (ps_ret (pe_c c_handed hr (by first | decide | assumption) rfl (pa_cons (pv 0) (pa_cons (pe_lc (own := [("_law_y", 2)]) (g := (gName 2)) (tt := tYes) rfl sc_in_lists.nd (pi_tup (pv 1)) (blkOk_by (own := [("_law_y", 2)]) (N := ["_law_state", "_law_x", "_law_y"]) (sc := defScope s_in_lists) (by decide +kernel)) (fun _ _ _ _ _ => (pg_name (i := 2) sc_in_lists.nd rfl (Or.inl rfl))) (fun _ _ _ _ _ => pts_nil) (fun _ _ _ _ _ => (pe_c c_in_lists hr (by first | decide | assumption) rfl (pa_cons (pv 0) (pa_cons (pv 2) pa_nil))))) pa_nil)))))
pss_nil)
(pss_one (ps_ret (pv 1)))), ?_⟩
    obtain ⟨t, ty, tl, tu⟩ := prim_t (K := K) (H := H) hp
    exact ⟨_, rfl, _, _, _, _, false, rfl, .ty _, ty, kit_ty tu, false, rfl, iteF ⟨_, rfl, k x [] H (SameX.refl s H) h0 ⟨rfl, hp, rfl⟩ nofun List.nodup_nil nofun⟩⟩
theorem ok_inS {α : Type} {G : Hp → V → α → Prop} {R : RelH α} {k : Nat} (kG : ∀ {H H' : Hp} {x : V} {y : α}, Same H H' → G H x y → G H' x y) (kR : RelOk R) {f : Addr} {fd : FuncData} (F : DefX K mg "_law_in_lists" s_in_lists ["_law_state", "_law_x"] f fd) (T : Txt K mg) (c_handed : Cal P w K mg base CX0 3 "_law_handed" (spHanded K)) (h4 : 4 ≤ k)
    (c_in_lists : Cal P w K mg base CX0 k "_law_in_lists" (spIn G R)) : Cal P w K mg base CX0 (k + 1) "_law_in_lists" (spIn (GS K G) (fun H v ys L => Ho K R H v ys L)) := by
  refine cal_mk F sc_in_lists (fun vs H Q E h => ?_) (fun cdv A outer sh H vs Q E hr h => ?_)
  · obtain ⟨s, c, ns, x, y, rfl, _⟩ := h
    rfl
  · obtain ⟨s, c, ns, x, ys, rfl, h0, hl, ⟨xs, ⟨a, rfl, ht⟩, al, yl⟩, k'⟩ := h
    have hk3 : 3 ≤ k := by omega
    have hkk : k ≤ k := Nat.le_refl k
    refine ⟨_, (pss_cons (ps_if (pt_val (pe_callB call_isi (by rfl) T.isinstance (by decide +kernel) (pa_cons (pv 1) (pa_cons (pe_tyv (n := "tuple") (by rfl) T.tuple (by decide +kernel)) pa_nil))))
(pss_one (ps_ret (pe_c c_handed hr (by first | decide | assumption) rfl (pa_cons (pv 0) (pa_cons (pe_lc (own := [("_law_y", 2)]) (g := (gName 2)) (tt := tYes) rfl sc_in_lists.nd (pi_tup (pv 1)) (blkOk_by (own := [("_law_y", 2)]) (N := ["_law_state", "_law_x", "_law_y"]) (sc := defScope s_in_lists) (by decide +kernel)) (fun _ _ _ _ _ => (pg_name (i := 2) sc_in_lists.nd rfl (Or.inl rfl))) (fun _ _ _ _ _ => pts_nil) (fun _ _ _ _ _ => (pe_c c_in_lists hr (by first | decide | assumption) rfl (pa_cons (pv 0) (pa_cons (pv 2) pa_nil))))) pa_nil)))))
pss_nil)
(pss_one (ps_ret (pv 1)))), ?_⟩
    refine ⟨_, rfl, _, _, _, _, true, rfl, .ty _, tyx_t (same_t off_same ht), kit_ty (by decide +kernel), true, rfl, iteT ?_⟩
    refine ⟨_, rfl, _, rfl, a, rfl, ⟨xs, same_t off_same ht⟩, fun D hD => ?_⟩
    obtain ⟨Ds, Dc⟩ := h0.ne hD
    have e0 := same_new (Same.refl H) hD (o := .lst [])
    refine lc_it (walk_tup (K := K) (a := a) (xs := xs)) (fun i H2 => SameX s H H2 ∧ StA H2 s c ns ∧ ∃ ws L, H2 D = some (.lst ws) ∧ Fresh H L ∧ (D :: L).Nodup ∧ Held L H2 ∧ AlL (R (Off D (Off s H2))) ws (ys.take i) L) ⟨same_sx e0, h0.keep e0, [], [], upd_same, nofun, by simp, nofun, rfl⟩ (fun i H2 _ h => same_t (h.1.off.trans off_same) ht) ?_ ?_
    · rintro i x H3 H2 hi ⟨e2, h2, ws, L, d2, fr, nd, hd, al2⟩ ⟨rfl, hx⟩
      obtain ⟨y, hy, hg⟩ := al.get hx
      refine ⟨rfl, ?_⟩
      refine ⟨_, rfl, _, rfl, s, c, ns, x, y, rfl, h2, hl, kG e2.off hg, fun v L4 H4 e4 h4' r4 fr4 nd4 hd4 => ?_⟩
      have d4 := e4 _ _ d2 Ds
      have nD4 : D ∉ L4 := fun z => by have := fr4 D z; rw [d2] at this; cases this
      obtain ⟨zs, hs4⟩ := h4'.at
      have hdD : Held (D :: L) H2 := fun b hb => by
        rcases List.mem_cons.mp hb with rfl | hb
        · rw [d2]; exact nofun
        · exact hd b hb
      have up : ∀ {b : Addr}, H4 b ≠ none → upd H4 D (.lst (ws ++ [v])) b ≠ none := fun {b} h => by
        by_cases z : b = D
        · rw [z, upd_same]; exact nofun
        · rw [upd_ne z]; exact h
      refine ⟨ws, d4, ?_, (e2.trans e4).putN hD, h4'.put Ds Dc, ws ++ [v], L ++ L4, upd_same, ?_, ?_, ?_, ?_⟩
      · rw [al2.len, List.length_take]
        exact Nat.lt_of_le_of_lt (by omega : _ ≤ 10) (by decide)
      · intro b hb
        rcases List.mem_append.mp hb with hb | hb
        · exact fr b hb
        · exact noneX e2 (h2.ne (fr4 b hb)).1 (fr4 b hb)
      · rw [← List.cons_append]
        exact nodup_app nd nd4 hdD fr4
      · intro b hb
        rcases List.mem_append.mp hb with hb | hb
        · exact up (sx_held e4 hs4 hd b hb)
        · exact up (hd4 b hb)
      · rw [off_upd Ds, off_put, List.take_succ, hy]
        exact (al2.mono fun _ _ _ r => kR.keep (same_off e4.off) r).snoc (kR.off ((off_ne Ds).trans d4) nD4 r4)
    · rintro H2 ⟨e2, h2, ws, L, d2, fr, nd, hd, al2⟩
      rw [show xs.length = ys.length from al.1, List.take_length] at al2
      refine ⟨s, c, D, ns, ws, rfl, h2, hl, .inl (SqL.of ((off_ne Ds).trans d2)), fun a5 H5 e5 h5 alt => ?_⟩
      obtain ⟨zs, hs5⟩ := h5.at
      have al5 := al2.mono fun _ _ _ r => kR.keep (off_same.trans e5.off) r
      have hd5 := sx_held e5 hs5 hd
      rcases alt with ⟨hn, ha⟩ | ha
      · have na := h2.ne hn
        refine k' (.ref a5) (a5 :: L) H5 (e2.trans e5) h5 ⟨ws, L, al5, .inl ⟨a5, rfl, ha, rfl⟩⟩ (fun b hb => ?_) (List.nodup_cons.mpr ⟨fun z => hd a5 z hn, (List.nodup_cons.mp nd).2⟩) (fun b hb => ?_)
        · rcases List.mem_cons.mp hb with rfl | hb
          · exact noneX e2 na.1 hn
          · exact fr b hb
        · rcases List.mem_cons.mp hb with rfl | hb
          · rw [off_same _ _ ha]; exact nofun
          · exact hd5 b hb
      · exact k' (.ref a5) L H5 (e2.trans e5) h5 ⟨ws, L, al5, .inr ⟨⟨a5, rfl, ha⟩, rfl⟩⟩ fr (List.nodup_cons.mp nd).2 hd5
end
end MK

set_option Elab.async false
set_option linter.all false
set_option autoImplicit false
set_option maxRecDepth 100000
set_option maxHeartbeats 4000000
namespace MK
open PySem PySem.Spec PyProof.Rows L2
local macro_rules | `(tactic| walk_at "x") => `(tactic| dsimp only [tSeq, tAsg, tRet, tDrop, tLst, tTup, tCons, tOp, tUn, tIfS])
/-! ### calls as they are passed -/
abbrev s_deep : Stmt := topS 69
theorem sc_deep : FnScope ["_law_state", "_law_calls", "_law_found", "_law_name", "_law_hand", "_law_moves", "_law_deeds_here", "_law_same_here", "_law_x", "_law_pairs", "_law_row"] ["_law_state", "_law_calls"] (defScope s_deep) := ⟨rfl, rfl, rfl, by decide +kernel, rfl, by decide +kernel, by decide +kernel⟩
inductive RI where
  | p (v : V)
  | m (ms : List Int)
  | d (ds : List (Str × Str))
  | t (ss : List Str)
def DeH (K : PySem.W.Frag) : RelH (Str × Str) := fun H x dd L => Ho K (RF id) H x (DeV dd) L
def RR (K : PySem.W.Frag) : RelH RI := fun H x i L => match i with
  | .p v => x = v ∧ Prim v ∧ L = []
  | .m ms => Ho K (RF V.int) H x ms L
  | .d ds => Ho K (DeH K) H x ds L
  | .t ss => Ho K (RF V.str) H x ss L
theorem deh_ok {K : PySem.W.Frag} : RelOk (DeH K) := ⟨fun e h => (ho_ok (rf_ok id)).keep e h, fun hd hn h => (ho_ok (rf_ok id)).off hd hn h⟩
theorem rr_ok {K : PySem.W.Frag} : RelOk (RR K) where
  keep := fun {H H' x y L} e h => by
    cases y with
    | p v => exact h
    | m ms => exact (ho_ok (rf_ok V.int)).keep e h
    | d ds => exact (ho_ok deh_ok).keep e h
    | t ss => exact (ho_ok (rf_ok V.str)).keep e h
  off := fun {H d ys x y L} hd hn h => by
    cases y with
    | p v => exact h
    | m ms => exact (ho_ok (rf_ok V.int)).off hd hn h
    | d ds => exact (ho_ok deh_ok).off hd hn h
    | t ss => exact (ho_ok (rf_ok V.str)).off hd hn h
def rowOf (c : CD) : List RI := [.p (.str c.nm), .p (.str c.hand), .m c.moves, .d c.deeds, .t c.same]
def CdP (K : PySem.W.Frag) : RelH CD := fun H v c L => Ho K (RR K) H v (rowOf c) L
theorem cdp_ok {K : PySem.W.Frag} : RelOk (CdP K) := ⟨fun e h => (ho_ok rr_ok).keep e h, fun hd hn h => (ho_ok rr_ok).off hd hn h⟩
theorem all_cons {α : Type} {R : V → α → List Addr → Prop} {xs : List V} {y : α} {ys : List α} {L : List Addr} (h : AlL R xs (y :: ys) L) : ∃ x xs' L1 L2, xs = x :: xs' ∧ L = L1 ++ L2 ∧ R x y L1 ∧ AlL R xs' ys L2 := by
  cases xs with
  | nil => exact h.elim
  | cons x xs' =>
    obtain ⟨L1, L2, e, r, t⟩ := h
    exact ⟨x, xs', L1, L2, rfl, e, r, t⟩
theorem all_nil {α : Type} {R : V → α → List Addr → Prop} {xs : List V} {L : List Addr} (h : AlL R xs ([] : List α) L) : xs = [] ∧ L = [] := by
  cases xs with
  | nil => exact ⟨rfl, h⟩
  | cons x xs' => exact h.elim
theorem row_inv {K : PySem.W.Frag} {H : Hp} {xs : List V} {c : CD} {L : List Addr} (h : AlL (RR K H) xs (rowOf c) L) :
    ∃ x3 x4 x5 L3 L4 L5, xs = [.str c.nm, .str c.hand, x3, x4, x5] ∧ L = L3 ++ (L4 ++ L5) ∧ Ho K (RF V.int) H x3 c.moves L3 ∧ Ho K (DeH K) H x4 c.deeds L4 ∧ Ho K (RF V.str) H x5 c.same L5 := by
  unfold rowOf at h
  obtain ⟨x1, xs1, M1, N1, e1, f1, r1, h⟩ := all_cons h
  obtain ⟨x2, xs2, M2, N2, e2, f2, r2, h⟩ := all_cons h
  obtain ⟨x3, xs3, M3, N3, e3, f3, r3, h⟩ := all_cons h
  obtain ⟨x4, xs4, M4, N4, e4, f4, r4, h⟩ := all_cons h
  obtain ⟨x5, xs5, M5, N5, e5, f5, r5, h⟩ := all_cons h
  obtain ⟨e6, f6⟩ := all_nil h
  have q1 : x1 = V.str c.nm ∧ Prim (V.str c.nm) ∧ M1 = [] := r1
  have q2 : x2 = V.str c.hand ∧ Prim (V.str c.hand) ∧ M2 = [] := r2
  refine ⟨x3, x4, x5, M3, M4, M5, ?_, ?_, r3, r4, r5⟩
  · rw [e1, e2, e3, e4, e5, e6, q1.1, q2.1]
  · rw [f1, f2, f3, f4, f5, f6, q1.2.2, q2.2.2, List.append_nil]
    rfl
theorem CdP.a {K : PySem.W.Frag} {H : Hp} {v : V} {c : CD} {L : List Addr} (h : CdP K H v c L) : CdA K H v c := by
  obtain ⟨xs, L', al, h⟩ := h
  obtain ⟨x3, x4, x5, L3, L4, L5, rfl, _, r3, r4, r5⟩ := row_inv al
  obtain ⟨ds, q1, q2⟩ := Ho.all (S := DeA K H) r4 fun x y M r => by
    have := Ho.sq (f := id) r
    rw [List.map_id] at this
    exact this
  refine ⟨x3, x4, x5, ds, ?_, Ho.sq r3, q1, q2, Ho.sq r5⟩
  rcases h with ⟨a, r, h, _⟩ | ⟨h, _⟩
  · exact ⟨a, r, .inl (SqL.of h)⟩
  · exact h.sq
theorem rf_w {α : Type} {K : PySem.W.Frag} {f : α → V} {H : Hp} (hf : ∀ y, Prim (f y)) (n : Nat) {x : V} {y : α} {M : List Addr} (h : RF f H x y M) : W K H n x M := by
  rw [h.1, h.2]
  exact W.prim (hf y) n
theorem de_w {K : PySem.W.Frag} {H : Hp} {x : V} {dd : Str × Str} {M : List Addr} (h : DeH K H x dd M) : W K H 1 x M := by
  obtain ⟨xs, L', al, h⟩ := h
  obtain ⟨rfl, rfl⟩ := rf_eq al
  have wl : WL (W K H 0) ((DeV dd).map id) [] := WL.flat fun x hx => by
    rw [List.map_id] at hx
    simp only [DeV, List.mem_cons, List.not_mem_nil, or_false] at hx
    rcases hx with rfl | rfl <;> exact ⟨prim_str _, rfl⟩
  rcases h with ⟨a, r, h, q⟩ | ⟨⟨a, r, h⟩, q⟩
  · exact .inr (.inl ⟨a, _, [], r, h, wl, q, by show 2 < 1000; decide⟩)
  · exact .inr (.inr ⟨a, _, r, h, q ▸ wl, by show 2 < 1000; decide⟩)
theorem CdP.w {K : PySem.W.Frag} {fs : List FD} {n : Nat} {H : Hp} {v : V} {c : CD} {L : List Addr} (h : CdP K H v c L) (ok : CdOk fs n c) (n4 : n ≤ 4) (s3 : c.same.length ≤ 3) : W K H 3 v L := by
  have ml : c.moves.length < 1000 := by rw [ok.len]; omega
  have dl : c.deeds.length < 1000 := by have := ok.deeds; omega
  obtain ⟨xs, L', al, h⟩ := h
  obtain ⟨x3, x4, x5, L3, L4, L5, rfl, rfl, r3, r4, r5⟩ := row_inv al
  have w3 : W K H 2 x3 L3 := Ho.w r3 (fun _ _ _ r => rf_w (fun i => prim_int i) 1 r) ml
  have w4 : W K H 2 x4 L4 := Ho.w r4 (fun _ _ _ r => de_w r) dl
  have w5 : W K H 2 x5 L5 := Ho.w r5 (fun _ _ _ r => rf_w (fun i => prim_str i) 1 r) (by omega)
  have wl : WL (W K H 2) [.str c.nm, .str c.hand, x3, x4, x5] (L3 ++ (L4 ++ L5)) :=
    ⟨[], _, rfl, W.prim (prim_str _) 2, [], _, rfl, W.prim (prim_str _) 2, L3, _, rfl, w3, L4, L5, rfl, w4, L5, [], (List.append_nil _).symm, w5, rfl⟩
  have xl : ([.str c.nm, .str c.hand, x3, x4, x5] : List V).length < 1000 := by show 5 < 1000; decide
  rcases h with ⟨a, r, h, q⟩ | ⟨⟨a, r, h⟩, q⟩
  · exact .inr (.inl ⟨a, _, _, r, h, wl, q, xl⟩)
  · exact .inr (.inr ⟨a, _, r, h, q ▸ wl, xl⟩)
/-- handed, told of the items -/
theorem rd_handed {α : Type} {K : PySem.W.Frag} {R : RelH α} (kR : RelOk R) {H : Hp} {s c l : Addr} {ns : List Int} {xs : List V} {ys : List α} {L : List Addr} {Q : VK} {E : XK} (h0 : StA H s c ns) (hl : ns.length ≤ 63) (hx : SqL K (Off s H) l xs ∨ SqT K (Off s H) l xs) (al : AlL (R (Off s H)) xs ys L) (nd : L.Nodup) (hd : Held L H)
    (k : ∀ v M H', SameX s H H' → StA H' s c ns → Ho K R (Off s H') v ys (M ++ L) → (M ++ L).Nodup → Fresh H M → Held (M ++ L) H' → Q v H') : spHanded K [.ref s, .ref l] H Q E := by
  refine ⟨s, c, l, ns, xs, rfl, h0, hl, hx, fun a H' e h alt => ?_⟩
  obtain ⟨zs, hs⟩ := h.at
  have al5 := al.mono fun _ _ _ r => kR.keep e.off r
  have hd5 := sx_held e hs hd
  rcases alt with ⟨hn, ha⟩ | ha
  · refine k (.ref a) [a] H' e h ⟨xs, L, al5, .inl ⟨a, rfl, ha, rfl⟩⟩ (List.nodup_cons.mpr ⟨fun z => hd a z hn, nd⟩) (fun b hb => by rw [List.mem_singleton.mp hb]; exact hn) (fun b hb => ?_)
    rcases List.mem_cons.mp hb with rfl | hb
    · rw [off_same _ _ ha]; exact nofun
    · exact hd5 b hb
  · exact k (.ref a) [] H' e h ⟨xs, L, al5, .inr ⟨⟨a, rfl, ha⟩, rfl⟩⟩ nd nofun hd5
theorem rd_handed0 {α : Type} {K : PySem.W.Frag} {f : α → V} {H : Hp} {s c l : Addr} {ns : List Int} {ys : List α} {Q : VK} {E : XK} (h0 : StA H s c ns) (hl : ns.length ≤ 63) (hx : SqL K (Off s H) l (ys.map f) ∨ SqT K (Off s H) l (ys.map f))
    (k : ∀ v M H', SameX s H H' → StA H' s c ns → Ho K (RF f) (Off s H') v ys M → M.Nodup → Fresh H M → Held M H' → Q v H') : spHanded K [.ref s, .ref l] H Q E :=
  rd_handed (rf_ok f) h0 hl hx (rf_map ys) List.nodup_nil nofun fun v M H' e h r nd fr hd => by
    rw [List.append_nil] at r nd hd
    exact k v M H' e h r nd fr hd
/-- what a loop has collected in the list at D -/
def Col {α : Type} (R : RelH α) (s c : Addr) (ns : List Int) (H : Hp) (D : Addr) (ys : List α) (i : Nat) (H2 : Hp) : Prop := SameX s H H2 ∧ StA H2 s c ns ∧ ∃ ws L, H2 D = some (.lst ws) ∧ Fresh H L ∧ (D :: L).Nodup ∧ Held L H2 ∧ AlL (R (Off D (Off s H2))) ws (ys.take i) L
theorem Col.init {α : Type} {R : RelH α} {s c D : Addr} {ns : List Int} {H : Hp} {ys : List α} (h0 : StA H s c ns) (hD : H D = none) : Col R s c ns H D ys 0 (upd H D (.lst [])) :=
  ⟨same_sx (same_new (Same.refl H) hD), h0.keep (same_new (Same.refl H) hD), [], [], upd_same, nofun, by simp, nofun, rfl⟩
theorem Col.step {α : Type} {R : RelH α} (kR : RelOk R) {s c D : Addr} {ns : List Int} {H H2 H4 : Hp} {ys : List α} {i : Nat} {y : α} {v : V} {L4 : List Addr} (q : Col R s c ns H D ys i H2) (hD : H D = none) (Ds : D ≠ s) (Dc : D ≠ c) (hy : ys[i]? = some y) (e4 : SameX s H2 H4) (h4 : StA H4 s c ns) (r4 : R (Off s H4) v y L4)
    (fr4 : Fresh H2 L4) (nd4 : L4.Nodup) (hd4 : Held L4 H4) : ∃ ws, H4 D = some (.lst ws) ∧ ws.length = (ys.take i).length ∧ Col R s c ns H D ys (i + 1) (upd H4 D (.lst (ws ++ [v]))) := by
  obtain ⟨e2, h2, ws, L, d2, fr, nd, hd, al2⟩ := q
  have d4 := e4 _ _ d2 Ds
  have nD4 : D ∉ L4 := fun z => by have := fr4 D z; rw [d2] at this; cases this
  obtain ⟨zs, hs4⟩ := h4.at
  have hdD : Held (D :: L) H2 := fun b hb => by
    rcases List.mem_cons.mp hb with rfl | hb
    · rw [d2]; exact nofun
    · exact hd b hb
  have up : ∀ {b : Addr}, H4 b ≠ none → upd H4 D (.lst (ws ++ [v])) b ≠ none := fun {b} h => by
    by_cases z : b = D
    · rw [z, upd_same]; exact nofun
    · rw [upd_ne z]; exact h
  refine ⟨ws, d4, al2.len, (e2.trans e4).putN hD, h4.put Ds Dc, ws ++ [v], L ++ L4, upd_same, ?_, ?_, ?_, ?_⟩
  · intro b hb
    rcases List.mem_append.mp hb with hb | hb
    · exact fr b hb
    · exact noneX e2 (h2.ne (fr4 b hb)).1 (fr4 b hb)
  · rw [← List.cons_append]
    exact nodup_app nd nd4 hdD fr4
  · intro b hb
    rcases List.mem_append.mp hb with hb | hb
    · exact up (sx_held e4 hs4 hd b hb)
    · exact up (hd4 b hb)
  · rw [off_upd Ds, off_put, List.take_succ, hy]
    exact (al2.mono fun _ _ _ r => kR.keep (same_off e4.off) r).snoc (kR.off ((off_ne Ds).trans d4) nD4 r4)
theorem nodup3 {H4 H5 : Hp} {A B C : List Addr} (nA : A.Nodup) (nB : B.Nodup) (nC : C.Nodup) (hB : Held B H4) (fA : Fresh H4 A) (hA5 : Held A H5) (hB5 : Held B H5) (fC : Fresh H5 C) : (A ++ (B ++ C)).Nodup := by
  rw [List.nodup_append]
  refine ⟨nA, nodup_app nB nC hB5 fC, fun a ha b hb e => ?_⟩
  subst e
  rcases List.mem_append.mp hb with hb | hb
  · exact hB a hb (fA a ha)
  · exact hA5 a ha (fC a hb)
theorem held_app {H : Hp} {A B : List Addr} (a : Held A H) (b : Held B H) : Held (A ++ B) H := fun c hc => (List.mem_append.mp hc).elim (a c) (b c)
theorem held_same {H H' : Hp} {A : List Addr} (e : Same H H') (a : Held A H) : Held A H' := a.keep fun b o h => ⟨o, e b o h⟩
theorem fresh_back {s c : Addr} {ns : List Int} {H H' : Hp} {A : List Addr} (e : SameX s H H') (h : StA H' s c ns) (f : Fresh H' A) : Fresh H A := fun b hb => noneX e (h.ne (f b hb)).1 (f b hb)
theorem fresh_app {H : Hp} {A B : List Addr} (a : Fresh H A) (b : Fresh H B) : Fresh H (A ++ B) := fun c hc => (List.mem_append.mp hc).elim (a c) (b c)
def spDeep (K : PySem.W.Frag) : Sp := fun vs H Q _ => ∃ (s c l : Addr) (ns : List Int) (cvs : List V) (cs : List CD), vs = [.ref s, .ref l] ∧ StA H s c ns ∧ ns.length ≤ 63 ∧ Off s H l = some (.lst cvs) ∧ Al (CdL K (Off s H)) cvs cs ∧ cs.length ≤ 6 ∧ (∀ c ∈ cs, c.deeds.length ≤ 4) ∧
  ∀ v L H', SameX s H H' → StA H' s c ns → Ho K (CdP K) (Off s H') v cs L → Fresh H L → L.Nodup → Held L H' → Q v H'
section
variable {P : Program} {w : World} {K : PySem.W.Frag} {mg : Str → Option Value} {base : Heap} {C : Cst} {KC : Addr}
theorem ok_deep {f : Addr} {fd : FuncData} (F : DefX K mg "_law_deep" s_deep ["_law_state", "_law_calls"] f fd) (T : Txt K mg) (c_handed : Cal P w K mg base CX0 3 "_law_handed" (spHanded K)) : Cal P w K mg base CX0 4 "_law_deep" (spDeep K) := by
  refine cal_mk F sc_deep (fun vs H Q E h => ?_) (fun cdv A outer sh H vs Q E hr h => ?_)
  · obtain ⟨s, c, l, ns, cvs, cs, rfl, _⟩ := h
    rfl
  · obtain ⟨s, c, l, ns, cvs, cs, rfl, h0, hl, hc, al, c6, d4, k⟩ := h
    refine ⟨_, (pss_cons (ps_set (i := 2) sc_deep.nd rfl (Or.inl rfl) (pe_lst pa_nil))
(pss_cons (ps_for PassesOwn.never rfl (pi_list (pv 1)) (pg_tup (by rfl) (pgs_cons (pg_name (i := 3) sc_deep.nd rfl (Or.inl rfl)) (pgs_cons (pg_name (i := 4) sc_deep.nd rfl (Or.inl rfl)) (pgs_cons (pg_name (i := 5) sc_deep.nd rfl (Or.inl rfl)) (pgs_cons (pg_name (i := 6) sc_deep.nd rfl (Or.inl rfl)) (pgs_cons (pg_name (i := 7) sc_deep.nd rfl (Or.inl rfl)) pgs_nil))))))
(pss_cons (ps_set (i := 9) sc_deep.nd rfl (Or.inl rfl) (pe_c c_handed hr (by first | decide | assumption) rfl (pa_cons (pv 0) (pa_cons (pe_lc (own := [("_law_x", 8)]) (g := (gName 8)) (tt := tYes) rfl sc_deep.nd (pi_list (pv 6)) (blkOk_by (own := [("_law_x", 8)]) (N := ["_law_state", "_law_calls", "_law_found", "_law_name", "_law_hand", "_law_moves", "_law_deeds_here", "_law_same_here", "_law_x", "_law_pairs", "_law_row"]) (sc := defScope s_deep) (by decide +kernel)) (fun _ _ _ _ _ => (pg_name (i := 8) sc_deep.nd rfl (Or.inl rfl))) (fun _ _ _ _ _ => pts_nil) (fun _ _ _ _ _ => (pe_c c_handed hr (by first | decide | assumption) rfl (pa_cons (pv 0) (pa_cons (pv 8) pa_nil))))) pa_nil))))
(pss_cons (ps_set (i := 10) sc_deep.nd rfl (Or.inl rfl) (pe_tup (pa_cons (pv 3) (pa_cons (pv 4) (pa_cons (pe_c c_handed hr (by first | decide | assumption) rfl (pa_cons (pv 0) (pa_cons (pv 5) pa_nil))) (pa_cons (pv 9) (pa_cons (pe_c c_handed hr (by first | decide | assumption) rfl (pa_cons (pv 0) (pa_cons (pv 7) pa_nil))) pa_nil)))))))
(pss_one (ps_expr (pe_bm PySem.F.plainAttrs_list PySem.F.slot_list_append PySem.F.type_list_append mt_append (pv 2) (pa_cons (pe_c c_handed hr (by first | decide | assumption) rfl (pa_cons (pv 0) (pa_cons (pv 10) pa_nil))) pa_nil)))))))
(pss_one (ps_ret (pe_c c_handed hr (by first | decide | assumption) rfl (pa_cons (pv 0) (pa_cons (pv 2) pa_nil))))))), ?_⟩
    refine ⟨by show 0 ≤ sizeLine; decide, fun fo hfo => ?_⟩
    obtain ⟨fs_, fc_⟩ := h0.ne hfo
    refine ⟨_, rfl, l, rfl, ⟨cvs, SqL.of (off_same _ _ ((same_off (s := s) (same_new (Same.refl H) hfo)) _ _ hc))⟩, ?_⟩
    refine for_list (K := K) (a := l) (xs := cvs) (fun i σ H2 => Col (CdP K) s c ns H fo cs i H2 ∧ ∃ x3 x4 x5 x6 x7 x8 x9 x10, σ = [some (.ref s), some (.ref l), some (.ref fo), x3, x4, x5, x6, x7, x8, x9, x10])
      ⟨Col.init h0 hfo, _, _, _, _, _, _, _, _, rfl⟩ (fun i σ H2 _ h => SqL.of (off_same _ _ (h.1.1.off _ _ hc))) ?_ ?_
    · rintro i v σ H2 hv ⟨col, x3, x4, x5, x6, x7, x8, x9, x10, rfl⟩
      obtain ⟨cd, hcd, hcl⟩ := al.get hv
      have e2 := col.1
      have h2 := col.2.1
      obtain ⟨m, d, sm, ds, ⟨ra, rfl, t1⟩, ⟨ma, rfl, u2⟩, ⟨da, rfl, u3⟩, u4, ⟨sa, rfl, u5⟩⟩ := hcl.keep e2.off
      refine ⟨ra, _, rfl, same_t off_same t1, rfl, _, _, rfl, _, _, rfl, _, _, rfl, _, _, rfl, _, _, rfl, rfl, ?_⟩
      -- the deeds
      refine ⟨_, rfl, _, rfl, da, rfl, ⟨ds, SqL.of (off_same _ _ u3)⟩, fun D hD => ?_⟩
      obtain ⟨Ds, Dc⟩ := h2.ne hD
      refine lc_it (walk_list (K := K) (a := da) (xs := ds)) (fun j H3 => Col (DeH K) s c ns H2 D cd.deeds j H3) (Col.init h2 hD) (fun j H3 _ h => SqL.of (off_same _ _ (h.1.off _ _ u3))) ?_ ?_
      · rintro j x H3' H3 hj col3 ⟨rfl, hx⟩
        obtain ⟨dd, hdd, ⟨pa, rfl, pt⟩⟩ := u4.get hx
        have pt3 := same_t col3.1.off pt
        refine ⟨rfl, ?_⟩
        refine ⟨_, rfl, _, rfl, ?_⟩
        dsimp only [tNil, List.append_nil]
        refine rd_handed0 (f := id) (ys := DeV dd) col3.2.1 hl (.inr (by rw [List.map_id]; exact pt3)) fun v4 M4 H4 e4 h4 r4 nd4 fr4 hd4 => ?_
        obtain ⟨ws, dw, wl, col4⟩ := col3.step deh_ok hD Ds Dc hdd e4 h4 r4 fr4 nd4 hd4
        have d4' := d4 cd (List.mem_of_getElem? hcd)
        exact ⟨ws, dw, Nat.lt_of_le_of_lt (by rw [wl, List.length_take]; omega : _ ≤ 4) (by decide), col4⟩
      · rintro H3 ⟨e3, h3, ws, L, dw, fr, nd, hd, al3⟩
        rw [show ds.length = cd.deeds.length from u4.1, List.take_length] at al3
        have nd' := (List.nodup_cons.mp nd).2
        dsimp only [tNil, List.append_nil]
        refine rd_handed deh_ok h3 hl (.inl (SqL.of ((off_ne Ds).trans dw))) (al3.mono fun _ _ _ r => deh_ok.keep off_same r) nd' hd fun v9 M9 H4 e4 h4 r9 nd9 fr9 hd9 => ?_
        have e34 := e3.trans e4
        -- the row
        refine ⟨_, rfl, _, rfl, _, rfl, _, rfl, ?_⟩
        dsimp only [tNil, List.append_nil]
        refine rd_handed0 (f := V.int) h4 hl (.inl (SqL.of (e34.off _ _ u2))) fun vm Mm H5 e5 h5 rm ndm frm hdm => ?_
        have e35 := e34.trans e5
        refine ⟨_, rfl, _, rfl, _, rfl, ?_⟩
        dsimp only [tNil, List.append_nil]
        refine rd_handed0 (f := V.str) h5 hl (.inl (SqL.of (e35.off _ _ u5))) fun vt Mt H6 e6 h6 rt ndt frt hdt => ?_
        refine ⟨by show 5 ≤ sizeLine; decide, fun p hp => ?_⟩
        have e67 : Same H6 (upd H6 p (.tup [.str cd.nm, .str cd.hand, vm, v9, vt])) := same_new (Same.refl H6) hp
        have z7 : upd H6 p (.tup [.str cd.nm, .str cd.hand, vm, v9, vt]) p = some (.tup [.str cd.nm, .str cd.hand, vm, v9, vt]) := upd_same
        have p7s := (h6.ne hp).1
        revert e67 z7
        generalize upd H6 p (.tup [.str cd.nm, .str cd.hand, vm, v9, vt]) = H7
        intro e67 z7
        have h7 := h6.keep e67
        have e37 : SameX s H3 H7 := ((e4.trans e5).trans e6).trans (same_sx e67)
        have e27 : SameX s H2 H7 := e3.trans e37
        obtain ⟨_, _, ws0, L0, dw0, _⟩ := id col
        have dw7 := e27 _ _ dw0 fs_
        refine ⟨_, rfl, .inl ⟨rfl, ws0, SqL.of dw7⟩, _, rfl, _, rfl, ?_⟩
        dsimp only [tNil, List.append_nil]
        obtain ⟨zs4, hs4⟩ := h4.at
        obtain ⟨zs5, hs5⟩ := h5.at
        obtain ⟨zs6, hs6⟩ := h6.at
        have hd95 := sx_held e5 hs5 hd9
        have hdm6 := sx_held e6 hs6 hdm
        have ndRow := nodup3 ndm nd9 ndt hd9 frm hdm hd95 frt
        have hdRow : Held (Mm ++ ((M9 ++ L) ++ Mt)) H7 := held_same e67 (held_app hdm6 (held_app (sx_held e6 hs6 hd95) hdt))
        refine rd_handed rr_ok (ys := rowOf cd) (xs := [.str cd.nm, .str cd.hand, vm, v9, vt]) h7 hl (.inr (SqT.of ((off_ne p7s).trans z7)))
          (⟨[], _, rfl, ⟨rfl, prim_str _, rfl⟩, [], _, rfl, ⟨rfl, prim_str _, rfl⟩, Mm, _, rfl, (ho_ok (rf_ok V.int)).keep (e6.off.trans (same_off e67)) rm, M9 ++ L, Mt, rfl, (ho_ok deh_ok).keep ((e5.off.trans e6.off).trans (same_off e67)) r9, Mt, [], (List.append_nil _).symm, (ho_ok (rf_ok V.str)).keep (same_off e67) rt, rfl⟩)
          ndRow hdRow fun vr Mr H8 e8 h8 rr8 ndr frr hdr => ?_
        have fr2 : Fresh H2 (Mr ++ (Mm ++ ((M9 ++ L) ++ Mt))) :=
          fresh_app (fresh_back e27 h7 frr) (fresh_app (fresh_back (e3.trans e4) h4 frm) (fresh_app (fresh_app (fresh_back e3 h3 fr9) fr) (fresh_back ((e3.trans e4).trans e5) h5 frt)))
        obtain ⟨ws, dw8, wl, col'⟩ := col.step cdp_ok hfo fs_ fc_ hcd (e27.trans e8) h8 rr8 fr2 ndr hdr
        exact ⟨fo, ws, _, rfl, rfl, dw8, Nat.lt_of_le_of_lt (by rw [wl, List.length_take]; omega : _ ≤ 6) (by decide), col', _, _, _, _, _, _, _, _, rfl⟩
    · rintro σ H2 ⟨⟨e2, h2, ws, L, dw, fr, nd, hd, al2⟩, x3, x4, x5, x6, x7, x8, x9, x10, rfl⟩
      rw [show cvs.length = cs.length from al.1, List.take_length] at al2
      refine ⟨_, rfl, _, rfl, ?_⟩
      dsimp only [tNil, List.append_nil]
      refine rd_handed cdp_ok h2 hl (.inl (SqL.of ((off_ne fs_).trans dw))) (al2.mono fun _ _ _ r => cdp_ok.keep off_same r) (List.nodup_cons.mp nd).2 hd fun v9 M9 H4 e4 h4 r9 nd9 fr9 hd9 => ?_
      refine k v9 (M9 ++ L) H4 (e2.trans e4) h4 r9 (fun b hb => ?_) nd9 hd9
      rcases List.mem_append.mp hb with hb | hb
      · exact noneX e2 (h2.ne (fr9 b hb)).1 (fr9 b hb)
      · exact fr b hb
end
end MK

set_option Elab.async false
set_option linter.all false
set_option autoImplicit false
set_option maxRecDepth 100000
set_option maxHeartbeats 4000000
namespace MK
open PySem PySem.Spec PyProof.Rows L2
local macro_rules | `(tactic| walk_at "x") => `(tactic| dsimp only [tSeq, tAsg, tRet, tDrop, tLst, tTup, tCons, tOp, tUn, tIfS])
/-! ### a kind tells its parts -/
abbrev s_is_told : Stmt := topS 71
theorem sc_is_told : FnScope ["_law_p", "_law_kind_here", "_law_row", "_law_calls", "_law_names", "_law_name", "_law_found"] ["_law_p", "_law_kind_here"] (defScope s_is_told) := ⟨rfl, rfl, rfl, by decide +kernel, rfl, by decide +kernel, by decide +kernel⟩
theorem cdw_ok {K : PySem.W.Frag} : RelOk (fun H v (c : CD) L => CdW K H v c L) where
  keep := fun e h => h.keep e
  off := fun {H d ys x y L} hd hn h => by
    obtain ⟨ra, am, ad, as, ds, h0, h1, h2, h3, h4, h5, rfl⟩ := h
    have ne : ∀ b ∈ [am, ad, as], b ≠ d := fun b hb e => hn (e ▸ hb)
    have rn : ra ≠ d := fun e => by rw [e, hd] at h1; cases h1
    exact ⟨ra, am, ad, as, ds, h0, (off_ne rn).trans h1, (off_ne (ne am (by simp))).trans h2, (off_ne (ne ad (by simp))).trans h3, h4.mono fun _ _ h => Tu.offL h hd, (off_ne (ne as (by simp))).trans h5, rfl⟩
/-- what a loop has collected in the list at D, without draws -/
def ColS {α : Type} (R : RelH α) (s : Addr) (H : Hp) (D : Addr) (ys : List α) (i : Nat) (H2 : Hp) : Prop := Same H H2 ∧ ∃ ws L, H2 D = some (.lst ws) ∧ Fresh H L ∧ (D :: L).Nodup ∧ Held L H2 ∧ AlL (R (Off D (Off s H2))) ws (ys.take i) L
theorem ColS.init {α : Type} {R : RelH α} {s D : Addr} {H : Hp} {ys : List α} (hD : H D = none) : ColS R s H D ys 0 (upd H D (.lst [])) :=
  ⟨same_new (Same.refl H) hD, [], [], upd_same, nofun, by simp, nofun, rfl⟩
theorem ColS.step {α : Type} {R : RelH α} (kR : RelOk R) {s D : Addr} {H H2 H4 : Hp} {ys : List α} {i : Nat} {y : α} {v : V} {L4 : List Addr} (q : ColS R s H D ys i H2) (hD : H D = none) (Ds : D ≠ s) (hy : ys[i]? = some y) (e4 : Same H2 H4) (r4 : R (Off s H4) v y L4)
    (fr4 : Fresh H2 L4) (nd4 : L4.Nodup) (hd4 : Held L4 H4) : ∃ ws, H4 D = some (.lst ws) ∧ ws.length = (ys.take i).length ∧ ColS R s H D ys (i + 1) (upd H4 D (.lst (ws ++ [v]))) := by
  obtain ⟨e2, ws, L, d2, fr, nd, hd, al2⟩ := q
  have d4 := e4 _ _ d2
  have nD4 : D ∉ L4 := fun z => by have := fr4 D z; rw [d2] at this; cases this
  have hdD : Held (D :: L) H2 := fun b hb => by
    rcases List.mem_cons.mp hb with rfl | hb
    · rw [d2]; exact nofun
    · exact hd b hb
  have up : ∀ {b : Addr}, H4 b ≠ none → upd H4 D (.lst (ws ++ [v])) b ≠ none := fun {b} h => by
    by_cases z : b = D
    · rw [z, upd_same]; exact nofun
    · rw [upd_ne z]; exact h
  refine ⟨ws, d4, al2.len, fun b o hb => ?_, ws ++ [v], L ++ L4, upd_same, ?_, ?_, ?_, ?_⟩
  · rw [upd_ne (ne_of_none hb hD)]
    exact e4 _ _ (e2 _ _ hb)
  · intro b hb
    rcases List.mem_append.mp hb with hb | hb
    · exact fr b hb
    · exact none_of e2 (fr4 b hb)
  · rw [← List.cons_append]
    exact nodup_app nd nd4 hdD fr4
  · intro b hb
    rcases List.mem_append.mp hb with hb | hb
    · exact up (held_same e4 hd b hb)
    · exact up (hd4 b hb)
  · rw [off_upd Ds, off_put, List.take_succ, hy]
    exact (al2.mono fun _ _ _ r => kR.keep (same_off (same_off e4)) r).snoc (kR.off ((off_ne Ds).trans d4) nD4 r4)
theorem cdw_held {K : PySem.W.Frag} {H : Hp} {s : Addr} {v : V} {c : CD} {L : List Addr} (h : CdW K (Off s H) v c L) : Held L H := by
  obtain ⟨ra, am, ad, as, ds, _, _, g2, g3, _, g5, rfl⟩ := h
  intro b hb
  simp only [List.mem_cons, List.not_mem_nil, or_false] at hb
  rcases hb with rfl | rfl | rfl
  · rw [off_same _ _ g2]; exact nofun
  · rw [off_same _ _ g3]; exact nofun
  · rw [off_same _ _ g5]; exact nofun
/-! ### what is the same -/
theorem sm_flat {K : PySem.W.Frag} {H : Hp} {x : V} (h : Prim x) : ∀ n, Sm K H n x x
  | 0 => .inl ⟨rfl, h⟩
  | _ + 1 => .inl (.inl ⟨rfl, h⟩)
theorem sm_lst {K : PySem.W.Frag} {H : Hp} {n : Nat} {a b : Addr} {xs ys : List V} (ha : H a = some (.lst xs)) (hb : H b = some (.lst ys)) (hl : xs.length = ys.length) (hz : xs.length < 100000) (h : ∀ (i : Nat) x y, xs[i]? = some x → ys[i]? = some y → Sm K H n x y) : Sm K H (n + 1) (.ref a) (.ref b) :=
  .inr ⟨a, b, xs, ys, rfl, rfl, .inl ⟨SqL.of ha, SqL.of hb⟩, hl, hz, h⟩
theorem sm_tup {K : PySem.W.Frag} {H : Hp} {n : Nat} {x y : V} {xs ys : List V} (ha : Tu K H x xs) (hb : Tu K H y ys) (hl : xs.length = ys.length) (hz : xs.length < 100000) (h : ∀ (i : Nat) x y, xs[i]? = some x → ys[i]? = some y → Sm K H n x y) : Sm K H (n + 1) x y := by
  obtain ⟨a, rfl, ha⟩ := ha
  obtain ⟨b, rfl, hb⟩ := hb
  exact .inr ⟨a, b, xs, ys, rfl, rfl, .inr ⟨ha, hb⟩, hl, hz, h⟩
theorem sm_self {K : PySem.W.Frag} {H : Hp} {n : Nat} {xs : List V} (h : ∀ x ∈ xs, Prim x) : ∀ (i : Nat) x y, xs[i]? = some x → xs[i]? = some y → Sm K H n x y := fun i x y h1 h2 => by
  rw [h1] at h2
  cases h2
  exact sm_flat (h _ (List.mem_of_getElem? h1)) n
theorem sm_fd {K : PySem.W.Frag} {H : Hp} {n : Nat} {x y : V} {f : FD} (h1 : FdT K H x f) (h2 : FdT K H y f) : Sm K H (n + 1) x y :=
  sm_tup h1 h2 rfl (by show 3 < 100000; decide) (sm_self fun x hx => by
    simp only [FdV, List.mem_cons, List.not_mem_nil, or_false] at hx
    rcases hx with rfl | rfl | rfl
    · exact prim_str _
    · exact prim_str _
    · exact prim_bl _)
theorem sm_de {K : PySem.W.Frag} {H : Hp} {n : Nat} {x y : V} {d : Str × Str} (h1 : DeT K H x d) (h2 : DeT K H y d) : Sm K H (n + 1) x y :=
  sm_tup h1 h2 rfl (by show 2 < 100000; decide) (sm_self fun x hx => by
    simp only [DeV, List.mem_cons, List.not_mem_nil, or_false] at hx
    rcases hx with rfl | rfl <;> exact prim_str _)
theorem sm_al {K : PySem.W.Frag} {H : Hp} {n : Nat} {α : Type} {R S : V → α → Prop} {a b : Addr} {xs ys : List V} {zs : List α} (ha : H a = some (.lst xs)) (hb : H b = some (.lst ys)) (l1 : Al R xs zs) (l2 : Al S ys zs) (hz : zs.length < 100000) (f : ∀ x y z, R x z → S y z → Sm K H n x y) : Sm K H (n + 1) (.ref a) (.ref b) :=
  sm_lst ha hb (l1.1.trans l2.1.symm) (by rw [l1.1]; exact hz) fun i x y h1 h2 => by
    obtain ⟨z, hz1, r⟩ := l1.get h1
    exact f x y z r (l2.2 i y z h2 hz1)
theorem sm_cd {K : PySem.W.Frag} {H : Hp} {n : Nat} {x y : V} {c : CD} (h1 : CdL K H x c) (h2 : CdL K H y c) (hm : c.moves.length < 1000) (hd : c.deeds.length < 1000) (hs : c.same.length < 1000) : Sm K H (n + 3) x y := by
  obtain ⟨m, d, s, ds, t1, ⟨ma, rfl, t2⟩, ⟨da, rfl, t3⟩, t4, ⟨sa, rfl, t5⟩⟩ := h1
  obtain ⟨m', d', s', ds', g1, ⟨mb, rfl, g2⟩, ⟨db, rfl, g3⟩, g4, ⟨sb, rfl, g5⟩⟩ := h2
  refine sm_tup t1 g1 rfl (by show 5 < 100000; decide) fun i x y h1 h2 => ?_
  match i, h1, h2 with
  | 0, h1, h2 => cases h1; cases h2; exact sm_flat (prim_str _) _
  | 1, h1, h2 => cases h1; cases h2; exact sm_flat (prim_str _) _
  | 2, h1, h2 =>
    cases h1; cases h2
    exact sm_lst t2 g2 rfl (by rw [List.length_map]; omega) (sm_self fun x hx => by obtain ⟨z, _, rfl⟩ := List.mem_map.mp hx; exact prim_int z)
  | 3, h1, h2 => cases h1; cases h2; exact sm_al t3 g3 t4 g4 (by omega) fun _ _ _ r1 r2 => sm_de r1 r2
  | 4, h1, h2 =>
    cases h1; cases h2
    exact sm_lst t5 g5 rfl (by rw [List.length_map]; omega) (sm_self fun x hx => by obtain ⟨z, _, rfl⟩ := List.mem_map.mp hx; exact prim_str z)
  | i + 5, h1, h2 => cases h1
structure KM (P : Program) (w : World) (K : PySem.W.Frag) (mg : Str → Option Value) (base : Heap) (KC CU f1 f2 f3 f4 f5 f6 f7 : Addr) (d1 d2 d3 d4 d5 d6 d7 : FuncData) : Prop where
  fields : Meth K KC "fields" f1 ∧ FnOk P w K mg base CX0 1 f1 d1 ["self"] (spKFields K KC) ∧ Binds K d1 ["self"] []
  calls : Meth K KC "calls" f2 ∧ FnOk P w K mg base CX0 2 f2 d2 ["self"] (spKCalls K KC) ∧ Binds K d2 ["self"] []
  names : Meth K KC "names" f3 ∧ FnOk P w K mg base CX0 1 f3 d3 ["self"] (spKNames K KC) ∧ Binds K d3 ["self"] []
  len : FnOk P w K mg base CX0 1 f4 d4 ["self"] (spKLen K KC) ∧ PySem.W.findIn K (.ref KC) "__len__" = some (some (.ref f4)) ∧ PySem.W.isFn K (.ref f4) = true ∧ Binds K d4 ["self"] []
  iter : FnS P w K mg base 1 f5 d5 ["self"] (spIter KC "table") ∧ PySem.W.findIn K (.ref KC) "__iter__" = some (some (.ref f5)) ∧ PySem.W.isFn K (.ref f5) = true ∧ Binds K d5 ["self"] []
  get : FnOk P w K mg base (L2.CX P w) 3 f6 d6 ["self", "at"] (spKGet K KC CU) ∧ PySem.W.findIn K (.ref KC) "__getitem__" = some (some (.ref f6)) ∧ PySem.W.fnIn K f6 = true ∧ PySem.W.isFn K (.ref f6) = true ∧ Binds K d6 ["self", "at"] []
  takes : Meth K KC "takes" f7 ∧ FnOk P w K mg base (L2.CX P w) 3 f7 d7 ["self", "name"] (spKTakes K KC CU) ∧ Binds K d7 ["self", "name"] []
def spIsTold (K : PySem.W.Frag) (KC : Addr) : Sp := fun vs H Q _ => ∃ (s pa : Addr) (v : V) (fs : List FD) (n : Nat) (cs : List CD), vs = [.ref pa, v] ∧ H s ≠ none ∧ PlanA K KC (Off s H) (.ref pa) fs n cs ∧ KdA K KC (Off s H) v fs n cs ∧ KdOk fs n cs ∧ ∀ H', Same H H' → Q (.bl true) H'
section
variable {P : Program} {w : World} {K : PySem.W.Frag} {mg : Str → Option Value} {base : Heap} {C : Cst} {KC CU f1 f2 f3 f4 f5 f6 f7 : Addr} {d1 d2 d3 d4 d5 d6 d7 : FuncData}
theorem ok_istold {f : Addr} {fd : FuncData} (F : DefX K mg "_law_is_told" s_is_told ["_law_p", "_law_kind_here"] f fd) (T : Txt K mg) (Z : KCls K KC) (M : KM P w K mg base KC CU f1 f2 f3 f4 f5 f6 f7 d1 d2 d3 d4 d5 d6 d7) (c_same : Cal P w K mg base CX0 6 "_law_same" (spSame K 5)) (c_as_call : Cal P w K mg base CX0 1 "_law_as_call" (spAsCall K)) (c_takes : Cal P w K mg base CX0 1 "_law_takes" (spLTakes K)) :
    Cal P w K mg base CX0 7 "_law_is_told" (spIsTold K KC) := by
  refine cal_mk F sc_is_told (fun vs H Q E h => ?_) (fun cdv A outer sh H vs Q E hr h => ?_)
  · obtain ⟨s, pa, v, fs, n, cs, rfl, _⟩ := h
    rfl
  · obtain ⟨s, pa, v, fs, n, cs, rfl, hs, pl, kd, ok, k⟩ := h
    refine ⟨_, (pss_cut (ps_setLc (i := 3) (own := [("_law_row", 2)]) (g := (gName 2)) (tt := tYes) rfl sc_is_told.nd rfl rfl (sw_true rfl rfl rfl (by decide +kernel)) (pi_list (pe_dget (hu_of hr) (pv 0) pe_str (fun _ _ => rfl))) (blkOk_by (own := [("_law_row", 2)]) (N := ["_law_p", "_law_kind_here", "_law_row", "_law_calls", "_law_names", "_law_name", "_law_found"]) (sc := defScope s_is_told) (by decide +kernel)) (fun _ _ _ _ _ => (pg_name (i := 2) sc_is_told.nd rfl (Or.inl rfl))) (fun _ _ _ _ _ => pts_nil) (fun _ _ _ _ _ => (pe_c c_as_call hr (by first | decide | assumption) rfl (pa_cons (pv 2) pa_nil))))
(pss_cut (ps_setLc (i := 4) (own := [("_law_row", 2)]) (g := (gName 2)) (tt := tYes) rfl sc_is_told.nd rfl rfl (sw_true rfl rfl rfl (by decide +kernel)) (pi_list (pe_dget (hu_of hr) (pv 0) pe_str (fun _ _ => rfl))) (blkOk_by (own := [("_law_row", 2)]) (N := ["_law_p", "_law_kind_here", "_law_row", "_law_calls", "_law_names", "_law_name", "_law_found"]) (sc := defScope s_is_told) (by decide +kernel)) (fun _ _ _ _ _ => (pg_name (i := 2) sc_is_told.nd rfl (Or.inl rfl))) (fun _ _ _ _ _ => pts_nil) (fun _ _ _ _ _ => (pe_ix (ix_tupK (K := K) rfl) (pv 2) pe_int (fun _ _ => rfl))))
(pss_cut (ps_set (i := 6) sc_is_told.nd rfl (Or.inl rfl) (pe_lst (pa_cons (pe_meth0 (pv 1) Z.cls M.fields.1 M.fields.2.1 (hr.mono (by decide)) M.fields.2.2 .nil pass0) (pa_cons (pe_meth0 (pv 1) Z.cls M.calls.1 M.calls.2.1 (hr.mono (by decide)) M.calls.2.2 .nil pass0) (pa_cons (pe_meth0 (pv 1) Z.cls M.names.1 M.names.2.1 (hr.mono (by decide)) M.names.2.2 .nil pass0) (pa_cons (pe_lock (pe_lc (own := [("_law_name", 5)]) (g := (gName 5)) (tt := tYes) rfl sc_is_told.nd (pi_own (pv 1) M.iter.1 M.iter.2.1 M.iter.2.2.1 M.iter.2.2.2 (hr.mono (by decide))) (blkOk_by (own := [("_law_name", 5)]) (N := ["_law_p", "_law_kind_here", "_law_row", "_law_calls", "_law_names", "_law_name", "_law_found"]) (sc := defScope s_is_told) (by decide +kernel)) (fun _ _ _ _ _ => (pg_name (i := 5) sc_is_told.nd rfl (Or.inl rfl))) (fun _ _ _ _ _ => pts_nil) (fun _ _ _ _ _ => (pv 5)))) (pa_cons (pe_fld (pv 1) rfl) (pa_cons (pe_callB (call_lenOwn M.len.1 M.len.2.1 M.len.2.2.1 M.len.2.2.2 (hr.mono (by decide))) (by rfl) T.len (by decide +kernel) (pa_cons (pv 1) pa_nil)) pa_nil))))))))
(pss_cons (ps_if (pt_not (pt_val (pe_c c_same hr (by first | decide | assumption) rfl (pa_cons (pv 6) (pa_cons (pe_lst (pa_cons (pe_dget (hu_of hr) (pv 0) pe_str (fun _ _ => rfl)) (pa_cons (pv 3) (pa_cons (pv 4) (pa_cons (pv 4) (pa_cons (pe_dget (hu_of hr) (pv 0) pe_str (fun _ _ => rfl)) (pa_cons (pe_callB call_len_seq (by rfl) T.len (by decide +kernel) (pa_cons (pv 4) pa_nil)) pa_nil))))))) pa_nil)))))
(pss_one (ps_ret pe_bl))
pss_nil)
(pss_cons (ps_if (pt_not (pt_val (pe_c c_same hr (by first | decide | assumption) rfl (pa_cons (pe_lc (own := [("_law_name", 5)]) (g := (gName 5)) (tt := tYes) rfl sc_is_told.nd (pi_list (pv 4)) (blkOk_by (own := [("_law_name", 5)]) (N := ["_law_p", "_law_kind_here", "_law_row", "_law_calls", "_law_names", "_law_name", "_law_found"]) (sc := defScope s_is_told) (by decide +kernel)) (fun _ _ _ _ _ => (pg_name (i := 5) sc_is_told.nd rfl (Or.inl rfl))) (fun _ _ _ _ _ => pts_nil) (fun _ _ _ _ _ => (pe_ixOwn (pv 1) (pv 5) M.get.1 M.get.2.1 M.get.2.2.1 M.get.2.2.2.1 M.get.2.2.2.2 (hr.mono (by decide)) passes_cx0 (fun _ _ => by with_unfolding_all rfl)))) (pa_cons (pv 3) pa_nil)))))
(pss_one (ps_ret pe_bl))
pss_nil)
(pss_one (ps_ret (pe_c c_same hr (by first | decide | assumption) rfl (pa_cons (pe_lc (own := [("_law_name", 5)]) (g := (gName 5)) (tt := tYes) rfl sc_is_told.nd (pi_list (pv 4)) (blkOk_by (own := [("_law_name", 5)]) (N := ["_law_p", "_law_kind_here", "_law_row", "_law_calls", "_law_names", "_law_name", "_law_found"]) (sc := defScope s_is_told) (by decide +kernel)) (fun _ _ _ _ _ => (pg_name (i := 5) sc_is_told.nd rfl (Or.inl rfl))) (fun _ _ _ _ _ => pts_nil) (fun _ _ _ _ _ => (pe_meth (pv 1) Z.cls M.takes.1 M.takes.2.1 (hr.mono (by decide)) M.takes.2.2 .nil passes_cx0 (pa_cons (pv 5) pa_nil)))) (pa_cons (pe_lc (own := [("_law_row", 2)]) (g := (gName 2)) (tt := tYes) rfl sc_is_told.nd (pi_list (pe_dget (hu_of hr) (pv 0) pe_str (fun _ _ => rfl))) (blkOk_by (own := [("_law_row", 2)]) (N := ["_law_p", "_law_kind_here", "_law_row", "_law_calls", "_law_names", "_law_name", "_law_found"]) (sc := defScope s_is_told) (by decide +kernel)) (fun _ _ _ _ _ => (pg_name (i := 2) sc_is_told.nd rfl (Or.inl rfl))) (fun _ _ _ _ _ => pts_nil) (fun _ _ _ _ _ => (pe_c c_takes hr (by first | decide | assumption) rfl (pa_cons (pv 2) pa_nil)))) pa_nil)))))))))), ?_⟩
    obtain ⟨_, l1, l2, kv, fvs, cvs, e0, p1, p2, p3, p4, p5, p6⟩ := pl
    cases e0
    have cl := ok.cle
    have fl := ok.fields.le
    have csz : ∀ c ∈ cs, c.moves.length < 1000 ∧ c.deeds.length < 1000 ∧ c.same.length < 1000 := fun c hc => by
      have o := ok.calls c hc
      have := ok.le
      have := o.deeds
      have l3 : c.same.length ≤ (fs.map (·.nm)).length := len_sub o.nd fun z hz => by
        obtain ⟨f, hf, e, _⟩ := o.same z hz
        exact e ▸ List.mem_map_of_mem hf
      rw [List.length_map] at l3
      refine ⟨by rw [o.len]; omega, by omega, by omega⟩
    -- the calls
    refine ⟨fun σ H1 => ∃ D1 ws, Same H H1 ∧ D1 ≠ s ∧ H1 D1 = some (.lst ws) ∧ Al (CdL K (Off s H1)) ws cs ∧ ∃ x2 x4 x5 x6, σ = [some (.ref pa), some v, x2, some (.ref D1), x4, x5, x6], ?_, ?_⟩
    · refine ⟨_, rfl, pa, .ref l2, rfl, DGet.k (k := .inr "calls") (off_same _ _ p1), l2, rfl, ⟨cvs, SqL.of (off_same _ _ p4)⟩, fun D hD => ?_⟩
      have Ds := ne_s hs (Same.refl H) hD
      refine lc_it (walk_list (K := K) (a := l2) (xs := cvs)) (fun i H2 => ColS (fun H v (c : CD) L => CdW K H v c L) s H D cs i H2) (ColS.init hD) (fun i H2 _ h => SqL.of (h.1 _ _ (off_same _ _ p4))) ?_ ?_
      · rintro i x H3 H2 hi col ⟨rfl, hx⟩
        obtain ⟨c, hc, hcl⟩ := p5.get hx
        refine ⟨rfl, ?_⟩
        refine ⟨_, rfl, s, x, c, rfl, kept_s hs col.1, hcl.keep (same_off col.1), fun r H4 L4 e4 r4 fr4 nd4 => ?_⟩
        obtain ⟨ws, dw, wl, col'⟩ := col.step cdw_ok hD Ds hc e4 r4 fr4 nd4 (cdw_held r4)
        exact ⟨ws, dw, Nat.lt_of_le_of_lt (by rw [wl, List.length_take]; omega : _ ≤ 6) (by decide), col'⟩
      · rintro H2 ⟨e2, ws, L, d2, fr, nd, hd, al2⟩
        rw [p5.1, List.take_length] at al2
        exact ⟨D, ws, e2, Ds, d2, al2.al fun _ _ _ r => CdL.keep off_same r.l, _, _, _, _, rfl⟩
    rintro σ H1 ⟨D1, ws1, e1, D1s, dw1, al1, x2, x4, x5, x6, rfl⟩
    -- the names
    refine ⟨fun σ H2 => ∃ D2, Same H1 H2 ∧ H2 D2 = some (.lst (cs.map fun c => V.str c.nm)) ∧ D2 ≠ s ∧ ∃ x2 x5 x6, σ = [some (.ref pa), some v, x2, some (.ref D1), some (.ref D2), x5, x6], ?_, ?_⟩
    · refine ⟨_, rfl, pa, .ref l2, rfl, DGet.k (k := .inr "calls") (e1 _ _ (off_same _ _ p1)), l2, rfl, ⟨cvs, SqL.of (e1 _ _ (off_same _ _ p4))⟩, fun D hD => ?_⟩
      refine lc_it (walk_list (K := K) (a := l2) (xs := cvs)) (fun i H2 => Same H1 H2 ∧ H2 D = some (.lst ((cs.take i).map fun c => V.str c.nm))) ⟨same_new (Same.refl H1) hD, upd_same⟩ (fun i H2 _ h => SqL.of (h.1 _ _ (e1 _ _ (off_same _ _ p4)))) ?_ ?_
      · rintro i x H3 H2 hi ⟨e2, d2⟩ ⟨rfl, hx⟩
        obtain ⟨c, hc, m, d, sm, ds, ⟨ra, rfl, t1⟩, _⟩ := p5.get hx
        refine ⟨rfl, ?_⟩
        refine ⟨_, rfl, ra, _, 0, .str c.nm, rfl, rfl, same_t ((off_same.trans e1).trans e2) t1, rfl, ?_⟩
        refine ⟨_, d2, ?_, fun b o hb => ?_, ?_⟩
        · rw [List.length_map, List.length_take]
          exact Nat.lt_of_le_of_lt (by omega : _ ≤ 6) (by decide)
        · rw [upd_ne (ne_of_none hb hD)]
          exact e2 _ _ hb
        · rw [upd_same, List.take_succ, hc, List.map_append]
          rfl
      · rintro H2 ⟨e2, d2⟩
        rw [p5.1, List.take_length] at d2
        exact ⟨D, e2, d2, ne_s (kept_s hs e1) (Same.refl H1) hD, _, _, _, rfl⟩
    rintro σ H2 ⟨D2, e2, dw2, D2s, x2', x5', x6', rfl⟩
    have e02 := e1.trans e2
    have hs2 := kept_s hs e02
    have kd2 := kd.keep (same_off (s := s) e02)
    obtain ⟨a, dx, so, sp, tb, t, st, tv, sv, rfl, k1, k2, k3, k4, k5, k6, k7, k8⟩ := id kd2
    have g1 := off_same _ _ k1
    -- what it tells
    refine ⟨fun σ H9 => ∃ pf lf lc ln D xs tvf, Same H2 H9 ∧ H9 pf = some (.lst [.ref lf, .ref lc, .ref ln, .ref D, .int n, .int cs.length]) ∧ H9 lf = some (.lst tvf) ∧ Al (FdT K (Off s H9)) tvf fs ∧ H9 lc = some (.lst xs) ∧ Al (CdL K (Off s H9)) xs cs ∧ H9 ln = some (.lst (cs.map fun c => V.str c.nm)) ∧ H9 D = some (.lst (cs.map fun c => V.str c.nm)) ∧
        ∃ x2 x5, σ = [some (.ref pa), some (.ref a), x2, some (.ref D1), some (.ref D2), x5, some (.ref pf)], ?_, ?_⟩
    · refine ⟨_, rfl, a, dx, _, rfl, g1, rfl, ?_⟩
      refine ⟨s, .ref a, fs, n, cs, rfl, hs2, kd2, fun lf tvf H3 e3 _ hlf alf => ?_⟩
      have kd3 := kd2.keep (same_off (s := s) e3)
      refine ⟨_, rfl, a, dx, _, rfl, e3 _ _ g1, rfl, ?_⟩
      refine ⟨s, .ref a, fs, n, cs, rfl, kept_s hs2 e3, kd3, cl, fun lc xs L H4 e4 _ _ hlc alc => ?_⟩
      have e24 := e3.trans e4
      have kd4 := kd2.keep (same_off (s := s) e24)
      refine ⟨_, rfl, a, dx, _, rfl, e24 _ _ g1, rfl, ?_⟩
      refine ⟨.ref a, fs, n, cs, rfl, kd4.keep off_same, fun ln H5 e5 _ hln => ?_⟩
      have e25 := e24.trans e5
      have t5 := e25 _ _ (off_same _ _ k8)
      -- iterating
      refine ⟨tb, _, t5, True.intro, fun od => ?_⟩
      have atb : a ≠ tb := fun e => by rw [e, off_same _ _ k8] at g1; cases g1
      refine ⟨_, rfl, a, dx, tb, _, od, _, rfl, (upd_ne atb).trans (e25 _ _ g1), rfl, upd_same, fun D hD => ?_⟩
      have Dt : D ≠ tb := fun e => by rw [e, upd_same] at hD; cases hD
      have tl : (tableV cs sv).length = cs.length := table_len k7.1
      refine lc_it walk_keys (fun i H6 => Same (upd H5 tb (.frz od (.dK (tableV cs sv)))) H6 ∧ H6 D = some (.lst ((cs.take i).map fun c => V.str c.nm))) ⟨same_new (Same.refl _) hD, upd_same⟩ (fun i H6 _ h => h.1 _ _ upd_same) ?_ ?_
      · rintro i x H7 H6 hi ⟨e6, d6⟩ ⟨rfl, kk, vv, hk, rfl⟩
        have hlt : i < cs.length := by rw [← tl]; exact hi
        obtain ⟨ci, hci, _⟩ := k7.get' (List.getElem?_eq_getElem hlt)
        have hk2 := table_at (List.getElem?_eq_getElem hlt) hci
        rw [hk] at hk2
        obtain ⟨rfl, rfl⟩ := Prod.mk.inj (Option.some.inj hk2)
        refine ⟨rfl, ?_⟩
        refine ⟨_, rfl, _, d6, ?_, fun b o hb => ?_, ?_⟩
        · rw [List.length_map, List.length_take]
          exact Nat.lt_of_le_of_lt (by omega : _ ≤ 6) (by decide)
        · rw [upd_ne (ne_of_none hb hD)]
          exact e6 _ _ hb
        · rw [upd_same, List.take_succ, List.getElem?_eq_getElem hlt, List.map_append]
          rfl
      · rintro H6 ⟨e6, d6⟩
        rw [tl, List.take_length] at d6
        refine ⟨e6 _ _ upd_same, ?_⟩
        have e56 : Same H5 (upd H6 tb (.dK (tableV cs sv))) := fun b o hb => by
          by_cases z : b = tb
          · rw [z, t5] at hb
            rw [z, upd_same]
            exact hb
          · rw [upd_ne z]
            exact e6 _ _ ((upd_ne z).trans hb)
        have d7 : upd H6 tb (.dK (tableV cs sv)) D = some (.lst (cs.map fun c => V.str c.nm)) := (upd_ne Dt).trans d6
        revert e56 d7
        generalize upd H6 tb (.dK (tableV cs sv)) = H8
        intro e58 d8
        have e28 := e25.trans e58
        refine ⟨_, rfl, a, KC, dx, _, .int n, rfl, e28 _ _ g1, Z.cls, Z.modes, rfl, ?_⟩
        refine ⟨_, rfl, a, dx, _, rfl, e28 _ _ g1, ?_⟩
        refine ⟨.ref a, fs, n, cs, rfl, (kd2.keep (same_off (s := s) e28)).keep off_same, cs.length, rfl, by omega, ?_⟩
        refine ⟨by show 6 ≤ sizeLine; decide, fun pf hpf => ?_⟩
        have e8 : Same H8 (upd H8 pf (.lst [.ref lf, .ref lc, .ref ln, .ref D, .int n, .int cs.length])) := same_new (Same.refl H8) hpf
        have e38 := (e4.trans e5).trans (e58.trans e8)
        have e48 := e5.trans (e58.trans e8)
        refine ⟨pf, lf, lc, ln, D, xs, tvf, e28.trans e8, upd_same, e38 _ _ hlf, alf.mono fun _ _ h => FdT.keep (same_off e38) h, e48 _ _ hlc, alc.al fun _ _ _ r => CdL.keep (same_off e48) r.l, (e58.trans e8) _ _ hln, e8 _ _ d8, _, _, rfl⟩
    rintro σ H9 ⟨pf, lf, lc, ln, D, xs, tvf, e9, q0, q1, q2, q3, q4, q5, q6, x2'', x5'', rfl⟩
    have e09 := e02.trans e9
    have e19 := e2.trans e9
    have hs9 := kept_s hs e09
    have kd9 := kd.keep (same_off (s := s) e09)
    have pa9 := e09 _ _ (off_same _ _ p1)
    have prS : ∀ x ∈ cs.map (fun c => V.str c.nm), Prim x := fun x hx => by
      obtain ⟨c, _, rfl⟩ := List.mem_map.mp hx
      exact prim_str _
    refine ⟨_, rfl, _, rfl, pa, .ref l1, rfl, DGet.k (k := .inr "fields") pa9, _, rfl, _, rfl, _, rfl, _, rfl, pa, .int n, rfl, DGet.k (k := .inr "modes") pa9, _, rfl, D2, _, rfl, .inl (SqL.of (e9 _ _ dw2)), by show 6 ≤ sizeLine; decide, fun pd hpd => ?_⟩
    have ea := same_new (Same.refl H9) hpd (o := .lst [.ref l1, .ref D1, .ref D2, .ref D2, .int n, .int (cs.map fun c => V.str c.nm).length])
    refine ⟨.ref pf, .ref pd, rfl, ?_, fun H10 e10 => ⟨true, rfl, iteF ?_⟩⟩
    · refine sm_lst (ea _ _ q0) upd_same rfl (by show 6 < 100000; decide) fun i x y h1 h2 => ?_
      match i, h1, h2 with
      | 0, h1, h2 =>
        cases h1; cases h2
        exact sm_al (ea _ _ q1) ((e09.trans ea) _ _ (off_same _ _ p2)) (q2.mono fun _ _ h => FdT.keep (off_same.trans ea) h) (p3.mono fun _ _ h => FdT.keep (off_same.trans (e09.trans ea)) h) (by omega) fun _ _ _ r1 r2 => sm_fd r1 r2
      | 1, h1, h2 =>
        cases h1; cases h2
        exact sm_lst (ea _ _ q3) ((e19.trans ea) _ _ dw1) (q4.1.trans al1.1.symm) (by rw [q4.1]; omega) fun i x y h1 h2 => by
          obtain ⟨c, hc, r⟩ := q4.get h1
          have z := csz c (List.mem_of_getElem? hc)
          exact sm_cd (n := 0) (r.keep (off_same.trans ea)) ((al1.2 i y c h2 hc).keep (off_same.trans (e19.trans ea))) z.1 z.2.1 z.2.2
      | 2, h1, h2 => cases h1; cases h2; exact sm_lst (ea _ _ q5) ((e9.trans ea) _ _ dw2) rfl (by rw [List.length_map]; omega) (sm_self prS)
      | 3, h1, h2 => cases h1; cases h2; exact sm_lst (ea _ _ q6) ((e9.trans ea) _ _ dw2) rfl (by rw [List.length_map]; omega) (sm_self prS)
      | 4, h1, h2 => cases h1; cases h2; exact sm_flat (prim_int _) _
      | 5, h1, h2 =>
        cases h1; cases h2
        rw [List.length_map]
        exact sm_flat (prim_int _) _
      | i + 6, h1, h2 => cases h1
    have ea10 := ea.trans e10
    have e0a := e09.trans ea10
    have e1a := e19.trans ea10
    have e2a := e9.trans ea10
    have hsa := kept_s hs e0a
    have ga := e2a _ _ g1
    -- each call
    refine ⟨_, rfl, D2, rfl, ⟨_, SqL.of (e2a _ _ dw2)⟩, fun D3 hD3 => ?_⟩
    have D3s := ne_s hsa (Same.refl H10) hD3
    refine lc_it (walk_list (K := K) (a := D2) (xs := cs.map fun c => V.str c.nm)) (fun i H11 => ColS (fun H v (c : CD) L => CdW K H v c L) s H10 D3 cs i H11) (ColS.init hD3) (fun i H11 _ h => SqL.of (h.1 _ _ (e2a _ _ dw2))) ?_ ?_
    · rintro i x H12 H11 hi col ⟨rfl, hx⟩
      rw [List.getElem?_map] at hx
      obtain ⟨c, hc, rfl⟩ := Option.map_eq_some_iff.mp hx
      refine ⟨rfl, ?_⟩
      refine ⟨_, rfl, _, rfl, a, dx, _, rfl, col.1 _ _ ga, ?_⟩
      refine ⟨s, .ref a, .str c.nm, fs, n, cs, rfl, kept_s hsa col.1, kd.keep (same_off (s := s) (e0a.trans col.1)), ok, .inr ⟨i, c, hc, rfl, fun r H13 L4 e4 r4 fr4 nd4 => ?_⟩⟩
      obtain ⟨ws, dw, wl, col'⟩ := col.step cdw_ok hD3 D3s hc e4 r4 fr4 nd4 (cdw_held r4)
      exact ⟨ws, dw, Nat.lt_of_le_of_lt (by rw [wl, List.length_take]; omega : _ ≤ 6) (by decide), col'⟩
    rintro H11 ⟨e11, ws3, L3, dw3, _, _, _, al3⟩
    rw [List.length_map, List.take_length] at al3
    have al3' : Al (CdL K H11) ws3 cs := al3.al fun _ _ _ r => CdL.keep (off_same.trans off_same) r.l
    have eb := e1a.trans e11
    refine ⟨_, rfl, .ref D3, .ref D1, rfl, ?_, fun H12 e12 => ⟨true, rfl, iteF ?_⟩⟩
    · exact sm_lst (n := 4) dw3 (eb _ _ dw1) (al3'.1.trans al1.1.symm) (by rw [al3'.1]; omega) fun i x y h1 h2 => by
        obtain ⟨c, hc, r⟩ := al3'.get h1
        have z := csz c (List.mem_of_getElem? hc)
        exact sm_cd (n := 1) r ((al1.2 i y c h2 hc).keep (off_same.trans eb)) z.1 z.2.1 z.2.2
    have e0c := (e0a.trans e11).trans e12
    have e2c := (e2a.trans e11).trans e12
    have hsc := kept_s hs e0c
    have gc := e2c _ _ g1
    -- whether they take words
    refine ⟨_, rfl, D2, rfl, ⟨_, SqL.of (e2c _ _ dw2)⟩, fun D4 hD4 => ?_⟩
    refine lc_it (walk_list (K := K) (a := D2) (xs := cs.map fun c => V.str c.nm)) (fun i H13 => Same H12 H13 ∧ H13 D4 = some (.lst ((cs.take i).map fun c => V.bl (takesB c)))) ⟨same_new (Same.refl H12) hD4, upd_same⟩ (fun i H13 _ h => SqL.of (h.1 _ _ (e2c _ _ dw2))) ?_ ?_
    · rintro i x H14 H13 hi ⟨e13, d13⟩ ⟨rfl, hx⟩
      rw [List.getElem?_map] at hx
      obtain ⟨c, hc, rfl⟩ := Option.map_eq_some_iff.mp hx
      refine ⟨rfl, ?_⟩
      refine ⟨_, rfl, a, dx, _, rfl, e13 _ _ gc, rfl, _, rfl, ?_⟩
      refine ⟨s, .ref a, .str c.nm, fs, n, cs, rfl, kept_s hsc e13, kd.keep (same_off (s := s) (e0c.trans e13)), ok, .inr ⟨i, c, hc, rfl, fun H15 e15 => ?_⟩⟩
      refine ⟨_, e15 _ _ d13, ?_, fun b o hb => ?_, ?_⟩
      · rw [List.length_map, List.length_take]
        exact Nat.lt_of_le_of_lt (by omega : _ ≤ 6) (by decide)
      · rw [upd_ne (ne_of_none hb hD4)]
        exact e15 _ _ (e13 _ _ hb)
      · rw [upd_same, List.take_succ, hc, List.map_append]
        rfl
    rintro H13 ⟨e13, d13⟩
    rw [List.length_map, List.take_length] at d13
    have e0d := e0c.trans e13
    refine ⟨_, rfl, pa, .ref l2, rfl, DGet.k (k := .inr "calls") (e0d _ _ (off_same _ _ p1)), l2, rfl, ⟨cvs, SqL.of (e0d _ _ (off_same _ _ p4))⟩, fun D5 hD5 => ?_⟩
    refine lc_it (walk_list (K := K) (a := l2) (xs := cvs)) (fun i H14 => Same H13 H14 ∧ H14 D5 = some (.lst ((cs.take i).map fun c => V.bl (takesB c)))) ⟨same_new (Same.refl H13) hD5, upd_same⟩ (fun i H14 _ h => SqL.of (h.1 _ _ (e0d _ _ (off_same _ _ p4)))) ?_ ?_
    · rintro i x H15 H14 hi ⟨e14, d14⟩ ⟨rfl, hx⟩
      obtain ⟨c, hc, hcl⟩ := p5.get hx
      refine ⟨rfl, ?_⟩
      refine ⟨_, rfl, x, c, rfl, hcl.keep (off_same.trans (e0d.trans e14)), (ok.calls c (List.mem_of_getElem? hc)).deeds, fun H16 e16 => ?_⟩
      refine ⟨_, e16 _ _ d14, ?_, fun b o hb => ?_, ?_⟩
      · rw [List.length_map, List.length_take]
        exact Nat.lt_of_le_of_lt (by omega : _ ≤ 6) (by decide)
      · rw [upd_ne (ne_of_none hb hD5)]
        exact e16 _ _ (e14 _ _ hb)
      · rw [upd_same, List.take_succ, hc, List.map_append]
        rfl
    rintro H14 ⟨e14, d14⟩
    rw [p5.1, List.take_length] at d14
    refine ⟨.ref D4, .ref D5, rfl, ?_, fun H15 e15 => k _ ((e0d.trans e14).trans e15)⟩
    exact sm_lst (n := 4) (e14 _ _ d13) d14 rfl (by rw [List.length_map]; omega) (sm_self fun x hx => by obtain ⟨c, _, rfl⟩ := List.mem_map.mp hx; exact prim_bl _)
end
end MK

set_option Elab.async false
set_option linter.all false
set_option autoImplicit false
set_option maxRecDepth 100000
set_option maxHeartbeats 4000000
namespace MK
open PySem PySem.Spec PyProof.Rows L2
local macro_rules | `(tactic| walk_at "x") => `(tactic| dsimp only [tSeq, tAsg, tRet, tDrop, tLst, tTup, tCons, tOp, tUn, tIfS])
/-! ### kinds with one thing otherwise -/
theorem map_set_same {α : Type} {f : CD → α} {cs : List CD} {i : Nat} {c c' : CD} (hi : cs[i]? = some c) (h : f c' = f c) : (cs.set i c').map f = cs.map f := by
  apply List.ext_getElem?
  intro j
  rw [List.getElem?_map, List.getElem?_map, List.getElem?_set]
  by_cases q : i = j
  · subst q
    rw [if_pos rfl, hi]
    have : i < cs.length := (List.getElem?_eq_some_iff.mp hi).1
    rw [if_pos this]
    show some (f c') = some (f c)
    rw [h]
  · rw [if_neg q]
theorem nodup_set {xs : List Str} {i : Nat} {z : Str} (nd : xs.Nodup) (h : z ∉ xs) : (xs.set i z).Nodup := by
  by_cases hi : i < xs.length
  · rw [List.set_eq_take_append_cons_drop, if_pos hi]
    have e := List.take_append_drop i xs
    have nd2 := nd
    rw [← e] at nd2
    have d := List.nodup_append.mp nd2
    have hd : (xs.drop (i + 1)).Nodup := nd.sublist (List.drop_sublist _ _)
    rw [List.nodup_append]
    refine ⟨d.1, List.nodup_cons.mpr ⟨fun m => h (List.mem_of_mem_drop m), hd⟩, fun a ha b hb e2 => ?_⟩
    subst e2
    rcases List.mem_cons.mp hb with rfl | hb
    · exact h (List.mem_of_mem_take ha)
    · refine d.2.2 a ha a ?_ rfl
      rw [List.drop_eq_getElem_cons hi]
      exact List.mem_cons_of_mem _ hb
  · rw [List.set_eq_of_length_le (by omega)]
    exact nd
theorem KdOk.set {fs : List FD} {n : Nat} {cs : List CD} {i : Nat} {c c' : CD} (ok : KdOk fs n cs) (hi : cs[i]? = some c) (h : CdOk fs n c') (hn : c'.nm = c.nm ∨ c'.nm ∉ cs.map (·.nm)) : KdOk fs n (cs.set i c') where
  fields := ok.fields
  pos := ok.pos
  le := ok.le
  cpos := by rw [List.length_set]; exact ok.cpos
  cle := by rw [List.length_set]; exact ok.cle
  calls := fun d hd => by
    rcases List.mem_or_eq_of_mem_set hd with h1 | rfl
    · exact ok.calls d h1
    · exact h
  nd := by
    rcases hn with h1 | h1
    · rw [map_set_same hi h1]
      exact ok.nd
    · rw [List.map_set]
      exact nodup_set ok.nd h1
theorem set_ne {cs : List CD} {i : Nat} {c c' : CD} (hi : cs[i]? = some c) (h : c' ≠ c) : cs ≠ cs.set i c' := fun e => by
  have : (cs.set i c')[i]? = some c' := by rw [List.getElem?_set_self ((List.getElem?_eq_some_iff.mp hi).1)]
  rw [← e, hi] at this
  exact h (Option.some.inj this).symm
theorem Al.set {α : Type} {R : V → α → Prop} {xs : List V} {ys : List α} {i : Nat} {x : V} {y : α} (h : Al R xs ys) (r : R x y) : Al R (xs.set i x) (ys.set i y) := by
  refine ⟨by rw [List.length_set, List.length_set, h.1], fun j a b h1 h2 => ?_⟩
  rw [List.getElem?_set] at h1 h2
  by_cases q : i = j
  · subst q
    rw [if_pos rfl] at h1 h2
    split at h1
    · cases h1
      split at h2
      · cases h2
        exact r
      · cases h2
    · cases h1
  · rw [if_neg q] at h1 h2
    exact h.2 j a b h1 h2
theorem Al.rev {α : Type} {R : V → α → Prop} {xs : List V} {ys : List α} (h : Al R xs ys) : Al R xs.reverse ys.reverse := by
  refine ⟨by rw [List.length_reverse, List.length_reverse, h.1], fun j a b h1 h2 => ?_⟩
  have hj : j < xs.length := by have := (List.getElem?_eq_some_iff.mp h1).1; rw [List.length_reverse] at this; exact this
  rw [List.getElem?_reverse hj] at h1
  rw [List.getElem?_reverse (by rw [← h.1]; exact hj), ← h.1] at h2
  exact h.2 _ a b h1 h2
theorem KdOk.rev {fs : List FD} {n : Nat} {cs : List CD} (ok : KdOk fs n cs) : KdOk fs n cs.reverse where
  fields := ok.fields
  pos := ok.pos
  le := ok.le
  cpos := by rw [List.length_reverse]; exact ok.cpos
  cle := by rw [List.length_reverse]; exact ok.cle
  calls := fun d hd => ok.calls d (List.mem_reverse.mp hd)
  nd := by rw [List.map_reverse]; exact (List.reverse_perm _).nodup_iff.mpr ok.nd
theorem CdOk.fields {fs gs : List FD} {n : Nat} {c : CD} (h : CdOk fs n c) (e : ∀ f ∈ fs, ∃ g ∈ gs, g.nm = f.nm ∧ g.many = f.many) : CdOk gs n c where
  word := h.word
  hand := h.hand
  len := h.len
  move := h.move
  deeds := h.deeds
  deed := fun d hd => by
    obtain ⟨f, hf, e1, e2⟩ := h.deed d hd
    obtain ⟨g, hg, e3, e4⟩ := e f hf
    exact ⟨g, hg, e3.trans e1, e4 ▸ e2⟩
  once := h.once
  same := fun x hx => by
    obtain ⟨f, hf, e1, e2⟩ := h.same x hx
    obtain ⟨g, hg, e3, e4⟩ := e f hf
    exact ⟨g, hg, e3.trans e1, e4.trans e2⟩
  self := h.self
  nd := h.nd
theorem KdOk.frev {fs : List FD} {n : Nat} {cs : List CD} (ok : KdOk fs n cs) : KdOk fs.reverse n cs where
  fields := ⟨by rw [List.length_reverse]; exact ok.fields.pos, by rw [List.length_reverse]; exact ok.fields.le, fun f hf => ok.fields.word f (List.mem_reverse.mp hf), by rw [List.map_reverse]; exact (List.reverse_perm _).nodup_iff.mpr ok.fields.nd⟩
  pos := ok.pos
  le := ok.le
  cpos := ok.cpos
  cle := ok.cle
  calls := fun c hc => (ok.calls c hc).fields fun f hf => ⟨f, List.mem_reverse.mpr hf, rfl, rfl⟩
  nd := ok.nd
theorem rev_ne {α β : Type} {f : α → β} {xs : List α} (nd : (xs.map f).Nodup) (h : 1 < xs.length) : xs ≠ xs.reverse := fun e => by
  have h0 : xs[0]? = xs.reverse[0]? := by rw [← e]
  rw [List.getElem?_reverse (by omega)] at h0
  have h1 : (xs.map f)[0]? = (xs.map f)[xs.length - 1 - 0]? := by rw [List.getElem?_map, List.getElem?_map, h0]
  have l : (xs.map f).length = xs.length := List.length_map _
  have := (List.getElem?_inj (by rw [l]; omega) nd).mp h1
  omega
theorem KdOk.f0 {f : FD} {fs : List FD} {n : Nat} {cs : List CD} (ok : KdOk (f :: fs) n cs) : KdOk ({ f with need := !f.need } :: fs) n cs where
  fields := ⟨ok.fields.pos, ok.fields.le, fun g hg => by
      rcases List.mem_cons.mp hg with rfl | hg
      · exact ok.fields.word f List.mem_cons_self
      · exact ok.fields.word g (List.mem_cons_of_mem _ hg), ok.fields.nd⟩
  pos := ok.pos
  le := ok.le
  cpos := ok.cpos
  cle := ok.cle
  calls := fun c hc => (ok.calls c hc).fields fun g hg => by
    rcases List.mem_cons.mp hg with rfl | hg
    · exact ⟨_, List.mem_cons_self, rfl, rfl⟩
    · exact ⟨g, List.mem_cons_of_mem _ hg, rfl, rfl⟩
  nd := ok.nd
theorem KdOk.zz {fs : List FD} {n : Nat} {cs : List CD} (ok : KdOk fs n cs) (h6 : cs.length < 6) (hz : ("zz" : Str) ∉ cs.map (·.nm)) : KdOk fs n (cs ++ [⟨"zz", "self", List.replicate n 0, [], []⟩]) where
  fields := ok.fields
  pos := ok.pos
  le := ok.le
  cpos := by rw [List.length_append]; exact Nat.le_trans ok.cpos (Nat.le_add_right _ _)
  cle := by rw [List.length_append]; exact h6
  calls := fun c hc => by
    rcases List.mem_append.mp hc with hc | hc
    · exact ok.calls c hc
    · rw [List.mem_singleton.mp hc]
      exact ⟨by show wordB ("zz" : Str) = true; decide +kernel, .inl rfl, List.length_replicate, fun m hm => by
        rw [(List.mem_replicate.mp hm).2]
        have := ok.pos
        exact ⟨by decide, by omega⟩, by show 0 ≤ 4; decide, nofun, List.nodup_nil, nofun, fun _ => rfl, List.nodup_nil⟩
  nd := by
    rw [List.map_append, List.nodup_append]
    refine ⟨ok.nd, by simp, fun a ha b hb e => ?_⟩
    rw [e, List.mem_singleton.mp hb] at ha
    exact hz ha
theorem KdOk.less {fs : List FD} {n : Nat} {cs : List CD} (ok : KdOk fs n cs) (h : 2 ≤ cs.length) : KdOk fs n cs.dropLast where
  fields := ok.fields
  pos := ok.pos
  le := ok.le
  cpos := by rw [List.length_dropLast]; omega
  cle := by rw [List.length_dropLast]; have := ok.cle; omega
  calls := fun c hc => ok.calls c ((List.dropLast_sublist _).mem hc)
  nd := by
    rw [List.map_dropLast]
    exact ok.nd.sublist (List.dropLast_sublist _)
def zName (z : Str) : Str := ("z" : Str) ++ cutS z (some 1) none
theorem z_word : ∀ z ∈ callNames ++ (["build"] : List Str), wordB (zName z) = true ∧ zName z ∉ callNames ++ (["build"] : List Str) ∧ (cutS z (some 1) none).length ≤ 10 ∧ z.length ≤ 10 := by decide +kernel
theorem ixn {n j : Nat} (h : j < n) : ixN n (j : Int) = some j := by
  unfold ixN
  rw [if_pos (by omega), if_pos (by omega)]
  simp
theorem cut_less (xs : List V) (h : 0 < xs.length) : cutV xs none (some (-1)) = xs.dropLast := by
  have e : HT.sIx xs.length xs.length (some (-1)) = xs.length - 1 := by
    show (if (-1 : Int) < 0 then ((-1 : Int) + (xs.length : Int)).toNat else min (-1 : Int).toNat xs.length) = xs.length - 1
    rw [if_pos (by decide)]
    omega
  unfold cutV
  rw [HT.sIx_none, e, List.drop_zero, Nat.sub_zero, List.dropLast_eq_take]
theorem al_less {α : Type} {R : V → α → Prop} {xs : List V} {ys : List α} (h : Al R xs ys) : Al R xs.dropLast ys.dropLast := by
  rw [List.dropLast_eq_take, List.dropLast_eq_take, h.1]
  exact h.take _
theorem eqv_nilL (xs : List PyData) : PyData.eqv (.list xs) (.list []) = xs.isEmpty := by
  cases xs <;> simp [PyData.eqv, PyData.eqvAll]
theorem shaped_ds {fs : List FD} {n : Nat} {c : CD} (fok : FsOk fs) (h : CdOk fs n c) : SeqAt.shaped (.list (c.deeds.map pdD)) = true := by
  have d : ∀ e ∈ c.deeds, PyData.canLay0 (pdD e) = true := fun e he => by
    obtain ⟨f, hf, e1, hd⟩ := h.deed e he
    have h2 := word_ok (fok.word f hf)
    rw [e1] at h2
    simp only [pdD, PyData.canLay0, PyData.canLayAll0, deed_ok hd, h2, Bool.and_true]
  have h1 : PyData.canLay0 (.list (c.deeds.map pdD)) = true := by
    unfold PyData.canLay0
    exact lay_map c.deeds d
  have h2 : PyData.depth (.list (c.deeds.map pdD)) ≤ 64 := by
    unfold PyData.depth
    have := depth_map (g := pdD) (d := 1) depth_d c.deeds
    omega
  unfold SeqAt.shaped
  rw [h1, decide_eq_true h2]
  rfl
theorem CdOk.less {fs : List FD} {n : Nat} {c : CD} (h : CdOk fs n c) : CdOk fs n { c with deeds := c.deeds.dropLast } where
  word := h.word
  hand := h.hand
  len := h.len
  move := h.move
  deeds := by
    show c.deeds.dropLast.length ≤ 4
    rw [List.length_dropLast]
    have := h.deeds
    omega
  deed := fun d hd => h.deed d ((List.dropLast_sublist _).mem hd)
  once := h.once.sublist (((List.dropLast_sublist _).filter _).map _)
  same := h.same
  self := h.self
  nd := h.nd
def nextHand (h : Str) : Str := if h = "self" then "new" else if h = "new" then "last" else "new"
def handKvs : List (Key × V) := [(.inr "self", .str "new"), (.inr "new", .str "last"), (.inr "last", .str "new")]
theorem hand_val {h : Str} (hh : h = "self" ∨ h = "new" ∨ h = "last") : valV handKvs (.inr h) = some (.str (nextHand h)) ∧ (nextHand h = "self" ∨ nextHand h = "new" ∨ nextHand h = "last") ∧ nextHand h ≠ h ∧ nextHand h ≠ "self" := by
  rcases hh with rfl | rfl | rfl <;> refine ⟨by decide +kernel, by decide +kernel, by decide +kernel, by decide +kernel⟩
def flip0 (i : Int) : Int := if i = -1 then 0 else -1
theorem CdOk.flip {fs : List FD} {n : Nat} {c : CD} {m0 : Int} {mr : List Int} (h : CdOk fs n c) (e : c.moves = m0 :: mr) (n1 : 1 ≤ n) : CdOk fs n { c with moves := flip0 m0 :: mr } where
  word := h.word
  hand := h.hand
  len := by
    have := h.len
    rw [e] at this
    exact this
  move := fun m hm => by
    rcases List.mem_cons.mp hm with rfl | hm
    · unfold flip0
      split
      · exact ⟨by decide, by omega⟩
      · exact ⟨by decide, by omega⟩
    · exact h.move m (by rw [e]; exact List.mem_cons_of_mem _ hm)
  deeds := h.deeds
  deed := h.deed
  once := h.once
  same := h.same
  self := h.self
  nd := h.nd
theorem flip_ne (i : Int) : flip0 i ≠ i := by
  unfold flip0
  split <;> omega
theorem rep_int : ∀ n : Nat, (List.replicate n [V.int 0]).flatten = (List.replicate n (0 : Int)).map V.int
  | 0 => rfl
  | n + 1 => by
    rw [List.replicate_succ, List.flatten_cons, rep_int n, List.replicate_succ]
    rfl
end MK

set_option Elab.async false
set_option linter.all false
set_option autoImplicit false
set_option maxRecDepth 100000
set_option maxHeartbeats 4000000
namespace MK
open PySem PySem.Spec PyProof.Rows L2
local macro_rules | `(tactic| walk_at "x") => `(tactic| dsimp only [tSeq, tAsg, tRet, tDrop, tLst, tTup, tCons, tOp, tUn, tIfS])
/-! ### a kind unlike one -/
abbrev s_unlike : Stmt := topS 72
theorem sc_unlike : FnScope ["_law_state", "_law_p", "_law_fields", "_law_calls", "_law_way", "_law_at", "_law_name", "_law_hand", "_law_moves", "_law_deeds_here", "_law_same_here"] ["_law_state", "_law_p"] (defScope s_unlike) := ⟨rfl, rfl, rfl, by decide +kernel, rfl, by decide +kernel, by decide +kernel⟩
def spUnlike (K : PySem.W.Frag) (KC : Addr) : Sp := fun vs H Q _ => ∃ (s c pa : Addr) (ns : List Int) (fs : List FD) (n : Nat) (cs : List CD), vs = [.ref s, .ref pa] ∧ StA H s c ns ∧ ns.length ≤ 63 ∧ PlanA K KC (Off s H) (.ref pa) fs n cs ∧ KdOk fs n cs ∧
  (∃ j, j < 6 ∧ cs.map (·.nm) = callNames.take j ++ (["build"] : List Str)) ∧ ∀ v H' fs' cs', SameX s H H' → StA H' s c ns → KdA K KC (Off s H') v fs' n cs' → KdOk fs' n cs' → ¬ (fs = fs' ∧ cs = cs') → Q v H'
section
variable {P : Program} {w : World} {K : PySem.W.Frag} {mg : Str → Option Value} {base : Heap} {C : Cst} {KC : Addr}
theorem ok_unlike {f : Addr} {fd : FuncData} (F : DefX K mg "_law_unlike" s_unlike ["_law_state", "_law_p"] f fd) (T : Txt K mg) (c_take : Cal P w K mg base CX0 2 "_law_take" spTake) (c_Kind : KMk P w K mg base KC) : Cal P w K mg base CX0 8 "_law_unlike" (spUnlike K KC) := by
  refine cal_mk F sc_unlike (fun vs H Q E h => ?_) (fun cdv A outer sh H vs Q E hr h => ?_)
  · obtain ⟨s, c, pa, ns, fs, n, cs, rfl, _⟩ := h
    rfl
  · obtain ⟨s, c, pa, ns, fs, n, cs, rfl, h0, hl, pl, ok, hnm, k⟩ := h
    refine ⟨_, (pss_cons (ps_par (i := 2) (j := 3) (by rfl) sc_unlike.nd rfl rfl (by decide) rfl rfl (pa_cons (pe_callTy call_list_of (by rfl) T.list (by decide +kernel) (pa_cons (pe_dget (hu_of hr) (pv 1) pe_str (fun _ _ => rfl)) pa_nil)) (pa_cons (pe_callTy call_list_of (by rfl) T.list (by decide +kernel) (pa_cons (pe_dget (hu_of hr) (pv 1) pe_str (fun _ _ => rfl)) pa_nil)) pa_nil)) (by rfl))
(pss_cons (ps_par (i := 4) (j := 5) (by rfl) sc_unlike.nd rfl rfl (by decide) rfl rfl (pa_cons (pe_c c_take hr (by first | decide | assumption) rfl (pa_cons (pv 0) (pa_cons pe_int pa_nil))) (pa_cons (pe_c c_take hr (by first | decide | assumption) rfl (pa_cons (pv 0) (pa_cons (pe_callB call_len_seq (by rfl) T.len (by decide +kernel) (pa_cons (pv 3) pa_nil)) pa_nil))) pa_nil)) (by rfl))
(pss_cons (ps_asg (pe_ix ix_list (pv 3) (pv 5) (fun _ _ => rfl)) (pg_tup (by rfl) (pgs_cons (pg_name (i := 6) sc_unlike.nd rfl (Or.inl rfl)) (pgs_cons (pg_name (i := 7) sc_unlike.nd rfl (Or.inl rfl)) (pgs_cons (pg_name (i := 8) sc_unlike.nd rfl (Or.inl rfl)) (pgs_cons (pg_name (i := 9) sc_unlike.nd rfl (Or.inl rfl)) (pgs_cons (pg_name (i := 10) sc_unlike.nd rfl (Or.inl rfl)) pgs_nil)))))))
(pss_cut (ps_if (pt_cmpR op_eq (pv 4) pe_int (nomark _))
(pss_one (ps_asg (pe_tup (pa_cons (pe_ix ix_tup (pe_ix ix_list (pv 2) pe_int (fun _ _ => rfl)) pe_int (fun _ _ => rfl)) (pa_cons (pe_ix ix_tup (pe_ix ix_list (pv 2) pe_int (fun _ _ => rfl)) pe_int (fun _ _ => rfl)) (pa_cons (pe_not (pe_ix ix_tup (pe_ix ix_list (pv 2) pe_int (fun _ _ => rfl)) pe_int (fun _ _ => rfl))) pa_nil)))) (pg_sub (pv 2) pe_int set_list)))
(pss_one (ps_if (pt_cmpR op_eq (pv 4) pe_int (nomark _))
(pss_one (ps_asg (pe_tup (pa_cons (pe_op op_add_str pe_str (pe_slice sl_str (pv 6) (po_some pe_int) po_none)) (pa_cons (pv 7) (pa_cons (pv 8) (pa_cons (pv 9) (pa_cons (pv 10) pa_nil)))))) (pg_sub (pv 3) (pv 5) set_list)))
(pss_one (ps_if (pt_cmpR op_eq (pv 4) pe_int (nomark _))
(pss_one (ps_asg (pe_tup (pa_cons (pv 6) (pa_cons (pv 7) (pa_cons (pe_op op_cat (pe_lst (pa_cons (pe_cut (pe_ifExp (pt_cmpR op_eq (pe_ix ix_list (pv 8) pe_int (fun _ _ => rfl)) (pe_un un_neg pe_int) (nomark _)) pe_int (pe_un un_neg pe_int))) pa_nil)) (pe_slice sl_list (pv 8) (po_some pe_int) po_none)) (pa_cons (pv 9) (pa_cons (pv 10) pa_nil)))))) (pg_sub (pv 3) (pv 5) set_list)))
(pss_one (ps_if (pt_cut (PW.pt (pw_and (pt_cmpR op_eq (pv 4) pe_int (nomark _)) (pw_and1 (pt_cmpR (op_neD hr.units) (pv 9) (pe_lst pa_nil) (nomark _))))))
(pss_one (ps_asg (pe_tup (pa_cons (pv 6) (pa_cons (pv 7) (pa_cons (pv 8) (pa_cons (pe_slice sl_list (pv 9) po_none (po_some (pe_un un_neg pe_int))) (pa_cons (pv 10) pa_nil)))))) (pg_sub (pv 3) (pv 5) set_list)))
(pss_one (ps_if (pt_cmpR op_eq (pv 4) pe_int (nomark _))
(pss_one (ps_asg (pe_tup (pa_cons (pv 6) (pa_cons (pe_dget (hu_of hr) (pe_disp (pps_cons pe_str pe_str (pps_cons pe_str pe_str (pps_cons pe_str pe_str pps_nil))) (by rfl) (by rfl) (fun z => by cases z) (by decide)) (pv 7) (fun _ _ => rfl)) (pa_cons (pv 8) (pa_cons (pv 9) (pa_cons (pv 10) pa_nil)))))) (pg_sub (pv 3) (pv 5) set_list)))
(pss_one (ps_if (pt_cut (PW.pt (pw_and (pt_cmpR op_eq (pv 4) pe_int (nomark _)) (pw_and1 (pt_cmpR op_gt (pe_callB call_len_seq (by rfl) T.len (by decide +kernel) (pa_cons (pv 3) pa_nil)) pe_int (nomark _))))))
(pss_one (ps_set (i := 3) sc_unlike.nd rfl (Or.inl rfl) (pe_revL (pv 3))))
(pss_one (ps_if (pt_cut (PW.pt (pw_and (pt_cmpR op_eq (pv 4) pe_int (nomark _)) (pw_and1 (pt_cmpR op_gt (pe_callB call_len_seq (by rfl) T.len (by decide +kernel) (pa_cons (pv 2) pa_nil)) pe_int (nomark _))))))
(pss_one (ps_set (i := 2) sc_unlike.nd rfl (Or.inl rfl) (pe_revL (pv 2))))
(pss_one (ps_set (i := 3) sc_unlike.nd rfl (Or.inl rfl) (pe_cut (pe_ifExp (pt_cmpR op_lt (pe_callB call_len_seq (by rfl) T.len (by decide +kernel) (pa_cons (pv 3) pa_nil)) pe_int (nomark _)) (pe_op op_cat (pv 3) (pe_lst (pa_cons (pe_tup (pa_cons pe_str (pa_cons pe_str (pa_cons (pe_op op_rep (pe_lst (pa_cons pe_int pa_nil)) (pe_dget (hu_of hr) (pv 1) pe_str (fun _ _ => rfl))) (pa_cons (pe_lst pa_nil) (pa_cons (pe_lst pa_nil) pa_nil)))))) pa_nil))) (pe_slice sl_list (pv 3) po_none (po_some (pe_un un_neg pe_int))))))))))))))))))))
(pss_one (ps_ret (pe_kind c_Kind hr (by first | decide | assumption) rfl (pa_cons (pv 2) (pa_cons (pv 3) pa_nil)) (pk_cons (pe_dget (hu_of hr) (pv 1) pe_str (fun _ _ => rfl)) pk_nil)))))))), ?_⟩
    obtain ⟨_, l1, l2, kv, fvs, cvs, e0, p1, p2, p3, p4, p5, p6⟩ := pl
    cases e0
    have cl := ok.cle
    have cp := ok.cpos
    have fp := ok.fields.pos
    have fl := ok.fields.le
    have q1 := off_same _ _ p1
    refine ⟨_, rfl, pa, .ref l1, rfl, DGet.k (k := .inr "fields") q1, l1, fvs, rfl, .inl (SqL.of (off_same _ _ p2)), fun fa hfa => ?_⟩
    have e1 := same_new (Same.refl H) hfa (o := .lst fvs)
    refine ⟨_, rfl, pa, .ref l2, rfl, DGet.k (k := .inr "calls") (e1 _ _ q1), l2, cvs, rfl, .inl (SqL.of (e1 _ _ (off_same _ _ p4))), fun ca hca => ⟨_, _, rfl, ?_⟩⟩
    have e2 := same_new e1 hca (o := .lst cvs)
    have h2 := h0.keep e2
    have Hca : H ca = none := none_of e1 hca
    have fc : fa ≠ ca := fun e => by rw [← e, upd_same] at hca; cases hca
    obtain ⟨fas, fac⟩ := h0.ne hfa
    obtain ⟨cas, cac⟩ := h0.ne Hca
    refine ⟨_, rfl, s, c, ns, 8, rfl, h2, hl, by decide, by decide, fun way H3 hw e3 h3 => ?_⟩
    have ca3 := e3 _ _ upd_same cas
    refine ⟨_, rfl, _, rfl, ca, cvs, rfl, .inl (SqL.of ca3), s, c, ns, (cvs.length : Int), rfl, h3, hl, by rw [p5.1]; omega, by rw [p5.1]; omega, fun at_ H4 ha e4 h4 => ⟨_, _, rfl, ?_⟩⟩
    have e04 : SameX s H H4 := ((same_sx e2).trans e3).trans e4
    have ca4 := e4 _ _ ca3 cas
    have fa4 : H4 fa = some (.lst fvs) := (e3.trans e4) _ _ ((upd_ne fc).trans upd_same) fas
    have pa4 : H4 pa = _ := off_same _ _ (e04.off _ _ p1)
    have hlt : at_ < cvs.length := by omega
    obtain ⟨v0, hv0⟩ : ∃ v0, cvs[at_]? = some v0 := ⟨_, List.getElem?_eq_getElem hlt⟩
    obtain ⟨cd, hcd, m, d, sm, ds, ⟨ra, rfl, t1⟩, ⟨ma, rfl, t2⟩, ⟨da, rfl, t3⟩, t4, ⟨sa, rfl, t5⟩⟩ := p5.get hv0
    have okc := ok.calls cd (List.mem_of_getElem? hcd)
    have o4 : Same (Off s H) H4 := e04.off.trans off_same
    refine ⟨_, rfl, _, rfl, ca, cvs, at_, .ref ra, rfl, rfl, SqL.of ca4, atI_nat hv0, ?_⟩
    refine ⟨ra, _, rfl, same_t o4 t1, rfl, _, _, rfl, _, _, rfl, _, _, rfl, _, _, rfl, _, _, rfl, rfl, ?_⟩
    refine ⟨fun σ H5 => ∃ (fa' ca' : Addr) (fvs' cvs' : List V) (fs' : List FD) (cs' : List CD), SameX s H H5 ∧ StA H5 s c ns ∧ Off s H5 fa' = some (.lst fvs') ∧ Al (FdT K (Off s H5)) fvs' fs' ∧ Off s H5 ca' = some (.lst cvs') ∧ Al (CdL K (Off s H5)) cvs' cs' ∧ KdOk fs' n cs' ∧ ¬ (fs = fs' ∧ cs = cs') ∧
        ∃ x4 x5 x6 x7 x8 x9 x10, σ = [some (.ref s), some (.ref pa), some (.ref fa'), some (.ref ca'), x4, x5, x6, x7, x8, x9, x10], ?_, ?_⟩
    · have Hfa : H fa = none := hfa
      have p3' : ∀ {H5 : Hp}, SameX s H H5 → Al (FdT K (Off s H5)) fvs fs := fun e => p3.mono fun _ _ h => FdT.keep e.off h
      have p5' : ∀ {H5 : Hp}, SameX s H H5 → Al (CdL K (Off s H5)) cvs cs := fun e => p5.mono fun _ _ h => CdL.keep e.off h
      have oc : ∀ {H5 : Hp}, Same H4 H5 → Same (Off s H) (Off ca (Off s H5)) := fun e => same_offN (e04.off.trans (same_off e)) (off_none Hca)
      -- one call exchanged
      have setc : ∀ (H5 : Hp) (q : Addr) (m' d' sm' : V) (ds' : List V) (cd' : CD) (x4 x5 x6 x7 x8 x9 x10 : Option V), Same H4 H5 → H5 q = some (.tup [.str cd'.nm, .str cd'.hand, m', d', sm']) → H4 q = none → Ls (Off ca (Off s H5)) m' (cd'.moves.map V.int) → Ls (Off ca (Off s H5)) d' ds' → Al (DeT K (Off ca (Off s H5))) ds' cd'.deeds → Ls (Off ca (Off s H5)) sm' (cd'.same.map V.str) →
          CdOk fs n cd' → (cd'.nm = cd.nm ∨ cd'.nm ∉ cs.map (·.nm)) → cd' ≠ cd →
          (fun σ H5 => ∃ (fa' ca' : Addr) (fvs' cvs' : List V) (fs' : List FD) (cs' : List CD), SameX s H H5 ∧ StA H5 s c ns ∧ Off s H5 fa' = some (.lst fvs') ∧ Al (FdT K (Off s H5)) fvs' fs' ∧ Off s H5 ca' = some (.lst cvs') ∧ Al (CdL K (Off s H5)) cvs' cs' ∧ KdOk fs' n cs' ∧ ¬ (fs = fs' ∧ cs = cs') ∧
            ∃ x4 x5 x6 x7 x8 x9 x10, σ = [some (.ref s), some (.ref pa), some (.ref fa'), some (.ref ca'), x4, x5, x6, x7, x8, x9, x10]) [some (.ref s), some (.ref pa), some (.ref fa), some (.ref ca), x4, x5, x6, x7, x8, x9, x10] (upd H5 ca (.lst (cvs.set at_ (.ref q)))) := by
        intro H5 q m' d' sm' ds' cd' x4 x5 x6 x7 x8 x9 x10 e5 hq hq4 hm hd hds hsm okc' hn hne
        have h5 := h4.keep e5
        have qs : q ≠ s := (h4.ne hq4).1
        have qc : q ≠ ca := fun e => by rw [e, ca4] at hq4; cases hq4
        have e05 : SameX s H H5 := e04.trans (same_sx e5)
        have e06 : SameX s H (upd H5 ca (.lst (cvs.set at_ (.ref q)))) := e05.putN Hca
        have up : Same (Off ca (Off s H5)) (Off s (upd H5 ca (.lst (cvs.set at_ (.ref q))))) := fun b o hb => by
          by_cases z : b = ca
          · rw [z, off_s] at hb; cases hb
          · rw [off_ne z] at hb
            by_cases y : b = s
            · rw [y, off_s] at hb; cases hb
            · rw [off_ne y] at hb ⊢
              rw [upd_ne z]
              exact hb
        have tq : Tu K (Off s (upd H5 ca (.lst (cvs.set at_ (.ref q))))) (.ref q) [.str cd'.nm, .str cd'.hand, m', d', sm'] := Tu.tup ((off_ne qs).trans ((upd_ne qc).trans hq))
        exact ⟨fa, ca, fvs, _, fs, _, e06, h5.put cas cac, (off_ne fas).trans ((upd_ne fc).trans (e5 _ _ fa4)), p3' e06, (off_ne cas).trans upd_same, (p5' e06).set ⟨m', d', sm', ds', tq, hm.keep up, hd.keep up, hds.mono fun _ _ h => DeT.keep up h, hsm.keep up⟩, ok.set hcd okc' hn, fun e => set_ne hcd hne e.2, _, _, _, _, _, _, _, rfl⟩
      have fvl : 0 < fvs.length := by rw [p3.1]; exact fp
      refine ⟨_, rfl, rfl, _, rfl, ite2 (fun _ => ?_) (fun _ => ?_)⟩
      · -- 0: what a field needs
        cases fs with
        | nil => exact absurd fp (by decide)
        | cons f0 fr =>
        obtain ⟨v1, hv1, ⟨ta, rfl, ft⟩⟩ := p3.get' (i := 0) rfl
        have at0 : atI fvs 0 = some (.ref ta) := atI_nat (j := 0) hv1
        refine ⟨_, rfl, fa, fvs, 0, .ref ta, rfl, rfl, SqL.of fa4, at0, ta, _, 0, .str f0.nm, rfl, rfl, same_t o4 ft, rfl, _, rfl, fa, fvs, 0, .ref ta, rfl, rfl, SqL.of fa4, at0, ta, _, 1, .str (sortS f0.many), rfl, rfl, same_t o4 ft, rfl, _, rfl, fa, fvs, 0, .ref ta, rfl, rfl, SqL.of fa4, at0, ta, _, 2, .bl f0.need, rfl, rfl, same_t o4 ft, rfl, f0.need, rfl, by show 3 ≤ sizeLine; decide, fun q hq => ?_⟩
        have e5 := same_new (Same.refl H4) hq (o := .tup [.str f0.nm, .str (sortS f0.many), .bl (!f0.need)])
        refine ⟨_, rfl, fa, fvs, 0, 0, rfl, rfl, e5 _ _ fa4, ixn fvl, ?_⟩
        obtain ⟨qs, _⟩ := h4.ne hq
        have qf : q ≠ fa := fun e => by rw [e, fa4] at hq; cases hq
        have e6 := (e04.trans (same_sx e5)).putN (o := .lst (fvs.set 0 (.ref q))) Hfa
        have tq : FdT K (Off s (upd (upd H4 q (.tup [.str f0.nm, .str (sortS f0.many), .bl (!f0.need)])) fa (.lst (fvs.set 0 (.ref q))))) (.ref q) { f0 with need := !f0.need } := Tu.tup ((off_ne qs).trans ((upd_ne qf).trans upd_same))
        have nef : ¬ (f0 :: fr = (f0 :: fr).set 0 { f0 with need := !f0.need } ∧ cs = cs) := fun e => by
          have e7 : f0.need = !f0.need := congrArg FD.need (List.cons.inj e.1).1
          cases h : f0.need <;> rw [h] at e7 <;> cases e7
        exact ⟨fa, ca, _, cvs, _, cs, e6, (h4.keep e5).put fas fac, (off_ne fas).trans upd_same, (p3' e6).set tq, (off_ne cas).trans ((upd_ne (Ne.symm fc)).trans (e5 _ _ ca4)), p5' e6, ok.f0, nef, _, _, _, _, _, _, _, rfl⟩
      refine ⟨_, rfl, rfl, _, rfl, ite2 (fun _ => ?_) (fun _ => ?_)⟩
      · -- 1: a name
        have zm : cd.nm ∈ callNames ++ (["build"] : List Str) := by
          obtain ⟨j, _, ej⟩ := hnm
          have m := List.mem_map_of_mem (f := (·.nm)) (List.mem_of_getElem? hcd)
          rw [ej] at m
          rcases List.mem_append.mp m with m | m
          · exact List.mem_append_left _ (List.mem_of_mem_take m)
          · exact List.mem_append_right _ m
        obtain ⟨z1, z2, z3, z4⟩ := z_word cd.nm zm
        refine ⟨_, rfl, 1, rfl, cd.nm, rfl, Nat.le_trans z4 (by decide), "z", _, rfl, rfl, Nat.le_trans (by show 1 + (cutS cd.nm (some 1) none).length ≤ 100; omega) (by decide), _, rfl, _, rfl, _, rfl, _, rfl, by show 5 ≤ sizeLine; decide, fun q hq => ?_⟩
        have e5 := same_new (Same.refl H4) hq (o := .tup [.str (zName cd.nm), .str cd.hand, .ref ma, .ref da, .ref sa])
        refine ⟨_, rfl, _, rfl, ca, cvs, at_, at_, rfl, rfl, e5 _ _ ca4, ixn hlt, ?_⟩
        refine setc _ q (.ref ma) (.ref da) (.ref sa) ds { cd with nm := zName cd.nm } _ _ _ _ _ _ _ e5 upd_same hq ⟨ma, rfl, oc e5 _ _ t2⟩ ⟨da, rfl, oc e5 _ _ t3⟩ (t4.mono fun _ _ h => DeT.keep (oc e5) h) ⟨sa, rfl, oc e5 _ _ t5⟩ { okc with word := z1 } (.inr fun m => ?_) fun e => ?_
        · obtain ⟨j, _, ej⟩ := hnm
          rw [ej] at m
          refine z2 ?_
          rcases List.mem_append.mp m with m | m
          · exact List.mem_append_left _ (List.mem_of_mem_take m)
          · exact List.mem_append_right _ m
        · have e7 : zName cd.nm = cd.nm := congrArg CD.nm e
          exact z2 (by rw [e7]; exact zm)
      refine ⟨_, rfl, rfl, _, rfl, ite2 (fun _ => ?_) (fun _ => ?_)⟩
      · -- 2: a mode
        obtain ⟨m0, mr, em⟩ : ∃ m0 mr, cd.moves = m0 :: mr := by
          have h1 := okc.len
          have h2 := ok.pos
          cases h : cd.moves with
          | nil =>
            rw [h] at h1
            have h3 : 0 = n := h1
            omega
          | cons a b => exact ⟨a, b, rfl⟩
        have t2' := t2
        rw [em] at t2'
        refine ⟨_, rfl, _, rfl, fun v H' => v = .int (flip0 m0) ∧ H4 = H', ?_, ?_⟩
        · refine ⟨_, rfl, ma, _, 0, .int m0, rfl, rfl, SqL.of (o4 _ _ t2'), atI_nat (j := 0) rfl, 1, rfl, rfl, _, rfl, ite2 (fun h => ?_) (fun h => ?_)⟩
          · have e : m0 = -1 := V.int.inj (of_decide_eq_true h)
            exact ⟨by unfold flip0; rw [if_pos e], rfl⟩
          · have e : ¬ m0 = -1 := fun e => h (by rw [e]; exact decide_eq_true rfl)
            exact ⟨1, rfl, by unfold flip0; rw [if_neg e], rfl⟩
        rintro _ _ ⟨rfl, rfl⟩
        refine ⟨by show 1 ≤ sizeLine; decide, fun q1 hq1 => ?_⟩
        have f1 := same_new (Same.refl H4) hq1 (o := .lst [.int (flip0 m0)])
        refine ⟨_, rfl, 1, rfl, ma, _, rfl, SqL.of (f1 _ _ (o4 _ _ t2')), fun q2 hq2 => ?_⟩
        have cf : cutV ((m0 :: mr).map V.int) (some 1) none = mr.map V.int := cut_from ((m0 :: mr).map V.int) 1 (by rw [List.length_map]; exact Nat.succ_le_succ (Nat.zero_le _))
        rw [cf]
        have f2 := same_new f1 hq2 (o := .lst (mr.map V.int))
        have ml : mr.length ≤ 4 := by
          have h1 := okc.len
          rw [em, List.length_cons] at h1
          have := ok.le
          omega
        refine ⟨q1, q2, _, _, rfl, rfl, (same_new (Same.refl _) hq2) _ _ upd_same, upd_same, ?_, fun q3 hq3 => ?_⟩
        · rw [List.length_map]
          exact Nat.le_trans (by show 1 + mr.length ≤ 5; omega) (by decide)
        have f3 := same_new f2 hq3 (o := .lst ([.int (flip0 m0)] ++ mr.map V.int))
        refine ⟨_, rfl, _, rfl, by show 5 ≤ sizeLine; decide, fun q hq => ?_⟩
        have f4 := same_new f3 hq (o := .tup [.str cd.nm, .str cd.hand, .ref q3, .ref da, .ref sa])
        have n3 : H4 q3 = none := none_of f2 hq3
        have n3s := (h4.ne n3).1
        have n3c : q3 ≠ ca := fun e => by rw [e, ca4] at n3; cases n3
        refine ⟨_, rfl, _, rfl, ca, cvs, at_, at_, rfl, rfl, f4 _ _ ca4, ixn hlt, ?_⟩
        exact setc _ q (.ref q3) (.ref da) (.ref sa) ds { cd with moves := flip0 m0 :: mr } _ _ _ _ _ _ _ f4 upd_same (none_of f3 hq) ⟨q3, rfl, (off_ne n3c).trans ((off_ne n3s).trans ((same_new (Same.refl _) hq) _ _ upd_same))⟩ ⟨da, rfl, oc f4 _ _ t3⟩ (t4.mono fun _ _ h => DeT.keep (oc f4) h) ⟨sa, rfl, oc f4 _ _ t5⟩ (okc.flip em ok.pos) (.inl rfl) fun e => by
          have e7 : flip0 m0 :: mr = cd.moves := congrArg CD.moves e
          rw [em] at e7
          exact flip_ne m0 (List.cons.inj e7).1
      refine ⟨fun b H' => (b = true → cd.deeds ≠ []) ∧ Same H4 H', ?_, ?_⟩
      · refine ⟨_, rfl, rfl, _, rfl, ite2 (fun _ => ?_) (fun _ => ⟨nofun, Same.refl _⟩)⟩
        refine ⟨_, rfl, by show 0 ≤ sizeLine; decide, fun p hp => ?_⟩
        have f1 := same_new (Same.refl H4) hp (o := .lst [])
        refine ⟨_, _, .lst (SqL.of (f1 _ _ (o4 _ _ t3))) (dp_map (fun _ _ h => dp_d (DeT.keep (o4.trans f1) h)) t4), .lst (SqL.of upd_same) .nil, shaped_ds ok.fields okc, strs_shaped [] nofun, _, rfl, fun hb he => ?_, f1⟩
        rw [eqv_nilL, he] at hb
        cases hb
      rintro b H6 ⟨hb, f6⟩
      have h6 := h4.keep f6
      have ca6 := f6 _ _ ca4
      have fa6 := f6 _ _ fa4
      have o6 := o4.trans f6
      have e06 : SameX s H H6 := e04.trans (same_sx f6)
      refine ite2 (fun hbt => ?_) (fun _ => ?_)
      · -- 3: a deed less
        have dne := hb hbt
        have dpos : 0 < ds.length := by rw [t4.1]; exact List.length_pos_iff.mpr dne
        refine ⟨_, rfl, _, rfl, _, rfl, _, rfl, 1, rfl, -1, rfl, da, ds, rfl, SqL.of (o6 _ _ t3), fun q1 hq1 => ?_⟩
        rw [cut_less ds dpos]
        have f7 := same_new f6 hq1 (o := .lst ds.dropLast)
        refine ⟨_, rfl, by show 5 ≤ sizeLine; decide, fun q hq => ?_⟩
        have f8 := same_new f7 hq (o := .tup [.str cd.nm, .str cd.hand, .ref ma, .ref q1, .ref sa])
        have n1 : H4 q1 = none := none_of f6 hq1
        have n1s := (h4.ne n1).1
        have n1c : q1 ≠ ca := fun e => by rw [e, ca4] at n1; cases n1
        refine ⟨_, rfl, _, rfl, ca, cvs, at_, at_, rfl, rfl, f8 _ _ ca4, ixn hlt, ?_⟩
        exact setc _ q (.ref ma) (.ref q1) (.ref sa) ds.dropLast { cd with deeds := cd.deeds.dropLast } _ _ _ _ _ _ _ f8 upd_same (none_of f7 hq) ⟨ma, rfl, oc f8 _ _ t2⟩ ⟨q1, rfl, (off_ne n1c).trans ((off_ne n1s).trans ((same_new (Same.refl _) hq) _ _ upd_same))⟩ (al_less (t4.mono fun _ _ h => DeT.keep (oc f8) h)) ⟨sa, rfl, oc f8 _ _ t5⟩ okc.less (.inl rfl) fun e => by
          have e7 : cd.deeds.dropLast.length = cd.deeds.length := congrArg List.length (congrArg CD.deeds e)
          rw [List.length_dropLast] at e7
          have := List.length_pos_iff.mpr dne
          omega
      refine ⟨_, rfl, rfl, _, rfl, ite2 (fun _ => ?_) (fun _ => ?_)⟩
      · -- 4: a hand
        obtain ⟨v1, v2, v3, v4⟩ := hand_val okc.hand
        refine ⟨_, rfl, fun p hp => ⟨upd_same, handKvs, rfl, by show 3 ≤ 15; decide, ?_⟩⟩
        have ep : ∀ kvs, Same H4 (upd (upd H6 p (.dK [])) p (.dK kvs)) := fun kvs b o hb => by
          have pb : b ≠ p := fun e => by rw [e] at hb; rw [f6 _ _ hb] at hp; cases hp
          rw [upd_ne pb, upd_ne pb]
          exact f6 _ _ hb
        rw [show mergeK [] handKvs = handKvs from rfl]
        have f7 := ep handKvs
        refine ⟨_, rfl, p, .str (nextHand cd.hand), rfl, v1 ▸ DGet.k (k := .inr cd.hand) upd_same, _, rfl, _, rfl, _, rfl, by show 5 ≤ sizeLine; decide, fun q hq => ?_⟩
        have f8 := same_new f7 hq (o := .tup [.str cd.nm, .str (nextHand cd.hand), .ref ma, .ref da, .ref sa])
        refine ⟨_, rfl, _, rfl, ca, cvs, at_, at_, rfl, rfl, f8 _ _ ca4, ixn hlt, ?_⟩
        exact setc _ q (.ref ma) (.ref da) (.ref sa) ds { cd with hand := nextHand cd.hand } _ _ _ _ _ _ _ f8 upd_same (none_of f7 hq) ⟨ma, rfl, oc f8 _ _ t2⟩ ⟨da, rfl, oc f8 _ _ t3⟩ (t4.mono fun _ _ h => DeT.keep (oc f8) h) ⟨sa, rfl, oc f8 _ _ t5⟩ { okc with hand := v2, self := fun e => absurd e v4 } (.inl rfl) fun e => v3 (congrArg CD.hand e)
      have mid : ∀ (H7 : Hp) (fa' ca' : Addr) (fvs' cvs' : List V) (fs' : List FD) (cs' : List CD) (x4 x5 x6 x7 x8 x9 x10 : Option V), Same H4 H7 → H7 fa' = some (.lst fvs') → H7 ca' = some (.lst cvs') → fa' ≠ s → ca' ≠ s → Al (FdT K (Off s H7)) fvs' fs' → Al (CdL K (Off s H7)) cvs' cs' → KdOk fs' n cs' → ¬ (fs = fs' ∧ cs = cs') →
          (fun σ H5 => ∃ (fa' ca' : Addr) (fvs' cvs' : List V) (fs' : List FD) (cs' : List CD), SameX s H H5 ∧ StA H5 s c ns ∧ Off s H5 fa' = some (.lst fvs') ∧ Al (FdT K (Off s H5)) fvs' fs' ∧ Off s H5 ca' = some (.lst cvs') ∧ Al (CdL K (Off s H5)) cvs' cs' ∧ KdOk fs' n cs' ∧ ¬ (fs = fs' ∧ cs = cs') ∧
            ∃ x4 x5 x6 x7 x8 x9 x10, σ = [some (.ref s), some (.ref pa), some (.ref fa'), some (.ref ca'), x4, x5, x6, x7, x8, x9, x10]) [some (.ref s), some (.ref pa), some (.ref fa'), some (.ref ca'), x4, x5, x6, x7, x8, x9, x10] H7 :=
        fun H7 fa' ca' fvs' cvs' fs' cs' _ _ _ _ _ _ _ e7 hf hc fs_ cs_ alf alc ok' ne' => ⟨fa', ca', fvs', cvs', fs', cs', e04.trans (same_sx e7), h4.keep e7, (off_ne fs_).trans hf, alf, (off_ne cs_).trans hc, alc, ok', ne', _, _, _, _, _, _, _, rfl⟩
      refine ⟨fun b H' => (b = true → 1 < cvs.length) ∧ H6 = H', ?_, ?_⟩
      · exact ⟨_, rfl, rfl, _, rfl, ite2 (fun _ => ⟨_, rfl, ca, cvs, rfl, .inl (SqL.of ca6), _, _, rfl, rfl, _, rfl, fun h => by have := of_decide_eq_true h; omega, rfl⟩) (fun _ => ⟨nofun, rfl⟩)⟩
      rintro b5 _ ⟨hb5, rfl⟩
      refine ite2 (fun h5 => ?_) (fun _ => ?_)
      · -- 5: calls the other way round
        have l1 := hb5 h5
        refine ⟨_, rfl, ca, cvs, rfl, SqL.of ca6, fun q hq => ?_⟩
        have f7 := same_new f6 hq (o := .lst cvs.reverse)
        have e07 := e04.trans (same_sx f7)
        exact mid _ fa q fvs cvs.reverse fs cs.reverse _ _ _ _ _ _ _ f7 (f7 _ _ fa4) upd_same fas (h6.ne hq).1 (p3' e07) (p5' e07).rev ok.rev fun e => rev_ne ok.nd (by rw [← p5.1]; exact l1) e.2
      refine ⟨fun b H' => (b = true → 1 < fvs.length) ∧ H6 = H', ?_, ?_⟩
      · exact ⟨_, rfl, rfl, _, rfl, ite2 (fun _ => ⟨_, rfl, fa, fvs, rfl, .inl (SqL.of fa6), _, _, rfl, rfl, _, rfl, fun h => by have := of_decide_eq_true h; omega, rfl⟩) (fun _ => ⟨nofun, rfl⟩)⟩
      rintro b6 _ ⟨hb6, rfl⟩
      refine ite2 (fun h7 => ?_) (fun _ => ?_)
      · -- 6: fields the other way round
        have l1 := hb6 h7
        refine ⟨_, rfl, fa, fvs, rfl, SqL.of fa6, fun q hq => ?_⟩
        have f7 := same_new f6 hq (o := .lst fvs.reverse)
        have e07 := e04.trans (same_sx f7)
        exact mid _ q ca fvs.reverse cvs fs.reverse cs _ _ _ _ _ _ _ f7 upd_same (f7 _ _ ca4) (h6.ne hq).1 cas (p3' e07).rev (p5' e07) ok.frev fun e => rev_ne ok.fields.nd (by rw [← p3.1]; exact l1) e.1
      -- a call more, or less
      refine ⟨fun v H' => ∃ q cvs' cs', v = .ref q ∧ Same H6 H' ∧ H6 q = none ∧ H' q = some (.lst cvs') ∧ Al (CdL K (Off s H')) cvs' cs' ∧ KdOk fs n cs' ∧ cs ≠ cs', ?_, ?_⟩
      · refine ⟨_, rfl, ca, cvs, rfl, .inl (SqL.of ca6), _, _, rfl, rfl, _, rfl, ite2 (fun h => ?_) (fun h => ?_)⟩
        · have l6 : cs.length < 6 := by have := of_decide_eq_true h; rw [p5.1] at this; omega
          have pa6 : H6 pa = _ := f6 _ _ pa4
          have n4 := ok.le
          refine ⟨_, rfl, by show 1 ≤ sizeLine; decide, fun z1 hz1 => ?_⟩
          have g1 := same_new (Same.refl H6) hz1 (o := .lst [.int 0])
          refine ⟨_, rfl, pa, .int n, rfl, DGet.k (k := .inr "modes") (g1 _ _ pa6), z1, n, [.int 0], rfl, rfl, upd_same, by omega, by omega, Nat.le_trans (by show 1 * (n : Int).toNat ≤ 4; omega) (by decide), fun z2 hz2 => ?_⟩
          rw [Int.toNat_natCast, rep_int n]
          have g2 := same_new g1 hz2 (o := .lst ((List.replicate n (0 : Int)).map V.int))
          refine ⟨by show 0 ≤ sizeLine; decide, fun z3 hz3 => ⟨by show 0 ≤ sizeLine; decide, fun z4 hz4 => ⟨by show 5 ≤ sizeLine; decide, fun z5 hz5 => ⟨by show 1 ≤ sizeLine; decide, fun z6 hz6 => ?_⟩⟩⟩⟩
          have g3 := same_new g2 hz3 (o := .lst [])
          have g4 := same_new g3 hz4 (o := .lst [])
          have g5 := same_new g4 hz5 (o := .tup [.str "zz", .str "self", .ref z2, .ref z3, .ref z4])
          have g6 := same_new g5 hz6 (o := .lst [.ref z5])
          have b2 := (same_new (same_new (same_new (same_new (Same.refl _) hz3 (o := .lst [])) hz4 (o := .lst [])) hz5 (o := .tup [.str "zz", .str "self", .ref z2, .ref z3, .ref z4])) hz6 (o := .lst [.ref z5])) z2 _ upd_same
          have b3 := (same_new (same_new (same_new (Same.refl _) hz4 (o := .lst [])) hz5 (o := .tup [.str "zz", .str "self", .ref z2, .ref z3, .ref z4])) hz6 (o := .lst [.ref z5])) z3 _ upd_same
          have b4 := (same_new (same_new (Same.refl _) hz5 (o := .tup [.str "zz", .str "self", .ref z2, .ref z3, .ref z4])) hz6 (o := .lst [.ref z5])) z4 _ upd_same
          have b5 := (same_new (Same.refl _) hz6 (o := .lst [.ref z5])) z5 _ upd_same
          have n2 := (h6.ne (none_of g1 hz2)).1
          have n3 := (h6.ne (none_of g2 hz3)).1
          have n4' := (h6.ne (none_of g3 hz4)).1
          have n5 := (h6.ne (none_of g4 hz5)).1
          refine ⟨ca, z6, _, _, rfl, rfl, g6 _ _ ca6, upd_same, Nat.le_trans (by show cvs.length + 1 ≤ 10; rw [p5.1]; omega) (by decide), fun z7 hz7 => ?_⟩
          have g7 := same_new g6 hz7 (o := .lst (cvs ++ [.ref z5]))
          have g67 := (same_new (Same.refl _) hz7 (o := .lst (cvs ++ [.ref z5])))
          refine ⟨z7, _, cs ++ [⟨"zz", "self", List.replicate n 0, [], []⟩], rfl, g7, none_of g6 hz7, upd_same, (p5' (e06.trans (same_sx g7))).snoc (y := (⟨"zz", "self", List.replicate n 0, [], []⟩ : CD)) ⟨.ref z2, .ref z3, .ref z4, [], Tu.tup ((off_ne n5).trans (g67 _ _ b5)), ⟨z2, rfl, (off_ne n2).trans (g67 _ _ b2)⟩, ⟨z3, rfl, (off_ne n3).trans (g67 _ _ b3)⟩, Al.nil, ⟨z4, rfl, (off_ne n4').trans (g67 _ _ b4)⟩⟩, ok.zz l6 ?_, fun e => ?_⟩
          · obtain ⟨j, _, ej⟩ := hnm
            rw [ej]
            intro m
            rcases List.mem_append.mp m with m | m
            · exact absurd (List.mem_of_mem_take m) (by decide +kernel)
            · exact absurd m (by decide +kernel)
          · have := congrArg List.length e
            rw [List.length_append] at this
            have l1 : ([⟨"zz", "self", List.replicate n 0, [], []⟩] : List CD).length = 1 := rfl
            omega
        · have l6 : ¬ cs.length < 6 := fun z => h (decide_eq_true (by rw [p5.1]; omega))
          refine ⟨_, rfl, 1, rfl, -1, rfl, ca, cvs, rfl, SqL.of ca6, fun q hq => ?_⟩
          have f7 := same_new (Same.refl H6) hq (o := .lst (cutV cvs none (some (-1))))
          rw [cut_less cvs (by rw [p5.1]; omega)] at f7 ⊢
          exact ⟨q, _, cs.dropLast, rfl, f7, hq, upd_same, al_less (p5' (e06.trans (same_sx f7))), ok.less (by omega), fun e => by
            have := congrArg List.length e
            rw [List.length_dropLast] at this
            omega⟩
      · rintro v H7 ⟨q, cvs', cs', rfl, f7, hq, hq7, alc, ok', ne'⟩
        have f8 := f6.trans f7
        exact mid _ fa q fvs cvs' fs cs' _ _ _ _ _ _ _ f8 (f8 _ _ fa4) hq7 fas (h6.ne hq).1 (p3' (e04.trans (same_sx f8))) alc ok' fun e => ne' e.2
    · rintro σ H5 ⟨fa', ca', fvs', cvs', fs', cs', e5, h5, hf, alf, hc, alc, ok', ne', x4, x5, x6, x7, x8, x9, x10, rfl⟩
      have pa5 := off_same _ _ (e5.off _ _ p1)
      refine ⟨fun v H' => Same H5 H' ∧ KdA K KC (Off s H') v fs' n cs', ⟨_, rfl, _, rfl, _, rfl, pa, .int n, rfl, DGet.k (k := .inr "modes") pa5, rfl, rfl, ?_⟩, ?_⟩
      · obtain ⟨zs, hs5⟩ := h5.at
        exact rd_kindM (s := s) (by rw [hs5]; exact nofun) (Ls.sq ⟨fa', rfl, hf⟩) (alf.mono fun _ _ h => FdT.a h) (Ls.sq ⟨ca', rfl, hc⟩) (alc.mono fun _ _ h => CdL.a h) ok'
      · rintro v H6 ⟨e6, kd⟩
        exact k v H6 fs' cs' (e5.trans (same_sx e6)) (h5.keep e6) kd ok' ne'
end
end MK

set_option Elab.async false
set_option linter.all false
set_option autoImplicit false
set_option maxRecDepth 100000
set_option maxHeartbeats 4000000
namespace MK
open PySem PySem.Spec PyProof.Rows L2
local macro_rules | `(tactic| walk_at "x") => `(tactic| dsimp only [tSeq, tAsg, tRet, tDrop, tLst, tTup, tCons, tOp, tUn, tIfS])
/-! ### a kind and what is none; a kind of one mode -/
def spKEqX (K : PySem.W.Frag) (KC : Addr) : Sp := fun vs H Q E => spKEq K KC vs H Q E ∨ ∃ (v w : V) (t : Value), vs = [v, w] ∧ TyX K H w t ∧ PySem.W.kitOne K t (.ref KC) = some false ∧ Q (.bl false) H
section
variable {P : Program} {w : World} {K : PySem.W.Frag} {mg : Str → Option Value} {base : Heap} {C : Cst} {KC : Addr}
theorem ok_keqX {f : Addr} {fd : FuncData} (F : Fun K "__eq__" "Kind.__eq__" s_Kind_eq f fd) (T : Txt K mg) (Z : KCls K KC) (Y : KIns K KC) (gK : mg "Kind" = some (.ref KC)) : FnOk P w K mg base CX0 1 f fd ["self", "other"] (spKEqX K KC) := by
  refine F.ok sc_Kind_eq (fun vs H Q E h => ?_) (fun cdv A outer sh H vs Q E hr h => ?_)
  · rcases h with h | ⟨v, w, t, rfl, _⟩
    · obtain ⟨_, _, _, _, _, _, _, _, rfl, _⟩ := h
      rfl
    · rfl
  · rcases h with h | ⟨v, w', t, rfl, ty, kt, q⟩
    · exact run_keq T Z Y gK hr h
    · refine ⟨_, (pss_one (ps_ret (pe_cut (pe_and (pe_callB call_isi (by rfl) T.isinstance (by decide +kernel) (pa_cons (pv 1) (pa_cons (pe_refv (by rfl) gK) pa_nil))) (pe_and (pe_cmpR (op_eqD hr.units) (pe_fld (pv 0) rfl) (pe_fld (pv 1) rfl) (nomark _)) (pe_and (pe_cmpR op_eq (pe_fld (pv 0) rfl) (pe_fld (pv 1) rfl) (nomark _)) (pe_one (pe_cmpR (op_eqD hr.units) (pe_fld (pv 0) rfl) (pe_fld (pv 1) rfl) (nomark _))))))))), ?_⟩
      exact ⟨fun v H2 => v = .bl false ∧ H2 = H, ⟨_, rfl, _, _, _, _, false, rfl, .own _, ty, kt, false, rfl, iteF ⟨rfl, rfl⟩⟩, fun v H2 e => by rw [e.1, e.2]; exact q⟩
/-- a kind of one mode -/
structure KMk0 (P : Program) (w : World) (K : PySem.W.Frag) (mg : Str → Option Value) (base : Heap) (KC : Addr) : Prop where
  ex : ∃ (f : Addr) (fd : FuncData) (ds : List Value), Mk K KC f ∧ FnOk P w K mg base CX0 6 f fd ["self", "fields", "calls", "modes"] (spKInit K KC) ∧ Vals [V.int 1] ds ∧ Binds K fd ["self", "fields", "calls", "modes"] ds
  g : mg "Kind" = some (.ref KC)
theorem pe_kind0 {X : Cx} {KC : Addr} {j : Nat} {p pos : Pos} {e : Expr} {es : List Expr} {t : TA} (c : KMk0 X.prog X.w X.K X.mg X.base KC) (hr : Room j X.A) (hk : 7 ≤ j) (hg : Gl X "Kind") (ha : PA X (e :: es) t)
    (he : starEach (e :: es) X.env = (false, eval e X.env) :: starEach es X.env := by rfl) (hpl : (backTo pos (starEach es X.env)).any (·.1) = false := by rfl) :
    PE X (.Call (.Name "Kind" p) (e :: es) [] pos) (tCutE (tMake KC (spKInit X.K KC) [V.int 1] E0 t)) := by
  obtain ⟨f, fd, ds, M, F, hv, hb⟩ := c.ex
  exact pe_cut <| pe_make M F (hr.mono hk) hg c.g hb hv pass0 ha (by decide) he hpl
theorem KMk0.of {f : Addr} {fd : FuncData} {oc : Value} {od an : Option Addr} {osl : Array (Option Value)} {D : Addr} {doc pm cdv ct : Value} {tk : Tok} (M : Mk K KC f) (F : FnOk P w K mg base CX0 6 f fd ["self", "fields", "calls", "modes"] (spKInit K KC)) (efd : fd = PySem.W.fnOf "__init__" "Kind.__init__" (defArgs s_Kind_init) (defBody s_Kind_init) (defScope s_Kind_init) .none (.ref D) doc pm an cdv ct)
    (l : K.lookup f = some ⟨oc, od, .func fd, osl⟩) (hcd : PySem.W.codeIn K cdv "Kind.__init__" = true) (kp : PySem.W.keepIn K (.ref f) = true) (hD : PySem.W.nsIn K D "modes" = some (some (.int 1 tk))) (g : mg "Kind" = some (.ref KC)) : KMk0 P w K mg base KC := by
  have FD' : FunD K "__init__" "Kind.__init__" (defArgs s_Kind_init) (defBody s_Kind_init) (defScope s_Kind_init) [] [("modes", V.int 1)] f fd :=
    ⟨⟨oc, od, .none, .ref D, doc, pm, an, cdv, ct, osl, efd, l, hcd, .inl ⟨rfl, rfl⟩, .inr ⟨D, rfl, fun q hq => by
      rw [List.mem_singleton.mp hq]
      exact ⟨_, hD, tk, rfl⟩⟩⟩, kp⟩
  obtain ⟨ds, hv, hb⟩ := FD'.binds0 (ps := ["self", "fields", "calls", "modes"]) 3 (by simp) rfl fun D doc pm an cdv ct us ks h1 h2 => match us, ks, h1, h2 with
    | [_, _, _], [_], _, _ => ⟨_, _, _, _, _, _, rfl, rfl, rfl⟩
  exact ⟨⟨f, fd, ds, M, F, hv, hb⟩, g⟩
end
end MK

set_option Elab.async false
set_option linter.all false
set_option autoImplicit false
set_option maxRecDepth 100000
set_option maxHeartbeats 4000000
namespace MK
open PySem PySem.Spec PyProof.Rows L2
local macro_rules | `(tactic| walk_at "x") => `(tactic| dsimp only [tSeq, tAsg, tRet, tDrop, tLst, tTup, tCons, tOp, tUn, tIfS])
/-! ### the law -/
abbrev s_law : Stmt := topS 73
theorem sc_law : FnScope ["_law_script", "_law_state", "_law_turn", "_law_p", "_law_fields", "_law_calls", "_law_kind_here", "_law_row", "_law_odd", "_law_found", "_law_x"] ["_law_script"] (defScope s_law) := ⟨rfl, rfl, rfl, by decide +kernel, rfl, by decide +kernel, by decide +kernel⟩
/-- _law_tried(lambda: body) -/
theorem pe_tried {X : Cx} {A : EB} {k : Nat} {g fe c P : Addr} {fd fde : FuncData} {params : Arguments} {body : Expr} {scope : Scope} {t : XK → TE} {p lpos pos : Pos} (F : DefX X.K X.mg "_law_tried" s_tried ["_law_deed"] g fd) (FE : FnP X.prog X.w X.K X.mg X.base 1 fe fde ["_law_e"] (spErrW A)) (W : ErrN X.K X.mg A)
    (he : X.mg "_law_error" = some (.ref fe) ∧ PySem.W.keepIn X.K (.ref fe) = true ∧ Binds X.K fde ["_law_e"] []) (TB : LamX.TabB X.base X.mg c P) (hcode : X.env.code = .ref c) (hr : Room (k + 3) X.A) (L : LamX.LamS X.env.scope scope) (hdef : defaultsOf params X.env = ([], []))
    (hbind : ∀ (q : Str) (cl : List (Str × Addr)) (pm cv ctv : Value), bindArgs (PySem.W.kla_fn "<lambda>" q params body scope cl pm cv ctv) ⟨[], []⟩ = pure [])
    (hbody : ∀ (A : Around) (outer : List Env) (s : Shared) (H : Hp) (E : XK) (f c' : Addr), Room k (A.deeper (LamX.lamEnv X scope s.heap.objs.size f c')) → PE (LamX.lamCx X A outer s H E scope f c') body (t E)) (hg : Gl X "_law_tried" := by rfl) :
    PE X (.Call (.Name "_law_tried" p) [.Lambda params body scope lpos] [] pos) (LamX.tLam [(P, X.env.qual ++ "<lambda>")] (TTried A) t) := by
  obtain ⟨oc, od, kV, doc, pm, an, cdv, ct, osl, e, lk, hcd⟩ := F.fn.ex
  subst e
  exact LamX.pe_lamcall (a := "_law_deed") hg F.mgf F.fn.kp lk hcd F.bi sc_tried rfl (.inl rfl) (tried_gives FE W he.1 he.2.1 he.2.2 (hr.mono (by omega))) TB hcode List.mem_cons_self (fun q hq _ => by rw [List.mem_singleton.mp hq]) (hr.mono (by omega)) L hdef hbind hbody
theorem PlanA.nt {K : PySem.W.Frag} {KC : Addr} {H : Hp} {v : V} {fs : List FD} {n : Nat} {cs : List CD} (h : PlanA K KC H v fs n cs) : PlanA K KC (Nt H) v fs n cs := by
  obtain ⟨p, l1, l2, kv, fvs, cvs, h0, h1, h2, h3, h4, h5, h6⟩ := h
  exact ⟨p, l1, l2, kv, fvs, cvs, h0, nt_of h1 nofun, nt_of h2 nofun, h3.mono fun _ _ h => Tu.nt h, nt_of h4 nofun, h5.mono fun _ _ h => CdL.nt h, h6.nt⟩
def lamQ : Str := (envOfC "law" (defScope s_law) 0 0 .none).qual ++ "<lambda>"
/-- the state of the draws, and the law's table of codes -/
def StP (H : Hp) (s c P : Addr) (ns : List Int) : Prop := StA H s c ns ∧ LamX.TabS H P lamQ
theorem StP.sx {H H' : Hp} {s c P : Addr} {ns : List Int} (h : StP H s c P ns) (e : SameX s H H') (h' : StA H' s c ns) : StP H' s c P ns := by
  obtain ⟨h1, h2⟩ := h
  obtain ⟨_, _, a, b, m, hs⟩ := h1
  exact ⟨h', tab_sx e hs h2⟩
theorem StP.keep {H H' : Hp} {s c P : Addr} {ns : List Int} (h : StP H s c P ns) (e : Same H H') : StP H' s c P ns := ⟨h.1.keep e, h.2.ext e⟩
theorem StP.ext {H H' : Hp} {s c P : Addr} {ns : List Int} (h : StP H s c P ns) (e : LamX.ExtN H H') (t : LamX.Tabs [(P, lamQ)] H') : StP H' s c P ns := by
  obtain ⟨⟨n, h1, a, b, m, h2⟩, _⟩ := h
  exact ⟨⟨n, e _ _ h1 nofun, a, b, m, e _ _ h2 nofun⟩, t _ List.mem_cons_self⟩
theorem StP.ns {H : Hp} {s c P : Addr} {ns : List Int} (h : StP H s c P ns) : H s ≠ none := by
  obtain ⟨_, _, a, b, m, hs⟩ := h.1
  rw [hs]
  exact nofun
theorem StP.tabs {H : Hp} {s c P : Addr} {ns : List Int} (h : StP H s c P ns) : LamX.Tabs [(P, lamQ)] H := fun q hq => by
  rw [List.mem_singleton.mp hq]
  exact h.2
theorem nx_new {s p : Addr} {H : Hp} {o : HO} (hp : H p = none) : Same (Nx s H) (Nx s (upd H p o)) := (same_sx (same_new (Same.refl H) hp)).nx
theorem nx_all {s : Addr} {H : Hp} : Same (Nx s H) H := nx_same.trans off_same
theorem sx_nx {s : Addr} {H H' : Hp} (e : Same H H') : Same (Nx s H) (Nx s H') := (same_sx e).nx
theorem nx_at {s p : Addr} {H : Hp} {o : HO} (h : H p = some o) (ps : p ≠ s) (n : ∀ ps, o ≠ .tbl ps) : Nx s H p = some o := nt_of ((off_ne ps).trans h) n
theorem rd_keq {K : PySem.W.Frag} {KC : Addr} {H : Hp} {v w : V} {fs : List FD} {n : Nat} {cs : List CD} {Q : VK} (kv : KdA K KC H v fs n cs) (kw : KdA K KC H w fs n cs) (ok : KdOk fs n cs) (q : Q (.bl false) H) : rNeOwn KC (spKEqX K KC) v w H Q := by
  have kv' := kv
  have kw' := kw
  obtain ⟨x, dx, so, sp, tb, t, st, tv, sv, rfl, h1, _⟩ := kv'
  obtain ⟨y, dy, so', sp', tb', t', st', tv', sv', rfl, g1, _⟩ := kw'
  refine ⟨x, dx, _, y, dy, _, rfl, rfl, h1, g1, .inl ⟨_, _, fs, fs, n, n, cs, cs, rfl, kv, kw, ok, ok, true, ?_, q⟩⟩
  rw [decide_eq_true ⟨rfl, rfl, rfl⟩]
theorem sm_len {fs : List FD} {n : Nat} {cs : List CD} {c : CD} (ok : KdOk fs n cs) (cok : CdOk fs n c) : c.same.length ≤ 3 := by
  have l3 : c.same.length ≤ (fs.map (·.nm)).length := len_sub cok.nd fun z hz => by
    obtain ⟨f, hf, e, _⟩ := cok.same z hz
    exact e ▸ List.mem_map_of_mem hf
  rw [List.length_map] at l3
  exact Nat.le_trans l3 ok.fields.le
def Pick (H : Hp) (z : Str) (x : V) : Prop := Prim x ∨ (∃ b, x = .ref b ∧ H b = some (.dK [])) ∨ ∃ b, x = .ref b ∧ H b = some (.lst [.str z])
theorem Pick.keep {H H' : Hp} {z : Str} {x : V} (e : Same H H') (h : Pick H z x) : Pick H' z x := by
  rcases h with h | ⟨b, r, h⟩ | ⟨b, r, h⟩
  · exact .inl h
  · exact .inr (.inl ⟨b, r, e _ _ h⟩)
  · exact .inr (.inr ⟨b, r, e _ _ h⟩)
theorem Pick.sm {K : PySem.W.Frag} {H : Hp} {z : Str} {x : V} (h : Pick H z x) : Sm K H 1 x x := by
  rcases h with h | ⟨b, r, h⟩ | ⟨b, r, h⟩
  · exact .inl (.inl ⟨rfl, h⟩)
  · exact .inl (.inr ⟨b, b, [], r, r, h, h, List.nodup_nil, nofun⟩)
  · refine .inr ⟨b, b, _, _, r, r, .inl ⟨SqL.of h, SqL.of h⟩, rfl, by show 1 < 100000; decide, fun i u w h1 h2 => ?_⟩
    rw [h1] at h2
    cases h2
    have m := List.mem_of_getElem? h1
    rw [List.mem_singleton.mp m]
    exact .inl ⟨rfl, .inr (.inr (.inr ⟨z, rfl⟩))⟩
theorem Pick.pair {K : PySem.W.Frag} {H : Hp} {z w : Str} {x : V} {p q : Addr} (h : Pick H z x) (hp : H p = some (.tup [.str w, x])) (hq : H q = some (.tup [.str w, x])) : Sm K H 2 (.ref p) (.ref q) := by
  refine .inr ⟨p, q, _, _, rfl, rfl, .inr ⟨SqT.of hp, SqT.of hq⟩, rfl, by show 2 < 100000; decide, fun i u v h1 h2 => ?_⟩
  rw [h1] at h2
  cases h2
  have m := List.mem_of_getElem? h1
  simp only [List.mem_cons, List.not_mem_nil, or_false] at m
  rcases m with rfl | rfl
  · exact .inl (.inl ⟨rfl, .inr (.inr (.inr ⟨w, rfl⟩))⟩)
  · exact h.sm
theorem Pick.tyx {K : PySem.W.Frag} {H : Hp} {z : Str} {x : V} (h : Pick H z x) : (∃ y, x = .str y) ∨ NoStr K H x := by
  rcases h with (rfl | ⟨b, rfl⟩ | ⟨i, rfl⟩ | ⟨y, rfl⟩) | ⟨b, rfl, h⟩ | ⟨b, rfl, h⟩
  · exact .inr ⟨"NoneType", .base .non, by decide +kernel⟩
  · exact .inr ⟨"bool", .base (.bl b), by decide +kernel⟩
  · exact .inr ⟨"int", .base (.int i), by decide +kernel⟩
  · exact .inl ⟨y, rfl⟩
  · exact .inr ⟨"dict", .base (.dK h), by decide +kernel⟩
  · exact .inr ⟨"list", tyx_l (SqL.of h), by decide +kernel⟩

def oddT : List String := ["NoneType", "bool", "int", "str", "dict", "list"]
theorem pick_ty {K : PySem.W.Frag} {H : Hp} {z : Str} {x : V} (h : Pick H z x) : ∃ t ∈ oddT, TyOf K H x (.type t) := by
  rcases h with (rfl | ⟨b, rfl⟩ | ⟨i, rfl⟩ | ⟨y, rfl⟩) | ⟨b, rfl, h⟩ | ⟨b, rfl, h⟩
  · exact ⟨"NoneType", by decide, .non⟩
  · exact ⟨"bool", by decide, .bl b⟩
  · exact ⟨"int", by decide, .int i⟩
  · exact ⟨"str", by decide, .str y⟩
  · exact ⟨"dict", by decide, .dK h⟩
  · exact ⟨"list", by decide, .lst h⟩
theorem nx_put {s lf : Addr} {A B : Hp} {o : HO} (e : Same (Nx s A) (Nx s B)) (n : Nx s A lf = none) : Same (Nx s A) (Nx s (upd B lf o)) := fun b u hb => by
  have bl : b ≠ lf := fun z => by rw [z, n] at hb; cases hb
  obtain ⟨h1, h2⟩ := nt_get (e b u hb)
  have hs : b ≠ s := fun z => by rw [z, off_s] at h1; cases h1
  exact nt_of ((off_ne hs).trans ((upd_ne bl).trans (off_same _ _ h1))) h2
theorem rp_sq {K : PySem.W.Frag} {H : Hp} {v : V} {ys : List V} {L : List Addr} (h : Ho K RP H v ys L) : Sq K H v ys := by
  obtain ⟨xs, L', al, h⟩ := h
  obtain ⟨rfl, _⟩ := rp_eq al
  rcases h with ⟨a, r, h, _⟩ | ⟨h, _⟩
  · exact ⟨a, r, .inl (SqL.of h)⟩
  · exact h.sq
theorem fields_a {K : PySem.W.Frag} {H : Hp} {v : V} {fs : List FD} {L : List Addr} (h : Ho K (fun H v ys L => Ho K RP H v ys L) H v (fs.map FdV) L) : ∃ fvs, Sq K H v fvs ∧ Al (FdA K H) fvs fs := by
  obtain ⟨xs, sq, al⟩ := h.all (S := fun x ys => Sq K H x ys) fun x y M r => rp_sq r
  refine ⟨xs, sq, by rw [al.1, List.length_map], fun i x f h1 h2 => ?_⟩
  exact al.2 i x (FdV f) h1 (by rw [List.getElem?_map, h2]; rfl)
theorem W.up {K : PySem.W.Frag} {H : Hp} : ∀ {n : Nat} {x : V} {L : List Addr}, W K H n x L → W K H (n + 1) x L
  | 0, _, _, h => .inl h
  | n + 1, _, _, h => by
    rcases h with h | ⟨a, xs, Ls, r, ha, hw, e, z⟩ | ⟨a, xs, r, ha, hw, z⟩
    · exact .inl h
    · exact .inr (.inl ⟨a, xs, Ls, r, ha, hw.mono fun _ _ _ _ w => W.up w, e, z⟩)
    · exact .inr (.inr ⟨a, xs, r, ha, hw.mono fun _ _ _ _ w => W.up w, z⟩)
theorem fields_w {K : PySem.W.Frag} {H : Hp} {v : V} {fs : List FD} {L : List Addr} (h : Ho K (fun H v ys L => Ho K RP H v ys L) H v (fs.map FdV) L) (hl : fs.length < 1000) : W K H 2 v L := by
  obtain ⟨xs, L', al, h⟩ := h
  have one : ∀ x (y : List V) M, y.length = 3 → Ho K RP H x y M → W K H 1 x M := fun x y M hy r => r.w (fun x y M r => by
    obtain ⟨r1, r2, r3⟩ := r
    rw [r3]
    exact W.prim r2 0) (by rw [hy]; decide)
  have wl : WL (W K H 1) xs L' := by
    have gen : ∀ {xs : List V} {fs : List FD} {L' : List Addr}, AlL ((fun H v ys L => Ho K RP H v ys L) H) xs (fs.map FdV) L' → WL (W K H 1) xs L' := by
      intro xs
      induction xs with
      | nil =>
        intro fs L' h
        cases fs with
        | nil => exact h
        | cons f fs => exact h.elim
      | cons x xs ih =>
        intro fs L' h
        cases fs with
        | nil => exact h.elim
        | cons f fs =>
          obtain ⟨M1, M2, e, r, t⟩ := h
          exact ⟨M1, M2, e, one x (FdV f) M1 rfl r, ih t⟩
    exact gen al
  have xl : xs.length < 1000 := by rw [al.len, List.length_map]; exact hl
  rcases h with ⟨a, r, h, q⟩ | ⟨⟨a, r, h⟩, q⟩
  · exact .inr (.inl ⟨a, xs, L', r, h, wl, q, xl⟩)
  · exact .inr (.inr ⟨a, xs, r, h, q ▸ wl, xl⟩)
theorem calls_w {K : PySem.W.Frag} {H : Hp} {v : V} {fs : List FD} {n : Nat} {cs : List CD} {L : List Addr} (ok : KdOk fs n cs) (h : Ho K (CdP K) H v cs L) : W K H 4 v L := by
  obtain ⟨xs, L', al, h⟩ := h
  have wl : WL (W K H 3) xs L' := by
    have gen : ∀ {xs : List V} {ds : List CD} {L' : List Addr}, (∀ c ∈ ds, CdOk fs n c) → AlL (CdP K H) xs ds L' → WL (W K H 3) xs L' := by
      intro xs
      induction xs with
      | nil =>
        intro ds L' _ h
        cases ds with
        | nil => exact h
        | cons f fs => exact h.elim
      | cons x xs ih =>
        intro ds L' hc h
        cases ds with
        | nil => exact h.elim
        | cons c ds =>
          obtain ⟨M1, M2, e, r, t⟩ := h
          have cok := hc c List.mem_cons_self
          exact ⟨M1, M2, e, CdP.w r cok ok.le (sm_len ok cok), ih (fun d hd => hc d (List.mem_cons_of_mem _ hd)) t⟩
    exact gen ok.calls al
  have xl : xs.length < 1000 := by rw [al.len]; have := ok.cle; omega
  rcases h with ⟨a, r, h, q⟩ | ⟨⟨a, r, h⟩, q⟩
  · exact .inr (.inl ⟨a, xs, L', r, h, wl, q, xl⟩)
  · exact .inr (.inr ⟨a, xs, r, h, q ▸ wl, xl⟩)
/-! ### what stays when lists are changed -/
theorem Chg.off {L : List Addr} {H H' : Hp} {s : Addr} (c : Chg L H H') (hs : s ∉ L) : Chg L (Off s H) (Off s H') := by
  refine ⟨fun b o hb hn => ?_, fun b hb => ?_⟩
  · by_cases z : b = s
    · rw [z, off_s] at hb; cases hb
    · rw [off_ne z] at hb ⊢
      exact c.1 b o hb hn
  · obtain ⟨ys, h⟩ := c.2 b hb
    exact ⟨ys, (off_ne fun z => hs (by rw [← z]; exact hb)).trans h⟩
theorem lst_off {L : List Addr} {H : Hp} {s : Addr} (l : LstAt L H) (hs : s ∉ L) : LstAt L (Off s H) := fun b hb => by
  obtain ⟨ys, h⟩ := l b hb
  exact ⟨ys, (off_ne fun z => hs (by rw [← z]; exact hb)).trans h⟩
theorem Tu.chg {K : PySem.W.Frag} {M : List Addr} {H H' : Hp} {v : V} {xs : List V} (c : Chg M H H') (l : LstAt M H) (h : Tu K H v xs) : Tu K H' v xs := by
  obtain ⟨a, r, h⟩ := h
  exact ⟨a, r, sqt_chg c l h⟩
theorem CdT.chg {K : PySem.W.Frag} {M : List Addr} {H H' : Hp} {v : V} {cd : CD} (c : Chg M H H') (l : LstAt M H) (h : CdT K H v cd) : CdT K H' v cd := by
  obtain ⟨m, d, s, ds, h1, h2, h3, h4, h5⟩ := h
  exact ⟨m, d, s, ds, h1.chg c l, h2.chg c l, h3.chg c l, h4.mono fun _ _ h => Tu.chg c l h, h5.chg c l⟩
theorem KdA.chg {K : PySem.W.Frag} {KC : Addr} {M : List Addr} {H H' : Hp} {v : V} {fs : List FD} {n : Nat} {cs : List CD} (c : Chg M H H') (l : LstAt M H) (h : KdA K KC H v fs n cs) : KdA K KC H' v fs n cs := by
  obtain ⟨x, dx, so, sp, tb, t, st, tv, sv, h0, h1, h2, h3, h4, h5, h6, h7, h8⟩ := h
  have at_ : ∀ {b : Addr} {o : HO}, H b = some o → (∀ ys, o ≠ .lst ys) → H' b = some o := fun hb n => c.1 _ _ hb fun z => by
    obtain ⟨ys, e⟩ := l _ z
    rw [hb] at e
    exact n ys (Option.some.inj e)
  exact ⟨x, dx, so, sp, tb, t, st, tv, sv, h0, at_ h1 nofun, h2.chg c l, h3.mono fun _ _ h => Tu.chg c l h, at_ h4 nofun, at_ h5 nofun, h6.chg c l, h7.mono fun _ _ h => CdT.chg c l h, at_ h8 nofun⟩
theorem tab_chg {M : List Addr} {H H' : Hp} {P : Addr} {q : Str} (c : Chg M H H') (l : LstAt M H) (t : LamX.TabS H P q) : LamX.TabS H' P q := by
  have at_ : ∀ {b : Addr} {o : HO}, H b = some o → (∀ ys, o ≠ .lst ys) → H' b = some o := fun hb n => c.1 _ _ hb fun z => by
    obtain ⟨ys, e⟩ := l _ z
    rw [hb] at e
    exact n ys (Option.some.inj e)
  obtain ⟨ps, h1, h2, h3⟩ := t
  refine ⟨ps, at_ h1 nofun, h2, fun pos cv hc => ?_⟩
  obtain ⟨c', e1, e2⟩ := h3 pos cv hc
  exact ⟨c', e1, at_ e2 fun ys z => by
    unfold LamX.CodeO at z
    cases z⟩
theorem StA.chg {M : List Addr} {H H' : Hp} {s c : Addr} {ns : List Int} (h : StA H s c ns) (ch : Chg M H H') (hs : s ∉ M) (hc : c ∉ M) : StA H' s c ns := by
  obtain ⟨n, e1, p, q, m, e2⟩ := h
  exact ⟨n, ch.1 _ _ e1 hc, p, q, m, ch.1 _ _ e2 hs⟩
theorem StA.held {H : Hp} {s c : Addr} {ns : List Int} (h : StA H s c ns) {M : List Addr} (f : Fresh H M) : s ∉ M ∧ c ∉ M := by
  obtain ⟨n, e1, p, q, m, e2⟩ := h
  constructor
  · intro z
    have := f s z
    rw [e2] at this
    cases this
  · intro z
    have := f c z
    rw [e1] at this
    cases this
theorem fresh_nx {M : List Addr} {s : Addr} {H : Hp} (f : Fresh H M) : Fresh (Nx s H) M := fun b hb => by
  cases q : Nx s H b with
  | none => rfl
  | some o =>
    have h3 := off_same _ _ (nt_get q).1
    rw [f b hb] at h3
    cases h3
theorem wl_app {R : V → List Addr → Prop} : ∀ {xs ys : List V} {L M : List Addr}, WL R xs L → WL R ys M → WL R (xs ++ ys) (L ++ M)
  | [], ys, L, M, h, r => by
    rw [show L = [] from h]
    exact r
  | x :: xs, ys, L, M, ⟨M1, M2, e, r1, h⟩, r => ⟨M1, M2 ++ M, by rw [e, List.append_assoc], r1, wl_app h r⟩
theorem flat_w {K : PySem.W.Frag} {H : Hp} {a : Addr} {xs : List V} (h : H a = some (.lst xs)) (hp : ∀ x ∈ xs, Prim x) (hz : xs.length < 1000) (n : Nat) : W K H (n + 1) (.ref a) [a] :=
  .inr (.inl ⟨a, xs, [], rfl, h, WL.flat fun x hx => W.prim (hp x hx) n, rfl, hz⟩)
theorem tup_w {K : PySem.W.Frag} {H : Hp} {v : V} {xs : List V} (h : Tu K H v xs) (hp : ∀ x ∈ xs, Prim x) (hz : xs.length < 1000) (n : Nat) : W K H (n + 1) v [] := by
  obtain ⟨a, r, h⟩ := h
  exact .inr (.inr ⟨a, xs, r, h, WL.flat fun x hx => W.prim (hp x hx) n, hz⟩)
theorem fdv_prim (f : FD) : ∀ x ∈ FdV f, Prim x := fun x m => by
  simp only [FdV, List.mem_cons, List.not_mem_nil, or_false] at m
  rcases m with rfl | rfl | rfl
  · exact prim_str _
  · exact prim_str _
  · exact prim_bl _
theorem dev_prim (d : Str × Str) : ∀ x ∈ DeV d, Prim x := fun x m => by
  simp only [DeV, List.mem_cons, List.not_mem_nil, or_false] at m
  rcases m with rfl | rfl <;> exact prim_str _
theorem cdw_w {K : PySem.W.Frag} {H : Hp} {v : V} {c : CD} {L : List Addr} (h : CdW K H v c L) (z1 : c.moves.length < 1000) (z2 : c.deeds.length < 1000) (z3 : c.same.length < 1000) : W K H 3 v L := by
  obtain ⟨ra, am, ad, as, ds, rfl, h1, h2, h3, h4, h5, rfl⟩ := h
  have w1 : W K H 2 (.ref am) [am] := flat_w h2 (fun x hx => by obtain ⟨z, _, rfl⟩ := List.mem_map.mp hx; exact prim_int z) (by rw [List.length_map]; exact z1) 1
  have w2 : W K H 2 (.ref ad) [ad] := .inr (.inl ⟨ad, ds, [], rfl, h3, WL.flat fun x hx => by
    obtain ⟨d, _, r⟩ := h4.mem hx
    exact tup_w r (dev_prim d) (by show 2 < 1000; decide) 0, rfl, by rw [h4.1]; exact z2⟩)
  have w3 : W K H 2 (.ref as) [as] := flat_w h5 (fun x hx => by obtain ⟨z, _, rfl⟩ := List.mem_map.mp hx; exact prim_str z) (by rw [List.length_map]; exact z3) 1
  exact .inr (.inr ⟨ra, _, rfl, SqT.of h1, ⟨[], _, rfl, W.prim (prim_str _) 2, [], _, rfl, W.prim (prim_str _) 2, [am], _, rfl, w1, [ad], _, rfl, w2, [as], [], rfl, w3, rfl⟩, by show 5 < 1000; decide⟩)
theorem all_w {K : PySem.W.Frag} {H : Hp} {xs : List V} {cs : List CD} {L : List Addr} (h : AlL (CdW K H) xs cs L) (z : ∀ c ∈ cs, c.moves.length < 1000 ∧ c.deeds.length < 1000 ∧ c.same.length < 1000) : WL (W K H 3) xs L := by
  have gen : ∀ {xs : List V} {ds : List CD} {L : List Addr}, (∀ c ∈ ds, c.moves.length < 1000 ∧ c.deeds.length < 1000 ∧ c.same.length < 1000) → AlL (CdW K H) xs ds L → WL (W K H 3) xs L := by
    intro xs
    induction xs with
    | nil =>
      intro ds L _ h
      cases ds with
      | nil => exact h
      | cons f fs => exact h.elim
    | cons x xs ih =>
      intro ds L hc h
      cases ds with
      | nil => exact h.elim
      | cons c ds =>
        obtain ⟨M1, M2, e, r, t⟩ := h
        have q := hc c List.mem_cons_self
        exact ⟨M1, M2, e, cdw_w r q.1 q.2.1 q.2.2, ih (fun d hd => hc d (List.mem_cons_of_mem _ hd)) t⟩
  exact gen z h
theorem nx_chg {M : List Addr} {s : Addr} {H3 H H' : Hp} (e : Same (Nx s H3) (Nx s H)) (f : Fresh (Nx s H3) M) (c : Chg M H H') : Same (Nx s H3) (Nx s H') := fun b o hb => by
  obtain ⟨h1, h2⟩ := nt_get hb
  have h3 := off_same _ _ h1
  have hs : b ≠ s := fun z => by rw [z, off_s] at h1; cases h1
  have h5 := nt_get (e b o hb)
  exact nt_of ((off_ne hs).trans (c.1 b o (off_same _ _ h5.1) fun z => by have := f b z; rw [hb] at this; cases this)) h2
section
variable {P : Program} {w : World} {K : PySem.W.Frag} {mg : Str → Option Value} {base : Heap} {C : Cst} {KC CU fq fh g fe cl Pl f1 f2 f3 f4 f5 f6 f7 : Addr} {fdq fdh fdt fde d1 d2 d3 d4 d5 d6 d7 : FuncData} {A : EB}
theorem run_law {f : Addr} (T : Txt K mg) (Z : KCls K KC) (Y : KIns K KC) (kS : PySem.W.kitOne K (.ref KC) (.type "str") = some false) (kO : ∀ t ∈ oddT, PySem.W.kitOne K (.type t) (.ref KC) = some false) (nF : ∀ t ∈ oddT, PySem.W.notFirst K KC (.type t) = true) (Wr : ErrN K mg A) (c_fresh : Cal P w K mg base CX0 1 "_law_fresh" (spFresh K)) (c_kind : Cal P w K mg base CX0 9 "_law_kind" (spLawKind K KC)) (c_in_lists : Cal P w K mg base CX0 6 "_law_in_lists" (spIn (GS K (GS K G0)) (fun H v ys L => Ho K (fun H v ys L => Ho K RP H v ys L) H v ys L))) (c_deep : Cal P w K mg base CX0 4 "_law_deep" (spDeep K))
    (c_spoil : Cal P w K mg base CX0 6 "_law_spoil" (spSpoil K 5)) (c_is_told : Cal P w K mg base CX0 7 "_law_is_told" (spIsTold K KC)) (c_unlike : Cal P w K mg base CX0 8 "_law_unlike" (spUnlike K KC)) (c_same : Cal P w K mg base CX0 3 "_law_same" (spSame K 2)) (c_Kind : KMk P w K mg base KC) (c_Kind0 : KMk0 P w K mg base KC)
    (M : KM P w K mg base KC A.UnknownCall f1 f2 f3 f4 f5 f6 f7 d1 d2 d3 d4 d5 d6 d7)
    (H_eq : FnOk P w K mg base CX0 1 fq fdq ["self", "other"] (spKEqX K KC) ∧ PySem.W.findIn K (.ref KC) "__ne__" = some (some (.builtin "object.__ne__")) ∧ PySem.W.findIn K (.ref KC) "__eq__" = some (some (.ref fq)) ∧ PySem.W.isFn K (.ref fq) = true ∧ PySem.W.subIn K (.ref KC) (.type "object") = some true ∧ Binds K fdq ["self", "other"] [])
    (H_has : FnOk P w K mg base CX0 1 fh fdh ["self", "x"] (spHasX K KC) ∧ PySem.W.findIn K (.ref KC) "__contains__" = some (some (.ref fh)) ∧ PySem.W.isFn K (.ref fh) = true ∧ Binds K fdh ["self", "x"] [])
    (F_tried : DefX K mg "_law_tried" s_tried ["_law_deed"] g fdt) (F_err : FnP P w K mg base 1 fe fde ["_law_e"] (spErrW A)) (H_err : mg "_law_error" = some (.ref fe) ∧ PySem.W.keepIn K (.ref fe) = true ∧ Binds K fde ["_law_e"] []) (TB : LamX.TabB base mg cl Pl)
    {Ar : Around} {outer : List Env} {sh : Shared} {H : Hp} {Q : VK} {E : XK} (hr : Room 11 (Ar.deeper (envOfC "law" (defScope s_law) sh.heap.objs.size f (.ref cl)))) {a : Addr} {ns : List Int} (hS : SqL K H a (ns.map V.int)) (hn : ns.length ≤ 63) (hP : H Pl = some (.tbl #[])) (k : ∀ H', Q (.bl true) H') :
    ∃ t, PSs (cxOf CX0 P w K mg base ["_law_script", "_law_state", "_law_turn", "_law_p", "_law_fields", "_law_calls", "_law_kind_here", "_law_row", "_law_odd", "_law_found", "_law_x"] "law" (defScope s_law) f (.ref cl) Ar outer sh H E).nox (defBody s_law) t ∧ t { nx := fun _ H' => Q .non H', rt := Q } (start ["_law_script", "_law_state", "_law_turn", "_law_p", "_law_fields", "_law_calls", "_law_kind_here", "_law_row", "_law_odd", "_law_found", "_law_x"] [.ref a]) H := by
  refine ⟨_, (pss_cons (ps_set (i := 1) sc_law.nd rfl (Or.inl rfl) (pe_c c_fresh hr (by first | decide | assumption) rfl (pa_cons (pv 0) pa_nil)))
(pss_cons (ps_for PassesOwn.never rfl (pi_range1 (by rfl) T.range (pa_cons pe_int pa_nil)) (pg_name (i := 2) sc_law.nd rfl (Or.inl rfl))
(pss_cons (ps_set (i := 3) sc_law.nd rfl (Or.inl rfl) (pe_c c_kind hr (by first | decide | assumption) rfl (pa_cons (pv 1) (pa_cons pe_int (pa_cons pe_int (pa_cons pe_int pa_nil))))))
(pss_cut (ps_par (i := 4) (j := 5) (by rfl) sc_law.nd rfl rfl (by decide) rfl rfl (pa_cons (pe_c c_in_lists hr (by first | decide | assumption) rfl (pa_cons (pv 1) (pa_cons (pe_cut (pe_callTy call_tuple_of (by rfl) T.tuple (by decide +kernel) (pa_cons (pe_dget (hu_of hr) (pv 3) pe_str (fun _ _ => rfl)) pa_nil))) pa_nil))) (pa_cons (pe_c c_deep hr (by first | decide | assumption) rfl (pa_cons (pv 1) (pa_cons (pe_dget (hu_of hr) (pv 3) pe_str (fun _ _ => rfl)) pa_nil))) pa_nil)) (by rfl))
(pss_cut (ps_set (i := 6) sc_law.nd rfl (Or.inr rfl) (pe_cut (pe_ifExp (pt_cmpR op_gt (pe_dget (hu_of hr) (pv 3) pe_str (fun _ _ => rfl)) pe_int (nomark _)) (pe_kind c_Kind hr (by first | decide | assumption) rfl (pa_cons (pv 4) (pa_cons (pv 5) pa_nil)) (pk_cons (pe_dget (hu_of hr) (pv 3) pe_str (fun _ _ => rfl)) pk_nil)) (pe_kind0 c_Kind0 hr (by first | decide | assumption) rfl (pa_cons (pv 4) (pa_cons (pv 5) pa_nil))))))
(pss_cut (ps_expr (pe_c c_spoil hr (by first | decide | assumption) rfl (pa_cons (pe_lst (pa_cons (pv 4) (pa_cons (pv 5) pa_nil))) pa_nil)))
(pss_cut (ps_if (pt_not (pt_val (pe_c c_is_told hr (by first | decide | assumption) rfl (pa_cons (pv 3) (pa_cons (pv 6) pa_nil)))))
(pss_one (ps_ret pe_bl))
pss_nil)
(pss_cut (ps_expr (pe_c c_spoil hr (by first | decide | assumption) rfl (pa_cons (pe_op op_cat (pe_lst (pa_cons (pe_meth0 (pv 6) Z.cls M.fields.1 M.fields.2.1 (hr.mono (by decide)) M.fields.2.2 .nil pass0) (pa_cons (pe_meth0 (pv 6) Z.cls M.calls.1 M.calls.2.1 (hr.mono (by decide)) M.calls.2.2 .nil pass0) (pa_cons (pe_meth0 (pv 6) Z.cls M.names.1 M.names.2.1 (hr.mono (by decide)) M.names.2.2 .nil pass0) pa_nil)))) (pe_lc (own := [("_law_row", 7)]) (g := (gName 7)) (tt := tYes) rfl sc_law.nd (pi_list (pe_dget (hu_of hr) (pv 3) pe_str (fun _ _ => rfl))) (blkOk_by (own := [("_law_row", 7)]) (N := ["_law_script", "_law_state", "_law_turn", "_law_p", "_law_fields", "_law_calls", "_law_kind_here", "_law_row", "_law_odd", "_law_found", "_law_x"]) (sc := defScope s_law) (by decide +kernel)) (fun _ _ _ _ _ => (pg_name (i := 7) sc_law.nd rfl (Or.inl rfl))) (fun _ _ _ _ _ => pts_nil) (fun _ _ _ _ _ => (pe_ixOwn (pv 6) (pe_ix (ix_tupK (K := K) rfl) (pv 7) pe_int (fun _ _ => rfl)) M.get.1 M.get.2.1 M.get.2.2.1 M.get.2.2.2.1 M.get.2.2.2.2 (hr.mono (by decide)) passes_cx0 (fun _ _ => by with_unfolding_all rfl))))) pa_nil)))
(pss_cut (ps_if (pt_cut (PW.pt (pw_or (pt_not (pt_val (pe_c c_is_told hr (by first | decide | assumption) rfl (pa_cons (pv 3) (pa_cons (pv 6) pa_nil))))) (pw_or (pt_cmpR (op_neOwn H_eq.1 H_eq.2.1 H_eq.2.2.1 H_eq.2.2.2.1 H_eq.2.2.2.2.1 H_eq.2.2.2.2.2 (hr.mono (by decide))) (pv 6) (pe_dget (hu_of hr) (pv 3) pe_str (fun _ _ => rfl)) (nomark _)) (pw_or1 (pt_cmpR (op_eqOwn H_eq.1 H_eq.2.2.1 H_eq.2.2.2.1 H_eq.2.2.2.2.2 (hr.mono (by decide))) (pv 6) (pe_c c_unlike hr (by first | decide | assumption) rfl (pa_cons (pv 1) (pa_cons (pv 3) pa_nil))) (nomark _)))))))
(pss_one (ps_ret pe_bl))
pss_nil)
(pss_one (ps_for PassesOwn.never rfl (pi_list (pe_lst (pa_cons pe_non (pa_cons pe_int (pa_cons pe_str (pa_cons (pe_lst (pa_cons (pe_ix ix_tup (pe_ix ix_list (pe_dget (hu_of hr) (pv 3) pe_str (fun _ _ => rfl)) pe_int (fun _ _ => rfl)) pe_int (fun _ _ => rfl)) pa_nil)) (pa_cons pe_dnewK (pa_cons (pv 6) (pa_cons pe_str (pa_cons pe_bl pa_nil)))))))))) (pg_name (i := 8) sc_law.nd rfl (Or.inr rfl))
(pss_cons (ps_set (i := 9) sc_law.nd rfl (Or.inl rfl) (pe_lst (pa_cons (pe_tried F_tried F_err Wr H_err TB rfl (hr.mono (by decide)) (show LamX.LamS (defScope s_law) _ from LamX.lamS_by (by decide +kernel)) rfl (fun _ _ _ _ _ => rfl) (fun A2 outer2 s2 H2 E2 f2 c2 hr2 => pe_ixOwn (pv 6) (pv 8) M.get.1 M.get.2.1 M.get.2.2.1 M.get.2.2.2.1 M.get.2.2.2.2 hr2 (passes_call (takes_of rfl rfl rfl rfl) (fun _ _ _ _ h => h)) (fun _ _ => by with_unfolding_all rfl))) pa_nil)))
(pss_cons (ps_expr (pe_bm PySem.F.plainAttrs_list PySem.F.slot_list_append PySem.F.type_list_append mt_append (pv 9) (pa_cons (pe_tried F_tried F_err Wr H_err TB rfl (hr.mono (by decide)) (show LamX.LamS (defScope s_law) _ from LamX.lamS_by (by decide +kernel)) rfl (fun _ _ _ _ _ => rfl) (fun A2 outer2 s2 H2 E2 f2 c2 hr2 => pe_meth (pv 6) Z.cls M.takes.1 M.takes.2.1 hr2 M.takes.2.2 .nil (passes_call (takes_of rfl rfl rfl rfl) (fun _ _ _ _ h => h)) (pa_cons (pv 8) pa_nil))) pa_nil)))
(pss_cons (ps_if (pt_cut (PW.pt (pw_or (pt_cmpR (op_inOwn H_has.1 H_has.2.1 H_has.2.2.1 H_has.2.2.2 (hr.mono (by decide))) (pv 8) (pv 6) (by rfl)) (pw_or (pt_not (pt_val (pe_callB (cr_all rfl) (by rfl) T.all (by decide +kernel) (pa_cons (pe_lc (own := [("_law_x", 10)]) (g := (gName 10)) (tt := tYes) rfl sc_law.nd (pi_list (pv 9)) (blkOk_by (own := [("_law_x", 10)]) (N := ["_law_script", "_law_state", "_law_turn", "_law_p", "_law_fields", "_law_calls", "_law_kind_here", "_law_row", "_law_odd", "_law_found", "_law_x"]) (sc := defScope s_law) (by decide +kernel)) (fun _ _ _ _ _ => (pg_name (i := 10) sc_law.nd rfl (Or.inl rfl))) (fun _ _ _ _ _ => pts_nil) (fun _ _ _ _ _ => (pe_cmpR op_eq (pe_ix (ix_tupK (K := K) rfl) (pv 10) pe_int (fun _ _ => rfl)) pe_str (nomark _)))) pa_nil)))) (pw_or1 (pt_cut (PW.pt (pw_and (pt_cmpR ((op_eqOwn H_eq.1 H_eq.2.2.1 H_eq.2.2.2.1 H_eq.2.2.2.2.2 (hr.mono (by decide))).or (op_eqOdd H_eq.1 H_eq.2.2.1 H_eq.2.2.2.1 H_eq.2.2.2.2.2 (hr.mono (by decide)))) (pv 6) (pv 8) (nomark _)) (pw_and1 (pt_cmpR op_isN (pv 8) pe_non (nomark _)))))))))))
(pss_one (ps_ret pe_bl))
pss_nil)
(pss_one (ps_if (pt_cut (PW.pt (pw_and (pt_not (pt_val (pe_callB call_isi (by rfl) T.isinstance (by decide +kernel) (pa_cons (pv 8) (pa_cons (pe_refv (by rfl) c_Kind.g) pa_nil))))) (pw_and1 (pt_not (pt_val (pe_c c_same hr (by first | decide | assumption) rfl (pa_cons (pe_lc (own := [("_law_x", 10)]) (g := (gName 10)) (tt := tYes) rfl sc_law.nd (pi_list (pv 9)) (blkOk_by (own := [("_law_x", 10)]) (N := ["_law_script", "_law_state", "_law_turn", "_law_p", "_law_fields", "_law_calls", "_law_kind_here", "_law_row", "_law_odd", "_law_found", "_law_x"]) (sc := defScope s_law) (by decide +kernel)) (fun _ _ _ _ _ => (pg_name (i := 10) sc_law.nd rfl (Or.inl rfl))) (fun _ _ _ _ _ => pts_nil) (fun _ _ _ _ _ => (pe_ix (ix_tupK (K := K) rfl) (pv 10) pe_int (fun _ _ => rfl)))) (pa_cons (pe_lst (pa_cons (pv 8) (pa_cons (pv 8) pa_nil))) pa_nil)))))))))
(pss_one (ps_ret pe_bl))
pss_nil)))))))))))))))
(pss_one (ps_ret pe_bl)))), ?_⟩
  refine ⟨_, rfl, a, ns, rfl, hS, hn, fun s c H0 e0 hs0 hc0 hS0 => ?_⟩
  have hP0 : StP H0 s c Pl ns := ⟨hS0, LamX.TabS.nil (e0 _ _ hP)⟩
  refine ⟨4, rfl, by decide, by decide, for_range (n := 4) (fun i σ H2 => StP H2 s c Pl ns ∧ ∃ x2 x3 x4 x5 x6 x7 x8 x9 x10, σ = [some (.ref a), some (.ref s), x2, x3, x4, x5, x6, x7, x8, x9, x10]) ⟨hP0, _, _, _, _, _, _, _, _, _, rfl⟩ ?_ ?_⟩
  · rintro i σ H2 hi ⟨h1, x2, x3, x4, x5, x6, x7, x8, x9, x10, rfl⟩
    refine ⟨_, rfl, s, c, ns, 3, 6, 3, rfl, h1.1, hn, by decide, by decide, by decide, by decide, by decide, by decide, fun p H3 fs n cs e3 hS3 ok _ hfn nle hnm hlast pl => ?_⟩
    have h3 := h1.sx e3 hS3
    have pl3 : PlanA K KC (Nx s H3) p fs n cs := pl.nt
    obtain ⟨pa, l1, l2, kv, fvs, cvs, rfl, p1, p2, p3, p4, p5, p6⟩ := id pl3
    have fl := ok.fields.le
    have ccl := ok.cle
    -- what is passed
    refine ⟨fun σ H5 => ∃ fv cv Lf Lc, StP H5 s c Pl ns ∧ Same (Nx s H3) (Nx s H5) ∧ Ho K (fun H v ys L => Ho K RP H v ys L) (Off s H5) fv (fs.map FdV) Lf ∧ Ho K (CdP K) (Off s H5) cv cs Lc ∧ Fresh H3 (Lf ++ Lc) ∧ (Lf ++ Lc).Nodup ∧ Held (Lf ++ Lc) H5 ∧ ∃ x2 x6 x7 x8 x9 x10, σ = [some (.ref a), some (.ref s), x2, some (.ref pa), some fv, some cv, x6, x7, x8, x9, x10], ?_, ?_⟩
    · refine ⟨_, rfl, fun v H4 => Same H3 H4 ∧ ∃ q, v = .ref q ∧ H4 q = some (.tup fvs) ∧ q ≠ s, ?_, ?_⟩
      · exact ⟨_, rfl, pa, .ref l1, rfl, DGet.k (k := .inr "fields") (nx_all _ _ p1), l1, fvs, rfl, .inl ⟨SqL.of (nx_all _ _ p2), fun q hq => ⟨same_new (Same.refl H3) hq, q, rfl, upd_same, (h3.1.ne hq).1⟩⟩⟩
      rintro v H4 ⟨e4, q, rfl, hq, qs⟩
      have h4 := h3.keep e4
      have gs : GS K (GS K G0) (Off s H4) (.ref q) (fs.map FdV) := by
        refine ⟨fvs, Tu.tup ((off_ne qs).trans hq), ⟨by rw [p3.1, List.length_map], fun i x y h1 h2 => ?_⟩, by rw [List.length_map]; omega⟩
        rw [List.getElem?_map] at h2
        obtain ⟨f, hf, rfl⟩ := Option.map_eq_some_iff.mp h2
        refine ⟨FdV f, FdT.keep (nx_same.trans (same_off e4)) (p3.2 i x f h1 hf), ⟨rfl, fun j u w g1 g2 => ?_⟩, by show 3 ≤ 10; decide⟩
        rw [g1] at g2
        cases g2
        refine ⟨rfl, ?_⟩
        have m := List.mem_of_getElem? g1
        simp only [FdV, List.mem_cons, List.not_mem_nil, or_false] at m
        rcases m with rfl | rfl | rfl
        · exact prim_str _
        · exact prim_str _
        · exact prim_bl _
      refine ⟨s, c, ns, .ref q, fs.map FdV, rfl, h4.1, hn, gs, fun fv Lf H5 e5 h5' rf frf ndf hdf => ?_⟩
      have h5 := h4.sx e5 h5'
      have e35 : Same (Nx s H3) (Nx s H5) := (sx_nx e4).trans e5.nx
      refine ⟨_, rfl, _, rfl, pa, .ref l2, rfl, DGet.k (k := .inr "calls") (nx_all _ _ (e35 _ _ p1)), ?_⟩
      refine ⟨s, c, l2, ns, cvs, cs, rfl, h5', hn, nx_same _ _ (e35 _ _ p4), p5.mono fun _ _ h => CdL.keep (e35.trans nx_same) h, ccl, fun cd hcd => (ok.calls cd hcd).deeds, fun cv Lc H6 e6 h6 rc frc ndc hdc => ⟨_, _, rfl, ?_⟩⟩
      obtain ⟨zs, hs6⟩ := h6.at
      have x35 : SameX s H3 H5 := (same_sx e4).trans e5
      refine ⟨fv, cv, Lf, Lc, h5.sx e6 h6, e35.trans e6.nx, (ho_ok (ho_ok rp_ok)).keep e6.off rf, rc, fresh_app (fun b hb => none_of e4 (frf b hb)) (fresh_back x35 h5' frc), nodup_app ndf ndc hdf frc, held_app (sx_held e6 hs6 hdf) hdc, _, _, _, _, _, _, rfl⟩
    rintro σ H5 ⟨fv, cv, Lf, Lc, h5, e5, hf5, hc5, fr5, nd5, hd5, x2', x6', x7', x8', x9', x10', rfl⟩
    -- the kind
    refine ⟨fun σ H6 => ∃ kh, StP H6 s c Pl ns ∧ Same (Nx s H3) (Nx s H6) ∧ W K (Off s H6) 2 fv Lf ∧ W K (Off s H6) 4 cv Lc ∧ Held (Lf ++ Lc) H6 ∧ KdA K KC (Off s H6) kh fs n cs ∧ ∃ x2 x7 x8 x9 x10, σ = [some (.ref a), some (.ref s), x2, some (.ref pa), some fv, some cv, some kh, x7, x8, x9, x10], ?_, ?_⟩
    · obtain ⟨fvs', sf, af⟩ := fields_a hf5
      obtain ⟨cvs', sc', ac⟩ := hc5.all (S := CdA K (Off s H5)) fun _ _ _ r => CdP.a r
      have pa5 := nx_all _ _ (e5 _ _ p1)
      refine ⟨fun v H' => Same H5 H' ∧ KdA K KC (Off s H') v fs n cs, ?_, ?_⟩
      · refine ⟨_, rfl, pa, .int n, rfl, DGet.k (k := .inr "modes") pa5, _, _, rfl, rfl, _, rfl, ite2 (fun _ => ?_) (fun h => ?_)⟩
        · exact ⟨fun v H' => Same H5 H' ∧ KdA K KC (Off s H') v fs n cs, ⟨_, rfl, _, rfl, _, rfl, pa, .int n, rfl, DGet.k (k := .inr "modes") pa5, rfl, rfl, rd_kindM (s := s) h5.ns sf af sc' ac ok⟩, fun _ _ h => h⟩
        · have n1 : n = 1 := by
            have np := ok.pos
            have : ¬ ((1 : Int) < n) := fun z => h (decide_eq_true z)
            omega
          subst n1
          exact ⟨fun v H' => Same H5 H' ∧ KdA K KC (Off s H') v fs 1 cs, ⟨_, rfl, _, rfl, rd_kindM (s := s) h5.ns sf af sc' ac ok⟩, fun _ _ h => h⟩
      rintro v H6 ⟨e6, kd⟩
      have e6' := same_off (s := s) e6
      refine ⟨v, h5.keep e6, e5.trans (sx_nx e6), (fields_w hf5 (by omega)).keep e6', (calls_w ok hc5).keep e6', held_same e6 hd5, kd, _, _, _, _, _, rfl⟩
    rintro σ H6 ⟨kh, h6, e6, wf6, wc6, hd6, kd6, x2'', x7'', x8'', x9'', x10'', rfl⟩
    have sc3 := h3.1.held fr5
    have none6 : ∀ {b : Addr}, H6 b = none → Nx s H3 b = none := fun {b} hb => by
      cases q : Nx s H3 b with
      | none => rfl
      | some o =>
        have h := nx_all _ _ (e6 _ _ q)
        rw [hb] at h
        cases h
    -- what was passed is changed
    refine ⟨fun σ H8 => StP H8 s c Pl ns ∧ Same (Nx s H3) (Nx s H8) ∧ KdA K KC (Off s H8) kh fs n cs ∧ ∃ x2 x4 x5 x7 x8 x9 x10, σ = [some (.ref a), some (.ref s), x2, some (.ref pa), x4, x5, some kh, x7, x8, x9, x10], ?_, ?_⟩
    · refine ⟨_, rfl, _, rfl, by show 2 ≤ sizeLine; decide, fun q hq => ?_⟩
      have e67 : Same H6 (upd H6 q (.lst [fv, cv])) := same_new (Same.refl H6) hq
      have qn := h6.1.ne hq
      have wl : W K (upd H6 q (.lst [fv, cv])) 5 (.ref q) (q :: (Lf ++ Lc)) := .inr (.inl ⟨q, _, Lf ++ Lc, rfl, upd_same, ⟨Lf, Lc, rfl, ((wf6.keep (off_same.trans e67)).up).up, Lc, [], (List.append_nil _).symm, wc6.keep (off_same.trans e67), rfl⟩, rfl, by show 2 < 1000; decide⟩)
      have l7 := wl.lsts
      have sL : s ∉ q :: (Lf ++ Lc) := fun z => (List.mem_cons.mp z).elim (fun e => qn.1 e.symm) sc3.1
      have cL : c ∉ q :: (Lf ++ Lc) := fun z => (List.mem_cons.mp z).elim (fun e => qn.2 e.symm) sc3.2
      have fL : Fresh (Nx s H3) (q :: (Lf ++ Lc)) := fun b hb => by
        rcases List.mem_cons.mp hb with rfl | hb
        · exact none6 hq
        · exact fresh_nx fr5 b hb
      refine ⟨.ref q, q :: (Lf ++ Lc), rfl, wl, List.nodup_cons.mpr ⟨fun z => hd6 q z hq, nd5⟩, fun H8 c8 => ?_⟩
      have h7 := h6.keep e67
      exact ⟨⟨h7.1.chg c8 sL cL, tab_chg c8 l7 h7.2⟩, nx_chg (e6.trans (sx_nx e67)) fL c8, (kd6.keep (same_off e67)).chg (c8.off sL) (lst_off l7 sL), _, _, _, _, _, _, _, rfl⟩
    rintro σ H8 ⟨h8, e8, kd8, y2, y4, y5, y7, y8, y9, y10, rfl⟩
    -- told
    refine ⟨fun σ H9 => StP H9 s c Pl ns ∧ Same (Nx s H3) (Nx s H9) ∧ KdA K KC (Off s H9) kh fs n cs ∧ ∃ x2 x4 x5 x7 x8 x9 x10, σ = [some (.ref a), some (.ref s), x2, some (.ref pa), x4, x5, some kh, x7, x8, x9, x10], ?_, ?_⟩
    · exact ⟨_, rfl, _, rfl, s, pa, kh, fs, n, cs, rfl, h8.ns, pl3.keep (e8.trans nx_same), kd8, ok, fun H9 e9 => ⟨true, rfl, iteF ⟨h8.keep e9, e8.trans (sx_nx e9), kd8.keep (same_off e9), _, _, _, _, _, _, _, rfl⟩⟩⟩
    rintro σ H9 ⟨h9, e9, kd9, y2', y4', y5', y7', y8', y9', y10', rfl⟩
    have csz : ∀ c ∈ cs, c.moves.length < 1000 ∧ c.deeds.length < 1000 ∧ c.same.length < 1000 := fun c hc => by
      have o := ok.calls c hc
      have n4 := ok.le
      have d4 := o.deeds
      have s3 := sm_len ok o
      exact ⟨by rw [o.len]; omega, by omega, by omega⟩
    obtain ⟨ka, kdx, kso, ksp, ktb, kt, kst, ktv, ksv, rfl, kk1, krest⟩ := id kd9
    have g9 := off_same _ _ kk1
    have none9 : ∀ {b : Addr}, H9 b = none → Nx s H3 b = none := fun {b} hb => by
      cases q : Nx s H3 b with
      | none => rfl
      | some o =>
        have h := nx_all _ _ (e9 _ _ q)
        rw [hb] at h
        cases h
    refine ⟨fun σ H16 => StP H16 s c Pl ns ∧ Same (Nx s H3) (Nx s H16) ∧ KdA K KC (Off s H16) (.ref ka) fs n cs ∧ ∃ x2 x4 x5 x7 x8 x9 x10, σ = [some (.ref a), some (.ref s), x2, some (.ref pa), x4, x5, some (.ref ka), x7, x8, x9, x10], ?_, ?_⟩
    · refine ⟨_, rfl, ka, kdx, _, rfl, g9, rfl, ?_⟩
      refine ⟨s, .ref ka, fs, n, cs, rfl, h9.ns, kd9, fun lf tvf H10 e10 nlf hlf alf => ?_⟩
      have h10 := h9.keep e10
      refine ⟨_, rfl, ka, kdx, _, rfl, e10 _ _ g9, rfl, ?_⟩
      refine ⟨s, .ref ka, fs, n, cs, rfl, h10.ns, kd9.keep (same_off e10), ccl, fun lc xs Lx H11 e11 frc ndc hlc alc => ?_⟩
      have e911 := e10.trans e11
      have h11 := h10.keep e11
      refine ⟨_, rfl, ka, kdx, _, rfl, e911 _ _ g9, rfl, ?_⟩
      refine ⟨.ref ka, fs, n, cs, rfl, (kd9.keep (same_off e911)).keep off_same, fun ln H12 e12 nln hln => ?_⟩
      have e912 := e911.trans e12
      have h12 := h11.keep e12
      refine ⟨by show 3 ≤ sizeLine; decide, fun q1 hq1 => ?_⟩
      have e13 := same_new (Same.refl H12) hq1 (o := .lst [.ref lf, .ref lc, .ref ln])
      have vq1 : upd H12 q1 (.lst [.ref lf, .ref lc, .ref ln]) q1 = some (.lst [.ref lf, .ref lc, .ref ln]) := upd_same
      revert e13 vq1
      generalize upd H12 q1 (.lst [.ref lf, .ref lc, .ref ln]) = H13
      intro e13 vq1
      have e913 := e912.trans e13
      have h13 := h12.keep e13
      have e313 : Same (Nx s H3) (Nx s H13) := e9.trans (sx_nx e913)
      refine ⟨_, rfl, pa, .ref l2, rfl, DGet.k (k := .inr "calls") (nx_all _ _ (e313 _ _ p1)), l2, rfl, ⟨cvs, SqL.of (nx_all _ _ (e313 _ _ p4))⟩, fun D hD => ?_⟩
      have Ds := (h13.1.ne hD).1
      refine lc_it (walk_list (K := K) (a := l2) (xs := cvs)) (fun i H14 => ColS (fun H v (c : CD) L => CdW K H v c L) s H13 D cs i H14) (ColS.init hD) (fun i H14 _ h => SqL.of (h.1 _ _ (nx_all _ _ (e313 _ _ p4)))) ?_ ?_
      · rintro i2 x H15 H14 hi2 col ⟨rfl, hx⟩
        obtain ⟨c0, hc0, m0, d0, sm0, ds0, ⟨ra, rfl, t1⟩, _⟩ := p5.get hx
        refine ⟨rfl, ?_⟩
        refine ⟨_, rfl, _, rfl, ra, _, 0, .str c0.nm, rfl, rfl, same_t ((e313.trans nx_all).trans col.1) t1, rfl, ka, kdx, _, rfl, col.1 _ _ (e913 _ _ g9), ?_⟩
        refine ⟨s, .ref ka, .str c0.nm, fs, n, cs, rfl, kept_s h13.ns col.1, kd9.keep (same_off (e913.trans col.1)), ok, .inr ⟨i2, c0, hc0, rfl, fun r H17 L4 e4 r4 fr4 nd4 => ?_⟩⟩
        obtain ⟨ws, dw, wl, col'⟩ := col.step cdw_ok hD Ds hc0 e4 r4 fr4 nd4 (cdw_held r4)
        exact ⟨ws, dw, Nat.lt_of_le_of_lt (by rw [wl, List.length_take]; omega : _ ≤ 6) (by decide), col'⟩
      rintro H14 ⟨e14, ws, Lt, dw, frt, ndt, hdt, alt⟩
      rw [p5.1, List.take_length] at alt
      have h14 := h13.keep e14
      have wsl : ws.length ≤ 6 := by rw [alt.len]; exact ccl
      refine ⟨q1, D, _, _, rfl, rfl, e14 _ _ vq1, dw, Nat.le_trans (by show 3 + ws.length ≤ 9; omega) (by decide), fun q2 hq2 => ?_⟩
      have e15 := same_new (Same.refl H14) hq2 (o := .lst ([.ref lf, .ref lc, .ref ln] ++ ws))
      have vq2 : upd H14 q2 (.lst ([.ref lf, .ref lc, .ref ln] ++ ws)) q2 = some (.lst ([.ref lf, .ref lc, .ref ln] ++ ws)) := upd_same
      have q2n := h14.1.ne hq2
      revert e15 vq2
      generalize upd H14 q2 (.lst ([.ref lf, .ref lc, .ref ln] ++ ws)) = H15
      intro e15 vq2
      have h15 := h14.keep e15
      have e1015 := (e11.trans e12).trans ((e13.trans e14).trans e15)
      have e1115 := e12.trans ((e13.trans e14).trans e15)
      have e1215 := (e13.trans e14).trans e15
      have w1 : W K H15 4 (.ref lf) [lf] := .inr (.inl ⟨lf, tvf, [], rfl, e1015 _ _ hlf, WL.flat fun x hx => by
        obtain ⟨f, _, r⟩ := alf.mem hx
        exact tup_w (FdT.keep (off_same.trans e1015) r) (fdv_prim f) (by show 3 < 1000; decide) 2, rfl, by rw [alf.1]; omega⟩)
      have w2 : W K H15 4 (.ref lc) (lc :: Lx) := .inr (.inl ⟨lc, xs, Lx, rfl, e1115 _ _ hlc, all_w (alc.mono fun _ _ _ r => CdW.keep (off_same.trans e1115) r) csz, rfl, by rw [alc.len]; omega⟩)
      have w3 : W K H15 4 (.ref ln) [ln] := flat_w (e1215 _ _ hln) (fun x hx => by obtain ⟨c, _, rfl⟩ := List.mem_map.mp hx; exact prim_str _) (by rw [List.length_map]; omega) 3
      have w4 : WL (W K H15 4) ws Lt := (all_w (alt.mono fun _ _ _ r => CdW.keep ((off_same.trans off_same).trans e15) r) csz).mono fun _ _ _ _ w => W.up w
      have wl : W K H15 5 (.ref q2) (q2 :: ([lf] ++ ((lc :: Lx) ++ ([ln] ++ Lt)))) := .inr (.inl ⟨q2, _, _, rfl, vq2, ⟨[lf], _, rfl, w1, lc :: Lx, _, rfl, w2, [ln], _, rfl, w3, w4⟩, rfl, by rw [List.length_append]; show 3 + ws.length < 1000; omega⟩)
      have l15 := wl.lsts
      -- none twice
      have hlf10 : Held [lf] H10 := fun b hb => by rw [List.mem_singleton.mp hb, hlf]; exact nofun
      have hc11 : Held (lc :: Lx) H11 := fun b hb => by
        obtain ⟨ys, q⟩ := l15 b (List.mem_cons_of_mem _ (List.mem_append_right _ (List.mem_append_left _ hb)))
        rcases List.mem_cons.mp hb with rfl | hb
        · rw [hlc]; exact nofun
        · have aw := al_wl (S := fun x M => LstAt M (Off s H11)) (fun x y M r => by
            obtain ⟨ra, am, ad, as, ds, _, _, g2, g3, _, g5, rfl⟩ := r
            intro b hb
            simp only [List.mem_cons, List.not_mem_nil, or_false] at hb
            rcases hb with rfl | rfl | rfl
            · exact ⟨_, g2⟩
            · exact ⟨_, g3⟩
            · exact ⟨_, g5⟩) alc
          obtain ⟨y, _, M, r, m⟩ := aw.mem hb
          obtain ⟨ys', q'⟩ := r b m
          rw [off_same _ _ q']; exact nofun
      have hn12 : Held [ln] H12 := fun b hb => by rw [List.mem_singleton.mp hb, hln]; exact nofun
      have fln : Fresh H11 [ln] := fun b hb => by rw [List.mem_singleton.mp hb]; exact nln
      have nd1 : ([ln] ++ Lt).Nodup := nodup_app (by simp) (List.nodup_cons.mp ndt).2 (held_same e13 hn12) frt
      have ft11 : Fresh H11 ([ln] ++ Lt) := fresh_app fln fun b hb => none_of (e12.trans e13) (frt b hb)
      have nd2 : ((lc :: Lx) ++ ([ln] ++ Lt)).Nodup := nodup_app ndc nd1 hc11 ft11
      have ft10 : Fresh H10 ((lc :: Lx) ++ ([ln] ++ Lt)) := fresh_app frc fun b hb => none_of e11 (ft11 b hb)
      have nd3 : ([lf] ++ ((lc :: Lx) ++ ([ln] ++ Lt))).Nodup := nodup_app (by simp) nd2 hlf10 ft10
      have ft9 : Fresh H9 ([lf] ++ ((lc :: Lx) ++ ([ln] ++ Lt))) := fresh_app (fun b hb => by rw [List.mem_singleton.mp hb]; exact nlf) fun b hb => none_of e10 (ft10 b hb)
      have hd14 : ∀ b ∈ [lf] ++ ((lc :: Lx) ++ ([ln] ++ Lt)), H14 b ≠ none := held_app (held_same (((e11.trans e12).trans e13).trans e14) hlf10) (held_app (held_same ((e12.trans e13).trans e14) hc11) (held_app (held_same (e13.trans e14) hn12) hdt))
      have sc9 := h9.1.held ft9
      have sL : s ∉ q2 :: ([lf] ++ ((lc :: Lx) ++ ([ln] ++ Lt))) := fun z => (List.mem_cons.mp z).elim (fun e => q2n.1 e.symm) sc9.1
      have cL : c ∉ q2 :: ([lf] ++ ((lc :: Lx) ++ ([ln] ++ Lt))) := fun z => (List.mem_cons.mp z).elim (fun e => q2n.2 e.symm) sc9.2
      have e915 : Same H9 H15 := e913.trans (e14.trans e15)
      have fL : Fresh (Nx s H3) (q2 :: ([lf] ++ ((lc :: Lx) ++ ([ln] ++ Lt)))) := fun b hb => by
        rcases List.mem_cons.mp hb with rfl | hb
        · exact none9 (none_of (e913.trans e14) hq2)
        · exact none9 (ft9 b hb)
      refine ⟨.ref q2, q2 :: ([lf] ++ ((lc :: Lx) ++ ([ln] ++ Lt))), rfl, wl, List.nodup_cons.mpr ⟨fun z => hd14 q2 z hq2, nd3⟩, fun H16 c16 => ?_⟩
      exact ⟨⟨h15.1.chg c16 sL cL, tab_chg c16 l15 h15.2⟩, nx_chg (e9.trans (sx_nx e915)) fL c16, (kd9.keep (same_off e915)).chg (c16.off sL) (lst_off l15 sL), _, _, _, _, _, _, _, rfl⟩
    rintro σ H16 ⟨h16, e16, kd16, z2, z4, z5, z7, z8, z9, z10, rfl⟩
    have kv16 : KdA K KC (Nx s H16) kv fs n cs := p6.keep e16
    refine ⟨fun σ H19 => StP H19 s c Pl ns ∧ Same (Nx s H3) (Nx s H19) ∧ KdA K KC (Nx s H19) (.ref ka) fs n cs ∧ ∃ x2 x4 x5 x7 x8 x9 x10, σ = [some (.ref a), some (.ref s), x2, some (.ref pa), x4, x5, some (.ref ka), x7, x8, x9, x10], ?_, ?_⟩
    · refine ⟨fun b H19 => b = false ∧ StP H19 s c Pl ns ∧ Same (Nx s H3) (Nx s H19) ∧ KdA K KC (Nx s H19) (.ref ka) fs n cs, ?_, ?_⟩
      · refine ⟨_, rfl, _, rfl, s, pa, .ref ka, fs, n, cs, rfl, h16.ns, pl3.keep (e16.trans nx_same), kd16, ok, fun H17 e17 => ⟨true, rfl, iteF ?_⟩⟩
        have kd17 := kd16.keep (same_off e17)
        have h17 := h16.keep e17
        have e317 := e16.trans (sx_nx e17)
        refine ⟨_, rfl, _, rfl, pa, kv, rfl, DGet.k (k := .inr "known") (nx_all _ _ (e317 _ _ p1)), ?_⟩
        refine rd_keq (kd17.keep off_same) (p6.keep (e317.trans nx_all)) ok ⟨_, rfl, iteF ?_⟩
        refine ⟨_, rfl, _, rfl, _, rfl, s, c, pa, ns, fs, n, cs, rfl, h17.1, hn, pl3.keep (e317.trans nx_same), ok, hnm, fun v H18 fs' cs' e18 h18 kd' ok' ne' => ?_⟩
        have kd18 : KdA K KC H18 (.ref ka) fs n cs := (kd17.keep e18.off).keep off_same
        obtain ⟨ya, ydx, yso, ysp, ytb, yt, yst, ytv, ysv, rfl, yk1, yrest⟩ := id (kd'.keep off_same)
        obtain ⟨_, kdx', _, _, _, _, _, _, _, ee, kk1', _⟩ := id kd18
        cases ee
        refine ⟨ka, kdx', _, ya, ydx, _, rfl, rfl, kk1', yk1, .inl ⟨.ref ka, .ref ya, fs, fs', n, n, cs, cs', rfl, kd18, kd'.keep off_same, ok, ok', _, rfl, _, rfl, decide_eq_false fun z => ne' ⟨z.1, z.2.2⟩, h17.sx e18 h18, e317.trans e18.nx, (kd17.keep e18.off).nt⟩⟩
      · rintro b H19 ⟨rfl, h19, e19, kd19⟩
        exact iteF ⟨h19, e19, kd19, _, _, _, _, _, _, _, rfl⟩
    rintro σ H19 ⟨h19, e19, kd19, z2', z4', z5', z7', z8', z9', z10', rfl⟩
    obtain ⟨v0, hv0, m0, d0, sm0, ds0, ⟨ra, rfl, t1⟩, _⟩ := p5.get' (i := 0) (List.getElem?_eq_getElem (by have := ok.cpos; omega))
    have at0 : atI cvs 0 = some (.ref ra) := atI_nat (j := 0) hv0
    generalize hz0 : (cs[0]'(by have := ok.cpos; omega)) = c0 at t1
    refine ⟨_, rfl, pa, .ref l2, rfl, DGet.k (k := .inr "calls") (nx_all _ _ (e19 _ _ p1)), l2, cvs, 0, .ref ra, rfl, rfl, SqL.of (nx_all _ _ (e19 _ _ p4)), at0, ra, _, 0, .str c0.nm, rfl, rfl, same_t (e19.trans nx_all) t1, rfl, by show 1 ≤ sizeLine; decide, fun k2 hk2 => fun k1 hk1 => ⟨_, rfl, by show 8 ≤ sizeLine; decide, fun q hq => ⟨q, rfl, ⟨_, SqL.of upd_same⟩, ?_⟩⟩⟩
    have f1 := same_new (Same.refl H19) hk2 (o := .lst [.str c0.nm])
    have f2 := same_new f1 hk1 (o := .dK [])
    have f3 := same_new f2 hq (o := .lst [.non, .int 5, .str "other", .ref k2, .ref k1, .ref ka, .str "", .bl true])
    have v2 := (same_new (same_new (Same.refl _) hk1 (o := .dK [])) hq (o := .lst [.non, .int 5, .str "other", .ref k2, .ref k1, .ref ka, .str "", .bl true])) k2 _ upd_same
    have v1 := (same_new (Same.refl _) hq (o := .lst [.non, .int 5, .str "other", .ref k2, .ref k1, .ref ka, .str "", .bl true])) k1 _ upd_same
    have vq : upd (upd (upd H19 k2 (.lst [.str c0.nm])) k1 (.dK [])) q (.lst [.non, .int 5, .str "other", .ref k2, .ref k1, .ref ka, .str "", .bl true]) q = some (.lst [.non, .int 5, .str "other", .ref k2, .ref k1, .ref ka, .str "", .bl true]) := upd_same
    have k2s := (h19.1.ne hk2).1
    have k1s := ((h19.keep f1).1.ne hk1).1
    have qs := ((h19.keep f2).1.ne hq).1
    revert f3 v2 v1 vq
    generalize upd (upd (upd H19 k2 (.lst [.str c0.nm])) k1 (.dK [])) q (.lst [.non, .int 5, .str "other", .ref k2, .ref k1, .ref ka, .str "", .bl true]) = H22
    intro f3 v2 v1 vq
    have h22 := h19.keep f3
    have kd22 : KdA K KC (Nx s H22) (.ref ka) fs n cs := kd19.keep (sx_nx f3)
    obtain ⟨_, kdx2, _, _, _, _, _, _, _, ee2, kk2, _⟩ := id kd22
    cases ee2
    have nq : Nx s H22 q = _ := nx_at vq qs nofun
    refine for_list (K := K) (a := q) (xs := [.non, .int 5, .str "other", .ref k2, .ref k1, .ref ka, .str "", .bl true]) (fun j σ H' => StP H' s c Pl ns ∧ Same (Nx s H22) (Nx s H') ∧ ∃ x2 x4 x5 x7 x8 x9 x10, σ = [some (.ref a), some (.ref s), x2, some (.ref pa), x4, x5, some (.ref ka), x7, x8, x9, x10])
      ⟨h22, Same.refl _, _, _, _, _, _, _, _, rfl⟩ (fun j σ H' _ h => SqL.of (nx_all _ _ (h.2.1 _ _ nq))) ?_ ?_
    · rintro j y σ H23 hy ⟨h23, e23, w2, w4, w5, w7, w8, w9, w10, rfl⟩
      have my := List.mem_of_getElem? hy
      simp only [List.mem_cons, List.not_mem_nil, or_false] at my
      have od : Pick (Nx s H22) c0.nm y ∨ y = .ref ka := by
        rcases my with rfl | rfl | rfl | rfl | rfl | rfl | rfl | rfl
        · exact .inl (.inl (.inl rfl))
        · exact .inl (.inl (prim_int 5))
        · exact .inl (.inl (prim_str _))
        · exact .inl (.inr (.inr ⟨k2, rfl, nx_at v2 k2s nofun⟩))
        · exact .inl (.inr (.inl ⟨k1, rfl, nx_at v1 k1s nofun⟩))
        · exact .inr rfl
        · exact .inl (.inl (prim_str _))
        · exact .inl (.inl (prim_bl true))
      have sty : ∀ z, y = .str z → z ∉ cs.map (·.nm) := by
        rintro z rfl
        have ez : z = ("other" : Str) ∨ z = ("" : Str) := by
          rcases my with e | e | e | e | e | e | e | e
          · cases e
          · cases e
          · exact .inl (V.str.inj e)
          · cases e
          · cases e
          · cases e
          · exact .inr (V.str.inj e)
          · cases e
        obtain ⟨j, _, ej⟩ := hnm
        rw [ej]
        intro m
        have m2 : z ∈ callNames ++ (["build"] : List Str) := (List.mem_append.mp m).elim (fun m => List.mem_append_left _ (List.mem_of_mem_take m)) fun m => List.mem_append_right _ m
        rcases ez with rfl | rfl
        · exact absurd m2 (by decide +kernel)
        · exact absurd m2 (by decide +kernel)
      have hx : ∀ {H' : Hp}, Same (Nx s H22) (Nx s H') → (NoS K H' y ∨ ∃ z, y = .str z ∧ z ∉ cs.map (·.nm)) := fun {H'} e => by
        rcases od with od | rfl
        · rcases (od.keep (e.trans nx_all)).tyx (K := K) with ⟨z, hz⟩ | h
          · exact .inr ⟨z, hz, sty z hz⟩
          · exact .inl h.s
        · exact .inl ⟨.ref KC, .base (.ins (nx_all _ _ (e _ _ kk2)) Z.cls Y.ha Y.hn Y.htk Y.hm), kS⟩
      have lf22 : ∀ {H' : Hp} {b : Addr}, Same (Nx s H22) (Nx s H') → H' b = none → Nx s H22 b = none := fun {H'} {b} e hb => by
        cases q : Nx s H22 b with
        | none => rfl
        | some o =>
          have z := nx_all _ _ (e _ _ q)
          rw [hb] at z
          cases z
      refine ⟨h23.tabs, fun H24 eN tb => ?_⟩
      have h24 := h23.ext eN tb
      have e24 := e23.trans (ext_nx (s := s) eN)
      refine ⟨_, rfl, _, rfl, ka, kdx2, _, rfl, nx_all _ _ (e24 _ _ kk2), s, .ref ka, y, fs, n, cs, rfl, h24.ns, kd22.keep (e24.trans nx_same), ok, .inl ⟨hx e24, fun d H25 e25 hd hxd => ⟨.inl rfl, fun ae hae => ⟨rfl, d, y, rfl, .inl ⟨rfl, hxd, fun t1 ht1 => ?_⟩⟩⟩⟩⟩
      refine ⟨by show 1 ≤ sizeLine; decide, fun lf hlf => ?_⟩
      have f1 := same_new e25 ht1 (o := .tup [.str "unknown", y])
      have h26 := h24.keep f1
      have e26 := e24.trans (sx_nx (s := s) f1)
      have vt1 : upd H25 t1 (.tup [.str "unknown", y]) t1 = some (.tup [.str "unknown", y]) := upd_same
      revert hlf f1 h26 e26 vt1
      generalize upd H25 t1 (.tup [.str "unknown", y]) = H26
      intro hlf f1 h26 e26 vt1
      have lfs := (h26.1.ne hlf).1
      have h27 := h26.keep (same_new (Same.refl _) hlf (o := .lst [.ref t1]))
      refine ⟨_, rfl, .inl ⟨rfl, _, SqL.of upd_same⟩, h27.tabs, fun H28 eN2 tb2 => ?_⟩
      have h28 := h27.ext eN2 tb2
      have e28 := (e26.trans (sx_nx (s := s) (same_new (Same.refl _) hlf (o := .lst [.ref t1])))).trans (ext_nx (s := s) eN2)
      refine ⟨_, rfl, ka, kdx2, _, rfl, nx_all _ _ (e28 _ _ kk2), rfl, _, rfl, s, .ref ka, y, fs, n, cs, rfl, h28.ns, kd22.keep (e28.trans nx_same), ok, .inl ⟨hx e28, fun d2 H29 e29 hd2 hxd2 => ⟨.inl rfl, fun ae2 hae2 => ⟨rfl, d2, y, rfl, .inl ⟨rfl, hxd2, fun t2 ht2 => ?_⟩⟩⟩⟩⟩
      have l28 := eN2 lf _ upd_same nofun
      have f3' := same_new e29 ht2 (o := .tup [.str "unknown", y])
      have h30 := h28.keep f3'
      have e30 := e28.trans (sx_nx (s := s) f3')
      have l30 := f3' _ _ l28
      have t1lf : t1 ≠ lf := ne_of_none vt1 hlf
      have t30 : upd H29 t2 (.tup [.str "unknown", y]) t1 = some (.tup [.str "unknown", y]) := f3' _ _ (eN2 t1 _ ((upd_ne t1lf).trans vt1) nofun)
      have u30 : upd H29 t2 (.tup [.str "unknown", y]) t2 = some (.tup [.str "unknown", y]) := upd_same
      have t2lf : t2 ≠ lf := fun z => by
        subst z
        rw [e29 _ _ l28] at ht2
        cases ht2
      revert f3' h30 e30 l30 t30 u30
      generalize upd H29 t2 (.tup [.str "unknown", y]) = H30
      intro f3' h30 e30 l30 t30 u30
      refine ⟨lf, [.ref t1], .ref t2, rfl, rfl, l30, by show 1 < sizeLine; decide, ?_⟩
      have sL : s ∉ [lf] := fun z => lfs (List.mem_singleton.mp z).symm
      have c30 : Chg [lf] H30 (upd H30 lf (.lst ([.ref t1] ++ [.ref t2]))) := ⟨fun b o hb hn => (upd_ne fun z => hn (List.mem_singleton.mpr z)).trans hb, fun b hb => by
        rw [List.mem_singleton.mp hb]
        exact ⟨_, upd_same⟩⟩
      have z30 : LstAt [lf] H30 := fun b hb => by
        rw [List.mem_singleton.mp hb]
        exact ⟨_, l30⟩
      have cL : c ∉ [lf] := fun z => (h26.1.ne hlf).2 (List.mem_singleton.mp z).symm
      have h31 : StP (upd H30 lf (.lst ([.ref t1] ++ [.ref t2]))) s c Pl ns := ⟨h30.1.chg c30 sL cL, tab_chg c30 z30 h30.2⟩
      have e31 : Same (Nx s H22) (Nx s (upd H30 lf (.lst ([.ref t1] ++ [.ref t2])))) := nx_put e30 (lf22 e26 hlf)
      have l31 : upd H30 lf (.lst ([.ref t1] ++ [.ref t2])) lf = some (.lst [.ref t1, .ref t2]) := upd_same
      have t31 := (upd_ne (H := H30) (o := .lst ([.ref t1] ++ [.ref t2])) t1lf).trans t30
      have u31 := (upd_ne (H := H30) (o := .lst ([.ref t1] ++ [.ref t2])) t2lf).trans u30
      revert h31 e31 l31 t31 u31
      generalize upd H30 lf (.lst ([.ref t1] ++ [.ref t2])) = H31
      intro h31 e31 l31 t31 u31
      have lw : ∀ {H' : Hp}, Same H31 H' → ∀ (i : Nat) (x : V), [V.ref t1, .ref t2][i]? = some x → ∃ p, x = .ref p ∧ H' p = some (.tup [.str "unknown", y]) := fun e i x hx => by
        have m := List.mem_of_getElem? hx
        simp only [List.mem_cons, List.not_mem_nil, or_false] at m
        rcases m with rfl | rfl
        · exact ⟨_, rfl, e _ _ t31⟩
        · exact ⟨_, rfl, e _ _ u31⟩
      have oz : ∀ {H' : Hp}, Same (Nx s H22) (Nx s H') → Pick H' c0.nm y ∨ y = .ref ka := fun {H'} e => by
        rcases od with od | rfl
        · exact .inl (od.keep (e.trans nx_all))
        · exact .inr rfl
      refine ⟨fun b H' => b = false ∧ Same H31 H', ?_, ?_⟩
      · have hasx : ∀ (Q : V → Hp → Prop) (E : XK), Q (.bl false) H31 → spHasX K KC [.ref ka, y] H31 Q E := fun Q E q => by
          refine ⟨_, y, fs, n, cs, rfl, kd22.keep (e31.trans nx_all), ?_⟩
          rcases hx e31 with h | ⟨z, rfl, hz⟩
          · exact .inr ⟨h, q⟩
          · exact .inl ⟨z, rfl, by rw [decide_eq_false hz]; exact q⟩
        refine ⟨_, rfl, _, rfl, ka, kdx2, _, rfl, nx_all _ _ (e31 _ _ kk2), hasx _ _ ?_⟩
        refine ⟨_, rfl, _, rfl, iteF ?_⟩
        refine ⟨_, rfl, lf, rfl, ⟨_, SqL.of l31⟩, fun D hD => ?_⟩
        refine lc_it (walk_list (K := K) (a := lf) (xs := [.ref t1, .ref t2])) (fun i H' => Same H31 H' ∧ H' D = some (.lst ((List.replicate i true).map V.bl))) ⟨same_new (Same.refl _) hD, upd_same⟩ (fun i H' _ h => SqL.of (h.1 _ _ l31)) ?_ ?_
        · rintro i x H3' H2' hi ⟨e2, d2⟩ ⟨rfl, hx2⟩
          obtain ⟨p, rfl, hp⟩ := lw e2 i x hx2
          refine ⟨rfl, ?_⟩
          refine ⟨_, rfl, p, _, 0, .str "unknown", rfl, rfl, SqT.of hp, rfl, rfl, _, d2, ?_, fun b o hb => ?_, ?_⟩
          · rw [List.length_map, List.length_replicate]
            exact Nat.lt_trans hi (by show 2 < sizeLine; decide)
          · rw [upd_ne (ne_of_none hb hD)]
            exact e2 _ _ hb
          · rw [upd_same, List.replicate_succ', List.map_append, decide_eq_true rfl]
            rfl
        rintro H33 ⟨e33, d33⟩
        refine ⟨D, List.replicate 2 true, rfl, SqL.of d33, _, rfl, iteF ?_⟩
        refine ⟨fun b H' => b = false ∧ Same H31 H', ?_, fun b H' h => h⟩
        refine ⟨_, rfl, _, rfl, ?_⟩
        have e33' := e31.trans (sx_nx (s := s) e33)
        rcases oz e33' with pk | rfl
        · obtain ⟨t, ht, ty⟩ := pick_ty (K := K) pk
          exact .inr ⟨ka, kdx2, _, t, rfl, nx_all _ _ (e33' _ _ kk2), ty, nF t ht, .inr ⟨_, _, .type t, rfl, .base ty, kO t ht, _, rfl, _, rfl, iteF ⟨rfl, e33⟩⟩⟩
        · refine .inl ⟨ka, kdx2, _, ka, kdx2, _, rfl, rfl, nx_all _ _ (e33' _ _ kk2), nx_all _ _ (e33' _ _ kk2), .inl ⟨_, _, fs, fs, n, n, cs, cs, rfl, kd22.keep (e33'.trans nx_all), kd22.keep (e33'.trans nx_all), ok, ok, _, rfl, _, rfl, ?_⟩⟩
          show ite _ _ _
          split
          · exact ⟨_, rfl, rfl, _, rfl, decide_eq_false nofun, e33⟩
          · exact ⟨rfl, e33⟩
      · rintro b H32 ⟨rfl, e32⟩
        refine iteF ?_
        have e32' := e31.trans (sx_nx (s := s) e32)
        refine ⟨fun b H' => b = false ∧ Same H32 H', ?_, ?_⟩
        · refine ⟨_, rfl, ?_⟩
          rcases oz e32' with pk | rfl
          · obtain ⟨t, ht, ty⟩ := pick_ty (K := K) pk
            refine ⟨_, _, _, .ref KC, false, rfl, .own _, .base ty, kO t ht, _, rfl, iteT ?_⟩
            refine ⟨_, rfl, lf, rfl, ⟨_, SqL.of (e32 _ _ l31)⟩, fun D hD => ?_⟩
            refine lc_it (walk_list (K := K) (a := lf) (xs := [.ref t1, .ref t2])) (fun i H' => Same H32 H' ∧ H' D = some (.lst (List.replicate i y))) ⟨same_new (Same.refl _) hD, upd_same⟩ (fun i H' _ h => SqL.of (h.1 _ _ (e32 _ _ l31))) ?_ ?_
            · rintro i x H3' H2' hi ⟨e2, d2⟩ ⟨rfl, hx2⟩
              obtain ⟨p, rfl, hp⟩ := lw (e32.trans e2) i x hx2
              refine ⟨rfl, ?_⟩
              refine ⟨_, rfl, p, _, 1, y, rfl, rfl, SqT.of hp, rfl, _, d2, ?_, fun b o hb => ?_, ?_⟩
              · rw [List.length_replicate]
                exact Nat.lt_trans hi (by show 2 < sizeLine; decide)
              · rw [upd_ne (ne_of_none hb hD)]
                exact e2 _ _ hb
              · rw [upd_same, List.replicate_succ']
            rintro H33 ⟨e33, d33⟩
            refine ⟨_, rfl, _, rfl, by show 2 ≤ sizeLine; decide, fun p2 hp2 => ?_⟩
            have f2 := same_new (Same.refl H33) hp2 (o := .lst [y, y])
            refine ⟨.ref D, .ref p2, rfl, .inr ⟨D, p2, [y, y], [y, y], rfl, rfl, .inl ⟨SqL.of (f2 _ _ d33), SqL.of upd_same⟩, rfl, by show 2 < 100000; decide, fun i u w h1 h2 => ?_⟩, fun H' e => ⟨true, rfl, rfl, e33.trans (f2.trans e)⟩⟩
            rw [h1] at h2
            cases h2
            have m := List.mem_of_getElem? h1
            simp only [List.mem_cons, List.not_mem_nil, or_false, or_self] at m
            rw [m]
            exact (pk.keep (e33.trans f2)).sm
          · exact ⟨_, _, .ref KC, .ref KC, true, rfl, .own _, .base (.ins (nx_all _ _ (e32' _ _ kk2)) Z.cls Y.ha Y.hn Y.htk Y.hm), if_pos (beq_self_eq_true _), true, rfl, iteF ⟨rfl, Same.refl _⟩⟩
        rintro b H34 ⟨rfl, e34⟩
        exact iteF ⟨h31.keep (e32.trans e34), e32'.trans (sx_nx (s := s) e34), _, _, _, _, _, _, _, rfl⟩
    · rintro σ H23 ⟨h23, e23, w2, w4, w5, w7, w8, w9, w10, rfl⟩
      exact ⟨h23, _, _, _, _, _, _, _, _, _, rfl⟩
  · rintro σ H2 ⟨h1, x2, x3, x4, x5, x6, x7, x8, x9, x10, rfl⟩
    exact k _
end
end MK

set_option Elab.async false
set_option linter.all false
set_option autoImplicit false
set_option maxRecDepth 100000
set_option maxHeartbeats 4000000
namespace MK
open PySem PySem.Spec PyProof.Rows L2
local macro_rules | `(tactic| walk_at "x") => `(tactic| dsimp only [tSeq, tAsg, tRet, tDrop, tLst, tTup, tCons, tOp, tUn, tIfS])
/-! ### the errors that are raised -/
abbrev s_UnknownCall_init : Stmt := inClass (topS 6) 0
theorem sc_UnknownCall_init : FnScope ["self", "name"] ["self", "name"] (defScope s_UnknownCall_init) := ⟨rfl, rfl, rfl, by decide +kernel, rfl, by decide +kernel, by decide +kernel⟩
abbrev s_BadPlace_init : Stmt := inClass (topS 7) 0
theorem sc_BadPlace_init : FnScope ["self", "place"] ["self", "place"] (defScope s_BadPlace_init) := ⟨rfl, rfl, rfl, by decide +kernel, rfl, by decide +kernel, by decide +kernel⟩
section
variable {P : Program} {w : World} {K : PySem.W.Frag} {mg : Str → Option Value} {base : Heap}
theorem ok_UnknownCall {f C : Addr} {fd : FuncData} (F : Fun K "__init__" "UnknownCall.__init__" s_UnknownCall_init f fd) (T : OexC K C) (hn : PySem.W.findIn K (.ref C) "name" = some none) : FnOk P w K mg base CX0 1 f fd ["self", "name"] (spErr1 C "name") := by
  refine F.ok sc_UnknownCall_init (fun vs H Q E h => ?_) (fun cdv A outer s H vs Q E hr h => ?_)
  · obtain ⟨a, v, rfl, _⟩ := h
    rfl
  · obtain ⟨a, v, rfl, ha, k⟩ := h
    exact ⟨_, (pss_one (ps_ost (pv 0) (pv 1))), ⟨_, rfl, _, rfl, a, C, rfl, T, hn, .inl ⟨ha, k⟩⟩⟩
theorem ok_BadPlace {f C : Addr} {fd : FuncData} (F : Fun K "__init__" "BadPlace.__init__" s_BadPlace_init f fd) (T : OexC K C) (hn : PySem.W.findIn K (.ref C) "place" = some none) : FnOk P w K mg base CX0 1 f fd ["self", "place"] (spErr1 C "place") := by
  refine F.ok sc_BadPlace_init (fun vs H Q E h => ?_) (fun cdv A outer s H vs Q E hr h => ?_)
  · obtain ⟨a, v, rfl, _⟩ := h
    rfl
  · obtain ⟨a, v, rfl, ha, k⟩ := h
    exact ⟨_, (pss_one (ps_ost (pv 0) (pv 1))), ⟨_, rfl, _, rfl, a, C, rfl, T, hn, .inl ⟨ha, k⟩⟩⟩
end
end MK

set_option Elab.async false
set_option linter.all false
set_option autoImplicit false
set_option maxRecDepth 100000
set_option maxHeartbeats 4000000
namespace MK
open PySem PySem.Spec PyProof.Rows L2
local macro_rules | `(tactic| walk_at "x") => `(tactic| dsimp only [tSeq, tAsg, tRet, tDrop, tLst, tTup, tCons, tOp, tUn, tIfS])
/-! ### what the top has written -/
section
variable {K : PySem.W.Frag} {h : Heap} {mg : Str → Option Value}
theorem def_mk {x : Str} {st : Stmt} {ps : List Str} {f : Addr} {oc : Value} {od an : Option Addr} {osl : Array (Option Value)} {kV doc pm cdv ct : Value} (X : K.In h) (G : h.Ns mainGlobals mg) (a : PySem.W.nsIn K mainGlobals x = some (some (.ref f)))
    (l : K.lookup f = some ⟨oc, od, .func (PySem.W.fnOf x x (defArgs st) (defBody st) (defScope st) .none kV doc pm an cdv ct), osl⟩) (c : PySem.W.codeIn K cdv x = true) (k : PySem.W.keepIn K (.ref f) = true)
    (b : ∀ (kV doc pm : Value) (an : Option Addr) (cdv ct : Value) (us : List Value), us.length = ps.length → bindArgs (PySem.W.fnOf x x (defArgs st) (defBody st) (defScope st) .none kV doc pm an cdv ct) ⟨us, []⟩ = pure (ps.zip us)) :
    DefX K mg x st ps f (PySem.W.fnOf x x (defArgs st) (defBody st) (defScope st) .none kV doc pm an cdv ct) :=
  have F := fun_mk (st := st) l c k
  ⟨F, PySem.W.mg_of X G a, F.binds b⟩
theorem keep_of {K : PySem.W.Frag} {C : Addr} (h : errB K C = true) : PySem.W.keepIn K (.ref C) = true := by
  simp only [errB, Bool.and_eq_true, decide_eq_true_eq] at h
  exact h.2.2.2.1
end
theorem gs_keep {K : PySem.W.Frag} {H H' : Hp} {x : V} {ys : List V} (e : Same H H') (h : GS K G0 H x ys) : GS K G0 H' x ys := by
  obtain ⟨xs, ⟨a, r, t⟩, al, n⟩ := h
  exact ⟨xs, ⟨a, r, same_t e t⟩, al, n⟩
theorem sod_all {K : PySem.W.Frag} {w : World} {a : Addr} (h : He.dicW K a = some (He.keysIn w.params ["set", "add", "strike", "fresh", "clear"])) (h1 : ∃ b, PySem.W.nsIn K a "set" = some (some (.ref b)) ∧ ∀ H, SqT K H b ((["one"] : List Str).map V.str)) (h2 : ∃ b, PySem.W.nsIn K a "add" = some (some (.ref b)) ∧ ∀ H, SqT K H b ((["many"] : List Str).map V.str))
    (h3 : ∃ b, PySem.W.nsIn K a "strike" = some (some (.ref b)) ∧ ∀ H, SqT K H b ((["many"] : List Str).map V.str)) (h4 : ∃ b, PySem.W.nsIn K a "fresh" = some (some (.ref b)) ∧ ∀ H, SqT K H b ((["many"] : List Str).map V.str)) (h5 : ∃ b, PySem.W.nsIn K a "clear" = some (some (.ref b)) ∧ ∀ H, SqT K H b ((["one", "many"] : List Str).map V.str)) :
    ∀ z : Str, (PySem.W.nsIn K a z = some none ∧ sodOf z = none) ∨ ∃ b l, PySem.W.nsIn K a z = some (some (.ref b)) ∧ sodOf z = some l ∧ ∀ H, SqT K H b (l.map V.str) := fun z => by
  by_cases e1 : z = ("set" : Str)
  · obtain ⟨b, x, y⟩ := h1
    exact .inr ⟨b, _, e1 ▸ x, by rw [e1]; decide +kernel, y⟩
  by_cases e2 : z = ("add" : Str)
  · obtain ⟨b, x, y⟩ := h2
    exact .inr ⟨b, _, e2 ▸ x, by rw [e2]; decide +kernel, y⟩
  by_cases e3 : z = ("strike" : Str)
  · obtain ⟨b, x, y⟩ := h3
    exact .inr ⟨b, _, e3 ▸ x, by rw [e3]; decide +kernel, y⟩
  by_cases e4 : z = ("fresh" : Str)
  · obtain ⟨b, x, y⟩ := h4
    exact .inr ⟨b, _, e4 ▸ x, by rw [e4]; decide +kernel, y⟩
  by_cases e5 : z = ("clear" : Str)
  · obtain ⟨b, x, y⟩ := h5
    exact .inr ⟨b, _, e5 ▸ x, by rw [e5]; decide +kernel, y⟩
  refine .inl ⟨ns_none h fun m => ?_, ?_⟩
  · simp only [List.mem_cons, List.not_mem_nil, or_false] at m
    rcases m with m | m | m | m | m
    · exact e1 m
    · exact e2 m
    · exact e3 m
    · exact e4 m
    · exact e5 m
  · unfold sodOf
    rw [if_neg e1, if_neg e2, if_neg e3, if_neg e4, if_neg e5]
def spLawT (K : PySem.W.Frag) (P : Addr) : Sp := fun vs H Q _ => ∃ (a : Addr) (ns : List Int), vs = [.ref a] ∧ SqL K H a (ns.map V.int) ∧ ns.length ≤ 63 ∧ H P = some (.tbl #[]) ∧ ∀ H', Q (.bl true) H'
theorem all_mk {l : PySem.W.OpenLaw} {w : World} {K : PySem.W.Frag} {h : Heap} {mg : Str → Option Value} {fa : Addr} (X : K.In h) (G : h.Ns mainGlobals mg) (hfa : mg "law" = some (.ref fa))
    {f_fresh : Addr} {od_fresh an_fresh : Option Addr} {sl_fresh : Array (Option Value)} {oc_fresh kV_fresh dc_fresh pm_fresh cd_fresh ct_fresh : Value}
    {f_fill : Addr} {od_fill an_fill : Option Addr} {sl_fill : Array (Option Value)} {oc_fill kV_fill dc_fill pm_fill cd_fill ct_fill : Value}
    {f_take : Addr} {od_take an_take : Option Addr} {sl_take : Array (Option Value)} {oc_take kV_take dc_take pm_take cd_take ct_take : Value}
    {f_one : Addr} {od_one an_one : Option Addr} {sl_one : Array (Option Value)} {oc_one kV_one dc_one pm_one cd_one ct_one : Value}
    {f_mix : Addr} {od_mix an_mix : Option Addr} {sl_mix : Array (Option Value)} {oc_mix kV_mix dc_mix pm_mix cd_mix ct_mix : Value}
    {f_same : Addr} {od_same an_same : Option Addr} {sl_same : Array (Option Value)} {oc_same kV_same dc_same pm_same cd_same ct_same : Value}
    {f_tried : Addr} {od_tried an_tried : Option Addr} {sl_tried : Array (Option Value)} {oc_tried kV_tried dc_tried pm_tried cd_tried ct_tried : Value}
    {f_error : Addr} {od_error an_error : Option Addr} {sl_error : Array (Option Value)} {oc_error kV_error dc_error pm_error cd_error ct_error : Value}
    {f_plan : Addr} {od_plan an_plan : Option Addr} {sl_plan : Array (Option Value)} {oc_plan kV_plan dc_plan pm_plan cd_plan ct_plan : Value}
    {f_deeds : Addr} {od_deeds an_deeds : Option Addr} {sl_deeds : Array (Option Value)} {oc_deeds kV_deeds dc_deeds pm_deeds cd_deeds ct_deeds : Value}
    {f_call : Addr} {od_call an_call : Option Addr} {sl_call : Array (Option Value)} {oc_call kV_call dc_call pm_call cd_call ct_call : Value}
    {f_kind : Addr} {od_kind an_kind : Option Addr} {sl_kind : Array (Option Value)} {oc_kind kV_kind dc_kind pm_kind cd_kind ct_kind : Value}
    {f_handed : Addr} {od_handed an_handed : Option Addr} {sl_handed : Array (Option Value)} {oc_handed kV_handed dc_handed pm_handed cd_handed ct_handed : Value}
    {f_spoil : Addr} {od_spoil an_spoil : Option Addr} {sl_spoil : Array (Option Value)} {oc_spoil kV_spoil dc_spoil pm_spoil cd_spoil ct_spoil : Value}
    {f_in_lists : Addr} {od_in_lists an_in_lists : Option Addr} {sl_in_lists : Array (Option Value)} {oc_in_lists kV_in_lists dc_in_lists pm_in_lists cd_in_lists ct_in_lists : Value}
    {f_takes : Addr} {od_takes an_takes : Option Addr} {sl_takes : Array (Option Value)} {oc_takes kV_takes dc_takes pm_takes cd_takes ct_takes : Value}
    {f_deep : Addr} {od_deep an_deep : Option Addr} {sl_deep : Array (Option Value)} {oc_deep kV_deep dc_deep pm_deep cd_deep ct_deep : Value}
    {f_as_call : Addr} {od_as_call an_as_call : Option Addr} {sl_as_call : Array (Option Value)} {oc_as_call kV_as_call dc_as_call pm_as_call cd_as_call ct_as_call : Value}
    {f_is_told : Addr} {od_is_told an_is_told : Option Addr} {sl_is_told : Array (Option Value)} {oc_is_told kV_is_told dc_is_told pm_is_told cd_is_told ct_is_told : Value}
    {f_unlike : Addr} {od_unlike an_unlike : Option Addr} {sl_unlike : Array (Option Value)} {oc_unlike kV_unlike dc_unlike pm_unlike cd_unlike ct_unlike : Value}
    {f_is_word : Addr} {od_is_word an_is_word : Option Addr} {sl_is_word : Array (Option Value)} {oc_is_word kV_is_word dc_is_word pm_is_word cd_is_word ct_is_word : Value}
    {f_is_integer : Addr} {od_is_integer an_is_integer : Option Addr} {sl_is_integer : Array (Option Value)} {oc_is_integer kV_is_integer dc_is_integer pm_is_integer cd_is_integer ct_is_integer : Value}
    {f_is_list : Addr} {od_is_list an_is_list : Option Addr} {sl_is_list : Array (Option Value)} {oc_is_list kV_is_list dc_is_list pm_is_list cd_is_list ct_is_list : Value}
    {f_is_modes : Addr} {od_is_modes an_is_modes : Option Addr} {sl_is_modes : Array (Option Value)} {oc_is_modes kV_is_modes dc_is_modes pm_is_modes cd_is_modes ct_is_modes : Value}
    {f_is_field : Addr} {od_is_field an_is_field : Option Addr} {sl_is_field : Array (Option Value)} {oc_is_field kV_is_field dc_is_field pm_is_field cd_is_field ct_is_field : Value}
    {f_kept_fields : Addr} {od_kept_fields an_kept_fields : Option Addr} {sl_kept_fields : Array (Option Value)} {oc_kept_fields kV_kept_fields dc_kept_fields pm_kept_fields cd_kept_fields ct_kept_fields : Value}
    {f_is_many : Addr} {od_is_many an_is_many : Option Addr} {sl_is_many : Array (Option Value)} {oc_is_many kV_is_many dc_is_many pm_is_many cd_is_many ct_is_many : Value}
    {f_is_deed : Addr} {od_is_deed an_is_deed : Option Addr} {sl_is_deed : Array (Option Value)} {oc_is_deed kV_is_deed dc_is_deed pm_is_deed cd_is_deed ct_is_deed : Value}
    {f_are_moves : Addr} {od_are_moves an_are_moves : Option Addr} {sl_are_moves : Array (Option Value)} {oc_are_moves kV_are_moves dc_are_moves pm_are_moves cd_are_moves ct_are_moves : Value}
    {f_has_call_form : Addr} {od_has_call_form an_has_call_form : Option Addr} {sl_has_call_form : Array (Option Value)} {oc_has_call_form kV_has_call_form dc_has_call_form pm_has_call_form cd_has_call_form ct_has_call_form : Value}
    {f_are_deeds : Addr} {od_are_deeds an_are_deeds : Option Addr} {sl_are_deeds : Array (Option Value)} {oc_are_deeds kV_are_deeds dc_are_deeds pm_are_deeds cd_are_deeds ct_are_deeds : Value}
    {f_is_same : Addr} {od_is_same an_is_same : Option Addr} {sl_is_same : Array (Option Value)} {oc_is_same kV_is_same dc_is_same pm_is_same cd_is_same ct_is_same : Value}
    {f_kept_call : Addr} {od_kept_call an_kept_call : Option Addr} {sl_kept_call : Array (Option Value)} {oc_kept_call kV_kept_call dc_kept_call pm_kept_call cd_kept_call ct_kept_call : Value}
    {f_wrong_part : Addr} {od_wrong_part an_wrong_part : Option Addr} {sl_wrong_part : Array (Option Value)} {oc_wrong_part kV_wrong_part dc_wrong_part pm_wrong_part cd_wrong_part ct_wrong_part : Value}
    {f_kept_calls : Addr} {od_kept_calls an_kept_calls : Option Addr} {sl_kept_calls : Array (Option Value)} {oc_kept_calls kV_kept_calls dc_kept_calls pm_kept_calls cd_kept_calls ct_kept_calls : Value}
    {f_told_call : Addr} {od_told_call an_told_call : Option Addr} {sl_told_call : Array (Option Value)} {oc_told_call kV_told_call dc_told_call pm_told_call cd_told_call ct_told_call : Value}
    {cl Pl : Addr} {ocl : Value} {odl : Option Addr} {vsl : Array Value} {sll : Array (Option Value)}
    {f_law : Addr} {od_law an_law : Option Addr} {sl_law : Array (Option Value)} {oc_law kV_law dc_law pm_law ct_law : Value}
    {C_Kind : Addr}
    {C_BadField : Addr}
    {C_BadModes : Addr}
    {C_BadCall : Addr}
    {C_UnknownCall : Addr}
    {C_BadPlace : Addr}
    {C_BadText : Addr}
    {C_BadRow : Addr}
    {C_MakerError : Addr}
    {f_kinit : Addr} {od_kinit an_kinit : Option Addr} {sl_kinit : Array (Option Value)} {oc_kinit dc_kinit pm_kinit cd_kinit ct_kinit : Value}
    {f_keq : Addr} {od_keq an_keq : Option Addr} {sl_keq : Array (Option Value)} {oc_keq kV_keq dc_keq pm_keq cd_keq ct_keq : Value}
    {f_khas : Addr} {od_khas an_khas : Option Addr} {sl_khas : Array (Option Value)} {oc_khas kV_khas dc_khas pm_khas cd_khas ct_khas : Value}
    {f_kfields : Addr} {od_kfields an_kfields : Option Addr} {sl_kfields : Array (Option Value)} {oc_kfields kV_kfields dc_kfields pm_kfields cd_kfields ct_kfields : Value}
    {f_kcalls : Addr} {od_kcalls an_kcalls : Option Addr} {sl_kcalls : Array (Option Value)} {oc_kcalls kV_kcalls dc_kcalls pm_kcalls cd_kcalls ct_kcalls : Value}
    {f_knames : Addr} {od_knames an_knames : Option Addr} {sl_knames : Array (Option Value)} {oc_knames kV_knames dc_knames pm_knames cd_knames ct_knames : Value}
    {f_klen : Addr} {od_klen an_klen : Option Addr} {sl_klen : Array (Option Value)} {oc_klen kV_klen dc_klen pm_klen cd_klen ct_klen : Value}
    {f_kiter : Addr} {od_kiter an_kiter : Option Addr} {sl_kiter : Array (Option Value)} {oc_kiter kV_kiter dc_kiter pm_kiter cd_kiter ct_kiter : Value}
    {f_kget : Addr} {od_kget an_kget : Option Addr} {sl_kget : Array (Option Value)} {oc_kget kV_kget dc_kget pm_kget cd_kget ct_kget : Value}
    {f_ktakes : Addr} {od_ktakes an_ktakes : Option Addr} {sl_ktakes : Array (Option Value)} {oc_ktakes kV_ktakes dc_ktakes pm_ktakes cd_ktakes ct_ktakes : Value}
    {f_iU : Addr} {od_iU an_iU : Option Addr} {sl_iU : Array (Option Value)} {oc_iU kV_iU dc_iU pm_iU cd_iU ct_iU : Value}
    {f_iP : Addr} {od_iP an_iP : Option Addr} {sl_iP : Array (Option Value)} {oc_iP kV_iP dc_iP pm_iP cd_iP ct_iP : Value}
    {D_kinit : Addr} {tk_kinit : Tok}
    {tk_MOST_LETTERS : Tok}
    {tk_MOST_FIELDS : Tok}
    {tk_MOST_MODES : Tok}
    {tk_MOST_CALLS : Tok}
    {tk_MOST_DEEDS : Tok}
    {A_sorts : Addr}
    {A_hands : Addr}
    {A_wd : Addr}
    {A_lwd : Addr}
    {A_sod : Addr}
    {A_sod_set : Addr}
    {A_sod_add : Addr}
    {A_sod_strike : Addr}
    {A_sod_fresh : Addr}
    {A_sod_clear : Addr}
    (a_fresh : PySem.W.nsIn K mainGlobals "_law_fresh" = some (some (.ref f_fresh)))
    (l_fresh : K.lookup f_fresh = some ⟨oc_fresh, od_fresh, .func (PySem.W.fnOf "_law_fresh" "_law_fresh" (defArgs s_fresh) (defBody s_fresh) (defScope s_fresh) .none kV_fresh dc_fresh pm_fresh an_fresh cd_fresh ct_fresh), sl_fresh⟩)
    (c_fresh : PySem.W.codeIn K cd_fresh "_law_fresh" = true)
    (k_fresh : PySem.W.keepIn K (.ref f_fresh) = true)
    (a_fill : PySem.W.nsIn K mainGlobals "_law_fill" = some (some (.ref f_fill)))
    (l_fill : K.lookup f_fill = some ⟨oc_fill, od_fill, .func (PySem.W.fnOf "_law_fill" "_law_fill" (defArgs s_fill) (defBody s_fill) (defScope s_fill) .none kV_fill dc_fill pm_fill an_fill cd_fill ct_fill), sl_fill⟩)
    (c_fill : PySem.W.codeIn K cd_fill "_law_fill" = true)
    (k_fill : PySem.W.keepIn K (.ref f_fill) = true)
    (a_take : PySem.W.nsIn K mainGlobals "_law_take" = some (some (.ref f_take)))
    (l_take : K.lookup f_take = some ⟨oc_take, od_take, .func (PySem.W.fnOf "_law_take" "_law_take" (defArgs s_take) (defBody s_take) (defScope s_take) .none kV_take dc_take pm_take an_take cd_take ct_take), sl_take⟩)
    (c_take : PySem.W.codeIn K cd_take "_law_take" = true)
    (k_take : PySem.W.keepIn K (.ref f_take) = true)
    (a_one : PySem.W.nsIn K mainGlobals "_law_one" = some (some (.ref f_one)))
    (l_one : K.lookup f_one = some ⟨oc_one, od_one, .func (PySem.W.fnOf "_law_one" "_law_one" (defArgs s_one) (defBody s_one) (defScope s_one) .none kV_one dc_one pm_one an_one cd_one ct_one), sl_one⟩)
    (c_one : PySem.W.codeIn K cd_one "_law_one" = true)
    (k_one : PySem.W.keepIn K (.ref f_one) = true)
    (a_mix : PySem.W.nsIn K mainGlobals "_law_mix" = some (some (.ref f_mix)))
    (l_mix : K.lookup f_mix = some ⟨oc_mix, od_mix, .func (PySem.W.fnOf "_law_mix" "_law_mix" (defArgs s_mix) (defBody s_mix) (defScope s_mix) .none kV_mix dc_mix pm_mix an_mix cd_mix ct_mix), sl_mix⟩)
    (c_mix : PySem.W.codeIn K cd_mix "_law_mix" = true)
    (k_mix : PySem.W.keepIn K (.ref f_mix) = true)
    (a_same : PySem.W.nsIn K mainGlobals "_law_same" = some (some (.ref f_same)))
    (l_same : K.lookup f_same = some ⟨oc_same, od_same, .func (PySem.W.fnOf "_law_same" "_law_same" (defArgs s_same) (defBody s_same) (defScope s_same) .none kV_same dc_same pm_same an_same cd_same ct_same), sl_same⟩)
    (c_same : PySem.W.codeIn K cd_same "_law_same" = true)
    (k_same : PySem.W.keepIn K (.ref f_same) = true)
    (a_tried : PySem.W.nsIn K mainGlobals "_law_tried" = some (some (.ref f_tried)))
    (l_tried : K.lookup f_tried = some ⟨oc_tried, od_tried, .func (PySem.W.fnOf "_law_tried" "_law_tried" (defArgs s_tried) (defBody s_tried) (defScope s_tried) .none kV_tried dc_tried pm_tried an_tried cd_tried ct_tried), sl_tried⟩)
    (c_tried : PySem.W.codeIn K cd_tried "_law_tried" = true)
    (k_tried : PySem.W.keepIn K (.ref f_tried) = true)
    (a_error : PySem.W.nsIn K mainGlobals "_law_error" = some (some (.ref f_error)))
    (l_error : K.lookup f_error = some ⟨oc_error, od_error, .func (PySem.W.fnOf "_law_error" "_law_error" (defArgs s_error) (defBody s_error) (defScope s_error) .none kV_error dc_error pm_error an_error cd_error ct_error), sl_error⟩)
    (c_error : PySem.W.codeIn K cd_error "_law_error" = true)
    (k_error : PySem.W.keepIn K (.ref f_error) = true)
    (a_plan : PySem.W.nsIn K mainGlobals "_law_plan" = some (some (.ref f_plan)))
    (l_plan : K.lookup f_plan = some ⟨oc_plan, od_plan, .func (PySem.W.fnOf "_law_plan" "_law_plan" (defArgs s_plan) (defBody s_plan) (defScope s_plan) .none kV_plan dc_plan pm_plan an_plan cd_plan ct_plan), sl_plan⟩)
    (c_plan : PySem.W.codeIn K cd_plan "_law_plan" = true)
    (k_plan : PySem.W.keepIn K (.ref f_plan) = true)
    (a_deeds : PySem.W.nsIn K mainGlobals "_law_deeds" = some (some (.ref f_deeds)))
    (l_deeds : K.lookup f_deeds = some ⟨oc_deeds, od_deeds, .func (PySem.W.fnOf "_law_deeds" "_law_deeds" (defArgs s_deeds) (defBody s_deeds) (defScope s_deeds) .none kV_deeds dc_deeds pm_deeds an_deeds cd_deeds ct_deeds), sl_deeds⟩)
    (c_deeds : PySem.W.codeIn K cd_deeds "_law_deeds" = true)
    (k_deeds : PySem.W.keepIn K (.ref f_deeds) = true)
    (a_call : PySem.W.nsIn K mainGlobals "_law_call" = some (some (.ref f_call)))
    (l_call : K.lookup f_call = some ⟨oc_call, od_call, .func (PySem.W.fnOf "_law_call" "_law_call" (defArgs s_call) (defBody s_call) (defScope s_call) .none kV_call dc_call pm_call an_call cd_call ct_call), sl_call⟩)
    (c_call : PySem.W.codeIn K cd_call "_law_call" = true)
    (k_call : PySem.W.keepIn K (.ref f_call) = true)
    (a_kind : PySem.W.nsIn K mainGlobals "_law_kind" = some (some (.ref f_kind)))
    (l_kind : K.lookup f_kind = some ⟨oc_kind, od_kind, .func (PySem.W.fnOf "_law_kind" "_law_kind" (defArgs s_kind) (defBody s_kind) (defScope s_kind) .none kV_kind dc_kind pm_kind an_kind cd_kind ct_kind), sl_kind⟩)
    (c_kind : PySem.W.codeIn K cd_kind "_law_kind" = true)
    (k_kind : PySem.W.keepIn K (.ref f_kind) = true)
    (a_handed : PySem.W.nsIn K mainGlobals "_law_handed" = some (some (.ref f_handed)))
    (l_handed : K.lookup f_handed = some ⟨oc_handed, od_handed, .func (PySem.W.fnOf "_law_handed" "_law_handed" (defArgs s_handed) (defBody s_handed) (defScope s_handed) .none kV_handed dc_handed pm_handed an_handed cd_handed ct_handed), sl_handed⟩)
    (c_handed : PySem.W.codeIn K cd_handed "_law_handed" = true)
    (k_handed : PySem.W.keepIn K (.ref f_handed) = true)
    (a_spoil : PySem.W.nsIn K mainGlobals "_law_spoil" = some (some (.ref f_spoil)))
    (l_spoil : K.lookup f_spoil = some ⟨oc_spoil, od_spoil, .func (PySem.W.fnOf "_law_spoil" "_law_spoil" (defArgs s_spoil) (defBody s_spoil) (defScope s_spoil) .none kV_spoil dc_spoil pm_spoil an_spoil cd_spoil ct_spoil), sl_spoil⟩)
    (c_spoil : PySem.W.codeIn K cd_spoil "_law_spoil" = true)
    (k_spoil : PySem.W.keepIn K (.ref f_spoil) = true)
    (a_in_lists : PySem.W.nsIn K mainGlobals "_law_in_lists" = some (some (.ref f_in_lists)))
    (l_in_lists : K.lookup f_in_lists = some ⟨oc_in_lists, od_in_lists, .func (PySem.W.fnOf "_law_in_lists" "_law_in_lists" (defArgs s_in_lists) (defBody s_in_lists) (defScope s_in_lists) .none kV_in_lists dc_in_lists pm_in_lists an_in_lists cd_in_lists ct_in_lists), sl_in_lists⟩)
    (c_in_lists : PySem.W.codeIn K cd_in_lists "_law_in_lists" = true)
    (k_in_lists : PySem.W.keepIn K (.ref f_in_lists) = true)
    (a_takes : PySem.W.nsIn K mainGlobals "_law_takes" = some (some (.ref f_takes)))
    (l_takes : K.lookup f_takes = some ⟨oc_takes, od_takes, .func (PySem.W.fnOf "_law_takes" "_law_takes" (defArgs s_takes) (defBody s_takes) (defScope s_takes) .none kV_takes dc_takes pm_takes an_takes cd_takes ct_takes), sl_takes⟩)
    (c_takes : PySem.W.codeIn K cd_takes "_law_takes" = true)
    (k_takes : PySem.W.keepIn K (.ref f_takes) = true)
    (a_deep : PySem.W.nsIn K mainGlobals "_law_deep" = some (some (.ref f_deep)))
    (l_deep : K.lookup f_deep = some ⟨oc_deep, od_deep, .func (PySem.W.fnOf "_law_deep" "_law_deep" (defArgs s_deep) (defBody s_deep) (defScope s_deep) .none kV_deep dc_deep pm_deep an_deep cd_deep ct_deep), sl_deep⟩)
    (c_deep : PySem.W.codeIn K cd_deep "_law_deep" = true)
    (k_deep : PySem.W.keepIn K (.ref f_deep) = true)
    (a_as_call : PySem.W.nsIn K mainGlobals "_law_as_call" = some (some (.ref f_as_call)))
    (l_as_call : K.lookup f_as_call = some ⟨oc_as_call, od_as_call, .func (PySem.W.fnOf "_law_as_call" "_law_as_call" (defArgs s_as_call) (defBody s_as_call) (defScope s_as_call) .none kV_as_call dc_as_call pm_as_call an_as_call cd_as_call ct_as_call), sl_as_call⟩)
    (c_as_call : PySem.W.codeIn K cd_as_call "_law_as_call" = true)
    (k_as_call : PySem.W.keepIn K (.ref f_as_call) = true)
    (a_is_told : PySem.W.nsIn K mainGlobals "_law_is_told" = some (some (.ref f_is_told)))
    (l_is_told : K.lookup f_is_told = some ⟨oc_is_told, od_is_told, .func (PySem.W.fnOf "_law_is_told" "_law_is_told" (defArgs s_is_told) (defBody s_is_told) (defScope s_is_told) .none kV_is_told dc_is_told pm_is_told an_is_told cd_is_told ct_is_told), sl_is_told⟩)
    (c_is_told : PySem.W.codeIn K cd_is_told "_law_is_told" = true)
    (k_is_told : PySem.W.keepIn K (.ref f_is_told) = true)
    (a_unlike : PySem.W.nsIn K mainGlobals "_law_unlike" = some (some (.ref f_unlike)))
    (l_unlike : K.lookup f_unlike = some ⟨oc_unlike, od_unlike, .func (PySem.W.fnOf "_law_unlike" "_law_unlike" (defArgs s_unlike) (defBody s_unlike) (defScope s_unlike) .none kV_unlike dc_unlike pm_unlike an_unlike cd_unlike ct_unlike), sl_unlike⟩)
    (c_unlike : PySem.W.codeIn K cd_unlike "_law_unlike" = true)
    (k_unlike : PySem.W.keepIn K (.ref f_unlike) = true)
    (a_is_word : PySem.W.nsIn K mainGlobals "is_word" = some (some (.ref f_is_word)))
    (l_is_word : K.lookup f_is_word = some ⟨oc_is_word, od_is_word, .func (PySem.W.fnOf "is_word" "is_word" (defArgs s_is_word) (defBody s_is_word) (defScope s_is_word) .none kV_is_word dc_is_word pm_is_word an_is_word cd_is_word ct_is_word), sl_is_word⟩)
    (c_is_word : PySem.W.codeIn K cd_is_word "is_word" = true)
    (k_is_word : PySem.W.keepIn K (.ref f_is_word) = true)
    (a_is_integer : PySem.W.nsIn K mainGlobals "is_integer" = some (some (.ref f_is_integer)))
    (l_is_integer : K.lookup f_is_integer = some ⟨oc_is_integer, od_is_integer, .func (PySem.W.fnOf "is_integer" "is_integer" (defArgs s_is_integer) (defBody s_is_integer) (defScope s_is_integer) .none kV_is_integer dc_is_integer pm_is_integer an_is_integer cd_is_integer ct_is_integer), sl_is_integer⟩)
    (c_is_integer : PySem.W.codeIn K cd_is_integer "is_integer" = true)
    (k_is_integer : PySem.W.keepIn K (.ref f_is_integer) = true)
    (a_is_list : PySem.W.nsIn K mainGlobals "is_list" = some (some (.ref f_is_list)))
    (l_is_list : K.lookup f_is_list = some ⟨oc_is_list, od_is_list, .func (PySem.W.fnOf "is_list" "is_list" (defArgs s_is_list) (defBody s_is_list) (defScope s_is_list) .none kV_is_list dc_is_list pm_is_list an_is_list cd_is_list ct_is_list), sl_is_list⟩)
    (c_is_list : PySem.W.codeIn K cd_is_list "is_list" = true)
    (k_is_list : PySem.W.keepIn K (.ref f_is_list) = true)
    (a_is_modes : PySem.W.nsIn K mainGlobals "is_modes" = some (some (.ref f_is_modes)))
    (l_is_modes : K.lookup f_is_modes = some ⟨oc_is_modes, od_is_modes, .func (PySem.W.fnOf "is_modes" "is_modes" (defArgs s_is_modes) (defBody s_is_modes) (defScope s_is_modes) .none kV_is_modes dc_is_modes pm_is_modes an_is_modes cd_is_modes ct_is_modes), sl_is_modes⟩)
    (c_is_modes : PySem.W.codeIn K cd_is_modes "is_modes" = true)
    (k_is_modes : PySem.W.keepIn K (.ref f_is_modes) = true)
    (a_is_field : PySem.W.nsIn K mainGlobals "is_field" = some (some (.ref f_is_field)))
    (l_is_field : K.lookup f_is_field = some ⟨oc_is_field, od_is_field, .func (PySem.W.fnOf "is_field" "is_field" (defArgs s_is_field) (defBody s_is_field) (defScope s_is_field) .none kV_is_field dc_is_field pm_is_field an_is_field cd_is_field ct_is_field), sl_is_field⟩)
    (c_is_field : PySem.W.codeIn K cd_is_field "is_field" = true)
    (k_is_field : PySem.W.keepIn K (.ref f_is_field) = true)
    (a_kept_fields : PySem.W.nsIn K mainGlobals "kept_fields" = some (some (.ref f_kept_fields)))
    (l_kept_fields : K.lookup f_kept_fields = some ⟨oc_kept_fields, od_kept_fields, .func (PySem.W.fnOf "kept_fields" "kept_fields" (defArgs s_kept_fields) (defBody s_kept_fields) (defScope s_kept_fields) .none kV_kept_fields dc_kept_fields pm_kept_fields an_kept_fields cd_kept_fields ct_kept_fields), sl_kept_fields⟩)
    (c_kept_fields : PySem.W.codeIn K cd_kept_fields "kept_fields" = true)
    (k_kept_fields : PySem.W.keepIn K (.ref f_kept_fields) = true)
    (a_is_many : PySem.W.nsIn K mainGlobals "is_many" = some (some (.ref f_is_many)))
    (l_is_many : K.lookup f_is_many = some ⟨oc_is_many, od_is_many, .func (PySem.W.fnOf "is_many" "is_many" (defArgs s_is_many) (defBody s_is_many) (defScope s_is_many) .none kV_is_many dc_is_many pm_is_many an_is_many cd_is_many ct_is_many), sl_is_many⟩)
    (c_is_many : PySem.W.codeIn K cd_is_many "is_many" = true)
    (k_is_many : PySem.W.keepIn K (.ref f_is_many) = true)
    (a_is_deed : PySem.W.nsIn K mainGlobals "is_deed" = some (some (.ref f_is_deed)))
    (l_is_deed : K.lookup f_is_deed = some ⟨oc_is_deed, od_is_deed, .func (PySem.W.fnOf "is_deed" "is_deed" (defArgs s_is_deed) (defBody s_is_deed) (defScope s_is_deed) .none kV_is_deed dc_is_deed pm_is_deed an_is_deed cd_is_deed ct_is_deed), sl_is_deed⟩)
    (c_is_deed : PySem.W.codeIn K cd_is_deed "is_deed" = true)
    (k_is_deed : PySem.W.keepIn K (.ref f_is_deed) = true)
    (a_are_moves : PySem.W.nsIn K mainGlobals "are_moves" = some (some (.ref f_are_moves)))
    (l_are_moves : K.lookup f_are_moves = some ⟨oc_are_moves, od_are_moves, .func (PySem.W.fnOf "are_moves" "are_moves" (defArgs s_are_moves) (defBody s_are_moves) (defScope s_are_moves) .none kV_are_moves dc_are_moves pm_are_moves an_are_moves cd_are_moves ct_are_moves), sl_are_moves⟩)
    (c_are_moves : PySem.W.codeIn K cd_are_moves "are_moves" = true)
    (k_are_moves : PySem.W.keepIn K (.ref f_are_moves) = true)
    (a_has_call_form : PySem.W.nsIn K mainGlobals "has_call_form" = some (some (.ref f_has_call_form)))
    (l_has_call_form : K.lookup f_has_call_form = some ⟨oc_has_call_form, od_has_call_form, .func (PySem.W.fnOf "has_call_form" "has_call_form" (defArgs s_has_call_form) (defBody s_has_call_form) (defScope s_has_call_form) .none kV_has_call_form dc_has_call_form pm_has_call_form an_has_call_form cd_has_call_form ct_has_call_form), sl_has_call_form⟩)
    (c_has_call_form : PySem.W.codeIn K cd_has_call_form "has_call_form" = true)
    (k_has_call_form : PySem.W.keepIn K (.ref f_has_call_form) = true)
    (a_are_deeds : PySem.W.nsIn K mainGlobals "are_deeds" = some (some (.ref f_are_deeds)))
    (l_are_deeds : K.lookup f_are_deeds = some ⟨oc_are_deeds, od_are_deeds, .func (PySem.W.fnOf "are_deeds" "are_deeds" (defArgs s_are_deeds) (defBody s_are_deeds) (defScope s_are_deeds) .none kV_are_deeds dc_are_deeds pm_are_deeds an_are_deeds cd_are_deeds ct_are_deeds), sl_are_deeds⟩)
    (c_are_deeds : PySem.W.codeIn K cd_are_deeds "are_deeds" = true)
    (k_are_deeds : PySem.W.keepIn K (.ref f_are_deeds) = true)
    (a_is_same : PySem.W.nsIn K mainGlobals "is_same" = some (some (.ref f_is_same)))
    (l_is_same : K.lookup f_is_same = some ⟨oc_is_same, od_is_same, .func (PySem.W.fnOf "is_same" "is_same" (defArgs s_is_same) (defBody s_is_same) (defScope s_is_same) .none kV_is_same dc_is_same pm_is_same an_is_same cd_is_same ct_is_same), sl_is_same⟩)
    (c_is_same : PySem.W.codeIn K cd_is_same "is_same" = true)
    (k_is_same : PySem.W.keepIn K (.ref f_is_same) = true)
    (a_kept_call : PySem.W.nsIn K mainGlobals "kept_call" = some (some (.ref f_kept_call)))
    (l_kept_call : K.lookup f_kept_call = some ⟨oc_kept_call, od_kept_call, .func (PySem.W.fnOf "kept_call" "kept_call" (defArgs s_kept_call) (defBody s_kept_call) (defScope s_kept_call) .none kV_kept_call dc_kept_call pm_kept_call an_kept_call cd_kept_call ct_kept_call), sl_kept_call⟩)
    (c_kept_call : PySem.W.codeIn K cd_kept_call "kept_call" = true)
    (k_kept_call : PySem.W.keepIn K (.ref f_kept_call) = true)
    (a_wrong_part : PySem.W.nsIn K mainGlobals "wrong_part" = some (some (.ref f_wrong_part)))
    (l_wrong_part : K.lookup f_wrong_part = some ⟨oc_wrong_part, od_wrong_part, .func (PySem.W.fnOf "wrong_part" "wrong_part" (defArgs s_wrong_part) (defBody s_wrong_part) (defScope s_wrong_part) .none kV_wrong_part dc_wrong_part pm_wrong_part an_wrong_part cd_wrong_part ct_wrong_part), sl_wrong_part⟩)
    (c_wrong_part : PySem.W.codeIn K cd_wrong_part "wrong_part" = true)
    (k_wrong_part : PySem.W.keepIn K (.ref f_wrong_part) = true)
    (a_kept_calls : PySem.W.nsIn K mainGlobals "kept_calls" = some (some (.ref f_kept_calls)))
    (l_kept_calls : K.lookup f_kept_calls = some ⟨oc_kept_calls, od_kept_calls, .func (PySem.W.fnOf "kept_calls" "kept_calls" (defArgs s_kept_calls) (defBody s_kept_calls) (defScope s_kept_calls) .none kV_kept_calls dc_kept_calls pm_kept_calls an_kept_calls cd_kept_calls ct_kept_calls), sl_kept_calls⟩)
    (c_kept_calls : PySem.W.codeIn K cd_kept_calls "kept_calls" = true)
    (k_kept_calls : PySem.W.keepIn K (.ref f_kept_calls) = true)
    (a_told_call : PySem.W.nsIn K mainGlobals "told_call" = some (some (.ref f_told_call)))
    (l_told_call : K.lookup f_told_call = some ⟨oc_told_call, od_told_call, .func (PySem.W.fnOf "told_call" "told_call" (defArgs s_told_call) (defBody s_told_call) (defScope s_told_call) .none kV_told_call dc_told_call pm_told_call an_told_call cd_told_call ct_told_call), sl_told_call⟩)
    (c_told_call : PySem.W.codeIn K cd_told_call "told_call" = true)
    (k_told_call : PySem.W.keepIn K (.ref f_told_call) = true)
    (a_law : PySem.W.nsIn K mainGlobals "law" = some (some (.ref f_law)))
    (l_law : K.lookup f_law = some ⟨oc_law, od_law, .func (PySem.W.fnOf "law" "law" (defArgs s_law) (defBody s_law) (defScope s_law) .none kV_law dc_law pm_law an_law (.ref cl) ct_law), sl_law⟩)
    (c_law : PySem.W.codeIn K (.ref cl) "law" = true)
    (k_law : PySem.W.keepIn K (.ref f_law) = true)
    (lcl : K.lookup cl = some ⟨ocl, odl, .fields vsl, sll⟩)
    (aC_Kind : PySem.W.nsIn K mainGlobals "Kind" = some (some (.ref C_Kind)))
    (aC_BadField : PySem.W.nsIn K mainGlobals "BadField" = some (some (.ref C_BadField)))
    (aC_BadModes : PySem.W.nsIn K mainGlobals "BadModes" = some (some (.ref C_BadModes)))
    (aC_BadCall : PySem.W.nsIn K mainGlobals "BadCall" = some (some (.ref C_BadCall)))
    (aC_UnknownCall : PySem.W.nsIn K mainGlobals "UnknownCall" = some (some (.ref C_UnknownCall)))
    (aC_BadPlace : PySem.W.nsIn K mainGlobals "BadPlace" = some (some (.ref C_BadPlace)))
    (aC_BadText : PySem.W.nsIn K mainGlobals "BadText" = some (some (.ref C_BadText)))
    (aC_BadRow : PySem.W.nsIn K mainGlobals "BadRow" = some (some (.ref C_BadRow)))
    (aC_MakerError : PySem.W.nsIn K mainGlobals "MakerError" = some (some (.ref C_MakerError)))
    (m_kinit : PySem.W.findIn K (.ref C_Kind) "__init__" = some (some (.ref f_kinit)))
    (l_kinit : K.lookup f_kinit = some ⟨oc_kinit, od_kinit, .func (PySem.W.fnOf "__init__" "Kind.__init__" (defArgs s_Kind_init) (defBody s_Kind_init) (defScope s_Kind_init) .none (.ref D_kinit) dc_kinit pm_kinit an_kinit cd_kinit ct_kinit), sl_kinit⟩)
    (c_kinit : PySem.W.codeIn K cd_kinit "Kind.__init__" = true)
    (k_kinit : PySem.W.keepIn K (.ref f_kinit) = true)
    (fn_kinit : PySem.W.isFn K (.ref f_kinit) = true)
    (m_keq : PySem.W.findIn K (.ref C_Kind) "__eq__" = some (some (.ref f_keq)))
    (l_keq : K.lookup f_keq = some ⟨oc_keq, od_keq, .func (PySem.W.fnOf "__eq__" "Kind.__eq__" (defArgs s_Kind_eq) (defBody s_Kind_eq) (defScope s_Kind_eq) .none kV_keq dc_keq pm_keq an_keq cd_keq ct_keq), sl_keq⟩)
    (c_keq : PySem.W.codeIn K cd_keq "Kind.__eq__" = true)
    (k_keq : PySem.W.keepIn K (.ref f_keq) = true)
    (fn_keq : PySem.W.isFn K (.ref f_keq) = true)
    (m_khas : PySem.W.findIn K (.ref C_Kind) "__contains__" = some (some (.ref f_khas)))
    (l_khas : K.lookup f_khas = some ⟨oc_khas, od_khas, .func (PySem.W.fnOf "__contains__" "Kind.__contains__" (defArgs s_Kind_contains) (defBody s_Kind_contains) (defScope s_Kind_contains) .none kV_khas dc_khas pm_khas an_khas cd_khas ct_khas), sl_khas⟩)
    (c_khas : PySem.W.codeIn K cd_khas "Kind.__contains__" = true)
    (k_khas : PySem.W.keepIn K (.ref f_khas) = true)
    (fn_khas : PySem.W.isFn K (.ref f_khas) = true)
    (m_kfields : PySem.W.findIn K (.ref C_Kind) "fields" = some (some (.ref f_kfields)))
    (l_kfields : K.lookup f_kfields = some ⟨oc_kfields, od_kfields, .func (PySem.W.fnOf "fields" "Kind.fields" (defArgs s_Kind_fields) (defBody s_Kind_fields) (defScope s_Kind_fields) .none kV_kfields dc_kfields pm_kfields an_kfields cd_kfields ct_kfields), sl_kfields⟩)
    (c_kfields : PySem.W.codeIn K cd_kfields "Kind.fields" = true)
    (k_kfields : PySem.W.keepIn K (.ref f_kfields) = true)
    (fn_kfields : PySem.W.isFn K (.ref f_kfields) = true)
    (m_kcalls : PySem.W.findIn K (.ref C_Kind) "calls" = some (some (.ref f_kcalls)))
    (l_kcalls : K.lookup f_kcalls = some ⟨oc_kcalls, od_kcalls, .func (PySem.W.fnOf "calls" "Kind.calls" (defArgs s_Kind_calls) (defBody s_Kind_calls) (defScope s_Kind_calls) .none kV_kcalls dc_kcalls pm_kcalls an_kcalls cd_kcalls ct_kcalls), sl_kcalls⟩)
    (c_kcalls : PySem.W.codeIn K cd_kcalls "Kind.calls" = true)
    (k_kcalls : PySem.W.keepIn K (.ref f_kcalls) = true)
    (fn_kcalls : PySem.W.isFn K (.ref f_kcalls) = true)
    (m_knames : PySem.W.findIn K (.ref C_Kind) "names" = some (some (.ref f_knames)))
    (l_knames : K.lookup f_knames = some ⟨oc_knames, od_knames, .func (PySem.W.fnOf "names" "Kind.names" (defArgs s_Kind_names) (defBody s_Kind_names) (defScope s_Kind_names) .none kV_knames dc_knames pm_knames an_knames cd_knames ct_knames), sl_knames⟩)
    (c_knames : PySem.W.codeIn K cd_knames "Kind.names" = true)
    (k_knames : PySem.W.keepIn K (.ref f_knames) = true)
    (fn_knames : PySem.W.isFn K (.ref f_knames) = true)
    (m_klen : PySem.W.findIn K (.ref C_Kind) "__len__" = some (some (.ref f_klen)))
    (l_klen : K.lookup f_klen = some ⟨oc_klen, od_klen, .func (PySem.W.fnOf "__len__" "Kind.__len__" (defArgs s_Kind_len) (defBody s_Kind_len) (defScope s_Kind_len) .none kV_klen dc_klen pm_klen an_klen cd_klen ct_klen), sl_klen⟩)
    (c_klen : PySem.W.codeIn K cd_klen "Kind.__len__" = true)
    (k_klen : PySem.W.keepIn K (.ref f_klen) = true)
    (fn_klen : PySem.W.isFn K (.ref f_klen) = true)
    (m_kiter : PySem.W.findIn K (.ref C_Kind) "__iter__" = some (some (.ref f_kiter)))
    (l_kiter : K.lookup f_kiter = some ⟨oc_kiter, od_kiter, .func (PySem.W.fnOf "__iter__" "Kind.__iter__" (defArgs s_Kind_iter) (defBody s_Kind_iter) (defScope s_Kind_iter) .none kV_kiter dc_kiter pm_kiter an_kiter cd_kiter ct_kiter), sl_kiter⟩)
    (c_kiter : PySem.W.codeIn K cd_kiter "Kind.__iter__" = true)
    (k_kiter : PySem.W.keepIn K (.ref f_kiter) = true)
    (fn_kiter : PySem.W.isFn K (.ref f_kiter) = true)
    (m_kget : PySem.W.findIn K (.ref C_Kind) "__getitem__" = some (some (.ref f_kget)))
    (l_kget : K.lookup f_kget = some ⟨oc_kget, od_kget, .func (PySem.W.fnOf "__getitem__" "Kind.__getitem__" (defArgs s_Kind_getitem) (defBody s_Kind_getitem) (defScope s_Kind_getitem) .none kV_kget dc_kget pm_kget an_kget cd_kget ct_kget), sl_kget⟩)
    (c_kget : PySem.W.codeIn K cd_kget "Kind.__getitem__" = true)
    (k_kget : PySem.W.keepIn K (.ref f_kget) = true)
    (fn_kget : PySem.W.isFn K (.ref f_kget) = true)
    (m_ktakes : PySem.W.findIn K (.ref C_Kind) "takes" = some (some (.ref f_ktakes)))
    (l_ktakes : K.lookup f_ktakes = some ⟨oc_ktakes, od_ktakes, .func (PySem.W.fnOf "takes" "Kind.takes" (defArgs s_Kind_takes) (defBody s_Kind_takes) (defScope s_Kind_takes) .none kV_ktakes dc_ktakes pm_ktakes an_ktakes cd_ktakes ct_ktakes), sl_ktakes⟩)
    (c_ktakes : PySem.W.codeIn K cd_ktakes "Kind.takes" = true)
    (k_ktakes : PySem.W.keepIn K (.ref f_ktakes) = true)
    (fn_ktakes : PySem.W.isFn K (.ref f_ktakes) = true)
    (m_iU : PySem.W.findIn K (.ref C_UnknownCall) "__init__" = some (some (.ref f_iU)))
    (l_iU : K.lookup f_iU = some ⟨oc_iU, od_iU, .func (PySem.W.fnOf "__init__" "UnknownCall.__init__" (defArgs s_UnknownCall_init) (defBody s_UnknownCall_init) (defScope s_UnknownCall_init) .none kV_iU dc_iU pm_iU an_iU cd_iU ct_iU), sl_iU⟩)
    (c_iU : PySem.W.codeIn K cd_iU "UnknownCall.__init__" = true)
    (k_iU : PySem.W.keepIn K (.ref f_iU) = true)
    (fn_iU : PySem.W.isFn K (.ref f_iU) = true)
    (m_iP : PySem.W.findIn K (.ref C_BadPlace) "__init__" = some (some (.ref f_iP)))
    (l_iP : K.lookup f_iP = some ⟨oc_iP, od_iP, .func (PySem.W.fnOf "__init__" "BadPlace.__init__" (defArgs s_BadPlace_init) (defBody s_BadPlace_init) (defScope s_BadPlace_init) .none kV_iP dc_iP pm_iP an_iP cd_iP ct_iP), sl_iP⟩)
    (c_iP : PySem.W.codeIn K cd_iP "BadPlace.__init__" = true)
    (k_iP : PySem.W.keepIn K (.ref f_iP) = true)
    (fn_iP : PySem.W.isFn K (.ref f_iP) = true)
    (t_iU : PySem.W.typeIn K (.ref f_iU) = some (.type "function"))
    (t_iP : PySem.W.typeIn K (.ref f_iP) = some (.type "function"))
    (n_U : PySem.W.findIn K (.ref C_UnknownCall) "name" = some none)
    (n_P : PySem.W.findIn K (.ref C_BadPlace) "place" = some none)
    (d_kinit : PySem.W.nsIn K D_kinit "modes" = some (some (.int 1 tk_kinit)))
    (fi_kget : PySem.W.fnIn K f_kget = true)
    (z_iter : PySem.W.nsIn K mainGlobals "iter" = some none)
    (kc_mk : PySem.W.makesIn K C_Kind = true)
    (kc_kp : PySem.W.keepIn K (.ref C_Kind) = true)
    (kc_pg : PySem.W.plainGet K C_Kind Str.empty = true)
    (kc_hd : PySem.W.hasDictIn K C_Kind = true)
    (kc_po : PySem.W.plainOver K C_Kind = true)
    (kc_sa : PySem.W.findIn K (.ref C_Kind) "__setattr__" = some (some (.builtin "object.__setattr__")))
    (kn_triples : PySem.W.findIn K (.ref C_Kind) "triples" = some none)
    (kn_sorts : PySem.W.findIn K (.ref C_Kind) "sorts" = some none)
    (kn_spots : PySem.W.findIn K (.ref C_Kind) "spots" = some none)
    (kn_modes : PySem.W.findIn K (.ref C_Kind) "modes" = some none)
    (kn_steps : PySem.W.findIn K (.ref C_Kind) "steps" = some none)
    (kn_table : PySem.W.findIn K (.ref C_Kind) "table" = some none)
    (kc_ha : PySem.W.findIn K (.ref C_Kind) "__class__" = some (some (.builtin "object.__class__")))
    (kc_hn : PySem.W.specialIn K (.builtin "object.__class__") "__get__" = some (some (.builtin "getset_descriptor.__get__")))
    (kc_ht : PySem.W.takesIn K (.builtin "object.__class__") = some true)
    (kc_hm : PySem.W.mroIn K C_Kind (.type "object") = some true)
    (kc_ne : PySem.W.findIn K (.ref C_Kind) "__ne__" = some (some (.builtin "object.__ne__")))
    (kc_ob : PySem.W.subIn K (.ref C_Kind) (.type "object") = some true)
    (z_len : PySem.W.nsIn K mainGlobals "len" = some none)
    (z_int : PySem.W.nsIn K mainGlobals "int" = some none)
    (z_enumerate : PySem.W.nsIn K mainGlobals "enumerate" = some none)
    (z_list : PySem.W.nsIn K mainGlobals "list" = some none)
    (z_tuple : PySem.W.nsIn K mainGlobals "tuple" = some none)
    (z_isinstance : PySem.W.nsIn K mainGlobals "isinstance" = some none)
    (z_range : PySem.W.nsIn K mainGlobals "range" = some none)
    (z_all : PySem.W.nsIn K mainGlobals "all" = some none)
    (z_zip : PySem.W.nsIn K mainGlobals "zip" = some none)
    (z_ValueError : PySem.W.nsIn K mainGlobals "ValueError" = some none)
    (z_bool : PySem.W.nsIn K mainGlobals "bool" = some none)
    (z_str : PySem.W.nsIn K mainGlobals "str" = some none)
    (z_set : PySem.W.nsIn K mainGlobals "set" = some none)
    (z_any : PySem.W.nsIn K mainGlobals "any" = some none)
    (v_MOST_LETTERS : PySem.W.nsIn K mainGlobals "MOST_LETTERS" = some (some (.int 8 tk_MOST_LETTERS)))
    (v_MOST_FIELDS : PySem.W.nsIn K mainGlobals "MOST_FIELDS" = some (some (.int 3 tk_MOST_FIELDS)))
    (v_MOST_MODES : PySem.W.nsIn K mainGlobals "MOST_MODES" = some (some (.int 4 tk_MOST_MODES)))
    (v_MOST_CALLS : PySem.W.nsIn K mainGlobals "MOST_CALLS" = some (some (.int 6 tk_MOST_CALLS)))
    (v_MOST_DEEDS : PySem.W.nsIn K mainGlobals "MOST_DEEDS" = some (some (.int 4 tk_MOST_DEEDS)))
    (v_SORTS : PySem.W.nsIn K mainGlobals "SORTS" = some (some (.ref A_sorts)))
    (v_HANDS : PySem.W.nsIn K mainGlobals "HANDS" = some (some (.ref A_hands)))
    (v_WORD_DEEDS : PySem.W.nsIn K mainGlobals "WORD_DEEDS" = some (some (.ref A_wd)))
    (v_LIST_WORD_DEEDS : PySem.W.nsIn K mainGlobals "LIST_WORD_DEEDS" = some (some (.ref A_lwd)))
    (v_sod : PySem.W.nsIn K mainGlobals "SORTS_OF_DEEDS" = some (some (.ref A_sod)))
    (sd_set : PySem.W.nsIn K A_sod "set" = some (some (.ref A_sod_set)))
    (sd_add : PySem.W.nsIn K A_sod "add" = some (some (.ref A_sod_add)))
    (sd_strike : PySem.W.nsIn K A_sod "strike" = some (some (.ref A_sod_strike)))
    (sd_fresh : PySem.W.nsIn K A_sod "fresh" = some (some (.ref A_sod_fresh)))
    (sd_clear : PySem.W.nsIn K A_sod "clear" = some (some (.ref A_sod_clear)))
    (tu_sorts : tupB K A_sorts ["one", "many"] = true)
    (tu_hands : tupB K A_hands ["self", "new", "last"] = true)
    (tu_wd : tupB K A_wd ["set", "add", "strike"] = true)
    (tu_lwd : tupB K A_lwd ["add", "strike"] = true)
    (td_set : tupB K A_sod_set ["one"] = true)
    (td_add : tupB K A_sod_add ["many"] = true)
    (td_strike : tupB K A_sod_strike ["many"] = true)
    (td_fresh : tupB K A_sod_fresh ["many"] = true)
    (td_clear : tupB K A_sod_clear ["one", "many"] = true)
    (dsod : He.dicW K A_sod = some (He.keysIn w.params ["set", "add", "strike", "fresh", "clear"]))
    (tabl : vsl[11]? = some (.ref Pl))
    (nPl : K.lookup Pl = none)
    (o_UnknownCall : oexB K C_UnknownCall = true)
    (o_BadPlace : oexB K C_BadPlace = true)
    (e_UnknownCall : errB K C_UnknownCall = true)
    (e_BadPlace : errB K C_BadPlace = true)
    (q_u1 : PySem.W.kitOne K (.ref C_UnknownCall) (.ref C_BadField) = some false)
    (q_u2 : PySem.W.kitOne K (.ref C_UnknownCall) (.ref C_BadModes) = some false)
    (q_u3 : PySem.W.kitOne K (.ref C_UnknownCall) (.ref C_BadCall) = some false)
    (q_u4 : PySem.W.kitOne K (.ref C_UnknownCall) (.ref C_UnknownCall) = some true)
    (q_p1 : PySem.W.kitOne K (.ref C_BadPlace) (.ref C_BadField) = some false)
    (q_p2 : PySem.W.kitOne K (.ref C_BadPlace) (.ref C_BadModes) = some false)
    (q_p3 : PySem.W.kitOne K (.ref C_BadPlace) (.ref C_BadCall) = some false)
    (q_p4 : PySem.W.kitOne K (.ref C_BadPlace) (.ref C_UnknownCall) = some false)
    (q_p5 : PySem.W.kitOne K (.ref C_BadPlace) (.ref C_BadPlace) = some true)
    (q_kS : PySem.W.kitOne K (.ref C_Kind) (.type "str") = some false)
    (q_kO : (oddT.all fun t => PySem.W.kitOne K (.type t) (.ref C_Kind) == some false) = true)
    (q_nF : (oddT.all fun t => PySem.W.notFirst K C_Kind (.type t)) = true)
    (q_mU : PySem.W.exmOne K (.ref C_UnknownCall) (.ref C_MakerError) = some true)
    (q_mP : PySem.W.exmOne K (.ref C_BadPlace) (.ref C_MakerError) = some true)
    : ∃ (fd : FuncData) (c P : Addr) (sp : Sp), PySem.W.tabIn K "law" = some (c, P) ∧ K.lookup P = none ∧ (∀ (s : Shared) (u : Value), BindsTo s fd ⟨[u], []⟩ [("_law_script", u)]) ∧
        (∀ (H : Hp) (a : Addr) (ns : List Int), ns.length ≤ 63 → H P = some (.tbl #[]) → SqL K H a (ns.map V.int) → sp [.ref a] H (fun v _ => v = .bl true) fun _ _ _ => False) ∧
        ∀ base : Heap, K.In base → base.Ns mainGlobals mg → LamX.TabB base mg c P → FnOk l.prog w K mg base CX0 12 fa fd ["_law_script"] sp := by
  have e := hfa.symm.trans (PySem.W.mg_of X G a_law)
  cases e
  have T : Txt K mg := ⟨PySem.W.mg_none_of X G z_len, PySem.W.mg_none_of X G z_int, PySem.W.mg_none_of X G z_enumerate, PySem.W.mg_none_of X G z_list, PySem.W.mg_none_of X G z_tuple, PySem.W.mg_none_of X G z_isinstance, PySem.W.mg_none_of X G z_range, PySem.W.mg_none_of X G z_all, PySem.W.mg_none_of X G z_zip, PySem.W.mg_none_of X G z_ValueError, PySem.W.mg_none_of X G z_bool, PySem.W.mg_none_of X G z_str, PySem.W.mg_none_of X G z_set, PySem.W.mg_none_of X G z_any⟩
  have F_fresh := def_mk (st := s_fresh) (ps := ["_law_script"]) X G a_fresh l_fresh c_fresh k_fresh fun _ _ _ _ _ _ us hl => match us, hl with | [_], _ => rfl
  have F_fill := def_mk (st := s_fill) (ps := ["_law_state"]) X G a_fill l_fill c_fill k_fill fun _ _ _ _ _ _ us hl => match us, hl with | [_], _ => rfl
  have F_take := def_mk (st := s_take) (ps := ["_law_state", "_law_many"]) X G a_take l_take c_take k_take fun _ _ _ _ _ _ us hl => match us, hl with | [_, _], _ => rfl
  have F_one := def_mk (st := s_one) (ps := ["_law_state", "_law_things"]) X G a_one l_one c_one k_one fun _ _ _ _ _ _ us hl => match us, hl with | [_, _], _ => rfl
  have F_mix := def_mk (st := s_mix) (ps := ["_law_state", "_law_things"]) X G a_mix l_mix c_mix k_mix fun _ _ _ _ _ _ us hl => match us, hl with | [_, _], _ => rfl
  have F_same := def_mk (st := s_same) (ps := ["_law_found", "_law_due"]) X G a_same l_same c_same k_same fun _ _ _ _ _ _ us hl => match us, hl with | [_, _], _ => rfl
  have F_tried := def_mk (st := s_tried) (ps := ["_law_deed"]) X G a_tried l_tried c_tried k_tried fun _ _ _ _ _ _ us hl => match us, hl with | [_], _ => rfl
  have F_error := def_mk (st := s_error) (ps := ["_law_e"]) X G a_error l_error c_error k_error fun _ _ _ _ _ _ us hl => match us, hl with | [_], _ => rfl
  have F_plan := def_mk (st := s_plan) (ps := ["_law_fields", "_law_calls", "_law_far"]) X G a_plan l_plan c_plan k_plan fun _ _ _ _ _ _ us hl => match us, hl with | [_, _, _], _ => rfl
  have F_deeds := def_mk (st := s_deeds) (ps := ["_law_state", "_law_fields", "_law_many"]) X G a_deeds l_deeds c_deeds k_deeds fun _ _ _ _ _ _ us hl => match us, hl with | [_, _, _], _ => rfl
  have F_call := def_mk (st := s_call) (ps := ["_law_state", "_law_name", "_law_hand", "_law_fields", "_law_far"]) X G a_call l_call c_call k_call fun _ _ _ _ _ _ us hl => match us, hl with | [_, _, _, _, _], _ => rfl
  have F_kind := def_mk (st := s_kind) (ps := ["_law_state", "_law_wide", "_law_many", "_law_far"]) X G a_kind l_kind c_kind k_kind fun _ _ _ _ _ _ us hl => match us, hl with | [_, _, _, _], _ => rfl
  have F_handed := def_mk (st := s_handed) (ps := ["_law_state", "_law_things"]) X G a_handed l_handed c_handed k_handed fun _ _ _ _ _ _ us hl => match us, hl with | [_, _], _ => rfl
  have F_spoil := def_mk (st := s_spoil) (ps := ["_law_x"]) X G a_spoil l_spoil c_spoil k_spoil fun _ _ _ _ _ _ us hl => match us, hl with | [_], _ => rfl
  have F_in_lists := def_mk (st := s_in_lists) (ps := ["_law_state", "_law_x"]) X G a_in_lists l_in_lists c_in_lists k_in_lists fun _ _ _ _ _ _ us hl => match us, hl with | [_, _], _ => rfl
  have F_takes := def_mk (st := s_takes) (ps := ["_law_row"]) X G a_takes l_takes c_takes k_takes fun _ _ _ _ _ _ us hl => match us, hl with | [_], _ => rfl
  have F_deep := def_mk (st := s_deep) (ps := ["_law_state", "_law_calls"]) X G a_deep l_deep c_deep k_deep fun _ _ _ _ _ _ us hl => match us, hl with | [_, _], _ => rfl
  have F_as_call := def_mk (st := s_as_call) (ps := ["_law_row"]) X G a_as_call l_as_call c_as_call k_as_call fun _ _ _ _ _ _ us hl => match us, hl with | [_], _ => rfl
  have F_is_told := def_mk (st := s_is_told) (ps := ["_law_p", "_law_kind_here"]) X G a_is_told l_is_told c_is_told k_is_told fun _ _ _ _ _ _ us hl => match us, hl with | [_, _], _ => rfl
  have F_unlike := def_mk (st := s_unlike) (ps := ["_law_state", "_law_p"]) X G a_unlike l_unlike c_unlike k_unlike fun _ _ _ _ _ _ us hl => match us, hl with | [_, _], _ => rfl
  have F_is_word := def_mk (st := s_is_word) (ps := ["thing"]) X G a_is_word l_is_word c_is_word k_is_word fun _ _ _ _ _ _ us hl => match us, hl with | [_], _ => rfl
  have F_is_integer := def_mk (st := s_is_integer) (ps := ["thing"]) X G a_is_integer l_is_integer c_is_integer k_is_integer fun _ _ _ _ _ _ us hl => match us, hl with | [_], _ => rfl
  have F_is_list := def_mk (st := s_is_list) (ps := ["thing"]) X G a_is_list l_is_list c_is_list k_is_list fun _ _ _ _ _ _ us hl => match us, hl with | [_], _ => rfl
  have F_is_modes := def_mk (st := s_is_modes) (ps := ["modes"]) X G a_is_modes l_is_modes c_is_modes k_is_modes fun _ _ _ _ _ _ us hl => match us, hl with | [_], _ => rfl
  have F_is_field := def_mk (st := s_is_field) (ps := ["item", "earlier"]) X G a_is_field l_is_field c_is_field k_is_field fun _ _ _ _ _ _ us hl => match us, hl with | [_, _], _ => rfl
  have F_kept_fields := def_mk (st := s_kept_fields) (ps := ["fields"]) X G a_kept_fields l_kept_fields c_kept_fields k_kept_fields fun _ _ _ _ _ _ us hl => match us, hl with | [_], _ => rfl
  have F_is_many := def_mk (st := s_is_many) (ps := ["field", "sorts"]) X G a_is_many l_is_many c_is_many k_is_many fun _ _ _ _ _ _ us hl => match us, hl with | [_, _], _ => rfl
  have F_is_deed := def_mk (st := s_is_deed) (ps := ["pair", "sorts"]) X G a_is_deed l_is_deed c_is_deed k_is_deed fun _ _ _ _ _ _ us hl => match us, hl with | [_, _], _ => rfl
  have F_are_moves := def_mk (st := s_are_moves) (ps := ["moves", "modes"]) X G a_are_moves l_are_moves c_are_moves k_are_moves fun _ _ _ _ _ _ us hl => match us, hl with | [_, _], _ => rfl
  have F_has_call_form := def_mk (st := s_has_call_form) (ps := ["item"]) X G a_has_call_form l_has_call_form c_has_call_form k_has_call_form fun _ _ _ _ _ _ us hl => match us, hl with | [_], _ => rfl
  have F_are_deeds := def_mk (st := s_are_deeds) (ps := ["deeds", "sorts"]) X G a_are_deeds l_are_deeds c_are_deeds k_are_deeds fun _ _ _ _ _ _ us hl => match us, hl with | [_, _], _ => rfl
  have F_is_same := def_mk (st := s_is_same) (ps := ["same", "hand", "sorts"]) X G a_is_same l_is_same c_is_same k_is_same fun _ _ _ _ _ _ us hl => match us, hl with | [_, _, _], _ => rfl
  have F_kept_call := def_mk (st := s_kept_call) (ps := ["call"]) X G a_kept_call l_kept_call c_kept_call k_kept_call fun _ _ _ _ _ _ us hl => match us, hl with | [_], _ => rfl
  have F_wrong_part := def_mk (st := s_wrong_part) (ps := ["item", "earlier", "sorts", "modes"]) X G a_wrong_part l_wrong_part c_wrong_part k_wrong_part fun _ _ _ _ _ _ us hl => match us, hl with | [_, _, _, _], _ => rfl
  have F_kept_calls := def_mk (st := s_kept_calls) (ps := ["calls", "sorts", "modes"]) X G a_kept_calls l_kept_calls c_kept_calls k_kept_calls fun _ _ _ _ _ _ us hl => match us, hl with | [_, _, _], _ => rfl
  have F_told_call := def_mk (st := s_told_call) (ps := ["call"]) X G a_told_call l_told_call c_told_call k_told_call fun _ _ _ _ _ _ us hl => match us, hl with | [_], _ => rfl
  have F_kinit := fun_mk (st := s_Kind_init) l_kinit c_kinit k_kinit
  have F_keq := fun_mk (st := s_Kind_eq) l_keq c_keq k_keq
  have B_keq : Binds K _ ["self", "other"] [] := F_keq.binds fun _ _ _ _ _ _ us hl => match us, hl with | [_, _], _ => rfl
  have F_khas := fun_mk (st := s_Kind_contains) l_khas c_khas k_khas
  have B_khas : Binds K _ ["self", "x"] [] := F_khas.binds fun _ _ _ _ _ _ us hl => match us, hl with | [_, _], _ => rfl
  have F_kfields := fun_mk (st := s_Kind_fields) l_kfields c_kfields k_kfields
  have B_kfields : Binds K _ ["self"] [] := F_kfields.binds fun _ _ _ _ _ _ us hl => match us, hl with | [_], _ => rfl
  have F_kcalls := fun_mk (st := s_Kind_calls) l_kcalls c_kcalls k_kcalls
  have B_kcalls : Binds K _ ["self"] [] := F_kcalls.binds fun _ _ _ _ _ _ us hl => match us, hl with | [_], _ => rfl
  have F_knames := fun_mk (st := s_Kind_names) l_knames c_knames k_knames
  have B_knames : Binds K _ ["self"] [] := F_knames.binds fun _ _ _ _ _ _ us hl => match us, hl with | [_], _ => rfl
  have F_klen := fun_mk (st := s_Kind_len) l_klen c_klen k_klen
  have B_klen : Binds K _ ["self"] [] := F_klen.binds fun _ _ _ _ _ _ us hl => match us, hl with | [_], _ => rfl
  have F_kiter := fun_mk (st := s_Kind_iter) l_kiter c_kiter k_kiter
  have B_kiter : Binds K _ ["self"] [] := F_kiter.binds fun _ _ _ _ _ _ us hl => match us, hl with | [_], _ => rfl
  have F_kget := fun_mk (st := s_Kind_getitem) l_kget c_kget k_kget
  have B_kget : Binds K _ ["self", "at"] [] := F_kget.binds fun _ _ _ _ _ _ us hl => match us, hl with | [_, _], _ => rfl
  have F_ktakes := fun_mk (st := s_Kind_takes) l_ktakes c_ktakes k_ktakes
  have B_ktakes : Binds K _ ["self", "name"] [] := F_ktakes.binds fun _ _ _ _ _ _ us hl => match us, hl with | [_, _], _ => rfl
  have F_iU := fun_mk (st := s_UnknownCall_init) l_iU c_iU k_iU
  have B_iU : Binds K _ ["self", "name"] [] := F_iU.binds fun _ _ _ _ _ _ us hl => match us, hl with | [_, _], _ => rfl
  have F_iP := fun_mk (st := s_BadPlace_init) l_iP c_iP k_iP
  have B_iP : Binds K _ ["self", "place"] [] := F_iP.binds fun _ _ _ _ _ _ us hl => match us, hl with | [_, _], _ => rfl
  obtain ⟨oc_U, fc_U, ic_U⟩ := errB_ok e_UnknownCall o_UnknownCall
  obtain ⟨oc_P, fc_P, ic_P⟩ := errB_ok e_BadPlace o_BadPlace
  have TU : ErrC K C_UnknownCall f_iU := ⟨oc_U, m_iU, t_iU⟩
  have TP : ErrC K C_BadPlace f_iP := ⟨oc_P, m_iP, t_iP⟩
  have Z : KCls K C_Kind := ⟨⟨kc_pg, kc_hd, kc_po, kc_sa⟩, kn_triples, kn_sorts, kn_spots, kn_modes, kn_steps, kn_table⟩
  have Y : KIns K C_Kind := ⟨kc_ha, kc_hn, kc_ht, kc_hm⟩
  have Cs : Csts K w mg ⟨A_sorts, A_hands, A_sod, A_wd, A_lwd⟩ :=
    { MOST_LETTERS := ⟨_, PySem.W.mg_of X G v_MOST_LETTERS, _, rfl⟩,
      MOST_FIELDS := ⟨_, PySem.W.mg_of X G v_MOST_FIELDS, _, rfl⟩,
      MOST_MODES := ⟨_, PySem.W.mg_of X G v_MOST_MODES, _, rfl⟩,
      MOST_CALLS := ⟨_, PySem.W.mg_of X G v_MOST_CALLS, _, rfl⟩,
      MOST_DEEDS := ⟨_, PySem.W.mg_of X G v_MOST_DEEDS, _, rfl⟩,
      SORTS := ⟨_, PySem.W.mg_of X G v_SORTS, rfl⟩,
      HANDS := ⟨_, PySem.W.mg_of X G v_HANDS, rfl⟩,
      SORTS_OF_DEEDS := ⟨_, PySem.W.mg_of X G v_sod, rfl⟩,
      WORD_DEEDS := ⟨_, PySem.W.mg_of X G v_WORD_DEEDS, rfl⟩,
      LIST_WORD_DEEDS := ⟨_, PySem.W.mg_of X G v_LIST_WORD_DEEDS, rfl⟩,
      t_sorts := tupB_ok tu_sorts,
      t_hands := tupB_ok tu_hands,
      t_wd := tupB_ok tu_wd,
      t_lwd := tupB_ok tu_lwd,
      sodD := He.dicW_ok dsod,
      sodN := sod_all dsod ⟨_, sd_set, tupB_ok td_set⟩ ⟨_, sd_add, tupB_ok td_add⟩ ⟨_, sd_strike, tupB_ok td_strike⟩ ⟨_, sd_fresh, tupB_ok td_fresh⟩ ⟨_, sd_clear, tupB_ok td_clear⟩ }
  have W : ErrN K mg ⟨C_BadField, C_BadModes, C_BadCall, C_UnknownCall, C_BadPlace, C_BadText, C_BadRow, C_MakerError⟩ :=
    { g_BadField := PySem.W.mg_of X G aC_BadField,
      g_BadModes := PySem.W.mg_of X G aC_BadModes,
      g_BadCall := PySem.W.mg_of X G aC_BadCall,
      g_UnknownCall := PySem.W.mg_of X G aC_UnknownCall,
      g_BadPlace := PySem.W.mg_of X G aC_BadPlace,
      g_BadText := PySem.W.mg_of X G aC_BadText,
      g_BadRow := PySem.W.mg_of X G aC_BadRow,
      g_MakerError := PySem.W.mg_of X G aC_MakerError,
      iU := errI_of e_UnknownCall,
      fU := fc_U,
      nU := n_U,
      iP := errI_of e_BadPlace,
      fP := fc_P,
      nP := n_P,
      u1 := q_u1,
      u2 := q_u2,
      u3 := q_u3,
      u4 := q_u4,
      p1 := q_p1,
      p2 := q_p2,
      p3 := q_p3,
      p4 := q_p4,
      p5 := q_p5,
      mU := q_mU,
      mP := q_mP }
  refine ⟨PySem.W.fnOf "law" "law" (defArgs s_law) (defBody s_law) (defScope s_law) .none kV_law dc_law pm_law an_law (.ref cl) ct_law, cl, Pl, spLawT K Pl, tabIn_of a_law l_law rfl lcl tabl, nPl, fun s v => .of_eq rfl, fun H a ns hl hP hS => ⟨a, ns, rfl, hS, hl, hP, fun _ => rfl⟩, fun base _ _ TB => ?_⟩
  have c_fresh := ok_fresh (P := l.prog) (w := w) (base := base) F_fresh T
  have c_fill := ok_fill (P := l.prog) (w := w) (base := base) F_fill T
  have c_take := ok_take F_take T c_fill
  have c_one := ok_one F_one T c_take
  have c_mix := ok_mix F_mix T c_take
  have c_deeds := ok_deeds F_deeds T c_take c_one
  have c_call := ok_call F_call T c_take c_one c_deeds
  have c_same := ok_same (P := l.prog) (w := w) (base := base) F_same T 2
  have c_is_word := ok_word (P := l.prog) (w := w) (base := base) F_is_word T Cs
  have c_is_integer := ok_integer (P := l.prog) (w := w) (base := base) F_is_integer T
  have c_is_list := ok_list (P := l.prog) (w := w) (base := base) F_is_list T
  have c_is_modes := ok_modes F_is_modes T Cs c_is_integer
  have c_is_field := ok_field F_is_field T Cs c_is_list c_is_word
  have c_kept_fields := ok_fields F_kept_fields T Cs c_is_list c_is_field
  have c_is_many := ok_many (P := l.prog) (w := w) (base := base) F_is_many T
  have c_is_deed := ok_deed F_is_deed T Cs c_is_list
  have c_are_moves := ok_moves F_are_moves T c_is_integer
  have c_has_call_form := ok_callForm F_has_call_form T c_is_list
  have c_are_deeds := ok_deedsOk F_are_deeds T Cs c_is_deed
  have c_is_same := ok_sameOk F_is_same T c_is_many
  have c_kept_call := ok_keptCall (P := l.prog) (w := w) (base := base) F_kept_call T
  have c_wrong_part := ok_wrong F_wrong_part T Cs c_has_call_form c_is_word c_are_moves c_are_deeds c_is_same
  have c_kept_calls := ok_calls F_kept_calls T Cs c_is_list c_wrong_part c_kept_call
  have I_kinit : FnOk l.prog w K mg base CX0 6 f_kinit _ ["self", "fields", "calls", "modes"] (spKInit K C_Kind) := F_kinit.ok sc_Kind_init (fun vs H Q E h => by obtain ⟨_, _, _, _, _, _, _, _, _, _, rfl, _⟩ := h; rfl) fun cdv A outer s H vs Q E hr h => run_kinit T Z c_kept_fields c_is_modes c_kept_calls hr h
  have c_Kind : KMk l.prog w K mg base C_Kind := ⟨⟨f_kinit, _, ⟨kc_mk, m_kinit, fn_kinit, kc_kp⟩, I_kinit, ⟨fun s us ws _ h1 h2 => match us, ws, h1, h2 with | [_, _, _], [_], _, _ => .of_eq rfl, fun r r2 => r.append r2⟩⟩, PySem.W.mg_of X G aC_Kind⟩
  have c_Kind0 : KMk0 l.prog w K mg base C_Kind := KMk0.of ⟨kc_mk, m_kinit, fn_kinit, kc_kp⟩ I_kinit rfl l_kinit c_kinit k_kinit d_kinit (PySem.W.mg_of X G aC_Kind)
  have I_has := ok_khas (P := l.prog) (w := w) (base := base) F_khas T Z
  have I_eq := ok_keqX (P := l.prog) (w := w) (base := base) F_keq T Z Y (PySem.W.mg_of X G aC_Kind)
  have c_told_call := ok_told (P := l.prog) (w := w) (base := base) F_told_call T
  have r_U : RaiseC l.prog w K mg base 1 "UnknownCall" C_UnknownCall (spErr1 C_UnknownCall "name") := ⟨⟨f_iU, _, _, TU, ok_UnknownCall F_iU oc_U n_U, PySem.W.mg_of X G aC_UnknownCall, B_iU⟩⟩
  have r_P : RaiseC l.prog w K mg base 1 "BadPlace" C_BadPlace (spErr1 C_BadPlace "place") := ⟨⟨f_iP, _, _, TP, ok_BadPlace F_iP oc_P n_P, PySem.W.mg_of X G aC_BadPlace, B_iP⟩⟩
  have M : KM l.prog w K mg base C_Kind C_UnknownCall f_kfields f_kcalls f_knames f_klen f_kiter f_kget f_ktakes _ _ _ _ _ _ _ :=
    { fields := ⟨⟨m_kfields, fn_kfields, k_kfields⟩, ok_kfields F_kfields T Z, B_kfields⟩, calls := ⟨⟨m_kcalls, fn_kcalls, k_kcalls⟩, ok_kcalls F_kcalls T Z c_told_call, B_kcalls⟩, names := ⟨⟨m_knames, fn_knames, k_knames⟩, ok_knames F_knames T Z, B_knames⟩,
      len := ⟨ok_klen F_klen T Z, m_klen, fn_klen, B_klen⟩, iter := ⟨ok_kiter F_kiter T (PySem.W.mg_none_of X G z_iter) Z, m_kiter, fn_kiter, B_kiter⟩, get := ⟨ok_kget F_kget T Z c_told_call r_U, m_kget, fi_kget, fn_kget, B_kget⟩,
      takes := ⟨⟨m_ktakes, fn_ktakes, k_ktakes⟩, ok_ktakes F_ktakes T Cs Z ⟨I_has, m_khas, fn_khas, B_khas⟩ r_U, B_ktakes⟩ }
  have c_spoil := ok_spoil (P := l.prog) (w := w) (base := base) F_spoil T 5
  have c_same5 := ok_same (P := l.prog) (w := w) (base := base) F_same T 5
  have c_handed := ok_handed F_handed T c_take
  have c_in0 := ok_in0 F_in_lists T c_handed (cal_bot (P := l.prog) (w := w) (base := base) F_in_lists)
  have c_in1 := ok_inS (G := G0) (R := RP) (fun _ h => h) rp_ok F_in_lists T c_handed (by decide) c_in0
  have c_in_lists := ok_inS (G := GS K G0) (R := fun H v ys L => Ho K RP H v ys L) (fun e h => gs_keep e h) (ho_ok rp_ok) F_in_lists T c_handed (by decide) c_in1
  have c_deep := ok_deep F_deep T c_handed
  have c_ltakes := ok_ltakes (P := l.prog) (w := w) (base := base) F_takes T
  have c_as_call := ok_as_call (P := l.prog) (w := w) (base := base) F_as_call T
  have c_is_told := ok_istold F_is_told T Z M c_same5 c_as_call c_ltakes
  have c_unlike := ok_unlike F_unlike T c_take c_Kind
  have c_plan := ok_plan F_plan T c_Kind
  have c_kind := ok_kind F_kind T c_take c_one c_mix c_call c_plan
  have F_err := ok_errw (P := l.prog) (w := w) (base := base) F_error T W
  refine fn_of l_law c_law sc_law (fun vs H Q E h => by obtain ⟨a, ns, rfl, _⟩ := h; rfl) fun A outer s H vs Q E hr hsp => ?_
  obtain ⟨a, ns, rfl, hS, hn, hP, k⟩ := hsp
  obtain ⟨t, h1, h2⟩ := run_law T Z Y q_kS (fun t ht => eq_of_beq (List.all_eq_true.mp q_kO t ht)) (fun t ht => List.all_eq_true.mp q_nF t ht) W c_fresh c_kind c_in_lists c_deep c_spoil c_is_told c_unlike c_same c_Kind c_Kind0 M ⟨I_eq, kc_ne, m_keq, fn_keq, kc_ob, B_keq⟩ ⟨I_has, m_khas, fn_khas, B_khas⟩ F_tried F_err ⟨PySem.W.mg_of X G a_error, k_error, F_error.bi⟩ TB hr hS hn hP k
  exact ⟨t, h1.nox, h2⟩
end MK
open PySem PySem.W PyProof.Rows in
set_option maxRecDepth 100000 in
set_option maxHeartbeats 0 in
theorem PySem.Challenge.cw_makerlines_k02_kinds_told_holds : PySem.Challenge.rw_makerlines_k02_kinds_told.Holds := by
  w_on; o_law; k_head; (case hw => w_witness2)
  k_fill
  refine MK.walk_tab (l := PySem.Challenge.rw_makerlines_k02_kinds_told) (k := 12) (x := "_law_script") rfl rfl ⟨rfl, by decide, by decide⟩ (by kernel_rfl) (fun w h Y => PySem.W.km_in_of Y) ?F
  case F =>
    intro w mg fa h KX G hmg
    refine' MK.all_mk KX G hmg ?a_fresh ?l_fresh ?c_fresh ?k_fresh ?a_fill ?l_fill ?c_fill ?k_fill ?a_take ?l_take ?c_take ?k_take ?a_one ?l_one ?c_one ?k_one ?a_mix ?l_mix ?c_mix ?k_mix ?a_same ?l_same ?c_same ?k_same ?a_tried ?l_tried ?c_tried ?k_tried ?a_error ?l_error ?c_error ?k_error ?a_plan ?l_plan ?c_plan ?k_plan ?a_deeds ?l_deeds ?c_deeds ?k_deeds ?a_call ?l_call ?c_call ?k_call ?a_kind ?l_kind ?c_kind ?k_kind ?a_handed ?l_handed ?c_handed ?k_handed ?a_spoil ?l_spoil ?c_spoil ?k_spoil ?a_in_lists ?l_in_lists ?c_in_lists ?k_in_lists ?a_takes ?l_takes ?c_takes ?k_takes ?a_deep ?l_deep ?c_deep ?k_deep ?a_as_call ?l_as_call ?c_as_call ?k_as_call ?a_is_told ?l_is_told ?c_is_told ?k_is_told ?a_unlike ?l_unlike ?c_unlike ?k_unlike ?a_is_word ?l_is_word ?c_is_word ?k_is_word ?a_is_integer ?l_is_integer ?c_is_integer ?k_is_integer ?a_is_list ?l_is_list ?c_is_list ?k_is_list ?a_is_modes ?l_is_modes ?c_is_modes ?k_is_modes ?a_is_field ?l_is_field ?c_is_field ?k_is_field ?a_kept_fields ?l_kept_fields ?c_kept_fields ?k_kept_fields ?a_is_many ?l_is_many ?c_is_many ?k_is_many ?a_is_deed ?l_is_deed ?c_is_deed ?k_is_deed ?a_are_moves ?l_are_moves ?c_are_moves ?k_are_moves ?a_has_call_form ?l_has_call_form ?c_has_call_form ?k_has_call_form ?a_are_deeds ?l_are_deeds ?c_are_deeds ?k_are_deeds ?a_is_same ?l_is_same ?c_is_same ?k_is_same ?a_kept_call ?l_kept_call ?c_kept_call ?k_kept_call ?a_wrong_part ?l_wrong_part ?c_wrong_part ?k_wrong_part ?a_kept_calls ?l_kept_calls ?c_kept_calls ?k_kept_calls ?a_told_call ?l_told_call ?c_told_call ?k_told_call ?a_law ?l_law ?c_law ?k_law ?lcl ?aC_Kind ?aC_BadField ?aC_BadModes ?aC_BadCall ?aC_UnknownCall ?aC_BadPlace ?aC_BadText ?aC_BadRow ?aC_MakerError ?m_kinit ?l_kinit ?c_kinit ?k_kinit ?fn_kinit ?m_keq ?l_keq ?c_keq ?k_keq ?fn_keq ?m_khas ?l_khas ?c_khas ?k_khas ?fn_khas ?m_kfields ?l_kfields ?c_kfields ?k_kfields ?fn_kfields ?m_kcalls ?l_kcalls ?c_kcalls ?k_kcalls ?fn_kcalls ?m_knames ?l_knames ?c_knames ?k_knames ?fn_knames ?m_klen ?l_klen ?c_klen ?k_klen ?fn_klen ?m_kiter ?l_kiter ?c_kiter ?k_kiter ?fn_kiter ?m_kget ?l_kget ?c_kget ?k_kget ?fn_kget ?m_ktakes ?l_ktakes ?c_ktakes ?k_ktakes ?fn_ktakes ?m_iU ?l_iU ?c_iU ?k_iU ?fn_iU ?m_iP ?l_iP ?c_iP ?k_iP ?fn_iP ?t_iU ?t_iP ?n_U ?n_P ?d_kinit ?fi_kget ?z_iter ?kc_mk ?kc_kp ?kc_pg ?kc_hd ?kc_po ?kc_sa ?kn_triples ?kn_sorts ?kn_spots ?kn_modes ?kn_steps ?kn_table ?kc_ha ?kc_hn ?kc_ht ?kc_hm ?kc_ne ?kc_ob ?z_len ?z_int ?z_enumerate ?z_list ?z_tuple ?z_isinstance ?z_range ?z_all ?z_zip ?z_ValueError ?z_bool ?z_str ?z_set ?z_any ?v_MOST_LETTERS ?v_MOST_FIELDS ?v_MOST_MODES ?v_MOST_CALLS ?v_MOST_DEEDS ?v_SORTS ?v_HANDS ?v_WORD_DEEDS ?v_LIST_WORD_DEEDS ?v_sod ?sd_set ?sd_add ?sd_strike ?sd_fresh ?sd_clear ?tu_sorts ?tu_hands ?tu_wd ?tu_lwd ?td_set ?td_add ?td_strike ?td_fresh ?td_clear ?dsod ?tabl ?nPl ?o_UnknownCall ?o_BadPlace ?e_UnknownCall ?e_BadPlace ?q_u1 ?q_u2 ?q_u3 ?q_u4 ?q_p1 ?q_p2 ?q_p3 ?q_p4 ?q_p5 ?q_kS ?q_kO ?q_nF ?q_mU ?q_mP
    (case a_fresh => k_is)
    (case l_fresh => k_is)
    (case c_fresh => k_is)
    (case k_fresh => k_is)
    (case a_fill => k_is)
    (case l_fill => k_is)
    (case c_fill => k_is)
    (case k_fill => k_is)
    (case a_take => k_is)
    (case l_take => k_is)
    (case c_take => k_is)
    (case k_take => k_is)
    (case a_one => k_is)
    (case l_one => k_is)
    (case c_one => k_is)
    (case k_one => k_is)
    (case a_mix => k_is)
    (case l_mix => k_is)
    (case c_mix => k_is)
    (case k_mix => k_is)
    (case a_same => k_is)
    (case l_same => k_is)
    (case c_same => k_is)
    (case k_same => k_is)
    (case a_tried => k_is)
    (case l_tried => k_is)
    (case c_tried => k_is)
    (case k_tried => k_is)
    (case a_error => k_is)
    (case l_error => k_is)
    (case c_error => k_is)
    (case k_error => k_is)
    (case a_plan => k_is)
    (case l_plan => k_is)
    (case c_plan => k_is)
    (case k_plan => k_is)
    (case a_deeds => k_is)
    (case l_deeds => k_is)
    (case c_deeds => k_is)
    (case k_deeds => k_is)
    (case a_call => k_is)
    (case l_call => k_is)
    (case c_call => k_is)
    (case k_call => k_is)
    (case a_kind => k_is)
    (case l_kind => k_is)
    (case c_kind => k_is)
    (case k_kind => k_is)
    (case a_handed => k_is)
    (case l_handed => k_is)
    (case c_handed => k_is)
    (case k_handed => k_is)
    (case a_spoil => k_is)
    (case l_spoil => k_is)
    (case c_spoil => k_is)
    (case k_spoil => k_is)
    (case a_in_lists => k_is)
    (case l_in_lists => k_is)
    (case c_in_lists => k_is)
    (case k_in_lists => k_is)
    (case a_takes => k_is)
    (case l_takes => k_is)
    (case c_takes => k_is)
    (case k_takes => k_is)
    (case a_deep => k_is)
    (case l_deep => k_is)
    (case c_deep => k_is)
    (case k_deep => k_is)
    (case a_as_call => k_is)
    (case l_as_call => k_is)
    (case c_as_call => k_is)
    (case k_as_call => k_is)
    (case a_is_told => k_is)
    (case l_is_told => k_is)
    (case c_is_told => k_is)
    (case k_is_told => k_is)
    (case a_unlike => k_is)
    (case l_unlike => k_is)
    (case c_unlike => k_is)
    (case k_unlike => k_is)
    (case a_is_word => k_is)
    (case l_is_word => k_is)
    (case c_is_word => k_is)
    (case k_is_word => k_is)
    (case a_is_integer => k_is)
    (case l_is_integer => k_is)
    (case c_is_integer => k_is)
    (case k_is_integer => k_is)
    (case a_is_list => k_is)
    (case l_is_list => k_is)
    (case c_is_list => k_is)
    (case k_is_list => k_is)
    (case a_is_modes => k_is)
    (case l_is_modes => k_is)
    (case c_is_modes => k_is)
    (case k_is_modes => k_is)
    (case a_is_field => k_is)
    (case l_is_field => k_is)
    (case c_is_field => k_is)
    (case k_is_field => k_is)
    (case a_kept_fields => k_is)
    (case l_kept_fields => k_is)
    (case c_kept_fields => k_is)
    (case k_kept_fields => k_is)
    (case a_is_many => k_is)
    (case l_is_many => k_is)
    (case c_is_many => k_is)
    (case k_is_many => k_is)
    (case a_is_deed => k_is)
    (case l_is_deed => k_is)
    (case c_is_deed => k_is)
    (case k_is_deed => k_is)
    (case a_are_moves => k_is)
    (case l_are_moves => k_is)
    (case c_are_moves => k_is)
    (case k_are_moves => k_is)
    (case a_has_call_form => k_is)
    (case l_has_call_form => k_is)
    (case c_has_call_form => k_is)
    (case k_has_call_form => k_is)
    (case a_are_deeds => k_is)
    (case l_are_deeds => k_is)
    (case c_are_deeds => k_is)
    (case k_are_deeds => k_is)
    (case a_is_same => k_is)
    (case l_is_same => k_is)
    (case c_is_same => k_is)
    (case k_is_same => k_is)
    (case a_kept_call => k_is)
    (case l_kept_call => k_is)
    (case c_kept_call => k_is)
    (case k_kept_call => k_is)
    (case a_wrong_part => k_is)
    (case l_wrong_part => k_is)
    (case c_wrong_part => k_is)
    (case k_wrong_part => k_is)
    (case a_kept_calls => k_is)
    (case l_kept_calls => k_is)
    (case c_kept_calls => k_is)
    (case k_kept_calls => k_is)
    (case a_told_call => k_is)
    (case l_told_call => k_is)
    (case c_told_call => k_is)
    (case k_told_call => k_is)
    (case a_law => k_is)
    (case l_law => k_is)
    (case c_law => k_is)
    (case k_law => k_is)
    (case lcl => k_is)
    (case aC_Kind => k_is)
    (case aC_BadField => k_is)
    (case aC_BadModes => k_is)
    (case aC_BadCall => k_is)
    (case aC_UnknownCall => k_is)
    (case aC_BadPlace => k_is)
    (case aC_BadText => k_is)
    (case aC_BadRow => k_is)
    (case aC_MakerError => k_is)
    (case m_kinit => k_is)
    (case l_kinit => k_is)
    (case c_kinit => k_is)
    (case k_kinit => k_is)
    (case fn_kinit => k_is)
    (case m_keq => k_is)
    (case l_keq => k_is)
    (case c_keq => k_is)
    (case k_keq => k_is)
    (case fn_keq => k_is)
    (case m_khas => k_is)
    (case l_khas => k_is)
    (case c_khas => k_is)
    (case k_khas => k_is)
    (case fn_khas => k_is)
    (case m_kfields => k_is)
    (case l_kfields => k_is)
    (case c_kfields => k_is)
    (case k_kfields => k_is)
    (case fn_kfields => k_is)
    (case m_kcalls => k_is)
    (case l_kcalls => k_is)
    (case c_kcalls => k_is)
    (case k_kcalls => k_is)
    (case fn_kcalls => k_is)
    (case m_knames => k_is)
    (case l_knames => k_is)
    (case c_knames => k_is)
    (case k_knames => k_is)
    (case fn_knames => k_is)
    (case m_klen => k_is)
    (case l_klen => k_is)
    (case c_klen => k_is)
    (case k_klen => k_is)
    (case fn_klen => k_is)
    (case m_kiter => k_is)
    (case l_kiter => k_is)
    (case c_kiter => k_is)
    (case k_kiter => k_is)
    (case fn_kiter => k_is)
    (case m_kget => k_is)
    (case l_kget => k_is)
    (case c_kget => k_is)
    (case k_kget => k_is)
    (case fn_kget => k_is)
    (case m_ktakes => k_is)
    (case l_ktakes => k_is)
    (case c_ktakes => k_is)
    (case k_ktakes => k_is)
    (case fn_ktakes => k_is)
    (case m_iU => k_is)
    (case l_iU => k_is)
    (case c_iU => k_is)
    (case k_iU => k_is)
    (case fn_iU => k_is)
    (case m_iP => k_is)
    (case l_iP => k_is)
    (case c_iP => k_is)
    (case k_iP => k_is)
    (case fn_iP => k_is)
    (case t_iU => k_is)
    (case t_iP => k_is)
    (case n_U => k_is)
    (case n_P => k_is)
    (case d_kinit => k_is)
    (case fi_kget => k_is)
    (case z_iter => k_is)
    (case kc_mk => k_is)
    (case kc_kp => k_is)
    (case kc_pg => k_is)
    (case kc_hd => k_is)
    (case kc_po => k_is)
    (case kc_sa => k_is)
    (case kn_triples => k_is)
    (case kn_sorts => k_is)
    (case kn_spots => k_is)
    (case kn_modes => k_is)
    (case kn_steps => k_is)
    (case kn_table => k_is)
    (case kc_ha => k_is)
    (case kc_hn => k_is)
    (case kc_ht => k_is)
    (case kc_hm => k_is)
    (case kc_ne => k_is)
    (case kc_ob => k_is)
    (case z_len => k_is)
    (case z_int => k_is)
    (case z_enumerate => k_is)
    (case z_list => k_is)
    (case z_tuple => k_is)
    (case z_isinstance => k_is)
    (case z_range => k_is)
    (case z_all => k_is)
    (case z_zip => k_is)
    (case z_ValueError => k_is)
    (case z_bool => k_is)
    (case z_str => k_is)
    (case z_set => k_is)
    (case z_any => k_is)
    (case v_MOST_LETTERS => k_is)
    (case v_MOST_FIELDS => k_is)
    (case v_MOST_MODES => k_is)
    (case v_MOST_CALLS => k_is)
    (case v_MOST_DEEDS => k_is)
    (case v_SORTS => k_is)
    (case v_HANDS => k_is)
    (case v_WORD_DEEDS => k_is)
    (case v_LIST_WORD_DEEDS => k_is)
    (case v_sod => k_is)
    (case sd_set => k_is)
    (case sd_add => k_is)
    (case sd_strike => k_is)
    (case sd_fresh => k_is)
    (case sd_clear => k_is)
    (case tu_sorts => kernel_rfl)
    (case tu_hands => kernel_rfl)
    (case tu_wd => kernel_rfl)
    (case tu_lwd => kernel_rfl)
    (case td_set => kernel_rfl)
    (case td_add => kernel_rfl)
    (case td_strike => kernel_rfl)
    (case td_fresh => kernel_rfl)
    (case td_clear => kernel_rfl)
    (case dsod => kernel_rfl)
    (case tabl => exact rfl)
    (case nPl => kernel_rfl)
    (case o_UnknownCall => kernel_rfl)
    (case o_BadPlace => kernel_rfl)
    (case e_UnknownCall => kernel_rfl)
    (case e_BadPlace => kernel_rfl)
    (case q_u1 => kernel_rfl)
    (case q_u2 => kernel_rfl)
    (case q_u3 => kernel_rfl)
    (case q_u4 => kernel_rfl)
    (case q_p1 => kernel_rfl)
    (case q_p2 => kernel_rfl)
    (case q_p3 => kernel_rfl)
    (case q_p4 => kernel_rfl)
    (case q_p5 => kernel_rfl)
    (case q_kS => kernel_rfl)
    (case q_kO => kernel_rfl)
    (case q_nF => kernel_rfl)
    (case q_mU => kernel_rfl)
    (case q_mP => kernel_rfl)
#print axioms PySem.Challenge.cw_makerlines_k02_kinds_told_holds
