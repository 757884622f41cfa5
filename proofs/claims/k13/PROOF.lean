import PyProof.Rows.All
import Wide.All
import OpenK.AllK
import Wide.FinOn
import HandS.Base
import HandS.Call
import HandS.List
import HandS.Iter
import KE.GoesEnum
import HandS.Exc
import HandS.ExcInit
import HandS.ExcIs
import HandS.IsInst
import HandS.ForMost
import HandS.ExcValue
import KE.KExcIs
import HandS.Defaults
import HandS.TupLe
import HandS.Zip
import HandS.Walk
import HandS.More
import HandS.NoneIn
import HandS.Conv
import HandS.Strs
import HandS.DictComp
import OpenK.KMeth
import HandS.OwnEq
import PyProof.InstNe
import PyProof.EqKinds
import HandS.HotCalls
import HandS.ExcField
import HandS.Lambda
import HandS.HeadHook3
import HandS.EndTab
import HandS.EndOwn
import HandS.MakeKwOnly
import HandS.IterNext
import HandS.OwnIter
import HandS.IterVal
import HandS.WordsExc
import HandS.Text
import HandS.Dict
import HandS.Small
import HandS.ClsMeth
import HandS.Star
import HandS.FStr
import HandS.SortKw
import KE.GoesEnumKw
import HandS.Comp
import HandS.Deep
import KE.GoesZip
import KE.GoesMore
import HandS.TupAny
import PyProof.Rows.TupIter
import HandS.HeadNt
import HandS.Codes
import HandS.Head2
import HandS.HeadWalk
import HandS.HeadEnd
import PySem.Challenge.RW_makerlines_k13_yards_live
set_option Elab.async false
set_option linter.all false
set_option maxRecDepth 100000
set_option maxHeartbeats 4000000
namespace MK
open PySem PySem.Spec PyProof.Rows L2
/-- the tuple at a as it stands at each turn, each item in a new pair -/
def IteT (K : PySem.W.Frag) (a : Addr) : It :=
  ⟨fun i H => ∃ (xs : List V) (x : V), SqT K H a xs ∧ xs[i]? = some x, fun i H v H' => ∃ T x, v = .ref T ∧ H T = none ∧ H' = upd H T (.tup [.int (i : Nat), x]) ∧ ∀ xs, SqT K H a xs → xs[i]? = some x, fun i H => ∃ xs : List V, SqT K H a xs ∧ xs.length ≤ i⟩
theorem turn_enumT {P : Program} {w : World} {K : PySem.W.Frag} {elts : List Expr} {kk : Nat} {tpos : Pos} (a e it : Addr) :
    Turn P w K (.Tuple elts kk tpos) (IteT K a) [e, it] e (fun i h => (∃ old, IsEnum h e it ((i : Nat) : Int) old) ∧ h.IsTupleIter it a i ∧ e ≠ it ∧ a ≠ it ∧ a ≠ e) where
  mem := by simp
  obj := fun i h st b hb => by
    obtain ⟨⟨old, he⟩, ⟨o, ho, hc, hd⟩, _⟩ := st
    have e' : b = e ∨ b = it := by simpa using hb
    rcases e' with z | z
    · rw [z]; exact ⟨_, he, fun v q => nomatch q⟩
    · rw [z]; exact ⟨o, ho, fun v q => by rw [hd] at q; cases q⟩
  keep := fun i h h' st k => let ⟨⟨old, he⟩, hi, hne⟩ := st; ⟨⟨old, k e (by simp) _ he⟩, hi.at fun o q => k it (by simp) o q, hne⟩
  item := by
    intro X hP hw hK hc i pins s σ H E I hf st hg
    subst hP hw hK
    obtain ⟨⟨old, he⟩, hit, hne, hai, hae⟩ := st
    obtain ⟨xs, x, hq, hx⟩ := hg
    obtain ⟨its, rv, p, hz⟩ := I.tuple hq
    obtain ⟨u, hu, ru⟩ := rv.get hx
    have hel : e < s.heap.objs.size := Heap.lt_size he
    have hil : it < s.heap.objs.size := by obtain ⟨_, q, _⟩ := hit; exact Heap.lt_size q
    have D := Draws.tuple (prog := X.prog) (w := X.w) (A := X.A.in1) (show X.A.in1.handled = none from I.ok.hd hc) it a hai its.toArray
    have hsz : i < its.toArray.size := by
      have := (List.getElem?_eq_some_iff.mp hu).1
      simpa using this
    refine wpAny_pyNext_enum_itemD D he ⟨hit, p⟩ hsz hne (by simp [hne, Ne.symm hae]) fun v h' tk hv ho st' hT hsz' hk => ?_
    have hv : its.toArray[i]? = some v := hv
    have ev : v = u := by
      have hu' : its.toArray[i]? = some u := by simpa using hu
      rw [hu'] at hv
      exact (Option.some.inj hv).symm
    subst ev
    refine ⟨_, rfl, wpAny_letOwnedTupleGo_enum (s := { s with heap := h', toks := tk + 1 }) ho fun h'' he' sb => ?_⟩
    have hT2 : h''.get? s.heap.objs.size = some { cls := .type "tuple", data := .seq #[.int i tk, v] } := (sb.2 _ (Nat.ne_of_gt hel)).trans hT
    have new : ObjOk X.prog X.w (upd H s.heap.objs.size (.tup [.int (i : Nat), x])) h'' s.heap.objs.size (.tup [.int (i : Nat), x]) :=
      ⟨by show 2 ≤ sizeLine; decide, [.int i tk, v], .cons ⟨_, rfl⟩ (.cons ru .nil), ⟨_, hT2, rfl, _, rfl⟩⟩
    have I1 : Inv X pins σ (upd H s.heap.objs.size (.tup [.int (i : Nat), x])) { s with heap := h'', toks := tk + 1 } :=
      I.turnedNew (ch := [e, it]) (fun b ob hb q => (sb.2 b (fun z => hb (by simp [z]))).trans (hk b ob (fun z => hb (by simp [z])) (fun z => hb (by simp [z])) q)) hf (Nat.le_refl _) new
    refine ⟨.ref s.heap.objs.size, _, I1, rfl, ⟨_, x, rfl, I.hok.fresh (Nat.le_refl _), rfl, fun ys hy => by rw [I.tuple_inj hy hq]; exact hx⟩, ⟨⟨v, ?_⟩, st'.1.at fun o q => (sb.2 it (Ne.symm hne)).trans q, hne, hai, hae⟩, fun b hb => ?_⟩
    · have e1 : ((i + 1 : Nat) : Int) = (i : Int) + 1 := by omega
      rw [e1]; exact he'
    · have hb' : b < s.heap.objs.size := by
        have e' : b = e ∨ b = it := by simpa using hb
        rcases e' with z | z
        · rw [z]; exact hel
        · rw [z]; exact hil
      rw [upd_ne (Nat.ne_of_lt hb')]
      exact (hf b hb).1
  done := by
    intro X hP hw hK hc i pins s σ H E I hf st hg
    subst hP hw hK
    obtain ⟨⟨old, he⟩, hit, hne, hai, hae⟩ := st
    obtain ⟨xs, hq, hx⟩ := hg
    obtain ⟨its, rv, p, hz⟩ := I.tuple hq
    obtain ⟨f0, f1, f2, f3, f4, f5⟩ := hf it (by simp)
    have hl := rv.length
    have D : Draws X.prog X.w X.A.in1 it [it, a] i (fun _ _ => False) (fun j h => j = i ∧ h.IsTupleIter it a i ∧ IsTup h a its.toArray) :=
      { live := fun _ _ st => let ⟨_, ⟨o, ho, _⟩, _⟩ := st; ⟨o, ho⟩
        frame := fun _ _ _ st hk => ⟨st.1, st.2.1.at fun o e => hk it (by simp) o e, by
          obtain ⟨o, ho, r⟩ := st.2.2
          exact ⟨o, hk a (by simp) o ho, r⟩⟩
        item := fun j s Q E hi st hQ => absurd st.1 (Nat.ne_of_lt hi)
        done := fun s Q E st hE => wpAny_nextOf_tuple_end (show X.A.in1.handled = none from I.ok.hd hc) st.2.1 st.2.2 (by simp; omega) hE }
    exact wpAny_pyNext_enum_endD D he ⟨rfl, hit, p⟩ fun h' eb => ⟨rfl, I.turned (t' := s.toks) (fun b o hb q => eb b o hb q) f0 f1 f3 f4 f5⟩
  self := fun A i s Q E st h => let ⟨⟨_, he⟩, _⟩ := st; wpAny_pyIter_enum he h
def iEnumT (K : PySem.W.Frag) (ta : TA) : TI := fun σ H R => ta σ H fun vs H1 => ∃ a xs, vs = [.ref a] ∧ SqT K H1 a xs ∧ R (IteT K a) H1
theorem boot_enumerate' : bootBuiltins "enumerate" = some (.type "enumerate") := by decide +kernel
theorem meets_enum1 {v : Value} {o : Obj} {H : Heap → Prop} (B : Begins v o H) :
    Meets (Builtin.«enumerate.__new__» ⟨[.type "enumerate", v], []⟩) (fun _ R s => H s.heap ∧
      R (.ok (.ret (.ref (s.heap.push o).objs.size))) { s with heap := (s.heap.push o).push { cls := .type "enumerate", data := .fields #[.none, .bool false, .ref s.heap.objs.size, rawInt 0, .none, .none] } }) :=
  .of_wp fun prog w A R s h => by
    obtain ⟨hp, g, d, tk, os⟩ := s; obtain ⟨h1, h⟩ := h
    have hsub := sub_enumerate
    have it : ∀ {A' : Around} {E : Value → Shared → Prop} {Q : Value → Shared → Prop}, Q (.ref hp.objs.size) ⟨hp.push o, g, d, tk, os⟩ → wpAny (model prog w) A' (pyIter v) Q E ⟨hp, g, d, tk, os⟩ :=
      fun q => B.iter prog w _ _ ⟨hp, g, d, tk, os⟩ _ h1 q
    wp_walk using it
    refine wpAny_stack_any fun st => wpAny_pure ?_
    split
    · rename_i c _ _ _ _ _
      cases (c == Value.type "enumerate") <;> (wp_walk using it; exact ⟨_, rfl, h⟩)
    · wp_walk using it
      exact ⟨_, rfl, h⟩
theorem call_enumerate_tuple {prog : Program} {w : World} {A : Around} {E : Value → Shared → Prop} {s : Shared} {l : Addr} {items : Array Value} {Q : Value → Shared → Prop} (hL : IsTup s.heap l items)
    (h : ∀ h', IsEnum h' (s.heap.objs.size + 1) s.heap.objs.size 0 .none → h'.IsTupleIter s.heap.objs.size l 0 → h'.objs.size = s.heap.objs.size + 2 →
      (∀ b o, s.heap.get? b = some o → h'.get? b = some o) → Q (.ref (s.heap.objs.size + 1)) { s with heap := h' }) :
    wpAny (model prog w) A (call (.type "enumerate") [.ref l]) Q E s := by
  have B := begins_tuple l items
  refine callType_new F.called_enumerate (by decide) (F.typeCall_enumerate_1 _) (F.newCall_enumerate_1 _) (fun obj => F.args_object_init_2 obj _) F.entry_enumerate_new (meets_enum1 B) ⟨hL, ?_⟩
  let o : Obj := { cls := .type "tuple_iterator", data := .fields #[.ref l, .int 0 0] }
  have hz : (s.heap.push o).objs.size = s.heap.objs.size + 1 := Heap.size_push ..
  show _ ∧ _
  rw [hz]
  have he : IsEnum ((s.heap.push o).push { cls := .type "enumerate", data := .fields #[.none, .bool false, .ref s.heap.objs.size, rawInt 0, .none, .none] }) (s.heap.objs.size + 1) s.heap.objs.size 0 .none := by
    have q := Heap.get?_push_size (s.heap.push o) (o := { cls := .type "enumerate", data := .fields #[.none, .bool false, .ref s.heap.objs.size, rawInt 0, .none, .none] }) rfl
    rw [hz] at q; exact q
  exact ⟨⟨_, he, rfl⟩, h _ he ⟨_, Heap.get?_push_of_some _ (Heap.get?_push_size _ rfl), rfl, rfl⟩ (by rw [Heap.size_push, hz]) fun b o x => Heap.get?_push_of_some _ (Heap.get?_push_of_some _ x)⟩
theorem pi_enumT {X : Cx} {e : Expr} {ta : TA} {p pos tpos : Pos} {elts : List Expr} {kk : Nat} (hg : Gl X "enumerate") (hm : X.mg "enumerate" = none) (ha : PA X [e] ta) (hs : starEach [e] X.env = [(false, eval e X.env)] := by rfl) :
    PI X (.Tuple elts kk tpos) (.Call (.Name "enumerate" p) [e] [] pos) (iEnumT X.K ta) := by
  refine ⟨fun pins s σ H R I h => ?_⟩
  refine Call_ (ld_blt I hg hm boot_enumerate' (PyProof.Rows.callWith_type1 (thn (ha.run pos pins s σ H _ I h) fun us s1 ⟨vs, H1, I1, r1, q1⟩ => ?_) hs rfl))
  obtain ⟨a, xs, ex, hq, q⟩ := q1
  subst ex
  cases r1 with
  | cons r rr =>
    cases rr
    cases r
    obtain ⟨its, rv, p', hz⟩ := I1.tuple hq
    have hal : a < s1.heap.objs.size := by obtain ⟨_, q, _⟩ := p'; exact Heap.lt_size q
    refine call_enumerate_tuple p' fun h' he hit hsz hk => wpAny_pyIter_enum he ?_
    have I2 : Inv X pins σ H1 { s1 with heap := h' } := I1.kept (t' := s1.toks) hk
    refine ⟨s1.heap.objs.size + 1, [s1.heap.objs.size + 1, s1.heap.objs.size], _, _, H1, rfl, I2, turn_enumT a (s1.heap.objs.size + 1) s1.heap.objs.size, ⟨⟨.none, he⟩, hit, Nat.succ_ne_self _, Nat.ne_of_lt hal, Nat.ne_of_lt (Nat.lt_succ_of_lt hal)⟩, fun b hb => ?_, q⟩
    have e' : b = s1.heap.objs.size + 1 ∨ b = s1.heap.objs.size := by simpa using hb
    have hle : s1.heap.objs.size ≤ b := by
      rcases e' with z | z
      · rw [z]; exact Nat.le_add_right _ _
      · rw [z]; exact Nat.le_refl _
    exact I1.fpOk hle (I1.hok.fresh hle)
end MK
set_option Elab.async false
set_option linter.all false
set_option maxRecDepth 100000
set_option maxHeartbeats 4000000
namespace MK
open PySem PySem.Spec PyProof.Rows PySem.HandSPX
open PySem.W (Looks)
section
variable {prog : Program} {w : World} {M : Model} {A : Around} {E : Value → Shared → Prop} {R : Result → Shared → Prop} {h : Heap} {g : Array GenState} {d : Drawn} {t : Nat} {os : OsState}
variable {nm q : Str} {C N : Addr} {bs bm bmB : List Value} {hdct : Bool} {sn : List Str} {sub : List Value} {ab : Bool} {col : Option Bool} {dd : Option Addr} {k0 k1 k2 k3 k5 : Option Value} {B newId initId : String}
theorem newK (F : ExcBaseFacts B newId initId bmB) (hT : ∀ X : String, bm.contains (.type X) = bmB.contains (.type X)) {rest : List Value} {kw : List (Str × Value)}
    (hC : h.get? C = some (excClassObj nm q C N bs bm hdct sn sub ab col dd k0 k1 k2 k3 k5 newId))
    (hq : R (.ok (.ret (.ref (h.objs.size + 1)))) ⟨(h.push (W.kdv_tup rest)).push (excO C h.objs.size), g, d, t, os⟩) (hrest : rest.length ≤ sizeLine) :
    codeAny (model prog w) A (.builtin newId ⟨.ref C :: rest, kw⟩) R ⟨h, g, d, t, os⟩ := by
  have he := F.ends
  have cB : (Value.ref C :: bm).contains (.type B) = true := by rw [List.contains_cons, hT, F.hasB, Bool.or_true]
  have cA : (Value.ref C :: bm).contains (.type "AttributeError") = false := by rw [List.contains_cons, hT, F.noAttr]; rfl
  have cN : (Value.ref C :: bm).contains (.type "NameError") = false := by rw [List.contains_cons, hT, F.noName]; rfl
  refine codeAny_builtinAt F.entry ?_
  unfold Builtin.«BaseException.__new__»
  refine PySem.wpAt_bind ?_
  show PySem.wpAt _ _ _ (stack >>= _) _ _ _
  refine PySem.wpAt_bind (PySem.wpAt_stack fun p below => PySem.wpAt_of_wpAny ?_)
  wp_walk
  refine PySem.wpAt_of_wpAny ?_
  rw [F.owner]
  repeat (first | with_reducible refine wpAny_madeHere_exc F.canon hC ?_ | with_reducible refine wpAny_loadPart_at hC ?_ | (with_reducible refine wpAny_isSubtype_exc hC ?_; first | rw [cB] | rw [cA] | rw [cN]) | wp_step)
  show R _ _
  rw [Heap.size_push]
  exact hq
end
end MK
set_option Elab.async false
set_option linter.all false
set_option maxRecDepth 100000
set_option maxHeartbeats 4000000
namespace MK
open PySem PySem.Spec PyProof.Rows L2
section
variable {X : Cx} {CX : CXT} {k n : Nat} {f C : Addr} {fd : FuncData} {ps ks : List Str} {sp : Sp} {E : XK} {x : Str} {p pos : Pos} {e : Expr} {es : List Expr} {kws : List Keyword} {t tk : TA} {g : List Value → List Value → List Value} {gV : List V → List V → List V}
/-- what isinstance asks of an error's class -/
structure ErrI (K : PySem.W.Frag) (C : Addr) : Prop where
  cl : (PySem.W.clsIn K C).isSome = true
  ga : PySem.W.findIn K (.ref C) "__getattribute__" = some (some (.builtin "BaseException.__getattribute__"))
  gg : PySem.W.findIn K (.ref C) "__getattr__" = some none
  ex : PySem.W.subIn K (.ref C) (.type "BaseException") = some true
  ca : PySem.W.findIn K (.ref C) "__class__" = some (some (.builtin "object.__class__"))
  sp : PySem.W.specialIn K (.builtin "object.__class__") "__get__" = some (some (.builtin "getset_descriptor.__get__"))
  tk : PySem.W.takesIn K (.builtin "object.__class__") = some true
  ob : PySem.W.mroIn K C (.type "object") = some true
end
end MK
set_option Elab.async false
set_option linter.all false
set_option maxRecDepth 100000
set_option maxHeartbeats 4000000
namespace MK
open PySem PySem.Spec PyProof.Rows L2
section
variable {P : Program} {w : World} {K : PySem.W.Frag} {mg : Str → Option Value} {base : Heap} {CX : CXT}
/-- a def of the module that may be called by its name -/
structure Cal (P : Program) (w : World) (K : PySem.W.Frag) (mg : Str → Option Value) (base : Heap) (CX : CXT) (k : Nat) (x : Str) (sp : Sp) : Prop where
  ex : ∃ (f : Addr) (fd : FuncData) (ps : List Str), FnOk P w K mg base CX k f fd ps sp ∧ mg x = some (.ref f) ∧ PySem.W.keepIn K (.ref f) = true ∧ Binds K fd ps []
/-- what the top left of a def: its text, its name, how its arguments bind -/
structure DefX (K : PySem.W.Frag) (mg : Str → Option Value) (x : Str) (st : Stmt) (ps : List Str) (f : Addr) (fd : FuncData) : Prop where
  fn : Fun K x x st f fd
  mgf : mg x = some (.ref f)
  bi : Binds K fd ps []
theorem cal_mk {x : Str} {st : Stmt} {f : Addr} {fd : FuncData} {N ps : List Str} {k : Nat} {sp : Sp} (F : DefX K mg x st ps f fd) (S : FnScope N ps (defScope st)) (len : ∀ vs H Q E, sp vs H Q E → vs.length = ps.length)
    (hbody : ∀ (cdv : Value) (A : Around) (outer : List Env) (s : Shared) (H : Hp) (vs : List V) (Q : VK) (E : XK), Room k (A.deeper (envOfC x (defScope st) s.heap.objs.size f cdv)) → sp vs H Q E →
      ∃ t, PSs (cxOf CX0 P w K mg base N x (defScope st) f cdv A outer s H E).nox (defBody st) t ∧ t { nx := fun _ H' => Q .non H', rt := Q } (start N vs) H) : Cal P w K mg base CX0 (k + 1) x sp :=
  ⟨f, fd, ps, F.fn.ok S len hbody, F.mgf, F.fn.kp, F.bi⟩
end
section
variable {X : Cx} {k j : Nat} {x : Str} {sp : Sp} {p pos : Pos} {e : Expr} {es : List Expr} {t : TA}
theorem pe_c (c : Cal X.prog X.w X.K X.mg X.base CX0 k x sp) (hr : Room j X.A) (hk : k ≤ j) (hg : Gl X x) (ha : PA X (e :: es) t)
    (hdb : (x == ("__debug__" : Str)) = false := by decide) (he : starEach (e :: es) X.env = (false, eval e X.env) :: starEach es X.env := by rfl) (hpl : (backTo pos (starEach es X.env)).any (·.1) = false := by rfl) :
    PE X (.Call (.Name x p) (e :: es) [] pos) (tCall sp [] E0 t) := by
  obtain ⟨f, fd, ps, F, hm, kp, b⟩ := c.ex
  exact pe_call F (hr.mono hk) hg hm kp b .nil pass0 ha hdb he hpl
end
/-- a statement, then the rest, Mid between them: what follows is shown once -/
def tCut (t u : TS) : TS := fun D σ H => ∃ Mid : L2.St → Hp → Prop, t { D with nx := Mid } σ H ∧ ∀ σ' H', Mid σ' H' → u D σ' H'
theorem pss_cut {X : Cx} {st : Stmt} {rest : List Stmt} {t u : TS} (h1 : PS X st t) (h2 : PSs X rest u) : PSs X (st :: rest) (tCut t u) := by
  refine ⟨fun pins s σ H D I h => ?_⟩
  obtain ⟨Mid, a, b⟩ := h
  refine wpAny_execs_cons (thn (h1.run pins s σ H { D with nx := Mid } I a) fun f s1 q => ?_)
  cases f with
  | next =>
    obtain ⟨σ', H', I', q⟩ := q
    exact h2.run pins s1 σ' H' D I' (b σ' H' q)
  | ret v => exact q
  | brk => exact q
  | cont => exact q
/-- the name of a built-in class, as a value -/
theorem pe_tyv {X : Cx} {x : Str} {n : String} {pos : Pos} (hg : Gl X x) (hm : X.mg x = none) (hv : bootBuiltins x = some (.type n)) (hn : x ≠ "__name__" := by decide) (hd : (x == ("__debug__" : Str)) = false := by decide) : PE X (.Name x pos) (tC (.ty n)) :=
  pe_bltn hg hm hv rfl hn hd
/-- an expression, a test, with a word between it and what follows -/
def tCutE (te : TE) : TE := fun σ H Q => ∃ Mid : V → Hp → Prop, te σ H Mid ∧ ∀ v H', Mid v H' → Q v H'
def tCutT (tt : TT) : TT := fun σ H Q => ∃ Mid : Bool → Hp → Prop, tt σ H Mid ∧ ∀ b H', Mid b H' → Q b H'
theorem pe_cut {X : Cx} {e : Expr} {te : TE} (h : PE X e te) : PE X e (tCutE te) := by
  refine ⟨fun pins s σ H Q I ⟨Mid, a, b⟩ => ?_⟩
  exact thn (h.run pins s σ H Mid I a) fun u s1 ⟨v, H1, I1, r1, q1⟩ => ⟨v, H1, I1, r1, b v H1 q1⟩
theorem pt_cut {X : Cx} {e : Expr} {tt : TT} (h : PT X e tt) : PT X e (tCutT tt) := by
  refine ⟨fun pins s σ H Q I ⟨Mid, a, b⟩ => ?_⟩
  exact thn (h.run pins s σ H Mid I a) fun u s1 ⟨H1, I1, q1⟩ => ⟨H1, I1, b u H1 q1⟩
/-- all that was tracked is as it was, but what stands at s -/
def SameX (s : Addr) (H H' : Hp) : Prop := ∀ b o, H b = some o → b ≠ s → H' b = some o
theorem SameX.refl (s : Addr) (H : Hp) : SameX s H H := fun _ _ h _ => h
theorem SameX.trans {s : Addr} {H H1 H2 : Hp} (a : SameX s H H1) (b : SameX s H1 H2) : SameX s H H2 := fun c o h n => b c o (a c o h n) n
theorem SameX.new {s p : Addr} {o : HO} {H H1 : Hp} (a : SameX s H H1) (h : H1 p = none) : SameX s H (upd H1 p o) := fun c u hc n => by
  have e := a c u hc n
  rw [upd_ne (ne_of_none e h)]
  exact e
theorem SameX.put {s : Addr} {o : HO} {H H1 : Hp} (a : SameX s H H1) : SameX s H (upd H1 s o) := fun c u hc n => by
  rw [upd_ne n]
  exact a c u hc n
theorem same_sx {s : Addr} {H H1 : Hp} (a : Same H H1) : SameX s H H1 := fun c u hc _ => a c u hc
theorem SameX.none {s p : Addr} {H H1 : Hp} (a : SameX s H H1) (n : p ≠ s) (h : H1 p = Option.none) : H p = Option.none := by
  cases e : H p with
  | none => rfl
  | some o =>
    rw [a p o e n] at h
    cases h
theorem same_new {p : Addr} {o : HO} {H H1 : Hp} (a : Same H H1) (h : H1 p = none) : Same H (upd H1 p o) := fun c u hc => by
  have e := a c u hc
  rw [upd_ne (ne_of_none e h)]
  exact e
theorem SameX.l {K : PySem.W.Frag} {s a : Addr} {xs : List V} {H H1 : Hp} (e : SameX s H H1) (n : a ≠ s) (h : SqL K H a xs) : SqL K H1 a xs := by
  rcases h with (h | ⟨o, h⟩) | h
  · exact .inl (.inl (e _ _ h n))
  · exact .inl (.inr ⟨o, e _ _ h n⟩)
  · exact .inr h
theorem SameX.t {K : PySem.W.Frag} {s a : Addr} {xs : List V} {H H1 : Hp} (e : SameX s H H1) (n : a ≠ s) (h : SqT K H a xs) : SqT K H1 a xs := by
  rcases h with (h | ⟨o, h⟩) | h
  · exact .inl (.inl (e _ _ h n))
  · exact .inl (.inr ⟨o, e _ _ h n⟩)
  · exact .inr h
theorem walk_enumT {K : PySem.W.Frag} {a : Addr} {xs : List V} : Walk (IteT K a) xs.length (fun H => SqT K H a xs) (YPair (fun i => some (.int (i : Nat))) (fun i => xs[i]?)) := by
  refine ⟨fun i _ hi q => ⟨xs, xs[i], q, by simp [hi]⟩, fun _ q => ⟨xs, q, Nat.le_refl _⟩, fun i H v H' _ q y => ?_⟩
  obtain ⟨T, x, h1, h2, h3, h4⟩ := y
  exact ⟨T, .int (i : Nat), x, h1, h2, h3, rfl, h4 xs q⟩
theorem upd_none {H : Hp} {a b : Addr} {o : HO} (h : upd H a o b = none) : b ≠ a ∧ H b = none := by
  by_cases e : b = a
  · rw [e, upd_same] at h
    cases h
  · rw [upd_ne e] at h
    exact ⟨e, h⟩
section
variable {K : PySem.W.Frag}
/-- nothing in it that is walked -/
def Flat (H : Hp) (x y : V) : Prop := (x = y ∧ (x = .non ∨ (∃ b, x = .bl b) ∨ (∃ i, x = .int i) ∨ ∃ z, x = .str z)) ∨
  ∃ a b kvs, x = .ref a ∧ y = .ref b ∧ H a = some (.dK kvs) ∧ H b = some (.dK kvs) ∧ (kvs.map (·.1)).Nodup ∧ ∀ p ∈ kvs, flatB p.2 = true
def Sm (K : PySem.W.Frag) (H : Hp) : Nat → V → V → Prop
  | 0, x, y => Flat H x y
  | n + 1, x, y => Flat H x y ∨ ∃ a b xs ys, x = .ref a ∧ y = .ref b ∧ ((SqL K H a xs ∧ SqL K H b ys) ∨ (SqT K H a xs ∧ SqT K H b ys)) ∧ xs.length = ys.length ∧ xs.length < 100000 ∧ ∀ (i : Nat) x y, xs[i]? = some x → ys[i]? = some y → Sm K H n x y
theorem same_t {H H' : Hp} {a : Addr} {xs : List V} (e : Same H H') (h : SqT K H a xs) : SqT K H' a xs := by
  rcases h with (h | ⟨o, h⟩) | h
  · exact .inl (.inl (e _ _ h))
  · exact .inl (.inr ⟨o, e _ _ h⟩)
  · exact .inr h
theorem Flat.keep {H H' : Hp} {x y : V} (e : Same H H') (h : Flat H x y) : Flat H' x y := by
  rcases h with h | ⟨a, b, kvs, h1, h2, h3, h4, h5⟩
  · exact .inl h
  · exact .inr ⟨a, b, kvs, h1, h2, e _ _ h3, e _ _ h4, h5⟩
theorem Sm.keep {H H' : Hp} (e : Same H H') : ∀ {n : Nat} {x y : V}, Sm K H n x y → Sm K H' n x y
  | 0, _, _, h => Flat.keep e h
  | n + 1, _, _, h => by
    rcases h with h | ⟨a, b, xs, ys, h1, h2, h3, h4, h5, h6⟩
    · exact .inl (h.keep e)
    · refine .inr ⟨a, b, xs, ys, h1, h2, ?_, h4, h5, fun i x y q1 q2 => Sm.keep e (h6 i x y q1 q2)⟩
      rcases h3 with ⟨p, q⟩ | ⟨p, q⟩
      · exact .inl ⟨e.seq p, e.seq q⟩
      · exact .inr ⟨same_t e p, same_t e q⟩
theorem tyx_l {H : Hp} {a : Addr} {xs : List V} (h : SqL K H a xs) : TyX K H (.ref a) (.type "list") := by
  rcases h with (h | ⟨o, h⟩) | ⟨o, its, n, hk, hc, _⟩
  · exact .base (.lst h)
  · exact .base (.frz h)
  · exact .kList hk hc
theorem tyx_t {H : Hp} {a : Addr} {xs : List V} (h : SqT K H a xs) : TyX K H (.ref a) (.type "tuple") := by
  rcases h with (h | ⟨o, h⟩) | ⟨o, its, n, hk, hc, _⟩
  · exact .base (.tup h)
  · exact .fTuple h
  · exact .kTuple hk hc
theorem tyx_keep {H H' : Hp} {x : V} {t : Value} (e : Same H H') (h : TyX K H x t) : TyX K H' x t := by
  cases h with
  | base h =>
    cases h with
    | non => exact .base .non
    | bl b => exact .base (.bl b)
    | int i => exact .base (.int i)
    | str z => exact .base (.str z)
    | flt z => exact .base (.flt z)
    | lst h => exact .base (.lst (e _ _ h))
    | frz h => exact .base (.frz (e _ _ h))
    | tup h => exact .base (.tup (e _ _ h))
    | dK h => exact .base (.dK (e _ _ h))
    | dT h => exact .base (.dT (e _ _ h))
    | ins h cl ha hn ht hm => exact .base (.ins (e _ _ h) cl ha hn ht hm)
  | byt b => exact .byt b
  | set h => exact .set (e _ _ h)
  | kList h c => exact .kList h c
  | kTuple h c => exact .kTuple h c
  | kDict h c => exact .kDict h c
  | fTuple h => exact .fTuple (e _ _ h)
  | fDict h => exact .fDict (e _ _ h)
theorem walk_zipT {a b : Addr} {xs ys : List V} {n : Nat} (hn : n = min xs.length ys.length) : Walk (RZ.ItzT K a b) n (fun H => SqT K H a xs ∧ SqT K H b ys) (YPair (fun i => xs[i]?) (fun i => ys[i]?)) := by
  subst hn
  refine ⟨fun i _ hi q => ?_, fun _ q => ⟨xs, ys, q.1, q.2, by omega⟩, fun i H v H' _ q y => ?_⟩
  · have h1 : i < xs.length := by omega
    have h2 : i < ys.length := by omega
    exact ⟨xs, ys, xs[i], ys[i], q.1, q.2, by simp [h1], by simp [h2]⟩
  · obtain ⟨T, x, y, h1, h2, h3, h4, h5⟩ := y
    exact ⟨T, x, y, h1, h2, h3, h4 xs q.1, h5 ys q.2⟩
end
/-- a def that is never called so -/
theorem cal_bot {P : Program} {w : World} {K : PySem.W.Frag} {mg : Str → Option Value} {base : Heap} {x : Str} {st : Stmt} {ps : List Str} {f : Addr} {fd : FuncData} (F : DefX K mg x st ps f fd) : Cal P w K mg base CX0 0 x (fun _ _ _ _ => False) :=
  ⟨f, fd, ps, ⟨fun _ _ _ _ h => h.elim, fun _ _ _ _ _ _ _ _ _ _ _ _ _ h => h.elim⟩, F.mgf, F.fn.kp, F.bi⟩
end MK
set_option Elab.async false
set_option linter.all false
set_option maxRecDepth 100000
set_option maxHeartbeats 4000000
namespace MK
open PySem PySem.Spec PyProof.Rows L2
theorem exo_lst {e C : Addr} {d : Option Addr} {xs : List V} : exo e C d ≠ .lst xs := fun z => by
  have z' : HO.ext _ = HO.lst xs := z
  cases z'
theorem exd_lst {e : Addr} {fs : List (Str × V)} {xs : List V} : exd e fs ≠ .lst xs := fun z => by
  have z' : HO.ext _ = HO.lst xs := z
  cases z'
/-- an error of the class at C stands at a; its attributes, the latest first -/
def Err (H : Hp) (C a : Addr) (fs : List (Str × V)) : Prop := ∃ d, H a = some (exo a C (some d)) ∧ H d = some (exd d fs)
theorem Err.keep {H H' : Hp} {C a : Addr} {fs : List (Str × V)} (e : Same H H') (h : Err H C a fs) : Err H' C a fs := by
  obtain ⟨d, h1, h2⟩ := h
  exact ⟨d, e _ _ h1, e _ _ h2⟩
theorem Err.put {H : Hp} {C a p : Addr} {fs : List (Str × V)} {xs zs : List V} (hp : H p = some (.lst xs)) (h : Err H C a fs) : Err (upd H p (.lst zs)) C a fs := by
  obtain ⟨d, h1, h2⟩ := h
  exact ⟨d, by rw [upd_ne (at_ne hp h1 (Ne.symm exo_lst))]; exact h1, by rw [upd_ne (at_ne hp h2 (Ne.symm exd_lst))]; exact h2⟩
structure Exc0 (K : PySem.W.Frag) (mg : Str → Option Value) (x : Str) (C : Addr) : Prop where
  q : PySem.W.excIn K C PySem.HandSPX.veTail "ValueError.__new__" = true
  mgC : mg x = some (.ref C)
  kp : PySem.W.keepIn K (.ref C) = true
section
variable {X : Cx} {k j n : Nat} {x : Str} {C : Addr} {sp : Sp} {p pos : Pos} {e : Expr} {es : List Expr} {t tk : TA} {kws : List Keyword} {ks : List Str} {g : List Value → List Value → List Value} {gV : List V → List V → List V}
theorem pe_refv {a : Addr} (hg : Gl X x) (hm : X.mg x = some (.ref a)) (hd : (x == ("__debug__" : Str)) = false := by decide) : PE X (.Name x pos) (tC (.ref a)) := pe_glob hg hm rfl hd
end
def errB (K : PySem.W.Frag) (C : Addr) : Bool :=
  decide (PySem.W.findIn K (.ref C) "__setattr__" = some (some (.builtin "object.__setattr__"))) && (decide (PySem.W.subIn K (.ref C) (.type "BaseException") = some true) && (decide (PySem.W.typeIn K (.ref C) = some (.type "type")) && (PySem.W.keepIn K (.ref C) &&
  (decide (PySem.W.findIn K (.ref C) "__getattribute__" = some (some (.builtin "BaseException.__getattribute__"))) && (decide (PySem.W.findIn K (.ref C) "__getattr__" = some none) && (PySem.W.hasDictIn K C && ((PySem.W.clsIn K C).isSome &&
  (decide (PySem.W.findIn K (.ref C) "__class__" = some (some (.builtin "object.__class__"))) && (decide (PySem.W.specialIn K (.builtin "object.__class__") "__get__" = some (some (.builtin "getset_descriptor.__get__"))) &&
  (decide (PySem.W.takesIn K (.builtin "object.__class__") = some true) && decide (PySem.W.mroIn K C (.type "object") = some true)))))))))))
theorem errI_of {K : PySem.W.Frag} {C : Addr} (h : errB K C = true) : ErrI K C := by
  simp only [errB, Bool.and_eq_true, decide_eq_true_eq] at h
  obtain ⟨h1, h2, h3, h4, h5, h6, h7, h8, h9, h10, h11, h12⟩ := h
  exact ⟨h8, h5, h6, h2, h9, h10, h11, h12⟩
end MK
set_option Elab.async false
set_option linter.all false
set_option autoImplicit false
set_option maxRecDepth 100000
set_option maxHeartbeats 4000000
namespace MK
open PySem PySem.Spec PyProof.Rows L2
/-- all but what stands at s -/
def Off (s : Addr) (H : Hp) : Hp := fun b => if b = s then none else H b
theorem off_ne {s b : Addr} {H : Hp} (h : b ≠ s) : Off s H b = H b := if_neg h
theorem off_s {s : Addr} {H : Hp} : Off s H s = none := if_pos rfl
theorem off_same {s : Addr} {H : Hp} : Same (Off s H) H := fun b o h => by
  by_cases e : b = s
  · rw [e, off_s] at h
    cases h
  · rw [off_ne e] at h
    exact h
theorem SameX.off {s : Addr} {H H' : Hp} (e : SameX s H H') : Same (Off s H) (Off s H') := fun b o h => by
  by_cases q : b = s
  · rw [q, off_s] at h
    cases h
  · rw [off_ne q] at h ⊢
    exact e _ _ h q
theorem same_off {s : Addr} {H H' : Hp} (e : Same H H') : Same (Off s H) (Off s H') := (same_sx e).off
theorem off_upd {s a : Addr} {o : HO} {H : Hp} (h : a ≠ s) : Off s (upd H a o) = upd (Off s H) a o := by
  funext b
  by_cases e : b = s
  · subst e
    rw [off_s, upd_ne (Ne.symm h), off_s]
  · by_cases q : b = a
    · subst q
      rw [off_ne e, upd_same, upd_same]
    · rw [off_ne e, upd_ne q, upd_ne q, off_ne e]
theorem off_get {s a : Addr} {o : HO} {H : Hp} (h : Off s H a = some o) : H a = some o := off_same _ _ h
theorem off_none {s a : Addr} {H : Hp} (h : H a = none) : Off s H a = none := by
  by_cases e : a = s
  · rw [e, off_s]
  · rw [off_ne e]
    exact h
theorem SameX.putN {s a : Addr} {o : HO} {H H1 : Hp} (e : SameX s H H1) (h : H a = Option.none) : SameX s H (upd H1 a o) := fun b u hb n => by
  rw [upd_ne (fun q => by rw [q, h] at hb; cases hb)]
  exact e _ _ hb n
section
variable {K : PySem.W.Frag}
def Sq (K : PySem.W.Frag) (H : Hp) (v : V) (xs : List V) : Prop := ∃ a, v = .ref a ∧ (SqL K H a xs ∨ SqT K H a xs)
def Tu (K : PySem.W.Frag) (H : Hp) (v : V) (xs : List V) : Prop := ∃ a, v = .ref a ∧ SqT K H a xs
theorem Tu.sq {H : Hp} {v : V} {xs : List V} (h : Tu K H v xs) : Sq K H v xs := by
  obtain ⟨a, e, h⟩ := h
  exact ⟨a, e, .inr h⟩
theorem Tu.keep {H H' : Hp} {v : V} {xs : List V} (e : Same H H') (h : Tu K H v xs) : Tu K H' v xs := by
  obtain ⟨a, r, h⟩ := h
  exact ⟨a, r, same_t e h⟩
theorem Sq.keep {H H' : Hp} {v : V} {xs : List V} (e : Same H H') (h : Sq K H v xs) : Sq K H' v xs := by
  obtain ⟨a, r, h⟩ := h
  rcases h with h | h
  · exact ⟨a, r, .inl (e.seq h)⟩
  · exact ⟨a, r, .inr (same_t e h)⟩
theorem Sq.lst {H : Hp} {a : Addr} {xs : List V} (h : H a = some (.lst xs)) : Sq K H (.ref a) xs := ⟨a, rfl, .inl (SqL.of h)⟩
theorem Tu.tup {H : Hp} {a : Addr} {xs : List V} (h : H a = some (.tup xs)) : Tu K H (.ref a) xs := ⟨a, rfl, SqT.of h⟩
end
/-- item by item -/
def Al {α : Type} (R : V → α → Prop) (xs : List V) (ys : List α) : Prop := xs.length = ys.length ∧ ∀ (i : Nat) x y, xs[i]? = some x → ys[i]? = some y → R x y
section
variable {α : Type} {R S : V → α → Prop} {xs : List V} {ys : List α}
theorem Al.nil : Al R [] [] := ⟨rfl, fun i x y h => by simp at h⟩
theorem Al.mono (h : Al R xs ys) (f : ∀ x y, R x y → S x y) : Al S xs ys := ⟨h.1, fun i x y h1 h2 => f _ _ (h.2 i x y h1 h2)⟩
theorem Al.snoc {x : V} {y : α} (h : Al R xs ys) (r : R x y) : Al R (xs ++ [x]) (ys ++ [y]) := by
  refine ⟨by simp [h.1], fun i u v h1 h2 => ?_⟩
  by_cases q : i < xs.length
  · rw [List.getElem?_append_left q] at h1
    rw [List.getElem?_append_left (h.1 ▸ q)] at h2
    exact h.2 i u v h1 h2
  · have q2 : ys.length ≤ i := by have := h.1; omega
    rw [List.getElem?_append_right (by omega)] at h1
    rw [List.getElem?_append_right q2] at h2
    rw [← h.1] at h2
    cases hz : i - xs.length with
    | zero =>
      rw [hz] at h1 h2
      simp at h1 h2
      rw [← h1, ← h2]
      exact r
    | succ n =>
      rw [hz] at h1
      simp at h1
theorem Al.get (h : Al R xs ys) {i : Nat} {x : V} (hx : xs[i]? = some x) : ∃ y, ys[i]? = some y ∧ R x y := by
  have hi : i < xs.length := (List.getElem?_eq_some_iff.mp hx).1
  have hj : i < ys.length := h.1 ▸ hi
  exact ⟨ys[i], List.getElem?_eq_getElem hj, h.2 i x _ hx (List.getElem?_eq_getElem hj)⟩
theorem Al.get' (h : Al R xs ys) {i : Nat} {y : α} (hy : ys[i]? = some y) : ∃ x, xs[i]? = some x ∧ R x y := by
  have hi : i < ys.length := (List.getElem?_eq_some_iff.mp hy).1
  have hj : i < xs.length := h.1.symm ▸ hi
  exact ⟨xs[i], List.getElem?_eq_getElem hj, h.2 i _ y (List.getElem?_eq_getElem hj) hy⟩
theorem Al.map {f : α → V} (g : ∀ y, R (f y) y) : Al R (ys.map f) ys := ⟨by simp, fun i x y h1 h2 => by
  rw [List.getElem?_map, h2] at h1
  cases h1
  exact g y⟩
theorem Al.mem (h : Al R xs ys) {x : V} (hx : x ∈ xs) : ∃ y ∈ ys, R x y := by
  obtain ⟨i, hi⟩ := List.mem_iff_getElem?.mp hx
  obtain ⟨y, hy, r⟩ := h.get hi
  exact ⟨y, List.mem_of_getElem? hy, r⟩
end
theorem off_put {a : Addr} {o : HO} {H : Hp} : Off a (upd H a o) = Off a H := by
  funext b
  by_cases e : b = a
  · rw [e, off_s, off_s]
  · rw [off_ne e, off_ne e, upd_ne e]
theorem inV_strs (z : Str) (zs : List Str) : inV (.str z) (zs.map V.str) = decide (z ∈ zs) := by
  rw [Bool.eq_iff_iff, decide_eq_true_iff]
  unfold inV
  rw [List.any_map, List.any_eq_true]
  constructor
  · rintro ⟨y, m, e⟩
    have e : (y == z) = true := e
    rw [beq_iff_eq] at e
    exact e ▸ m
  · intro m
    exact ⟨z, m, beq_self_eq_true z⟩
theorem flat_strs (zs : List Str) : (zs.map V.str).all flatV = true := by
  rw [List.all_map, List.all_eq_true]
  exact fun _ _ => rfl
theorem rep_flat (z : Str) : ∀ m : Nat, (List.replicate m [V.str z]).flatten = (List.replicate m z).map V.str
  | 0 => rfl
  | m + 1 => by
    rw [List.replicate_succ, List.flatten_cons, rep_flat z m, List.replicate_succ]
    rfl
theorem none_of {H H1 : Hp} {a : Addr} (e : Same H H1) (h : H1 a = none) : H a = none := by
  cases q : H a with
  | none => rfl
  | some o =>
    rw [e _ _ q] at h
    cases h
theorem noneX {s : Addr} {H H1 : Hp} {a : Addr} (e : SameX s H H1) (n : a ≠ s) (h : H1 a = none) : H a = none := by
  cases q : H a with
  | none => rfl
  | some o =>
    rw [e _ _ q n] at h
    cases h
theorem seqIndex_nat {d n : Nat} (h : d < n) : seqIndex? (d : Int) n = some d := by
  rw [PySem.seqIndex_of (by omega) (by omega)]
  rfl
theorem eraseIdx_mapV {α β : Type} (f : α → β) : ∀ (l : List α) (d : Nat), (l.map f).eraseIdx d = (l.eraseIdx d).map f
  | [], _ => rfl
  | _ :: _, 0 => rfl
  | x :: xs, d + 1 => by
    show f x :: (xs.map f).eraseIdx d = f x :: (xs.eraseIdx d).map f
    rw [eraseIdx_mapV f xs d]
theorem perm_erase {α : Type} : ∀ (l : List α) (d : Nat) (h : d < l.length), (l[d] :: l.eraseIdx d).Perm l
  | x :: xs, 0, _ => List.Perm.refl _
  | x :: xs, d + 1, h => by
    show (xs[d]'(by simpa using h) :: x :: xs.eraseIdx d).Perm (x :: xs)
    exact (List.Perm.swap _ _ _).trans ((perm_erase xs d _).cons x)
section
variable {X : Cx} {K : PySem.W.Frag}
theorem ix_tupK (h : X.K = K) : IxR X (rIxT K) := by subst h; exact ix_tup
theorem ix_seqK (h : X.K = K) : IxR X (rIx K) := by subst h; exact ix_seq
theorem op_in_seqK (h : X.K = K) : OpR X (compareOp .In) (rIn K false) := by subst h; exact op_in_seq
end
structure FD where
  nm : Str
  many : Bool
  need : Bool
deriving DecidableEq
structure CD where
  nm : Str
  hand : Str
  moves : List Int
  deeds : List (Str × Str)
  same : List Str
deriving DecidableEq
def sortS (b : Bool) : Str := if b then "many" else "one"
section
variable {K : PySem.W.Frag}
def FdV (f : FD) : List V := [.str f.nm, .str (sortS f.many), .bl f.need]
def DeV (d : Str × Str) : List V := [.str d.1, .str d.2]
def FdA (K : PySem.W.Frag) (H : Hp) (v : V) (f : FD) : Prop := Sq K H v (FdV f)
def FdT (K : PySem.W.Frag) (H : Hp) (v : V) (f : FD) : Prop := Tu K H v (FdV f)
def DeA (K : PySem.W.Frag) (H : Hp) (v : V) (d : Str × Str) : Prop := Sq K H v (DeV d)
def DeT (K : PySem.W.Frag) (H : Hp) (v : V) (d : Str × Str) : Prop := Tu K H v (DeV d)
def CdA (K : PySem.W.Frag) (H : Hp) (v : V) (c : CD) : Prop := ∃ m d s ds, Sq K H v [.str c.nm, .str c.hand, m, d, s] ∧ Sq K H m (c.moves.map V.int) ∧ Sq K H d ds ∧ Al (DeA K H) ds c.deeds ∧ Sq K H s (c.same.map V.str)
def CdT (K : PySem.W.Frag) (H : Hp) (v : V) (c : CD) : Prop := ∃ m d s ds, Tu K H v [.str c.nm, .str c.hand, m, d, s] ∧ Tu K H m (c.moves.map V.int) ∧ Tu K H d ds ∧ Al (DeT K H) ds c.deeds ∧ Tu K H s (c.same.map V.str)
theorem FdA.keep {H H' : Hp} {v : V} {f : FD} (e : Same H H') (h : FdA K H v f) : FdA K H' v f := Sq.keep e h
theorem FdT.keep {H H' : Hp} {v : V} {f : FD} (e : Same H H') (h : FdT K H v f) : FdT K H' v f := Tu.keep e h
theorem DeA.keep {H H' : Hp} {v : V} {f : Str × Str} (e : Same H H') (h : DeA K H v f) : DeA K H' v f := Sq.keep e h
theorem DeT.keep {H H' : Hp} {v : V} {f : Str × Str} (e : Same H H') (h : DeT K H v f) : DeT K H' v f := Tu.keep e h
theorem CdA.keep {H H' : Hp} {v : V} {c : CD} (e : Same H H') (h : CdA K H v c) : CdA K H' v c := by
  obtain ⟨m, d, s, ds, h1, h2, h3, h4, h5⟩ := h
  exact ⟨m, d, s, ds, h1.keep e, h2.keep e, h3.keep e, h4.mono fun _ _ h => DeA.keep e h, h5.keep e⟩
theorem CdT.keep {H H' : Hp} {v : V} {c : CD} (e : Same H H') (h : CdT K H v c) : CdT K H' v c := by
  obtain ⟨m, d, s, ds, h1, h2, h3, h4, h5⟩ := h
  exact ⟨m, d, s, ds, h1.keep e, h2.keep e, h3.keep e, h4.mono fun _ _ h => DeT.keep e h, h5.keep e⟩
theorem FdT.a {H : Hp} {v : V} {f : FD} (h : FdT K H v f) : FdA K H v f := Tu.sq h
theorem DeT.a {H : Hp} {v : V} {f : Str × Str} (h : DeT K H v f) : DeA K H v f := Tu.sq h
theorem CdT.a {H : Hp} {v : V} {c : CD} (h : CdT K H v c) : CdA K H v c := by
  obtain ⟨m, d, s, ds, h1, h2, h3, h4, h5⟩ := h
  exact ⟨m, d, s, ds, h1.sq, h2.sq, h3.sq, h4.mono fun _ _ h => DeT.a h, h5.sq⟩
end
def letterB (c : Nat) : Bool := decide (97 ≤ c) && decide (c ≤ 122)
def wordB (z : Str) : Bool := decide (1 ≤ z.cps.size) && decide (z.cps.size ≤ 8) && z.cps.toList.all letterB
def deedSorts (z : Str) : List Bool :=
  if z = "set" then [false] else if z = "add" then [true] else if z = "strike" then [true] else if z = "fresh" then [true] else if z = "clear" then [false, true] else []
def worded (ds : List (Str × Str)) : List Str := (ds.filter fun d => decide (d.1 = ("add" : Str)) || decide (d.1 = ("strike" : Str))).map (·.2)
structure FsOk (fs : List FD) : Prop where
  pos : 1 ≤ fs.length
  le : fs.length ≤ 3
  word : ∀ f ∈ fs, wordB f.nm = true
  nd : (fs.map (·.nm)).Nodup
structure CdOk (fs : List FD) (n : Nat) (c : CD) : Prop where
  word : wordB c.nm = true
  hand : c.hand = "self" ∨ c.hand = "new" ∨ c.hand = "last"
  len : c.moves.length = n
  move : ∀ m ∈ c.moves, -1 ≤ m ∧ m < n
  deeds : c.deeds.length ≤ 4
  deed : ∀ d ∈ c.deeds, ∃ f ∈ fs, f.nm = d.2 ∧ f.many ∈ deedSorts d.1
  once : (worded c.deeds).Nodup
  same : ∀ x ∈ c.same, ∃ f ∈ fs, f.nm = x ∧ f.many = true
  self : c.hand = "self" → c.same = []
  nd : c.same.Nodup
structure KdOk (fs : List FD) (n : Nat) (cs : List CD) : Prop where
  fields : FsOk fs
  pos : 1 ≤ n
  le : n ≤ 4
  cpos : 1 ≤ cs.length
  cle : cs.length ≤ 6
  calls : ∀ c ∈ cs, CdOk fs n c
  nd : (cs.map (·.nm)).Nodup
def DeOk (fs : List FD) (d : Str × Str) : Prop := ∃ f ∈ fs, f.nm = d.2 ∧ f.many ∈ deedSorts d.1
theorem worded_snoc (ds : List (Str × Str)) (d : Str × Str) : worded (ds ++ [d]) = worded ds ++ (if d.1 = ("add" : Str) ∨ d.1 = ("strike" : Str) then [d.2] else []) := by
  unfold worded
  rw [List.filter_append, List.map_append]
  congr 1
  by_cases h : d.1 = ("add" : Str) ∨ d.1 = ("strike" : Str)
  · rw [if_pos h]
    rcases h with h | h <;> simp [h]
  · rw [if_neg h]
    rw [not_or] at h
    simp [h.1, h.2]
/-- a list that may be changed -/
def Ls (H : Hp) (v : V) (xs : List V) : Prop := ∃ a, v = .ref a ∧ H a = some (.lst xs)
theorem Ls.sq {K : PySem.W.Frag} {H : Hp} {v : V} {xs : List V} (h : Ls H v xs) : Sq K H v xs := by
  obtain ⟨a, e, h⟩ := h
  exact ⟨a, e, .inl (SqL.of h)⟩
theorem Ls.keep {H H' : Hp} {v : V} {xs : List V} (e : Same H H') (h : Ls H v xs) : Ls H' v xs := by
  obtain ⟨a, r, h⟩ := h
  exact ⟨a, r, e _ _ h⟩
/-- a call as the laws draw them: a tuple with lists in it -/
def CdL (K : PySem.W.Frag) (H : Hp) (v : V) (c : CD) : Prop := ∃ m d s ds, Tu K H v [.str c.nm, .str c.hand, m, d, s] ∧ Ls H m (c.moves.map V.int) ∧ Ls H d ds ∧ Al (DeT K H) ds c.deeds ∧ Ls H s (c.same.map V.str)
theorem CdL.keep {K : PySem.W.Frag} {H H' : Hp} {v : V} {c : CD} (e : Same H H') (h : CdL K H v c) : CdL K H' v c := by
  obtain ⟨m, d, s, ds, h1, h2, h3, h4, h5⟩ := h
  exact ⟨m, d, s, ds, h1.keep e, h2.keep e, h3.keep e, h4.mono fun _ _ h => DeT.keep e h, h5.keep e⟩
theorem CdL.a {K : PySem.W.Frag} {H : Hp} {v : V} {c : CD} (h : CdL K H v c) : CdA K H v c := by
  obtain ⟨m, d, s, ds, h1, h2, h3, h4, h5⟩ := h
  exact ⟨m, d, s, ds, h1.sq, h2.sq, h3.sq, h4.mono fun _ _ h => DeT.a h, h5.sq⟩
/-- the modes that are drawn from -/
def smV (far : Int) (m : Nat) : List V := (List.replicate 3 (rgV 0 far)).flatten ++ (List.replicate m [V.int (-1)]).flatten
theorem rgV_mem {far : Int} {x : V} (h : x ∈ rgV 0 far) : ∃ z : Int, x = .int z ∧ 0 ≤ z ∧ z < far := by
  unfold rgV at h
  obtain ⟨i, hi, rfl⟩ := List.mem_map.mp h
  rw [List.mem_range] at hi
  exact ⟨_, rfl, by omega, by omega⟩
theorem smV_mem {far : Int} {m : Nat} {x : V} (hf : 0 < far) (h : x ∈ smV far m) : ∃ z : Int, x = .int z ∧ -1 ≤ z ∧ z < far := by
  unfold smV at h
  rcases List.mem_append.mp h with h | h
  · obtain ⟨l, hl, hx⟩ := List.mem_flatten.mp h
    obtain ⟨_, rfl⟩ := List.mem_replicate.mp hl
    obtain ⟨z, e, h0, h1⟩ := rgV_mem hx
    exact ⟨z, e, by omega, h1⟩
  · obtain ⟨l, hl, hx⟩ := List.mem_flatten.mp h
    obtain ⟨_, rfl⟩ := List.mem_replicate.mp hl
    exact ⟨-1, List.mem_singleton.mp hx, by omega, by omega⟩
theorem smV_len {far : Int} {m : Nat} (hf : 0 < far) : (smV far m).length = 3 * far.toNat + m := by
  unfold smV
  have h3 : (List.replicate 3 (rgV 0 far)).flatten.length = 3 * far.toNat := by
    show (rgV 0 far ++ (rgV 0 far ++ (rgV 0 far ++ []))).length = _
    rw [List.length_append, List.length_append, List.length_append, rgV_length]
    show (far - 0).toNat + ((far - 0).toNat + ((far - 0).toNat + 0)) = _
    rw [Int.sub_zero]
    omega
  have h4 : ∀ k : Nat, (List.replicate k [V.int (-1)]).flatten.length = k := fun k => by
    induction k with
    | zero => rfl
    | succ k ih =>
      rw [List.replicate_succ, List.flatten_cons, List.length_append, ih]
      show 1 + k = k + 1
      omega
  rw [List.length_append, h3, h4]
theorem dp_strs {K : PySem.W.Frag} {H : Hp} : ∀ zs : List Str, DpAll K H (zs.map V.str) (zs.map PyData.str)
  | [] => .nil
  | z :: zs => .cons (.str z) (dp_strs zs)
theorem strs_lay : ∀ zs : List Str, (∀ z ∈ zs, PyData.strOk z = true) → PyData.canLayAll0 (zs.map PyData.str) = true
  | [], _ => rfl
  | z :: zs, h => by
    rw [List.map_cons]
    unfold PyData.canLayAll0 PyData.canLay0
    rw [h z (List.mem_cons_self ..), Bool.true_and]
    exact strs_lay zs fun y hy => h y (List.mem_cons_of_mem _ hy)
theorem strs_depth : ∀ zs : List Str, PyData.depthAll (zs.map PyData.str) = 0
  | [] => rfl
  | z :: zs => by
    rw [List.map_cons]
    unfold PyData.depthAll
    rw [strs_depth zs]
    rfl
theorem strs_shaped (zs : List Str) (h : ∀ z ∈ zs, PyData.strOk z = true) : SeqAt.shaped (.list (zs.map PyData.str)) = true := by
  have h1 : PyData.canLay0 (.list (zs.map PyData.str)) = true := by
    unfold PyData.canLay0
    exact strs_lay zs h
  have h2 : PyData.depth (.list (zs.map PyData.str)) ≤ 64 := by
    unfold PyData.depth
    rw [strs_depth zs]
    decide
  unfold SeqAt.shaped
  rw [h1, decide_eq_true h2]
  rfl
theorem eqv_nil (zs : List Str) : PyData.eqv (.list (zs.map PyData.str)) (.list []) = zs.isEmpty := by
  cases zs <;> simp [PyData.eqv, PyData.eqvAll]
end MK
set_option Elab.async false
set_option linter.all false
set_option autoImplicit false
set_option maxRecDepth 100000
set_option maxHeartbeats 4000000
namespace MK
open PySem PySem.Spec PyProof.Rows L2
theorem take_next {zs : List Str} {i : Nat} (hi : i < zs.length) (y : Str) : decide (y ∈ zs.take (i + 1)) = (decide (y ∈ zs.take i) || decide (y = zs.getD i Str.empty)) := by
  have e : zs.take (i + 1) = zs.take i ++ [zs.getD i Str.empty] := by
    rw [List.take_add_one, List.getElem?_eq_getElem hi, List.getD_eq_getElem?_getD, List.getElem?_eq_getElem hi]
    rfl
  rw [e, Bool.eq_iff_iff]
  simp
theorem not_ahead {zs : List Str} {i : Nat} (nd : zs.Nodup) (hi : i < zs.length) : zs.getD i Str.empty ∉ zs.take i := by
  rw [List.getD_eq_getElem?_getD, List.getElem?_eq_getElem hi]
  intro m
  obtain ⟨j, hj⟩ := List.mem_iff_getElem?.mp m
  rw [List.getElem?_take] at hj
  split at hj
  · rename_i lt
    have hjl : j < zs.length := by omega
    rw [List.getElem?_eq_getElem hjl] at hj
    exact (List.pairwise_iff_getElem.mp nd j i hjl hi lt) (Option.some.inj hj)
  · cases hj
section
variable {prog : Program} {w : World} {A : Around} {R : Result → Shared → Prop} {I S : Addr} {fp wr : List Addr} {G : Array GenState → Array GenState → Prop} {n : Nat} {P : Nat → Value → Prop} {St : Nat → Shared → Prop} {zs : List Str}
theorem all_added (W : WalksS prog w A.in1 I fp wr G n P St) (off : S ∉ fp) (len : zs.length = n) (nd : zs.Nodup) (few : n < 1000) (at_ : ∀ i v, P i v → ∃ t, v = .str (zs.getD i Str.empty) t) :
    ∀ (left i : Nat) (s : Shared), i + left = n → St i s → s.heap.SetOf (strKind prog w) S (fun y => decide (y ∈ zs.take i)) i →
      (∀ s1, Moved (S :: wr) G s s1 → s1.heap.SetOf (strKind prog w) S (fun y => decide (y ∈ zs)) n → R (.ok (.ret .none)) s1) → codeAny (model prog w) A (.builtin "set.update.loop" ⟨[.ref S, .ref I], []⟩) R s := by
  intro left
  have off2 : S ∉ wr := fun m => off (W.sub _ m)
  induction left with
  | zero =>
    intro i s e st so k
    obtain rfl : i = n := e
    refine codeAny_builtin PyProof.Rows.F.entry_set_update_loop ?_
    rw [Around.under_plainId PyProof.Rows.F.plain_set_update_loop _]
    refine wpAny_bind (W.done s _ _ st fun s1 mv => wpAny_pure (k s1 (mv.mono fun b m => List.mem_cons_of_mem _ m) ?_))
    obtain ⟨o, es, ep, t, g, more⟩ := so
    have so1 : s1.heap.SetOf (strKind prog w) S (fun y => decide (y ∈ zs.take i)) i := ⟨o, es, ep, t, mv.heap S _ off2 g, more⟩
    rw [← len, List.take_length] at so1
    rw [← len]
    exact so1
  | succ left ih =>
    intro i s e st so k
    have lt : i < n := by omega
    have ltz : i < zs.length := by omega
    refine codeAny_builtin PyProof.Rows.F.entry_set_update_loop ?_
    rw [Around.under_plainId PyProof.Rows.F.plain_set_update_loop _]
    refine wpAny_bind (W.item i s _ _ lt st fun v s1 pv st1 mv => ?_)
    obtain ⟨t, rfl⟩ := at_ i v pv
    have so1 : s1.heap.SetOf (strKind prog w) S (fun y => decide (y ∈ zs.take i)) i := by
      obtain ⟨o, es, ep, tb, g, more⟩ := so
      exact ⟨o, es, ep, tb, mv.heap S _ off2 g, more⟩
    refine wpAny_bind (wpAny_holding ?_)
    unfold setAdd
    refine wpAny_holding (wpAny_bind ((strKind prog w).pyHash (k := zs.getD i Str.empty) (strKind_is _ _ _ _) ?_))
    refine wpAny_setAddHashed_of (knd := strKind prog w) (s := { s1 with toks := s1.toks + 1 }) (strKind_is _ _ _ _) rfl so1 (by unfold scanBound; omega) fun h2 only so2 => ?_
    have so3 : h2.SetOf (strKind prog w) S (fun y => decide (y ∈ zs.take (i + 1))) (i + 1) := by
      refine SetOf_congr so2 (fun y => (take_next ltz y).symm) ?_
      rw [decide_eq_false (not_ahead nd ltz)]
      rfl
    have keep : ∀ b, b ≠ S → ∀ o, s1.heap.get? b = some o → h2.get? b = some o := fun b ne o g => by
      rw [only.2 b ne]
      exact g
    refine wpAny_pure ⟨plainId_quiet PyProof.Rows.F.plain_set_update_loop _, ih (i + 1) _ (by omega) (W.frame _ s1 _ _ st1 (Nat.le_succ _) fun b m o g => keep b (fun q => off (q ▸ m)) o g) so3 fun s3 mv3 so4 => ?_⟩
    exact k s3 (Moved.trans W.gtrans ((mv.mono fun b m => List.mem_cons_of_mem _ m).then_heap (Nat.le_succ _) fun b o m g => keep b (fun q => m (by rw [q]; exact List.mem_cons_self)) o g) mv3) so4
end
section
variable {prog : Program} {w : World} {A : Around} {E : Value → Shared → Prop} {s : Shared} {l : Addr} {its : Array Value} {zs : List Str}
/-- a new set -/
def set0 (led : Bool) : Obj := { cls := .type "set", dict := none, data := .set #[] 0 (.fresh 0 0 led) }
def newS (s : Shared) (led : Bool) : Shared := { s with heap := s.heap.push (set0 led) }
/-- what set(texts) leaves -/
def Laid (prog : Program) (w : World) (s : Shared) (zs : List Str) (h : Heap) : Prop := h.SetOf (strKind prog w) s.heap.objs.size (fun y => decide (y ∈ zs)) zs.length ∧ ∀ b o, b < s.heap.objs.size → s.heap.get? b = some o → h.get? b = some o
theorem set_texts {Q : Value → Shared → Prop} (calm : A.handled = none) (hl : s.heap.IsList l its) (hz : StrsAre its.toList zs) (nd : zs.Nodup) (few : zs.length < 1000)
    (k : ∀ (h : Heap) (tk : Nat), Laid prog w s zs h → Q (.ref s.heap.objs.size) { s with heap := h, toks := tk }) : wpAny (model prog w) A (call (.type "set") [.ref l]) Q E s := by
  obtain ⟨c, tl, hmro⟩ := PySem.F.called_set.mro
  have m1 := PySem.F.called_set.made
  have m2 := PySem.F.called_set.sub
  refine wpAny_call (codeAny_of_tree (show wpAny _ _ (callAny (.type "set") _) _ _ _ from ?_))
  refine wpAny_pure ⟨Code.quiet_builtin _ (by decide +kernel), codeAny_builtin PySem.F.entry_type_call ?_⟩
  rw [Around.under_plain (weight_type_call_type "set" [.ref l] []) rfl]
  have m3 := PySem.F.called_set.notType
  have m4 := PySem.F.called_set.canCreate
  have m5 := PySem.F.typeCall_set_1 (.ref l)
  repeat (any_goals (first | assumption | wp_step))
  refine codeAny_mono (code_set_new_1 (.ref l) (E := E) (Q₁ := fun v s1 => ∃ led : Bool, v = .ref s.heap.objs.size ∧ s1 = newS s led) fun led => ⟨led, rfl, rfl⟩) fun r s1 hr => ?_
  cases r with
  | error e => exact hr
  | ok fl =>
    cases fl with
    | next => exact hr.elim
    | brk => exact hr.elim
    | cont => exact hr.elim
    | ret v =>
      obtain ⟨led, rfl, rfl⟩ := hr
      have at0 : (s.heap.push (set0 led)).get? s.heap.objs.size = some (set0 led) := Heap.get?_push_size _ rfl
      have ty0 : Shared.TypeIs (newS s led) (.ref s.heap.objs.size) "set" := ⟨_, at0, rfl⟩
      have m6 := PySem.F.called_set.init.lookup
      have m7 := PySem.F.called_set.init.bind (.ref s.heap.objs.size)
      unfold newS at ty0 ⊢
      repeat (any_goals (first | assumption | wp_step))
      refine codeAny_mono (codeAny_call_builtin (R := wants (fun v s2 => v = .none ∧ ∃ h tk, s2 = { s with heap := h, toks := tk } ∧ Laid prog w s zs h) E) PySem.F.called_set.init.plain PySem.F.entry_set_init (check_set_init_1 ty0 ?_)) fun r2 s2 h2 => ?_
      · obtain ⟨⟨cl, di, da, sl⟩, g, rfl, nl, rfl⟩ := hl
        have g0 : (s.heap.push (set0 led)).get? l = some { cls := .type "list", dict := di, data := .seq its nl, slots := sl } := Heap.get?_push_of_some _ g
        have n1 := PySem.F.sub_list_set
        have n2 := PySem.F.sub_list_frozenset
        have n3 : (Value.type "list" == Value.type "dict") = false := by decide
        have l0 : (s.heap.push (set0 led)).IsList l its := ⟨_, g0, rfl, nl, rfl⟩
        unfold Builtin.«set.__init__» noKeywords Builtin.Frozenset.updateFrom
        generalize hit : pyIter = it
        wp_walk
        subst hit
        refine wpAny_pyIter_list l0 (wpAny_bind (wpAny_runValue ?_))
        have below : l < s.heap.objs.size := Heap.lt_size g
        have sz : (s.heap.push (set0 led)).objs.size = s.heap.objs.size + 1 := Heap.size_push ..
        have d1 : l ≠ (s.heap.push (set0 led)).objs.size := Nat.ne_of_lt (by rw [sz]; exact Nat.lt_succ_of_lt below)
        have d2 : s.heap.objs.size ∉ [(s.heap.push (set0 led)).objs.size, l] := by
          rw [sz]
          intro m
          rcases List.mem_cons.mp m with e | m
          · omega
          · exact absurd (List.mem_singleton.mp m) (Nat.ne_of_gt below)
        have lz : zs.length = its.size := by rw [← StrsAre.len_eq hz, Array.length_toList]
        refine all_added (S := s.heap.objs.size) ((Walks.list (by simp [calm]) _ l d1 its).toS) d2 lz nd (by omega) (fun i v e => SS.strs_at hz i v (by rw [Array.getElem?_toList]; exact e)) its.size 0 _ (Nat.zero_add _)
          ⟨⟨_, Heap.get?_push_size _ rfl, rfl, rfl⟩, l0.push _⟩ ?_ ?_
        · have g1 := Heap.get?_push_of_some { cls := .type "list_iterator", data := .fields #[.ref l, .int 0 0] } at0
          exact SetOf_congr ((setObjOf_fresh (knd := strKind prog w) led).setOf g1 (by unfold scanBound; omega)) (fun _ => rfl) rfl
        · rintro ⟨h, g', d', tk, os'⟩ mv so
          obtain rfl : g' = s.gens := mv.gens
          obtain rfl : d' = s.drawn := mv.drawn
          obtain rfl : os' = s.os := mv.os
          refine wpAny_pure (wpAny_pure ⟨rfl, h, tk, rfl, by rw [lz]; exact so, fun b o lt e => ?_⟩)
          refine mv.heap b o (fun m => ?_) (Heap.get?_push_of_some _ (Heap.get?_push_of_some _ e))
          rcases List.mem_cons.mp m with q | m
          · exact Nat.ne_of_lt lt q
          · rcases List.mem_cons.mp m with q | m
            · rw [sz] at q
              exact Nat.ne_of_lt (Nat.lt_succ_of_lt lt) q
            · cases m
      · cases r2 with
        | error e => exact h2
        | ok fl =>
          cases fl with
          | next => exact h2.elim
          | brk => exact h2.elim
          | cont => exact h2.elim
          | ret v =>
            obtain ⟨rfl, h, tk, rfl, laid⟩ := h2
            repeat (any_goals (first | assumption | wp_step))
            exact k h _ laid
end
end MK
set_option Elab.async false
set_option linter.all false
set_option autoImplicit false
set_option maxRecDepth 100000
set_option maxHeartbeats 4000000
namespace MK
open PySem PySem.Spec PyProof.Rows L2
section
variable {prog : Program} {w : World} {A : Around} {E : Value → Shared → Prop} {s : Shared} {l : Addr} {its : Array Value} {zs : List Str}
theorem set_textsT {Q : Value → Shared → Prop} (calm : A.handled = none) (hl : s.heap.IsTuple l its) (hz : StrsAre its.toList zs) (nd : zs.Nodup) (few : zs.length < 1000)
    (k : ∀ (h : Heap) (tk : Nat), Laid prog w s zs h → Q (.ref s.heap.objs.size) { s with heap := h, toks := tk }) : wpAny (model prog w) A (call (.type "set") [.ref l]) Q E s := by
  obtain ⟨c, tl, hmro⟩ := PySem.F.called_set.mro
  have m1 := PySem.F.called_set.made
  have m2 := PySem.F.called_set.sub
  refine wpAny_call (codeAny_of_tree (show wpAny _ _ (callAny (.type "set") _) _ _ _ from ?_))
  refine wpAny_pure ⟨Code.quiet_builtin _ (by decide +kernel), codeAny_builtin PySem.F.entry_type_call ?_⟩
  rw [Around.under_plain (weight_type_call_type "set" [.ref l] []) rfl]
  have m3 := PySem.F.called_set.notType
  have m4 := PySem.F.called_set.canCreate
  have m5 := PySem.F.typeCall_set_1 (.ref l)
  repeat (any_goals (first | assumption | wp_step))
  refine codeAny_mono (code_set_new_1 (.ref l) (E := E) (Q₁ := fun v s1 => ∃ led : Bool, v = .ref s.heap.objs.size ∧ s1 = newS s led) fun led => ⟨led, rfl, rfl⟩) fun r s1 hr => ?_
  cases r with
  | error e => exact hr
  | ok fl =>
    cases fl with
    | next => exact hr.elim
    | brk => exact hr.elim
    | cont => exact hr.elim
    | ret v =>
      obtain ⟨led, rfl, rfl⟩ := hr
      have at0 : (s.heap.push (set0 led)).get? s.heap.objs.size = some (set0 led) := Heap.get?_push_size _ rfl
      have ty0 : Shared.TypeIs (newS s led) (.ref s.heap.objs.size) "set" := ⟨_, at0, rfl⟩
      have m6 := PySem.F.called_set.init.lookup
      have m7 := PySem.F.called_set.init.bind (.ref s.heap.objs.size)
      unfold newS at ty0 ⊢
      repeat (any_goals (first | assumption | wp_step))
      refine codeAny_mono (codeAny_call_builtin (R := wants (fun v s2 => v = .none ∧ ∃ h tk, s2 = { s with heap := h, toks := tk } ∧ Laid prog w s zs h) E) PySem.F.called_set.init.plain PySem.F.entry_set_init (check_set_init_1 ty0 ?_)) fun r2 s2 h2 => ?_
      · obtain ⟨⟨cl, di, da, sl⟩, g, rfl, nl, rfl⟩ := hl
        have g0 : (s.heap.push (set0 led)).get? l = some { cls := .type "tuple", dict := di, data := .seq its nl, slots := sl } := Heap.get?_push_of_some _ g
        have n1 := PySem.F.sub_tuple_set
        have n2 := PySem.F.sub_tuple_frozenset
        have n3 : (Value.type "tuple" == Value.type "dict") = false := by decide
        have l0 : (s.heap.push (set0 led)).IsTuple l its := ⟨_, g0, rfl, nl, rfl⟩
        unfold Builtin.«set.__init__» noKeywords Builtin.Frozenset.updateFrom
        generalize hit : pyIter = it
        wp_walk
        subst hit
        refine wpAny_pyIter_tuple l0 (wpAny_bind (wpAny_runValue ?_))
        have below : l < s.heap.objs.size := Heap.lt_size g
        have sz : (s.heap.push (set0 led)).objs.size = s.heap.objs.size + 1 := Heap.size_push ..
        have d1 : l ≠ (s.heap.push (set0 led)).objs.size := Nat.ne_of_lt (by rw [sz]; exact Nat.lt_succ_of_lt below)
        have d2 : s.heap.objs.size ∉ [(s.heap.push (set0 led)).objs.size, l] := by
          rw [sz]
          intro m
          rcases List.mem_cons.mp m with e | m
          · omega
          · exact absurd (List.mem_singleton.mp m) (Nat.ne_of_gt below)
        have lz : zs.length = its.size := by rw [← StrsAre.len_eq hz, Array.length_toList]
        refine all_added (S := s.heap.objs.size) ((Walks.tuple (by simp [calm]) _ l d1 its).toS) d2 lz nd (by omega) (fun i v e => SS.strs_at hz i v (by rw [Array.getElem?_toList]; exact e)) its.size 0 _ (Nat.zero_add _)
          ⟨⟨_, Heap.get?_push_size _ rfl, rfl, rfl⟩, l0.push _⟩ ?_ ?_
        · have g1 := Heap.get?_push_of_some { cls := .type "tuple_iterator", data := .fields #[.ref l, .int 0 0] } at0
          exact SetOf_congr ((setObjOf_fresh (knd := strKind prog w) led).setOf g1 (by unfold scanBound; omega)) (fun _ => rfl) rfl
        · rintro ⟨h, g', d', tk, os'⟩ mv so
          obtain rfl : g' = s.gens := mv.gens
          obtain rfl : d' = s.drawn := mv.drawn
          obtain rfl : os' = s.os := mv.os
          refine wpAny_pure (wpAny_pure ⟨rfl, h, tk, rfl, by rw [lz]; exact so, fun b o lt e => ?_⟩)
          refine mv.heap b o (fun m => ?_) (Heap.get?_push_of_some _ (Heap.get?_push_of_some _ e))
          rcases List.mem_cons.mp m with q | m
          · exact Nat.ne_of_lt lt q
          · rcases List.mem_cons.mp m with q | m
            · rw [sz] at q
              exact Nat.ne_of_lt (Nat.lt_succ_of_lt lt) q
            · cases m
      · cases r2 with
        | error e => exact h2
        | ok fl =>
          cases fl with
          | next => exact h2.elim
          | brk => exact h2.elim
          | cont => exact h2.elim
          | ret v =>
            obtain ⟨rfl, h, tk, rfl, laid⟩ := h2
            repeat (any_goals (first | assumption | wp_step))
            exact k h _ laid
end
/-- len(set(xs)), xs a list or tuple of distinct texts -/
def tLenS (K : PySem.W.Frag) (ta : TE) : TE := fun σ H Q => ta σ H fun x H1 => ∃ zs : List Str, Sq K H1 x (zs.map V.str) ∧ zs.Nodup ∧ zs.length < 1000 ∧ Q (.int zs.length) H1
theorem pe_lenS {X : Cx} {a : Expr} {ta : TE} {p p2 q pos : Pos} (hc : X.calm = true) (hg : Gl X "len") (hm : X.mg "len" = none) (hg2 : Gl X "set") (hm2 : X.mg "set" = none) (ha : PE X a ta)
    (na : starEach [a] X.env = (false, eval a X.env) :: starEach [] X.env := by rfl) : PE X (.Call (.Name "len" p) [.Call (.Name "set" p2) [a] [] q] [] pos) (tLenS X.K ta) := by
  refine ⟨fun pins s σ H Q I h => Call_ (ld_blt I hg hm boot_len (callWith_builtin1 (args_cons (Call_ (ld_blt I hg2 hm2 boot_set ?_)) rfl) rfl rfl))⟩
  refine callWith_type1 (args_cons (thn (ha.run pins s σ H _ I h) fun v s1 ⟨x, H1, I1, r1, zs, ⟨l, e, sq⟩, nd, few, q⟩ => args_nil ?_) na) na rfl
  subst e
  cases r1
  have fin : ∀ (h : Heap) (tk : Nat), Laid X.prog X.w s1 zs h → wpAny (model X.prog X.w) X.A (spliced (backTo pos (starEach [] X.env)))
      (fun vs s2 => wpAny (model X.prog X.w) X.A (call (.builtin "len") (Value.ref s1.heap.objs.size :: vs)) (EP X pins σ Q) X.xe s2) X.xe { s1 with heap := h, toks := tk } := fun h tk ⟨so, kp⟩ => by
    obtain ⟨o, es, ep, t, g, ex, hd, _, _, _, fits, cnt⟩ := so
    have I2 : Inv X pins σ H1 { s1 with heap := h, toks := tk } := I1.kept fun b o e => kp b o (Heap.lt_size e) e
    exact args_nil (call_len_set g ex hd fits (by rw [cnt] <;> omega) ⟨.int zs.length, H1, I2.tok _, ⟨_, by rw [cnt]⟩, q⟩)
  rcases sq with sq | sq
  · obtain ⟨us, r, pl, _⟩ := I1.list sq
    exact set_texts (I1.ok.hd hc) pl.isList (by simpa using strsAre_of r) nd few fin
  · obtain ⟨us, r, pl, _⟩ := I1.tuple sq
    exact set_textsT (I1.ok.hd hc) pl (by simpa using strsAre_of r) nd few fin
end MK
set_option Elab.async false
set_option linter.all false
set_option autoImplicit false
set_option maxRecDepth 100000
set_option maxHeartbeats 4000000
namespace MK
open PySem PySem.Spec PyProof.Rows L2
/-- a constant of the module -/
theorem pe_cst {X : Cx} {x : Str} {pos : Pos} {v : V} (hg : Gl X x) (h : ∃ u, X.mg x = some u ∧ RelV v u) (hd : (x == ("__debug__" : Str)) = false := by decide) : PE X (.Name x pos) (tC v) := by
  obtain ⟨u, m, r⟩ := h
  exact pe_glob hg m r hd
theorem any_two {K : PySem.W.Frag} {t a b : String} {r1 r2 : Bool} (h1 : kitB t a = some r1) (h2 : kitB t b = some r2) : PySem.W.kitAny K (.type t) [.type a, .type b] = some (r1 || r2) := by
  refine kitAny_cons (kit_ty h1) (fun e => ?_) (fun e => by rw [e]; rfl)
  refine kitAny_cons (kit_ty h2) (fun e2 => ?_) (fun e2 => by rw [e2, Bool.or_true])
  rw [e, e2]
  rfl
/-- it is a list or a tuple -/
theorem sq_ty {K : PySem.W.Frag} {H : Hp} {a : Addr} {xs : List V} (h : SqL K H a xs ∨ SqT K H a xs) : ∃ t, TyX K H (.ref a) (.type t) ∧ PySem.W.kitAny K (.type t) [.type "list", .type "tuple"] = some true := by
  rcases h with h | h
  · exact ⟨"list", tyx_l h, any_two (r1 := true) (r2 := false) (by decide +kernel) (by decide +kernel)⟩
  · exact ⟨"tuple", tyx_t h, any_two (r1 := false) (r2 := true) (by decide +kernel) (by decide +kernel)⟩
/-- (a, b, ..) = a list or a tuple of that length -/
def gSq (K : PySem.W.Frag) (n : Nat) (t : TGs) : TG := fun v σ H Q => ∃ xs, Sq K H v xs ∧ xs.length = n ∧ t xs σ H Q
theorem pg_sq {X : Cx} {es : List Expr} {k : Nat} {t : TGs} {n : Nat} {pos : Pos} (hc : X.calm = true) (h : PGs X es t)
    (hn : (assignEach es X.env).length = n := by rfl) (hst : (assignEach es X.env).findIdx? (·.1) = none := by rfl) : PG X (.Tuple es k pos) (gSq X.K n t) := by
  refine ⟨fun pins s σ H v u Q I r ⟨xs, ⟨a, e, sq⟩, l, q⟩ => ?_⟩
  rcases sq with sq | sq
  · exact (pg_unl hc h hn hst).run pins s σ H v u Q I r ⟨a, xs, e, sq, l, q⟩
  · exact (pg_tup hc h hn hst).run pins s σ H v u Q I r ⟨a, xs, e, sq, l, q⟩
/-- what is walked is a list or a tuple, of which nothing changes on the way -/
def iSqS (K : PySem.W.Frag) (te : TE) : TI := fun σ H R => te σ H fun v H1 => ∃ (a : Addr) (xs : List V) (H0 : Hp), v = .ref a ∧ (SqL K H0 a xs ∨ SqT K H0 a xs) ∧ Same H0 H1 ∧
  ∀ (J : It) (G : Hp → Prop), Walk J xs.length G (YAt xs) → (∀ H', Same H0 H' → G H') → R J H1
def iEnS (K : PySem.W.Frag) (ta : TA) : TI := fun σ H R => ta σ H fun vs H1 => ∃ (a : Addr) (xs : List V) (H0 : Hp), vs = [.ref a] ∧ (SqL K H0 a xs ∨ SqT K H0 a xs) ∧ Same H0 H1 ∧
  ∀ (J : It) (G : Hp → Prop), Walk J xs.length G (YPair (fun i => some (.int (i : Nat))) (fun i => xs[i]?)) → (∀ H', Same H0 H' → G H') → R J H1
theorem pi_sqV {X : Cx} {tg e : Expr} {i : Nat} (h : PE X e (tVar i)) : PI X tg e (iSqS X.K (tVar i)) := by
  refine ⟨fun pins s σ H R I ⟨v, ev, a, xs, H0, r, sq, sm, k⟩ => ?_⟩
  subst r
  rcases sq with sq | sq
  · exact (pi_list h).run pins s σ H R I ⟨_, ev, a, rfl, ⟨xs, sm.seq sq⟩, k _ _ walk_list fun H' e' => e'.seq sq⟩
  · exact (pi_tup h).run pins s σ H R I ⟨_, ev, a, rfl, ⟨xs, same_t sm sq⟩, k _ _ walk_tup fun H' e' => same_t e' sq⟩
theorem pi_enV {X : Cx} {e : Expr} {i : Nat} {p pos tpos : Pos} {elts : List Expr} {kk : Nat} (hg : Gl X "enumerate") (hm : X.mg "enumerate" = none) (ha : PA X [e] (tCons (tVar i) tNil)) (hs : starEach [e] X.env = [(false, eval e X.env)] := by rfl) :
    PI X (.Tuple elts kk tpos) (.Call (.Name "enumerate" p) [e] [] pos) (iEnS X.K (tCons (tVar i) tNil)) := by
  refine ⟨fun pins s σ H R I ⟨v, ev, a, xs, H0, r, sq, sm, k⟩ => ?_⟩
  obtain ⟨rfl, _⟩ := List.cons.inj r
  rcases sq with sq | sq
  · exact (pi_enum hg hm ha hs).run pins s σ H R I ⟨_, ev, a, xs, rfl, sm.seq sq, k _ _ walk_enum fun H' e' => e'.seq sq⟩
  · exact (pi_enumT hg hm ha hs).run pins s σ H R I ⟨_, ev, a, xs, rfl, same_t sm sq, k _ _ walk_enumT fun H' e' => same_t e' sq⟩
theorem iteB {b : Bool} {A B : Prop} (e : b = false) (h : B) : if b = true then A else B := by
  subst e
  exact iteF h
theorem iteA {b : Bool} {A B : Prop} (e : b = true) (h : A) : if b = true then A else B := by
  subst e
  exact iteT h
/-- d[e], d a written dict of the module -/
def tKGet (K : PySem.W.Frag) (d : Addr) (td ty : TE) : TE := fun σ H Q => td σ H fun x H1 => ty σ H1 fun y H2 => ∃ (z : Str) (u0 : Value) (v0 : V), x = .ref d ∧ y = .str z ∧ PySem.W.nsIn K d z = some (some u0) ∧ RelV v0 u0 ∧ Q v0 H2
theorem pe_kget {X : Cx} {d : Addr} {es : Array DictEntry} {n : Nat} {o i : Expr} {pos : Pos} {td ty : TE} (D : KDict X.K X.w d es n) (ho : PE X o td) (hi : PE X i ty) (hs : NoSl i) : PE X (.Subscript o i pos) (tKGet X.K d td ty) := by
  refine ⟨fun pins s σ H Q I h => ?_⟩
  refine subD_of PySem.F.slot_dict_getitem.lookup hs (thn (ho.run pins s σ H _ I h) fun u s1 ⟨x, H1, I1, rx, q1⟩ => thn (hi.run pins s1 σ H1 _ I1 q1) fun iv s2 ⟨y, H2, I2, ry, z, u0, v0, ex, ey, eq, rv, q2⟩ => ?_)
  have rx' := rx
  rw [ex] at rx'
  obtain rfl : u = Value.ref d := rx'
  exact ⟨kd_type D I2, op_item_kd D pins s2 σ H2 x y _ iv Q I2 rx ry ⟨z, u0, v0, ex, ey, eq, rv, q2⟩⟩
/-- the dict of the sorts -/
def sortsV (fs : List FD) : List (Key × V) := fs.map fun f => (.inr f.nm, .str (sortS f.many))
theorem sorts_get : ∀ {fs : List FD}, (fs.map (·.nm)).Nodup → ∀ {f : FD}, f ∈ fs → valV (sortsV fs) (.inr f.nm) = some (.str (sortS f.many))
  | [], _, f, h => by cases h
  | g :: gs, nd, f, h => by
    rw [List.map_cons, List.nodup_cons] at nd
    rcases List.mem_cons.mp h with rfl | h
    · exact valV_pos rfl
    · have ne : ¬ g.nm = f.nm := fun e => nd.1 (e ▸ List.mem_map_of_mem h)
      show valV ((.inr g.nm, .str (sortS g.many)) :: sortsV gs) (.inr f.nm) = _
      rw [valV_neg (fun e => ne (Sum.inr.inj e))]
      exact sorts_get nd.2 h
theorem call_tuple_ofK {X : Cx} {K : PySem.W.Frag} (h : X.K = K) : CallR X (.type "tuple") (fun xs H Q => ∃ p ys, xs = [.ref p] ∧ ((SqL K H p ys ∧ ∀ l, H l = none → Q (.ref l) (upd H l (.tup ys))) ∨ (SqT K H p ys ∧ Q (.ref p) H))) := by subst h; exact call_tuple_of
theorem rd_tup {K : PySem.W.Frag} {s : Addr} {H : Hp} {x : V} {ys : List V} {Q : VK} (hs : H s ≠ none) (h : Sq K (Off s H) x ys) (q : ∀ v H', Same H H' → Tu K (Off s H') v ys → Q v H') :
    ∃ p zs, [x] = [.ref p] ∧ ((SqL K H p zs ∧ ∀ l, H l = none → Q (.ref l) (upd H l (.tup zs))) ∨ (SqT K H p zs ∧ Q (.ref p) H)) := by
  obtain ⟨p, rfl, h⟩ := h
  rcases h with h | h
  · refine ⟨p, ys, rfl, .inl ⟨off_same.seq h, fun l hl => q _ _ (same_new (Same.refl H) hl) (Tu.tup ?_)⟩⟩
    rw [off_ne (fun e : l = s => hs (by rw [← e]; exact hl)), upd_same]
  · exact ⟨p, ys, rfl, .inr ⟨same_t off_same h, q _ _ (Same.refl H) ⟨p, rfl, h⟩⟩⟩
theorem rd_tupM {K : PySem.W.Frag} {s : Addr} {H : Hp} {x : V} {ys : List V} (hs : H s ≠ none) (h : Sq K (Off s H) x ys) :
    ∃ p zs, [x] = [.ref p] ∧ ((SqL K H p zs ∧ ∀ l, H l = none → Same H (upd H l (.tup zs)) ∧ Tu K (Off s (upd H l (.tup zs))) (.ref l) ys) ∨ (SqT K H p zs ∧ Same H H ∧ Tu K (Off s H) (.ref p) ys)) :=
  rd_tup (Q := fun v H' => Same H H' ∧ Tu K (Off s H') v ys) hs h fun _ _ e t => ⟨e, t⟩
theorem ne_s {s d : Addr} {H H1 : Hp} (hs : H s ≠ none) (e : Same H H1) (h : H1 d = none) : d ≠ s := fun q => by
  cases z : H s with
  | none => exact hs z
  | some o => rw [q, e _ _ z] at h; cases h
theorem kept_s {s : Addr} {H H1 : Hp} (hs : H s ≠ none) (e : Same H H1) : H1 s ≠ none := by
  cases z : H s with
  | none => exact absurd z hs
  | some o => rw [e _ _ z]; exact nofun
theorem len_sub : ∀ {xs ys : List Str}, xs.Nodup → (∀ x ∈ xs, x ∈ ys) → xs.length ≤ ys.length
  | [], _, _, _ => Nat.zero_le _
  | x :: xs, ys, nd, h => by
    rw [List.nodup_cons] at nd
    have hx := h x (List.mem_cons_self ..)
    have := len_sub (ys := ys.erase x) nd.2 fun y hy => (List.mem_erase_of_ne (fun e : y = x => nd.1 (by rw [← e]; exact hy))).mpr (h y (List.mem_cons_of_mem _ hy))
    rw [List.length_erase_of_mem hx] at this
    have := List.length_pos_of_mem hx
    rw [List.length_cons]
    omega
theorem Tu.offL {K : PySem.W.Frag} {H : Hp} {v : V} {xs : List V} {d : Addr} {ys : List V} (h : Tu K H v xs) (hd : H d = some (.lst ys)) : Tu K (Off d H) v xs := by
  obtain ⟨b, rfl, h⟩ := h
  refine ⟨b, rfl, ?_⟩
  rcases h with (h | ⟨o, h⟩) | h
  · exact .inl (.inl ((off_ne (fun e => by rw [e, hd] at h; cases h)).trans h))
  · exact .inl (.inr ⟨o, (off_ne (fun e => by rw [e, hd] at h; cases h)).trans h⟩)
  · exact .inr h
/-- nothing that is a tuple -/
def NoTup (o : HO) : Prop := (∀ ys, o ≠ .tup ys) ∧ ∀ p ys, o ≠ .frz p (.tup ys)
theorem Tu.off {K : PySem.W.Frag} {H : Hp} {v : V} {xs : List V} {d : Addr} {o : HO} (h : Tu K H v xs) (hd : H d = some o) (no : NoTup o) : Tu K (Off d H) v xs := by
  obtain ⟨b, rfl, h⟩ := h
  refine ⟨b, rfl, ?_⟩
  rcases h with (h | ⟨p, h⟩) | h
  · exact .inl (.inl ((off_ne (fun e => by rw [e, hd] at h; exact no.1 _ (Option.some.inj h))).trans h))
  · exact .inl (.inr ⟨p, (off_ne (fun e => by rw [e, hd] at h; exact no.2 _ _ (Option.some.inj h))).trans h⟩)
  · exact .inr h
theorem CdT.off {K : PySem.W.Frag} {H : Hp} {v : V} {c : CD} {d : Addr} {o : HO} (h : CdT K H v c) (hd : H d = some o) (no : NoTup o) : CdT K (Off d H) v c := by
  obtain ⟨m, dv, s, ds, h1, h2, h3, h4, h5⟩ := h
  exact ⟨m, dv, s, ds, h1.off hd no, h2.off hd no, h3.off hd no, h4.mono fun _ _ h => Tu.off h hd no, h5.off hd no⟩
theorem no_lst {xs : List V} : NoTup (.lst xs) := ⟨fun _ h => HO.noConfusion h, fun _ _ h => HO.noConfusion h⟩
theorem no_ins {C dx : Addr} {fs : List (Str × V)} : NoTup (.ins C dx fs) := ⟨fun _ h => HO.noConfusion h, fun _ _ h => HO.noConfusion h⟩
theorem no_dK {kvs : List (Key × V)} : NoTup (.dK kvs) := ⟨fun _ h => HO.noConfusion h, fun _ _ h => HO.noConfusion h⟩
theorem same_offN {A B : Hp} {d : Addr} (e : Same A B) (h : A d = none) : Same A (Off d B) := fun b o hb => by
  rw [off_ne (fun q => by rw [q, h] at hb; cases hb)]
  exact e _ _ hb
/-- the i-th turn of a dict comprehension, over anything that is walked -/
theorem dc_it {J : It} {n : Nat} {G : Hp → Prop} {Y : Nat → Hp → V → Hp → Prop} (wk : Walk J n G Y) {g : TG} {tt : TT} {tk tv : TE} {vs : List Nat} {σ : L2.St} {H1 : Hp} {D : Addr} {Qd : Hp → Prop} (Pv : Nat → Hp → Prop) (h0 : Pv 0 (upd H1 D (.dK []))) (hG : ∀ i H, i ≤ n → Pv i H → G H)
    (hs : ∀ i x H H', i < n → Pv i H → Y i H x H' → g x (wipe σ vs) H' fun σ2 H2 => wipe σ2 vs = wipe σ vs ∧ tt σ2 H2 fun b H3 =>
      if b = true then tk σ2 H3 fun y H4 => tv σ2 H4 fun z H5 => ∃ kvs k, y = kV k ∧ H5 D = some (.dK kvs) ∧ kvs.length < sizeLine ∧ Pv (i + 1) (upd H5 D (.dK (putK kvs k z))) else Pv (i + 1) H3) (hd : ∀ H, Pv n H → Qd H) :
    ∃ W : Nat → Nat → Hp → Prop, (∃ m, W 0 m (upd H1 D (.dK []))) ∧ ∀ i m H, W i m H →
      (J.stop i H ∧ Qd H) ∨ (J.go i H ∧ ∃ Nx : Hp → Prop, (∀ H', Nx H' → ∃ m', m' < m ∧ W (i + 1) m' H') ∧ ∀ x H', J.yld i H x H' → g x (wipe σ vs) H' fun σ2 H2 => wipe σ2 vs = wipe σ vs ∧ tt σ2 H2 fun b H3 =>
        if b = true then tk σ2 H3 fun y H4 => tv σ2 H4 fun z H5 => ∃ kvs k, y = kV k ∧ H5 D = some (.dK kvs) ∧ kvs.length < sizeLine ∧ Nx (upd H5 D (.dK (putK kvs k z))) else Nx H3) := by
  refine ⟨fun i m H => m + i = n ∧ Pv i H, ⟨n, rfl, h0⟩, fun i m H ⟨e, p⟩ => ?_⟩
  cases m with
  | zero =>
    have e : i = n := by omega
    subst e
    exact .inl ⟨wk.stops _ (hG _ _ (Nat.le_refl _) p), hd _ p⟩
  | succ m =>
    have lt : i < n := by omega
    have gH := hG _ _ (Nat.le_of_lt lt) p
    exact .inr ⟨wk.goes _ _ lt gH, Pv (i + 1), fun H' p' => ⟨m, Nat.lt_succ_self m, by omega, p'⟩, fun x H' y => hs i x H H' lt p (wk.yields _ _ _ _ lt gH y)⟩
theorem putK_new {kvs : List (Key × V)} {k : Key} {v : V} (h : ∀ p ∈ kvs, p.1 ≠ k) : putK kvs k v = kvs ++ [(k, v)] := by
  unfold putK
  rw [if_neg]
  intro q
  obtain ⟨p, hp, e⟩ := List.any_eq_true.mp q
  exact h p hp (of_decide_eq_true e)
/-- the places of the fields, the calls by their names -/
def spotsV (fs : List FD) : List (Key × V) := (List.range fs.length).zipWith (fun i (f : FD) => ((.inr f.nm : Key), V.int (i : Nat))) fs
def tableV (cs : List CD) (sv : List V) : List (Key × V) := List.zipWith (fun (c : CD) v => ((.inr c.nm : Key), v)) cs sv
def KdA (K : PySem.W.Frag) (KC : Addr) (H : Hp) (v : V) (fs : List FD) (n : Nat) (cs : List CD) : Prop := ∃ (x dx so sp tb : Addr) (t st : V) (tv sv : List V), v = .ref x ∧
  H x = some (.ins KC dx [("triples", t), ("sorts", .ref so), ("spots", .ref sp), ("modes", .int n), ("steps", st), ("table", .ref tb)]) ∧ Tu K H t tv ∧ Al (FdT K H) tv fs ∧ H so = some (.dK (sortsV fs)) ∧ H sp = some (.dK (spotsV fs)) ∧
  Tu K H st sv ∧ Al (CdT K H) sv cs ∧ H tb = some (.dK (tableV cs sv))
theorem KdA.keep {K : PySem.W.Frag} {KC : Addr} {H H' : Hp} {v : V} {fs : List FD} {n : Nat} {cs : List CD} (e : Same H H') (h : KdA K KC H v fs n cs) : KdA K KC H' v fs n cs := by
  obtain ⟨x, dx, so, sp, tb, t, st, tv, sv, h0, h1, h2, h3, h4, h5, h6, h7, h8⟩ := h
  exact ⟨x, dx, so, sp, tb, t, st, tv, sv, h0, e _ _ h1, h2.keep e, h3.mono fun _ _ h => FdT.keep e h, e _ _ h4, e _ _ h5, h6.keep e, h7.mono fun _ _ h => CdT.keep e h, e _ _ h8⟩
theorem lt_sing (a b : Nat) : (decide ([a] < [b])) = decide (a < b) := by
  rw [Bool.eq_iff_iff, decide_eq_true_iff, decide_eq_true_iff]
  constructor
  · intro h
    cases h with
    | rel h => exact h
    | cons h => cases h
  · intro h
    exact List.Lex.rel h
theorem letter_le (c : Nat) : (!decide ((⟨#[c]⟩ : Str).cps.toList < ("a" : Str).cps.toList)) = decide (97 ≤ c) := by
  show (!decide ([c] < [97])) = _
  rw [lt_sing, Bool.eq_iff_iff]
  simp
theorem letter_ge (c : Nat) : (!decide (("z" : Str).cps.toList < (⟨#[c]⟩ : Str).cps.toList)) = decide (c ≤ 122) := by
  show (!decide ([122] < [c])) = _
  rw [lt_sing, Bool.eq_iff_iff]
  simp
theorem letters_take (xs : List Nat) (i : Nat) (c : Nat) (h : xs[i]? = some c) : (xs.take (i + 1)).map letterB = (xs.take i).map letterB ++ [letterB c] := by
  rw [List.take_succ, h]
  simp
end MK
set_option Elab.async false
set_option linter.all false
set_option autoImplicit false
set_option maxRecDepth 100000
set_option maxHeartbeats 400000
namespace MK
open PySem PySem.Spec PyProof.Rows L2
theorem put_take {full : List (Key × V)} {i : Nat} {k : Key} {v : V} (nd : (full.map (·.1)).Nodup) (h : full[i]? = some (k, v)) : putK (full.take i) k v = full.take (i + 1) := by
  rw [List.take_succ, h]
  refine putK_new fun p hp e => ?_
  obtain ⟨j, hj⟩ := List.mem_iff_getElem?.mp hp
  rw [List.getElem?_take] at hj
  split at hj
  · rename_i lt
    obtain ⟨hjl, ej⟩ := List.getElem?_eq_some_iff.mp hj
    obtain ⟨hil, ei⟩ := List.getElem?_eq_some_iff.mp h
    refine List.pairwise_iff_getElem.mp nd j i (by simpa using hjl) (by simpa using hil) lt ?_
    rw [List.getElem_map, List.getElem_map, ej, ei]
    exact e
  · cases hj
theorem inr_nodup : ∀ {zs : List Str}, zs.Nodup → (zs.map (Sum.inr : Str → Key)).Nodup
  | [], _ => List.nodup_nil
  | z :: zs, h => by
    rw [List.nodup_cons] at h
    rw [List.map_cons, List.nodup_cons]
    refine ⟨fun m => ?_, inr_nodup h.2⟩
    obtain ⟨y, hy, e⟩ := List.mem_map.mp m
    exact h.1 (Sum.inr.inj e ▸ hy)
theorem sorts_nd {fs : List FD} (h : (fs.map (·.nm)).Nodup) : ((sortsV fs).map (·.1)).Nodup := by
  have := inr_nodup h
  rw [List.map_map] at this
  unfold sortsV
  rw [List.map_map]
  exact this
theorem zip_keys {α β : Type} (g : α → β → Key × V) (q : β → Key) (e : ∀ a b, (g a b).1 = q b) : ∀ (as : List α) (bs : List β), as.length = bs.length → (List.zipWith g as bs).map (·.1) = bs.map q
  | [], [], _ => rfl
  | a :: as, b :: bs, h => by
    rw [List.zipWith_cons_cons, List.map_cons, List.map_cons, e, zip_keys g q e as bs (by simpa using h)]
  | [], _ :: _, h => by simp at h
  | _ :: _, [], h => by simp at h
theorem spots_nd {fs : List FD} (h : (fs.map (·.nm)).Nodup) : ((spotsV fs).map (·.1)).Nodup := by
  have := inr_nodup h
  rw [List.map_map] at this
  unfold spotsV
  rw [zip_keys _ (fun f => Sum.inr f.nm) (fun _ _ => rfl) _ _ (by rw [List.length_range])]
  exact this
theorem zip_keys2 {α β : Type} (g : α → β → Key × V) (q : α → Key) (e : ∀ a b, (g a b).1 = q a) : ∀ (as : List α) (bs : List β), as.length = bs.length → (List.zipWith g as bs).map (·.1) = as.map q
  | [], [], _ => rfl
  | a :: as, b :: bs, h => by
    rw [List.zipWith_cons_cons, List.map_cons, List.map_cons, e, zip_keys2 g q e as bs (by simpa using h)]
  | [], _ :: _, h => by simp at h
  | _ :: _, [], h => by simp at h
theorem table_nd {cs : List CD} {sv : List V} (h : (cs.map (·.nm)).Nodup) (l : sv.length = cs.length) : ((tableV cs sv).map (·.1)).Nodup := by
  have := inr_nodup h
  rw [List.map_map] at this
  unfold tableV
  rw [zip_keys2 _ (fun c => Sum.inr c.nm) (fun _ _ => rfl) _ _ l.symm]
  exact this
theorem sorts_at {fs : List FD} {i : Nat} {f : FD} (h : fs[i]? = some f) : (sortsV fs)[i]? = some (.inr f.nm, .str (sortS f.many)) := by
  unfold sortsV
  rw [List.getElem?_map, h]
  rfl
theorem spots_at {fs : List FD} {i : Nat} {f : FD} (h : fs[i]? = some f) : (spotsV fs)[i]? = some (.inr f.nm, .int (i : Nat)) := by
  unfold spotsV
  have hi := (List.getElem?_eq_some_iff.mp h).1
  rw [List.getElem?_zipWith, h, List.getElem?_range hi]
theorem table_at {cs : List CD} {sv : List V} {i : Nat} {c : CD} {v : V} (h : cs[i]? = some c) (hv : sv[i]? = some v) : (tableV cs sv)[i]? = some (.inr c.nm, v) := by
  unfold tableV
  rw [List.getElem?_zipWith, h, hv]
theorem sorts_len (fs : List FD) : (sortsV fs).length = fs.length := List.length_map ..
theorem spots_len (fs : List FD) : (spotsV fs).length = fs.length := by
  unfold spotsV
  rw [List.length_zipWith, List.length_range, Nat.min_self]
theorem table_len {cs : List CD} {sv : List V} (l : sv.length = cs.length) : (tableV cs sv).length = cs.length := by
  unfold tableV
  rw [List.length_zipWith, l, Nat.min_self]
/-- a new list -/
def LsN (H0 H : Hp) (v : V) (xs : List V) : Prop := ∃ a, v = .ref a ∧ H0 a = none ∧ H a = some (.lst xs)
theorem LsN.ls {H0 H : Hp} {v : V} {xs : List V} (h : LsN H0 H v xs) : Ls H v xs := by
  obtain ⟨a, e, _, h⟩ := h
  exact ⟨a, e, h⟩
theorem LsN.keep {H0 H H' : Hp} {v : V} {xs : List V} (e : Same H H') (h : LsN H0 H v xs) : LsN H0 H' v xs := by
  obtain ⟨a, r, n, h⟩ := h
  exact ⟨a, r, n, e _ _ h⟩
theorem LsN.off {H0 H : Hp} {v : V} {xs : List V} {d : Addr} {o : HO} (h : LsN H0 H v xs) (hd : H0 d = some o) : LsN H0 (Off d H) v xs := by
  obtain ⟨a, r, n, h⟩ := h
  exact ⟨a, r, n, (off_ne (fun e => by rw [e, hd] at n; cases n)).trans h⟩
/-- a drawn call whose lists are new -/
def CdN (K : PySem.W.Frag) (H0 H : Hp) (v : V) (c : CD) : Prop := ∃ m d s ds, Tu K H v [.str c.nm, .str c.hand, m, d, s] ∧ LsN H0 H m (c.moves.map V.int) ∧ LsN H0 H d ds ∧ Al (DeT K H) ds c.deeds ∧ LsN H0 H s (c.same.map V.str)
theorem CdN.l {K : PySem.W.Frag} {H0 H : Hp} {v : V} {c : CD} (h : CdN K H0 H v c) : CdL K H v c := by
  obtain ⟨m, d, s, ds, h1, h2, h3, h4, h5⟩ := h
  exact ⟨m, d, s, ds, h1, h2.ls, h3.ls, h4, h5.ls⟩
theorem CdN.off {K : PySem.W.Frag} {H0 H : Hp} {v : V} {c : CD} {d : Addr} {xs ys : List V} (h : CdN K H0 H v c) (h0 : H0 d = some (.lst xs)) (hd : H d = some (.lst ys)) : CdN K H0 (Off d H) v c := by
  obtain ⟨m, dv, s, ds, h1, h2, h3, h4, h5⟩ := h
  exact ⟨m, dv, s, ds, h1.off hd no_lst, h2.off h0, h3.off h0, h4.mono fun _ _ h => Tu.off h hd no_lst, h5.off h0⟩
end MK
set_option Elab.async false
set_option linter.all false
set_option autoImplicit false
set_option maxRecDepth 100000
set_option maxHeartbeats 400000
namespace MK
open PySem PySem.Spec PyProof.Rows L2
def rInOwn (C : Addr) (sp : Sp) (neg : Bool) : R2 := fun x y H Q => ∃ a dx fs, y = .ref a ∧ H a = some (.ins C dx fs) ∧ sp [y, x] H (fun v H' => ∃ b, v = .bl b ∧ Q (.bl (if neg then !b else b)) H') E0
section
variable {X : Cx} {C f : Addr} {fd : FuncData} {ps : List Str} {k : Nat} {sp : Sp}
theorem op_notInOwn (F : FnOk X.prog X.w X.K X.mg X.base CX0 k f fd ps sp) (hs : PySem.W.findIn X.K (.ref C) "__contains__" = some (some (.ref f))) (hf : PySem.W.isFn X.K (.ref f) = true) (hb : Binds X.K fd ps []) (hr : Room k X.A) : OpR X (compareOp .NotIn) (rInOwn C sp true) := by
  intro pins s σ H x y v u Q I rx ry ⟨a, dx, fs, ey, ha, h⟩
  subst ey
  cases ry
  obtain ⟨mA, J, _⟩ := ins_get I.hok ha
  obtain ⟨od, J, _⟩ := J.look
  obtain ⟨m, hF⟩ := I.fr
  refine PySem.W.notIn_K hF I.ok.mod.kin J hs hf ?_
  have r2 : Vals [V.ref a, x] [Value.ref a, v] := .cons rfl (.cons rx .nil)
  refine thn (run_fn F hr hb .nil pass0 I r2 h) fun w s1 ⟨z, H1, I1, rz, b, ez, q⟩ => ?_
  subst ez
  cases rz
  exact wpAny_truthy_bool ⟨.bl (!b), H1, I1, rfl, q⟩
end
end MK
set_option Elab.async false
set_option linter.all false
set_option autoImplicit false
set_option maxRecDepth 100000
set_option maxHeartbeats 400000
namespace MK
open PySem PySem.Spec PyProof.Rows L2
theorem dp_map {α : Type} {K : PySem.W.Frag} {H : Hp} {R : V → α → Prop} {g : α → PyData} (h : ∀ x y, R x y → Dp K H x (g y)) : ∀ {xs : List V} {ys : List α}, Al R xs ys → DpAll K H xs (ys.map g)
  | [], [], _ => .nil
  | [], _ :: _, e => by cases e.1
  | _ :: _, [], e => by cases e.1
  | x :: xs, y :: ys, e => .cons (h x y (e.2 0 x y rfl rfl)) (dp_map h ⟨Nat.succ.inj e.1, fun i u v h1 h2 => e.2 (i + 1) u v h1 h2⟩)
theorem lay_map {α : Type} {g : α → PyData} : ∀ (ys : List α), (∀ y ∈ ys, PyData.canLay0 (g y) = true) → PyData.canLayAll0 (ys.map g) = true
  | [], _ => rfl
  | y :: ys, h => by
    rw [List.map_cons]
    unfold PyData.canLayAll0
    rw [h y (List.mem_cons_self ..), Bool.true_and]
    exact lay_map ys fun z hz => h z (List.mem_cons_of_mem _ hz)
theorem depth_map {α : Type} {g : α → PyData} {d : Nat} (h : ∀ y, PyData.depth (g y) ≤ d) : ∀ (ys : List α), PyData.depthAll (ys.map g) ≤ d
  | [] => Nat.zero_le _
  | y :: ys => by
    rw [List.map_cons]
    unfold PyData.depthAll
    exact Nat.max_le.mpr ⟨h y, depth_map h ys⟩
theorem eqv_map {α : Type} [DecidableEq α] {g : α → PyData} (h : ∀ x y, PyData.eqv (g x) (g y) = decide (x = y)) : ∀ (xs ys : List α), PyData.eqvAll (xs.map g) (ys.map g) = decide (xs = ys)
  | [], [] => rfl
  | [], _ :: _ => rfl
  | _ :: _, [] => rfl
  | x :: xs, y :: ys => by
    rw [List.map_cons, List.map_cons]
    unfold PyData.eqvAll
    rw [h x y, eqv_map h xs ys, Bool.eq_iff_iff]
    simp
def pdF (f : FD) : PyData := .tuple [.str f.nm, .str (sortS f.many), .bool f.need]
def pdD (d : Str × Str) : PyData := .tuple [.str d.1, .str d.2]
def pdC (c : CD) : PyData := .tuple [.str c.nm, .str c.hand, .tuple (c.moves.map PyData.int), .tuple (c.deeds.map pdD), .tuple (c.same.map PyData.str)]
theorem dp_f {K : PySem.W.Frag} {H : Hp} {v : V} {f : FD} (h : FdT K H v f) : Dp K H v (pdF f) := by
  obtain ⟨a, rfl, h⟩ := h
  exact .tup h (.cons (.str _) (.cons (.str _) (.cons (.bl _) .nil)))
theorem dp_d {K : PySem.W.Frag} {H : Hp} {v : V} {d : Str × Str} (h : DeT K H v d) : Dp K H v (pdD d) := by
  obtain ⟨a, rfl, h⟩ := h
  exact .tup h (.cons (.str _) (.cons (.str _) .nil))
theorem dp_ints {K : PySem.W.Frag} {H : Hp} : ∀ zs : List Int, DpAll K H (zs.map V.int) (zs.map PyData.int)
  | [] => .nil
  | z :: zs => .cons (.int z) (dp_ints zs)
theorem dp_c {K : PySem.W.Frag} {H : Hp} {v : V} {c : CD} (h : CdT K H v c) : Dp K H v (pdC c) := by
  obtain ⟨m, d, s, ds, ⟨a, rfl, h1⟩, ⟨b, rfl, h2⟩, ⟨e, rfl, h3⟩, h4, ⟨g, rfl, h5⟩⟩ := h
  exact .tup h1 (.cons (.str _) (.cons (.str _) (.cons (.tup h2 (dp_ints _)) (.cons (.tup h3 (dp_map (fun _ _ h => dp_d h) h4)) (.cons (.tup h5 (dp_strs _)) .nil)))))
theorem sort_inj {a b : Bool} (h : sortS a = sortS b) : a = b := by
  cases a <;> cases b <;> first | rfl | exact absurd h (by decide)
theorem eqv_f (f g : FD) : PyData.eqv (pdF f) (pdF g) = decide (f = g) := by
  obtain ⟨n1, m1, d1⟩ := f
  obtain ⟨n2, m2, d2⟩ := g
  rw [Bool.eq_iff_iff, decide_eq_true_iff]
  simp only [pdF, PyData.eqv, PyData.eqvAll, Bool.and_eq_true, beq_iff_eq, Bool.true_and, Bool.and_true, FD.mk.injEq]
  constructor
  · rintro ⟨h1, h2, h3⟩
    exact ⟨h1, sort_inj h2, h3⟩
  · rintro ⟨h1, h2, h3⟩
    exact ⟨h1, by rw [h2], h3⟩
theorem eqv_d (c d : Str × Str) : PyData.eqv (pdD c) (pdD d) = decide (c = d) := by
  obtain ⟨n1, m1⟩ := c
  obtain ⟨n2, m2⟩ := d
  rw [Bool.eq_iff_iff, decide_eq_true_iff]
  simp only [pdD, PyData.eqv, PyData.eqvAll, Bool.and_eq_true, beq_iff_eq, Bool.and_true, Prod.mk.injEq]
theorem eqv_ints (x y : Int) : PyData.eqv (.int x) (.int y) = decide (x = y) := by
  rw [Bool.eq_iff_iff, decide_eq_true_iff]
  simp only [PyData.eqv, beq_iff_eq]
theorem eqv_strs (x y : Str) : PyData.eqv (.str x) (.str y) = decide (x = y) := by
  rw [Bool.eq_iff_iff, decide_eq_true_iff]
  simp only [PyData.eqv, beq_iff_eq]
theorem eqv_c (c d : CD) : PyData.eqv (pdC c) (pdC d) = decide (c = d) := by
  obtain ⟨n1, h1, m1, d1, s1⟩ := c
  obtain ⟨n2, h2, m2, d2, s2⟩ := d
  rw [Bool.eq_iff_iff, decide_eq_true_iff]
  simp only [pdC, PyData.eqv, PyData.eqvAll, Bool.and_eq_true, beq_iff_eq, Bool.and_true, CD.mk.injEq, eqv_map eqv_ints, eqv_map eqv_d, eqv_map eqv_strs, decide_eq_true_iff]
end MK
set_option Elab.async false
set_option linter.all false
set_option autoImplicit false
set_option maxRecDepth 100000
set_option maxHeartbeats 400000
namespace MK
open PySem PySem.Spec PyProof.Rows L2
theorem word_ok {z : Str} (h : wordB z = true) : PyData.strOk z = true := by
  unfold wordB at h
  have h2 := (Bool.and_eq_true_iff.mp h).2
  unfold PyData.strOk
  rw [← Array.all_toList, List.all_eq_true]
  intro c hc
  have := (List.all_eq_true.mp h2) c hc
  unfold letterB at this
  have h3 := of_decide_eq_true (Bool.and_eq_true_iff.mp this).2
  exact decide_eq_true (by omega)
theorem sort_ok (b : Bool) : PyData.strOk (sortS b) = true := by cases b <;> decide +kernel
theorem hand_ok {z : Str} (h : z = "self" ∨ z = "new" ∨ z = "last") : PyData.strOk z = true := by
  rcases h with rfl | rfl | rfl <;> decide +kernel
theorem deed_ok {z : Str} {b : Bool} (h : b ∈ deedSorts z) : PyData.strOk z = true := by
  unfold deedSorts at h
  split at h
  · rename_i e; rw [e]; decide +kernel
  split at h
  · rename_i e; rw [e]; decide +kernel
  split at h
  · rename_i e; rw [e]; decide +kernel
  split at h
  · rename_i e; rw [e]; decide +kernel
  split at h
  · rename_i e; rw [e]; decide +kernel
  · cases h
theorem lay_f {f : FD} (h : wordB f.nm = true) : PyData.canLay0 (pdF f) = true := by
  simp only [pdF, PyData.canLay0, PyData.canLayAll0, word_ok h, sort_ok, Bool.and_true]
theorem ints_lay : ∀ zs : List Int, PyData.canLayAll0 (zs.map PyData.int) = true := fun zs => lay_map zs fun _ _ => rfl
theorem lay_c {fs : List FD} {n : Nat} {c : CD} (fok : FsOk fs) (h : CdOk fs n c) : PyData.canLay0 (pdC c) = true := by
  have w : ∀ z ∈ c.same, PyData.strOk z = true := fun z hz => by
    obtain ⟨f, hf, rfl, _⟩ := h.same z hz
    exact word_ok (fok.word f hf)
  have d : ∀ e ∈ c.deeds, PyData.canLay0 (pdD e) = true := fun e he => by
    obtain ⟨f, hf, e2, hd⟩ := h.deed e he
    have h2 : PyData.strOk e.2 = true := by
      rw [← e2]
      exact word_ok (fok.word f hf)
    simp only [pdD, PyData.canLay0, PyData.canLayAll0, deed_ok hd, h2, Bool.and_true]
  simp only [pdC, PyData.canLay0, PyData.canLayAll0, word_ok h.word, hand_ok h.hand, ints_lay, lay_map c.deeds d, strs_lay c.same w, Bool.and_true]
theorem depth_f (f : FD) : PyData.depth (pdF f) ≤ 1 := by
  simp only [pdF, PyData.depth, PyData.depthAll]
  decide
theorem depth_d (d : Str × Str) : PyData.depth (pdD d) ≤ 1 := by
  simp only [pdD, PyData.depth, PyData.depthAll]
  decide
theorem ints_depth (zs : List Int) : PyData.depthAll (zs.map PyData.int) ≤ 0 := depth_map (g := PyData.int) (d := 0) (fun _ => by unfold PyData.depth; exact Nat.le_refl _) zs
theorem depth_c (c : CD) : PyData.depth (pdC c) ≤ 4 := by
  have h1 := ints_depth c.moves
  have h2 := depth_map depth_d c.deeds
  have h3 := strs_depth c.same
  simp only [pdC, PyData.depth, PyData.depthAll]
  omega
theorem shaped_fs {fs : List FD} (h : FsOk fs) : SeqAt.shaped (.tuple (fs.map pdF)) = true := by
  have h1 := lay_map fs fun f hf => lay_f (h.word f hf)
  have h2 := depth_map depth_f fs
  unfold SeqAt.shaped
  rw [show PyData.canLay0 (.tuple (fs.map pdF)) = true by unfold PyData.canLay0; exact h1, decide_eq_true (by unfold PyData.depth; omega)]
  rfl
theorem shaped_cs {fs : List FD} {n : Nat} {cs : List CD} (fok : FsOk fs) (h : ∀ c ∈ cs, CdOk fs n c) : SeqAt.shaped (.tuple (cs.map pdC)) = true := by
  have h1 := lay_map cs fun c hc => lay_c fok (h c hc)
  have h2 := depth_map depth_c cs
  unfold SeqAt.shaped
  rw [show PyData.canLay0 (.tuple (cs.map pdC)) = true by unfold PyData.canLay0; exact h1, decide_eq_true (by unfold PyData.depth; omega)]
  rfl
theorem eqv_fs (fs gs : List FD) : PyData.eqv (.tuple (fs.map pdF)) (.tuple (gs.map pdF)) = decide (fs = gs) := by
  unfold PyData.eqv
  exact eqv_map eqv_f fs gs
theorem eqv_cs (cs ds : List CD) : PyData.eqv (.tuple (cs.map pdC)) (.tuple (ds.map pdC)) = decide (cs = ds) := by
  unfold PyData.eqv
  exact eqv_map eqv_c cs ds
theorem dp_fs {K : PySem.W.Frag} {H : Hp} {v : V} {tv : List V} {fs : List FD} (h : Tu K H v tv) (al : Al (FdT K H) tv fs) : Dp K H v (.tuple (fs.map pdF)) := by
  obtain ⟨a, rfl, h⟩ := h
  exact .tup h (dp_map (fun _ _ h => dp_f h) al)
theorem dp_cs {K : PySem.W.Frag} {H : Hp} {v : V} {tv : List V} {cs : List CD} (h : Tu K H v tv) (al : Al (CdT K H) tv cs) : Dp K H v (.tuple (cs.map pdC)) := by
  obtain ⟨a, rfl, h⟩ := h
  exact .tup h (dp_map (fun _ _ h => dp_c h) al)
end MK
set_option Elab.async false
set_option linter.all false
set_option autoImplicit false
set_option maxRecDepth 100000
set_option maxHeartbeats 400000
namespace MK
open PySem PySem.Spec PyProof.Rows L2
def rEqOwn (C : Addr) (sp : Sp) : R2 := fun x y H Q => ∃ a dx fs b dy gs, x = .ref a ∧ y = .ref b ∧ H a = some (.ins C dx fs) ∧ H b = some (.ins C dy gs) ∧ sp [x, y] H (fun v H' => ∃ r, v = .bl r ∧ Q v H') E0
theorem op_eqOwn {X : Cx} {C f : Addr} {fd : FuncData} {ps : List Str} {k : Nat} {sp : Sp} (F : FnOk X.prog X.w X.K X.mg X.base CX0 k f fd ps sp) (hs : PySem.W.findIn X.K (.ref C) "__eq__" = some (some (.ref f))) (hf : PySem.W.isFn X.K (.ref f) = true) (hb : Binds X.K fd ps []) (hr : Room k X.A) :
    OpR X (compareOp .Eq) (rEqOwn C sp) := by
  intro pins s σ H x y v u Q I rx ry ⟨a, dx, fs, b, dy, gs, ex, ey, ha, hb', h⟩
  subst ex
  subst ey
  cases rx
  cases ry
  obtain ⟨mA, J, _⟩ := ins_get I.hok ha
  obtain ⟨mB, J', _⟩ := ins_get I.hok hb'
  obtain ⟨od, J, _⟩ := J.look
  obtain ⟨od', J', _⟩ := J'.look
  obtain ⟨m, hF⟩ := I.fr
  refine PySem.W.cmp_K (op := .Eq) (tb := .ref C) hr.units0 hF I.ok.mod.kin J J'.type (by simp [PySem.W.notFirst]) hs hf ?_
  have r2 : Vals [V.ref a, V.ref b] [Value.ref a, Value.ref b] := .cons rfl (.cons rfl .nil)
  refine thn (run_fn F hr hb .nil pass0 I r2 h) fun w s1 ⟨z, H1, I1, rz, r, ez, q⟩ => ?_
  subst ez
  cases rz
  exact ⟨.bl r, H1, I1, rfl, q⟩
end MK
set_option Elab.async false
set_option linter.all false
set_option autoImplicit false
set_option maxRecDepth 100000
set_option maxHeartbeats 400000
namespace PySem.W
open PySem PySem.Spec PySem.Calls PyProof.Rows
section
variable {prog : Program} {w : World} {A : Around} {E : Value → Shared → Prop} {s : Shared} {K : Frag} {x C f : Addr} {ox : Obj} {od : Option Obj} {h₀ : Heap} {L : Addr} {m : Str → Option Value} {b tb : Value}
theorem ne_ownK {Q : Value → Shared → Prop} (hu : A.units + 1 < cLine) (Fh : Fr h₀ L s.heap m) (X₀ : K.In h₀) (I : InstAt s.heap x ox C od) (hb : Looks (model prog w) s.heap (typeOf b) tb) (hn : notFirst K C tb = true)
    (hs : findIn K (.ref C) "__ne__" = some (some (.builtin "object.__ne__"))) (he : findIn K (.ref C) "__eq__" = some (some (.ref f))) (hf : isFn K (.ref f) = true) (ho : subIn K (.ref C) (.type "object") = some true)
    (h : wpAny (model prog w) A.in1 (call (.ref f) [.ref x, b]) (fun v s' => ∃ r, v = .bool r ∧ Q (.bool (!r)) s') E s) : wpAny (model prog w) A (richCompare .NotEq (.ref x) b) Q E s := by
  have X := X₀.keeps Fh.keep
  have entry : wpAny (model prog w) A.in1 (Builtin.«object.__ne__» ⟨[.ref x, b], []⟩) (fun fin s' => ∃ r, fin = .done (.ret (.bool r)) ∧ Q (.bool r) s') E s := by
    unfold Builtin.«object.__ne__»
    refine wpAny_bind (wpAny_of_eq (a := ((Value.ref x : Value), [b])) (by first | rfl | (simp only [slotArgs]; rfl)) ?_)
    refine wpAny_bind (wpAny_cRoomFor hu ?_)
    refine wpAny_bind (ifBound_K X I he hf (wpAny_mono h (fun v s' hv => ?_) fun _ _ e => e))
    obtain ⟨r, rfl, q⟩ := hv
    refine wpAny_bind (wpAny_truthy_bool ?_)
    exact wpAny_pure ⟨_, rfl, q⟩
  have one : wpAny (model prog w) A (tryCompare (.ref x) "__ne__" b) (fun r s' => ∃ v, r = some v ∧ Q v s') E s := by
    unfold tryCompare
    refine wpAny_bind ?_
    simp only [callSpecialIfBound?, bindSpecialIfBound?]
    refine wpAny_holding (wpAny_bind (wpAny_bind (wpAny_bind (I.type.here ((looks_findIn X hs).here ?_)))))
    simp only [PySem.F.cmp_object.ne.bind]
    refine wpAny_bind (wpAny_askSetting (wpAny_ite ?_))
    have fin : wpAny (model prog w) A (call (.builtin "object.__ne__") ([.ref x] ++ [b]) >>= fun v => pure (some v)) (fun r s' => wpAny (model prog w) A (match r with
      | some .notImplemented | none => pure none
      | some r => pure (some r) : Sem (Option Value)) (fun r s' => ∃ v, r = some v ∧ Q v s') E s') E s := by
      refine wpAny_bind (wpAny_call (codeAny_call_builtin PySem.F.cmp_object.ne.plain PySem.F.cmpEntry_ne ?_))
      refine check_slot PySem.F.cmpKind_ne PySem.F.cmpSplit_ne (I.type.andThen (looks_subIn X ho)) (PySem.F.cmpArgs_ne _ _) ?_
      refine wpAny_mono entry (fun fin s' hv => ?_) fun _ _ e => e
      obtain ⟨r, rfl, q⟩ := hv
      exact wpAny_pure (wpAny_pure ⟨_, rfl, q⟩)
    split
    · exact wpAny_bind (wpAny_pure (wpAny_pure fin))
    · exact wpAny_tryCatch (wpAny_bind (wpAny_pure (wpAny_pure fin)))
  unfold richCompare
  simp only [oneThing_ref]
  refine wpAny_holding (wpAny_bind (wpAny_cRoomFor (Nat.lt_of_succ_lt hu) ?_))
  refine wpAny_bind (I.type.here (wpAny_bind (hb.here ?_)))
  split
  · rename_i q
    have e : subIn K tb (.ref C) = some false := by
      rcases Bool.or_eq_true_iff.mp hn with e | e
      · rw [beq_iff_eq.mp e] at q; simp at q
      · exact beq_iff_eq.mp e
    refine wpAny_bind ((looks_subIn X e).here ?_)
    simp only [Bool.false_eq_true, if_false]
    refine wpAny_bind (wpAny_mono one (fun r s' z => ?_) fun _ _ e => e)
    obtain ⟨v, rfl, hq⟩ := z
    exact wpAny_pure hq
  · refine wpAny_bind (wpAny_pure ?_)
    simp only [Bool.false_eq_true, if_false]
    refine wpAny_bind (wpAny_mono one (fun r s' z => ?_) fun _ _ e => e)
    obtain ⟨v, rfl, hq⟩ := z
    exact wpAny_pure hq
end
end PySem.W
namespace MK
open PySem PySem.Spec PyProof.Rows L2
def rNeOwn (C : Addr) (sp : Sp) : R2 := fun x y H Q => ∃ a dx fs b dy gs, x = .ref a ∧ y = .ref b ∧ H a = some (.ins C dx fs) ∧ H b = some (.ins C dy gs) ∧ sp [x, y] H (fun v H' => ∃ r, v = .bl r ∧ Q (.bl (!r)) H') E0
theorem op_neOwn {X : Cx} {C f : Addr} {fd : FuncData} {ps : List Str} {k : Nat} {sp : Sp} (F : FnOk X.prog X.w X.K X.mg X.base CX0 k f fd ps sp) (hn : PySem.W.findIn X.K (.ref C) "__ne__" = some (some (.builtin "object.__ne__"))) (hs : PySem.W.findIn X.K (.ref C) "__eq__" = some (some (.ref f)))
    (hf : PySem.W.isFn X.K (.ref f) = true) (ho : PySem.W.subIn X.K (.ref C) (.type "object") = some true) (hb : Binds X.K fd ps []) (hr : Room (k + 1) X.A) :
    OpR X (compareOp .NotEq) (rNeOwn C sp) := by
  intro pins s σ H x y v u Q I rx ry ⟨a, dx, fs, b, dy, gs, ex, ey, ha, hb', h⟩
  subst ex
  subst ey
  cases rx
  cases ry
  obtain ⟨mA, J, _⟩ := ins_get I.hok ha
  obtain ⟨mB, J', _⟩ := ins_get I.hok hb'
  obtain ⟨od, J, _⟩ := J.look
  obtain ⟨od', J', _⟩ := J'.look
  obtain ⟨m, hF⟩ := I.fr
  refine PySem.W.ne_ownK (tb := .ref C) (by have := hr.un; omega) hF I.ok.mod.kin J J'.type (by simp [PySem.W.notFirst]) hn hs hf ho ?_
  have r2 : Vals [V.ref a, V.ref b] [Value.ref a, Value.ref b] := .cons rfl (.cons rfl .nil)
  have hl : [Value.ref a, Value.ref b].length = ps.length := by rw [← r2.length]; exact F.len _ _ _ _ h
  refine wpAny_call (codeAny_mono (F.run X.A.in1 X.stack s H ⟨[.ref a, .ref b], []⟩ _ _ _ E0 hr.in1 I.env0.in1 (by have := hb s [.ref a, .ref b] I.kIn (by rw [List.append_nil]; exact hl); rw [List.append_nil] at this; exact this) r2 h) fun r s' hq => ?_)
  cases r with
  | error e => exact False.elim hq
  | ok fl =>
    cases fl with
    | ret u =>
      obtain ⟨v, H1, I1, rz, r, ez, q⟩ := I.after hq
      subst ez
      cases rz
      exact ⟨r, rfl, .bl (!r), H1, I1, rfl, q⟩
    | next => exact False.elim hq
    | brk => exact False.elim hq
    | cont => exact False.elim hq
end MK
set_option Elab.async false
set_option linter.all false
set_option autoImplicit false
set_option maxRecDepth 100000
set_option maxHeartbeats 400000
namespace PySem.SeqAt
open AutoSeq1 (wpAny_loadPart')
open MeetsSeq MeetsSeq2 MeetsSeq3 SeqRoads2
end PySem.SeqAt
set_option Elab.async false
set_option linter.all false
set_option autoImplicit false
set_option maxRecDepth 100000
set_option maxHeartbeats 1000000
namespace MK
open PySem PySem.Spec PyProof.Rows L2
/-- what is promised of a def called with a caught error at p.1, of the class cls with the dict d -/
abbrev SpP := Addr → Value → Option Addr → Sp
structure FnP (P : Program) (w : World) (K : PySem.W.Frag) (mg : Str → Option Value) (base : Heap) (k : Nat) (f : Addr) (fd : FuncData) (ps : List Str) (sp : SpP) : Prop where
  len : ∀ a cls d vs H Q, sp a cls d vs H Q E0 → vs.length = ps.length
  run : ∀ (A : Around) (outer : List Env) (s : Shared) (H : Hp) (args : Args) (us : List Value) (vs : List V) (Q : VK) (p : Addr × Obj) (cls : Value) (d : Option Addr), L2H.RoomH k A → L2H.PinOk outer H s p → Zc cls d p.2 → (∃ fs, p.2.data = .fields fs) →
    Env0 P w K mg base A outer s H → BindsTo s fd args (ps.zip us) → Vals vs us → sp p.1 cls d vs H Q E0 → codeAny (model P w) A (.call (.ref f) args) (CR CX0 outer P w H s Q E0) s
theorem fnP_of {P : Program} {w : World} {K : PySem.W.Frag} {mg : Str → Option Value} {base : Heap} {k : Nat} {x : Str} {st : Stmt} {f : Addr} {fd : FuncData} {N ps : List Str} {sp : SpP} (F : DefX K mg x st ps f fd) (S : FnScope N ps (defScope st))
    (len : ∀ a cls d vs H Q, sp a cls d vs H Q E0 → vs.length = ps.length)
    (hbody : ∀ (cdv : Value) (A : Around) (outer : List Env) (s : Shared) (H : Hp) (vs : List V) (Q : VK) (a : Addr) (oe : Obj) (cls : Value) (d : Option Addr), Zc cls d oe → (∃ fs, oe.data = .fields fs) → L2H.RoomH k (A.deeper (envOfC x (defScope st) s.heap.objs.size f cdv)) → sp a cls d vs H Q E0 →
      ∃ t, PSs (L2H.cxH CX0 P w K mg base N x (defScope st) f cdv A outer s H E0 (a, oe)) (defBody st) t ∧ t { nx := fun _ H' => Q .non H', rt := Q } (L2.start N vs) H) : FnP P w K mg base (k + 1) f fd ps sp := by
  obtain ⟨oc, od, kV, doc, pm, an, cdv, ct, osl, rfl, lk, hcd⟩ := F.fn.ex
  refine ⟨len, fun A outer s H args us vs Q p cls d hr hpin hz hf e0 hb r hsp => ?_⟩
  have vl := len _ _ _ _ _ _ hsp
  have kin := e0.mod.kin.keeps fun b o e => (e0.bs b o e).1
  have lim := e0.mod.nolimit.keeps fun b o e => (e0.bs b o e).1
  refine codeAny_call_function hr.depth (kin _ _ lk) rfl S.co S.gen rfl (PySem.W.codeRec_of kin hcd) (hb _ _ _ _ (wpAny_newFunctionEnv_cells S.kind (fun ⟨n, v⟩ hy => ?_) fun env he s1 x1 => ?_))
  · exact (S.par n (List.of_mem_zip hy).1).imp id fun q => ⟨q, PySem.W.cellsFrom_some _ _ _ (.inl q)⟩
  subst he
  refine ⟨lim.keeps x1.toInCall.keep, codeAny_func ?_⟩
  obtain ⟨t, ht, hq⟩ := hbody cdv A outer s H vs Q p.1 p.2 cls d hz hf (hr.deeper _) hsp
  have I := L2H.inv_startH (CX := CX0) (E := E0) (N := N) (f := f) (cd := cdv) (qual := x) S hpin e0 vl r x1
  have fin : ∀ {σ' : L2.St} {H' : Hp} {v : V} {u : Value} {s' : Shared}, Inv (L2H.cxH CX0 P w K mg base N x (defScope st) f cdv A outer s H E0 p) [] σ' H' s' → RelV v u → Q v H' → CE outer P w H s Q u s' :=
    fun J rv q => ⟨_, _, J.os, J.bare, J.base, J.hok, rv, q⟩
  refine wpAny_mono (ht.run [] s1 (L2.start N vs) H _ I hq) (fun fl s' hs => ?_) fun e s' hs => hs
  cases fl with
  | ret u => obtain ⟨v, σ', H', J, rv, q⟩ := hs; exact fin J rv q
  | next => obtain ⟨σ', H', J, q⟩ := hs; exact fin (v := V.non) (u := Value.none) J rfl q
  | brk => obtain ⟨_, _, _, q⟩ := hs; exact q.elim
  | cont => obtain ⟨_, _, _, q⟩ := hs; exact q.elim
/-- f(e), e the caught error -/
def tCallP (sp : SpP) (a : Addr) (cls : Value) (d : Option Addr) (ta : TA) : TE := fun σ H Q => ta σ H fun vs H1 => sp a cls d vs H1 Q E0
theorem pe_callP {X : Cx} {a : Addr} {oe : Obj} {cls : Value} {d : Option Addr} {k : Nat} {f : Addr} {fd : FuncData} {ps : List Str} {sp : SpP} {x : Str} {p pos : Pos} {e : Expr} {es : List Expr} {ta : TA} (hp : (a, oe) ∈ X.pn) (hz : Zc cls d oe) (hf : ∃ vs, oe.data = .fields vs)
    (F : FnP X.prog X.w X.K X.mg X.base k f fd ps sp) (hr : L2H.RoomH k X.A) (hg : Gl X x) (hm : X.mg x = some (.ref f)) (hk : PySem.W.keepIn X.K (.ref f) = true) (hb : Binds X.K fd ps []) (ha : PA X (e :: es) ta)
    (hdb : (x == ("__debug__" : Str)) = false := by decide) (he : starEach (e :: es) X.env = (false, eval e X.env) :: starEach es X.env := by rfl) (hpl : (backTo pos (starEach es X.env)).any (·.1) = false := by rfl) :
    PE X (.Call (.Name x p) (e :: es) [] pos) (tCallP sp a cls d ta) := by
  refine ⟨fun pins s σ H Q I h => wpAny_Call_Name_kw (ld_glob I hg hm (PySem.W.callWith_K (h₀ := X.base) I.ok.mod.kin hk (thn (ha.run pos pins s σ H _ I h) fun us s1 hh => ?_) he hpl) hdb)⟩
  obtain ⟨vs, H1, I1, r, q⟩ := hh
  refine ⟨I1.kIn, wpAny_call (codeAny_mono (F.run X.A X.stack s1 H1 ⟨us, []⟩ us vs Q (a, oe) cls d hr ?_ hz hf I1.env0 ?_ r q) fun z s' hq => ?_)⟩
  · have P1 := I1.pin (a, oe) (List.mem_append_left _ hp)
    exact ⟨P1.1, P1.2.1, fun z => (List.mem_cons.mp (I1.stkSub a z)).elim P1.2.2.1 P1.2.2.2.1, P1.2.2.2.2⟩
  · have hl : us.length = ps.length := r.length.symm.trans (F.len _ _ _ _ _ _ q)
    have b := hb s1 us I1.kIn (by rw [List.append_nil]; exact hl)
    rwa [List.append_nil] at b
  · cases z with
    | error e => exact False.elim hq
    | ok fl => cases fl with
      | ret u => exact I1.after hq
      | next => exact False.elim hq
      | brk => exact False.elim hq
      | cont => exact False.elim hq
end MK
set_option Elab.async false
set_option linter.all false
set_option autoImplicit false
set_option maxRecDepth 100000
set_option maxHeartbeats 400000
namespace MK
open PySem PySem.Spec PyProof.Rows L2
def Nt (H : Hp) : Hp := fun b => match H b with
  | some (.tbl _) => none
  | x => x
theorem nt_of {H : Hp} {b : Addr} {o : HO} (h : H b = some o) (n : ∀ ps, o ≠ .tbl ps) : Nt H b = some o := by
  unfold Nt
  rw [h]
  cases o <;> first | rfl | exact absurd rfl (n _)
theorem nt_get {H : Hp} {b : Addr} {o : HO} (h : Nt H b = some o) : H b = some o ∧ ∀ ps, o ≠ .tbl ps := by
  unfold Nt at h
  split at h
  · cases h
  · rename_i e
    exact ⟨h, fun ps z => e ps (by rw [h, z])⟩
/-- what is told of H, but of s and of tables -/
abbrev Nx (s : Addr) (H : Hp) : Hp := Nt (Off s H)
section
variable {K : PySem.W.Frag} {H : Hp} {v : V} {xs : List V}
theorem sqt_nt {a : Addr} (h : SqT K H a xs) : SqT K (Nt H) a xs := by
  rcases h with ⟨h | ⟨o, h⟩⟩ | h
  · exact .inl (.inl (nt_of h nofun))
  · exact .inl (.inr ⟨o, nt_of h nofun⟩)
  · exact .inr h
theorem Tu.nt (h : Tu K H v xs) : Tu K (Nt H) v xs := by
  obtain ⟨a, r, h⟩ := h
  exact ⟨a, r, sqt_nt h⟩
theorem Ls.nt (h : Ls H v xs) : Ls (Nt H) v xs := by
  obtain ⟨a, r, h⟩ := h
  exact ⟨a, r, nt_of h nofun⟩
theorem CdT.nt {c : CD} (h : CdT K H v c) : CdT K (Nt H) v c := by
  obtain ⟨m, d, s, ds, h1, h2, h3, h4, h5⟩ := h
  exact ⟨m, d, s, ds, h1.nt, h2.nt, h3.nt, h4.mono fun _ _ h => Tu.nt h, h5.nt⟩
theorem CdL.nt {c : CD} (h : CdL K H v c) : CdL K (Nt H) v c := by
  obtain ⟨m, d, s, ds, h1, h2, h3, h4, h5⟩ := h
  exact ⟨m, d, s, ds, h1.nt, h2.nt, h3.nt, h4.mono fun _ _ h => Tu.nt h, h5.nt⟩
theorem KdA.nt {KC : Addr} {fs : List FD} {n : Nat} {cs : List CD} (h : KdA K KC H v fs n cs) : KdA K KC (Nt H) v fs n cs := by
  obtain ⟨x, dx, so, sp, tb, t, st, tv, sv, h0, h1, h2, h3, h4, h5, h6, h7, h8⟩ := h
  exact ⟨x, dx, so, sp, tb, t, st, tv, sv, h0, nt_of h1 nofun, h2.nt, h3.mono fun _ _ h => Tu.nt h, nt_of h4 nofun, nt_of h5 nofun, h6.nt, h7.mono fun _ _ h => CdT.nt h, nt_of h8 nofun⟩
end
end MK
set_option Elab.async false
set_option linter.all false
set_option autoImplicit false
set_option maxRecDepth 100000
set_option maxHeartbeats 400000
namespace MK
open PySem PySem.Spec PyProof.Rows L2
section
variable {α : Type} {R : V → α → Prop} {xs xs' : List V} {ys ys' : List α}
theorem Al.take (h : Al R xs ys) (i : Nat) : Al R (xs.take i) (ys.take i) := by
  refine ⟨by rw [List.length_take, List.length_take, h.1], fun j x y h1 h2 => ?_⟩
  rw [List.getElem?_take] at h1 h2
  split at h1
  · rename_i q
    rw [if_pos q] at h2
    exact h.2 j x y h1 h2
  · cases h1
theorem Al.append (h : Al R xs ys) (h' : Al R xs' ys') : Al R (xs ++ xs') (ys ++ ys') := by
  refine ⟨by rw [List.length_append, List.length_append, h.1, h'.1], fun j x y h1 h2 => ?_⟩
  by_cases q : j < xs.length
  · rw [List.getElem?_append_left q] at h1
    rw [List.getElem?_append_left (h.1 ▸ q)] at h2
    exact h.2 j x y h1 h2
  · rw [List.getElem?_append_right (by omega)] at h1
    rw [List.getElem?_append_right (by have := h.1; omega)] at h2
    rw [← h.1] at h2
    exact h'.2 _ x y h1 h2
end
end MK
set_option Elab.async false
set_option linter.all false
set_option autoImplicit false
set_option maxRecDepth 100000
set_option maxHeartbeats 1000000
namespace MK
open PySem PySem.Spec PyProof.Rows L2
def strsB : List Str → List Value → Bool
  | [], [] => true
  | z :: zs, .str y _ :: us => decide (y = z) && strsB zs us
  | _, _ => false
theorem strsB_ok : ∀ {zs : List Str} {us : List Value}, strsB zs us = true → Vals (zs.map V.str) us
  | [], [], _ => .nil
  | z :: zs, .str y t :: us, h => by
    obtain ⟨h1, h2⟩ := Bool.and_eq_true_iff.mp (show (decide (y = z) && strsB zs us) = true from h)
    have e := of_decide_eq_true h1
    exact .cons ⟨t, by rw [e]⟩ (strsB_ok h2)
  | [], _ :: _, h => by cases h
  | _ :: _, [], h => by cases h
  | _ :: _, .none :: _, h => by cases h
  | _ :: _, .bool _ :: _, h => by cases h
  | _ :: _, .int _ _ :: _, h => by cases h
  | _ :: _, .ref _ :: _, h => by cases h
  | _ :: _, .type _ :: _, h => by cases h
  | _ :: _, .builtin _ :: _, h => by cases h
  | _ :: _, .notImplemented :: _, h => by cases h
  | _ :: _, .ellipsis :: _, h => by cases h
  | _ :: _, .float _ _ :: _, h => by cases h
def tupB (K : PySem.W.Frag) (a : Addr) (zs : List Str) : Bool := match K.lookup a with
  | some ⟨.type c, _, .seq its _, _⟩ => decide (c = "tuple") && (decide (its.size ≤ 100) && strsB zs its.toList)
  | _ => false
theorem tupB_ok {K : PySem.W.Frag} {a : Addr} {zs : List Str} (h : tupB K a zs = true) (H : Hp) : SqT K H a (zs.map V.str) := by
  unfold tupB at h
  split at h
  · rename_i c d its n sl q
    obtain ⟨h1, h2⟩ := Bool.and_eq_true_iff.mp h
    obtain ⟨h2, h3⟩ := Bool.and_eq_true_iff.mp h2
    have e := of_decide_eq_true h1
    exact .inr ⟨_, its, n, q, by rw [e], rfl, Nat.le_trans (of_decide_eq_true h2) (by decide), strsB_ok h3⟩
  · cases h
theorem keys_none {P : Params} {z : Str} : ∀ {l : List DictEntry} {ks : List Str}, l.map He.keyOf = He.keysIn P ks → z ∉ ks → l.find? (·.key.isStr z) = none ∧ l.any (·.refKey) = false
  | [], _, _, _ => ⟨rfl, rfl⟩
  | e :: r, [], h, _ => by cases h
  | e :: r, k :: ks, h, hz => by
    have h1 : He.keyOf e :: r.map He.keyOf = some (k, PyData.keyHash P k) :: He.keysIn P ks := h
    injection h1 with h2 h3
    obtain ⟨i1, i2⟩ := keys_none h3 fun m => hz (List.mem_cons_of_mem _ m)
    unfold He.keyOf at h2
    split at h2
    · rename_i x t q
      obtain ⟨h5, _⟩ := Prod.mk.inj (Option.some.inj h2)
      have ne : (x == z) = false := by
        rw [beq_eq_false_iff_ne, h5]
        exact fun e => hz (e ▸ List.mem_cons_self)
      constructor
      · rw [List.find?_cons]
        have : e.key.isStr z = false := by rw [q]; exact ne
        rw [this]
        exact i1
      · rw [List.any_cons, i2, Bool.or_false]
        unfold DictEntry.refKey
        rw [q]
    · cases h2
theorem ns_none {K : PySem.W.Frag} {w : World} {a : Addr} {ks : List Str} {z : Str} (h : He.dicW K a = some (He.keysIn w.params ks)) (hz : z ∉ ks) : PySem.W.nsIn K a z = some none := by
  obtain ⟨es, n, D⟩ := He.dicW_ok h
  have e := D.at_
  unfold He.dicW at h
  rw [e] at h
  have h1 : (match decide ((("dict" : String)) = "dict") && ((#[] : Array (Option Value)).isEmpty && !(a == sysModules)) with
    | true => some (es.toList.map He.keyOf)
    | false => none) = some (He.keysIn w.params ks) := h
  rw [D.low] at h1
  obtain ⟨i1, i2⟩ := keys_none (Option.some.inj h1) hz
  unfold PySem.W.nsIn
  rw [e]
  show (match es.toList.find? (·.key.isStr z) with
      | some e => some (some e.val)
      | none => if es.toList.any (·.refKey) then none else some none) = some none
  rw [i1]
  show (if es.toList.any (·.refKey) then none else some none) = some none
  rw [i2]
  rfl
end MK
set_option Elab.async false
set_option linter.all false
set_option autoImplicit false
set_option maxRecDepth 100000
set_option maxHeartbeats 1000000
set_option Elab.async false
set_option linter.all false
set_option autoImplicit false
set_option maxRecDepth 100000
set_option maxHeartbeats 1000000
set_option Elab.async false
set_option linter.all false
set_option autoImplicit false
set_option maxRecDepth 100000
set_option maxHeartbeats 1000000
namespace MK
open PySem PySem.Spec PyProof.Rows L2
def Prim (x : V) : Prop := x = .non ∨ (∃ b, x = .bl b) ∨ (∃ i, x = .int i) ∨ ∃ z, x = .str z
theorem prim_str (z : Str) : Prim (.str z) := .inr (.inr (.inr ⟨z, rfl⟩))
theorem prim_int (i : Int) : Prim (.int i) := .inr (.inr (.inl ⟨i, rfl⟩))
/-- item by item, the addresses one behind another -/
def WL (R : V → List Addr → Prop) : List V → List Addr → Prop
  | [], L => L = []
  | x :: xs, L => ∃ L1 L2, L = L1 ++ L2 ∧ R x L1 ∧ WL R xs L2
theorem WL.mono {R S : V → List Addr → Prop} : ∀ {xs : List V} {L : List Addr}, (∀ x ∈ xs, ∀ M, (∀ b ∈ M, b ∈ L) → R x M → S x M) → WL R xs L → WL S xs L
  | [], _, _, h => h
  | x :: xs, L, f, ⟨M1, M2, e, r, h⟩ => ⟨M1, M2, e, f x List.mem_cons_self M1 (fun b hb => by rw [e]; exact List.mem_append_left _ hb) r,
      h.mono fun y hy M hM => f y (List.mem_cons_of_mem _ hy) M fun b hb => by rw [e]; exact List.mem_append_right _ (hM b hb)⟩
theorem WL.snoc {R : V → List Addr → Prop} : ∀ {xs : List V} {L : List Addr} {x : V} {M : List Addr}, WL R xs L → R x M → WL R (xs ++ [x]) (L ++ M)
  | [], L, x, M, h, r => ⟨M, [], by rw [show L = [] from h]; simp, r, rfl⟩
  | y :: ys, L, x, M, ⟨M1, M2, e, r1, h⟩, r => ⟨M1, M2 ++ M, by rw [e, List.append_assoc], r1, h.snoc r⟩
theorem WL.mem {R : V → List Addr → Prop} : ∀ {xs : List V} {L : List Addr} {b : Addr}, WL R xs L → b ∈ L → ∃ x ∈ xs, ∃ M, R x M ∧ b ∈ M
  | [], L, b, h, hb => by rw [show L = [] from h] at hb; cases hb
  | x :: xs, L, b, ⟨M1, M2, e, r, h⟩, hb => by
    rw [e] at hb
    rcases List.mem_append.mp hb with hb | hb
    · exact ⟨x, List.mem_cons_self, M1, r, hb⟩
    · obtain ⟨y, hy, M, r2, m⟩ := h.mem hb
      exact ⟨y, List.mem_cons_of_mem _ hy, M, r2, m⟩
/-- to depth n, with L the addresses of its lists -/
def W (K : PySem.W.Frag) (H : Hp) : Nat → V → List Addr → Prop
  | 0, x, L => Prim x ∧ L = []
  | n + 1, x, L => (Prim x ∧ L = []) ∨ (∃ a xs Ls, x = .ref a ∧ H a = some (.lst xs) ∧ WL (W K H n) xs Ls ∧ L = a :: Ls ∧ xs.length < 1000) ∨
      (∃ a xs, x = .ref a ∧ SqT K H a xs ∧ WL (W K H n) xs L ∧ xs.length < 1000)
def LstAt (L : List Addr) (H : Hp) : Prop := ∀ b ∈ L, ∃ ys, H b = some (.lst ys)
/-- but for the lists at M all is as it was -/
def Chg (M : List Addr) (H H' : Hp) : Prop := (∀ b o, H b = some o → b ∉ M → H' b = some o) ∧ LstAt M H'
theorem Chg.nil {H H' : Hp} (e : Same H H') : Chg [] H H' := ⟨fun b o h _ => e b o h, nofun⟩
theorem Chg.trans {M N : List Addr} {H H1 H2 : Hp} (a : Chg M H H1) (b : Chg N H1 H2) : Chg (M ++ N) H H2 := by
  refine ⟨fun c o h hc => b.1 c o (a.1 c o h fun z => hc (List.mem_append_left _ z)) fun z => hc (List.mem_append_right _ z), fun c hc => ?_⟩
  by_cases z : c ∈ N
  · exact b.2 c z
  · obtain ⟨ys, h⟩ := a.2 c ((List.mem_append.mp hc).resolve_right z)
    exact ⟨ys, b.1 c _ h z⟩
theorem sqt_chg {K : PySem.W.Frag} {M : List Addr} {H H' : Hp} {a : Addr} {xs : List V} (c : Chg M H H') (l : LstAt M H) (h : SqT K H a xs) : SqT K H' a xs := by
  have no : ∀ {o : HO}, H a = some o → (∀ ys, o ≠ .lst ys) → a ∉ M := fun ha n z => by
    obtain ⟨ys, e⟩ := l a z
    rw [ha] at e
    exact n ys (Option.some.inj e)
  rcases h with (h | ⟨o, h⟩) | h
  · exact .inl (.inl (c.1 _ _ h (no h nofun)))
  · exact .inl (.inr ⟨o, c.1 _ _ h (no h nofun)⟩)
  · exact .inr h
theorem W.chg {K : PySem.W.Frag} {M : List Addr} {H H' : Hp} (c : Chg M H H') (l : LstAt M H) : ∀ {n : Nat} {x : V} {L : List Addr}, W K H n x L → (∀ b ∈ L, b ∉ M) → W K H' n x L
  | 0, _, _, h, _ => h
  | n + 1, _, L, h, d => by
    rcases h with h | ⟨a, xs, Ls, r, ha, hw, e, z⟩ | ⟨a, xs, r, ha, hw, z⟩
    · exact .inl h
    · refine .inr (.inl ⟨a, xs, Ls, r, c.1 _ _ ha (d a (by rw [e]; exact List.mem_cons_self)), hw.mono fun y _ N hN w => W.chg c l w fun b hb => d b (by rw [e]; exact List.mem_cons_of_mem _ (hN b hb)), e, z⟩)
    · exact .inr (.inr ⟨a, xs, r, sqt_chg c l ha, hw.mono fun y _ N hN w => W.chg c l w fun b hb => d b (hN b hb), z⟩)
theorem W.keep {K : PySem.W.Frag} {H H' : Hp} (e : Same H H') {n : Nat} {x : V} {L : List Addr} (h : W K H n x L) : W K H' n x L := h.chg (Chg.nil e) nofun fun _ _ => by simp
end MK
set_option Elab.async false
set_option linter.all false
set_option autoImplicit false
set_option maxRecDepth 100000
set_option maxHeartbeats 400000
set_option Elab.async false
set_option linter.all false
set_option autoImplicit false
set_option maxRecDepth 100000
set_option maxHeartbeats 1000000
namespace MK
open PySem PySem.Spec PyProof.Rows L2
inductive Dt where
  | non
  | bl (b : Bool)
  | int (i : Int)
  | str (z : Str)
  | lst (xs : List Dt)
  | tup (xs : List Dt)
  | dic
inductive Sh (K : PySem.W.Frag) (H : Hp) : V → Dt → Prop
  | non : Sh K H .non .non
  | bl (b : Bool) : Sh K H (.bl b) (.bl b)
  | int (i : Int) : Sh K H (.int i) (.int i)
  | str (z : Str) : z.length ≤ sizeLine → Sh K H (.str z) (.str z)
  | lst {a : Addr} {vs : List V} {xs : List Dt} : H a = some (.lst vs) → vs.length < 1000 → vs.length = xs.length → (∀ (i : Nat) x y, vs[i]? = some x → xs[i]? = some y → Sh K H x y) → Sh K H (.ref a) (.lst xs)
  | tup {a : Addr} {vs : List V} {xs : List Dt} : SqT K H a vs → vs.length < 1000 → vs.length = xs.length → (∀ (i : Nat) x y, vs[i]? = some x → xs[i]? = some y → Sh K H x y) → Sh K H (.ref a) (.tup xs)
  | dic {a : Addr} : H a = some (.dK []) → Sh K H (.ref a) .dic
def sqD : Dt → Option (List Dt)
  | .lst xs => some xs
  | .tup xs => some xs
  | _ => none
def isStr : Dt → Bool
  | .str _ => true
  | _ => false
def isInt : Dt → Bool
  | .int _ => true
  | _ => false
def isBl : Dt → Bool
  | .bl _ => true
  | _ => false
def isLst : Dt → Bool
  | .lst _ => true
  | _ => false
def isTup : Dt → Bool
  | .tup _ => true
  | _ => false
section
variable {K : PySem.W.Frag} {H H' : Hp} {v : V} {d : Dt}
theorem Sh.keep (e : Same H H') (h : Sh K H v d) : Sh K H' v d := by
  induction h with
  | non => exact .non
  | bl b => exact .bl b
  | int i => exact .int i
  | str z h => exact .str z h
  | lst ha l1 l2 _ ih => exact .lst (e _ _ ha) l1 l2 ih
  | tup ha l1 l2 _ ih => exact .tup (same_t e ha) l1 l2 ih
  | dic ha => exact .dic (e _ _ ha)
/-- the type of it -/
theorem Sh.ty (h : Sh K H v d) : ∃ t, TyX K H v (.type t) ∧ kitB t "str" = some (isStr d) ∧ kitB t "int" = some (isInt d || isBl d) ∧ kitB t "bool" = some (isBl d) ∧ kitB t "list" = some (isLst d) ∧ kitB t "tuple" = some (isTup d) := by
  cases h with
  | non => exact ⟨"NoneType", .base .non, by decide +kernel, by decide +kernel, by decide +kernel, by decide +kernel, by decide +kernel⟩
  | bl b => exact ⟨"bool", .base (.bl b), by show _ = some false; decide +kernel, by show _ = some true; decide +kernel, by show _ = some true; decide +kernel, by show _ = some false; decide +kernel, by show _ = some false; decide +kernel⟩
  | int i => exact ⟨"int", .base (.int i), by show _ = some false; decide +kernel, by show _ = some true; decide +kernel, by show _ = some false; decide +kernel, by show _ = some false; decide +kernel, by show _ = some false; decide +kernel⟩
  | str z _ => exact ⟨"str", .base (.str z), by show _ = some true; decide +kernel, by show _ = some false; decide +kernel, by show _ = some false; decide +kernel, by show _ = some false; decide +kernel, by show _ = some false; decide +kernel⟩
  | lst ha => exact ⟨"list", tyx_l (SqL.of ha), by show _ = some false; decide +kernel, by show _ = some false; decide +kernel, by show _ = some false; decide +kernel, by show _ = some true; decide +kernel, by show _ = some false; decide +kernel⟩
  | tup ha => exact ⟨"tuple", tyx_t ha, by show _ = some false; decide +kernel, by show _ = some false; decide +kernel, by show _ = some false; decide +kernel, by show _ = some false; decide +kernel, by show _ = some true; decide +kernel⟩
  | dic ha => exact ⟨"dict", .base (.dK ha), by decide +kernel, by decide +kernel, by decide +kernel, by decide +kernel, by decide +kernel⟩
theorem Sh.sq (h : Sh K H v d) {xs : List Dt} (e : sqD d = some xs) : ∃ vs, Sq K H v vs ∧ Al (Sh K H) vs xs ∧ vs.length < 1000 := by
  cases h with
  | lst ha l1 l2 h => cases e; exact ⟨_, ⟨_, rfl, .inl (SqL.of ha)⟩, ⟨l2, h⟩, l1⟩
  | tup ha l1 l2 h => cases e; exact ⟨_, ⟨_, rfl, .inr ha⟩, ⟨l2, h⟩, l1⟩
  | non => cases e
  | bl b => cases e
  | int i => cases e
  | str z _ => cases e
  | dic _ => cases e
theorem Sh.str' {z : Str} (h : Sh K H v (.str z)) : v = .str z ∧ z.length ≤ sizeLine := by cases h; exact ⟨rfl, by assumption⟩
theorem Sh.int' {i : Int} (h : Sh K H v (.int i)) : v = .int i := by cases h; rfl
theorem Sh.bl' {b : Bool} (h : Sh K H v (.bl b)) : v = .bl b := by cases h; rfl
end
/-- it is one of such trees -/
def Sd (K : PySem.W.Frag) (H : Hp) (v : V) : Prop := ∃ d, Sh K H v d
theorem Sd.keep {K : PySem.W.Frag} {H H' : Hp} {v : V} (e : Same H H') (h : Sd K H v) : Sd K H' v := by
  obtain ⟨d, h⟩ := h
  exact ⟨d, h.keep e⟩
def FdD (d : Dt) (f : FD) : Prop := ∃ s, sqD d = some [.str f.nm, .str s, .bl f.need] ∧ s = sortS f.many ∧ wordB f.nm = true
theorem FdD.a {K : PySem.W.Frag} {H : Hp} {v : V} {d : Dt} {f : FD} (h : FdD d f) (s : Sh K H v d) : FdA K H v f := by
  obtain ⟨t, e, rfl, hw⟩ := h
  obtain ⟨vs, hs, hl, _⟩ := s.sq e
  obtain ⟨x, y, z, rfl⟩ : ∃ x y z, vs = [x, y, z] := by
    match vs, hl.1 with
    | [x, y, z], _ => exact ⟨x, y, z, rfl⟩
  rw [(hl.2 0 x _ rfl rfl).str'.1, (hl.2 1 y _ rfl rfl).str'.1, (hl.2 2 z _ rfl rfl).bl'] at hs
  exact hs
/-- the first i of ds are fields -/
structure PreF (ds : List Dt) (i : Nat) (fs : List FD) : Prop where
  len : fs.length = i
  le : i ≤ 3
  lt : i ≤ ds.length
  all : ∀ (j : Nat) d f, ds[j]? = some d → fs[j]? = some f → FdD d f
  nd : (fs.map (·.nm)).Nodup
def callD (d : Dt) : Option (Str × Str × List Dt × List Dt × List Dt) := match sqD d with
  | some [.str a, .str b, m, e, s] => (match sqD m, sqD e, sqD s with
    | some ms, some ds, some ss => some (a, b, ms, ds, ss)
    | _, _, _ => none)
  | _ => none
def strD : Dt → Str
  | .str z => z
  | _ => Str.empty
def deedD (d : Dt) : Option (Str × Str) := match sqD d with
  | some [.str a, .str b] => some (a, b)
  | _ => none
def deE (d : Dt) : Str × Str := (deedD d).getD (Str.empty, Str.empty)
theorem al_strs {K : PySem.W.Frag} {H : Hp} {vs : List V} {ss : List Dt} (h : Al (Sh K H) vs ss) (a : ∀ d ∈ ss, ∃ z, d = Dt.str z) : vs = (ss.map strD).map V.str := by
  refine List.ext_getElem? fun i => ?_
  rw [List.getElem?_map, List.getElem?_map]
  by_cases q : i < vs.length
  · obtain ⟨d, hd, r⟩ := h.get (List.getElem?_eq_getElem q)
    obtain ⟨z, rfl⟩ := a d (List.mem_of_getElem? hd)
    rw [List.getElem?_eq_getElem q, hd, r.str'.1]
    rfl
  · rw [List.getElem?_eq_none (by omega), List.getElem?_eq_none (by have := h.1; omega)]
    rfl
def moveI : Dt → Int
  | .int i => i
  | _ => 0
theorem al_ints {K : PySem.W.Frag} {H : Hp} {vs : List V} {ss : List Dt} (h : Al (Sh K H) vs ss) (a : ∀ d ∈ ss, ∃ z, d = Dt.int z) : vs = (ss.map moveI).map V.int := by
  refine List.ext_getElem? fun i => ?_
  rw [List.getElem?_map, List.getElem?_map]
  by_cases q : i < vs.length
  · obtain ⟨d, hd, r⟩ := h.get (List.getElem?_eq_getElem q)
    obtain ⟨z, rfl⟩ := a d (List.mem_of_getElem? hd)
    rw [List.getElem?_eq_getElem q, hd, r.int']
    rfl
  · rw [List.getElem?_eq_none (by omega), List.getElem?_eq_none (by have := h.1; omega)]
    rfl
/-- the call that it is -/
def CdD (d : Dt) (c : CD) : Prop := ∃ ms ds ss, callD d = some (c.nm, c.hand, ms, ds, ss) ∧ c.moves = ms.map moveI ∧ (∀ x ∈ ms, ∃ z, x = Dt.int z) ∧ c.deeds = ds.map deE ∧ (∀ x ∈ ds, sqD x = some [.str (deE x).1, .str (deE x).2]) ∧ c.same = ss.map strD ∧ ∀ x ∈ ss, ∃ z, x = Dt.str z
theorem callD_some {d : Dt} {a b : Str} {ms ds ss : List Dt} (h : callD d = some (a, b, ms, ds, ss)) : ∃ m e s, sqD d = some [.str a, .str b, m, e, s] ∧ sqD m = some ms ∧ sqD e = some ds ∧ sqD s = some ss := by
  unfold callD at h
  split at h
  · rename_i a' b' m e s q
    split at h
    · rename_i ms' ds' ss' h1 h2 h3
      cases h
      exact ⟨m, e, s, q, h1, h2, h3⟩
    · cases h
  · cases h
theorem len5 {vs : List V} (h : vs.length = 5) : ∃ a b c d e, vs = [a, b, c, d, e] := by
  match vs, h with
  | [a, b, c, d, e], _ => exact ⟨a, b, c, d, e, rfl⟩
theorem Sh.call {K : PySem.W.Frag} {H : Hp} {v : V} {d : Dt} {a b : Str} {ms ds ss : List Dt} (h : Sh K H v d) (e : callD d = some (a, b, ms, ds, ss)) : ∃ m dv s mvs dvs svs, Sq K H v [.str a, .str b, m, dv, s] ∧ a.length ≤ sizeLine ∧
    Sq K H m mvs ∧ Al (Sh K H) mvs ms ∧ mvs.length < 1000 ∧ Sq K H dv dvs ∧ Al (Sh K H) dvs ds ∧ dvs.length < 1000 ∧ Sq K H s svs ∧ Al (Sh K H) svs ss ∧ svs.length < 1000 := by
  obtain ⟨m, e', s, q, h1, h2, h3⟩ := callD_some e
  obtain ⟨vs, hs, hl, _⟩ := h.sq q
  obtain ⟨x0, x1, x2, x3, x4, rfl⟩ := len5 hl.1
  obtain ⟨s2, a2, l2⟩ := (hl.2 2 x2 _ rfl rfl).sq h1
  obtain ⟨s3, a3, l3⟩ := (hl.2 3 x3 _ rfl rfl).sq h2
  obtain ⟨s4, a4, l4⟩ := (hl.2 4 x4 _ rfl rfl).sq h3
  have z := (hl.2 0 x0 _ rfl rfl).str'
  rw [z.1, (hl.2 1 x1 _ rfl rfl).str'.1] at hs
  exact ⟨x2, x3, x4, s2, s3, s4, hs, z.2, a2, l2.1, l2.2, a3, l3.1, l3.2, a4, l4.1, l4.2⟩
theorem CdD.a {K : PySem.W.Frag} {H : Hp} {v : V} {d : Dt} {c : CD} (h : CdD d c) (s : Sh K H v d) : CdA K H v c := by
  obtain ⟨ms, ds, ss, e, h1, h2, h3, h4, h5, h6⟩ := h
  obtain ⟨m, dv, sv, mvs, dvs, svs, g0, _, g1, g2, _, g3, g4, _, g5, g6, _⟩ := s.call e
  rw [al_ints g2 h2, ← h1] at g1
  rw [al_strs g6 h6, ← h5] at g5
  refine ⟨m, dv, sv, dvs, g0, g1, g3, ?_, g5⟩
  rw [h3]
  refine ⟨by rw [g4.1, List.length_map], fun i x y q1 q2 => ?_⟩
  rw [List.getElem?_map] at q2
  obtain ⟨w, hw, rfl⟩ := Option.map_eq_some_iff.mp q2
  obtain ⟨us, hu, hl, _⟩ := (g4.2 i x w q1 hw).sq (h4 w (List.mem_of_getElem? hw))
  obtain ⟨p, q, rfl⟩ : ∃ p q, us = [p, q] := by
    match us, hl.1 with
    | [p, q], _ => exact ⟨p, q, rfl⟩
  rw [(hl.2 0 p _ rfl rfl).str'.1, (hl.2 1 q _ rfl rfl).str'.1] at hu
  exact hu
structure PreC (fs : List FD) (n : Nat) (ds : List Dt) (i : Nat) (cs : List CD) : Prop where
  len : cs.length = i
  le : i ≤ 6
  lt : i ≤ ds.length
  all : ∀ (j : Nat) d c, ds[j]? = some d → cs[j]? = some c → CdD d c
  ok : ∀ c ∈ cs, CdOk fs n c
  nd : (cs.map (·.nm)).Nodup
theorem PreF.ok {ds : List Dt} {i : Nat} {fs : List FD} (h : PreF ds i fs) (p : 1 ≤ i) : FsOk fs :=
  ⟨by rw [h.len]; exact p, by rw [h.len]; exact h.le, fun f hf => by
    obtain ⟨j, hj⟩ := List.mem_iff_getElem?.mp hf
    have hl := (List.getElem?_eq_some_iff.mp hj).1
    have h1 := h.len
    have h2 := h.lt
    obtain ⟨_, _, _, w⟩ := h.all j _ f (List.getElem?_eq_getElem (by omega)) hj
    exact w, h.nd⟩
theorem PreF.a {K : PySem.W.Frag} {H : Hp} {vs : List V} {ds : List Dt} {fs : List FD} (h : PreF ds ds.length fs) (a : Al (Sh K H) vs ds) : Al (FdA K H) vs fs :=
  ⟨by rw [a.1, h.len], fun i x f h1 h2 => by
    obtain ⟨d, hd, s⟩ := a.get h1
    exact (h.all i d f hd h2).a s⟩
theorem PreC.a {K : PySem.W.Frag} {H : Hp} {vs : List V} {fs : List FD} {n : Nat} {ds : List Dt} {cs : List CD} (h : PreC fs n ds ds.length cs) (a : Al (Sh K H) vs ds) : Al (CdA K H) vs cs :=
  ⟨by rw [a.1, h.len], fun i x f h1 h2 => by
    obtain ⟨d, hd, s⟩ := a.get h1
    exact (h.all i d f hd h2).a s⟩
end MK
set_option Elab.async false
set_option linter.all false
set_option autoImplicit false
set_option maxRecDepth 100000
set_option maxHeartbeats 1000000
namespace MK
open PySem PySem.Spec PyProof.Rows L2
theorem ix_of {K : PySem.W.Frag} {H : Hp} {a : Addr} {xs : List V} {i : Nat} {v : V} {Q : VK} (h : SqL K H a xs ∨ SqT K H a xs) (e : xs[i]? = some v) (q : Q v H) : rIx K (.ref a) (.int (i : Nat)) H Q :=
  h.elim (fun h => .inl ⟨_, _, _, _, rfl, rfl, h, atI_nat e, q⟩) (fun h => .inr (.inl ⟨_, _, _, _, rfl, rfl, h, atI_nat e, q⟩))
end MK
set_option Elab.async false
set_option linter.all false
set_option autoImplicit false
set_option maxRecDepth 100000
set_option maxHeartbeats 1000000
set_option Elab.async false
set_option linter.all false
set_option autoImplicit false
set_option maxRecDepth 100000
set_option maxHeartbeats 1000000
namespace MK
open PySem PySem.Spec PyProof.Rows L2 TL
def numS (i : Int) : Str := Str.ofString (toString i)
/-- the lines of a text -/
inductive Ln where
  | M (n : Nat)
  | F (f : FD)
  | C (nm hand : Str) (mv : List Int)
  | D (d : Str × Str)
  | S (x : Str)
def Ln.kd : Ln → Nat
  | .M _ => 0
  | .F _ => 1
  | .C .. => 2
  | .D _ => 3
  | .S _ => 4
def needL (b : Bool) : List Str := if b then ["need"] else []
def Ln.parts : Ln → List Str
  | .M n => ["modes", numS n]
  | .F f => ([("field" : Str), f.nm, sortS f.many] : List Str) ++ needL f.need
  | .C nm hand mv => ([("call" : Str), nm, hand] : List Str) ++ mv.map numS
  | .D d => ["do", d.1, d.2]
  | .S x => ["same", x]
def itemsC (c : CD) : List Ln := .C c.nm c.hand c.moves :: (c.deeds.map .D ++ c.same.map .S)
def items (fs : List FD) (n : Nat) (cs : List CD) : List Ln := .M n :: (fs.map .F ++ cs.flatMap itemsC)
/-- a part of a line -/
structure PartOk (p : Str) : Prop where
  nl : 10 ∉ tl p
  sp : 32 ∉ tl p
  le : p.length ≤ 8
structure LnOk (l : Ln) : Prop where
  few : l.parts.length ≤ 8
  part : ∀ p ∈ l.parts, PartOk p
theorem word_part {z : Str} (h : wordB z = true) : PartOk z := by
  unfold wordB at h
  simp only [Bool.and_eq_true, decide_eq_true_eq, List.all_eq_true] at h
  obtain ⟨⟨h1, h2⟩, h3⟩ := h
  have no : ∀ c, c < 97 → c ∉ tl z := fun c hc m => by
    have := h3 c m
    unfold letterB at this
    simp only [Bool.and_eq_true, decide_eq_true_eq] at this
    omega
  exact ⟨no 10 (by decide), no 32 (by decide), h2⟩
theorem num_part {i : Int} (h1 : -1 ≤ i) (h2 : i ≤ 4) : PartOk (numS i) := by
  have all : ∀ d : Fin 6, decide (10 ∉ tl (numS ((d.val : Int) - 1))) && decide (32 ∉ tl (numS ((d.val : Int) - 1))) && decide ((numS ((d.val : Int) - 1)).length ≤ 8) = true := by decide +kernel
  have := all ⟨(i + 1).toNat, by omega⟩
  have e : (((i + 1).toNat : Nat) : Int) - 1 = i := by omega
  simp only [Bool.and_eq_true, decide_eq_true_eq, e] at this
  exact ⟨this.1.1, this.1.2, this.2⟩
def litB (z : Str) : Bool := decide (10 ∉ tl z) && decide (32 ∉ tl z) && decide (z.length ≤ 8)
theorem lit_part {z : Str} (h : litB z = true) : PartOk z := by
  unfold litB at h
  simp only [Bool.and_eq_true, decide_eq_true_eq] at h
  exact ⟨h.1.1, h.1.2, h.2⟩
/-- what can stand in a line -/
def LnGood : Ln → Prop
  | .M n => n ≤ 4
  | .F f => wordB f.nm = true
  | .C nm hand mv => wordB nm = true ∧ wordB hand = true ∧ mv.length ≤ 4 ∧ ∀ m ∈ mv, -1 ≤ m ∧ m ≤ 4
  | .D d => wordB d.1 = true ∧ wordB d.2 = true
  | .S x => wordB x = true
theorem LnGood.ok : ∀ {l : Ln}, LnGood l → LnOk l
  | .M n, h => ⟨by show 2 ≤ 8; decide, fun p m => by
      have h : n ≤ 4 := h
      have m : p ∈ ([("modes" : Str), numS n] : List Str) := m
      simp only [List.mem_cons, List.not_mem_nil, or_false] at m
      rcases m with rfl | rfl
      · exact lit_part (by decide +kernel)
      · exact num_part (by omega) (by omega)⟩
  | .F f, h => by
    have h : wordB f.nm = true := h
    have hs : PartOk (sortS f.many) := lit_part (by cases f.many <;> decide +kernel)
    have hn : ∀ p ∈ needL f.need, PartOk p := fun p m => by
      cases q : f.need with
      | false =>
        rw [q] at m
        cases m
      | true =>
        rw [q] at m
        rw [List.mem_singleton.mp m]
        exact lit_part (by decide +kernel)
    refine ⟨?_, fun p m => ?_⟩
    · show (([("field" : Str), f.nm, sortS f.many] : List Str) ++ needL f.need).length ≤ 8
      cases f.need
      · show 3 ≤ 8
        decide
      · show 4 ≤ 8
        decide
    · have m : p ∈ ([("field" : Str), f.nm, sortS f.many] : List Str) ++ needL f.need := m
      rcases List.mem_append.mp m with m | m
      · simp only [List.mem_cons, List.not_mem_nil, or_false] at m
        rcases m with rfl | rfl | rfl
        · exact lit_part (by decide +kernel)
        · exact word_part h
        · exact hs
      · exact hn p m
  | .C nm hand mv, h => by
    obtain ⟨h1, h2, h3, h4⟩ := h
    refine ⟨?_, fun p m => ?_⟩
    · show (([("call" : Str), nm, hand] : List Str) ++ mv.map numS).length ≤ 8
      rw [List.length_append, List.length_map]
      show 3 + _ ≤ 8
      omega
    · have m : p ∈ ([("call" : Str), nm, hand] : List Str) ++ mv.map numS := m
      rcases List.mem_append.mp m with m | m
      · simp only [List.mem_cons, List.not_mem_nil, or_false] at m
        rcases m with rfl | rfl | rfl
        · exact lit_part (by decide +kernel)
        · exact word_part h1
        · exact word_part h2
      · obtain ⟨i, hi, rfl⟩ := List.mem_map.mp m
        exact num_part (h4 i hi).1 (h4 i hi).2
  | .D d, h => ⟨by show 3 ≤ 8; decide, fun p m => by
      obtain ⟨h1, h2⟩ := h
      have m : p ∈ ([("do" : Str), d.1, d.2] : List Str) := m
      simp only [List.mem_cons, List.not_mem_nil, or_false] at m
      rcases m with rfl | rfl | rfl
      · exact lit_part (by decide +kernel)
      · exact word_part h1
      · exact word_part h2⟩
  | .S x, h => ⟨by show 2 ≤ 8; decide, fun p m => by
      have h : wordB x = true := h
      have m : p ∈ ([("same" : Str), x] : List Str) := m
      simp only [List.mem_cons, List.not_mem_nil, or_false] at m
      rcases m with rfl | rfl
      · exact lit_part (by decide +kernel)
      · exact word_part h⟩
structure Dra where
  modes : Option Nat
  fs : List FD
  cs : List CD
end MK
set_option Elab.async false
set_option linter.all false
set_option autoImplicit false
set_option maxRecDepth 100000
set_option maxHeartbeats 1000000
namespace MK
open PySem PySem.Spec PyProof.Rows L2
/-- all but what stands at the addresses M -/
def Hid (M : List Addr) (H : Hp) : Hp := fun b => if b ∈ M then none else H b
theorem hid_in {M : List Addr} {H : Hp} {b : Addr} (h : b ∈ M) : Hid M H b = none := if_pos h
theorem hid_out {M : List Addr} {H : Hp} {b : Addr} (h : b ∉ M) : Hid M H b = H b := if_neg h
theorem hid_some {M : List Addr} {H : Hp} {b : Addr} {o : HO} (h : Hid M H b = some o) : b ∉ M ∧ H b = some o := by
  by_cases e : b ∈ M
  · rw [hid_in e] at h
    cases h
  · rw [hid_out e] at h
    exact ⟨e, h⟩
theorem hid_same {M : List Addr} {H : Hp} : Same (Hid M H) H := fun b o h => (hid_some h).2
theorem hid_get {M : List Addr} {H : Hp} {b : Addr} {o : HO} (h : H b = some o) (n : b ∉ M) : Hid M H b = some o := (hid_out n).trans h
theorem hid_go {M M' : List Addr} {H H' : Hp} (h : ∀ b o, b ∉ M → H b = some o → b ∉ M' ∧ H' b = some o) : Same (Hid M H) (Hid M' H') := fun b o hb => by
  obtain ⟨n, hb⟩ := hid_some hb
  obtain ⟨n', hb'⟩ := h b o n hb
  exact hid_get hb' n'
theorem hid_keep {M : List Addr} {H H' : Hp} (e : Same H H') : Same (Hid M H) (Hid M H') := hid_go fun b o n h => ⟨n, e _ _ h⟩
theorem hid_put {M : List Addr} {H H' : Hp} {a : Addr} {o : HO} (e : Same H H') (h : a ∈ M) : Same (Hid M H) (Hid M (upd H' a o)) := hid_go fun b u n hb => ⟨n, by
  rw [upd_ne (fun q : b = a => n (q.symm ▸ h))]
  exact e _ _ hb⟩
def mV : Option Nat → V
  | none => .non
  | some n => .int (n : Nat)
/-- the call that is being read: its lists of deeds and of same may be changed -/
def LastT (K : PySem.W.Frag) (H : Hp) (M : List Addr) (lf lc : Addr) (v : V) (c : CD) : Prop := ∃ (t m dl sl : Addr) (dvs : List V), v = .ref t ∧ Hid M H t = some (.tup [.str c.nm, .str c.hand, .ref m, .ref dl, .ref sl]) ∧ Hid M H m = some (.lst (c.moves.map V.int)) ∧
  (dl ∈ M ∧ sl ∈ M ∧ dl ≠ sl ∧ dl ≠ lf ∧ dl ≠ lc ∧ sl ≠ lf ∧ sl ≠ lc) ∧ H dl = some (.lst dvs) ∧ Al (DeT K (Hid M H)) dvs c.deeds ∧ H sl = some (.lst (c.same.map V.str))
def CsT (K : PySem.W.Frag) (H : Hp) (M : List Addr) (lf lc : Addr) (cvs : List V) (cs : List CD) : Prop := (cvs = [] ∧ cs = []) ∨ ∃ (cvs0 : List V) (v : V) (cs0 : List CD) (c : CD), cvs = cvs0 ++ [v] ∧ cs = cs0 ++ [c] ∧ Al (CdA K (Hid M H)) cvs0 cs0 ∧ LastT K H M lf lc v c
def drV (m : Option Nat) (lf lc : Addr) : List (Str × V) := [("modes", mV m), ("field_items", .ref lf), ("call_items", .ref lc)]
/-- a draft at dr, of which M may be changed -/
structure DrA (K : PySem.W.Frag) (DC : Addr) (H : Hp) (M : List Addr) (dr dx lf lc : Addr) (fvs cvs : List V) (a : Dra) : Prop where
  live : ∀ b ∈ M, H b ≠ none
  mem : dr ∈ M ∧ lf ∈ M ∧ lc ∈ M ∧ lf ≠ lc
  at_ : H dr = some (.ins DC dx (drV a.modes lf lc))
  fl : H lf = some (.lst fvs)
  fs : Al (FdT K (Hid M H)) fvs a.fs
  cl : H lc = some (.lst cvs)
  cs : CsT K H M lf lc cvs a.cs
def DrT (K : PySem.W.Frag) (DC : Addr) (H : Hp) (M : List Addr) (dr : Addr) (a : Dra) : Prop := ∃ (dx lf lc : Addr) (fvs cvs : List V), DrA K DC H M dr dx lf lc fvs cvs a
section
variable {K : PySem.W.Frag} {DC : Addr} {H H' : Hp} {M : List Addr} {dr dx lf lc : Addr} {fvs cvs : List V} {a : Dra} {v : V} {c : CD}
theorem LastT.keep (e : Same H H') (h : LastT K H M lf lc v c) : LastT K H' M lf lc v c := by
  obtain ⟨t, m, dl, sl, dvs, h0, h1, h2, h3, h4, h5, h6⟩ := h
  exact ⟨t, m, dl, sl, dvs, h0, hid_keep e _ _ h1, hid_keep e _ _ h2, h3, e _ _ h4, h5.mono fun _ _ h => DeT.keep (hid_keep e) h, e _ _ h6⟩
theorem CsT.keep {cs : List CD} (e : Same H H') (h : CsT K H M lf lc cvs cs) : CsT K H' M lf lc cvs cs := by
  rcases h with h | ⟨cvs0, v, cs0, c, h1, h2, h3, h4⟩
  · exact .inl h
  · exact .inr ⟨cvs0, v, cs0, c, h1, h2, h3.mono fun _ _ h => CdA.keep (hid_keep e) h, h4.keep e⟩
theorem DrA.keep (e : Same H H') (h : DrA K DC H M dr dx lf lc fvs cvs a) : DrA K DC H' M dr dx lf lc fvs cvs a where
  live := fun b hb q => by
    cases z : H b with
    | none => exact h.live b hb z
    | some o =>
      rw [e _ _ z] at q
      cases q
  mem := h.mem
  at_ := e _ _ h.at_
  fl := e _ _ h.fl
  fs := h.fs.mono fun _ _ h => FdT.keep (hid_keep e) h
  cl := e _ _ h.cl
  cs := h.cs.keep e
theorem DrA.t (h : DrA K DC H M dr dx lf lc fvs cvs a) : DrT K DC H M dr a := ⟨dx, lf, lc, fvs, cvs, h⟩
theorem DrA.nf (h : DrA K DC H M dr dx lf lc fvs cvs a) : lf ≠ dr := fun e => by
  have := h.at_
  rw [← e, h.fl] at this
  cases this
theorem DrA.nc (h : DrA K DC H M dr dx lf lc fvs cvs a) : lc ≠ dr := fun e => by
  have := h.at_
  rw [← e, h.cl] at this
  cases this
theorem DrA.new (h : DrA K DC H M dr dx lf lc fvs cvs a) {p : Addr} (hp : H p = none) : p ∉ M := fun m => h.live p m hp
/-- what stands elsewhere, when something of M is changed -/
theorem LastT.put {p : Addr} {o : HO} (hp : p ∈ M) (h : LastT K H M lf lc v c) (n : ∀ t m dl sl dvs, v = .ref t → H t = some (.tup [.str c.nm, .str c.hand, .ref m, .ref dl, .ref sl]) → H dl = some (.lst dvs) → dl ≠ p ∧ sl ≠ p) : LastT K (upd H p o) M lf lc v c := by
  obtain ⟨t, m, dl, sl, dvs, h0, h1, h2, h3, h4, h5, h6⟩ := h
  have e : Same (Hid M H) (Hid M (upd H p o)) := hid_put (Same.refl H) hp
  obtain ⟨n1, n2⟩ := n t m dl sl dvs h0 (hid_same _ _ h1) h4
  exact ⟨t, m, dl, sl, dvs, h0, e _ _ h1, e _ _ h2, h3, (upd_ne n1).trans h4, h5.mono fun _ _ h => DeT.keep e h, (upd_ne n2).trans h6⟩
end
end MK
set_option Elab.async false
set_option linter.all false
set_option autoImplicit false
set_option maxRecDepth 100000
set_option maxHeartbeats 1000000
namespace MK
open PySem PySem.Spec PyProof.Rows L2
section
variable {K : PySem.W.Frag} {a : Addr} {xs ys : List V} {g : TG} {te : TE} {vs : List Nat} {σ : L2.St} {H : Hp} {D : Addr} {Qd : Hp → Prop}
theorem take_val {i : Nat} {y : V} (h : ys[i]? = some y) : ys.take (i + 1) = ys.take i ++ [y] := by
  rw [List.take_succ, h]
  rfl
end
end MK
set_option Elab.async false
set_option linter.all false
set_option autoImplicit false
set_option maxRecDepth 100000
set_option maxHeartbeats 1000000
namespace MK
open PySem PySem.Spec PyProof.Rows L2
/-- the call that is being read: its lists of deeds and of same may be changed -/
def LastB (K : PySem.W.Frag) (H : Hp) (M : List Addr) (dr lf lc : Addr) (v : V) (c : CD) : Prop := ∃ (t m dl sl : Addr) (dvs : List V), v = .ref t ∧ Hid M H t = some (.tup [.str c.nm, .str c.hand, .ref m, .ref dl, .ref sl]) ∧ Hid M H m = some (.lst (c.moves.map V.int)) ∧
  (dl ∈ M ∧ sl ∈ M ∧ dl ≠ sl ∧ dl ≠ lf ∧ dl ≠ lc ∧ sl ≠ lf ∧ sl ≠ lc ∧ dl ≠ dr ∧ sl ≠ dr) ∧ H dl = some (.lst dvs) ∧ Al (DeT K (Hid M H)) dvs c.deeds ∧ H sl = some (.lst (c.same.map V.str))
def CsB (K : PySem.W.Frag) (H : Hp) (M : List Addr) (dr lf lc : Addr) (cvs : List V) (cs : List CD) : Prop := (cvs = [] ∧ cs = []) ∨ ∃ (cvs0 : List V) (v : V) (cs0 : List CD) (c : CD), cvs = cvs0 ++ [v] ∧ cs = cs0 ++ [c] ∧ Al (CdL K (Hid M H)) cvs0 cs0 ∧ LastB K H M dr lf lc v c
structure FR where
  nm : Str
  sort : Str
  need : Bool
def FrV (f : FR) : List V := [.str f.nm, .str f.sort, .bl f.need]
def FrT (K : PySem.W.Frag) (H : Hp) (v : V) (f : FR) : Prop := Tu K H v (FrV f)
theorem FrT.keep {K : PySem.W.Frag} {H H' : Hp} {v : V} {f : FR} (e : Same H H') (h : FrT K H v f) : FrT K H' v f := Tu.keep e h
/-- what has been read, under dr, of which M may be changed -/
structure DrB (K : PySem.W.Frag) (H : Hp) (M : List Addr) (dr : Addr) (ho : HO) (lf lc : Addr) (fvs cvs : List V) (fs : List FR) (cs : List CD) : Prop where
  live : ∀ b ∈ M, H b ≠ none
  mem : dr ∈ M ∧ lf ∈ M ∧ lc ∈ M ∧ lf ≠ lc
  nf : lf ≠ dr
  nc : lc ≠ dr
  at_ : H dr = some ho
  fl : H lf = some (.lst fvs)
  fs : Al (FrT K (Hid M H)) fvs fs
  cl : H lc = some (.lst cvs)
  cs : CsB K H M dr lf lc cvs cs
section
variable {K : PySem.W.Frag} {H H' : Hp} {M : List Addr} {dr lf lc : Addr} {ho : HO} {fvs cvs : List V} {fs : List FR} {cs : List CD} {v : V} {c : CD}
theorem LastB.keep (e : Same H H') (h : LastB K H M dr lf lc v c) : LastB K H' M dr lf lc v c := by
  obtain ⟨t, m, dl, sl, dvs, h0, h1, h2, h3, h4, h5, h6⟩ := h
  exact ⟨t, m, dl, sl, dvs, h0, hid_keep e _ _ h1, hid_keep e _ _ h2, h3, e _ _ h4, h5.mono fun _ _ h => DeT.keep (hid_keep e) h, e _ _ h6⟩
theorem CsB.keep {cs : List CD} (e : Same H H') (h : CsB K H M dr lf lc cvs cs) : CsB K H' M dr lf lc cvs cs := by
  rcases h with h | ⟨cvs0, v, cs0, c, h1, h2, h3, h4⟩
  · exact .inl h
  · exact .inr ⟨cvs0, v, cs0, c, h1, h2, h3.mono fun _ _ h => CdL.keep (hid_keep e) h, h4.keep e⟩
theorem DrB.keep (e : Same H H') (h : DrB K H M dr ho lf lc fvs cvs fs cs) : DrB K H' M dr ho lf lc fvs cvs fs cs where
  live := fun b hb q => by
    cases z : H b with
    | none => exact h.live b hb z
    | some o =>
      rw [e _ _ z] at q
      cases q
  mem := h.mem
  nf := h.nf
  nc := h.nc
  at_ := e _ _ h.at_
  fl := e _ _ h.fl
  fs := h.fs.mono fun _ _ h => FrT.keep (hid_keep e) h
  cl := e _ _ h.cl
  cs := h.cs.keep e
theorem DrB.new (h : DrB K H M dr ho lf lc fvs cvs fs cs) {p : Addr} (hp : H p = none) : p ∉ M := fun m => h.live p m hp
end
end MK
set_option Elab.async false
set_option linter.all false
set_option autoImplicit false
set_option maxRecDepth 100000
set_option maxHeartbeats 1000000
namespace MK
open PySem PySem.Spec PyProof.Rows L2 TL
def digB (c : Nat) : Bool := decide (48 ≤ c) && decide (c ≤ 57)
def numZ (z : Str) : Bool := !decide (z = ("" : Str)) && ((tl z).all digB && (decide (z = ("0" : Str)) || !decide ((tl z).head? = some 48)))
def valL (n : Nat) (cs : List Nat) : Nat := cs.foldl (fun n c => n * 10 + (c - 48)) n
def numN (z : Str) : Nat := valL 0 (tl z)
def movB (z : Str) : Bool := decide (z = ("-1" : Str)) || numZ z
def movI (z : Str) : Int := if z = ("-1" : Str) then -1 else (numN z : Nat)
structure Rd where
  modes : Option Nat
  fs : List FR
  cs : List CD
def putM (a : Rd) : List Str → Option Rd
  | [_, z] => if (a.modes.isNone && numZ z) = true then some ⟨some (numN z), a.fs, a.cs⟩ else none
  | _ => none
def putFi (a : Rd) : List Str → Option Rd
  | [_, x, y] => if (wordB x && (wordB y && a.cs.isEmpty)) = true then some ⟨a.modes, a.fs ++ [⟨x, y, false⟩], a.cs⟩ else none
  | [_, x, y, n] => if (decide (n = ("need" : Str)) && (wordB x && (wordB y && a.cs.isEmpty))) = true then some ⟨a.modes, a.fs ++ [⟨x, y, true⟩], a.cs⟩ else none
  | _ => none
def putC (a : Rd) : List Str → Option Rd
  | _ :: x :: y :: r => if (wordB x && (wordB y && r.all movB)) = true then some ⟨a.modes, a.fs, a.cs ++ [⟨x, y, r.map movI, [], []⟩]⟩ else none
  | _ => none
def putD (a : Rd) : List Str → Option Rd
  | [_, x, y] => if (wordB x && wordB y) = true then (match a.cs.getLast? with
    | some c => if c.same.isEmpty = true then some ⟨a.modes, a.fs, a.cs.dropLast ++ [⟨c.nm, c.hand, c.moves, c.deeds ++ [(x, y)], c.same⟩]⟩ else none
    | none => none) else none
  | _ => none
def putS (a : Rd) : List Str → Option Rd
  | [_, x] => if wordB x = true then (match a.cs.getLast? with
    | some c => some ⟨a.modes, a.fs, a.cs.dropLast ++ [⟨c.nm, c.hand, c.moves, c.deeds, c.same ++ [x]⟩]⟩
    | none => none) else none
  | _ => none
def putL (a : Rd) (ps : List Str) : Option Rd :=
  let h := ps.headD Str.empty
  if h = ("modes" : Str) then putM a ps else if a.modes.isNone = true then none else if h = ("field" : Str) then putFi a ps else if h = ("call" : Str) then putC a ps else if h = ("do" : Str) then putD a ps else if h = ("same" : Str) then putS a ps else none
def goes (a : Rd) : List (List Str) → Option Rd
  | [] => some a
  | p :: r => (putL a p).bind fun b => goes b r
theorem word_len' {z : Str} (h : wordB z = true) : z.length ≤ 8 := (word_part h).le
theorem word_sz {z : Str} (h : wordB z = true) : z.length ≤ sizeLine := Nat.le_trans (word_len' h) (by decide)
end MK
set_option Elab.async false
set_option linter.all false
set_option autoImplicit false
set_option maxRecDepth 100000
set_option maxHeartbeats 1000000
namespace L2
open PySem PySem.Spec PyProof.Rows
end L2
namespace MK
open PySem PySem.Spec PyProof.Rows L2 TL
theorem cut02 (xs : List V) : cutV xs none (some 2) = xs.take 2 := by
  unfold cutV
  rw [HT.sIx_none, show (some (2 : Int)) = some ((2 : Nat) : Int) from rfl, HT.sIx_nat, Nat.sub_zero, List.drop_zero]
  by_cases h : 2 ≤ xs.length
  · rw [Nat.min_eq_left h]
  · rw [Nat.min_eq_right (by omega), List.take_of_length_le (Nat.le_refl _), List.take_of_length_le (by omega)]
theorem shaped_nil : SeqAt.shaped (.list []) = true := by decide +kernel
end MK
set_option Elab.async false
set_option linter.all false
set_option autoImplicit false
set_option maxRecDepth 100000
set_option maxHeartbeats 1000000
namespace MK
open PySem PySem.Spec PyProof.Rows L2
section
variable {K : PySem.W.Frag} {g : TG} {te : TE} {vs : List Nat} {σ : L2.St} {H : Hp} {D : Addr} {Qd : Hp → Prop} {J : It} {n : Nat} {G : Hp → Prop} {Y : Nat → Hp → V → Hp → Prop}
/-- each element is a value that is known -/
theorem lc_valS (wk : Walk J n G Y) {ys : List V} (len : ys.length = n) (few : n ≤ 1000) (hD : H D = none) (hG : ∀ H', Same H H' → G H')
    (hs : ∀ (i : Nat) x y H2 H3 (R : VK), i < n → ys[i]? = some y → Same H H2 → Y i H2 x H3 → (∀ H', Same H2 H' → R y H') → g x (wipe σ vs) H3 fun σ2 H4 => wipe σ2 vs = wipe σ vs ∧ te σ2 H4 R)
    (hd : ∀ H', Same H H' → H' D = some (.lst ys) → Qd H') :
    ∃ W : Nat → Nat → Hp → Prop, (∃ m, W 0 m (upd H D (.lst []))) ∧ ∀ i m H, W i m H →
      (J.stop i H ∧ Qd H) ∨ (J.go i H ∧ ∃ Nx : Hp → Prop, (∀ H', Nx H' → ∃ m', m' < m ∧ W (i + 1) m' H') ∧ ∀ x H', J.yld i H x H' → g x (wipe σ vs) H' fun σ2 H2 => wipe σ2 vs = wipe σ vs ∧ tYes σ2 H2 fun b H3 =>
        if b = true then te σ2 H3 fun y H4 => ∃ acc, H4 D = some (.lst acc) ∧ acc.length < sizeLine ∧ Nx (upd H4 D (.lst (acc ++ [y]))) else Nx H3) := by
  refine lc_it wk (fun i Z => Same H Z ∧ Z D = some (.lst (ys.take i))) ⟨same_new (Same.refl H) hD, upd_same⟩ (fun i Z _ e => hG Z e.1) (fun i x Z Z3 hi e hy => ?_) fun Z e => ?_
  · obtain ⟨e, d⟩ := e
    have hyi : ys[i]? = some ys[i] := List.getElem?_eq_getElem (by omega)
    refine hs i x _ Z Z3 _ hi hyi e hy fun H' e' => ⟨_, e' _ _ d, ?_, fun b o hb => ?_, ?_⟩
    · rw [List.length_take, sizeLine_eq]
      omega
    · rw [upd_ne (ne_of_none hb hD)]
      exact e' _ _ (e _ _ hb)
    · rw [upd_same, take_val hyi]
  · obtain ⟨e, d⟩ := e
    rw [← len, List.take_length] at d
    exact hd Z e d
/-- each element is told by a relation -/
theorem lc_relS (wk : Walk J n G Y) (Rel : Nat → V → Hp → Prop) (mono : ∀ i v H H', Same H H' → Rel i v H → Rel i v H') (few : n ≤ 1000) (hD : H D = none) (hG : ∀ H', Same H H' → G H')
    (hs : ∀ (i : Nat) x H2 H3 (R : VK), i < n → Same H H2 → (∃ acc, H2 D = some (.lst acc)) → Y i H2 x H3 → (∀ y H', Same H2 H' → Rel i y (Off D H') → R y H') → g x (wipe σ vs) H3 fun σ2 H4 => wipe σ2 vs = wipe σ vs ∧ te σ2 H4 R)
    (hd : ∀ H' ws, Same H H' → H' D = some (.lst ws) → ws.length = n → (∀ (i : Nat) v, ws[i]? = some v → Rel i v (Off D H')) → Qd H') :
    ∃ W : Nat → Nat → Hp → Prop, (∃ m, W 0 m (upd H D (.lst []))) ∧ ∀ i m H, W i m H →
      (J.stop i H ∧ Qd H) ∨ (J.go i H ∧ ∃ Nx : Hp → Prop, (∀ H', Nx H' → ∃ m', m' < m ∧ W (i + 1) m' H') ∧ ∀ x H', J.yld i H x H' → g x (wipe σ vs) H' fun σ2 H2 => wipe σ2 vs = wipe σ vs ∧ tYes σ2 H2 fun b H3 =>
        if b = true then te σ2 H3 fun y H4 => ∃ acc, H4 D = some (.lst acc) ∧ acc.length < sizeLine ∧ Nx (upd H4 D (.lst (acc ++ [y]))) else Nx H3) := by
  refine lc_it wk (fun i Z => Same H Z ∧ ∃ ws : List V, Z D = some (.lst ws) ∧ ws.length = i ∧ ∀ (j : Nat) v, ws[j]? = some v → Rel j v (Off D Z)) ⟨same_new (Same.refl H) hD, [], upd_same, rfl, fun j v h => by simp at h⟩ (fun i Z _ e => hG Z e.1) (fun i x Z Z3 hi e hy => ?_) fun Z e => ?_
  · obtain ⟨e, ws, d, l, r⟩ := e
    refine hs i x Z Z3 _ hi e ⟨ws, d⟩ hy fun y H' e' ry => ⟨_, e' _ _ d, ?_, fun b o hb => ?_, ws ++ [y], upd_same, ?_, fun j v hj => ?_⟩
    · rw [sizeLine_eq]
      omega
    · rw [upd_ne (ne_of_none hb hD)]
      exact e' _ _ (e _ _ hb)
    · rw [List.length_append, l]
      rfl
    · rw [off_put]
      by_cases q : j < ws.length
      · rw [List.getElem?_append_left q] at hj
        exact mono j v _ _ (same_off e') (r j v hj)
      · rw [List.getElem?_append_right (by omega)] at hj
        have : j - ws.length = 0 := by
          have := (List.getElem?_eq_some_iff.mp hj).1
          simp only [List.length_cons, List.length_nil] at this
          omega
        rw [this] at hj
        cases hj
        rw [show j = i by omega]
        exact ry
  · obtain ⟨e, ws, d, l, r⟩ := e
    exact hd Z ws e d l r
end
end MK
set_option Elab.async false
set_option linter.all false
set_option autoImplicit false
set_option maxRecDepth 100000
set_option maxHeartbeats 1000000
namespace MK
open PySem PySem.Spec PyProof.Rows L2
/-- what is held for a field: a word or nothing, or the number of a list -/
inductive Sl where
  | w (o : Option Str)
  | l (n : Nat)
/-- what is told of it -/
inductive Ct where
  | w (o : Option Str)
  | l (ws : List Str)
/-- a maker, or, without a mode, a product -/
structure Ob where
  mode : Option Nat
  held : List Sl
instance : Inhabited Ob := ⟨⟨none, []⟩⟩
structure Bn where
  lists : List (List Str)
  obs : List Ob
  hand : List (Option Nat)
  early : List (Option (List Ct))
inductive Rw where
  | mk
  | call (nm : Str) (k : Nat) (wd : Option Str)
deriving DecidableEq
def bn0 : Bn := ⟨[], [], [], []⟩
def getL (ls : List (List Str)) : Sl → List Str
  | .l n => ls.getD n []
  | .w _ => []
def ctOf (ls : List (List Str)) : Sl → Ct
  | .w o => .w o
  | .l n => .l (ls.getD n [])
def blStep (st : List (List Str) × List Sl) (f : FD) : List (List Str) × List Sl := if f.many = true then (st.1 ++ [[]], st.2 ++ [.l st.1.length]) else (st.1, st.2 ++ [.w none])
def blank (fs : List FD) (ls : List (List Str)) : List (List Str) × List Sl := fs.foldl blStep (ls, [])
def cpStep (same : List Str) (st : List (List Str) × List Sl) (x : Sl × FD) : List (List Str) × List Sl :=
  if x.2.many = true ∧ x.2.nm ∉ same then (st.1 ++ [getL st.1 x.1], st.2 ++ [.l st.1.length]) else (st.1, st.2 ++ [x.1])
def cp (same : List Str) (fs : List FD) (held : List Sl) (ls : List (List Str)) : List (List Str) × List Sl := (held.zip fs).foldl (cpStep same) (ls, [])
def spot (fs : List FD) (z : Str) : Nat := fs.findIdx fun f => decide (f.nm = z)
def Bn.ob (b : Bn) (j : Nat) : Ob := b.obs.getD j default
def Bn.setOb (b : Bn) (j : Nat) (o : Ob) : Bn := { b with obs := b.obs.set j o }
def Bn.setSlot (b : Bn) (j at_ : Nat) (s : Sl) : Bn := b.setOb j ⟨(b.ob j).mode, (b.ob j).held.set at_ s⟩
def Bn.setMode (b : Bn) (j m : Nat) : Bn := b.setOb j ⟨some m, (b.ob j).held⟩
def Bn.newOb (b : Bn) (m : Option Nat) (p : List (List Str) × List Sl) : Bn := { b with lists := p.1, obs := b.obs ++ [⟨m, p.2⟩] }
/-- a deed on what is held -/
def deStep (fs : List FD) (wd : Str) (j : Nat) (b : Bn) (d : Str × Str) : Bn :=
  match (b.ob j).held.getD (spot fs d.2) (.w none) with
  | .w _ => b.setSlot j (spot fs d.2) (.w (if d.1 = ("set" : Str) then some wd else none))
  | .l n =>
    if d.1 = ("fresh" : Str) then ({ b with lists := b.lists ++ [b.lists.getD n []] } : Bn).setSlot j (spot fs d.2) (.l b.lists.length)
    else { b with lists := b.lists.set n (if d.1 = ("add" : Str) then b.lists.getD n [] ++ [wd] else if d.1 = ("strike" : Str) then (b.lists.getD n []).filter (fun z => !decide (z = wd)) else []) }
def Bn.push (b : Bn) (h : Option Nat) (e : Option (List Ct)) : Bn := { b with hand := b.hand ++ [h], early := b.early ++ [e] }
/-- the object that a row's call works on -/
def pre (av : Bool) (fs : List FD) (c : CD) (b : Bn) (j m : Nat) : Bn × Nat :=
  if av = true then (b.newOb (some m) (cp [] fs (b.ob j).held b.lists), b.obs.length)
  else if c.hand = ("new" : Str) then (b.newOb (some m) (cp c.same fs (b.ob j).held b.lists), b.obs.length)
  else (b, j)
def mid (fs : List FD) (c : CD) (b : Bn) (j m : Nat) (wd : Str) : Bn := c.deeds.foldl (deStep fs wd j) (b.setMode j m)
def fin (fs : List FD) (c : CD) (b : Bn) (j : Nat) : Bn :=
  if c.hand = ("last" : Str) then
    let b1 := b.newOb none (cp c.same fs (b.ob j).held b.lists)
    b1.push (some b.obs.length) (some ((b1.ob b.obs.length).held.map (ctOf b1.lists)))
  else b.push (some j) none
def doCall (av : Bool) (fs : List FD) (c : CD) (b : Bn) (j m : Nat) (wd : Str) : Bn :=
  let p := pre av fs c b j m
  fin fs c (mid fs c p.1 p.2 m wd) p.2
def callOf (cs : List CD) (nm : Str) : Option CD := cs.find? fun c => decide (c.nm = nm)
/-- the mode to which the maker comes, none if it is refused -/
def nextM (c : CD) (b : Bn) (k : Nat) : Option (Nat × Nat) :=
  match b.hand.getD k none with
  | none => none
  | some j => match (b.ob j).mode with
    | none => none
    | some m => match c.moves.getD m (-1) with
      | .ofNat n => some (j, n)
      | .negSucc _ => none
def doRow (av : Bool) (fs : List FD) (cs : List CD) (b : Bn) : Rw → Bn
  | .mk => let p := blank fs b.lists; (b.newOb (some 0) p).push (some b.obs.length) none
  | .call nm k wd => match callOf cs nm with
    | none => b.push none none
    | some c => match nextM c b k with
      | none => b.push none none
      | some (j, m) => doCall av fs c b j m (wd.getD Str.empty)
def doRows (av : Bool) (fs : List FD) (cs : List CD) (rs : List Rw) : Bn := rs.foldl (doRow av fs cs) bn0
def CD.takes (c : CD) : Bool := c.deeds.any fun d => decide (d.1 = ("set" : Str)) || (decide (d.1 = ("add" : Str)) || decide (d.1 = ("strike" : Str)))
def isLast (cs : List CD) : Rw → Bool
  | .mk => false
  | .call nm _ _ => match callOf cs nm with
    | some c => decide (c.hand = ("last" : Str))
    | none => false
/-- a row that can stand behind these -/
def RwOk (cs : List CD) (ahead : List Rw) : Rw → Prop
  | .mk => True
  | .call nm k wd => ∃ c, callOf cs nm = some c ∧ (∃ r, ahead[k]? = some r ∧ isLast cs r = false) ∧ (wd.isSome = c.takes) ∧ ∀ z, wd = some z → wordB z = true
def RwsOk (cs : List CD) (rs : List Rw) : Prop := ∀ (i : Nat) r, rs[i]? = some r → RwOk cs (rs.take i) r
def SlOk (n : Nat) (f : FD) : Sl → Prop
  | .w _ => f.many = false
  | .l k => f.many = true ∧ k < n
def HeldOk (n : Nat) (fs : List FD) (held : List Sl) : Prop := held.length = fs.length ∧ ∀ (i : Nat) s f, held[i]? = some s → fs[i]? = some f → SlOk n f s
/-- of the lists and the things -/
structure W0 (fs : List FD) (n A B C : Nat) (b : Bn) : Prop where
  held : ∀ o ∈ b.obs, HeldOk b.lists.length fs o.held
  mode : ∀ o ∈ b.obs, ∀ m, o.mode = some m → m < n
  ll : b.lists.length ≤ A
  ol : b.obs.length ≤ B
  wl : ∀ ws ∈ b.lists, ws.length ≤ C
  ws : ∀ ws ∈ b.lists, ∀ z ∈ ws, wordB z = true
  hw : ∀ o ∈ b.obs, ∀ z, Sl.w (some z) ∈ o.held → wordB z = true
structure Wf (fs : List FD) (n : Nat) (cs : List CD) (rs : List Rw) (b : Bn) : Prop where
  w : W0 fs n (10 * rs.length) (2 * rs.length) (4 * rs.length) b
  hl : b.hand.length = rs.length
  el : b.early.length = rs.length
  hand : ∀ (k : Nat) j, b.hand[k]? = some (some j) → j < b.obs.length
  /-- what a row hands has a mode just if it is none of a last -/
  mkr : ∀ (k : Nat) r j, rs[k]? = some r → b.hand[k]? = some (some j) → (b.ob j).mode.isSome = !isLast cs r
theorem HeldOk.mono {n n' : Nat} {fs : List FD} {held : List Sl} (h : HeldOk n fs held) (l : n ≤ n') : HeldOk n' fs held := ⟨h.1, fun i s f hs hf => by
  have := h.2 i s f hs hf
  cases s with
  | w o => exact this
  | l k => exact ⟨this.1, Nat.lt_of_lt_of_le this.2 l⟩⟩
theorem W0.mono {fs : List FD} {n A B C A' B' C' : Nat} {b : Bn} (h : W0 fs n A B C b) (a : A ≤ A') (bb : B ≤ B') (c : C ≤ C') : W0 fs n A' B' C' b :=
  ⟨h.held, h.mode, Nat.le_trans h.ll a, Nat.le_trans h.ol bb, fun ws m => Nat.le_trans (h.wl ws m) c, h.ws, h.hw⟩
theorem getD_mem {α : Type} {l : List α} {i : Nat} {d : α} (h : i < l.length) : l.getD i d ∈ l := by
  rw [List.getD_eq_getElem?_getD, List.getElem?_eq_getElem h]
  exact List.getElem_mem h
theorem ob_mem {b : Bn} {j : Nat} (h : j < b.obs.length) : b.ob j ∈ b.obs := getD_mem h
theorem ob_get {b : Bn} {j : Nat} (h : j < b.obs.length) : b.obs[j]? = some (b.ob j) := by
  rw [List.getElem?_eq_getElem h]
  unfold Bn.ob
  rw [List.getD_eq_getElem?_getD, List.getElem?_eq_getElem h]
  rfl
/-- a copy, or a blank one: the lists grow, what is held is as it should be -/
structure Grown (fs : List FD) (k C : Nat) (ls : List (List Str)) (p : List (List Str) × List Sl) : Prop where
  pre : ls <+: p.1
  ll : p.1.length ≤ ls.length + k
  held : p.2.length = k ∧ ∀ (i : Nat) s f, p.2[i]? = some s → fs[i]? = some f → SlOk p.1.length f s
  wl : ∀ ws ∈ p.1, ws.length ≤ C
  ws : ∀ ws ∈ p.1, ∀ z ∈ ws, wordB z = true
  hw : ∀ z, Sl.w (some z) ∈ p.2 → wordB z = true
theorem Grown.step {fs : List FD} {k C : Nat} {ls : List (List Str)} {p p' : List (List Str) × List Sl} {f : FD} (h : Grown fs k C ls p) (hf : fs[k]? = some f)
    (hp : (∃ ws, p' = (p.1 ++ [ws], p.2 ++ [.l p.1.length]) ∧ f.many = true ∧ ws.length ≤ C ∧ ∀ z ∈ ws, wordB z = true) ∨ (∃ s, p' = (p.1, p.2 ++ [s]) ∧ SlOk p.1.length f s ∧ ∀ z, s = .w (some z) → wordB z = true)) : Grown fs (k + 1) C ls p' := by
  have at_ : ∀ {s : Sl} {i : Nat} {s' : Sl}, (p.2 ++ [s])[i]? = some s' → (i < p.2.length ∧ p.2[i]? = some s') ∨ (i = k ∧ s' = s) := fun {s i s'} e => by
    by_cases q : i < p.2.length
    · rw [List.getElem?_append_left q] at e
      exact .inl ⟨q, e⟩
    · rw [List.getElem?_append_right (by omega)] at e
      have : i - p.2.length = 0 := by
        have := (List.getElem?_eq_some_iff.mp e).1
        simp only [List.length_cons, List.length_nil] at this
        omega
      rw [this] at e
      cases e
      exact .inr ⟨by have := h.held.1; omega, rfl⟩
  rcases hp with ⟨ws, rfl, hm, hl, hw⟩ | ⟨s, rfl, hs, hw⟩
  · refine ⟨h.pre.trans (List.prefix_append _ _), ?_, ⟨?_, fun i s f' e ef => ?_⟩, fun x m => ?_, fun x m => ?_, fun z m => ?_⟩
    · rw [List.length_append]
      have := h.ll
      show p.1.length + 1 ≤ _
      omega
    · rw [List.length_append, h.held.1]
      rfl
    · rcases at_ e with ⟨_, e⟩ | ⟨rfl, rfl⟩
      · have := h.held.2 i s f' e ef
        cases s with
        | w o => exact this
        | l k => exact ⟨this.1, by rw [List.length_append]; exact Nat.lt_of_lt_of_le this.2 (Nat.le_add_right ..)⟩
      · rw [hf] at ef
        cases ef
        exact ⟨hm, by rw [List.length_append]; exact Nat.lt_succ_self _⟩
    · rcases List.mem_append.mp m with m | m
      · exact h.wl x m
      · rw [List.mem_singleton.mp m]
        exact hl
    · rcases List.mem_append.mp m with m | m
      · exact h.ws x m
      · rw [List.mem_singleton.mp m]
        exact hw
    · rcases List.mem_append.mp m with m | m
      · exact h.hw z m
      · cases List.mem_singleton.mp m
  · refine ⟨h.pre, ?_, ⟨?_, fun i s' f' e ef => ?_⟩, h.wl, h.ws, fun z m => ?_⟩
    · have := h.ll
      show p.1.length ≤ _
      omega
    · rw [List.length_append, h.held.1]
      rfl
    · rcases at_ e with ⟨_, e⟩ | ⟨rfl, rfl⟩
      · exact h.held.2 i s' f' e ef
      · rw [hf] at ef
        cases ef
        exact hs
    · rcases List.mem_append.mp m with m | m
      · exact h.hw z m
      · exact hw z (List.mem_singleton.mp m).symm
theorem grown0 {fs : List FD} {C : Nat} {ls : List (List Str)} (wl : ∀ ws ∈ ls, ws.length ≤ C) (ws : ∀ ws ∈ ls, ∀ z ∈ ws, wordB z = true) : Grown fs 0 C ls (ls, []) := ⟨List.prefix_refl _, Nat.le_refl _, ⟨rfl, fun i s f h => by simp at h⟩, wl, ws, nofun⟩
theorem fold_take {α β : Type} (g : β → α → β) (z : β) {xs : List α} {i : Nat} {x : α} (h : xs[i]? = some x) : (xs.take (i + 1)).foldl g z = g ((xs.take i).foldl g z) x := by
  rw [List.take_succ, h, List.foldl_append]
  rfl
theorem bl_grown {fs : List FD} {C : Nat} {ls : List (List Str)} (wl : ∀ ws ∈ ls, ws.length ≤ C) (ws : ∀ ws ∈ ls, ∀ z ∈ ws, wordB z = true) : ∀ i, i ≤ fs.length → Grown fs i C ls ((fs.take i).foldl blStep (ls, []))
  | 0, _ => grown0 wl ws
  | i + 1, h => by
    have hf : fs[i]? = some fs[i] := List.getElem?_eq_getElem (by omega)
    rw [fold_take _ _ hf]
    refine (bl_grown wl ws i (by omega)).step hf ?_
    unfold blStep
    split
    · rename_i m
      exact .inl ⟨[], rfl, m, Nat.zero_le _, nofun⟩
    · rename_i m
      exact .inr ⟨.w none, rfl, by rw [Bool.not_eq_true] at m; exact m, nofun⟩
theorem cp_grown {same : List Str} {fs : List FD} {held : List Sl} {C : Nat} {ls : List (List Str)} (ho : HeldOk ls.length fs held) (hw : ∀ z, Sl.w (some z) ∈ held → wordB z = true) (wl : ∀ ws ∈ ls, ws.length ≤ C) (ws : ∀ ws ∈ ls, ∀ z ∈ ws, wordB z = true) :
    ∀ i, i ≤ fs.length → Grown fs i C ls (((held.zip fs).take i).foldl (cpStep same) (ls, []))
  | 0, _ => by rw [List.take_zero]; exact grown0 wl ws
  | i + 1, h => by
    have hf : fs[i]? = some fs[i] := List.getElem?_eq_getElem (by omega)
    have hh : held[i]? = some (held[i]'(by rw [ho.1]; omega)) := List.getElem?_eq_getElem (by rw [ho.1]; omega)
    have hz : (held.zip fs)[i]? = some (held[i]'(by rw [ho.1]; omega), fs[i]) := by rw [List.getElem?_zip_eq_some]; exact ⟨hh, hf⟩
    rw [fold_take _ _ hz]
    have ih := cp_grown (same := same) ho hw wl ws i (by omega)
    refine ih.step hf ?_
    have so := ho.2 i _ _ hh hf
    have mem := List.mem_of_getElem? hh
    revert so mem
    generalize held[i]'(by rw [ho.1]; omega) = s
    intro so mem
    unfold cpStep
    have hle : ls.length ≤ (((held.zip fs).take i).foldl (cpStep same) (ls, [])).1.length := ih.pre.length_le
    split
    · rename_i m
      refine .inl ⟨_, rfl, m.1, ?_, ?_⟩
      · cases s with
        | w o => exact Nat.zero_le _
        | l k => exact ih.wl _ (getD_mem (Nat.lt_of_lt_of_le so.2 hle))
      · cases s with
        | w o => exact nofun
        | l k => exact ih.ws _ (getD_mem (Nat.lt_of_lt_of_le so.2 hle))
    · refine .inr ⟨s, rfl, ?_, fun z e => hw z (e ▸ mem)⟩
      cases s with
      | w o => exact so
      | l k => exact ⟨so.1, Nat.lt_of_lt_of_le so.2 hle⟩
theorem blank_ok {fs : List FD} {C : Nat} {ls : List (List Str)} (wl : ∀ ws ∈ ls, ws.length ≤ C) (ws : ∀ ws ∈ ls, ∀ z ∈ ws, wordB z = true) : Grown fs fs.length C ls (blank fs ls) := by
  have := bl_grown wl ws fs.length (Nat.le_refl _)
  rw [List.take_length] at this
  exact this
theorem cp_ok {same : List Str} {fs : List FD} {held : List Sl} {C : Nat} {ls : List (List Str)} (ho : HeldOk ls.length fs held) (hw : ∀ z, Sl.w (some z) ∈ held → wordB z = true) (wl : ∀ ws ∈ ls, ws.length ≤ C) (ws : ∀ ws ∈ ls, ∀ z ∈ ws, wordB z = true) : Grown fs fs.length C ls (cp same fs held ls) := by
  have := cp_grown (same := same) ho hw wl ws fs.length (Nat.le_refl _)
  rw [List.take_of_length_le (by rw [List.length_zip, ho.1]; omega)] at this
  exact this
/-- a new thing -/
theorem W0.new {fs : List FD} {n A B C : Nat} {b : Bn} {m : Option Nat} {p : List (List Str) × List Sl} (h : W0 fs n A B C b) (g : Grown fs fs.length C b.lists p) (hm : ∀ m', m = some m' → m' < n) : W0 fs n (A + fs.length) (B + 1) C (b.newOb m p) where
  held := fun o mo => by
    rcases List.mem_append.mp mo with mo | mo
    · exact (h.held o mo).mono g.pre.length_le
    · rw [List.mem_singleton.mp mo]
      exact ⟨g.held.1, g.held.2⟩
  mode := fun o mo => by
    rcases List.mem_append.mp mo with mo | mo
    · exact h.mode o mo
    · rw [List.mem_singleton.mp mo]
      exact hm
  ll := by
    have h1 := g.ll
    have h2 := h.ll
    show p.1.length ≤ _
    omega
  ol := by
    show (b.obs ++ [_]).length ≤ _
    rw [List.length_append]
    have := h.ol
    show b.obs.length + 1 ≤ _
    omega
  wl := g.wl
  ws := g.ws
  hw := fun o mo => by
    rcases List.mem_append.mp mo with mo | mo
    · exact h.hw o mo
    · rw [List.mem_singleton.mp mo]
      exact g.hw
theorem W0.set {fs : List FD} {n A B C : Nat} {b : Bn} {j : Nat} {o : Ob} (h : W0 fs n A B C b) (hh : HeldOk b.lists.length fs o.held) (hm : ∀ m, o.mode = some m → m < n) (hw : ∀ z, Sl.w (some z) ∈ o.held → wordB z = true) : W0 fs n A B C (b.setOb j o) where
  held := fun o' mo => by
    rcases List.mem_or_eq_of_mem_set mo with mo | rfl
    · exact h.held o' mo
    · exact hh
  mode := fun o' mo => by
    rcases List.mem_or_eq_of_mem_set mo with mo | rfl
    · exact h.mode o' mo
    · exact hm
  ll := h.ll
  ol := by
    show (b.obs.set j o).length ≤ B
    rw [List.length_set]
    exact h.ol
  wl := h.wl
  ws := h.ws
  hw := fun o' mo => by
    rcases List.mem_or_eq_of_mem_set mo with mo | rfl
    · exact h.hw o' mo
    · exact hw
theorem HeldOk.set {n : Nat} {fs : List FD} {held : List Sl} {i : Nat} {s : Sl} (h : HeldOk n fs held) (hs : ∀ f, fs[i]? = some f → SlOk n f s) : HeldOk n fs (held.set i s) := by
  refine ⟨by rw [List.length_set]; exact h.1, fun k s' f e ef => ?_⟩
  rw [List.getElem?_set] at e
  split at e
  · split at e
    · cases e
      rename_i q _
      subst q
      exact hs f ef
    · cases e
  · exact h.2 k s' f e ef
theorem set_w {held : List Sl} {i : Nat} {s : Sl} {z : Str} (h : Sl.w (some z) ∈ held.set i s) : Sl.w (some z) ∈ held ∨ s = .w (some z) := by
  rcases List.mem_or_eq_of_mem_set h with h | h
  · exact .inl h
  · exact .inr h.symm
theorem spot_at {fs : List FD} {f : FD} (nd : (fs.map (·.nm)).Nodup) (m : f ∈ fs) : fs[spot fs f.nm]? = some f := by
  induction fs with
  | nil => cases m
  | cons g gs ih =>
    rw [List.map_cons, List.nodup_cons] at nd
    unfold spot
    rw [List.findIdx_cons]
    by_cases e : g.nm = f.nm
    · rw [decide_eq_true e]
      rcases List.mem_cons.mp m with rfl | m
      · rfl
      · exact absurd (List.mem_map.mpr ⟨f, m, e.symm⟩) nd.1
    · rw [decide_eq_false e]
      rcases List.mem_cons.mp m with rfl | m
      · exact absurd rfl e
      · exact ih nd.2 m
/-- what a deed's field holds -/
theorem deed_slot {fs : List FD} {n A B C : Nat} {b : Bn} {j : Nat} {d : Str × Str} (h : W0 fs n A B C b) (hj : j < b.obs.length) (nd : (fs.map (·.nm)).Nodup) (hd : DeOk fs d) :
    ∃ f s, f ∈ fs ∧ f.nm = d.2 ∧ f.many ∈ deedSorts d.1 ∧ fs[spot fs d.2]? = some f ∧ (b.ob j).held[spot fs d.2]? = some s ∧ SlOk b.lists.length f s := by
  obtain ⟨f, m, e, hm⟩ := hd
  have hf := spot_at nd m
  rw [e] at hf
  have ho := h.held _ (ob_mem hj)
  have l : spot fs d.2 < (b.ob j).held.length := by
    rw [ho.1]
    exact (List.getElem?_eq_some_iff.mp hf).1
  exact ⟨f, _, m, e, hm, hf, List.getElem?_eq_getElem l, ho.2 _ _ _ (List.getElem?_eq_getElem l) hf⟩
theorem deStep_ok {fs : List FD} {n A B C : Nat} {b : Bn} {j : Nat} {d : Str × Str} {wd : Str} (h : W0 fs n A B C b) (hj : j < b.obs.length) (nd : (fs.map (·.nm)).Nodup) (hd : DeOk fs d) (hw : d.1 = ("set" : Str) ∨ d.1 = ("add" : Str) → wordB wd = true) :
    W0 fs n (A + 1) B (C + 1) (deStep fs wd j b d) ∧ (deStep fs wd j b d).obs.length = b.obs.length := by
  obtain ⟨f, s, m, e, hm, hf, hs, so⟩ := deed_slot h hj nd hd
  have om := ob_mem hj
  have ho := h.held _ om
  unfold deStep
  rw [List.getD_eq_getElem?_getD, hs]
  cases s with
  | w o =>
    refine ⟨(h.set (j := j) (o := ⟨(b.ob j).mode, _⟩) (ho.set fun f' ef => ?_) (fun m e => h.mode (b.ob j) om m e) fun z mz => ?_).mono (Nat.le_succ _) (Nat.le_refl _) (Nat.le_succ _), by show (b.obs.set _ _).length = _; rw [List.length_set]⟩
    · rw [hf] at ef
      cases ef
      exact so
    · rcases set_w mz with q | q
      · exact h.hw _ om z q
      · split at q
        · rename_i ds
          cases q
          exact hw (.inl ds)
        · cases q
  | l k =>
    dsimp only [Option.getD_some]
    split
    · have gl : b.lists.getD k [] ∈ b.lists := getD_mem so.2
      have h1 : W0 fs n (A + 1) B C { b with lists := b.lists ++ [b.lists.getD k []] } := ⟨fun o mo => (h.held o mo).mono (by rw [List.length_append]; exact Nat.le_add_right ..), h.mode, by
          rw [List.length_append]
          have := h.ll
          show b.lists.length + 1 ≤ _
          omega, h.ol, fun ws m => by
          rcases List.mem_append.mp m with m | m
          · exact h.wl ws m
          · rw [List.mem_singleton.mp m]
            exact h.wl _ gl, fun ws m => by
          rcases List.mem_append.mp m with m | m
          · exact h.ws ws m
          · rw [List.mem_singleton.mp m]
            exact h.ws _ gl, h.hw⟩
      refine ⟨(h1.set (j := j) (o := ⟨(b.ob j).mode, _⟩) ((h1.held _ om).set fun f' ef => ?_) (fun m e => h.mode (b.ob j) om m e) fun z mz => ?_).mono (Nat.le_refl _) (Nat.le_refl _) (Nat.le_succ _), by show (b.obs.set _ _).length = _; rw [List.length_set]⟩
      · rw [hf] at ef
        cases ef
        exact ⟨so.1, by rw [List.length_append]; exact Nat.lt_succ_self _⟩
      · rcases set_w mz with q | q
        · exact h.hw _ om z q
        · cases q
    · refine ⟨⟨fun o mo => by rw [List.length_set]; exact h.held o mo, h.mode, by rw [List.length_set]; exact Nat.le_succ_of_le h.ll, h.ol, fun ws m => ?_, fun ws m => ?_, h.hw⟩, rfl⟩
      · rcases List.mem_or_eq_of_mem_set m with m | rfl
        · exact Nat.le_succ_of_le (h.wl ws m)
        · have := h.wl _ (getD_mem so.2 (d := []))
          split
          · rw [List.length_append]
            exact Nat.succ_le_succ this
          split
          · exact Nat.le_succ_of_le (Nat.le_trans (List.length_filter_le ..) this)
          · exact Nat.zero_le _
      · rcases List.mem_or_eq_of_mem_set m with m | rfl
        · exact h.ws ws m
        · have := h.ws _ (getD_mem so.2 (d := []))
          split
          · rename_i da
            intro z mz
            rcases List.mem_append.mp mz with mz | mz
            · exact this z mz
            · rw [List.mem_singleton.mp mz]
              exact hw (.inr da)
          split
          · exact fun z mz => this z (List.mem_filter.mp mz).1
          · exact nofun
theorem deeds_ok {fs : List FD} {n A B C : Nat} {b : Bn} {j : Nat} {ds : List (Str × Str)} {wd : Str} (h : W0 fs n A B C b) (hj : j < b.obs.length) (nd : (fs.map (·.nm)).Nodup) (hd : ∀ d ∈ ds, DeOk fs d) (hw : ∀ d ∈ ds, d.1 = ("set" : Str) ∨ d.1 = ("add" : Str) → wordB wd = true) :
    ∀ i, i ≤ ds.length → W0 fs n (A + i) B (C + i) ((ds.take i).foldl (deStep fs wd j) b) ∧ ((ds.take i).foldl (deStep fs wd j) b).obs.length = b.obs.length
  | 0, _ => ⟨h, rfl⟩
  | i + 1, l => by
    have hi : ds[i]? = some ds[i] := List.getElem?_eq_getElem (by omega)
    obtain ⟨ih, io⟩ := deeds_ok h hj nd hd hw i (by omega)
    rw [fold_take _ _ hi]
    have m := List.mem_of_getElem? hi
    obtain ⟨q1, q2⟩ := deStep_ok (wd := wd) ih (by rw [io]; exact hj) nd (hd _ m) (hw _ m)
    exact ⟨q1, q2.trans io⟩
end MK
set_option Elab.async false
set_option linter.all false
set_option autoImplicit false
set_option maxRecDepth 100000
set_option maxHeartbeats 1000000
namespace MK
open PySem PySem.Spec PyProof.Rows L2
/-- makers stay makers, products stay products -/
structure Md (b b' : Bn) : Prop where
  len : b.obs.length ≤ b'.obs.length
  md : ∀ i, i < b.obs.length → (b'.ob i).mode.isSome = (b.ob i).mode.isSome
theorem Md.refl (b : Bn) : Md b b := ⟨Nat.le_refl _, fun _ _ => rfl⟩
theorem Md.trans {b b1 b2 : Bn} (h : Md b b1) (g : Md b1 b2) : Md b b2 := ⟨Nat.le_trans h.len g.len, fun i hi => (g.md i (Nat.lt_of_lt_of_le hi h.len)).trans (h.md i hi)⟩
theorem ob_push (b : Bn) (h : Option Nat) (e : Option (List Ct)) (i : Nat) : (b.push h e).ob i = b.ob i := rfl
theorem ob_new_lt {b : Bn} {m : Option Nat} {p : List (List Str) × List Sl} {i : Nat} (hi : i < b.obs.length) : (b.newOb m p).ob i = b.ob i := by
  unfold Bn.ob
  show (b.obs ++ [_]).getD i default = _
  rw [List.getD_eq_getElem?_getD, List.getD_eq_getElem?_getD, List.getElem?_append_left hi]
theorem ob_new {b : Bn} {m : Option Nat} {p : List (List Str) × List Sl} : (b.newOb m p).ob b.obs.length = ⟨m, p.2⟩ := by
  unfold Bn.ob
  show (b.obs ++ [_]).getD _ default = _
  rw [List.getD_eq_getElem?_getD, List.getElem?_append_right (Nat.le_refl _), Nat.sub_self]
  rfl
theorem len_new {b : Bn} {m : Option Nat} {p : List (List Str) × List Sl} : (b.newOb m p).obs.length = b.obs.length + 1 := by
  show (b.obs ++ [_]).length = _
  rw [List.length_append]
  rfl
theorem len_setOb {b : Bn} {j : Nat} {o : Ob} : (b.setOb j o).obs.length = b.obs.length := List.length_set ..
theorem ob_set {b : Bn} {j i : Nat} {o : Ob} (hj : j < b.obs.length) : (b.setOb j o).ob i = if i = j then o else b.ob i := by
  unfold Bn.ob
  show (b.obs.set j o).getD i default = _
  rw [List.getD_eq_getElem?_getD, List.getElem?_set]
  by_cases e : j = i
  · subst e
    rw [if_pos rfl, if_pos hj, if_pos rfl]
    rfl
  · rw [if_neg e, if_neg (Ne.symm e), List.getD_eq_getElem?_getD]
theorem md_new {b : Bn} {m : Option Nat} {p : List (List Str) × List Sl} : Md b (b.newOb m p) := ⟨by rw [len_new]; omega, fun i hi => by rw [ob_new_lt hi]⟩
theorem md_set {b : Bn} {j : Nat} {o : Ob} (hj : j < b.obs.length) (h : o.mode.isSome = (b.ob j).mode.isSome) : Md b (b.setOb j o) := ⟨by rw [len_setOb]; exact Nat.le_refl _, fun i hi => by
  rw [ob_set hj]
  split
  · rename_i e
    rw [e, h]
  · rfl⟩
theorem md_lists {b : Bn} {ls : List (List Str)} : Md b { b with lists := ls } := ⟨Nat.le_refl _, fun _ _ => rfl⟩
theorem md_deed {fs : List FD} {wd : Str} {j : Nat} {b : Bn} {d : Str × Str} (hj : j < b.obs.length) : Md b (deStep fs wd j b d) := by
  unfold deStep
  split
  · exact md_set hj rfl
  · split
    · exact md_lists.trans (md_set (b := { b with lists := _ }) hj rfl)
    · exact md_lists
theorem md_deeds {fs : List FD} {wd : Str} {j : Nat} : ∀ {ds : List (Str × Str)} {b : Bn}, j < b.obs.length → Md b (ds.foldl (deStep fs wd j) b)
  | [], b, _ => Md.refl b
  | d :: ds, b, hj => by
    have h1 := md_deed (fs := fs) (wd := wd) (d := d) hj
    exact h1.trans (md_deeds (Nat.lt_of_lt_of_le hj h1.len))
/-- the rows handed stay as they are noted -/
theorem hand_deed {fs : List FD} {wd : Str} {j : Nat} {b : Bn} {d : Str × Str} : (deStep fs wd j b d).hand = b.hand ∧ (deStep fs wd j b d).early = b.early := by
  unfold deStep
  split
  · exact ⟨rfl, rfl⟩
  · split <;> exact ⟨rfl, rfl⟩
theorem hand_deeds {fs : List FD} {wd : Str} {j : Nat} : ∀ {ds : List (Str × Str)} {b : Bn}, (ds.foldl (deStep fs wd j) b).hand = b.hand ∧ (ds.foldl (deStep fs wd j) b).early = b.early
  | [], b => ⟨rfl, rfl⟩
  | d :: ds, b => by
    have h1 := hand_deed (fs := fs) (wd := wd) (j := j) (b := b) (d := d)
    have h2 := hand_deeds (fs := fs) (wd := wd) (j := j) (ds := ds) (b := deStep fs wd j b d)
    exact ⟨h2.1.trans h1.1, h2.2.trans h1.2⟩
theorem pre_hand {av : Bool} {fs : List FD} {c : CD} {b : Bn} {j m : Nat} : (pre av fs c b j m).1.hand = b.hand ∧ (pre av fs c b j m).1.early = b.early := by
  unfold pre
  split
  · exact ⟨rfl, rfl⟩
  · split <;> exact ⟨rfl, rfl⟩
theorem pre_md {av : Bool} {fs : List FD} {c : CD} {b : Bn} {j m : Nat} : Md b (pre av fs c b j m).1 := by
  unfold pre
  split
  · exact md_new
  · split
    · exact md_new
    · exact Md.refl b
theorem pre_lt {av : Bool} {fs : List FD} {c : CD} {b : Bn} {j m : Nat} (hj : j < b.obs.length) : (pre av fs c b j m).2 < (pre av fs c b j m).1.obs.length ∧ ((b.ob j).mode.isSome = true → ((pre av fs c b j m).1.ob (pre av fs c b j m).2).mode.isSome = true) := by
  unfold pre
  split
  · exact ⟨by rw [len_new]; exact Nat.lt_succ_self _, fun _ => by rw [ob_new]; rfl⟩
  · split
    · exact ⟨by rw [len_new]; exact Nat.lt_succ_self _, fun _ => by rw [ob_new]; rfl⟩
    · exact ⟨hj, fun h => h⟩
theorem pre_w {av : Bool} {fs : List FD} {n A B C : Nat} {c : CD} {b : Bn} {j m : Nat} (h : W0 fs n A B C b) (hj : j < b.obs.length) (hm : m < n) : W0 fs n (A + fs.length) (B + 1) C (pre av fs c b j m).1 := by
  have om := ob_mem hj
  have g : ∀ same, Grown fs fs.length C b.lists (cp same fs (b.ob j).held b.lists) := fun same => cp_ok (h.held _ om) (h.hw _ om) h.wl h.ws
  have hm' : ∀ m', some m = some m' → m' < n := fun m' e => by cases e; exact hm
  unfold pre
  split
  · exact h.new (g _) hm'
  · split
    · exact h.new (g _) hm'
    · exact h.mono (Nat.le_add_right ..) (Nat.le_succ _) (Nat.le_refl _)
theorem mid_w {fs : List FD} {n A B C : Nat} {c : CD} {b : Bn} {j m : Nat} {wd : Str} (h : W0 fs n A B C b) (hj : j < b.obs.length) (hm : m < n) (nd : (fs.map (·.nm)).Nodup) (hd : ∀ d ∈ c.deeds, DeOk fs d) (hw : ∀ d ∈ c.deeds, d.1 = ("set" : Str) ∨ d.1 = ("add" : Str) → wordB wd = true) :
    W0 fs n (A + c.deeds.length) B (C + c.deeds.length) (mid fs c b j m wd) ∧ (mid fs c b j m wd).obs.length = b.obs.length := by
  have om := ob_mem hj
  have h1 : W0 fs n A B C (b.setMode j m) := h.set (h.held (b.ob j) om) (fun m' e => by cases e; exact hm) (h.hw (b.ob j) om)
  have := deeds_ok h1 (j := j) (by rw [show (b.setMode j m).obs.length = _ from len_setOb]; exact hj) nd hd hw c.deeds.length (Nat.le_refl _)
  rw [List.take_length] at this
  exact ⟨this.1, this.2.trans len_setOb⟩
theorem mid_md {fs : List FD} {c : CD} {b : Bn} {j m : Nat} {wd : Str} (hj : j < b.obs.length) (hm : (b.ob j).mode.isSome = true) : Md b (mid fs c b j m wd) :=
  (md_set (o := ⟨some m, (b.ob j).held⟩) hj (by rw [hm]; rfl)).trans (md_deeds (b := b.setMode j m) (by rw [show (b.setMode j m).obs.length = _ from len_setOb]; exact hj))
theorem mid_hand {fs : List FD} {c : CD} {b : Bn} {j m : Nat} {wd : Str} : (mid fs c b j m wd).hand = b.hand ∧ (mid fs c b j m wd).early = b.early := hand_deeds (b := b.setMode j m)
theorem fin_w {fs : List FD} {n A B C : Nat} {c : CD} {b : Bn} {j : Nat} (h : W0 fs n A B C b) (hj : j < b.obs.length) : W0 fs n (A + fs.length) (B + 1) C (fin fs c b j) := by
  have om := ob_mem hj
  have pu : ∀ {A B : Nat} {b : Bn} {x e}, W0 fs n A B C b → W0 fs n A B C (b.push x e) := fun h => ⟨h.held, h.mode, h.ll, h.ol, h.wl, h.ws, h.hw⟩
  unfold fin
  split
  · exact pu (h.new (cp_ok (h.held _ om) (h.hw _ om) h.wl h.ws) nofun)
  · exact pu (h.mono (Nat.le_add_right ..) (Nat.le_succ _) (Nat.le_refl _))
theorem fin_md {fs : List FD} {c : CD} {b : Bn} {j : Nat} : Md b (fin fs c b j) := by
  unfold fin
  split
  · exact ⟨md_new.len, md_new.md⟩
  · exact ⟨Nat.le_refl _, fun _ _ => rfl⟩
/-- what the row hands, and whether that is a maker -/
theorem fin_hand {fs : List FD} {c : CD} {b : Bn} {j : Nat} (hj : j < b.obs.length) (hm : (b.ob j).mode.isSome = true) : ∃ h e, (fin fs c b j).hand = b.hand ++ [some h] ∧ (fin fs c b j).early = b.early ++ [e] ∧ h < (fin fs c b j).obs.length ∧ ((fin fs c b j).ob h).mode.isSome = !decide (c.hand = ("last" : Str)) := by
  unfold fin
  split
  · rename_i q
    refine ⟨_, _, rfl, rfl, ?_, ?_⟩
    · show _ < (b.newOb none _).obs.length
      rw [len_new]
      exact Nat.lt_succ_self _
    · rw [ob_push, ob_new, decide_eq_true q]
      rfl
  · rename_i q
    refine ⟨j, none, rfl, rfl, hj, ?_⟩
    rw [ob_push, hm, decide_eq_false q]
    rfl
theorem callOf_mem {cs : List CD} {nm : Str} {c : CD} (h : callOf cs nm = some c) : c ∈ cs ∧ c.nm = nm := ⟨List.mem_of_find?_eq_some h, by
  have := List.find?_some h
  exact of_decide_eq_true this⟩
theorem takes_w {c : CD} {d : Str × Str} (m : d ∈ c.deeds) (h : d.1 = ("set" : Str) ∨ d.1 = ("add" : Str) ∨ d.1 = ("strike" : Str)) : c.takes = true := by
  unfold CD.takes
  rw [List.any_eq_true]
  refine ⟨d, m, ?_⟩
  rcases h with h | h | h
  · rw [h]; rfl
  · rw [h]; rfl
  · rw [h]; rfl
/-- a row's word, where its call takes one -/
theorem row_word {c : CD} {wd : Option Str} (h1 : wd.isSome = c.takes) (h2 : ∀ z, wd = some z → wordB z = true) : ∀ d ∈ c.deeds, d.1 = ("set" : Str) ∨ d.1 = ("add" : Str) → wordB (wd.getD Str.empty) = true := fun d m h => by
  have t := takes_w m (h.imp id Or.inl)
  rw [t] at h1
  cases wd with
  | none => cases h1
  | some z => exact h2 z rfl
theorem nextM_some {c : CD} {b : Bn} {k j m : Nat} (h : nextM c b k = some (j, m)) : b.hand[k]? = some (some j) ∧ (b.ob j).mode.isSome = true ∧ ∃ m0, (b.ob j).mode = some m0 ∧ c.moves.getD m0 (-1) = (m : Int) := by
  unfold nextM at h
  split at h
  · cases h
  · rename_i j' e
    split at h
    · cases h
    · rename_i m0 e2
      split at h
      · rename_i n e3
        cases h
        refine ⟨?_, by rw [e2]; rfl, m0, e2, e3⟩
        rw [List.getD_eq_getElem?_getD] at e
        cases q : b.hand[k]? with
        | none => rw [q] at e; cases e
        | some x => rw [q] at e; exact congrArg some e
      · cases h
theorem snoc_at {α : Type} {xs : List α} {x : α} {k : Nat} {y : α} (h : (xs ++ [x])[k]? = some y) : (k < xs.length ∧ xs[k]? = some y) ∨ (k = xs.length ∧ y = x) := by
  by_cases q : k < xs.length
  · rw [List.getElem?_append_left q] at h
    exact .inl ⟨q, h⟩
  · rw [List.getElem?_append_right (by omega)] at h
    have : k - xs.length = 0 := by
      have := (List.getElem?_eq_some_iff.mp h).1
      simp only [List.length_cons, List.length_nil] at this
      omega
    rw [this] at h
    cases h
    exact .inr ⟨by omega, rfl⟩
theorem wf0 {fs : List FD} {n : Nat} {cs : List CD} : Wf fs n cs [] bn0 := ⟨⟨nofun, nofun, Nat.zero_le _, Nat.zero_le _, nofun, nofun, nofun⟩, rfl, rfl, fun k j h => by simp [bn0] at h, fun k r j h => by simp at h⟩
/-- one row more -/
theorem Wf.step {fs : List FD} {n : Nat} {cs : List CD} {rs : List Rw} {r : Rw} {b b' : Bn} {x : Option Nat} {e : Option (List Ct)} (h : Wf fs n cs rs b) (w : W0 fs n (10 * rs.length + 10) (2 * rs.length + 2) (4 * rs.length + 4) b') (md : Md b b') (hh : b'.hand = b.hand ++ [x]) (he : b'.early = b.early ++ [e])
    (hx : ∀ j, x = some j → j < b'.obs.length ∧ (b'.ob j).mode.isSome = !isLast cs r) : Wf fs n cs (rs ++ [r]) b' := by
  have l : (rs ++ [r]).length = rs.length + 1 := by rw [List.length_append]; rfl
  refine ⟨?_, ?_, ?_, fun k j hk => ?_, fun k r' j hr hk => ?_⟩
  · rw [l]
    exact w.mono (by omega) (by omega) (by omega)
  · rw [hh, l, List.length_append, h.hl]
    rfl
  · rw [he, l, List.length_append, h.el]
    rfl
  · rw [hh] at hk
    rcases snoc_at hk with ⟨_, hk⟩ | ⟨_, e⟩
    · exact Nat.lt_of_lt_of_le (h.hand k j hk) md.len
    · exact (hx j e.symm).1
  · rw [hh] at hk
    rcases snoc_at hk with ⟨q, hk⟩ | ⟨q, e⟩
    · rw [h.hl] at q
      rw [List.getElem?_append_left q] at hr
      rw [md.md j (h.hand k j hk)]
      exact h.mkr k r' j hr hk
    · rw [h.hl] at q
      rw [q, List.getElem?_append_right (Nat.le_refl _), Nat.sub_self] at hr
      cases hr
      exact (hx j e.symm).2
theorem W0.push {fs : List FD} {n A B C : Nat} {b : Bn} {x : Option Nat} {e : Option (List Ct)} (h : W0 fs n A B C b) : W0 fs n A B C (b.push x e) := ⟨h.held, h.mode, h.ll, h.ol, h.wl, h.ws, h.hw⟩
theorem move_lt {fs : List FD} {n : Nat} {c : CD} {m0 m : Nat} (h : CdOk fs n c) (e : c.moves.getD m0 (-1) = (m : Int)) : m < n := by
  rw [List.getD_eq_getElem?_getD] at e
  cases q : c.moves[m0]? with
  | none => rw [q] at e; cases e
  | some i =>
    rw [q] at e
    have e : i = (m : Int) := e
    have := h.move i (List.mem_of_getElem? q)
    omega
theorem Wf.row {av : Bool} {fs : List FD} {n : Nat} {cs : List CD} {rs : List Rw} {r : Rw} {b : Bn} (h : Wf fs n cs rs b) (ok : KdOk fs n cs) (hr : RwOk cs rs r) : Wf fs n cs (rs ++ [r]) (doRow av fs cs b r) := by
  have f3 := ok.fields.le
  have none_ : Wf fs n cs (rs ++ [r]) (b.push none none) := h.step (h.w.push.mono (by omega) (by omega) (by omega)) ⟨Nat.le_refl _, fun _ _ => rfl⟩ rfl rfl nofun
  cases r with
  | mk =>
    show Wf fs n cs _ ((b.newOb (some 0) (blank fs b.lists)).push (some b.obs.length) none)
    refine h.step (x := some b.obs.length) (e := none) ((h.w.new (blank_ok h.w.wl h.w.ws) fun m' e => by cases e; exact ok.pos).push.mono (by omega) (by omega) (by omega)) ⟨md_new.len, md_new.md⟩ rfl rfl fun j e => ?_
    cases e
    refine ⟨?_, ?_⟩
    · show _ < (b.newOb _ _).obs.length
      rw [len_new]
      exact Nat.lt_succ_self _
    · rw [ob_push, ob_new]
      rfl
  | call nm k wd =>
    obtain ⟨c, hc, ⟨r0, hr0, hl⟩, hw1, hw2⟩ := hr
    obtain ⟨cm, rfl⟩ := callOf_mem hc
    have cok := ok.calls c cm
    show Wf fs n cs _ (match callOf cs c.nm with | none => b.push none none | some c => (match nextM c b k with | none => b.push none none | some (j, m) => doCall av fs c b j m (wd.getD Str.empty)))
    rw [hc]
    dsimp only
    cases hn : nextM c b k with
    | none => exact none_
    | some jm =>
      obtain ⟨j, m⟩ := jm
      obtain ⟨hk, hs, m0, hm0, hmv⟩ := nextM_some hn
      have hj := h.hand k j hk
      have hm : m < n := move_lt cok hmv
      have p1 := pre_w (av := av) (c := c) h.w hj hm
      obtain ⟨p2, p3⟩ := pre_lt (av := av) (fs := fs) (c := c) (m := m) hj
      have p4 := pre_hand (av := av) (fs := fs) (c := c) (b := b) (j := j) (m := m)
      have p5 := pre_md (av := av) (fs := fs) (c := c) (b := b) (j := j) (m := m)
      show Wf fs n cs _ (fin fs c (mid fs c (pre av fs c b j m).1 (pre av fs c b j m).2 m (wd.getD Str.empty)) (pre av fs c b j m).2)
      generalize (pre av fs c b j m).1 = b1 at p1 p2 p3 p4 p5
      generalize (pre av fs c b j m).2 = j1 at p2 p3
      obtain ⟨q1, q2⟩ := mid_w (wd := wd.getD Str.empty) (c := c) p1 p2 hm ok.fields.nd cok.deed (row_word hw1 hw2)
      have q3 := mid_md (fs := fs) (c := c) (m := m) (wd := wd.getD Str.empty) p2 (p3 hs)
      have q4 := mid_hand (fs := fs) (c := c) (b := b1) (j := j1) (m := m) (wd := wd.getD Str.empty)
      generalize mid fs c b1 j1 m (wd.getD Str.empty) = b2 at q1 q2 q3 q4
      have hj2 : j1 < b2.obs.length := by rw [q2]; exact p2
      have hs2 : (b2.ob j1).mode.isSome = true := by rw [q3.md j1 p2]; exact p3 hs
      obtain ⟨x, e, r1, r2, r3, r4⟩ := fin_hand (fs := fs) (c := c) hj2 hs2
      have d4 := cok.deeds
      refine h.step (x := some x) (e := e) ((fin_w q1 hj2).mono (by omega) (by omega) (by omega)) (p5.trans (q3.trans fin_md)) ?_ ?_ fun j' e' => ?_
      · rw [r1, q4.1, p4.1]
      · rw [r2, q4.2, p4.2]
      · cases e'
        refine ⟨r3, ?_⟩
        rw [r4]
        show _ = !(match callOf cs c.nm with | some c => decide (c.hand = ("last" : Str)) | none => false)
        rw [hc]
theorem Wf.rows {av : Bool} {fs : List FD} {n : Nat} {cs : List CD} {rs : List Rw} (ok : KdOk fs n cs) (hr : RwsOk cs rs) : ∀ i, i ≤ rs.length → Wf fs n cs (rs.take i) (doRows av fs cs (rs.take i))
  | 0, _ => wf0
  | i + 1, h => by
    have hi : rs[i]? = some rs[i] := List.getElem?_eq_getElem (by omega)
    have ih := Wf.rows (av := av) ok hr i (by omega)
    unfold doRows at ih ⊢
    rw [fold_take (fun x y => doRow av fs cs x y) _ hi]
    rw [List.take_succ, hi]
    exact ih.row ok (hr i _ hi)
end MK
set_option Elab.async false
set_option linter.all false
set_option autoImplicit false
set_option maxRecDepth 100000
set_option maxHeartbeats 1000000
namespace MK
open PySem PySem.Spec PyProof.Rows L2
inductive Ro where
  | la
  | ha
  | ea
  | ls (i : Nat)
  | ox (j : Nat)
  | os (j : Nat)
abbrev Rl := Addr → Option Ro
def Rl.put (rl : Rl) (p : Addr) (r : Ro) : Rl := fun a => if a = p then some r else rl a
theorem put_at {rl : Rl} {p : Addr} {r : Ro} : rl.put p r p = some r := if_pos rfl
theorem put_ne {rl : Rl} {p a : Addr} {r : Ro} (h : a ≠ p) : rl.put p r a = rl a := if_neg h
/-- all but what has a role -/
def Hr (rl : Rl) (H : Hp) : Hp := fun a => match rl a with
  | none => H a
  | some _ => none
theorem hr_get {rl : Rl} {H : Hp} {a : Addr} {o : HO} (h : H a = some o) (n : rl a = none) : Hr rl H a = some o := by
  unfold Hr
  rw [n]
  exact h
theorem hr_some {rl : Rl} {H : Hp} {a : Addr} {o : HO} (h : Hr rl H a = some o) : rl a = none ∧ H a = some o := by
  unfold Hr at h
  split at h
  · exact ⟨by assumption, h⟩
  · cases h
theorem hr_same {rl : Rl} {H : Hp} : Same (Hr rl H) H := fun a o h => (hr_some h).2
theorem hr_go {rl rl' : Rl} {H H' : Hp} (h : ∀ a o, rl a = none → H a = some o → rl' a = none ∧ H' a = some o) : Same (Hr rl H) (Hr rl' H') := fun a o ha => by
  obtain ⟨n, ha⟩ := hr_some ha
  obtain ⟨n', ha'⟩ := h a o n ha
  exact hr_get ha' n'
theorem hr_keep {rl : Rl} {H H' : Hp} (e : Same H H') : Same (Hr rl H) (Hr rl H') := hr_go fun a o n h => ⟨n, e _ _ h⟩
theorem hr_upd {rl : Rl} {H H' : Hp} {p : Addr} {o : HO} {r : Ro} (e : Same H H') (h : rl p = some r) : Same (Hr rl H) (Hr rl (upd H' p o)) := hr_go fun a u n ha => ⟨n, by
  rw [upd_ne (fun q : a = p => by rw [q, h] at n; cases n)]
  exact e _ _ ha⟩
theorem hr_put {rl rl' : Rl} {H : Hp} {p : Addr} {r : Ro} (hp : H p = none) {H' : Hp} (e : Same (Hr rl H) (Hr rl' H')) : Same (Hr rl H) (Hr (rl'.put p r) H') := fun a o ha => by
  obtain ⟨n, ha1⟩ := hr_some ha
  obtain ⟨n2, ha2⟩ := hr_some (e a o ha)
  refine hr_get ha2 ?_
  rw [put_ne (fun q : a = p => by rw [q, hp] at ha1; cases ha1)]
  exact n2
def Sl.v : Sl → V
  | .w none => .non
  | .w (some z) => .str z
  | .l n => .int (n : Nat)
abbrev Rep := Option Nat → Addr → Addr → HO
abbrev Os := List (Addr × Addr × Addr)
def handV (os : Os) : Option Nat → V
  | none => .non
  | some j => .ref (os.getD j (0, 0, 0)).1
structure BnI (rep : Rep) (rl : Rl) (H : Hp) (la ha ea : Addr) (eo : HO) (ls : List Addr) (os : Os) (b : Bn) : Prop where
  live : ∀ a, rl a ≠ none → H a ≠ none
  lar : rl la = some .la
  har : rl ha = some .ha
  ear : rl ea = some .ea
  lah : H la = some (.lst (ls.map V.ref))
  hah : H ha = some (.lst (b.hand.map (handV os)))
  eah : H ea = some eo
  ll : ls.length = b.lists.length
  lsr : ∀ (i : Nat) a, ls[i]? = some a → rl a = some (.ls i)
  lsh : ∀ (i : Nat) a ws, ls[i]? = some a → b.lists[i]? = some ws → H a = some (.lst (ws.map V.str))
  ol : os.length = b.obs.length
  oxr : ∀ (j : Nat) x, os[j]? = some x → rl x.1 = some (.ox j)
  osr : ∀ (j : Nat) x, os[j]? = some x → rl x.2.1 = some (.os j)
  oxh : ∀ (j : Nat) x o, os[j]? = some x → b.obs[j]? = some o → H x.1 = some (rep o.mode x.2.1 x.2.2)
  osh : ∀ (j : Nat) x o, os[j]? = some x → b.obs[j]? = some o → H x.2.1 = some (.lst (o.held.map Sl.v))
  hj : ∀ j, some j ∈ b.hand → j < os.length
section
variable {rep : Rep} {rl : Rl} {H H1 : Hp} {la ha ea : Addr} {eo : HO} {ls : List Addr} {os : Os} {b : Bn}
theorem role_ne {p q : Addr} {r r' : Ro} (hp : rl p = some r) (hq : rl q = some r') (n : r ≠ r') : p ≠ q := fun e => by
  rw [e, hq] at hp
  exact n (Option.some.inj hp).symm
theorem BnI.keep (h : BnI rep rl H la ha ea eo ls os b) (e : Same H H1) : BnI rep rl H1 la ha ea eo ls os b := { h with
  live := fun a n z => by
    cases q : H a with
    | none => exact h.live a n q
    | some o =>
      rw [e _ _ q] at z
      cases z
  lah := e _ _ h.lah
  hah := e _ _ h.hah
  eah := e _ _ h.eah
  lsh := fun i a ws h1 h2 => e _ _ (h.lsh i a ws h1 h2)
  oxh := fun j x o h1 h2 => e _ _ (h.oxh j x o h1 h2)
  osh := fun j x o h1 h2 => e _ _ (h.osh j x o h1 h2) }
theorem BnI.fresh (h : BnI rep rl H la ha ea eo ls os b) {p : Addr} (hp : H p = none) : rl p = none := by
  cases q : rl p with
  | none => rfl
  | some r => exact absurd hp (h.live p (by rw [q]; exact nofun))
theorem live_upd {p : Addr} {o : HO} (h : ∀ a, rl a ≠ none → H a ≠ none) : ∀ a, rl a ≠ none → upd H p o a ≠ none := fun a n => by
  by_cases e : a = p
  · rw [e, upd_same]
    exact nofun
  · rw [upd_ne e]
    exact h a n
theorem live_rl {p : Addr} {r : Ro} (h : ∀ a, rl a ≠ none → H a ≠ none) (hp : H p ≠ none) : ∀ a, rl.put p r a ≠ none → H a ≠ none := fun a n => by
  by_cases e : a = p
  · rw [e]
    exact hp
  · rw [put_ne e] at n
    exact h a n
theorem snoc_or {α : Type} {xs : List α} {x : α} {k : Nat} {y : α} (h : (xs ++ [x])[k]? = some y) : xs[k]? = some y ∨ (k = xs.length ∧ y = x) := (snoc_at h).imp (·.2) id
theorem at_lt {α : Type} {xs : List α} {i : Nat} {x : α} (h : xs[i]? = some x) : i < xs.length := (List.getElem?_eq_some_iff.mp h).1
theorem set_at {α : Type} {xs : List α} {i k : Nat} {x y : α} (h : (xs.set i x)[k]? = some y) : (k = i ∧ y = x) ∨ (k ≠ i ∧ xs[k]? = some y) := by
  rw [List.getElem?_set] at h
  split at h
  · rename_i e
    split at h
    · cases h
      exact .inl ⟨e.symm, rfl⟩
    · cases h
  · rename_i e
    exact .inr ⟨Ne.symm e, h⟩
/-- a new list -/
theorem BnI.putL (h : BnI rep rl H la ha ea eo ls os b) {p : Addr} {ws : List Str} (e : Same H H1) (hp : H p = none) (h1 : H1 p = some (.lst (ws.map V.str))) :
    BnI rep (rl.put p (.ls ls.length)) (upd H1 la (.lst (ls.map V.ref ++ [.ref p]))) la ha ea eo (ls ++ [p]) os { b with lists := b.lists ++ [ws] } ∧ Same (Hr rl H) (Hr (rl.put p (.ls ls.length)) (upd H1 la (.lst (ls.map V.ref ++ [.ref p])))) := by
  have g := h.keep e
  have nr := h.fresh hp
  have np : ∀ {a : Addr} {r : Ro}, rl a = some r → a ≠ p := fun {a r} ha q => by rw [q, nr] at ha; cases ha
  have up : ∀ {a : Addr} {r : Ro} {o : HO}, rl a = some r → r ≠ .la → H1 a = some o → upd H1 la (.lst (ls.map V.ref ++ [.ref p])) a = some o := fun ha n ho => (upd_ne (role_ne ha h.lar n)).trans ho
  refine ⟨{ h with live := live_rl (live_upd g.live) ?_, lar := (put_ne (np h.lar)).trans h.lar, har := (put_ne (np h.har)).trans h.har, ear := (put_ne (np h.ear)).trans h.ear, lah := ?_, hah := up h.har nofun g.hah, eah := up h.ear nofun g.eah, ll := ?_, lsr := fun i a ha => ?_, lsh := fun i a ws' ha hw => ?_, oxr := fun j x hx => (put_ne (np (h.oxr j x hx))).trans (h.oxr j x hx), osr := fun j x hx => (put_ne (np (h.osr j x hx))).trans (h.osr j x hx), oxh := fun j x o hx ho => up (h.oxr j x hx) nofun (g.oxh j x o hx ho), osh := fun j x o hx ho => up (h.osr j x hx) nofun (g.osh j x o hx ho) }, hr_put hp (hr_upd e h.lar)⟩
  · rw [upd_ne (Ne.symm (np h.lar)), h1]
    exact nofun
  · rw [upd_same, List.map_append]
    rfl
  · rw [List.length_append, List.length_append, h.ll]
    rfl
  · rcases snoc_or ha with ha | ⟨rfl, rfl⟩
    · exact (put_ne (np (h.lsr i a ha))).trans (h.lsr i a ha)
    · exact put_at
  · rcases snoc_or ha with ha' | ⟨rfl, rfl⟩
    · rcases snoc_or hw with hw | ⟨q, _⟩
      · exact up (h.lsr i a ha') nofun (g.lsh i a ws' ha' hw)
      · exact absurd (at_lt ha') (by rw [h.ll, q]; exact Nat.lt_irrefl _)
    · rcases snoc_or hw with hw | ⟨_, rfl⟩
      · exact absurd (at_lt hw) (by rw [h.ll]; exact Nat.lt_irrefl _)
      · exact (upd_ne (Ne.symm (np h.lar))).trans h1
/-- other words in a list -/
theorem BnI.modL (h : BnI rep rl H la ha ea eo ls os b) {i : Nat} {a : Addr} {ws : List Str} (hla : ls[i]? = some a) :
    BnI rep rl (upd H a (.lst (ws.map V.str))) la ha ea eo ls os { b with lists := b.lists.set i ws } ∧ Same (Hr rl H) (Hr rl (upd H a (.lst (ws.map V.str)))) := by
  have ra := h.lsr i a hla
  have up : ∀ {c : Addr} {r : Ro} {o : HO}, rl c = some r → r ≠ .ls i → H c = some o → upd H a (.lst (ws.map V.str)) c = some o := fun hc n ho => (upd_ne (role_ne hc ra n)).trans ho
  refine ⟨{ h with live := live_upd h.live, lah := up h.lar nofun h.lah, hah := up h.har nofun h.hah, eah := up h.ear nofun h.eah, ll := by rw [List.length_set]; exact h.ll, lsh := fun k c ws' hc hw => ?_, oxh := fun j x o hx ho => up (h.oxr j x hx) nofun (h.oxh j x o hx ho), osh := fun j x o hx ho => up (h.osr j x hx) nofun (h.osh j x o hx ho) }, hr_upd (Same.refl H) ra⟩
  rcases set_at hw with ⟨rfl, rfl⟩ | ⟨n, hw⟩
  · rw [hla] at hc
    cases hc
    exact upd_same
  · exact up (h.lsr k c hc) (fun q => n (Ro.ls.inj q)) (h.lsh k c ws' hc hw)
/-- another list in its place -/
theorem BnI.setL (h : BnI rep rl H la ha ea eo ls os b) {i : Nat} {a p : Addr} {ws : List Str} (hi : ls[i]? = some a) (e : Same H H1) (hp : H p = none) (h1 : H1 p = some (.lst (ws.map V.str))) :
    BnI rep (rl.put p (.ls i)) (upd H1 la (.lst ((ls.map V.ref).set i (.ref p)))) la ha ea eo (ls.set i p) os { b with lists := b.lists.set i ws } ∧ Same (Hr rl H) (Hr (rl.put p (.ls i)) (upd H1 la (.lst ((ls.map V.ref).set i (.ref p))))) := by
  have g := h.keep e
  have nr := h.fresh hp
  have np : ∀ {a : Addr} {r : Ro}, rl a = some r → a ≠ p := fun {a r} ha q => by rw [q, nr] at ha; cases ha
  have up : ∀ {a : Addr} {r : Ro} {o : HO}, rl a = some r → r ≠ .la → H1 a = some o → upd H1 la (.lst ((ls.map V.ref).set i (.ref p))) a = some o := fun ha n ho => (upd_ne (role_ne ha h.lar n)).trans ho
  refine ⟨{ h with live := live_rl (live_upd g.live) ?_, lar := (put_ne (np h.lar)).trans h.lar, har := (put_ne (np h.har)).trans h.har, ear := (put_ne (np h.ear)).trans h.ear, lah := ?_, hah := up h.har nofun g.hah, eah := up h.ear nofun g.eah, ll := by rw [List.length_set, List.length_set]; exact h.ll, lsr := fun k c hc => ?_, lsh := fun k c ws' hc hw => ?_, oxr := fun j x hx => (put_ne (np (h.oxr j x hx))).trans (h.oxr j x hx), osr := fun j x hx => (put_ne (np (h.osr j x hx))).trans (h.osr j x hx), oxh := fun j x o hx ho => up (h.oxr j x hx) nofun (g.oxh j x o hx ho), osh := fun j x o hx ho => up (h.osr j x hx) nofun (g.osh j x o hx ho) }, hr_put hp (hr_upd e h.lar)⟩
  · rw [upd_ne (Ne.symm (np h.lar)), h1]
    exact nofun
  · rw [upd_same, List.map_set]
  · rcases set_at hc with ⟨rfl, rfl⟩ | ⟨n, hc⟩
    · exact put_at
    · exact (put_ne (np (h.lsr k c hc))).trans (h.lsr k c hc)
  · rcases set_at hc with ⟨rfl, rfl⟩ | ⟨n, hc⟩
    · rcases set_at hw with ⟨_, rfl⟩ | ⟨n, _⟩
      · exact (upd_ne (Ne.symm (np h.lar))).trans h1
      · exact absurd rfl n
    · rcases set_at hw with ⟨q, _⟩ | ⟨_, hw⟩
      · exact absurd q n
      · exact up (h.lsr k c hc) nofun (g.lsh k c ws' hc hw)
/-- another mode -/
theorem BnI.modX (h : BnI rep rl H la ha ea eo ls os b) {j : Nat} {x : Addr × Addr × Addr} {m : Option Nat} (hx : os[j]? = some x) :
    BnI rep rl (upd H x.1 (rep m x.2.1 x.2.2)) la ha ea eo ls os (b.setOb j ⟨m, (b.ob j).held⟩) ∧ Same (Hr rl H) (Hr rl (upd H x.1 (rep m x.2.1 x.2.2))) := by
  have ra := h.oxr j x hx
  have up : ∀ {c : Addr} {r : Ro} {o : HO}, rl c = some r → r ≠ .ox j → H c = some o → upd H x.1 (rep m x.2.1 x.2.2) c = some o := fun hc n ho => (upd_ne (role_ne hc ra n)).trans ho
  refine ⟨{ h with live := live_upd h.live, lah := up h.lar nofun h.lah, hah := up h.har nofun h.hah, eah := up h.ear nofun h.eah, lsh := fun k c ws' hc hw => up (h.lsr k c hc) nofun (h.lsh k c ws' hc hw), ol := by rw [len_setOb]; exact h.ol, oxh := fun k y o hy ho => ?_, osh := fun k y o hy ho => ?_ }, hr_upd (Same.refl H) ra⟩
  · rcases set_at ho with ⟨rfl, rfl⟩ | ⟨n, ho⟩
    · rw [hx] at hy
      cases hy
      exact upd_same
    · exact up (h.oxr k y hy) (fun q => n (Ro.ox.inj q)) (h.oxh k y o hy ho)
  · rcases set_at ho with ⟨rfl, rfl⟩ | ⟨n, ho⟩
    · exact up (h.osr k y hy) nofun (h.osh k y (b.ob k) hy (ob_get (by rw [← h.ol]; exact at_lt hx)))
    · exact up (h.osr k y hy) nofun (h.osh k y o hy ho)
/-- other things held -/
theorem BnI.modS (h : BnI rep rl H la ha ea eo ls os b) {j : Nat} {x : Addr × Addr × Addr} {held : List Sl} (hx : os[j]? = some x) :
    BnI rep rl (upd H x.2.1 (.lst (held.map Sl.v))) la ha ea eo ls os (b.setOb j ⟨(b.ob j).mode, held⟩) ∧ Same (Hr rl H) (Hr rl (upd H x.2.1 (.lst (held.map Sl.v)))) := by
  have ra := h.osr j x hx
  have up : ∀ {c : Addr} {r : Ro} {o : HO}, rl c = some r → r ≠ .os j → H c = some o → upd H x.2.1 (.lst (held.map Sl.v)) c = some o := fun hc n ho => (upd_ne (role_ne hc ra n)).trans ho
  refine ⟨{ h with live := live_upd h.live, lah := up h.lar nofun h.lah, hah := up h.har nofun h.hah, eah := up h.ear nofun h.eah, lsh := fun k c ws' hc hw => up (h.lsr k c hc) nofun (h.lsh k c ws' hc hw), ol := by rw [len_setOb]; exact h.ol, oxh := fun k y o hy ho => ?_, osh := fun k y o hy ho => ?_ }, hr_upd (Same.refl H) ra⟩
  · rcases set_at ho with ⟨rfl, rfl⟩ | ⟨n, ho⟩
    · exact up (h.oxr k y hy) nofun (h.oxh k y (b.ob k) hy (ob_get (by rw [← h.ol]; exact at_lt hx)))
    · exact up (h.oxr k y hy) nofun (h.oxh k y o hy ho)
  · rcases set_at ho with ⟨rfl, rfl⟩ | ⟨n, ho⟩
    · rw [hx] at hy
      cases hy
      exact upd_same
    · exact up (h.osr k y hy) (fun q => n (Ro.os.inj q)) (h.osh k y o hy ho)
theorem handV_snoc {os : Os} {x : Addr × Addr × Addr} {r : Option Nat} (h : ∀ j, r = some j → j < os.length) : handV (os ++ [x]) r = handV os r := by
  cases r with
  | none => rfl
  | some j =>
    show V.ref ((os ++ [x]).getD j _).1 = _
    rw [List.getD_eq_getElem?_getD, List.getElem?_append_left (h j rfl), ← List.getD_eq_getElem?_getD]
    rfl
/-- what the present row hands -/
theorem BnI.pushH (h : BnI rep rl H la ha ea eo ls os b) {r : Option Nat} (hr : ∀ j, r = some j → j < os.length) :
    BnI rep rl (upd H ha (.lst (b.hand.map (handV os) ++ [handV os r]))) la ha ea eo ls os { b with hand := b.hand ++ [r] } ∧ Same (Hr rl H) (Hr rl (upd H ha (.lst (b.hand.map (handV os) ++ [handV os r])))) := by
  have up : ∀ {c : Addr} {r' : Ro} {o : HO}, rl c = some r' → r' ≠ .ha → H c = some o → upd H ha (.lst (b.hand.map (handV os) ++ [handV os r])) c = some o := fun hc n ho => (upd_ne (role_ne hc h.har n)).trans ho
  refine ⟨{ h with live := live_upd h.live, lah := up h.lar nofun h.lah, hah := ?_, eah := up h.ear nofun h.eah, lsh := fun k c ws' hc hw => up (h.lsr k c hc) nofun (h.lsh k c ws' hc hw), oxh := fun j x o hx ho => up (h.oxr j x hx) nofun (h.oxh j x o hx ho), osh := fun j x o hx ho => up (h.osr j x hx) nofun (h.osh j x o hx ho), hj := fun j hj => ?_ }, hr_upd (Same.refl H) h.har⟩
  · rw [upd_same, List.map_append]
    rfl
  · rcases List.mem_append.mp hj with hj | hj
    · exact h.hj j hj
    · exact hr j (List.mem_singleton.mp hj).symm
/-- what is noted beside -/
theorem BnI.setE (h : BnI rep rl H la ha ea eo ls os b) {eo' : HO} {e' : List (Option (List Ct))} :
    BnI rep rl (upd H ea eo') la ha ea eo' ls os { b with early := e' } ∧ Same (Hr rl H) (Hr rl (upd H ea eo')) := by
  have up : ∀ {c : Addr} {r' : Ro} {o : HO}, rl c = some r' → r' ≠ .ea → H c = some o → upd H ea eo' c = some o := fun hc n ho => (upd_ne (role_ne hc h.ear n)).trans ho
  exact ⟨{ h with live := live_upd h.live, lah := up h.lar nofun h.lah, hah := up h.har nofun h.hah, eah := upd_same, lsh := fun k c ws' hc hw => up (h.lsr k c hc) nofun (h.lsh k c ws' hc hw), oxh := fun j x o hx ho => up (h.oxr j x hx) nofun (h.oxh j x o hx ho), osh := fun j x o hx ho => up (h.osr j x hx) nofun (h.osh j x o hx ho) }, hr_upd (Same.refl H) h.ear⟩
theorem BnI.x {j : Nat} (h : BnI rep rl H la ha ea eo ls os b) (hj : j < b.obs.length) : ∃ x, os[j]? = some x ∧ H x.1 = some (rep (b.ob j).mode x.2.1 x.2.2) ∧ H x.2.1 = some (.lst ((b.ob j).held.map Sl.v)) ∧ handV os (some j) = .ref x.1 := by
  have hx : os[j]? = some (os[j]'(by rw [h.ol]; exact hj)) := List.getElem?_eq_getElem (by rw [h.ol]; exact hj)
  refine ⟨_, hx, h.oxh j _ _ hx (ob_get hj), h.osh j _ _ hx (ob_get hj), ?_⟩
  show V.ref (os.getD j _).1 = _
  rw [List.getD_eq_getElem?_getD, hx]
  rfl
theorem BnI.l {n : Nat} (h : BnI rep rl H la ha ea eo ls os b) (hn : n < b.lists.length) : ∃ a, ls[n]? = some a ∧ (ls.map V.ref)[n]? = some (.ref a) ∧ H a = some (.lst ((b.lists.getD n []).map V.str)) := by
  have hx : ls[n]? = some (ls[n]'(by rw [h.ll]; exact hn)) := List.getElem?_eq_getElem (by rw [h.ll]; exact hn)
  refine ⟨_, hx, by rw [List.getElem?_map, hx]; rfl, ?_⟩
  rw [List.getD_eq_getElem?_getD, List.getElem?_eq_getElem hn]
  exact h.lsh n _ _ hx (List.getElem?_eq_getElem hn)
end
end MK
set_option Elab.async false
set_option linter.all false
set_option autoImplicit false
set_option maxRecDepth 100000
set_option maxHeartbeats 1000000
namespace MK
open PySem PySem.Spec PyProof.Rows L2
def ItzLT (K : PySem.W.Frag) (a b : Addr) : It :=
  ⟨fun i H => ∃ (xs ys : List V) (x y : V), SqL K H a xs ∧ SqT K H b ys ∧ xs[i]? = some x ∧ ys[i]? = some y,
    fun i H v H' => ∃ T x y, v = .ref T ∧ H T = none ∧ H' = upd H T (.tup [x, y]) ∧ (∀ xs, SqL K H a xs → xs[i]? = some x) ∧ ∀ ys, SqT K H b ys → ys[i]? = some y,
    fun i H => ∃ xs ys : List V, SqL K H a xs ∧ SqT K H b ys ∧ i ≤ xs.length ∧ i ≤ ys.length ∧ (xs.length = i ∨ ys.length = i)⟩
theorem turn_zipLT {P : Program} {w : World} {K : PySem.W.Frag} {elts : List Expr} {kk : Nat} {tpos : Pos} {a b z TI TO i1 i2 : Addr} (S : ZipSep2 z TI TO i1 i2 [i1, a] [i2, b]) (na : a ≠ i1) (nb : b ≠ i2) :
    Turn P w K (.Tuple elts kk tpos) (ItzLT K a b) [z, TI, TO, i1, i2] z (fun i h => IsZip h z TI TO .none ∧ IsTupOf2 h TI (.ref i1) (.ref i2) ∧ (∃ x y, IsTupOf2 h TO x y) ∧ h.IsListIter i1 a i ∧ h.IsTupleIter i2 b i) where
  mem := by simp
  obj := fun i h st c hc => by
    obtain ⟨hz, hTI, ⟨x, y, hTO⟩, ⟨o1, e1, _, d1⟩, ⟨o2, e2, _, d2⟩⟩ := st
    have e' : c = z ∨ c = TI ∨ c = TO ∨ c = i1 ∨ c = i2 := by simpa using hc
    rcases e' with q | q | q | q | q
    · rw [q]; exact ⟨_, hz, fun v q => nomatch q⟩
    · rw [q]; exact ⟨_, hTI, fun v q => nomatch q⟩
    · rw [q]; exact ⟨_, hTO, fun v q => nomatch q⟩
    · rw [q]; exact ⟨o1, e1, fun v q => by rw [d1] at q; cases q⟩
    · rw [q]; exact ⟨o2, e2, fun v q => by rw [d2] at q; cases q⟩
  keep := fun i h h' st k => by
    obtain ⟨hz, hTI, ⟨x, y, hTO⟩, h1, h2⟩ := st
    exact ⟨k z (by simp) _ hz, k TI (by simp) _ hTI, ⟨x, y, k TO (by simp) _ hTO⟩, h1.at fun o q => k i1 (by simp) o q, h2.at fun o q => k i2 (by simp) o q⟩
  item := by
    intro X hP hw hK hc i pins s σ H E I hf st hg
    subst hP hw hK
    obtain ⟨hz, hTI, ⟨x0, y0, hTO⟩, h1, h2⟩ := st
    obtain ⟨xs, ys, x, y, hqx, hqy, hx, hy⟩ := hg
    obtain ⟨its, rv, p, _⟩ := I.list hqx
    obtain ⟨its2, rv2, p2, _⟩ := I.tuple hqy
    obtain ⟨u, hu, ru⟩ := rv.get hx
    obtain ⟨u2, hu2, ru2⟩ := rv2.get hy
    have hh : X.A.in1.handled = none := I.ok.hd hc
    have D1 := Draws.list (prog := X.prog) (w := X.w) hh i1 a na its.toArray
    have D2 := Draws.tuple (prog := X.prog) (w := X.w) hh i2 b nb its2.toArray
    have hzl : z < s.heap.objs.size := Heap.lt_size hz
    have hu' : its.toArray[i]? = some u := by simpa using hu
    have hu2' : its2.toArray[i]? = some u2 := by simpa using hu2
    refine wpAny_pyNext_zipD2_item S D1 D2 hz hTI hTO ⟨h1, p.isList⟩ ⟨h2, p2⟩ (Array.getElem?_eq_some_iff.mp hu').1 (Array.getElem?_eq_some_iff.mp hu2').1 fun v1 v2 h' tk hv1 hv2 z' TO' h1' h2' hT hsz hk => ?_
    obtain rfl : v1 = u := Option.some.inj ((show its.toArray[i]? = some v1 from hv1).symm.trans hu')
    obtain rfl : v2 = u2 := Option.some.inj ((show its2.toArray[i]? = some v2 from hv2).symm.trans hu2')
    refine ⟨_, rfl, wpAny_letOwnedTupleGo_zip (s := { s with heap := h', toks := tk }) z' fun h'' z'' sb => ?_⟩
    have hT2 : h''.get? s.heap.objs.size = some { cls := .type "tuple", data := .seq #[v1, v2] } := (sb.2 _ (Nat.ne_of_gt hzl)).trans hT
    have new : ObjOk X.prog X.w (upd H s.heap.objs.size (.tup [x, y])) h'' s.heap.objs.size (.tup [x, y]) :=
      ⟨by show 2 ≤ sizeLine; decide, [v1, v2], .cons ru (.cons ru2 .nil), ⟨_, hT2, rfl, _, rfl⟩⟩
    have I1 : Inv X pins σ (upd H s.heap.objs.size (.tup [x, y])) { s with heap := h'', toks := tk } :=
      I.turnedNew (t' := tk) (ch := [z, TI, TO, i1, i2]) (fun c o hb q => (sb.2 c (fun q' => hb (by simp [q']))).trans (hk c o (fun q' => hb (by simp [q'])) (fun q' => hb (by simp [q'])) (fun q' => hb (by simp [q'])) (fun q' => hb (by simp [q'])) q)) hf (Nat.le_refl _) new
    refine ⟨.ref s.heap.objs.size, _, I1, rfl, ⟨_, x, y, rfl, I.hok.fresh (Nat.le_refl _), rfl, fun l hl => by rw [I.list_inj hl hqx]; exact hx, fun l hl => by rw [I.tuple_inj hl hqy]; exact hy⟩, ⟨z'', ?_, ⟨v1, v2, ?_⟩, ?_, ?_⟩, fun c hcm => ?_⟩
    · exact (sb.2 _ S.TIz).trans (hk _ _ S.TIz S.TITO S.TIi1 S.TIi2 hTI)
    · exact (sb.2 _ S.TOz).trans TO'
    · exact h1'.1.at fun o q => (sb.2 _ (Ne.symm S.zi1)).trans q
    · exact h2'.1.at fun o q => (sb.2 _ (Ne.symm S.zi2)).trans q
    · have hlt : c < s.heap.objs.size := by
        have e' : c = z ∨ c = TI ∨ c = TO ∨ c = i1 ∨ c = i2 := by simpa using hcm
        rcases e' with q | q | q | q | q
        · rw [q]; exact hzl
        · rw [q]; exact Heap.lt_size hTI
        · rw [q]; exact Heap.lt_size hTO
        · rw [q]; obtain ⟨_, e1, _⟩ := h1; exact Heap.lt_size e1
        · rw [q]; obtain ⟨_, e2, _⟩ := h2; exact Heap.lt_size e2
      rw [upd_ne (Nat.ne_of_lt hlt)]
      exact (hf c hcm).1
  done := by
    intro X hP hw hK hc i pins s σ H E I hf st hg
    subst hP hw hK
    obtain ⟨hz, hTI, ⟨x0, y0, hTO⟩, h1, h2⟩ := st
    obtain ⟨xs, ys, hqx, hqy, l1, l2, hend⟩ := hg
    obtain ⟨its, rv, p, _⟩ := I.list hqx
    obtain ⟨its2, rv2, p2, _⟩ := I.tuple hqy
    have e1 := rv.length
    have e2 := rv2.length
    have hh : X.A.in1.handled = none := I.ok.hd hc
    have D1 := Draws.list (prog := X.prog) (w := X.w) hh i1 a na its.toArray
    have D2 := Draws.tuple (prog := X.prog) (w := X.w) hh i2 b nb its2.toArray
    exact wpAny_pyNext_zipD2_end S D1 D2 hz hTI hTO ⟨h1, p.isList⟩ ⟨h2, p2⟩ (by simp; omega) (by simp; omega) (by simp; omega) fun h' tk hk => ⟨rfl, I.turnedL (t' := tk) (ch := [z, TI, TO, i1, i2]) (fun c o hb q =>
      hk c o (fun q' => hb (by simp [q'])) (fun q' => hb (by simp [q'])) (fun q' => hb (by simp [q'])) (fun q' => hb (by simp [q'])) q) hf⟩
  self := fun A i s Q E st h => wpAny_pyIter_zip st.1 h
theorem apartLT (I l1 l2 : Nat) (h1 : l1 < I) (h2 : l2 < I) : ZipSep2 (I + 4) (I + 2) (I + 3) I (I + 1) [I, l1] [I + 1, l2] := by
  have ne : ∀ {x y : Nat}, x ≠ y → (show Addr from x) ≠ y := fun h => h
  have no : ∀ {x y z : Nat}, x ≠ y → x ≠ z → (show Addr from x) ∉ ([y, z] : List Addr) := fun h g m => by
    rcases List.mem_cons.mp m with e | m
    · exact h e
    · exact g (List.mem_singleton.mp m)
  exact ⟨ne (by omega), ne (by omega), ne (by omega), ne (by omega), List.mem_cons_self, no (by omega) (by omega), no (by omega) (by omega), ne (by omega), List.mem_cons_self, no (by omega) (by omega), no (by omega) (by omega), no (by omega) (by omega), no (by omega) (by omega)⟩
def iZipLT (K : PySem.W.Frag) (ta : TA) : TI := fun σ H R => ta σ H fun vs H1 => ∃ a b xs ys, vs = [.ref a, .ref b] ∧ SqL K H1 a xs ∧ SqT K H1 b ys ∧ R (ItzLT K a b) H1
theorem pi_zipLT {X : Cx} {e e2 : Expr} {ta : TA} {p pos tpos : Pos} {elts : List Expr} {kk : Nat} (hg : Gl X "zip") (hm : X.mg "zip" = none) (ha : PA X [e, e2] ta)
    (hs : starEach [e, e2] X.env = (false, eval e X.env) :: starEach [e2] X.env := by rfl) (hpl : (backTo pos (starEach [e2] X.env)).any (·.1) = false := by rfl) :
    PI X (.Tuple elts kk tpos) (.Call (.Name "zip" p) [e, e2] [] pos) (iZipLT X.K ta) := by
  refine ⟨fun pins s σ H R I h => ?_⟩
  refine Call_ (ld_blt I hg hm PyProof.Rows.boot_zip (PyProof.Rows.callWith_type1 (thn (ha.run pos pins s σ H _ I h) fun us s1 ⟨vs, H1, I1, r1, q1⟩ => ?_) hs hpl))
  obtain ⟨a, b, xs, ys, ex, hqx, hqy, q⟩ := q1
  subst ex
  cases r1 with
  | cons r rr =>
    cases rr with
    | cons r' rr =>
      cases rr
      cases r
      cases r'
      have fresh5 : ∀ c, c ∈ [s1.heap.objs.size + 4, s1.heap.objs.size + 2, s1.heap.objs.size + 3, s1.heap.objs.size, s1.heap.objs.size + 1] → FpOk X pins H1 c := fun c hcm => by
        have e' : c = s1.heap.objs.size + 4 ∨ c = s1.heap.objs.size + 2 ∨ c = s1.heap.objs.size + 3 ∨ c = s1.heap.objs.size ∨ c = s1.heap.objs.size + 1 := by simpa using hcm
        have hle : s1.heap.objs.size ≤ c := by
          rcases e' with z | z | z | z | z
          · rw [z]; exact Nat.le_add_right _ _
          · rw [z]; exact Nat.le_add_right _ _
          · rw [z]; exact Nat.le_add_right _ _
          · rw [z]; exact Nat.le_refl _
          · rw [z]; exact Nat.le_add_right _ _
        exact I1.fpOk hle (I1.hok.fresh hle)
      obtain ⟨its, rv, p1, _⟩ := I1.list hqx
      obtain ⟨its2, rv2, p2, _⟩ := I1.tuple hqy
      obtain ⟨o2, ho2, _⟩ := id p2
      have la : a < s1.heap.objs.size := p1.lt
      have lb : b < s1.heap.objs.size := Heap.lt_size ho2
      refine zip_begins2 (begins_list a its.toArray) (begins_tuple b its2.toArray) p1.isList p2 fun h' hz hTI hTO h1 h2 hsz hk => wpAny_pyIter_zip hz ?_
      have I2 : Inv X pins σ H1 { s1 with heap := h' } := I1.kept (t' := s1.toks) hk
      exact ⟨s1.heap.objs.size + 4, [s1.heap.objs.size + 4, s1.heap.objs.size + 2, s1.heap.objs.size + 3, s1.heap.objs.size, s1.heap.objs.size + 1], _, _, H1, rfl, I2, turn_zipLT (a := a) (b := b) (apartLT s1.heap.objs.size a b la lb) (Nat.ne_of_lt la) (Nat.ne_of_lt (Nat.lt_succ_of_lt lb)), ⟨hz, hTI, ⟨_, _, hTO⟩, ⟨_, h1, rfl, rfl⟩, ⟨_, h2, rfl, rfl⟩⟩, fresh5, q⟩
theorem walk_zipLT {K : PySem.W.Frag} {a b : Addr} {xs ys : List V} {n : Nat} (h1 : xs.length = n) (h2 : ys.length = n) : Walk (ItzLT K a b) n (fun H => SqL K H a xs ∧ SqT K H b ys) (YPair (fun i => xs[i]?) (fun i => ys[i]?)) := by
  refine ⟨fun i _ hi q => ⟨xs, ys, _, _, q.1, q.2, List.getElem?_eq_getElem (by omega), List.getElem?_eq_getElem (by omega)⟩, fun _ q => ⟨xs, ys, q.1, q.2, by omega, by omega, .inl h1⟩, fun i H v H' _ q y => ?_⟩
  obtain ⟨T, x, y, e1, e2, e3, e4, e5⟩ := y
  exact ⟨T, x, y, e1, e2, e3, e4 _ q.1, e5 _ q.2⟩
end MK
set_option Elab.async false
set_option linter.all false
set_option autoImplicit false
set_option maxRecDepth 100000
set_option maxHeartbeats 1000000
namespace MK
open PySem PySem.Spec PyProof.Rows L2
section
variable {rep : Rep} {rl : Rl} {H H1 : Hp} {la ha ea : Addr} {eo : HO} {ls : List Addr} {os : Os} {b : Bn}
/-- a new thing; what it holds stands without a role -/
theorem BnI.newO2 (h : BnI rep rl H la ha ea eo ls os b) {x sa dx : Addr} {m : Option Nat} {held : List Sl} (e : Same H H1) (hx : H x = none) (rs : rl sa = none) (hs : H sa = some (.lst (held.map Sl.v))) (h1 : H1 x = some (rep m sa dx)) :
    BnI rep ((rl.put x (.ox os.length)).put sa (.os os.length)) H1 la ha ea eo ls (os ++ [(x, sa, dx)]) { b with obs := b.obs ++ [⟨m, held⟩] } ∧ ∀ B : Hp, Same B (Hr rl H) → B sa = none → Same B (Hr ((rl.put x (.ox os.length)).put sa (.os os.length)) H1) := by
  have g := h.keep e
  have n1 := h.fresh hx
  have h2 : H1 sa = some (.lst (held.map Sl.v)) := e _ _ hs
  have ne : x ≠ sa := fun q => by rw [q, hs] at hx; cases hx
  have np : ∀ {a : Addr} {r : Ro}, rl a = some r → (rl.put x (.ox os.length)).put sa (.os os.length) a = some r := fun {a r} ha => by
    rw [put_ne (fun q : a = sa => by rw [q, rs] at ha; cases ha), put_ne (fun q : a = x => by rw [q, n1] at ha; cases ha)]
    exact ha
  refine ⟨{ live := live_rl (live_rl g.live (by rw [h1]; exact nofun)) (by rw [h2]; exact nofun), lar := np h.lar, har := np h.har, ear := np h.ear, lah := g.lah, hah := ?_, eah := g.eah, ll := h.ll, lsr := fun i a ha => np (h.lsr i a ha), lsh := g.lsh, ol := by rw [List.length_append, List.length_append, h.ol]; rfl, oxr := fun j y hy => ?_, osr := fun j y hy => ?_, oxh := fun j y o hy ho => ?_, osh := fun j y o hy ho => ?_, hj := fun j hj => by rw [List.length_append]; exact Nat.lt_succ_of_lt (h.hj j hj) }, fun B eB hB a o ha => ?_⟩
  · rw [g.hah]
    refine congrArg (fun z => some (HO.lst z)) (List.map_congr_left fun r hr => (handV_snoc fun j ej => h.hj j (ej ▸ hr)).symm)
  · rcases snoc_or hy with hy | ⟨rfl, rfl⟩
    · exact np (h.oxr j y hy)
    · exact (put_ne ne).trans put_at
  · rcases snoc_or hy with hy | ⟨rfl, rfl⟩
    · exact np (h.osr j y hy)
    · exact put_at
  · rcases snoc_or hy with hy' | ⟨rfl, rfl⟩
    · rcases snoc_or ho with ho | ⟨q, _⟩
      · exact g.oxh j y o hy' ho
      · exact absurd (at_lt hy') (by rw [h.ol, q]; exact Nat.lt_irrefl _)
    · rcases snoc_or ho with ho | ⟨_, rfl⟩
      · exact absurd (at_lt ho) (by rw [h.ol]; exact Nat.lt_irrefl _)
      · exact h1
  · rcases snoc_or hy with hy' | ⟨rfl, rfl⟩
    · rcases snoc_or ho with ho | ⟨q, _⟩
      · exact g.osh j y o hy' ho
      · exact absurd (at_lt hy') (by rw [h.ol, q]; exact Nat.lt_irrefl _)
    · rcases snoc_or ho with ho | ⟨_, rfl⟩
      · exact absurd (at_lt ho) (by rw [h.ol]; exact Nat.lt_irrefl _)
      · exact h2
  · obtain ⟨n, h'⟩ := hr_some (eB a o ha)
    refine hr_get (e _ _ h') ?_
    rw [put_ne (fun q : a = sa => by rw [q, hB] at ha; cases ha), put_ne (fun q : a = x => by rw [q, hx] at h'; cases h')]
    exact n
end
theorem upd_upd {H : Hp} {a : Addr} {x y : HO} : upd (upd H a x) a y = upd H a y := funext fun c => by
  by_cases q : c = a
  · rw [q, upd_same, upd_same]
  · rw [upd_ne q, upd_ne q, upd_ne q]
/-- a new instance and its dict, then its fields -/
theorem made_same {H : Hp} {x dx : Addr} {o d o2 : HO} (hx : H x = none) (hd : H dx = none) : Same H (upd (upd (upd H dx d) x o) x o2) ∧ (upd (upd (upd H dx d) x o) x o2) x = some o2 := by
  refine ⟨fun a u ha => ?_, upd_same⟩
  rw [upd_ne (fun q : a = x => by rw [q, hx] at ha; cases ha), upd_ne (fun q : a = x => by rw [q, hx] at ha; cases ha), upd_ne (fun q : a = dx => by rw [q, hd] at ha; cases ha)]
  exact ha
end MK
set_option Elab.async false
set_option linter.all false
set_option autoImplicit false
set_option maxRecDepth 100000
set_option maxHeartbeats 1000000
namespace MK
open PySem PySem.Spec PyProof.Rows L2
/-- lists by their addresses: L holds those of the items of xs, item by item -/
def AlL {α : Type} (R : V → α → List Addr → Prop) : List V → List α → List Addr → Prop
  | [], [], L => L = []
  | x :: xs, y :: ys, L => ∃ L1 L2, L = L1 ++ L2 ∧ R x y L1 ∧ AlL R xs ys L2
  | _, _, _ => False
theorem AlL.snoc {α : Type} {R : V → α → List Addr → Prop} : ∀ {xs : List V} {ys : List α} {L : List Addr} {x : V} {y : α} {L1 : List Addr}, AlL R xs ys L → R x y L1 → AlL R (xs ++ [x]) (ys ++ [y]) (L ++ L1)
  | [], [], L, x, y, L1, h, r => ⟨L1, [], by rw [show L = [] from h]; simp, r, rfl⟩
  | a :: xs, b :: ys, L, x, y, L1, ⟨M1, M2, e, r1, h⟩, r => ⟨M1, M2 ++ L1, by rw [e, List.append_assoc], r1, h.snoc r⟩
  | [], _ :: _, _, _, _, _, h, _ => h.elim
  | _ :: _, [], _, _, _, _, h, _ => h.elim
theorem AlL.mono {α : Type} {R S : V → α → List Addr → Prop} (f : ∀ x y L, R x y L → S x y L) : ∀ {xs : List V} {ys : List α} {L : List Addr}, AlL R xs ys L → AlL S xs ys L
  | [], [], _, h => h
  | _ :: _, _ :: _, _, ⟨M1, M2, e, r, h⟩ => ⟨M1, M2, e, f _ _ _ r, h.mono f⟩
  | [], _ :: _, _, h => h.elim
  | _ :: _, [], _, h => h.elim
theorem AlL.al {α : Type} {R : V → α → List Addr → Prop} {S : V → α → Prop} (f : ∀ x y L, R x y L → S x y) : ∀ {xs : List V} {ys : List α} {L : List Addr}, AlL R xs ys L → Al S xs ys
  | [], [], _, _ => Al.nil
  | x :: xs, y :: ys, _, ⟨M1, M2, e, r, h⟩ => by
    have t := h.al f
    refine ⟨congrArg Nat.succ t.1, fun i a b h1 h2 => ?_⟩
    cases i with
    | zero =>
      cases h1
      cases h2
      exact f _ _ _ r
    | succ i => exact t.2 i a b h1 h2
  | [], _ :: _, _, h => h.elim
  | _ :: _, [], _, h => h.elim
theorem AlL.len {α : Type} {R : V → α → List Addr → Prop} : ∀ {xs : List V} {ys : List α} {L : List Addr}, AlL R xs ys L → xs.length = ys.length
  | [], [], _, _ => rfl
  | _ :: _, _ :: _, _, ⟨_, _, _, _, h⟩ => congrArg Nat.succ h.len
  | [], _ :: _, _, h => h.elim
  | _ :: _, [], _, h => h.elim
/-- what is told of a slot: a word or nothing, or a list of its own -/
def CtW (H : Hp) (v : V) (c : Ct) (L : List Addr) : Prop := match c with
  | .w o => v = (Sl.w o).v ∧ L = []
  | .l ws => ∃ a, v = .ref a ∧ H a = some (.lst (ws.map V.str)) ∧ L = [a]
theorem CtW.keep {H H' : Hp} {v : V} {c : Ct} {L : List Addr} (e : Same H H') (h : CtW H v c L) : CtW H' v c L := by
  cases c with
  | w o => exact h
  | l ws =>
    obtain ⟨a, h1, h2, h3⟩ := h
    exact ⟨a, h1, e _ _ h2, h3⟩
/-- a list of what is told: its addresses -/
def CsW (H : Hp) (p : Addr) (cts : List Ct) (L : List Addr) : Prop := ∃ (cvs : List V) (M : List Addr), H p = some (.lst cvs) ∧ AlL (CtW H) cvs cts M ∧ L = p :: M ∧ (p :: M).Nodup
theorem CsW.keep {H H' : Hp} {p : Addr} {cts : List Ct} {L : List Addr} (e : Same H H') (h : CsW H p cts L) : CsW H' p cts L := by
  obtain ⟨cvs, M, h1, h2, h3⟩ := h
  exact ⟨cvs, M, e _ _ h1, h2.mono fun _ _ _ h => h.keep e, h3⟩
theorem call_list_ofK {X : Cx} {K : PySem.W.Frag} (h : X.K = K) : CallR X (.type "list") (fun xs H Q => ∃ p ys, xs = [.ref p] ∧ (SqL K H p ys ∨ SqT K H p ys) ∧ ∀ l, H l = none → Q (.ref l) (upd H l (.lst ys))) := by subst h; exact call_list_of
theorem pe_fldK {X : Cx} {K : PySem.W.Frag} {e : Expr} {f : Str} {pos : Pos} {ta : TE} (h : X.K = K) (he : PE X e ta) (hb : attributeBase e f X.env (eval e X.env) = eval e X.env) : PE X (.Attribute e f pos) (tFld K ta f) := by subst h; exact pe_fld he hb
theorem table_valB {fs : List FD} {n : Nat} {cs : List CD} {sv : List V} (ok : KdOk fs n cs) {R : V → CD → Prop} (al : Al R sv cs) {i : Nat} {cd : CD} {c : V} (hi : cs[i]? = some cd) (hc : sv[i]? = some c) : valV (tableV cs sv) (.inr cd.nm) = some c := by
  have keys : (tableV cs sv).map (·.1) = (cs.map (·.nm)).map (Sum.inr : Str → Key) := by
    unfold tableV
    rw [zip_keys2 _ (fun c => Sum.inr c.nm) (fun _ _ => rfl) _ _ al.1.symm, List.map_map]
    rfl
  exact val_nodup (by rw [keys]; exact List.Pairwise.map Sum.inr (fun _ _ h1 h2 => h1 (Sum.inr.inj h2)) ok.nd) (Sum.inr cd.nm, c) (List.mem_of_getElem? (table_at hi hc))
theorem sl_sqA {X : Cx} {K : PySem.W.Frag} (h : X.K = K) : SlR X (fun x lo hi H Q => rSlL K x lo hi H Q ∨ rSlA K x lo hi H Q) := by
  subst h
  exact fun pins s σ H x v vl vu lo hi sl Q I r hs h1 h2 h => h.elim (sl_list pins s σ H x v vl vu lo hi sl Q I r hs h1 h2) (sl_tupA pins s σ H x v vl vu lo hi sl Q I r hs h1 h2)
end MK
set_option Elab.async false
set_option linter.all false
set_option autoImplicit false
set_option maxRecDepth 100000
set_option maxHeartbeats 1000000
set_option Elab.async false
set_option linter.all false
set_option autoImplicit false
set_option maxRecDepth 100000
set_option maxHeartbeats 1000000
namespace MK
open PySem PySem.Spec PyProof.Rows L2
/-- few and short -/
def CtF (k C : Nat) (cts : List Ct) : Prop := cts.length ≤ k ∧ ∀ ws, Ct.l ws ∈ cts → ws.length ≤ C
theorem told_few {fs : List FD} {n A B C : Nat} {b : Bn} {j : Nat} (w : W0 fs n A B C b) (hj : j < b.obs.length) : CtF fs.length C ((b.ob j).held.map (ctOf b.lists)) := by
  have ho := w.held _ (ob_mem hj)
  refine ⟨by rw [List.length_map, ho.1]; exact Nat.le_refl _, fun ws m => ?_⟩
  obtain ⟨s, hs, e⟩ := List.mem_map.mp m
  cases s with
  | w o => cases e
  | l k =>
    obtain ⟨i, hi⟩ := List.mem_iff_getElem?.mp hs
    have hil : i < fs.length := by
      have := (List.getElem?_eq_some_iff.mp hi).1
      rw [ho.1] at this
      exact this
    have so := ho.2 i _ _ hi (List.getElem?_eq_getElem hil)
    have e : b.lists.getD k [] = ws := Ct.l.inj e
    rw [← e]
    exact w.wl _ (getD_mem so.2)
end MK
set_option Elab.async false
set_option linter.all false
set_option autoImplicit false
set_option maxRecDepth 100000
set_option maxHeartbeats 1000000
namespace MK
open PySem PySem.Spec PyProof.Rows L2
structure FunU (K : PySem.W.Frag) (x qual : Str) (st : Stmt) (f : Addr) (fd : FuncData) : Prop where
  ex : ∃ (oc : Value) (od : Option Addr) (dV kV doc pm : Value) (an : Option Addr) (cdv ct : Value) (osl : Array (Option Value)),
    fd = PySem.W.fnOf x qual (defArgs st) (defBody st) (defScope st) dV kV doc pm an cdv ct ∧ K.lookup f = some ⟨oc, od, .func fd, osl⟩ ∧ PySem.W.codeIn K cdv qual = true
theorem FunU.of {K : PySem.W.Frag} {x qual : Str} {st : Stmt} {f : Addr} {fd : FuncData} {dvs : List V} {kws : List (Str × V)} (F : FunD K x qual (defArgs st) (defBody st) (defScope st) dvs kws f fd) : FunU K x qual st f fd := by
  obtain ⟨oc, od, dV, kV, doc, pm, an, cdv, ct, osl, e, l, c, _, _⟩ := F.ex
  exact ⟨oc, od, dV, kV, doc, pm, an, cdv, ct, osl, e, l, c⟩
section
variable {P : Program} {w : World} {K : PySem.W.Frag} {mg : Str → Option Value} {base : Heap}
theorem FunU.ok {x qual : Str} {st : Stmt} {f : Addr} {fd : FuncData} {N ps : List Str} {k : Nat} {sp : Sp} (F : FunU K x qual st f fd) (S : FnScope N ps (defScope st)) (len : ∀ vs H Q E, sp vs H Q E → vs.length = ps.length)
    (hbody : ∀ (cdv : Value) (A : Around) (outer : List Env) (s : Shared) (H : Hp) (vs : List V) (Q : VK) (E : XK), Room k (A.deeper (envOfC qual (defScope st) s.heap.objs.size f cdv)) → sp vs H Q E →
      ∃ t, PSs (cxOf CX0 P w K mg base N qual (defScope st) f cdv A outer s H E).nox (defBody st) t ∧ t { nx := fun _ H' => Q .non H', rt := Q } (start N vs) H) : FnOk P w K mg base CX0 (k + 1) f fd ps sp := by
  obtain ⟨oc, od, dV, kV, doc, pm, an, cdv, ct, osl, rfl, lk, hcd⟩ := F.ex
  refine fn_of lk hcd S len fun A outer s H vs Q E hr hsp => ?_
  obtain ⟨t, h, q⟩ := hbody cdv A outer s H vs Q E hr hsp
  exact ⟨t, h.nox, q⟩
end
/-- all is written: none of the defaults -/
theorem mak_all {P : Program} {w : World} {K : PySem.W.Frag} {mg : Str → Option Value} {base : Heap} {k : Nat} {x : Str} {C f : Addr} {fd : FuncData} {ps : List Str} {sp : Sp} (M : Mk K C f) (F : FnOk P w K mg base CX0 k f fd ps sp) (g : mg x = some (.ref C)) (b : ∃ ds, Vals [] ds ∧ Binds K fd ps ds) : C8.Mak P w K mg base k x C sp [] := by
  obtain ⟨ds, r, b⟩ := b
  exact ⟨f, fd, ps, ds, M, F, g, b, r⟩
theorem mak_dfl {P : Program} {w : World} {K : PySem.W.Frag} {mg : Str → Option Value} {base : Heap} {k : Nat} {x : Str} {C f : Addr} {fd : FuncData} {ps : List Str} {sp : Sp} {dvs : List V} (M : Mk K C f) (F : FnOk P w K mg base CX0 k f fd ps sp) (g : mg x = some (.ref C)) (b : ∃ ds, Vals dvs ds ∧ Binds K fd ps ds) : C8.Mak P w K mg base k x C sp dvs := by
  obtain ⟨ds, r, b⟩ := b
  exact ⟨f, fd, ps, ds, M, F, g, b, r⟩
end MK
set_option Elab.async false
set_option linter.all false
set_option autoImplicit false
set_option maxRecDepth 100000
set_option maxHeartbeats 1000000
namespace MK
open PySem PySem.Spec PyProof.Rows L2
/-- what an object names: a code's fields are left out (the law's table of codes is not to be held) -/
def refsM (o : Obj) : List Addr := He.refV o.cls ++ match o.data with
  | .seq its _ => its.toList.flatMap He.refV
  | .dict es _ => es.toList.flatMap fun e => He.refV e.val
  | .func fd => He.refV fd.code ++ He.refV fd.defaults
  | .cls cd => cd.ns :: cd.mro.flatMap He.refV
  | .fields vs => (match o.cls with
    | .type "staticmethod" => vs.toList.flatMap He.refV
    | _ => [])
  | _ => []
/-- m: a set of addresses as bits -/
def newM (m : Nat) : List Addr → List Addr → (Nat → List Addr → List Addr) → List Addr
  | [], acc, k => k m acc
  | a :: r, acc, k => match Nat.beq (Nat.land (Nat.shiftRight m a) 1) 1 with
    | true => newM m r acc k
    | false => HandSHeadRun.frNat (Nat.lor m (Nat.shiftLeft 1 a)) fun m2 => newM m2 r (a :: acc) k
def growM (g : Addr → Option Obj) : Nat → Nat → List Addr → List Addr → List Addr
  | 0, _, _, all => all
  | n + 1, m, fr, all => newM m (fr.flatMap fun a => match g a with
    | some o => refsM o
    | none => []) [] fun m2 nw => growM g n m2 nw (all ++ nw)
def asM (g : Addr → Option Obj) (n : Nat) : List Addr := growM g n (Nat.shiftLeft 1 mainGlobals) [mainGlobals] [mainGlobals] ++ [cStatics]
abbrev BsM : Type := List (List (PySem.W.Frag → Bool))
abbrev DsM : Type := List (List He5.DefA)
abbrev AlM : Type := Bool × List (List He.FnW) × List (Option (List (Option (Str × Int))))
def obsM (bs : BsM) (fn : DsM) (ts : List He.Tab) (K : PySem.W.Frag) : AlM := ((bs.all fun l => l.all fun f => f K) && fn.all fun l => l.all fun d => d.ok K, fn.map fun l => l.map fun d => He5.fnA K (d.at_ K), ts.map fun t => He.dicW K (t.1 K))
def valM (fn : DsM) (ts : List He.Tab) (w : World) : AlM := (true, fn.map fun l => l.map He5.DefA.val, ts.map fun t => some (He.keysIn w.params t.2))
def SaysM (bs : BsM) (fn : DsM) (ts : List He.Tab) (w : World) (K : PySem.W.Frag) : Prop := obsM bs fn ts K = valM fn ts w
def obsMG (n : Nat) (bs : BsM) (fn : DsM) (ts : List He.Tab) (g : Addr → Option Obj) : AlM := obsM bs fn ts (He.frG g (asM g n))
def hookM (n : Nat) (bs : BsM) (fn : DsM) (ts : List He.Tab) : PySem.W.Hook where
  α := AlM
  obs := fun s => obsMG n bs fn ts s.heap.get?
  val := fun w => valM fn ts w
  says := fun w h => ∃ K : PySem.W.Frag, K.In h ∧ SaysM bs fn ts w K
  of := fun _ _ e => ⟨_, He.frG_in, e⟩
  keeps := fun _ _ _ ⟨K, hK, c⟩ k => ⟨K, PySem.W.Frag.In.keeps hK k, c⟩
theorem obsMG_eq {n : Nat} {bs : BsM} {fn : DsM} {ts : List He.Tab} {g : Addr → Option Obj} {s : Shared} (h : ∀ a, g a = s.heap.get? a) : obsMG n bs fn ts g = (hookM n bs fn ts).obs s := by
  have e : g = s.heap.get? := funext h
  rw [e] <;> rfl
section
variable {bs : BsM} {fn : DsM} {ts : List He.Tab} {w : World} {K : PySem.W.Frag}
theorem SaysM.f (c : SaysM bs fn ts w K) (j i : Nat) {l : List (PySem.W.Frag → Bool)} {f : PySem.W.Frag → Bool} (h : bs[j]? = some l) (h2 : l[i]? = some f) : f K = true := by
  have c1 := (He.ba (show ((bs.all fun l => l.all fun f => f K) && fn.all fun l => l.all fun d => d.ok K) = true from congrArg (fun z : AlM => z.1) c)).1
  exact List.all_eq_true.mp (List.all_eq_true.mp c1 l (List.mem_of_getElem? h)) f (List.mem_of_getElem? h2)
theorem SaysM.d (c : SaysM bs fn ts w K) (j i : Nat) {l : List He5.DefA} {d : He5.DefA} (h : fn[j]? = some l) (h2 : l[i]? = some d) : ∃ fd, FunD K d.name d.qual d.params d.body d.scope (d.dvs K) (d.kws K) (d.at_ K) fd := by
  have c2 := (He.ba (show ((bs.all fun l => l.all fun f => f K) && fn.all fun l => l.all fun d => d.ok K) = true from congrArg (fun z : AlM => z.1) c)).2
  have e : (fn.map fun l => l.map fun d => He5.fnA K (d.at_ K)) = fn.map fun l => l.map He5.DefA.val := congrArg (fun z : AlM => z.2.1) c
  have e2 : (fn.map fun l => l.map fun d => He5.fnA K (d.at_ K))[j]? = (fn.map fun l => l.map He5.DefA.val)[j]? := by rw [e]
  rw [List.getElem?_map, List.getElem?_map, h] at e2
  have e3 : l.map (fun d => He5.fnA K (d.at_ K)) = l.map He5.DefA.val := Option.some.inj e2
  have e4 : (l.map fun d => He5.fnA K (d.at_ K))[i]? = (l.map He5.DefA.val)[i]? := by rw [e3]
  rw [List.getElem?_map, List.getElem?_map, h2] at e4
  exact He5.DefA.funD (Option.some.inj e4) (List.all_eq_true.mp (List.all_eq_true.mp c2 l (List.mem_of_getElem? h)) d (List.mem_of_getElem? h2))
theorem SaysM.t (c : SaysM bs fn ts w K) (i : Nat) {t : He.Tab} (h : ts[i]? = some t) : He.dicW K (t.1 K) = some (He.keysIn w.params t.2) := by
  have e : ts.map (fun t => He.dicW K (t.1 K)) = ts.map fun t => some (He.keysIn w.params t.2) := congrArg (fun z : AlM => z.2.2) c
  have e2 : (ts.map fun t => He.dicW K (t.1 K))[i]? = (ts.map fun t => some (He.keysIn w.params t.2))[i]? := by rw [e]
  rw [List.getElem?_map, List.getElem?_map, h] at e2
  exact Option.some.inj e2
end
/-- the object that a dict's text key stands for -/
def da (K : PySem.W.Frag) (a : Addr) (z : Str) : Addr := match PySem.W.nsIn K a z with
  | some (some (.ref b)) => b
  | _ => 0
def tabB (K : PySem.W.Frag) (x : Str) : Bool := match PySem.W.tabIn K x with
  | some (_, P) => (K.lookup P).isNone
  | none => false
theorem tabB_ok {K : PySem.W.Frag} {x : Str} (h : tabB K x = true) : ∃ c P, PySem.W.tabIn K x = some (c, P) ∧ K.lookup P = none := by
  unfold tabB at h
  cases e : PySem.W.tabIn K x with
  | none =>
    rw [e] at h
    cases h
  | some p =>
    obtain ⟨c, P⟩ := p
    rw [e] at h
    exact ⟨c, P, rfl, Option.isNone_iff_eq_none.mp h⟩
def intB (K : PySem.W.Frag) (x : Str) (n : Int) : Bool := match PySem.W.nsIn K mainGlobals x with
  | some (some (.int j _)) => decide (j = n)
  | _ => false
theorem intB_ok {K : PySem.W.Frag} {x : Str} {n : Int} (h : intB K x n = true) : ∃ t, PySem.W.nsIn K mainGlobals x = some (some (.int n t)) := by
  unfold intB at h
  cases e : PySem.W.nsIn K mainGlobals x with
  | none =>
    rw [e] at h
    cases h
  | some o =>
    rw [e] at h
    cases o with
    | none => cases h
    | some v => cases v with
      | int j t => exact ⟨t, by rw [of_decide_eq_true (show decide (j = n) = true from h)]⟩
      | _ => cases h
theorem def_mkE {K : PySem.W.Frag} {h : Heap} {mg : Str → Option Value} {x : Str} {st : Stmt} {ps : List Str} {f : Addr} {fd : FuncData} (X : K.In h) (G : h.Ns mainGlobals mg) (a : PySem.W.nsIn K mainGlobals x = some (some (.ref f)))
    (D : FunD K x x (defArgs st) (defBody st) (defScope st) [] [] f fd)
    (b : ∀ (kV doc pm : Value) (an : Option Addr) (cdv ct : Value) (us : List Value), us.length = ps.length → bindArgs (PySem.W.fnOf x x (defArgs st) (defBody st) (defScope st) .none kV doc pm an cdv ct) ⟨us, []⟩ = pure (ps.zip us)) : DefX K mg x st ps f fd :=
  ⟨He5.fun_of D, PySem.W.mg_of X G a, D.bindsN b⟩
theorem tab_def {K : PySem.W.Frag} {x qual : Str} {params : Arguments} {body : List Stmt} {scope : Scope} {f c P : Addr} {fd : FuncData} (a : PySem.W.nsIn K mainGlobals x = some (some (.ref f))) (D : FunD K x qual params body scope [] [] f fd) (h : PySem.W.tabIn K x = some (c, P)) :
    ∃ (oc : Value) (od : Option Addr) (kV doc pm : Value) (an : Option Addr) (ct : Value) (osl : Array (Option Value)), fd = PySem.W.fnOf x qual params body scope .none kV doc pm an (.ref c) ct ∧ K.lookup f = some ⟨oc, od, .func fd, osl⟩ ∧ PySem.W.codeIn K (.ref c) qual = true := by
  obtain ⟨oc, od, dV, kV, doc, pm, an, cdv, ct, osl, e, l, cc, hd, _⟩ := D.ex
  have e2 : dV = .none := by
    rcases hd with ⟨_, e2⟩ | ⟨e2, _⟩
    · exact e2
    · exact absurd rfl e2
  subst e2
  have ec : cdv = .ref c := by
    unfold PySem.W.tabIn at h
    rw [a] at h
    have h2 : (match K.lookup f with
      | some ⟨_, _, .func fd, _⟩ => (match fd.code with
        | .ref c => (match K.lookup c with
          | some ⟨_, _, .fields vs, _⟩ => (match (vs[11]? : Option Value) with
            | some (.ref P) => some (c, P)
            | _ => none)
          | _ => none)
        | _ => none)
      | _ => none) = some (c, P) := h
    rw [l] at h2
    have h3 : (match fd.code with
        | .ref c => (match K.lookup c with
          | some ⟨_, _, .fields vs, _⟩ => (match (vs[11]? : Option Value) with
            | some (.ref P) => some (c, P)
            | _ => none)
          | _ => none)
        | _ => none) = some (c, P) := h2
    rw [e] at h3
    cases cdv with
    | ref b =>
      have h5 : (match K.lookup b with
          | some ⟨_, _, .fields vs, _⟩ => (match (vs[11]? : Option Value) with
            | some (.ref P) => some (b, P)
            | _ => none)
          | _ => none) = some (c, P) := h3
      split at h5
      · split at h5
        · rw [(Prod.mk.inj (Option.some.inj h5)).1]
        · cases h5
      · cases h5
    | _ => cases h3
  subst ec
  exact ⟨oc, od, kV, doc, pm, an, ct, osl, e, l, cc⟩
theorem fn_isD {K : PySem.W.Frag} {x qual : Str} {params : Arguments} {body : List Stmt} {scope : Scope} {f : Addr} {fd : FuncData} (D : FunD K x qual params body scope [] [] f fd) :
    ∃ (kV doc pm : Value) (an : Option Addr) (cdv ct : Value), fd = PySem.W.fnOf x qual params body scope .none kV doc pm an cdv ct := by
  obtain ⟨oc, od, dV, kV, doc, pm, an, cdv, ct, osl, e, l, cc, hd, _⟩ := D.ex
  rcases hd with ⟨_, e2⟩ | ⟨e2, _⟩
  · subst e2
    exact ⟨kV, doc, pm, an, cdv, ct, e⟩
  · exact absurd rfl e2
/-- a law with codes of its own (lambdas), over a K that the Hook finds -/
theorem walk_tabE {l : PySem.W.OpenLaw} {k : Nat} {q : Program} {loose : List Str} {XP : (Str → Option Value) → Heap → Prop} {YP : World → Heap → Prop} {d : DefRec} {x : Str}
    (hn : l.most = some 63) (hdf : d.params.defaults = []) (hr : Room k callerA) (hrec : ((recsOf q).any fun e => e.name == d.name) = true) (hd : d.name = ("law" : Str))
    (F : ∀ (w : World) (mg : Str → Option Value) (fa : Addr) (h : Heap), YP w h → h.Ns mainGlobals mg → mg ("law" : Str) = some (.ref fa) → ∃ K : PySem.W.Frag, K.In h ∧
      ∃ (fd : FuncData) (c P : Addr) (sp : Sp), PySem.W.tabIn K "law" = some (c, P) ∧ K.lookup P = none ∧ (∀ (s : Shared) (u : Value), BindsTo s fd ⟨[u], []⟩ [(x, u)]) ∧
        (∀ (H : Hp) (a : Addr) (ns : List Int), ns.length ≤ 63 → H P = some (.tbl #[]) → SqL K H a (ns.map V.int) → sp [.ref a] H (fun v _ => v = .bl true) fun _ _ _ => False) ∧
        ∀ base : Heap, K.In base → base.Ns mainGlobals mg → LamX.TabB base mg c P → FnOk l.prog w K mg base CX0 k fa fd [x] sp) :
    PySem.W.WalkO q loose XP YP l.row.toRowW d [] (fun f vs => PySem.call f vs) := by
  refine Att.attach_callB hn hdf fun w s₀ s₁ mg mb fa o pm cd doc a vs ns G Y ho hd1 hcd hmg hobj hints hlen hbits hg => ?_
  rw [hd] at hmg
  obtain ⟨K, KX, fd, c, P, sp, hT, nT, hb, hsp, hF⟩ := F w mg fa _ Y G.T.g hmg
  obtain ⟨dL, hr2⟩ : ∃ dL, (recsOf q).find? (fun e => e.name == ("law" : Str)) = some dL := by
    have : ((recsOf q).find? (fun e => e.name == ("law" : Str))).isSome = true := by
      rw [List.find?_isSome, ← hd]
      exact List.any_eq_true.mp hrec
    exact Option.isSome_iff_exists.mp this
  obtain ⟨C, hP⟩ := PySem.W.tab_of G.T KX hr2 hT
  have one : ∀ {Pr : Addr × Addr → Prop}, Pr (c, P) → ∀ p ∈ [(c, P)], Pr p := fun h p hp => by
    rw [List.mem_singleton.mp hp]
    exact h
  exact LamX.law_callTs (cs := [(c, P)]) KX G.T.g G.T.b G.T.builtins G.T.nolimit hg (one hP) (one nT) (one C) G.T.bmain hobj hints (Nat.le_trans hlen (by decide)) hr
    (fun base h1 h2 h3 => hF base h1 h2 (h3 _ List.mem_cons_self)) hb (fun H hH hS => hsp H a ns hlen (hH _ List.mem_cons_self) hS) fun H e s' h => h.elim
end MK
set_option Elab.async false
set_option linter.all false
set_option autoImplicit false
set_option maxRecDepth 100000
set_option maxHeartbeats 1000000
namespace MK
open PySem PySem.Spec PyProof.Rows L2
def latF (cs : List CD) (st : Nat × Option Nat) (r : Rw) : Nat × Option Nat := (st.1 + 1, if isLast cs r = true then st.2 else some st.1)
def latP (cs : List CD) (rs : List Rw) : Nat × Option Nat := rs.foldl (latF cs) (0, none)
def lat (cs : List CD) (rs : List Rw) : Option Nat := (latP cs rs).2
theorem latP_snoc {cs : List CD} {rs : List Rw} {r : Rw} : latP cs (rs ++ [r]) = latF cs (latP cs rs) r := by
  unfold latP
  rw [List.foldl_append]
  rfl
theorem latP_take {cs : List CD} {rs : List Rw} {i : Nat} {r : Rw} (h : rs[i]? = some r) : latP cs (rs.take (i + 1)) = latF cs (latP cs (rs.take i)) r := by
  rw [List.take_succ, h]
  exact latP_snoc
theorem latP_fst {cs : List CD} {rs : List Rw} : ∀ i, i ≤ rs.length → (latP cs (rs.take i)).1 = i
  | 0, _ => by rw [List.take_zero]; rfl
  | i + 1, h => by
    rw [latP_take (List.getElem?_eq_getElem (by omega))]
    exact congrArg (· + 1) (latP_fst i (by omega))
theorem lat_take {cs : List CD} {rs : List Rw} {i : Nat} {r : Rw} (h : rs[i]? = some r) : lat cs (rs.take (i + 1)) = if isLast cs r = true then lat cs (rs.take i) else some i := by
  unfold lat
  rw [latP_take h]
  show (if isLast cs r = true then (latP cs (rs.take i)).2 else some (latP cs (rs.take i)).1) = _
  rw [latP_fst i (Nat.le_of_lt (List.getElem?_eq_some_iff.mp h).1)]
theorem RwsOk.take {cs : List CD} {rs : List Rw} (h : RwsOk cs rs) (n : Nat) : RwsOk cs (rs.take n) := fun i r hi => by
  rw [List.getElem?_take] at hi
  split at hi
  · rename_i q
    rw [List.take_take, Nat.min_eq_left (Nat.le_of_lt q)]
    exact h i r hi
  · cases hi
end MK
set_option Elab.async false
set_option linter.all false
set_option autoImplicit false
set_option maxRecDepth 100000
set_option maxHeartbeats 1000000
set_option Elab.async false
set_option linter.all false
set_option autoImplicit false
set_option maxRecDepth 100000
set_option maxHeartbeats 1000000
set_option Elab.async false
set_option linter.all false
set_option autoImplicit false
set_option maxRecDepth 100000
set_option maxHeartbeats 1000000
namespace MK
open PySem PySem.Spec PyProof.Rows L2
/-- old lists and things stay -/
structure Kp (b b' : Bn) : Prop where
  ll : ∀ k, k < b.lists.length → b'.lists.getD k [] = b.lists.getD k []
  le : b.lists.length ≤ b'.lists.length
  ol : b.obs.length ≤ b'.obs.length
  ob : ∀ i, i < b.obs.length → b'.ob i = b.ob i
theorem Kp.refl (b : Bn) : Kp b b := ⟨fun _ _ => rfl, Nat.le_refl _, Nat.le_refl _, fun _ _ => rfl⟩
theorem Kp.trans {b b1 b2 : Bn} (h : Kp b b1) (g : Kp b1 b2) : Kp b b2 := ⟨fun k hk => (g.ll k (Nat.lt_of_lt_of_le hk h.le)).trans (h.ll k hk), Nat.le_trans h.le g.le, Nat.le_trans h.ol g.ol, fun i hi => (g.ob i (Nat.lt_of_lt_of_le hi h.ol)).trans (h.ob i hi)⟩
end MK
set_option Elab.async false
set_option linter.all false
set_option autoImplicit false
set_option maxRecDepth 100000
set_option maxHeartbeats 1000000
set_option Elab.async false
set_option linter.all false
set_option autoImplicit false
set_option maxRecDepth 100000
set_option maxHeartbeats 1000000
namespace L2
open PySem PySem.Spec PyProof.Rows
theorem pmk_own0 {X : Cx} {C : Addr} {bmB : List Value} {B newId initId : String} {x : Str} {p pos : Pos} (F : ExcBaseFacts B newId initId bmB) (q : PySem.W.excIn X.K C bmB newId = true) (gC : X.mg x = some (.ref C)) (kC : PySem.W.keepIn X.K (.ref C) = true) (r : Raises X (.ref C)) (hg : Gl X x)
    (hdb : (x == ("__debug__" : Str)) = false := by decide) : PMk X (.Call (.Name x p) [] [] pos) (fun σ H Q => Q (.ref C) none H) := by
  intro pins s σ H Q I h
  refine wpAny_Call_Name_kw (ld_glob I hg gC ?_ hdb)
  refine PySem.W.callWith_K0 I.kIn kC ?_
  show wpAny _ _ (call (.ref C) []) _ _ _
  obtain ⟨bm, N, nm, qn, bs, hdct, sn, sub, ab, col, dd, k0, k1, k2, k3, k5, mN, hC, hN, hni, T⟩ := exc_obj I.kIn q
  refine wpAny_call_exc_subT F T hC hN hni (fun h' e hm => ?_) (Nat.zero_le _)
  exact mk_of I hm r h (I.hok.gone hm.new)
end L2
namespace MK
open PySem PySem.Spec PyProof.Rows L2
/-- raise X() of an own class whose __init__ is ValueError's -/
theorem ps_raise0 {X : Cx} {W : WX} {x : Str} {C : Addr} {p pos pos2 : Pos} (c : Exc0 X.K X.mg x C) (r : Raises X (.ref C)) (hc : X.calm = true) (tk : Takes X W) (hg : Gl X x) (hdb : (x == ("__debug__" : Str)) = false := by decide) :
    PS X (.Raise (some (.Call (.Name x p) [] [] pos)) none pos2) (fun _ σ H => W (.ref C) none σ H) :=
  ps_raise hc tk (pmk_own0 PySem.F.excBase_ValueError c.q c.mgC c.kp r hg hdb)
end MK
set_option Elab.async false
set_option linter.all false
set_option autoImplicit false
set_option maxRecDepth 100000
set_option maxHeartbeats 1000000
namespace MK
open PySem PySem.Spec PyProof.Rows L2
section
variable {X : Cx} {a : Addr} {oe : Obj} {cls : Value}
def rIsP0 (K : PySem.W.Frag) (a : Addr) (cls : Value) : List V → Hp → VK → Prop := fun xs H Q => ∃ (C : Addr) (c : V) (cv : Value) (b : Bool), xs = [.ref a, c] ∧ cls = .ref C ∧ ErrI K C ∧ ClsV c cv ∧ PySem.W.kitOne K (.ref C) cv = some b ∧ Q (.bl b) H
theorem call_isP0 (hp : (a, oe) ∈ X.pn) (hz : Zc cls none oe) (hf : ∃ vs, oe.data = .fields vs) : CallR X (.builtin "isinstance") (rIsP0 X.K a cls) := by
  intro pins s σ H xs us Q I r h
  obtain ⟨C, c, cv, b, rfl, ec, T, k, e, q⟩ := h
  subst ec
  obtain ⟨u1, u2, rfl, r1, r2⟩ := vals2 r
  have e2 := k.eq r2
  subst e2
  obtain rfl : u1 = Value.ref a := r1
  have hget := (I.pin (a, oe) (List.mem_append_left _ hp)).1
  obtain ⟨vs, hd⟩ := hf
  have J : PySem.W.InstAt s.heap a oe C none := ⟨hget, hz.1, by unfold PySem.W.notCls; rw [hd] <;> rfl, by rw [hz.2]; trivial⟩
  exact PySem.W.kia_one (PySem.W.kitx_exc (od := none) T.cl T.ga T.gg T.ex T.ca T.sp T.tk T.ob) I.kIn J e (fun z => nomatch z) fun tk => ⟨.bl b, H, I.tok tk, rfl, q⟩
end
end MK
set_option Elab.async false
set_option linter.all false
set_option autoImplicit false
set_option maxRecDepth 100000
set_option maxHeartbeats 2000000
namespace MK
open PySem PySem.Spec PyProof.Rows L2
/-- the table at B; none of the codes it tells of lies in Z -/
def TabZ (Z : Addr → Prop) (H : Hp) (B : Addr) (q : Str) : Prop := ∃ tb : Array Value, H B = some (.tbl tb) ∧ TriplesOk tb.toList ∧ ∀ (at_ : Pos) (v : Value), codeAmong at_ tb.toList = some v → ∃ k, v = .ref k ∧ H k = some (LamX.CodeO k q) ∧ ¬ Z k
theorem TabZ.nil {Z : Addr → Prop} {H : Hp} {B : Addr} {q : Str} (h : H B = some (.tbl #[])) : TabZ Z H B q := ⟨#[], h, True.intro, fun at_ v hv => by
  have z : codeAmong at_ [] = some v := hv
  simp [codeAmong] at z⟩
/-- what is no table, and lies not in Z, is as it was -/
theorem TabZ.step {Z Z' : Addr → Prop} {H H' : Hp} {B : Addr} {q : Str} (h : TabZ Z H B q) (hB : H' B = H B) (e : ∀ b, H b = some (LamX.CodeO b q) → ¬ Z b → H' b = some (LamX.CodeO b q) ∧ ¬ Z' b) : TabZ Z' H' B q := by
  obtain ⟨tb, h1, h2, h3⟩ := h
  refine ⟨tb, hB.trans h1, h2, fun at_ v hv => ?_⟩
  obtain ⟨k, e1, e2, e3⟩ := h3 at_ v hv
  obtain ⟨g1, g2⟩ := e k e2 e3
  exact ⟨k, e1, g1, g2⟩
section
variable {X : Cx} {pins : List (Addr × Obj)} {σ : L2.St} {H : Hp} {s : Shared}
theorem lam_makeZ {Z : Addr → Prop} {c B : Addr} {pars : Arguments} {bd : Expr} {sco : Scope} {lp : Pos} {E : Value → Shared → Prop} {Q : Value → Shared → Prop} (I0 : Inv X pins σ H s) (tabl : LamX.TabB X.base X.mg c B) (code0 : X.env.code = .ref c)
    (hZ : TabZ Z H B (X.env.qual ++ "<lambda>")) (lv : ∀ b, Z b → H b ≠ none) (dfl0 : defaultsOf pars X.env = ([], [])) (fr0 : ∀ y ∈ sco.names, y.2 = .free → ∃ c, X.env.cells.lookup y.1 = some c)
    (go : ∀ (f k : Addr) (pmv ctv : Value) (H1 : Hp) (s1 : Shared), Inv X pins σ H1 s1 → (∀ b o, b ≠ B → H b = some o → H1 b = some o) → TabZ Z H1 B (X.env.qual ++ "<lambda>") →
      s1.heap.get? f = some (PySem.W.kla_obj "<lambda>" (X.env.qual ++ "<lambda>") pars bd sco (cloFrom X.env.cells sco.names []) pmv k ctv) → H1 f = none → f ∉ frs X.stack → H1 k = some (LamX.CodeO k (X.env.qual ++ "<lambda>")) → Q (.ref f) s1) :
    wpAny (model X.prog X.w) X.A (eval (.Lambda pars bd sco lp) X.env) Q E s := by
  obtain ⟨tb, tbB, trip, ents⟩ := hZ
  refine PySem.W.kla_eval dfl0 ?_
  have bB : s.heap.BuiltinsAt X.mg B := tabl.bm.keeps I0.bk
  have rawB : s.heap.get? B = some { cls := .none, data := .fields tb } := I0.hok B _ tbB
  have outFr : ∀ f, s.heap.objs.size ≤ f → f ∉ frs X.stack := fun f big z => (List.mem_cons.mp (I0.stkSub _ z)).elim
    (fun e => by
      have small := I0.lt
      rw [← e] at small
      exact Nat.lt_irrefl _ (Nat.lt_of_lt_of_le small big))
    (fun e => I0.nofs big e)
  cases found : codeAmong lp tb.toList with
  | some v =>
    obtain ⟨k, ev, hk, nk⟩ := ents lp v found
    subst ev
    refine PySem.W.kla_makeFunctionHit (mg := X.mg) (c := c) (P := B) (ps := tb) (closure_ok fr0) I0.ok.glob (I0.mod.glob.keeps I0.bk) code0 (tabl.code.keeps I0.bk) rawB trip found bB fun ctv hp2 tk2 grow sz2 => ?_
    have J : Inv X pins σ H { s with heap := hp2.push (PySem.W.kla_obj "<lambda>" (X.env.qual ++ "<lambda>") pars bd sco (cloFrom X.env.cells sco.names []) ((X.mg "__name__").getD .none) k ctv), toks := tk2 } := I0.kept fun b o e => Heap.get?_push_of_some _ (grow b o e)
    exact go hp2.objs.size k ((X.mg "__name__").getD .none) ctv H _ J (fun b o _ e => e) ⟨tb, tbB, trip, ents⟩ (Heap.get?_push_size _ rfl) (I0.hok.fresh sz2) (outFr _ sz2) hk
  | none =>
    refine PySem.W.kla_makeFunction (mg := X.mg) (c := c) (P := B) (ps := tb) (closure_ok fr0) I0.ok.glob (I0.mod.glob.keeps I0.bk) code0 (tabl.code.keeps I0.bk) rawB trip found tabl.gP bB fun k ctv hp2 tk2 grow big below recd written => ?_
    obtain ⟨k2, oc, flds, tk, ek, hoc, dat, nam⟩ := recd
    cases ek
    have upto : s.heap.objs.size ≤ hp2.objs.size := Nat.le_trans big (Nat.le_of_lt below)
    have newK : H k = none := I0.hok.fresh big
    have nBk : B ≠ k := ne_of_none tbB newK
    have J := LamX.inv_table (t' := tk2) (more := #[rawInt lp.line, rawInt lp.col, .ref k]) (h' := hp2.push (PySem.W.kla_obj "<lambda>" (X.env.qual ++ "<lambda>") pars bd sco (cloFrom X.env.cells sco.names []) ((X.mg "__name__").getD .none) k ctv)) I0 tbB
      (fun b o hb e => Heap.get?_push_of_some _ (grow b o hb e)) (Heap.get?_push_of_some _ written) big ⟨oc, flds, tk, Heap.get?_push_of_some _ hoc, dat, nam⟩
    have keepAll : ∀ b o, b ≠ B → H b = some o → (upd (upd H B (.tbl (tb ++ #[rawInt lp.line, rawInt lp.col, .ref k]))) k (LamX.CodeO k (X.env.qual ++ "<lambda>"))) b = some o := fun b o nb e => by
      rw [upd_ne (ne_of_none e newK), upd_ne nb]
      exact e
    have asList : (tb ++ #[rawInt lp.line, rawInt lp.col, .ref k]).toList = tb.toList ++ [rawInt lp.line, rawInt lp.col, .ref k] := by simp
    refine go hp2.objs.size k ((X.mg "__name__").getD .none) ctv _ _ J keepAll ⟨_, (upd_ne nBk).trans upd_same, by rw [asList]; exact PySem.TriplesOk_snoc _ _ _ _ trip, fun at_ v hv => ?_⟩ (Heap.get?_push_size _ rfl) ?_ (outFr _ upto) upd_same
    · rw [asList] at hv
      rcases LamX.among_app _ trip hv with old | new
      · obtain ⟨k0, e1, e2, e3⟩ := ents at_ v old
        have nB : k0 ≠ B := fun z => by
          rw [z, tbB] at e2
          exact LamX.codeO_ne _ (Option.some.inj e2).symm
        exact ⟨k0, e1, keepAll _ _ nB e2, e3⟩
      · exact ⟨k, new, upd_same, fun z => lv k z newK⟩
    · have far1 : hp2.objs.size ≠ k := Nat.ne_of_gt below
      have far2 : hp2.objs.size ≠ B := Nat.ne_of_gt (Nat.lt_of_lt_of_le (Heap.lt_size rawB) upto)
      rw [upd_ne far1, upd_ne far2]
      exact I0.hok.fresh upto
end
/-- told: all but the table stays; the codes are none of Z -/
def tLamZ (B : Addr) (q : Str) (TT : (XK → Hp → VK → Prop) → Hp → VK → Prop) (t : XK → TE) : TE := fun σ H Q => ∃ Z : Addr → Prop, TabZ Z H B q ∧ (∀ b, Z b → H b ≠ none) ∧ ∀ H1, (∀ b o, b ≠ B → H b = some o → H1 b = some o) → TabZ Z H1 B q → TT (fun E H' Q' => t E σ H' Q') H1 Q
theorem pe_lamcallZ {X : Cx} {TT : (XK → Hp → VK → Prop) → Hp → VK → Prop} {x a : Str} {g c B : Addr} {k : Nat} {pg : Arguments} {bg : List Stmt} {sg : Scope} {d1 d2 doc pm cdv ct oc : Value} {an od : Option Addr} {osl : Array (Option Value)} {Ng : List Str}
    {pars : Arguments} {bd : Expr} {sco : Scope} {t : XK → TE} {p lp pos : Pos} (gx : Gl X x) (mx : X.mg x = some (.ref g)) (kx : PySem.W.keepIn X.K (.ref g) = true)
    (atg : X.K.lookup g = some ⟨oc, od, .func (PySem.W.fnOf x x pg bg sg d1 d2 doc pm an cdv ct), osl⟩) (cdg : PySem.W.codeIn X.K cdv x = true) (bi : L2.Binds X.K (PySem.W.fnOf x x pg bg sg d1 d2 doc pm an cdv ct) [a] []) (S : FnScope Ng [a] sg) (n0 : Ng[0]? = some a) (va : Vis sg a)
    (gives : LamX.GivesTo X Ng x sg g cdv bg a (X.env.qual ++ "<lambda>") TT)
    (tabl : LamX.TabB X.base X.mg c B) (code0 : X.env.code = .ref c) (room : Room (k + 2) X.A) (L : LamX.LamS X.env.scope sco) (dfl0 : defaultsOf pars X.env = ([], []))
    (bind0 : ∀ (q : Str) (cl : List (Str × Addr)) (pm cv ctv : Value), bindArgs (PySem.W.kla_fn "<lambda>" q pars bd sco cl pm cv ctv) ⟨[], []⟩ = pure [])
    (body : ∀ (A : Around) (outer : List Env) (s : Shared) (H : Hp) (E : XK) (f k' : Addr), Room k (A.deeper (LamX.lamEnv X sco s.heap.objs.size f k')) → PE (LamX.lamCx X A outer s H E sco f k') bd (t E))
    (hdb : (x == ("__debug__" : Str)) = false := by decide) (hd : (a == ("__debug__" : Str)) = false := by decide) (hcd : (a == ("__classdict__" : Str)) = false := by decide) :
    PE X (.Call (.Name x p) [.Lambda pars bd sco lp] [] pos) (tLamZ B (X.env.qual ++ "<lambda>") TT t) := by
  refine ⟨fun pins s σ H Q I h => ?_⟩
  obtain ⟨Z, hZ, lv, h⟩ := h
  refine wpAny_Call_Name_kw (ld_glob I gx mx (PySem.W.callWith_K (h₀ := X.base) I.ok.mod.kin kx ?_ (by rfl) (by rfl)) hdb)
  show wpAny _ _ (spliced ((false, eval (.Lambda pars bd sco lp) X.env) :: backTo pos (starEach [] X.env))) _ _ s
  refine Calls.spliced_cons (lam_makeZ I tabl code0 hZ lv dfl0 (L.has I.ok) fun f k' pmv ctv H1 s1 I1 e1 T1 hf nf outF hk => Calls.spliced_nil ⟨I1.kIn, ?_⟩)
  have ran : codeAny (model X.prog X.w) X.A (.call (.ref g) ⟨[.ref f], []⟩) (CR C8.CX0 X.stack X.prog X.w H1 s1 Q C8.E0) s1 :=
    LamX.run_ofS (N := Ng) (ps := [a]) (us := [.ref f]) (vs := [.ref f]) atg cdg S room I1.env0 (bi s1 [.ref f] I1.kIn rfl) (.cons rfl .nil) rfl fun room2 => by
      obtain ⟨t2, w2, q2⟩ := gives f k' s1 H1 Q (fun E H' Q' => t E σ H' Q') (fun W pn xe E p1 p2 tk hW => LamX.pe_act (i := 0) I1 L hf nf outF (bind0 _ _ _ _ _) tk hW room2 (fun A outer s H r3 => body A outer s H E f k' r3) n0 va hd hcd) hk (h H1 e1 T1)
      exact ⟨t2, w2.nox, q2⟩
  refine wpAny_call (codeAny_mono ran fun r s2 hq => ?_)
  match r, hq with
  | .error _, hq => exact (show False from hq).elim
  | .ok (.ret _), hq => exact I1.after hq
  | .ok .next, hq => exact False.elim hq
  | .ok .brk, hq => exact False.elim hq
  | .ok .cont, hq => exact False.elim hq
end MK
set_option Elab.async false
set_option linter.all false
set_option autoImplicit false
set_option maxRecDepth 100000
set_option maxHeartbeats 4000000
namespace MK
open PySem PySem.Spec PyProof.Rows L2
local macro_rules | `(tactic| walk_at "x") => `(tactic| dsimp only [tSeq, tAsg, tRet, tDrop, tLst, tTup, tCons, tOp, tUn, tIfS])
def topS (i : Nat) : Stmt := PySem.Challenge.pw_makerlines_k13_yards_live.main.body.getD i (.Pass ⟨0, 0, 0, 0⟩)
structure Txt (K : PySem.W.Frag) (mg : Str → Option Value) : Prop where
  len : mg "len" = none
  int : mg "int" = none
  enumerate : mg "enumerate" = none
  list : mg "list" = none
  tuple : mg "tuple" = none
  isinstance : mg "isinstance" = none
  range : mg "range" = none
  all : mg "all" = none
  zip : mg "zip" = none
  ValueError : mg "ValueError" = none
  bool : mg "bool" = none
  str : mg "str" = none
  set : mg "set" = none
  any : mg "any" = none
/-- what stands at the names of the program's own constants -/
structure Cst where
  sorts : Addr
  hands : Addr
  sod : Addr
  wd : Addr
  lwd : Addr
def sodOf (z : Str) : Option (List Str) :=
  if z = "set" then some ["one"] else if z = "add" then some ["many"] else if z = "strike" then some ["many"] else if z = "fresh" then some ["many"] else if z = "clear" then some ["one", "many"] else none
structure Csts (K : PySem.W.Frag) (w : World) (mg : Str → Option Value) (C : Cst) : Prop where
  MOST_LETTERS : ∃ u, mg "MOST_LETTERS" = some u ∧ RelV (.int 8) u
  MOST_FIELDS : ∃ u, mg "MOST_FIELDS" = some u ∧ RelV (.int 3) u
  MOST_MODES : ∃ u, mg "MOST_MODES" = some u ∧ RelV (.int 4) u
  MOST_CALLS : ∃ u, mg "MOST_CALLS" = some u ∧ RelV (.int 6) u
  MOST_DEEDS : ∃ u, mg "MOST_DEEDS" = some u ∧ RelV (.int 4) u
  SORTS : ∃ u, mg "SORTS" = some u ∧ RelV (.ref C.sorts) u
  HANDS : ∃ u, mg "HANDS" = some u ∧ RelV (.ref C.hands) u
  SORTS_OF_DEEDS : ∃ u, mg "SORTS_OF_DEEDS" = some u ∧ RelV (.ref C.sod) u
  WORD_DEEDS : ∃ u, mg "WORD_DEEDS" = some u ∧ RelV (.ref C.wd) u
  LIST_WORD_DEEDS : ∃ u, mg "LIST_WORD_DEEDS" = some u ∧ RelV (.ref C.lwd) u
  t_sorts : ∀ H, SqT K H C.sorts [.str "one", .str "many"]
  t_hands : ∀ H, SqT K H C.hands [.str "self", .str "new", .str "last"]
  t_wd : ∀ H, SqT K H C.wd [.str "set", .str "add", .str "strike"]
  t_lwd : ∀ H, SqT K H C.lwd [.str "add", .str "strike"]
  sodD : ∃ es n, KDict K w C.sod es n
  sodN : ∀ z : Str, (PySem.W.nsIn K C.sod z = some none ∧ sodOf z = none) ∨ ∃ a l, PySem.W.nsIn K C.sod z = some (some (.ref a)) ∧ sodOf z = some l ∧ ∀ H, SqT K H a (l.map V.str)
abbrev s_fresh : Stmt := topS 64
theorem sc_fresh : FnScope ["_law_script"] ["_law_script"] (defScope s_fresh) := ⟨rfl, rfl, rfl, by decide +kernel, rfl, by decide +kernel, by decide +kernel⟩
abbrev s_fill : Stmt := topS 65
theorem sc_fill : FnScope ["_law_state", "_law_cells", "_law_nth", "_law_seed", "_law_k", "_law_prime", "_law_far"] ["_law_state"] (defScope s_fill) := ⟨rfl, rfl, rfl, by decide +kernel, rfl, by decide +kernel, by decide +kernel⟩
abbrev s_take : Stmt := topS 66
theorem sc_take : FnScope ["_law_state", "_law_many", "_law_laps", "_law_digit"] ["_law_state", "_law_many"] (defScope s_take) := ⟨rfl, rfl, rfl, by decide +kernel, rfl, by decide +kernel, by decide +kernel⟩
abbrev s_one : Stmt := topS 67
theorem sc_one : FnScope ["_law_state", "_law_things"] ["_law_state", "_law_things"] (defScope s_one) := ⟨rfl, rfl, rfl, by decide +kernel, rfl, by decide +kernel, by decide +kernel⟩
/-- the state of the draws: at s, its cells ns at c -/
def StA (H : Hp) (s c : Addr) (ns : List Int) : Prop := c ≠ s ∧ H c = some (.lst (ns.map V.int)) ∧ ∃ (a b : Int) (m : Bool), H s = some (.lst [.ref c, .int a, .int b, .bl m])
theorem StA.keep {H H' : Hp} {s c : Addr} {ns : List Int} (x : StA H s c ns) (e : Same H H') : StA H' s c ns := by
  obtain ⟨n, h1, a, b, m, h2⟩ := x
  exact ⟨n, e _ _ h1, a, b, m, e _ _ h2⟩
theorem cut63 (ns : List Int) (h : ns.length ≤ 63) : cutV (ns.map V.int) none (some 63) = ns.map V.int := by
  have e : HT.sIx (ns.map V.int).length (ns.map V.int).length (some 63) = min 63 (ns.map V.int).length := HT.sIx_nat _ _ 63
  unfold cutV
  rw [HT.sIx_none, e, List.drop_zero, Nat.sub_zero]
  exact List.take_of_length_le (by rw [List.length_map]; omega)
def primes : List V := [.int 2147483647, .int 2147483629, .int 2147483587, .int 2147483579, .int 2147483563]
theorem primes_ok {i : Nat} {y : V} (h : primes[i]? = some y) : ∃ p : Int, y = .int p ∧ 0 < p ∧ p < 4294967296 := by
  have m := List.mem_of_getElem? h
  simp only [primes, List.mem_cons, List.not_mem_nil, or_false] at m
  rcases m with rfl | rfl | rfl | rfl | rfl <;> exact ⟨_, rfl, by decide, by decide⟩
def spFresh (K : PySem.W.Frag) : Sp := fun vs H Q _ => ∃ (a : Addr) (ns : List Int), vs = [.ref a] ∧ SqL K H a (ns.map V.int) ∧ ns.length ≤ 63 ∧
  ∀ s c H', Same H H' → H s = none → H c = none → StA H' s c ns → Q (.ref s) H'
def spFill : Sp := fun vs H Q _ => ∃ (s c : Addr) (ns : List Int), vs = [.ref s] ∧ StA H s c ns ∧ ns.length ≤ 63 ∧ ∀ H', SameX s H H' → StA H' s c ns → Q .non H'
def spTake : Sp := fun vs H Q _ => ∃ (s c : Addr) (ns : List Int) (n : Int), vs = [.ref s, .int n] ∧ StA H s c ns ∧ ns.length ≤ 63 ∧ 0 < n ∧ n < 1000000 ∧
  ∀ (d : Nat) H', (d : Int) < n → SameX s H H' → StA H' s c ns → Q (.int d) H'
def spOne (K : PySem.W.Frag) : Sp := fun vs H Q _ => ∃ (s c l : Addr) (ns : List Int) (xs : List V), vs = [.ref s, .ref l] ∧ StA H s c ns ∧ ns.length ≤ 63 ∧ l ≠ s ∧ (SqL K H l xs ∨ SqT K H l xs) ∧ 0 < xs.length ∧ xs.length < 1000000 ∧
  ∀ (d : Nat) (x : V) H', xs[d]? = some x → SameX s H H' → StA H' s c ns → Q x H'
section
variable {P : Program} {w : World} {K : PySem.W.Frag} {mg : Str → Option Value} {base : Heap}
theorem ok_fresh {f : Addr} {fd : FuncData} (F : DefX K mg "_law_fresh" s_fresh ["_law_script"] f fd) (T : Txt K mg) : Cal P w K mg base CX0 1 "_law_fresh" (spFresh K) := by
  refine cal_mk F sc_fresh (fun vs H Q E h => ?_) (fun cdv A outer s H vs Q E hr h => ?_)
  · obtain ⟨a, ns, rfl, _⟩ := h
    rfl
  · obtain ⟨a, ns, rfl, hs, hl, k⟩ := h
    refine ⟨_, (pss_one (ps_ret (pe_lst (pa_cons (pe_slice sl_list (pv 0) po_none (po_some pe_int)) (pa_cons pe_int (pa_cons pe_int (pa_cons pe_bl pa_nil))))))), ?_⟩
    refine ⟨_, rfl, _, rfl, a, _, rfl, hs, fun c hc => ⟨(by show 4 ≤ sizeLine; decide), fun t ht => ?_⟩⟩
    rw [cut63 ns hl] at ht ⊢
    obtain ⟨tc, htn⟩ := upd_none ht
    refine k t c _ (same_new (same_new (Same.refl H) hc) ht) htn hc ⟨tc.symm, ?_, 0, 0, false, upd_same⟩
    rw [upd_ne tc.symm, upd_same]
theorem ok_fill {f : Addr} {fd : FuncData} (F : DefX K mg "_law_fill" s_fill ["_law_state"] f fd) (T : Txt K mg) : Cal P w K mg base CX0 1 "_law_fill" spFill := by
  refine cal_mk F sc_fill (fun vs H Q E h => ?_) (fun cdv A outer s H vs Q E hr h => ?_)
  · obtain ⟨s, c, ns, rfl, _⟩ := h
    rfl
  · obtain ⟨s, c, ns, rfl, ⟨cs, hc, a, b, m, hs⟩, hl, k⟩ := h
    refine ⟨_, (pss_cons (ps_par (i := 1) (j := 2) (by rfl) sc_fill.nd rfl rfl (by decide) rfl rfl (pa_cons (pe_ix ix_list (pv 0) pe_int (fun _ _ => rfl)) (pa_cons (pe_ix ix_list (pv 0) pe_int (fun _ _ => rfl)) pa_nil)) (by rfl))
(pss_cons (ps_set (i := 3) sc_fill.nd rfl (Or.inl rfl) (pe_op op_add (pe_op op_mul pe_int (pv 2)) pe_int))
(pss_cut (ps_if (pt_cmpR op_gt (pe_callB call_len_seq (by rfl) T.len (by decide +kernel) (pa_cons (pv 1) pa_nil)) pe_int (nomark _))
(pss_one (ps_set (i := 3) sc_fill.nd rfl (Or.inl rfl) (pe_op op_add (pe_op op_mul pe_int (pe_op op_fdivN (pv 2) (pe_callB call_len_seq (by rfl) T.len (by decide +kernel) (pa_cons (pv 1) pa_nil)))) (pe_ix ix_list (pv 1) (pe_op op_modN (pe_callTy call_int1 (by rfl) T.int (by decide +kernel) (pa_cons (pv 2) pa_nil)) (pe_callB call_len_seq (by rfl) T.len (by decide +kernel) (pa_cons (pv 1) pa_nil))) (fun _ _ => rfl)))))
pss_nil)
(pss_cons (ps_asg (pe_op op_add (pv 2) pe_int) (pg_sub (pv 0) pe_int set_list))
(pss_cons (ps_asg (pe_cut (pe_or (pe_cmpR op_ge (pv 2) (pe_callB call_len_seq (by rfl) T.len (by decide +kernel) (pa_cons (pv 1) pa_nil)) (nomark _)) (pe_one (pe_cmpR op_lt (pv 3) (pe_op op_pow pe_int pe_int) (nomark _))))) (pg_sub (pv 0) pe_int set_list))
(pss_cons (ps_asg (pe_op op_sub (pv 3) (pe_op op_pow pe_int pe_int)) (pg_sub (pv 0) pe_int set_list))
(pss_one (ps_if (pt_val (pe_ix ix_list (pv 0) pe_int (fun _ _ => rfl)))
(pss_cons (ps_asg pe_int (pg_sub (pv 0) pe_int set_list))
(pss_one (ps_for PassesOwn.never rfl (pi_enumT (by rfl) T.enumerate (pa_cons (pe_tup (pa_cons pe_int (pa_cons pe_int (pa_cons pe_int (pa_cons pe_int (pa_cons pe_int pa_nil)))))) pa_nil)) (pg_tup (by rfl) (pgs_cons (pg_name (i := 4) sc_fill.nd rfl (Or.inl rfl)) (pgs_cons (pg_name (i := 5) sc_fill.nd rfl (Or.inl rfl)) pgs_nil)))
(pss_cons (ps_set (i := 6) sc_fill.nd rfl (Or.inl rfl) (pe_op op_modN (pe_callTy call_int1 (by rfl) T.int (by decide +kernel) (pa_cons (pe_op op_mul (pe_op op_add (pe_op op_add (pv 3) (pe_op op_mul (pe_op op_mul pe_int (pv 4)) (pv 4))) (pe_op op_mul pe_int (pv 4))) (pe_op op_add pe_int (pe_op op_mul pe_int (pv 4)))) pa_nil)) (pv 5)))
(pss_one (ps_asg (pe_op op_add (pe_op op_mul (pe_ix ix_list (pv 0) pe_int (fun _ _ => rfl)) (pv 5)) (pe_op op_modN (pe_callTy call_int1 (by rfl) T.int (by decide +kernel) (pa_cons (pe_op op_pow (pv 6) pe_int) pa_nil)) (pv 5))) (pg_sub (pv 0) pe_int set_list)))))))
pss_nil)))))))), ?_⟩
    have sq : ∀ {H' : Hp}, SameX s H H' → SqL K H' c (ns.map V.int) := fun e => .inl (.inl (e _ _ hc cs))
    have kd : ∀ (H' : Hp) (b' : Int) (m' : Bool) (a' : Int), SameX s H H' → H' s = some (.lst [.ref c, .int a', .int b', .bl m']) → Q .non H' := fun H' b' m' a' e h => k H' e ⟨cs, e _ _ hc cs, a', b', m', h⟩
    -- cells, nth = state[0], state[1]
    refine ⟨_, rfl, s, _, 0, .ref c, rfl, rfl, SqL.of hs, rfl, _, rfl, s, _, 1, .int a, rfl, rfl, SqL.of hs, rfl, _, _, rfl, ?_⟩
    refine ⟨_, rfl, _, _, rfl, rfl, .inl (by decide), _, _, rfl, rfl, ?_⟩
    -- the seed is some int
    refine ⟨fun σ' H' => H' = H ∧ ∃ z : Int, σ' = [some (.ref s), some (.ref c), some (.int a), some (.int z), none, none, none], ?_, ?_⟩
    · refine ⟨_, rfl, c, _, rfl, .inl (sq (SameX.refl s H)), _, _, rfl, rfl, _, rfl, ?_⟩
      refine ite2 (fun hp => ?_) (fun hn => ?_)
      · have hpos : 0 < ns.length := by
          have q : (0 : Int) < ((ns.map V.int).length : Int) := of_decide_eq_true hp
          rw [List.length_map] at q
          omega
        have hne : ((ns.map V.int).length : Int) ≠ 0 := by rw [List.length_map]; omega
        have hsm : ((ns.map V.int).length : Int).natAbs < 1073741824 := by rw [List.length_map]; omega
        have sq0 := sq (SameX.refl s H)
        obtain ⟨v, hv⟩ : ∃ v, atI (ns.map V.int) (a.fmod ((ns.map V.int).length : Int)) = some (V.int v) := by
          have h0 := Int.fmod_nonneg_of_pos a (b := ((ns.map V.int).length : Int)) (by rw [List.length_map]; omega)
          have h1 := Int.fmod_lt_of_pos a (b := ((ns.map V.int).length : Int)) (by rw [List.length_map]; omega)
          obtain ⟨j, hj⟩ := Int.eq_ofNat_of_zero_le h0
          rw [hj] at h1 ⊢
          rw [List.length_map] at h1
          have hjl : j < ns.length := by omega
          exact ⟨ns[j], atI_nat (by rw [List.getElem?_map, List.getElem?_eq_getElem hjl]; rfl)⟩
        refine ⟨_, rfl, _, rfl, c, _, rfl, .inl sq0, _, _, rfl, rfl, ⟨hne, hsm⟩, _, _, rfl, rfl, .inl (by decide), ?_⟩
        refine ⟨_, rfl, _, rfl, .inl ⟨_, rfl, _, rfl, c, _, rfl, .inl sq0, _, _, rfl, rfl, hne, ?_⟩⟩
        exact ⟨c, _, _, _, rfl, rfl, sq0, hv, _, _, rfl, rfl, rfl, _, rfl⟩
      · exact ⟨rfl, _, rfl⟩
    · rintro σ' H' ⟨rfl, z, rfl⟩
      have e1 : SameX s H' (upd H' s (.lst [.ref c, .int (a + 1), .int b, .bl m])) := (SameX.refl s H').put
      -- state[1] = nth + 1; state[3] = ..
      refine ⟨_, rfl, _, _, rfl, rfl, _, rfl, s, _, 1, 1, rfl, rfl, hs, rfl, ?_⟩
      refine ⟨fun v H2 => H2 = _ ∧ ∃ d : Bool, v = .bl d, ⟨_, rfl, _, rfl, c, _, rfl, .inl (sq e1), _, _, rfl, rfl, _, rfl, ite2 (fun _ => ⟨rfl, _, rfl⟩) (fun _ => ?_)⟩, ?_⟩
      · exact ⟨_, rfl, _, _, rfl, rfl, ⟨by decide, by decide, by decide⟩, _, _, rfl, rfl, rfl, _, rfl⟩
      rintro _ _ ⟨rfl, d, rfl⟩
      refine ⟨_, rfl, s, _, 3, 3, rfl, rfl, upd_same, rfl, ?_⟩
      rw [upd_upd]
      -- state[2] = seed - 10 ** 18
      refine ⟨_, rfl, _, _, rfl, rfl, ⟨by decide, by decide, by decide⟩, _, _, rfl, rfl, _, rfl, s, _, 2, 2, rfl, rfl, upd_same, rfl, ?_⟩
      rw [upd_upd]
      refine ⟨_, rfl, s, _, 3, .bl d, rfl, rfl, SqL.of upd_same, rfl, d, rfl, ite2 (fun _ => ?_) (fun _ => ?_)⟩
      · -- mixed
        refine ⟨_, rfl, s, _, 2, 2, rfl, rfl, upd_same, rfl, ?_⟩
        rw [upd_upd]
        refine ⟨by show 5 ≤ sizeLine; decide, fun t ht => ⟨t, _, rfl, SqT.of upd_same, ?_⟩⟩
        obtain ⟨ts, ht'⟩ := upd_none ht
        refine for_it walk_enumT (fun i σ H2 => SameX s H' H2 ∧ H2 t = some (.tup primes) ∧ (∃ b2 : Int, H2 s = some (.lst [.ref c, .int (a + 1), .int b2, .bl d])) ∧ ∃ x4 x5 x6, σ = [some (.ref s), some (.ref c), some (.int a), some (.int z), x4, x5, x6])
          ⟨((SameX.refl s H').put).new ht, upd_same, ⟨0, (upd_ne ts.symm).trans upd_same⟩, none, none, none, rfl⟩ (fun i σ H2 _ q => SqT.of q.2.1) ?_ ?_
        · rintro i x σ H2 H3 hi ⟨e2, e3, ⟨b2, e4⟩, x4, x5, x6, rfl⟩ ⟨U, _, y, rfl, hU, rfl, h1, hy⟩
          obtain rfl := Option.some.inj h1
          obtain ⟨p, rfl, p0, p1⟩ := primes_ok (i := i) hy
          have us : s ≠ U := fun q => by rw [q, hU] at e4; cases e4
          refine ⟨U, _, rfl, SqT.of upd_same, rfl, _, _, rfl, _, _, rfl, rfl, ?_⟩
          have hf0 : p ≠ 0 := by omega
          have hi5 : i < 5 := hi
          -- far
          refine ⟨_, rfl, _, rfl, _, _, rfl, rfl, .inl (by decide), _, rfl, _, _, rfl, rfl, .inr (by omega), _, _, rfl, rfl, _, rfl, _, _, rfl, rfl, .inl (by decide), _, _, rfl, rfl, ?_⟩
          refine ⟨_, rfl, _, _, rfl, rfl, .inl (by decide), _, _, rfl, rfl, _, _, rfl, rfl, .inr (by omega), .inl ⟨_, rfl, _, rfl, _, _, rfl, rfl, hf0, ?_⟩⟩
          have f0 := Int.fmod_nonneg_of_pos ((z + 10007 * (i : Int) * (i : Int) + 101 * (i : Int)) * (48271 + 2 * (i : Int))) (b := p) (by omega)
          have f1 := Int.fmod_lt_of_pos ((z + 10007 * (i : Int) * (i : Int) + 101 * (i : Int)) * (48271 + 2 * (i : Int))) (b := p) (by omega)
          have e5 : upd H2 U (.tup [.int (i : Nat), .int p]) s = some (.lst [.ref c, .int (a + 1), .int b2, .bl d]) := by rw [upd_ne us]; exact e4
          refine ⟨_, rfl, s, _, 2, .int b2, rfl, rfl, SqL.of e5, rfl, _, rfl, _, _, rfl, rfl, .inr (by omega), ?_⟩
          refine ⟨_, rfl, _, _, rfl, rfl, ⟨by decide, by decide, by omega⟩, .inl ⟨_, rfl, _, rfl, _, _, rfl, rfl, hf0, _, _, rfl, rfl, _, rfl, s, _, 2, 2, rfl, rfl, e5, rfl, ?_⟩⟩
          have tU : t ≠ U := fun q => by rw [q, hU] at e3; cases e3
          exact ⟨(e2.new hU).put, by rw [upd_ne ts, upd_ne tU]; exact e3, ⟨_, upd_same⟩, _, _, _, rfl⟩
        · rintro σ H2 ⟨e2, _, ⟨b2, e4⟩, _⟩
          exact kd _ _ _ _ e2 e4
      · exact kd _ _ _ _ (SameX.refl s H').put upd_same
def lapsOf (σ : L2.St) (_ : Hp) : Nat := match (σ[2]? : Option (Option V)) with
  | some (some (V.int l)) => (64 - l).toNat
  | _ => 0
theorem ok_take {f : Addr} {fd : FuncData} (F : DefX K mg "_law_take" s_take ["_law_state", "_law_many"] f fd) (T : Txt K mg) (c_fill : Cal P w K mg base CX0 1 "_law_fill" spFill) : Cal P w K mg base CX0 2 "_law_take" spTake := by
  refine cal_mk F sc_take (fun vs H Q E h => ?_) (fun cdv A outer s H vs Q E hr h => ?_)
  · obtain ⟨s, c, ns, n, rfl, _⟩ := h
    rfl
  · obtain ⟨s, c, ns, n, rfl, h0, hl, n0, n1, k⟩ := h
    refine ⟨_, (pss_cons (ps_set (i := 2) sc_take.nd rfl (Or.inl rfl) pe_int)
(pss_cons (ps_while PassesOwn.never (pt_cut (PW.pt (pw_and (pt_cmpR op_lt (pv 2) pe_int (nomark _)) (pw_and1 (pt_cut (PW.pt (pw_or (pt_cmpR op_eq (pe_ix ix_list (pv 0) pe_int (fun _ _ => rfl)) pe_int (nomark _)) (pw_or1 (pt_cut (PW.pt (pw_and (pt_val (pe_ix ix_list (pv 0) pe_int (fun _ _ => rfl))) (pw_and1 (pt_cmpR op_lt (pe_ix ix_list (pv 0) pe_int (fun _ _ => rfl)) (pe_op op_mul (pv 1) pe_int) (nomark _))))))))))))))
(pss_cons (ps_expr (pe_c c_fill hr (by first | decide | assumption) rfl (pa_cons (pv 0) pa_nil)))
(pss_cons (ps_aug (i := 2) sc_take.nd rfl (Or.inl rfl) pe_int ip_add)
(pss_one (ps_if (pt_cut (PW.pt (pw_and (pt_val (pe_ix ix_list (pv 0) pe_int (fun _ _ => rfl))) (pw_and1 (pt_cmpR op_lt (pe_ix ix_list (pv 0) pe_int (fun _ _ => rfl)) (pe_op op_mul (pv 1) pe_int) (nomark _))))))
(pss_one (ps_asg (pe_op op_add (pe_ix ix_list (pv 0) pe_int (fun _ _ => rfl)) (pe_op op_mul (pe_op op_mul (pv 1) pe_int) (pe_op op_add pe_int (pe_op op_modN (pe_callTy call_int1 (by rfl) T.int (by decide +kernel) (pa_cons (pe_ix ix_list (pv 0) pe_int (fun _ _ => rfl)) pa_nil)) pe_int)))) (pg_sub (pv 0) pe_int set_list)))
pss_nil)))))
(pss_cons (ps_set (i := 3) sc_take.nd rfl (Or.inl rfl) (pe_op op_modN (pe_callTy call_int1 (by rfl) T.int (by decide +kernel) (pa_cons (pe_ix ix_list (pv 0) pe_int (fun _ _ => rfl)) pa_nil)) (pv 1)))
(pss_cons (ps_asg (pe_op op_fdivN (pe_ix ix_list (pv 0) pe_int (fun _ _ => rfl)) (pv 1)) (pg_sub (pv 0) pe_int set_list))
(pss_one (ps_ret (pv 3))))))), ?_⟩
    show tWhile _ _ _ [some (.ref s), some (.int n), some (.int 0), none] H
    refine while_by (fun σ H2 => SameX s H H2 ∧ StA H2 s c ns ∧ ∃ l : Int, σ = [some (.ref s), some (.int n), some (.int l), none]) lapsOf ⟨SameX.refl s H, h0, 0, rfl⟩ ?_ (fun σ H Q Q' h x => ?_)
    · rintro σ H2 ⟨e2, ⟨cs, hc, a, b, m, hs⟩, l, rfl⟩
      refine ⟨fun t H3 => H3 = H2 ∧ (t = true → l < 64), ?_, ?_⟩
      · refine ⟨_, rfl, _, _, rfl, rfl, _, rfl, ite2 (fun h1 => ?_) (fun h1 => ⟨rfl, fun h => nomatch h⟩)⟩
        have hl64 : l < 64 := of_decide_eq_true h1
        refine ⟨fun t H3 => H3 = H2, ⟨_, rfl, s, _, 2, _, rfl, rfl, SqL.of hs, rfl, rfl, _, rfl, ite2 (fun _ => rfl) (fun _ => ?_)⟩, fun t H3 e => ⟨e, fun _ => hl64⟩⟩
        refine ⟨fun t H3 => H3 = H2, ⟨_, rfl, s, _, 3, _, rfl, rfl, SqL.of hs, rfl, m, rfl, ite2 (fun _ => ?_) (fun _ => rfl)⟩, fun t H3 e => e⟩
        exact ⟨_, rfl, s, _, 2, _, rfl, rfl, SqL.of hs, rfl, _, rfl, _, _, rfl, rfl, .inr (by decide), _, _, rfl, rfl, _, rfl, rfl⟩
      · rintro t H3 ⟨rfl, ht⟩
        refine ite2 (fun h1 => ?_) (fun h1 => ?_)
        · have hl64 := ht h1
          have dec : ∀ x : Option V, lapsOf [some (.ref s), some (.int n), some (.int (l + 1)), x] H3 < lapsOf [some (.ref s), some (.int n), some (.int l), none] H3 := fun x => by
            show (64 - (l + 1)).toNat < (64 - l).toNat
            omega
          refine ⟨_, rfl, s, c, ns, rfl, ⟨cs, hc, a, b, m, hs⟩, hl, fun H4 e4 h4 => ?_⟩
          obtain ⟨_, hc4, a4, b4, m4, hs4⟩ := id h4
          refine ⟨_, rfl, _, _, rfl, rfl, ?_⟩
          refine ⟨fun t H5 => H5 = H4, ⟨_, rfl, s, _, 3, _, rfl, rfl, SqL.of hs4, rfl, m4, rfl, ite2 (fun _ => ?_) (fun _ => rfl)⟩, ?_⟩
          · exact ⟨_, rfl, s, _, 2, _, rfl, rfl, SqL.of hs4, rfl, _, rfl, _, _, rfl, rfl, .inr (by decide), _, _, rfl, rfl, _, rfl, rfl⟩
          rintro t5 H5 rfl
          refine ite2 (fun _ => ?_) (fun _ => ?_)
          · refine ⟨_, rfl, s, _, 2, _, rfl, rfl, SqL.of hs4, rfl, _, rfl, _, _, rfl, rfl, .inr (by decide), ?_⟩
            refine ⟨_, rfl, s, _, 2, _, rfl, rfl, SqL.of hs4, rfl, .inl ⟨_, rfl, _, _, rfl, rfl, (by show (4093 : Int) ≠ 0; decide), _, _, rfl, rfl, _, _, rfl, rfl, .inl ?_, _, _, rfl, rfl, ?_⟩⟩
            · show -(2 ^ 64) < n * 4096 ∧ n * 4096 < 2 ^ 64
              omega
            refine ⟨_, rfl, s, _, 2, 2, rfl, rfl, hs4, rfl, ⟨(e2.trans e4).put, ⟨cs, ?_, _, _, _, upd_same⟩, _, rfl⟩, dec none⟩
            rw [upd_ne cs]
            exact hc4
          · exact ⟨⟨e2.trans e4, h4, _, rfl⟩, dec none⟩
        · refine ⟨_, rfl, s, _, 2, _, rfl, rfl, SqL.of hs, rfl, .inl ⟨_, rfl, _, rfl, _, _, rfl, rfl, by omega, ?_⟩⟩
          refine ⟨_, rfl, s, _, 2, _, rfl, rfl, SqL.of hs, rfl, _, rfl, _, _, rfl, rfl, ⟨by omega, by omega⟩, _, rfl, s, _, 2, 2, rfl, rfl, hs, rfl, _, rfl, ?_⟩
          have d0 := Int.fmod_nonneg_of_pos b (b := n) n0
          have d1 := Int.fmod_lt_of_pos b (b := n) n0
          obtain ⟨d, hd⟩ := Int.eq_ofNat_of_zero_le d0
          show Q (.int (b.fmod n)) _
          rw [hd]
          refine k d _ (by omega) e2.put ⟨cs, ?_, _, _, _, upd_same⟩
          rw [upd_ne cs]
          exact hc
    · obtain ⟨M, a, b⟩ := x
      exact ⟨M, a, fun b' H' m => h _ _ (b b' H' m)⟩
theorem ok_one {f : Addr} {fd : FuncData} (F : DefX K mg "_law_one" s_one ["_law_state", "_law_things"] f fd) (T : Txt K mg) (c_take : Cal P w K mg base CX0 2 "_law_take" spTake) : Cal P w K mg base CX0 3 "_law_one" (spOne K) := by
  refine cal_mk F sc_one (fun vs H Q E h => ?_) (fun cdv A outer s H vs Q E hr h => ?_)
  · obtain ⟨s, c, l, ns, xs, rfl, _⟩ := h
    rfl
  · obtain ⟨s, c, l, ns, xs, rfl, h0, hl, ls, hx, x0, x1, k⟩ := h
    refine ⟨_, (pss_one (ps_ret (pe_ix ix_seq (pv 1) (pe_c c_take hr (by first | decide | assumption) rfl (pa_cons (pv 0) (pa_cons (pe_callB call_len_seq (by rfl) T.len (by decide +kernel) (pa_cons (pv 1) pa_nil)) pa_nil))) (fun _ _ => rfl)))), ?_⟩
    refine ⟨_, rfl, _, rfl, _, rfl, l, xs, rfl, hx, s, c, ns, _, rfl, h0, hl, by omega, by omega, fun d H2 hd e2 h2 => ?_⟩
    have hdl : d < xs.length := by omega
    have hv : xs[d]? = some xs[d] := List.getElem?_eq_getElem hdl
    rcases hx with hx | hx
    · exact .inl ⟨l, xs, _, _, rfl, rfl, e2.l ls hx, atI_nat hv, k d _ H2 hv e2 h2⟩
    · exact .inr (.inl ⟨l, xs, _, _, rfl, rfl, e2.t ls hx, atI_nat hv, k d _ H2 hv e2 h2⟩)
end
end MK
set_option Elab.async false
set_option linter.all false
set_option autoImplicit false
set_option maxRecDepth 100000
set_option maxHeartbeats 4000000
namespace MK
open PySem PySem.Spec PyProof.Rows L2
local macro_rules | `(tactic| walk_at "x") => `(tactic| dsimp only [tSeq, tAsg, tRet, tDrop, tLst, tTup, tCons, tOp, tUn, tIfS])
abbrev s_is_word : Stmt := topS 23
theorem sc_is_word : FnScope ["thing", "letter"] ["thing"] (defScope s_is_word) := ⟨rfl, rfl, rfl, by decide +kernel, rfl, by decide +kernel, by decide +kernel⟩
abbrev s_is_integer : Stmt := topS 24
theorem sc_is_integer : FnScope ["thing"] ["thing"] (defScope s_is_integer) := ⟨rfl, rfl, rfl, by decide +kernel, rfl, by decide +kernel, by decide +kernel⟩
abbrev s_is_list : Stmt := topS 25
theorem sc_is_list : FnScope ["thing"] ["thing"] (defScope s_is_list) := ⟨rfl, rfl, rfl, by decide +kernel, rfl, by decide +kernel, by decide +kernel⟩
abbrev s_is_modes : Stmt := topS 38
theorem sc_is_modes : FnScope ["modes"] ["modes"] (defScope s_is_modes) := ⟨rfl, rfl, rfl, by decide +kernel, rfl, by decide +kernel, by decide +kernel⟩
def NoStr (K : PySem.W.Frag) (H : Hp) (x : V) : Prop := ∃ t, TyX K H x (.type t) ∧ kitB t "str" = some false
def spWord (K : PySem.W.Frag) : Sp := fun vs H Q _ => ∃ x, vs = [x] ∧ ((∃ z, x = .str z ∧ z.length ≤ sizeLine ∧ ∀ H', Same H H' → Q (.bl (wordB z)) H') ∨ (NoStr K H x ∧ Q (.bl false) H))
def spInt : Sp := fun vs H Q _ => ∃ i, vs = [.int i] ∧ Q (.bl true) H
def spList (K : PySem.W.Frag) : Sp := fun vs H Q _ => ∃ x xs, vs = [x] ∧ Sq K H x xs ∧ ∀ H', Same H H' → Q (.bl true) H'
def spModes : Sp := fun vs H Q _ => ∃ i : Int, vs = [.int i] ∧ Q (.bl (decide (1 ≤ i) && decide (i ≤ 4))) H
section
variable {P : Program} {w : World} {K : PySem.W.Frag} {mg : Str → Option Value} {base : Heap} {C : Cst}
theorem ok_word {f : Addr} {fd : FuncData} (F : DefX K mg "is_word" s_is_word ["thing"] f fd) (T : Txt K mg) (Cs : Csts K w mg C) : Cal P w K mg base CX0 1 "is_word" (spWord K) := by
  refine cal_mk F sc_is_word (fun vs H Q E h => ?_) (fun cdv A outer sh H vs Q E hr h => ?_)
  · obtain ⟨x, rfl, _⟩ := h
    rfl
  · obtain ⟨x, rfl, h⟩ := h
    refine ⟨_, (pss_cons (ps_if (pt_cut (PW.pt (pw_or (pt_not (pt_val (pe_callB call_isi (by rfl) T.isinstance (by decide +kernel) (pa_cons (pv 0) (pa_cons (pe_tyv (n := "str") (by rfl) T.str (by decide +kernel)) pa_nil))))) (pw_or1 (pt_not (pt_chain op_le op_le pe_int (pe_callB call_len_str (by rfl) T.len (by decide +kernel) (pa_cons (pv 0) pa_nil)) (pe_cst rfl Cs.MOST_LETTERS)))))))
(pss_one (ps_ret pe_bl))
pss_nil)
(pss_one (ps_ret (pe_callB (cr_all rfl) (by rfl) T.all (by decide +kernel) (pa_cons (pe_lc (own := [("letter", 1)]) (g := (gName 1)) (tt := tYes) rfl sc_is_word.nd (pi_str (pv 0)) (blkOk_by (own := [("letter", 1)]) (N := ["thing", "letter"]) (sc := defScope s_is_word) (by decide +kernel)) (fun _ _ _ _ _ => (pg_name (i := 1) sc_is_word.nd rfl (Or.inl rfl))) (fun _ _ _ _ _ => pts_nil) (fun _ _ _ _ _ => (pe_chain op_le_str op_le_str pe_str (pv 1) pe_str))) pa_nil))))), ?_⟩
    rcases h with ⟨z, rfl, hz, q⟩ | ⟨⟨t, ty, kt⟩, q⟩
    · refine ⟨fun t H' => H' = H ∧ t = !(decide (1 ≤ z.cps.size) && decide (z.cps.size ≤ 8)), ?_, ?_⟩
      · refine ⟨_, rfl, _, _, _, _, true, rfl, .ty _, .base (.str z), kit_ty (by decide +kernel), true, rfl, iteF ?_⟩
        refine ⟨_, rfl, z, rfl, hz, _, _, rfl, rfl, _, rfl, ?_⟩
        have e1 : decide ((1 : Int) ≤ (z.length : Int)) = decide (1 ≤ z.cps.size) := decide_eq_decide.mpr (by show ((1 : Int) ≤ (z.cps.size : Int)) ↔ _; omega)
        have e2 : decide ((z.length : Int) ≤ 8) = decide (z.cps.size ≤ 8) := decide_eq_decide.mpr (by show (((z.cps.size : Nat) : Int) ≤ 8) ↔ _; omega)
        rw [e1]
        refine ite2 (fun h1 => ?_) (fun h1 => ?_)
        · refine ⟨_, _, rfl, rfl, _, rfl, rfl, ?_⟩
          rw [e2, h1, Bool.true_and]
        · refine ⟨_, rfl, rfl, ?_⟩
          rw [Bool.not_eq_true] at h1
          rw [h1, Bool.false_and]
      · rintro t H' ⟨rfl, rfl⟩
        refine ite2 (fun h1 => ?_) (fun h1 => ?_)
        · have e : wordB z = false := by
            rw [Bool.not_eq_true'] at h1
            unfold wordB
            rw [h1, Bool.false_and]
          have := q _ (Same.refl H')
          rw [e] at this
          exact this
        · rw [Bool.not_eq_true', Bool.not_eq_false] at h1
          have hs : z.cps.toList.length < 9 := by
            have := of_decide_eq_true (Bool.and_eq_true_iff.mp h1).2
            rw [Array.length_toList]
            omega
          refine ⟨_, rfl, z, rfl, fun D hD => ?_⟩
          refine lc_it walk_str (fun i H2 => Same H' H2 ∧ H2 D = some (.lst (((z.cps.toList.take i).map letterB).map V.bl))) ⟨same_new (Same.refl H') hD, by rw [upd_same]; rfl⟩ (fun _ _ _ _ => trivial) ?_ ?_
          · rintro i x H3 H2 hi ⟨e2, d2⟩ ⟨rfl, c, hc, rfl⟩
            refine ⟨rfl, ?_⟩
            refine ⟨_, rfl, _, _, rfl, rfl, _, rfl, ?_⟩
            rw [letter_le]
            have step : Same H' (upd H2 D (.lst (((z.cps.toList.take i).map letterB).map V.bl ++ [V.bl (letterB c)]))) ∧ upd H2 D (.lst (((z.cps.toList.take i).map letterB).map V.bl ++ [V.bl (letterB c)])) D = some (.lst (((z.cps.toList.take (i + 1)).map letterB).map V.bl)) := by
              refine ⟨fun b o hb => ?_, ?_⟩
              · rw [upd_ne (ne_of_none hb hD)]
                exact e2 _ _ hb
              · rw [upd_same, letters_take _ i c (by rw [Array.getElem?_toList]; exact hc), List.map_append]
                rfl
            have short : (((z.cps.toList.take i).map letterB).map V.bl).length < sizeLine := by
              rw [List.length_map, List.length_map]
              exact Nat.lt_of_le_of_lt (List.length_take_le' ..) (Nat.lt_trans hs (by decide))
            refine ite2 (fun h2 => ?_) (fun h2 => ?_)
            · refine ⟨_, _, rfl, rfl, _, d2, short, ?_⟩
              rw [letter_ge, show decide (c ≤ 122) = letterB c by unfold letterB; rw [h2, Bool.true_and]]
              exact step
            · refine ⟨_, d2, short, ?_⟩
              rw [Bool.not_eq_true] at h2
              rw [show false = letterB c by unfold letterB; rw [h2, Bool.false_and]]
              exact step
          · rintro H2 ⟨e2, d2⟩
            refine ⟨D, _, rfl, SqL.of d2, ?_⟩
            have := q _ e2
            unfold wordB at this
            rw [h1, Bool.true_and] at this
            have ev : ((z.cps.toList.take z.cps.size).map letterB).all id = z.cps.toList.all letterB := by
              rw [← Array.length_toList, List.take_length, List.all_map]
              rfl
            rw [ev]
            exact this
    · refine ⟨fun t H' => H' = H ∧ t = true, ?_, ?_⟩
      · refine ⟨_, rfl, _, _, _, _, false, rfl, .ty _, ty, kit_ty kt, false, rfl, iteT ⟨rfl, rfl⟩⟩
      · rintro _ _ ⟨rfl, rfl⟩
        exact iteT q
theorem ok_integer {f : Addr} {fd : FuncData} (F : DefX K mg "is_integer" s_is_integer ["thing"] f fd) (T : Txt K mg) : Cal P w K mg base CX0 1 "is_integer" spInt := by
  refine cal_mk F sc_is_integer (fun vs H Q E h => ?_) (fun cdv A outer sh H vs Q E hr h => ?_)
  · obtain ⟨i, rfl, _⟩ := h
    rfl
  · obtain ⟨i, rfl, q⟩ := h
    refine ⟨_, (pss_one (ps_ret (pe_cut (pe_and (pe_callB call_isi (by rfl) T.isinstance (by decide +kernel) (pa_cons (pv 0) (pa_cons (pe_tyv (n := "int") (by rfl) T.int (by decide +kernel)) pa_nil))) (pe_one (pe_not (pe_callB call_isi (by rfl) T.isinstance (by decide +kernel) (pa_cons (pv 0) (pa_cons (pe_tyv (n := "bool") (by rfl) T.bool (by decide +kernel)) pa_nil))))))))), ?_⟩
    refine ⟨fun v H2 => v = .bl true ∧ H2 = H, ?_, fun v H2 e => by rw [e.1, e.2]; exact q⟩
    refine ⟨_, rfl, _, _, _, _, true, rfl, .ty _, .base (.int i), kit_ty (by decide +kernel), true, rfl, iteT ?_⟩
    exact ⟨_, rfl, _, _, _, _, false, rfl, .ty _, .base (.int i), kit_ty (by decide +kernel), _, rfl, rfl, rfl⟩
theorem ok_list {f : Addr} {fd : FuncData} (F : DefX K mg "is_list" s_is_list ["thing"] f fd) (T : Txt K mg) : Cal P w K mg base CX0 1 "is_list" (spList K) := by
  refine cal_mk F sc_is_list (fun vs H Q E h => ?_) (fun cdv A outer sh H vs Q E hr h => ?_)
  · obtain ⟨x, xs, rfl, _⟩ := h
    rfl
  · obtain ⟨x, xs, rfl, ⟨a, rfl, sq⟩, q⟩ := h
    refine ⟨_, (pss_one (ps_ret (pe_callB call_isiT (by rfl) T.isinstance (by decide +kernel) (pa_cons (pv 0) (pa_cons (pe_tup (pa_cons (pe_tyv (n := "list") (by rfl) T.list (by decide +kernel)) (pa_cons (pe_tyv (n := "tuple") (by rfl) T.tuple (by decide +kernel)) pa_nil))) pa_nil))))), ?_⟩
    obtain ⟨t, ty, kt⟩ := sq_ty sq
    refine ⟨_, rfl, by show 2 ≤ sizeLine; decide, fun p hp => ?_⟩
    have e1 : Same H (upd H p (.tup [.ty "list", .ty "tuple"])) := same_new (Same.refl H) hp
    exact ⟨_, p, _, _, _, true, rfl, upd_same, .cons (.ty _) (.cons (.ty _) .nil), tyx_keep e1 ty, kt, q _ e1⟩
theorem ok_modes {f : Addr} {fd : FuncData} (F : DefX K mg "is_modes" s_is_modes ["modes"] f fd) (T : Txt K mg) (Cs : Csts K w mg C) (c_is_integer : Cal P w K mg base CX0 1 "is_integer" spInt) : Cal P w K mg base CX0 2 "is_modes" spModes := by
  refine cal_mk F sc_is_modes (fun vs H Q E h => ?_) (fun cdv A outer sh H vs Q E hr h => ?_)
  · obtain ⟨i, rfl, _⟩ := h
    rfl
  · obtain ⟨i, rfl, q⟩ := h
    refine ⟨_, (pss_one (ps_ret (pe_cut (pe_and (pe_c c_is_integer hr (by first | decide | assumption) rfl (pa_cons (pv 0) pa_nil)) (pe_one (pe_chain op_le op_le pe_int (pv 0) (pe_cst rfl Cs.MOST_MODES))))))), ?_⟩
    refine ⟨fun v H2 => v = .bl (decide (1 ≤ i) && decide (i ≤ 4)) ∧ H2 = H, ?_, fun v H2 e => by rw [e.1, e.2]; exact q⟩
    refine ⟨_, rfl, i, rfl, true, rfl, iteT ?_⟩
    refine ⟨_, rfl, _, _, rfl, rfl, _, rfl, ite2 (fun h1 => ?_) (fun h1 => ?_)⟩
    · refine ⟨_, _, rfl, rfl, ?_, rfl⟩
      rw [h1, Bool.true_and]
    · refine ⟨?_, rfl⟩
      rw [Bool.not_eq_true] at h1
      rw [h1, Bool.false_and]
end
end MK
set_option Elab.async false
set_option linter.all false
set_option autoImplicit false
set_option maxRecDepth 100000
set_option maxHeartbeats 4000000
namespace MK
open PySem PySem.Spec PyProof.Rows L2
local macro_rules | `(tactic| walk_at "x") => `(tactic| dsimp only [tSeq, tAsg, tRet, tDrop, tLst, tTup, tCons, tOp, tUn, tIfS])
abbrev s_is_field : Stmt := topS 37
theorem sc_is_field : FnScope ["item", "earlier", "name", "sort", "need"] ["item", "earlier"] (defScope s_is_field) := ⟨rfl, rfl, rfl, by decide +kernel, rfl, by decide +kernel, by decide +kernel⟩
abbrev s_kept_fields : Stmt := topS 36
theorem sc_kept_fields : FnScope ["fields", "kept", "index", "item", "field", "earlier"] ["fields"] (defScope s_kept_fields) := ⟨rfl, rfl, rfl, by decide +kernel, rfl, by decide +kernel, by decide +kernel⟩
/-- a field -/
def spField (K : PySem.W.Frag) : Sp := fun vs H Q _ => ∃ (v : V) (e : Addr) (fd : FD) (ys : List Str), vs = [v, .ref e] ∧ FdA K H v fd ∧ SqL K H e (ys.map V.str) ∧ wordB fd.nm = true ∧ fd.nm ∉ ys ∧ ∀ H', Same H H' → Q (.bl true) H'
def spFields (K : PySem.W.Frag) : Sp := fun vs H Q _ => ∃ (s : Addr) (v : V) (fvs : List V) (fs : List FD), vs = [v] ∧ H s ≠ none ∧ Sq K (Off s H) v fvs ∧ Al (FdA K (Off s H)) fvs fs ∧ FsOk fs ∧
  ∀ r rvs H', Same H H' → Tu K (Off s H') r rvs → Al (FdT K (Off s H')) rvs fs → Q r H'
theorem word_len {z : Str} (h : wordB z = true) : z.length ≤ sizeLine := by
  unfold wordB at h
  have h1 := (Bool.and_eq_true_iff.mp h).1
  have h2 := of_decide_eq_true (Bool.and_eq_true_iff.mp h1).2
  exact Nat.le_trans (show z.cps.size ≤ 8 from h2) (by decide)
theorem nm_new {zs : List Str} {i : Nat} {z : Str} (nd : zs.Nodup) (h : zs[i]? = some z) : z ∉ zs.take i := by
  have hi := (List.getElem?_eq_some_iff.mp h).1
  have := not_ahead nd hi
  rw [List.getD_eq_getElem?_getD, h] at this
  exact this
section
variable {P : Program} {w : World} {K : PySem.W.Frag} {mg : Str → Option Value} {base : Heap} {C : Cst}
theorem ok_field {f : Addr} {fd : FuncData} (F : DefX K mg "is_field" s_is_field ["item", "earlier"] f fd) (T : Txt K mg) (Cs : Csts K w mg C) (c_is_list : Cal P w K mg base CX0 1 "is_list" (spList K)) (c_is_word : Cal P w K mg base CX0 1 "is_word" (spWord K)) : Cal P w K mg base CX0 2 "is_field" (spField K) := by
  refine cal_mk F sc_is_field (fun vs H Q E h => ?_) (fun cdv A outer sh H vs Q E hr h => ?_)
  · obtain ⟨v, e, fd, ys, rfl, _⟩ := h
    rfl
  · obtain ⟨v, e, fd, ys, rfl, ⟨a, rfl, hf⟩, he, hw, hn, q⟩ := h
    refine ⟨_, (pss_cons (ps_if (pt_cut (PW.pt (pw_or (pt_not (pt_val (pe_c c_is_list hr (by first | decide | assumption) rfl (pa_cons (pv 0) pa_nil)))) (pw_or1 (pt_cmpR op_ne (pe_callB call_len_seq (by rfl) T.len (by decide +kernel) (pa_cons (pv 0) pa_nil)) pe_int (nomark _))))))
(pss_one (ps_ret pe_bl))
pss_nil)
(pss_cons (ps_asg (pv 0) (pg_sq (by rfl) (pgs_cons (pg_name (i := 2) sc_is_field.nd rfl (Or.inl rfl)) (pgs_cons (pg_name (i := 3) sc_is_field.nd rfl (Or.inl rfl)) (pgs_cons (pg_name (i := 4) sc_is_field.nd rfl (Or.inl rfl)) pgs_nil)))))
(pss_one (ps_ret (pe_cut (pe_and (pe_c c_is_word hr (by first | decide | assumption) rfl (pa_cons (pv 2) pa_nil)) (pe_and (pe_cmpR op_notIn_seq (pv 2) (pv 1) (by rfl)) (pe_and (pe_cmpR op_in_seq (pv 3) (pe_cst rfl Cs.SORTS) (by rfl)) (pe_one (pe_callB call_isi (by rfl) T.isinstance (by decide +kernel) (pa_cons (pv 4) (pa_cons (pe_tyv (n := "bool") (by rfl) T.bool (by decide +kernel)) pa_nil)))))))))))), ?_⟩
    refine ⟨fun t H' => t = false ∧ Same H H', ⟨_, rfl, .ref a, _, rfl, ⟨a, rfl, hf⟩, fun H1 e1 => ⟨true, rfl, iteF ?_⟩⟩, ?_⟩
    · exact ⟨_, rfl, a, _, rfl, hf.elim (fun h => .inl (e1.seq h)) (fun h => .inr (same_t e1 h)), rfl, _, rfl, rfl, e1⟩
    rintro _ H1 ⟨rfl, e1⟩
    refine iteF ?_
    have hf1 : SqL K H1 a (FdV fd) ∨ SqT K H1 a (FdV fd) := hf.elim (fun h => .inl (e1.seq h)) (fun h => .inr (same_t e1 h))
    refine ⟨_, rfl, _, ⟨a, rfl, hf1⟩, rfl, _, _, rfl, _, _, rfl, _, _, rfl, rfl, ?_⟩
    refine ⟨fun v H2 => v = .bl true ∧ Same H H2, ?_, fun v H2 e => by rw [e.1]; exact q _ e.2⟩
    refine ⟨_, rfl, _, rfl, .inl ⟨_, rfl, word_len hw, fun H2 e2 => ?_⟩⟩
    rw [hw]
    refine ⟨_, rfl, iteT ?_⟩
    have e02 := e1.trans e2
    refine ⟨_, rfl, _, rfl, e, _, rfl, .inl (e02.seq he), rfl, flat_strs _, ?_⟩
    rw [inV_strs, decide_eq_false hn]
    refine ⟨_, rfl, iteT ?_⟩
    refine ⟨_, rfl, C.sorts, _, rfl, .inr (Cs.t_sorts _), rfl, rfl, true, ?_, iteT ?_⟩
    · cases fd.many <;> decide
    · exact ⟨_, rfl, _, _, _, _, true, rfl, .ty _, .base (.bl _), kit_ty (by decide +kernel), rfl, e02⟩
theorem ok_fields {f : Addr} {fd : FuncData} (F : DefX K mg "kept_fields" s_kept_fields ["fields"] f fd) (T : Txt K mg) (Cs : Csts K w mg C) (c_is_list : Cal P w K mg base CX0 1 "is_list" (spList K)) (c_is_field : Cal P w K mg base CX0 2 "is_field" (spField K)) : Cal P w K mg base CX0 3 "kept_fields" (spFields K) := by
  refine cal_mk F sc_kept_fields (fun vs H Q E h => ?_) (fun cdv A outer sh H vs Q E hr h => ?_)
  · obtain ⟨s, v, fvs, fs, rfl, _⟩ := h
    rfl
  · obtain ⟨s, v, fvs, fs, rfl, hs, ⟨a, rfl, hv⟩, hal, hok, k⟩ := h
    refine ⟨_, (pss_cons (ps_if (pt_cut (PW.pt (pw_or (pt_not (pt_val (pe_c c_is_list hr (by first | decide | assumption) rfl (pa_cons (pv 0) pa_nil)))) (pw_or1 (pt_cmpR op_eq (pe_callB call_len_seq (by rfl) T.len (by decide +kernel) (pa_cons (pv 0) pa_nil)) pe_int (nomark _))))))
(pss_one (ps_never))
pss_nil)
(pss_cons (ps_set (i := 1) sc_kept_fields.nd rfl (Or.inl rfl) (pe_lst pa_nil))
(pss_cons (ps_for PassesOwn.never rfl (pi_enV (by rfl) T.enumerate (pa_cons (pv 0) pa_nil)) (pg_tup (by rfl) (pgs_cons (pg_name (i := 2) sc_kept_fields.nd rfl (Or.inl rfl)) (pgs_cons (pg_name (i := 3) sc_kept_fields.nd rfl (Or.inl rfl)) pgs_nil)))
(pss_cons (ps_setLc (i := 5) (own := [("field", 4)]) (g := (gName 4)) (tt := tYes) rfl sc_kept_fields.nd rfl rfl (sw_true rfl rfl rfl (by decide +kernel)) (pi_list (pv 1)) (blkOk_by (own := [("field", 4)]) (N := ["fields", "kept", "index", "item", "field", "earlier"]) (sc := defScope s_kept_fields) (by decide +kernel)) (fun _ _ _ _ _ => (pg_name (i := 4) sc_kept_fields.nd rfl (Or.inl rfl))) (fun _ _ _ _ _ => pts_nil) (fun _ _ _ _ _ => (pe_ix (ix_tupK (K := K) rfl) (pv 4) pe_int (fun _ _ => rfl))))
(pss_cons (ps_if (pt_cut (PW.pt (pw_or (pt_cmpR op_ge (pv 2) (pe_cst rfl Cs.MOST_FIELDS) (nomark _)) (pw_or1 (pt_not (pt_val (pe_c c_is_field hr (by first | decide | assumption) rfl (pa_cons (pv 3) (pa_cons (pv 5) pa_nil)))))))))
(pss_one (ps_never))
pss_nil)
(pss_one (ps_expr (pe_bm PySem.F.plainAttrs_list PySem.F.slot_list_append PySem.F.type_list_append mt_append (pv 1) (pa_cons (pe_callTy call_tuple_of (by rfl) T.tuple (by decide +kernel) (pa_cons (pv 3) pa_nil)) pa_nil)))))))
(pss_one (ps_ret (pe_callTy call_tuple_of (by rfl) T.tuple (by decide +kernel) (pa_cons (pv 1) pa_nil))))))), ?_⟩
    have hv0 : SqL K H a fvs ∨ SqT K H a fvs := hv.elim (fun h => .inl (off_same.seq h)) (fun h => .inr (same_t off_same h))
    have len3 : fvs.length = fs.length := hal.1
    have l1 := hok.pos
    have l3 := hok.le
    refine ⟨fun t H' => t = false ∧ Same H H', ⟨_, rfl, .ref a, _, rfl, ⟨a, rfl, hv0⟩, fun H1 e1 => ⟨true, rfl, iteF ?_⟩⟩, ?_⟩
    · exact ⟨_, rfl, a, _, rfl, hv0.elim (fun h => .inl (e1.seq h)) (fun h => .inr (same_t e1 h)), rfl, _, rfl, decide_eq_false (fun e => by have := V.int.inj e; omega), e1⟩
    rintro _ H1 ⟨rfl, e1⟩
    refine iteF ?_
    refine ⟨by show 0 ≤ sizeLine; decide, fun D hD => ?_⟩
    have hsD : D ≠ s := fun e => by
      cases q : H s with
      | none => exact hs q
      | some o => rw [e, e1 _ _ q] at hD; cases hD
    have hD0 := none_of e1 hD
    refine ⟨_, rfl, a, fvs, Off s H, rfl, hv, off_same.trans (same_new e1 hD), fun J G wk hG => ?_⟩
    refine for_it wk (fun i σ H2 => Same H H2 ∧ ∃ kvs : List V, H2 D = some (.lst kvs) ∧ Al (FdT K (Off D (Off s H2))) kvs (fs.take i) ∧ ∃ x2 x3 x4 x5, σ = [some (.ref a), some (.ref D), x2, x3, x4, x5])
      ⟨same_new e1 hD, [], upd_same, Al.nil, none, none, none, none, rfl⟩ (fun i σ H2 _ h => hG _ (off_same.trans h.1)) ?_ ?_
    · rintro i x σ H2 H3 hi ⟨e2, kvs, d2, al, x2, x3, x4, x5, rfl⟩ ⟨U, _, y, rfl, hU, rfl, h1, hy⟩
      obtain rfl := Option.some.inj h1
      obtain ⟨f, hf, hfa⟩ := hal.get hy
      have hfm := List.mem_of_getElem? hf
      have e3 : Same H2 (upd H2 U (.tup [.int (i : Nat), y])) := same_new (Same.refl H2) hU
      refine ⟨U, _, rfl, SqT.of upd_same, rfl, _, _, rfl, _, _, rfl, rfl, ?_⟩
      refine ⟨_, rfl, D, rfl, ⟨_, SqL.of (e3 _ _ d2)⟩, fun D2 hD2 => ?_⟩
      refine lc_list (K := K) (a := D) (xs := kvs) (fun j H4 => Same H2 H4 ∧ H4 D2 = some (.lst ((((fs.take i).take j).map (·.nm)).map V.str))) ⟨same_new e3 hD2, upd_same⟩ (fun j H4 _ h => SqL.of (h.1 _ _ d2)) ?_ ?_
      · rintro j v H4 hv4 ⟨e4, d4⟩
        obtain ⟨g, hg, u, rfl, hu⟩ := al.get hv4
        have hu4 : SqT K H4 u (FdV g) := same_t (off_same.trans (off_same.trans e4)) hu
        refine ⟨rfl, ?_⟩
        refine ⟨_, rfl, u, _, 0, .str g.nm, rfl, rfl, hu4, rfl, _, d4, ?_, fun b o hb => ?_, ?_⟩
        · rw [List.length_map, List.length_map, List.length_take, List.length_take]
          exact Nat.lt_of_le_of_lt (by omega : _ ≤ 3) (by decide)
        · rw [upd_ne (ne_of_none (e3 _ _ hb) hD2)]
          exact e4 _ _ hb
        · rw [upd_same, List.take_succ (i := j), hg]
          simp
      rintro H4 ⟨e4, d4⟩
      rw [show kvs.length = (fs.take i).length from al.1, List.take_length] at d4
      have hi3 : i < fs.length := by
        have : i < fvs.length := hi
        omega
      have e24 := e2.trans e4
      refine ⟨fun t H' => t = false ∧ Same H4 H', ⟨_, rfl, _, _, rfl, rfl, _, rfl, iteB (decide_eq_false (by omega)) ?_⟩, ?_⟩
      · refine ⟨_, rfl, _, rfl, y, D2, f, _, rfl, FdA.keep (off_same.trans e24) hfa, SqL.of d4, hok.word f hfm, ?_, fun H5 e5 => ⟨true, rfl, rfl, e5⟩⟩
        rw [List.map_take]
        exact nm_new hok.nd (by rw [List.getElem?_map, hf]; rfl)
      rintro _ H5 ⟨rfl, e5⟩
      refine iteF ?_
      have e25 := e24.trans e5
      have d5 := (e4.trans e5) _ _ d2
      have kl : kvs.length < sizeLine := by
        rw [al.1, List.length_take]
        exact Nat.lt_of_le_of_lt (by omega : _ ≤ 3) (by decide)
      have tk : fs.take (i + 1) = fs.take i ++ [f] := by
        rw [List.take_succ, hf]
        rfl
      have fin : ∀ v H6, Same H5 H6 → FdT K (Off D (Off s H6)) v f → Same H (upd H6 D (.lst (kvs ++ [v]))) ∧ upd H6 D (.lst (kvs ++ [v])) D = some (.lst (kvs ++ [v])) ∧ Al (FdT K (Off D (Off s (upd H6 D (.lst (kvs ++ [v])))))) (kvs ++ [v]) (fs.take (i + 1)) := fun v H6 e6 hf6 => by
        refine ⟨fun b o hb => ?_, upd_same, ?_⟩
        · rw [upd_ne (ne_of_none hb hD0)]
          exact e6 _ _ (e25 _ _ hb)
        · rw [off_upd hsD, off_put, tk]
          exact (al.mono fun _ _ h => FdT.keep (same_off (same_off (e4.trans (e5.trans e6)))) h).snoc hf6
      refine ⟨_, rfl, .inl ⟨rfl, _, SqL.of d5⟩, _, rfl, ?_⟩
      obtain ⟨b, rfl, hb⟩ := hfa
      rcases hb with hb | hb
      · refine ⟨b, _, rfl, .inl ⟨(off_same.trans e25).seq hb, fun l hl => ?_⟩⟩
        have ls : l ≠ s := fun e => by
          cases q : H s with
          | none => exact hs q
          | some o => rw [e, e25 _ _ q] at hl; cases hl
        have lD : l ≠ D := fun e => by rw [e, d5] at hl; cases hl
        obtain ⟨p1, p2, p3⟩ := fin (.ref l) (upd H5 l (.tup (FdV f))) (same_new (Same.refl H5) hl) (Tu.tup (by rw [off_ne lD, off_ne ls, upd_same]))
        exact ⟨D, kvs, _, rfl, rfl, (upd_ne (Ne.symm lD)).trans d5, kl, p1, _, p2, p3, _, _, _, _, rfl⟩
      · obtain ⟨p1, p2, p3⟩ := fin (.ref b) H5 (Same.refl H5) ⟨b, rfl, same_t (same_offN (same_off e25) (off_none hD0)) hb⟩
        exact ⟨b, _, rfl, .inr ⟨same_t (off_same.trans e25) hb, ⟨D, kvs, _, rfl, rfl, d5, kl, p1, _, p2, p3, _, _, _, _, rfl⟩⟩⟩
    · rintro σ H2 ⟨e2, kvs, d2, al, x2, x3, x4, x5, rfl⟩
      refine ⟨_, rfl, D, kvs, rfl, .inl ⟨SqL.of d2, fun p hp => ?_⟩⟩
      have ps : p ≠ s := fun e => by
        cases q : H s with
        | none => exact hs q
        | some o => rw [e, e2 _ _ q] at hp; cases hp
      rw [len3, List.take_length] at al
      have e3 : Same H2 (upd H2 p (.tup kvs)) := same_new (Same.refl H2) hp
      refine k _ kvs _ (e2.trans e3) (Tu.tup (by rw [off_ne ps, upd_same])) (al.mono fun _ _ h => FdT.keep (off_same.trans (same_off e3)) h)
end
end MK
set_option Elab.async false
set_option linter.all false
set_option autoImplicit false
set_option maxRecDepth 100000
set_option maxHeartbeats 4000000
namespace MK
open PySem PySem.Spec PyProof.Rows L2
local macro_rules | `(tactic| walk_at "x") => `(tactic| dsimp only [tSeq, tAsg, tRet, tDrop, tLst, tTup, tCons, tOp, tUn, tIfS])
abbrev s_is_many : Stmt := topS 46
theorem sc_is_many : FnScope ["field", "sorts"] ["field", "sorts"] (defScope s_is_many) := ⟨rfl, rfl, rfl, by decide +kernel, rfl, by decide +kernel, by decide +kernel⟩
abbrev s_is_deed : Stmt := topS 44
theorem sc_is_deed : FnScope ["pair", "sorts", "deed", "field"] ["pair", "sorts"] (defScope s_is_deed) := ⟨rfl, rfl, rfl, by decide +kernel, rfl, by decide +kernel, by decide +kernel⟩
abbrev s_are_moves : Stmt := topS 42
theorem sc_are_moves : FnScope ["moves", "modes", "move"] ["moves", "modes"] (defScope s_are_moves) := ⟨rfl, rfl, rfl, by decide +kernel, rfl, by decide +kernel, by decide +kernel⟩
abbrev s_has_call_form : Stmt := topS 41
theorem sc_has_call_form : FnScope ["item", "name", "hand", "moves", "deeds", "same"] ["item"] (defScope s_has_call_form) := ⟨rfl, rfl, rfl, by decide +kernel, rfl, by decide +kernel, by decide +kernel⟩
def spMany : Sp := fun vs H Q _ => ∃ (z : Str) (so : Addr) (fs : List FD), vs = [.str z, .ref so] ∧ H so = some (.dK (sortsV fs)) ∧ (fs.map (·.nm)).Nodup ∧ (∃ f ∈ fs, f.nm = z ∧ f.many = true) ∧ Q (.bl true) H
def spDeed (K : PySem.W.Frag) : Sp := fun vs H Q _ => ∃ (v : V) (so : Addr) (fs : List FD) (d : Str × Str), vs = [v, .ref so] ∧ DeA K H v d ∧ H so = some (.dK (sortsV fs)) ∧ (fs.map (·.nm)).Nodup ∧ DeOk fs d ∧ ∀ H', Same H H' → Q (.bl true) H'
def spMoves (K : PySem.W.Frag) : Sp := fun vs H Q _ => ∃ (v : V) (n : Nat) (ms : List Int), vs = [v, .int n] ∧ Sq K H v (ms.map V.int) ∧ ms.length = n ∧ n ≤ 4 ∧ (∀ m ∈ ms, -1 ≤ m ∧ m < n) ∧ ∀ H', Same H H' → Q (.bl true) H'
def spCallForm (K : PySem.W.Frag) : Sp := fun vs H Q _ => ∃ (v : V) (cd : CD), vs = [v] ∧ CdA K H v cd ∧ ∀ H', Same H H' → Q (.bl true) H'
theorem sod_deed {z : Str} {b : Bool} (h : b ∈ deedSorts z) : ∃ l, sodOf z = some l ∧ sortS b ∈ l := by
  unfold deedSorts at h
  unfold sodOf
  split at h
  · rw [if_pos (by assumption)]
    exact ⟨_, rfl, by rw [List.mem_singleton.mp h]; decide⟩
  rw [if_neg (by assumption)]
  split at h
  · rw [if_pos (by assumption)]
    exact ⟨_, rfl, by rw [List.mem_singleton.mp h]; decide⟩
  rw [if_neg (by assumption)]
  split at h
  · rw [if_pos (by assumption)]
    exact ⟨_, rfl, by rw [List.mem_singleton.mp h]; decide⟩
  rw [if_neg (by assumption)]
  split at h
  · rw [if_pos (by assumption)]
    exact ⟨_, rfl, by rw [List.mem_singleton.mp h]; decide⟩
  rw [if_neg (by assumption)]
  split at h
  · rw [if_pos (by assumption)]
    exact ⟨_, rfl, by cases b <;> decide⟩
  · cases h
theorem sq_at {K : PySem.W.Frag} {H H' : Hp} {a : Addr} {xs : List V} (e : Same H H') (h : SqL K H a xs ∨ SqT K H a xs) : SqL K H' a xs ∨ SqT K H' a xs := h.elim (fun h => .inl (e.seq h)) (fun h => .inr (same_t e h))
section
variable {P : Program} {w : World} {K : PySem.W.Frag} {mg : Str → Option Value} {base : Heap} {C : Cst}
theorem ok_many {f : Addr} {fd : FuncData} (F : DefX K mg "is_many" s_is_many ["field", "sorts"] f fd) (T : Txt K mg) : Cal P w K mg base CX0 1 "is_many" spMany := by
  refine cal_mk F sc_is_many (fun vs H Q E h => ?_) (fun cdv A outer sh H vs Q E hr h => ?_)
  · obtain ⟨z, so, fs, rfl, _⟩ := h
    rfl
  · obtain ⟨z, so, fs, rfl, hso, nd, ⟨g, gm, rfl, gt⟩, q⟩ := h
    refine ⟨_, (pss_one (ps_ret (pe_cut (pe_and (pe_callB call_isi (by rfl) T.isinstance (by decide +kernel) (pa_cons (pv 0) (pa_cons (pe_tyv (n := "str") (by rfl) T.str (by decide +kernel)) pa_nil))) (pe_and (pe_cmp (pc_din (hu_of hr) (pv 0) (pv 1)) rfl) (pe_one (pe_cmpR op_eq (pe_dget (hu_of hr) (pv 1) (pv 0) (fun _ _ => rfl)) pe_str (nomark _)))))))), ?_⟩
    refine ⟨fun v H2 => v = .bl true ∧ H2 = H, ?_, fun v H2 e => by rw [e.1, e.2]; exact q⟩
    have hg : DGet H so (.str g.nm) (some (.str (sortS g.many))) := by
      have := DGet.k (k := .inr g.nm) hso
      rw [sorts_get nd gm] at this
      exact this
    refine ⟨_, rfl, _, _, _, _, true, rfl, .ty _, .base (.str _), kit_ty (by decide +kernel), true, rfl, iteT ?_⟩
    refine ⟨_, rfl, _, rfl, so, _, rfl, hg, true, rfl, iteT ?_⟩
    refine ⟨_, rfl, _, rfl, so, _, rfl, hg, rfl, ?_, rfl⟩
    rw [gt]
    rfl
theorem ok_deed {f : Addr} {fd : FuncData} (F : DefX K mg "is_deed" s_is_deed ["pair", "sorts"] f fd) (T : Txt K mg) (Cs : Csts K w mg C) (c_is_list : Cal P w K mg base CX0 1 "is_list" (spList K)) : Cal P w K mg base CX0 2 "is_deed" (spDeed K) := by
  obtain ⟨es, n, KD⟩ := Cs.sodD
  refine cal_mk F sc_is_deed (fun vs H Q E h => ?_) (fun cdv A outer sh H vs Q E hr h => ?_)
  · obtain ⟨v, so, fs, d, rfl, _⟩ := h
    rfl
  · obtain ⟨v, so, fs, d, rfl, ⟨a, rfl, hd⟩, hso, nd, ⟨g, gm, ge, gd⟩, q⟩ := h
    refine ⟨_, (pss_cons (ps_if (pt_cut (PW.pt (pw_or (pt_not (pt_val (pe_c c_is_list hr (by first | decide | assumption) rfl (pa_cons (pv 0) pa_nil)))) (pw_or1 (pt_cmpR op_ne (pe_callB call_len_seq (by rfl) T.len (by decide +kernel) (pa_cons (pv 0) pa_nil)) pe_int (nomark _))))))
(pss_one (ps_ret pe_bl))
pss_nil)
(pss_cons (ps_asg (pv 0) (pg_sq (by rfl) (pgs_cons (pg_name (i := 2) sc_is_deed.nd rfl (Or.inl rfl)) (pgs_cons (pg_name (i := 3) sc_is_deed.nd rfl (Or.inl rfl)) pgs_nil))))
(pss_cons (ps_if (pt_cut (PW.pt (pw_or (pt_not (pt_val (pe_callB call_isi (by rfl) T.isinstance (by decide +kernel) (pa_cons (pv 2) (pa_cons (pe_tyv (n := "str") (by rfl) T.str (by decide +kernel)) pa_nil))))) (pw_or1 (pt_cmpR (op_notIn_kd KD) (pv 2) (pe_cst rfl Cs.SORTS_OF_DEEDS) (by rfl))))))
(pss_one (ps_ret pe_bl))
pss_nil)
(pss_one (ps_ret (pe_cut (pe_and (pe_callB call_isi (by rfl) T.isinstance (by decide +kernel) (pa_cons (pv 3) (pa_cons (pe_tyv (n := "str") (by rfl) T.str (by decide +kernel)) pa_nil))) (pe_and (pe_cmp (pc_din (hu_of hr) (pv 3) (pv 1)) rfl) (pe_one (pe_cmpR op_in_seq (pe_dget (hu_of hr) (pv 1) (pv 3) (fun _ _ => rfl)) (pe_kget KD (pe_cst rfl Cs.SORTS_OF_DEEDS) (pv 2) (fun _ _ => rfl)) (by rfl))))))))))), ?_⟩
    refine ⟨fun t H' => t = false ∧ Same H H', ⟨_, rfl, .ref a, _, rfl, ⟨a, rfl, hd⟩, fun H1 e1 => ⟨true, rfl, iteF ⟨_, rfl, a, _, rfl, sq_at e1 hd, rfl, _, rfl, rfl, e1⟩⟩⟩, ?_⟩
    rintro _ H1 ⟨rfl, e1⟩
    refine iteF ?_
    refine ⟨_, rfl, _, ⟨a, rfl, sq_at e1 hd⟩, rfl, _, _, rfl, _, _, rfl, rfl, ?_⟩
    obtain ⟨l, hl, hml⟩ := sod_deed gd
    obtain ⟨sa, l', hns, hl', hsa⟩ := (Cs.sodN d.1).resolve_left fun q => by rw [q.2] at hl; cases hl
    obtain rfl : l' = l := by rw [hl'] at hl; exact Option.some.inj hl
    refine ⟨fun t H' => t = false ∧ H' = H1, ⟨_, rfl, _, _, _, _, true, rfl, .ty _, .base (.str _), kit_ty (by decide +kernel), true, rfl, iteF ⟨_, rfl, _, _, rfl, rfl, hns, _, rfl, rfl, rfl⟩⟩, ?_⟩
    rintro _ H1 ⟨rfl, rfl⟩
    refine iteF ?_
    have hg : DGet H1 so (.str d.2) (some (.str (sortS g.many))) := by
      have := DGet.k (k := .inr g.nm) (e1 _ _ hso)
      rw [sorts_get nd gm] at this
      rw [← ge]
      exact this
    refine ⟨fun v H2 => v = .bl true ∧ H2 = H1, ?_, fun v H2 e => by rw [e.1, e.2]; exact q _ e1⟩
    refine ⟨_, rfl, _, _, _, _, true, rfl, .ty _, .base (.str _), kit_ty (by decide +kernel), true, rfl, iteT ?_⟩
    refine ⟨_, rfl, _, rfl, so, _, rfl, hg, true, rfl, iteT ?_⟩
    refine ⟨_, rfl, _, rfl, so, _, rfl, hg, _, rfl, _, _, .ref sa, rfl, rfl, hns, rfl, ?_⟩
    refine ⟨sa, _, rfl, .inr (hsa _), rfl, flat_strs _, ?_, rfl⟩
    rw [inV_strs, decide_eq_true hml]
    rfl
theorem ok_moves {f : Addr} {fd : FuncData} (F : DefX K mg "are_moves" s_are_moves ["moves", "modes"] f fd) (T : Txt K mg) (c_is_integer : Cal P w K mg base CX0 1 "is_integer" spInt) : Cal P w K mg base CX0 2 "are_moves" (spMoves K) := by
  refine cal_mk F sc_are_moves (fun vs H Q E h => ?_) (fun cdv A outer sh H vs Q E hr h => ?_)
  · obtain ⟨v, n, ms, rfl, _⟩ := h
    rfl
  · obtain ⟨v, n, ms, rfl, ⟨a, rfl, hm⟩, rfl, n4, hz, q⟩ := h
    refine ⟨_, (pss_cons (ps_if (pt_cmpR op_ne (pe_callB call_len_seq (by rfl) T.len (by decide +kernel) (pa_cons (pv 0) pa_nil)) (pv 1) (nomark _))
(pss_one (ps_ret pe_bl))
pss_nil)
(pss_one (ps_ret (pe_callB (cr_all rfl) (by rfl) T.all (by decide +kernel) (pa_cons (pe_lc (own := [("move", 2)]) (g := (gName 2)) (tt := tYes) rfl sc_are_moves.nd (pi_sqV (pv 0)) (blkOk_by (own := [("move", 2)]) (N := ["moves", "modes", "move"]) (sc := defScope s_are_moves) (by decide +kernel)) (fun _ _ _ _ _ => (pg_name (i := 2) sc_are_moves.nd rfl (Or.inl rfl))) (fun _ _ _ _ _ => pts_nil) (fun _ _ _ _ _ => (pe_cut (pe_and (pe_c c_is_integer hr (by first | decide | assumption) rfl (pa_cons (pv 2) pa_nil)) (pe_one (pe_chain op_le op_lt (pe_un un_neg pe_int) (pv 2) (pv 1))))))) pa_nil))))), ?_⟩
    refine ⟨_, rfl, a, _, rfl, hm, _, rfl, rfl, _, rfl, iteB ?_ ?_⟩
    · rw [List.length_map, decide_eq_true rfl]
      rfl
    refine ⟨_, rfl, a, _, H, rfl, hm, Same.refl H, fun J G wk hG D hD => ?_⟩
    refine lc_it wk (fun i H2 => Same H H2 ∧ H2 D = some (.lst ((List.replicate i true).map V.bl))) ⟨same_new (Same.refl H) hD, upd_same⟩ (fun i H2 _ h => hG _ h.1) ?_ ?_
    · rintro i x H3 H2 hi ⟨e2, d2⟩ ⟨rfl, hx⟩
      rw [List.getElem?_map] at hx
      obtain ⟨m, hm2, rfl⟩ := Option.map_eq_some_iff.mp hx
      have hmz := hz m (List.mem_of_getElem? hm2)
      have hi4 : i < 4 := by
        have : i < (ms.map V.int).length := hi
        rw [List.length_map] at this
        omega
      refine ⟨rfl, ?_⟩
      refine ⟨fun v H4 => v = .bl true ∧ H4 = H2, ?_, ?_⟩
      · refine ⟨_, rfl, m, rfl, true, rfl, iteT ?_⟩
        refine ⟨_, rfl, _, rfl, _, _, rfl, rfl, _, rfl, iteA (decide_eq_true (by omega)) ⟨_, rfl, _, _, rfl, rfl, ?_, rfl⟩⟩
        exact congrArg V.bl (decide_eq_true hmz.2)
      · rintro _ _ ⟨rfl, rfl⟩
        refine ⟨_, d2, ?_, fun b o hb => ?_, ?_⟩
        · rw [List.length_map, List.length_replicate]
          exact Nat.lt_trans hi4 (by decide)
        · rw [upd_ne (ne_of_none hb hD)]
          exact e2 _ _ hb
        · rw [upd_same, List.replicate_succ', List.map_append]
          rfl
    · rintro H2 ⟨e2, d2⟩
      refine ⟨D, _, rfl, SqL.of d2, ?_⟩
      rw [show (List.replicate (ms.map V.int).length true).all id = true by simp]
      exact q _ e2
theorem ok_callForm {f : Addr} {fd : FuncData} (F : DefX K mg "has_call_form" s_has_call_form ["item"] f fd) (T : Txt K mg) (c_is_list : Cal P w K mg base CX0 1 "is_list" (spList K)) : Cal P w K mg base CX0 2 "has_call_form" (spCallForm K) := by
  refine cal_mk F sc_has_call_form (fun vs H Q E h => ?_) (fun cdv A outer sh H vs Q E hr h => ?_)
  · obtain ⟨v, cd, rfl, _⟩ := h
    rfl
  · obtain ⟨v, cd, rfl, ⟨m, d, s, ds, ⟨a, rfl, h1⟩, h2, h3, h4, h5⟩, q⟩ := h
    refine ⟨_, (pss_cons (ps_if (pt_cut (PW.pt (pw_or (pt_not (pt_val (pe_c c_is_list hr (by first | decide | assumption) rfl (pa_cons (pv 0) pa_nil)))) (pw_or1 (pt_cmpR op_ne (pe_callB call_len_seq (by rfl) T.len (by decide +kernel) (pa_cons (pv 0) pa_nil)) pe_int (nomark _))))))
(pss_one (ps_ret pe_bl))
pss_nil)
(pss_cons (ps_asg (pv 0) (pg_sq (by rfl) (pgs_cons (pg_name (i := 1) sc_has_call_form.nd rfl (Or.inl rfl)) (pgs_cons (pg_name (i := 2) sc_has_call_form.nd rfl (Or.inl rfl)) (pgs_cons (pg_name (i := 3) sc_has_call_form.nd rfl (Or.inl rfl)) (pgs_cons (pg_name (i := 4) sc_has_call_form.nd rfl (Or.inl rfl)) (pgs_cons (pg_name (i := 5) sc_has_call_form.nd rfl (Or.inl rfl)) pgs_nil)))))))
(pss_cons (ps_if (pt_cut (PW.pt (pw_or (pt_not (pt_val (pe_callB call_isi (by rfl) T.isinstance (by decide +kernel) (pa_cons (pv 1) (pa_cons (pe_tyv (n := "str") (by rfl) T.str (by decide +kernel)) pa_nil))))) (pw_or1 (pt_not (pt_val (pe_callB call_isi (by rfl) T.isinstance (by decide +kernel) (pa_cons (pv 2) (pa_cons (pe_tyv (n := "str") (by rfl) T.str (by decide +kernel)) pa_nil)))))))))
(pss_one (ps_ret pe_bl))
pss_nil)
(pss_one (ps_ret (pe_cut (pe_and (pe_c c_is_list hr (by first | decide | assumption) rfl (pa_cons (pv 3) pa_nil)) (pe_and (pe_c c_is_list hr (by first | decide | assumption) rfl (pa_cons (pv 4) pa_nil)) (pe_one (pe_c c_is_list hr (by first | decide | assumption) rfl (pa_cons (pv 5) pa_nil))))))))))), ?_⟩
    obtain ⟨ma, rfl, h2⟩ := h2
    obtain ⟨da, rfl, h3⟩ := h3
    obtain ⟨sa, rfl, h5⟩ := h5
    refine ⟨fun t H' => t = false ∧ Same H H', ⟨_, rfl, .ref a, _, rfl, ⟨a, rfl, h1⟩, fun H1 e1 => ⟨true, rfl, iteF ⟨_, rfl, a, _, rfl, sq_at e1 h1, rfl, _, rfl, rfl, e1⟩⟩⟩, ?_⟩
    rintro _ H1 ⟨rfl, e1⟩
    refine iteF ?_
    refine ⟨_, rfl, _, ⟨a, rfl, sq_at e1 h1⟩, rfl, _, _, rfl, _, _, rfl, _, _, rfl, _, _, rfl, _, _, rfl, rfl, ?_⟩
    refine ⟨fun t H' => t = false ∧ H' = H1, ⟨_, rfl, _, _, _, _, true, rfl, .ty _, .base (.str _), kit_ty (by decide +kernel), true, rfl, iteF ⟨_, rfl, _, _, _, _, true, rfl, .ty _, .base (.str _), kit_ty (by decide +kernel), true, rfl, rfl, rfl⟩⟩, ?_⟩
    rintro _ H1 ⟨rfl, rfl⟩
    refine iteF ?_
    refine ⟨fun v H2 => v = .bl true ∧ Same H H2, ?_, fun v H2 e => by rw [e.1]; exact q _ e.2⟩
    refine ⟨_, rfl, .ref ma, _, rfl, ⟨ma, rfl, sq_at e1 h2⟩, fun H2 e2 => ⟨true, rfl, iteT ?_⟩⟩
    refine ⟨_, rfl, .ref da, _, rfl, ⟨da, rfl, sq_at (e1.trans e2) h3⟩, fun H3 e3 => ⟨true, rfl, iteT ?_⟩⟩
    exact ⟨_, rfl, .ref sa, _, rfl, ⟨sa, rfl, sq_at ((e1.trans e2).trans e3) h5⟩, fun H4 e4 => ⟨rfl, ((e1.trans e2).trans e3).trans e4⟩⟩
end
end MK
set_option Elab.async false
set_option linter.all false
set_option autoImplicit false
set_option maxRecDepth 100000
set_option maxHeartbeats 4000000
namespace MK
open PySem PySem.Spec PyProof.Rows L2
local macro_rules | `(tactic| walk_at "x") => `(tactic| dsimp only [tSeq, tAsg, tRet, tDrop, tLst, tTup, tCons, tOp, tUn, tIfS])
abbrev s_are_deeds : Stmt := topS 43
theorem sc_are_deeds : FnScope ["deeds", "sorts", "pair", "deed", "field", "worded"] ["deeds", "sorts"] (defScope s_are_deeds) := ⟨rfl, rfl, rfl, by decide +kernel, rfl, by decide +kernel, by decide +kernel⟩
abbrev s_is_same : Stmt := topS 45
theorem sc_is_same : FnScope ["same", "hand", "sorts", "field"] ["same", "hand", "sorts"] (defScope s_is_same) := ⟨rfl, rfl, rfl, by decide +kernel, rfl, by decide +kernel, by decide +kernel⟩
abbrev s_kept_call : Stmt := topS 47
theorem sc_kept_call : FnScope ["call", "name", "hand", "moves", "deeds", "same", "pair"] ["call"] (defScope s_kept_call) := ⟨rfl, rfl, rfl, by decide +kernel, rfl, by decide +kernel, by decide +kernel⟩
abbrev s_wrong_part : Stmt := topS 40
theorem sc_wrong_part : FnScope ["item", "earlier", "sorts", "modes", "name", "hand", "moves", "deeds", "same"] ["item", "earlier", "sorts", "modes"] (defScope s_wrong_part) := ⟨rfl, rfl, rfl, by decide +kernel, rfl, by decide +kernel, by decide +kernel⟩
def spDeedsOk (K : PySem.W.Frag) : Sp := fun vs H Q _ => ∃ (v : V) (so : Addr) (fs : List FD) (dvs : List V) (ds : List (Str × Str)), vs = [v, .ref so] ∧ Sq K H v dvs ∧ Al (DeA K H) dvs ds ∧ H so = some (.dK (sortsV fs)) ∧ (fs.map (·.nm)).Nodup ∧ (∀ d ∈ ds, DeOk fs d) ∧ ds.length ≤ 4 ∧ (worded ds).Nodup ∧ ∀ H', Same H H' → Q (.bl true) H'
def spSameOk (K : PySem.W.Frag) : Sp := fun vs H Q _ => ∃ (v : V) (so : Addr) (fs : List FD) (hd : Str) (zs : List Str), vs = [v, .str hd, .ref so] ∧ Sq K H v (zs.map V.str) ∧ H so = some (.dK (sortsV fs)) ∧ (fs.map (·.nm)).Nodup ∧ (∀ z ∈ zs, ∃ f ∈ fs, f.nm = z ∧ f.many = true) ∧ zs.length < 100 ∧ (hd = "self" → zs = []) ∧ zs.Nodup ∧ ∀ H', Same H H' → Q (.bl true) H'
def spKeptCall (K : PySem.W.Frag) : Sp := fun vs H Q _ => ∃ (s : Addr) (v : V) (cd : CD), vs = [v] ∧ H s ≠ none ∧ CdA K (Off s H) v cd ∧ cd.deeds.length ≤ 4 ∧ ∀ r H', Same H H' → CdT K (Off s H') r cd → Q r H'
def spWrong (K : PySem.W.Frag) : Sp := fun vs H Q _ => ∃ (v : V) (e so : Addr) (n : Nat) (fs : List FD) (ys : List Str) (cd : CD), vs = [v, .ref e, .ref so, .int n] ∧ CdA K H v cd ∧ SqL K H e (ys.map V.str) ∧ H so = some (.dK (sortsV fs)) ∧ FsOk fs ∧ n ≤ 4 ∧ CdOk fs n cd ∧ cd.nm ∉ ys ∧ ∀ H', Same H H' → Q .non H'
section
variable {P : Program} {w : World} {K : PySem.W.Frag} {mg : Str → Option Value} {base : Heap} {C : Cst}
theorem ok_deedsOk {f : Addr} {fd : FuncData} (F : DefX K mg "are_deeds" s_are_deeds ["deeds", "sorts"] f fd) (T : Txt K mg) (Cs : Csts K w mg C) (c_is_deed : Cal P w K mg base CX0 2 "is_deed" (spDeed K)) : Cal P w K mg base CX0 3 "are_deeds" (spDeedsOk K) := by
  refine cal_mk F sc_are_deeds (fun vs H Q E h => ?_) (fun cdv A outer sh H vs Q E hr h => ?_)
  · obtain ⟨v, so, fs, dvs, ds, rfl, _⟩ := h
    rfl
  · obtain ⟨v, so, fs, dvs, ds, rfl, ⟨a, rfl, hd⟩, hal, hso, nd, hok, d4, wnd, q⟩ := h
    refine ⟨_, (pss_cons (ps_if (pt_cut (PW.pt (pw_or (pt_cmpR op_gt (pe_callB call_len_seq (by rfl) T.len (by decide +kernel) (pa_cons (pv 0) pa_nil)) (pe_cst rfl Cs.MOST_DEEDS) (nomark _)) (pw_or1 (pt_not (pt_val (pe_callB (cr_all rfl) (by rfl) T.all (by decide +kernel) (pa_cons (pe_lc (own := [("pair", 2)]) (g := (gName 2)) (tt := tYes) rfl sc_are_deeds.nd (pi_sqV (pv 0)) (blkOk_by (own := [("pair", 2)]) (N := ["deeds", "sorts", "pair", "deed", "field", "worded"]) (sc := defScope s_are_deeds) (by decide +kernel)) (fun _ _ _ _ _ => (pg_name (i := 2) sc_are_deeds.nd rfl (Or.inl rfl))) (fun _ _ _ _ _ => pts_nil) (fun _ _ _ _ _ => (pe_c c_is_deed hr (by first | decide | assumption) rfl (pa_cons (pv 2) (pa_cons (pv 1) pa_nil))))) pa_nil))))))))
(pss_one (ps_ret pe_bl))
pss_nil)
(pss_cons (ps_setLc (i := 5) (own := [("deed", 3), ("field", 4)]) (g := (gSq K 2 (gCons (gName 3) (gCons (gName 4) gNil)))) rfl sc_are_deeds.nd rfl rfl (sw_true rfl rfl rfl (by decide +kernel)) (pi_sqV (pv 0)) (blkOk_by (own := [("deed", 3), ("field", 4)]) (N := ["deeds", "sorts", "pair", "deed", "field", "worded"]) (sc := defScope s_are_deeds) (by decide +kernel)) (fun _ _ _ _ _ => (pg_sq (by rfl) (pgs_cons (pg_name (i := 3) sc_are_deeds.nd rfl (Or.inl rfl)) (pgs_cons (pg_name (i := 4) sc_are_deeds.nd rfl (Or.inl rfl)) pgs_nil)))) (fun _ _ _ _ _ => (pts_one (pt_cmpR (op_in_seqK (K := K) rfl) (pv 3) (pe_cst rfl Cs.LIST_WORD_DEEDS) (by rfl)))) (fun _ _ _ _ _ => (pv 4)))
(pss_one (ps_ret (pe_cmpR op_eq (pe_lenS rfl (by rfl) T.len (by rfl) T.set (pv 5)) (pe_callB call_len_seq (by rfl) T.len (by decide +kernel) (pa_cons (pv 5) pa_nil)) (nomark _)))))), ?_⟩
    have dl : dvs.length ≤ 4 := by rw [hal.1]; exact d4
    refine ⟨fun t H' => t = false ∧ Same H H', ⟨_, rfl, a, _, rfl, hd, _, _, rfl, rfl, _, rfl, iteB (decide_eq_false (by omega)) ?_⟩, ?_⟩
    · refine ⟨_, rfl, a, _, H, rfl, hd, Same.refl H, fun J G wk hG D hD => ?_⟩
      refine lc_it wk (fun i H2 => Same H H2 ∧ H2 D = some (.lst ((List.replicate i true).map V.bl))) ⟨same_new (Same.refl H) hD, upd_same⟩ (fun i H2 _ h => hG _ h.1) ?_ ?_
      · rintro i x H3 H2 hi ⟨e2, d2⟩ ⟨rfl, hx⟩
        obtain ⟨dd, hdd, hda⟩ := hal.get hx
        refine ⟨rfl, ?_⟩
        refine ⟨_, rfl, _, rfl, x, so, fs, dd, rfl, DeA.keep e2 hda, e2 _ _ hso, nd, hok dd (List.mem_of_getElem? hdd), fun H4 e4 => ⟨_, e4 _ _ d2, ?_, fun b o hb => ?_, ?_⟩⟩
        · rw [List.length_map, List.length_replicate]
          exact Nat.lt_trans (Nat.lt_of_lt_of_le hi dl) (by decide)
        · rw [upd_ne (ne_of_none hb hD)]
          exact e4 _ _ (e2 _ _ hb)
        · rw [upd_same, List.replicate_succ', List.map_append]
          rfl
      · rintro H2 ⟨e2, d2⟩
        refine ⟨D, _, rfl, SqL.of d2, true, ?_, rfl, e2⟩
        simp
    rintro _ H1 ⟨rfl, e1⟩
    refine iteF ?_
    refine ⟨_, rfl, a, _, H, rfl, hd, e1, fun J G wk hG D hD => ?_⟩
    refine lc_it wk (fun i H2 => Same H H2 ∧ H2 D = some (.lst ((worded (ds.take i)).map V.str))) ⟨same_new e1 hD, upd_same⟩ (fun i H2 _ h => hG _ h.1) ?_ ?_
    · rintro i x H3 H2 hi ⟨e2, d2⟩ ⟨rfl, hx⟩
      obtain ⟨dd, hdd, hda⟩ := hal.get hx
      have tk : worded (ds.take (i + 1)) = worded (ds.take i) ++ (if dd.1 = ("add" : Str) ∨ dd.1 = ("strike" : Str) then [dd.2] else []) := by
        rw [List.take_succ, hdd]
        exact worded_snoc _ _
      refine ⟨DeV dd, DeA.keep e2 hda, rfl, _, _, rfl, _, _, rfl, rfl, rfl, ?_⟩
      refine ⟨_, rfl, C.lwd, _, rfl, .inr (Cs.t_lwd _), rfl, rfl, _, rfl, ?_⟩
      rw [show ([.str "add", .str "strike"] : List V) = (["add", "strike"] : List Str).map V.str from rfl, inV_strs]
      refine ite2 (fun h1 => ?_) (fun h1 => ?_)
      · have hm : dd.1 = ("add" : Str) ∨ dd.1 = ("strike" : Str) := by
          have := of_decide_eq_true h1
          simpa using this
        refine ⟨_, rfl, _, d2, ?_, fun b o hb => ?_, ?_⟩
        · rw [List.length_map]
          have : (worded (ds.take i)).length ≤ (ds.take i).length := by unfold worded; rw [List.length_map]; exact List.length_filter_le ..
          have h2 : (ds.take i).length ≤ ds.length := List.length_take_le' ..
          exact Nat.lt_of_le_of_lt (by omega : _ ≤ 4) (by decide)
        · rw [upd_ne (ne_of_none hb (none_of e1 hD))]
          exact e2 _ _ hb
        · rw [upd_same, tk, if_pos hm, List.map_append]
          rfl
      · have hm : ¬ (dd.1 = ("add" : Str) ∨ dd.1 = ("strike" : Str)) := fun q => h1 (decide_eq_true (by simpa using q))
        refine ⟨e2, ?_⟩
        rw [tk, if_neg hm, List.append_nil]
        exact d2
    · rintro H2 ⟨e2, d2⟩
      rw [hal.1, List.take_length] at d2
      have wl : (worded ds).length < 1000 := by
        have : (worded ds).length ≤ ds.length := by unfold worded; rw [List.length_map]; exact List.length_filter_le ..
        omega
      refine ⟨_, rfl, worded ds, Sq.lst d2, wnd, wl, _, rfl, D, _, rfl, .inl (SqL.of d2), rfl, ?_⟩
      rw [List.length_map, decide_eq_true rfl]
      exact q _ e2
theorem ok_sameOk {f : Addr} {fd : FuncData} (F : DefX K mg "is_same" s_is_same ["same", "hand", "sorts"] f fd) (T : Txt K mg) (c_is_many : Cal P w K mg base CX0 1 "is_many" spMany) : Cal P w K mg base CX0 2 "is_same" (spSameOk K) := by
  refine cal_mk F sc_is_same (fun vs H Q E h => ?_) (fun cdv A outer sh H vs Q E hr h => ?_)
  · obtain ⟨v, so, fs, hd, zs, rfl, _⟩ := h
    rfl
  · obtain ⟨v, so, fs, hd, zs, rfl, ⟨a, rfl, hz⟩, hso, nd, hok, z9, hself, znd, q⟩ := h
    refine ⟨_, (pss_cons (ps_if (pt_not (pt_val (pe_callB (cr_all rfl) (by rfl) T.all (by decide +kernel) (pa_cons (pe_lc (own := [("field", 3)]) (g := (gName 3)) (tt := tYes) rfl sc_is_same.nd (pi_sqV (pv 0)) (blkOk_by (own := [("field", 3)]) (N := ["same", "hand", "sorts", "field"]) (sc := defScope s_is_same) (by decide +kernel)) (fun _ _ _ _ _ => (pg_name (i := 3) sc_is_same.nd rfl (Or.inl rfl))) (fun _ _ _ _ _ => pts_nil) (fun _ _ _ _ _ => (pe_c c_is_many hr (by first | decide | assumption) rfl (pa_cons (pv 3) (pa_cons (pv 2) pa_nil))))) pa_nil))))
(pss_one (ps_ret pe_bl))
pss_nil)
(pss_cons (ps_if (pt_cut (PW.pt (pw_and (pt_cmpR op_eq (pv 1) pe_str (nomark _)) (pw_and1 (pt_cmpR op_gt (pe_callB call_len_seq (by rfl) T.len (by decide +kernel) (pa_cons (pv 0) pa_nil)) pe_int (nomark _))))))
(pss_one (ps_ret pe_bl))
pss_nil)
(pss_one (ps_ret (pe_cmpR op_eq (pe_lenS rfl (by rfl) T.len (by rfl) T.set (pv 0)) (pe_callB call_len_seq (by rfl) T.len (by decide +kernel) (pa_cons (pv 0) pa_nil)) (nomark _)))))), ?_⟩
    refine ⟨_, rfl, a, _, H, rfl, hz, Same.refl H, fun J G wk hG D hD => ?_⟩
    refine lc_it wk (fun i H2 => Same H H2 ∧ H2 D = some (.lst ((List.replicate i true).map V.bl))) ⟨same_new (Same.refl H) hD, upd_same⟩ (fun i H2 _ h => hG _ h.1) ?_ ?_
    · rintro i x H3 H2 hi ⟨e2, d2⟩ ⟨rfl, hx⟩
      rw [List.getElem?_map] at hx
      obtain ⟨z, hz2, rfl⟩ := Option.map_eq_some_iff.mp hx
      have hi9 : i < 100 := by
        have : i < (zs.map V.str).length := hi
        rw [List.length_map] at this
        omega
      refine ⟨rfl, ?_⟩
      refine ⟨_, rfl, _, rfl, z, so, fs, rfl, e2 _ _ hso, nd, hok z (List.mem_of_getElem? hz2), _, d2, ?_, fun b o hb => ?_, ?_⟩
      · rw [List.length_map, List.length_replicate]
        exact Nat.lt_trans hi9 (by decide)
      · rw [upd_ne (ne_of_none hb hD)]
        exact e2 _ _ hb
      · rw [upd_same, List.replicate_succ', List.map_append]
        rfl
    · rintro H2 ⟨e2, d2⟩
      refine ⟨D, _, rfl, SqL.of d2, true, by simp, iteF ?_⟩
      refine ⟨fun t H' => t = false ∧ H' = H2, ⟨_, rfl, rfl, _, rfl, ite2 (fun h1 => ?_) (fun h1 => ⟨rfl, rfl⟩)⟩, ?_⟩
      · obtain rfl := hself (V.str.inj (of_decide_eq_true h1))
        exact ⟨_, rfl, a, _, rfl, sq_at e2 hz, _, _, rfl, rfl, _, rfl, rfl, rfl⟩
      rintro _ H2 ⟨rfl, rfl⟩
      refine iteF ?_
      refine ⟨_, rfl, zs, ⟨a, rfl, sq_at e2 hz⟩, znd, by omega, _, rfl, a, _, rfl, sq_at e2 hz, rfl, ?_⟩
      rw [List.length_map, decide_eq_true rfl]
      exact q _ e2
theorem ok_keptCall {f : Addr} {fd : FuncData} (F : DefX K mg "kept_call" s_kept_call ["call"] f fd) (T : Txt K mg) : Cal P w K mg base CX0 1 "kept_call" (spKeptCall K) := by
  refine cal_mk F sc_kept_call (fun vs H Q E h => ?_) (fun cdv A outer sh H vs Q E hr h => ?_)
  · obtain ⟨s, v, cd, rfl, _⟩ := h
    rfl
  · obtain ⟨s, v, cd, rfl, hs, ⟨m, d, sm, ds, ⟨a, rfl, h1⟩, h2, h3, h4, h5⟩, d4, k⟩ := h
    refine ⟨_, (pss_cons (ps_asg (pv 0) (pg_sq (by rfl) (pgs_cons (pg_name (i := 1) sc_kept_call.nd rfl (Or.inl rfl)) (pgs_cons (pg_name (i := 2) sc_kept_call.nd rfl (Or.inl rfl)) (pgs_cons (pg_name (i := 3) sc_kept_call.nd rfl (Or.inl rfl)) (pgs_cons (pg_name (i := 4) sc_kept_call.nd rfl (Or.inl rfl)) (pgs_cons (pg_name (i := 5) sc_kept_call.nd rfl (Or.inl rfl)) pgs_nil)))))))
(pss_one (ps_ret (pe_tup (pa_cons (pv 1) (pa_cons (pv 2) (pa_cons (pe_cut (pe_callTy call_tuple_of (by rfl) T.tuple (by decide +kernel) (pa_cons (pv 3) pa_nil))) (pa_cons (pe_cut (pe_callTy call_tuple_of (by rfl) T.tuple (by decide +kernel) (pa_cons (pe_lc (own := [("pair", 6)]) (g := (gName 6)) (tt := tYes) rfl sc_kept_call.nd (pi_sqV (pv 4)) (blkOk_by (own := [("pair", 6)]) (N := ["call", "name", "hand", "moves", "deeds", "same", "pair"]) (sc := defScope s_kept_call) (by decide +kernel)) (fun _ _ _ _ _ => (pg_name (i := 6) sc_kept_call.nd rfl (Or.inl rfl))) (fun _ _ _ _ _ => pts_nil) (fun _ _ _ _ _ => (pe_cut (pe_callTy (call_tuple_ofK (K := K) rfl) (by rfl) T.tuple (by decide +kernel) (pa_cons (pv 6) pa_nil))))) pa_nil))) (pa_cons (pe_cut (pe_callTy call_tuple_of (by rfl) T.tuple (by decide +kernel) (pa_cons (pv 5) pa_nil))) pa_nil))))))))), ?_⟩
    have h10 : SqL K H a [.str cd.nm, .str cd.hand, m, d, sm] ∨ SqT K H a [.str cd.nm, .str cd.hand, m, d, sm] := sq_at off_same h1
    obtain ⟨da, rfl, h3⟩ := h3
    obtain ⟨ma, rfl, h2⟩ := h2
    obtain ⟨sa, rfl, h5⟩ := h5
    refine ⟨_, rfl, _, ⟨a, rfl, h10⟩, rfl, _, _, rfl, _, _, rfl, _, _, rfl, _, _, rfl, _, _, rfl, rfl, ?_⟩
    refine ⟨_, rfl, _, rfl, fun v H1 => Same H H1 ∧ Tu K (Off s H1) v (cd.moves.map V.int), ⟨_, rfl, rd_tupM (K := K) hs ⟨ma, rfl, h2⟩⟩, ?_⟩
    rintro mv H1 ⟨e1, tm⟩
    refine ⟨fun v H4 => Same H1 H4 ∧ ∃ tvs, Tu K (Off s H4) v tvs ∧ Al (DeT K (Off s H4)) tvs cd.deeds, ?_, ?_⟩
    · refine ⟨_, rfl, da, ds, Off s H, rfl, h3, off_same.trans e1, fun J G wk hG D hD => ?_⟩
      have Ds := ne_s hs e1 hD
      refine lc_it wk (fun i H2 => Same H1 H2 ∧ ∃ tvs : List V, H2 D = some (.lst tvs) ∧ Al (DeT K (Off D (Off s H2))) tvs (cd.deeds.take i)) ⟨same_new (Same.refl H1) hD, [], upd_same, Al.nil⟩ (fun i H2 _ h => hG _ ((off_same.trans e1).trans h.1)) ?_ ?_
      · rintro i x H3 H2 hi ⟨e2, tvs, d2, al⟩ ⟨rfl, hx⟩
        obtain ⟨dd, hdd, hda⟩ := h4.get hx
        have e12 := e1.trans e2
        refine ⟨rfl, ?_⟩
        refine ⟨fun v H4 => Same H2 H4 ∧ DeT K (Off s H4) v dd, ⟨_, rfl, rd_tupM (K := K) (kept_s hs e12) (DeA.keep (same_off e12) hda)⟩, ?_⟩
        rintro v H4 ⟨e4, tv⟩
        have d4' := e4 _ _ d2
        refine ⟨_, d4', ?_, fun b o hb => ?_, tvs ++ [v], upd_same, ?_⟩
        · rw [al.1]
          have : (cd.deeds.take i).length ≤ cd.deeds.length := List.length_take_le' ..
          exact Nat.lt_of_le_of_lt (by omega : _ ≤ 4) (by decide)
        · rw [upd_ne (ne_of_none hb hD)]
          exact e4 _ _ (e2 _ _ hb)
        · rw [off_upd Ds, off_put, List.take_succ, hdd]
          exact (al.mono fun _ _ h => DeT.keep (same_off (same_off e4)) h).snoc (Tu.offL tv ((off_ne Ds).trans d4'))
      · rintro H2 ⟨e2, tvs, d2, al⟩
        have e12 := e1.trans e2
        have al : Al (DeT K (Off D (Off s H2))) tvs cd.deeds := by
          have h := al
          rw [h4.1, List.take_length] at h
          exact h
        refine ⟨D, _, rfl, .inl ⟨SqL.of d2, fun l hl => ?_⟩⟩
        have e3 := same_new (Same.refl H2) hl (o := .tup tvs)
        refine ⟨e2.trans e3, tvs, Tu.tup ?_, al.mono fun _ _ h => DeT.keep (off_same.trans (same_off e3)) h⟩
        rw [off_ne (ne_s hs e12 hl), upd_same]
    rintro dv H2 ⟨e2, tvs, td, al⟩
    have e12 := e1.trans e2
    refine ⟨fun v H4 => Same H2 H4 ∧ Tu K (Off s H4) v (cd.same.map V.str), ⟨_, rfl, rd_tupM (K := K) (kept_s hs e12) (Sq.keep (same_off e12) ⟨sa, rfl, h5⟩)⟩, ?_⟩
    rintro sv H4 ⟨e4, ts⟩
    refine ⟨by show 5 ≤ sizeLine; decide, fun p hp => ?_⟩
    have e14 := e12.trans e4
    have e5 := same_new (Same.refl H4) hp (o := .tup [.str cd.nm, .str cd.hand, mv, dv, sv])
    refine k (.ref p) _ (e14.trans e5) ⟨mv, dv, sv, tvs, Tu.tup ?_, tm.keep (same_off (e2.trans (e4.trans e5))), td.keep (same_off (e4.trans e5)), al.mono fun _ _ h => DeT.keep (same_off (e4.trans e5)) h, ts.keep (same_off e5)⟩
    rw [off_ne (ne_s hs e14 hp), upd_same]
theorem ok_wrong {f : Addr} {fd : FuncData} (F : DefX K mg "wrong_part" s_wrong_part ["item", "earlier", "sorts", "modes"] f fd) (T : Txt K mg) (Cs : Csts K w mg C) (c_has_call_form : Cal P w K mg base CX0 2 "has_call_form" (spCallForm K)) (c_is_word : Cal P w K mg base CX0 1 "is_word" (spWord K))
    (c_are_moves : Cal P w K mg base CX0 2 "are_moves" (spMoves K)) (c_are_deeds : Cal P w K mg base CX0 3 "are_deeds" (spDeedsOk K)) (c_is_same : Cal P w K mg base CX0 2 "is_same" (spSameOk K)) : Cal P w K mg base CX0 4 "wrong_part" (spWrong K) := by
  refine cal_mk F sc_wrong_part (fun vs H Q E h => ?_) (fun cdv A outer sh H vs Q E hr h => ?_)
  · obtain ⟨v, e, so, n, fs, ys, cd, rfl, _⟩ := h
    rfl
  · obtain ⟨v, e, so, n, fs, ys, cd, rfl, ⟨m, d, sm, ds, ⟨a, rfl, h1⟩, ⟨ma, rfl, h2⟩, ⟨da, rfl, h3⟩, h4, ⟨sa, rfl, h5⟩⟩, he, hso, fok, n4, ok, hn, q⟩ := h
    refine ⟨_, (pss_cons (ps_if (pt_not (pt_val (pe_c c_has_call_form hr (by first | decide | assumption) rfl (pa_cons (pv 0) pa_nil))))
(pss_one (ps_ret pe_str))
pss_nil)
(pss_cons (ps_asg (pv 0) (pg_sq (by rfl) (pgs_cons (pg_name (i := 4) sc_wrong_part.nd rfl (Or.inl rfl)) (pgs_cons (pg_name (i := 5) sc_wrong_part.nd rfl (Or.inl rfl)) (pgs_cons (pg_name (i := 6) sc_wrong_part.nd rfl (Or.inl rfl)) (pgs_cons (pg_name (i := 7) sc_wrong_part.nd rfl (Or.inl rfl)) (pgs_cons (pg_name (i := 8) sc_wrong_part.nd rfl (Or.inl rfl)) pgs_nil)))))))
(pss_cons (ps_if (pt_cut (PW.pt (pw_or (pt_not (pt_val (pe_c c_is_word hr (by first | decide | assumption) rfl (pa_cons (pv 4) pa_nil)))) (pw_or1 (pt_cmpR op_in_seq (pv 4) (pv 1) (by rfl))))))
(pss_one (ps_ret pe_str))
pss_nil)
(pss_cons (ps_if (pt_cmpR op_notIn_seq (pv 5) (pe_cst rfl Cs.HANDS) (by rfl))
(pss_one (ps_ret pe_str))
pss_nil)
(pss_cons (ps_if (pt_not (pt_val (pe_c c_are_moves hr (by first | decide | assumption) rfl (pa_cons (pv 6) (pa_cons (pv 3) pa_nil)))))
(pss_one (ps_ret pe_str))
pss_nil)
(pss_cons (ps_if (pt_not (pt_val (pe_c c_are_deeds hr (by first | decide | assumption) rfl (pa_cons (pv 7) (pa_cons (pv 2) pa_nil)))))
(pss_one (ps_ret pe_str))
pss_nil)
(pss_cons (ps_if (pt_not (pt_val (pe_c c_is_same hr (by first | decide | assumption) rfl (pa_cons (pv 8) (pa_cons (pv 5) (pa_cons (pv 2) pa_nil))))))
(pss_one (ps_ret pe_str))
pss_nil)
(pss_one (ps_ret pe_non))))))))), ?_⟩
    have hcd : CdA K H (.ref a) cd := ⟨_, _, _, ds, ⟨a, rfl, h1⟩, ⟨ma, rfl, h2⟩, ⟨da, rfl, h3⟩, h4, ⟨sa, rfl, h5⟩⟩
    refine ⟨_, rfl, .ref a, cd, rfl, hcd, fun H1 e1 => ⟨true, rfl, iteF ?_⟩⟩
    refine ⟨_, rfl, _, ⟨a, rfl, sq_at e1 h1⟩, rfl, _, _, rfl, _, _, rfl, _, _, rfl, _, _, rfl, _, _, rfl, rfl, ?_⟩
    refine ⟨fun t H' => t = false ∧ Same H H', ⟨_, rfl, _, rfl, .inl ⟨_, rfl, word_len ok.word, fun H2 e2 => ?_⟩⟩, ?_⟩
    · rw [ok.word]
      refine ⟨true, rfl, iteF ⟨_, rfl, _, rfl, e, _, rfl, .inl ((e1.trans e2).seq he), rfl, flat_strs _, ?_⟩⟩
      rw [inV_strs, decide_eq_false hn]
      exact ⟨_, rfl, rfl, e1.trans e2⟩
    rintro _ H2 ⟨rfl, e2⟩
    refine iteF ?_
    refine ⟨_, rfl, C.hands, _, rfl, .inr (Cs.t_hands _), rfl, rfl, false, ?_, iteF ?_⟩
    · rcases ok.hand with h | h | h <;> rw [h] <;> decide
    refine ⟨_, rfl, _, rfl, .ref ma, n, cd.moves, rfl, ⟨ma, rfl, sq_at e2 h2⟩, ok.len, n4, ok.move, fun H3 e3 => ⟨true, rfl, iteF ?_⟩⟩
    have e23 := e2.trans e3
    refine ⟨_, rfl, _, rfl, .ref da, so, fs, ds, cd.deeds, rfl, ⟨da, rfl, sq_at e23 h3⟩, h4.mono fun _ _ h => DeA.keep e23 h, e23 _ _ hso, fok.nd, ok.deed, ok.deeds, ok.once, fun H4 e4 => ⟨true, rfl, iteF ?_⟩⟩
    have e24 := e23.trans e4
    have sl : cd.same.length < 100 := by
      have : cd.same.length ≤ (fs.map (·.nm)).length := len_sub ok.nd fun z hz => by
        obtain ⟨g, gm, rfl, _⟩ := ok.same z hz
        exact List.mem_map_of_mem gm
      rw [List.length_map] at this
      have := fok.le
      omega
    refine ⟨_, rfl, _, rfl, _, rfl, .ref sa, so, fs, cd.hand, cd.same, rfl, ⟨sa, rfl, sq_at e24 h5⟩, e24 _ _ hso, fok.nd, ok.same, sl, ok.self, ok.nd, fun H5 e5 => ⟨true, rfl, iteF ?_⟩⟩
    exact q _ (e24.trans e5)
end
end MK
set_option Elab.async false
set_option linter.all false
set_option autoImplicit false
set_option maxRecDepth 100000
set_option maxHeartbeats 4000000
namespace MK
open PySem PySem.Spec PyProof.Rows L2
local macro_rules | `(tactic| walk_at "x") => `(tactic| dsimp only [tSeq, tAsg, tRet, tDrop, tLst, tTup, tCons, tOp, tUn, tIfS])
abbrev s_kept_calls : Stmt := topS 39
theorem sc_kept_calls : FnScope ["calls", "sorts", "modes", "kept", "index", "item", "call", "reason"] ["calls", "sorts", "modes"] (defScope s_kept_calls) := ⟨rfl, rfl, rfl, by decide +kernel, rfl, by decide +kernel, by decide +kernel⟩
def spCalls (K : PySem.W.Frag) : Sp := fun vs H Q _ => ∃ (s : Addr) (v : V) (so : Addr) (n : Nat) (fs : List FD) (cvs : List V) (cs : List CD), vs = [v, .ref so, .int n] ∧ H s ≠ none ∧ Sq K (Off s H) v cvs ∧ Al (CdA K (Off s H)) cvs cs ∧ H so = some (.dK (sortsV fs)) ∧ FsOk fs ∧ n ≤ 4 ∧
  1 ≤ cs.length ∧ cs.length ≤ 6 ∧ (∀ c ∈ cs, CdOk fs n c) ∧ (cs.map (·.nm)).Nodup ∧ ∀ r rvs H', Same H H' → Tu K (Off s H') r rvs → Al (CdT K (Off s H')) rvs cs → Q r H'
section
variable {P : Program} {w : World} {K : PySem.W.Frag} {mg : Str → Option Value} {base : Heap} {C : Cst}
theorem ok_calls {f : Addr} {fd : FuncData} (F : DefX K mg "kept_calls" s_kept_calls ["calls", "sorts", "modes"] f fd) (T : Txt K mg) (Cs : Csts K w mg C) (c_is_list : Cal P w K mg base CX0 1 "is_list" (spList K)) (c_wrong_part : Cal P w K mg base CX0 4 "wrong_part" (spWrong K)) (c_kept_call : Cal P w K mg base CX0 1 "kept_call" (spKeptCall K)) :
    Cal P w K mg base CX0 5 "kept_calls" (spCalls K) := by
  refine cal_mk F sc_kept_calls (fun vs H Q E h => ?_) (fun cdv A outer sh H vs Q E hr h => ?_)
  · obtain ⟨s, v, so, n, fs, cvs, cs, rfl, _⟩ := h
    rfl
  · obtain ⟨s, v, so, n, fs, cvs, cs, rfl, hs, ⟨a, rfl, hv⟩, hal, hso, fok, n4, c1, c6, cok, cnd, k⟩ := h
    refine ⟨_, (pss_cons (ps_if (pt_cut (PW.pt (pw_or (pt_not (pt_val (pe_c c_is_list hr (by first | decide | assumption) rfl (pa_cons (pv 0) pa_nil)))) (pw_or1 (pt_cmpR op_eq (pe_callB call_len_seq (by rfl) T.len (by decide +kernel) (pa_cons (pv 0) pa_nil)) pe_int (nomark _))))))
(pss_one (ps_never))
pss_nil)
(pss_cons (ps_set (i := 3) sc_kept_calls.nd rfl (Or.inl rfl) (pe_lst pa_nil))
(pss_cons (ps_for PassesOwn.never rfl (pi_enV (by rfl) T.enumerate (pa_cons (pv 0) pa_nil)) (pg_tup (by rfl) (pgs_cons (pg_name (i := 4) sc_kept_calls.nd rfl (Or.inl rfl)) (pgs_cons (pg_name (i := 5) sc_kept_calls.nd rfl (Or.inl rfl)) pgs_nil)))
(pss_cons (ps_if (pt_cmpR op_ge (pv 4) (pe_cst rfl Cs.MOST_CALLS) (nomark _))
(pss_one (ps_never))
pss_nil)
(pss_cons (ps_set (i := 7) sc_kept_calls.nd rfl (Or.inl rfl) (pe_c c_wrong_part hr (by first | decide | assumption) rfl (pa_cons (pv 5) (pa_cons (pe_lc (own := [("call", 6)]) (g := (gName 6)) (tt := tYes) rfl sc_kept_calls.nd (pi_list (pv 3)) (blkOk_by (own := [("call", 6)]) (N := ["calls", "sorts", "modes", "kept", "index", "item", "call", "reason"]) (sc := defScope s_kept_calls) (by decide +kernel)) (fun _ _ _ _ _ => (pg_name (i := 6) sc_kept_calls.nd rfl (Or.inl rfl))) (fun _ _ _ _ _ => pts_nil) (fun _ _ _ _ _ => (pe_ix (ix_tupK (K := K) rfl) (pv 6) pe_int (fun _ _ => rfl)))) (pa_cons (pv 1) (pa_cons (pv 2) pa_nil))))))
(pss_cons (ps_if (pt_cmpR op_notN (pv 7) pe_non (nomark _))
(pss_one (ps_never))
pss_nil)
(pss_one (ps_expr (pe_bm PySem.F.plainAttrs_list PySem.F.slot_list_append PySem.F.type_list_append mt_append (pv 3) (pa_cons (pe_c c_kept_call hr (by first | decide | assumption) rfl (pa_cons (pv 5) pa_nil)) pa_nil))))))))
(pss_one (ps_ret (pe_callTy call_tuple_of (by rfl) T.tuple (by decide +kernel) (pa_cons (pv 3) pa_nil))))))), ?_⟩
    have hv0 : SqL K H a cvs ∨ SqT K H a cvs := sq_at off_same hv
    have len3 : cvs.length = cs.length := hal.1
    refine ⟨fun t H' => t = false ∧ Same H H', ⟨_, rfl, .ref a, _, rfl, ⟨a, rfl, hv0⟩, fun H1 e1 => ⟨true, rfl, iteF ?_⟩⟩, ?_⟩
    · exact ⟨_, rfl, a, _, rfl, sq_at e1 hv0, rfl, _, rfl, decide_eq_false (fun e => by have := V.int.inj e; omega), e1⟩
    rintro _ H1 ⟨rfl, e1⟩
    refine iteF ?_
    refine ⟨by show 0 ≤ sizeLine; decide, fun D hD => ?_⟩
    have hsD : D ≠ s := ne_s hs e1 hD
    have hD0 := none_of e1 hD
    refine ⟨_, rfl, a, cvs, Off s H, rfl, hv, off_same.trans (same_new e1 hD), fun J G wk hG => ?_⟩
    refine for_it wk (fun i σ H2 => Same H H2 ∧ ∃ kvs : List V, H2 D = some (.lst kvs) ∧ Al (CdT K (Off D (Off s H2))) kvs (cs.take i) ∧ ∃ x4 x5 x6 x7, σ = [some (.ref a), some (.ref so), some (.int n), some (.ref D), x4, x5, x6, x7])
      ⟨same_new e1 hD, [], upd_same, Al.nil, none, none, none, none, rfl⟩ (fun i σ H2 _ h => hG _ (off_same.trans h.1)) ?_ ?_
    · rintro i x σ H2 H3 hi ⟨e2, kvs, d2, al, x4, x5, x6, x7, rfl⟩ ⟨U, _, y, rfl, hU, rfl, h1, hy⟩
      obtain rfl := Option.some.inj h1
      obtain ⟨c, hc, hca⟩ := hal.get hy
      have hcm := List.mem_of_getElem? hc
      have hi6 : i < cs.length := by
        have : i < cvs.length := hi
        omega
      have e3 : Same H2 (upd H2 U (.tup [.int (i : Nat), y])) := same_new (Same.refl H2) hU
      refine ⟨U, _, rfl, SqT.of upd_same, rfl, _, _, rfl, _, _, rfl, rfl, ?_⟩
      refine ⟨_, rfl, _, _, rfl, rfl, _, rfl, iteB (decide_eq_false (by omega)) ?_⟩
      refine ⟨_, rfl, _, rfl, D, rfl, ⟨_, SqL.of (e3 _ _ d2)⟩, fun D2 hD2 => ?_⟩
      refine lc_list (K := K) (a := D) (xs := kvs) (fun j H4 => Same H2 H4 ∧ H4 D2 = some (.lst ((((cs.take i).take j).map (·.nm)).map V.str))) ⟨same_new e3 hD2, upd_same⟩ (fun j H4 _ h => SqL.of (h.1 _ _ d2)) ?_ ?_
      · rintro j v H4 hv4 ⟨e4, d4⟩
        obtain ⟨g, hg, m', d', s', ds', ⟨u, rfl, hu⟩, _⟩ := al.get hv4
        have hu4 := same_t (off_same.trans (off_same.trans e4)) hu
        refine ⟨rfl, ?_⟩
        refine ⟨_, rfl, u, _, 0, .str g.nm, rfl, rfl, hu4, rfl, _, d4, ?_, fun b o hb => ?_, ?_⟩
        · rw [List.length_map, List.length_map, List.length_take, List.length_take]
          exact Nat.lt_of_le_of_lt (by omega : _ ≤ 6) (by decide)
        · rw [upd_ne (ne_of_none (e3 _ _ hb) hD2)]
          exact e4 _ _ hb
        · rw [upd_same, List.take_succ (i := j), hg]
          simp
      rintro H4 ⟨e4, d4⟩
      rw [show kvs.length = (cs.take i).length from al.1, List.take_length] at d4
      have e24 := e2.trans e4
      refine ⟨_, rfl, _, rfl, y, D2, so, n, fs, _, c, rfl, CdA.keep (off_same.trans e24) hca, SqL.of d4, e24 _ _ hso, fok, n4, cok c hcm, ?_, fun H5 e5 => ?_⟩
      · rw [List.map_take]
        exact nm_new cnd (by rw [List.getElem?_map, hc]; rfl)
      refine ⟨_, rfl, rfl, _, rfl, iteF ?_⟩
      have e25 := e24.trans e5
      have d5 := (e4.trans e5) _ _ d2
      refine ⟨_, rfl, .inl ⟨rfl, _, SqL.of d5⟩, _, rfl, s, y, c, rfl, kept_s hs e25, CdA.keep (same_off e25) hca, (cok c hcm).deeds, fun r H6 e6 hr6 => ?_⟩
      have kl : kvs.length < sizeLine := by
        rw [al.1, List.length_take]
        exact Nat.lt_of_le_of_lt (by omega : _ ≤ 6) (by decide)
      have d6 := e6 _ _ d5
      refine ⟨D, kvs, _, rfl, rfl, d6, kl, fun b o hb => ?_, _, upd_same, ?_, _, _, _, _, rfl⟩
      · rw [upd_ne (ne_of_none hb hD0)]
        exact e6 _ _ (e25 _ _ hb)
      · rw [off_upd hsD, off_put, List.take_succ, hc]
        exact (al.mono fun _ _ h => CdT.keep (same_off (same_off (e4.trans (e5.trans e6)))) h).snoc (CdT.off hr6 ((off_ne hsD).trans d6) no_lst)
    · rintro σ H2 ⟨e2, kvs, d2, al, x4, x5, x6, x7, rfl⟩
      refine ⟨_, rfl, D, kvs, rfl, .inl ⟨SqL.of d2, fun p hp => ?_⟩⟩
      have ps : p ≠ s := ne_s hs e2 hp
      rw [len3, List.take_length] at al
      have e3 : Same H2 (upd H2 p (.tup kvs)) := same_new (Same.refl H2) hp
      refine k _ kvs _ (e2.trans e3) (Tu.tup (by rw [off_ne ps, upd_same])) (al.mono fun _ _ h => CdT.keep (off_same.trans (same_off e3)) h)
end
end MK
set_option Elab.async false
set_option linter.all false
set_option autoImplicit false
set_option maxRecDepth 100000
set_option maxHeartbeats 4000000
namespace MK
open PySem PySem.Spec PyProof.Rows L2
local macro_rules | `(tactic| walk_at "x") => `(tactic| dsimp only [tSeq, tAsg, tRet, tDrop, tLst, tTup, tCons, tOp, tUn, tIfS])
abbrev s_Kind_init : Stmt := inClass (topS 62) 0
theorem sc_Kind_init : FnScope ["self", "fields", "calls", "modes", "name", "sort", "need", "at", "field", "call"] ["self", "fields", "calls", "modes"] (defScope s_Kind_init) := ⟨rfl, rfl, rfl, by decide +kernel, rfl, by decide +kernel, by decide +kernel⟩
/-- the class of kinds -/
structure KCls (K : PySem.W.Frag) (KC : Addr) : Prop where
  cls : Cls K KC
  triples : NoAttr K KC "triples"
  sorts : NoAttr K KC "sorts"
  spots : NoAttr K KC "spots"
  modes : NoAttr K KC "modes"
  steps : NoAttr K KC "steps"
  table : NoAttr K KC "table"
def spKInit (K : PySem.W.Frag) (KC : Addr) : Sp := fun vs H Q _ => ∃ (s x dx : Addr) (fv cv : V) (n : Nat) (fvs cvs : List V) (fs : List FD) (cs : List CD), vs = [.ref x, fv, cv, .int n] ∧ x ≠ s ∧ H s ≠ none ∧ H x = some (.ins KC dx []) ∧
  Sq K (Off x (Off s H)) fv fvs ∧ Al (FdA K (Off x (Off s H))) fvs fs ∧ Sq K (Off x (Off s H)) cv cvs ∧ Al (CdA K (Off x (Off s H))) cvs cs ∧ KdOk fs n cs ∧ ∀ H', SameX x H H' → KdA K KC (Off s H') (.ref x) fs n cs → Q .non H'
section
variable {P : Program} {w : World} {K : PySem.W.Frag} {mg : Str → Option Value} {base : Heap} {C : Cst} {KC : Addr}
theorem run_kinit (T : Txt K mg) (Z : KCls K KC) (c_kept_fields : Cal P w K mg base CX0 3 "kept_fields" (spFields K)) (c_is_modes : Cal P w K mg base CX0 2 "is_modes" spModes) (c_kept_calls : Cal P w K mg base CX0 5 "kept_calls" (spCalls K))
    {f : Addr} {cdv : Value} {A : Around} {outer : List Env} {sh : Shared} {H : Hp} {vs : List V} {Q : VK} {E : XK} (hr : Room 5 (A.deeper (envOfC "Kind.__init__" (defScope s_Kind_init) sh.heap.objs.size f cdv))) (h : spKInit K KC vs H Q E) :
    ∃ t, PSs (cxOf CX0 P w K mg base ["self", "fields", "calls", "modes", "name", "sort", "need", "at", "field", "call"] "Kind.__init__" (defScope s_Kind_init) f cdv A outer sh H E).nox (defBody s_Kind_init) t ∧ t { nx := fun _ H' => Q .non H', rt := Q } (start ["self", "fields", "calls", "modes", "name", "sort", "need", "at", "field", "call"] vs) H := by
  obtain ⟨s, x, dx, fv, cv, n, fvs, cvs, fs, cs, rfl, xs, hs, hx, hf, hfs, hc, hcs, ok, k⟩ := h
  refine ⟨_, (pss_cons (ps_fld (pv 0) (pe_c c_kept_fields hr (by first | decide | assumption) rfl (pa_cons (pv 1) pa_nil)) rfl)
(pss_cons (ps_fld (pv 0) (pe_dc (own := [("name", 4), ("sort", 5), ("need", 6)]) (g := (gTup K 3 (gCons (gName 4) (gCons (gName 5) (gCons (gName 6) gNil))))) (tt := tYes) rfl sc_Kind_init.nd (pi_tup (pe_fld (pv 0) rfl)) (blkOk_by (own := [("name", 4), ("sort", 5), ("need", 6)]) (N := ["self", "fields", "calls", "modes", "name", "sort", "need", "at", "field", "call"]) (sc := defScope s_Kind_init) (by decide +kernel)) (fun _ _ _ _ _ => (pg_tup (by rfl) (pgs_cons (pg_name (i := 4) sc_Kind_init.nd rfl (Or.inl rfl)) (pgs_cons (pg_name (i := 5) sc_Kind_init.nd rfl (Or.inl rfl)) (pgs_cons (pg_name (i := 6) sc_Kind_init.nd rfl (Or.inl rfl)) pgs_nil))))) (fun _ _ _ _ _ => pts_nil) (fun _ _ _ _ _ => (pv 4)) (fun _ _ _ _ _ => (pv 5))) rfl)
(pss_cons (ps_fld (pv 0) (pe_dc (own := [("at", 7), ("field", 8)]) (g := (gTup K 2 (gCons (gName 7) (gCons (gName 8) gNil)))) (tt := tYes) rfl sc_Kind_init.nd (pi_enumT (by rfl) T.enumerate (pa_cons (pe_fld (pv 0) rfl) pa_nil)) (blkOk_by (own := [("at", 7), ("field", 8)]) (N := ["self", "fields", "calls", "modes", "name", "sort", "need", "at", "field", "call"]) (sc := defScope s_Kind_init) (by decide +kernel)) (fun _ _ _ _ _ => (pg_tup (by rfl) (pgs_cons (pg_name (i := 7) sc_Kind_init.nd rfl (Or.inl rfl)) (pgs_cons (pg_name (i := 8) sc_Kind_init.nd rfl (Or.inl rfl)) pgs_nil)))) (fun _ _ _ _ _ => pts_nil) (fun _ _ _ _ _ => (pe_ix (ix_tupK (K := K) rfl) (pv 8) pe_int (fun _ _ => rfl))) (fun _ _ _ _ _ => (pv 7))) rfl)
(pss_cons (ps_if (pt_not (pt_val (pe_c c_is_modes hr (by first | decide | assumption) rfl (pa_cons (pv 3) pa_nil))))
(pss_one (ps_never))
pss_nil)
(pss_cons (ps_fld (pv 0) (pv 3) rfl)
(pss_cons (ps_fld (pv 0) (pe_c c_kept_calls hr (by first | decide | assumption) rfl (pa_cons (pv 2) (pa_cons (pe_fld (pv 0) rfl) (pa_cons (pv 3) pa_nil)))) rfl)
(pss_one (ps_fld (pv 0) (pe_dc (own := [("call", 9)]) (g := (gName 9)) (tt := tYes) rfl sc_Kind_init.nd (pi_tup (pe_fld (pv 0) rfl)) (blkOk_by (own := [("call", 9)]) (N := ["self", "fields", "calls", "modes", "name", "sort", "need", "at", "field", "call"]) (sc := defScope s_Kind_init) (by decide +kernel)) (fun _ _ _ _ _ => (pg_name (i := 9) sc_Kind_init.nd rfl (Or.inl rfl))) (fun _ _ _ _ _ => pts_nil) (fun _ _ _ _ _ => (pe_ix (ix_tupK (K := K) rfl) (pv 9) pe_int (fun _ _ => rfl))) (fun _ _ _ _ _ => (pv 9))) rfl)))))))), ?_⟩
  have n1 := ok.pos
  have n4 := ok.le
  -- triples
  refine ⟨_, rfl, s, fv, fvs, fs, rfl, hs, hf.keep off_same, hfs.mono fun _ _ h => FdA.keep off_same h, ok.fields, fun r rvs H1 e1 tr al => ?_⟩
  have x1 := e1 _ _ hx
  refine ⟨_, rfl, x, KC, dx, [], rfl, x1, Z.cls, Z.triples, by decide, ?_⟩
  have hB1 : Off s H1 x = some (.ins KC dx []) := (off_ne xs).trans x1
  have tr1 : Tu K (Off x (Off s H1)) r rvs := tr.off hB1 no_ins
  have al1 : Al (FdT K (Off x (Off s H1))) rvs fs := al.mono fun _ _ h => Tu.off h hB1 no_ins
  obtain ⟨ra, rfl, tra⟩ := tr1
  have e01 : SameX x H (upd H1 x (.ins KC dx [("triples", .ref ra)])) := (same_sx e1).put
  have hB : ∀ {H' : Hp} {o : HO}, Off x (Off s (upd H' x o)) = Off x (Off s H') := by
    intro H' o
    rw [off_upd xs, off_put]
  have hs2 : upd H1 x (.ins KC dx [("triples", .ref ra)]) s ≠ none := by
    rw [upd_ne (Ne.symm xs)]
    exact kept_s hs e1
  have F2 : SqT K (Off x (Off s (upd H1 x (.ins KC dx [("triples", .ref ra)])))) ra rvs ∧ Al (FdT K (Off x (Off s (upd H1 x (.ins KC dx [("triples", .ref ra)]))))) rvs fs := by
    rw [hB]
    exact ⟨tra, al1⟩
  have C2 : Sq K (Off x (Off s (upd H1 x (.ins KC dx [("triples", .ref ra)])))) cv cvs ∧ Al (CdA K (Off x (Off s (upd H1 x (.ins KC dx [("triples", .ref ra)]))))) cvs cs := by
    rw [hB]
    exact ⟨hc.keep (same_off (same_off e1)), hcs.mono fun _ _ h => CdA.keep (same_off (same_off e1)) h⟩
  have x2 : upd H1 x (.ins KC dx [("triples", .ref ra)]) x = some (.ins KC dx [("triples", .ref ra)]) := upd_same
  show tSeq _ _ _ _ (upd H1 x (.ins KC dx [("triples", .ref ra)]))
  generalize upd H1 x (.ins KC dx [("triples", .ref ra)]) = H2 at e01 hs2 F2 C2 x2
  have rl : rvs.length ≤ 3 := by rw [al.1]; exact ok.fields.le
  -- sorts
  refine ⟨_, rfl, x, KC, dx, _, .ref ra, rfl, x2, Z.cls, Z.triples, rfl, ra, rfl, ⟨rvs, same_t (off_same.trans off_same) F2.1⟩, fun D hD => ?_⟩
  refine dc_it (walk_tup (K := K) (a := ra) (xs := rvs)) (fun i H' => Same H2 H' ∧ H' D = some (.dK ((sortsV fs).take i))) ⟨same_new (Same.refl H2) hD, upd_same⟩ (fun i H' _ h => same_t ((off_same.trans off_same).trans h.1) F2.1) ?_ ?_
  · rintro i v H3' H3 hi ⟨e3, d3⟩ ⟨rfl, hv⟩
    obtain ⟨f', hf', u, rfl, hu⟩ := F2.2.get hv
    refine ⟨u, FdV f', rfl, same_t ((off_same.trans off_same).trans e3) hu, rfl, _, _, rfl, _, _, rfl, _, _, rfl, rfl, rfl, ?_⟩
    refine ⟨_, rfl, _, rfl, _, .inr f'.nm, rfl, d3, ?_, fun b o hb => ?_, ?_⟩
    · exact Nat.lt_of_le_of_lt (Nat.le_trans (List.length_take_le' ..) (by rw [sorts_len]; exact ok.fields.le)) (by decide)
    · rw [upd_ne (ne_of_none hb hD)]
      exact e3 _ _ hb
    · rw [upd_same, put_take (sorts_nd ok.fields.nd) (sorts_at hf')]
  rintro H3 ⟨e3, d3⟩
  rw [show rvs.length = (sortsV fs).length by rw [sorts_len]; exact F2.2.1, List.take_length] at d3
  have x3 := e3 _ _ x2
  refine ⟨_, rfl, x, KC, dx, _, rfl, x3, Z.cls, Z.sorts, by simp, ?_⟩
  show tSeq _ _ _ _ (upd H3 x (.ins KC dx [("triples", .ref ra), ("sorts", .ref D)]))
  have Dx : D ≠ x := fun e => by rw [e, x3] at d3; cases d3
  have Ds : D ≠ s := ne_s hs2 (Same.refl H2) hD
  have e04 : SameX x H (upd H3 x (.ins KC dx [("triples", .ref ra), ("sorts", .ref D)])) := (e01.trans (same_sx e3)).put
  have b24 : Same (Off x (Off s H2)) (Off x (Off s (upd H3 x (.ins KC dx [("triples", .ref ra), ("sorts", .ref D)])))) := by
    rw [hB]
    exact same_off (same_off e3)
  have hs4 : upd H3 x (.ins KC dx [("triples", .ref ra), ("sorts", .ref D)]) s ≠ none := by
    rw [upd_ne (Ne.symm xs)]
    exact kept_s hs2 e3
  have d4 : Off x (Off s (upd H3 x (.ins KC dx [("triples", .ref ra), ("sorts", .ref D)]))) D = some (.dK (sortsV fs)) := by
    rw [hB, off_ne Dx, off_ne Ds]
    exact d3
  have x4 : upd H3 x (.ins KC dx [("triples", .ref ra), ("sorts", .ref D)]) x = some (.ins KC dx [("triples", .ref ra), ("sorts", .ref D)]) := upd_same
  generalize upd H3 x (.ins KC dx [("triples", .ref ra), ("sorts", .ref D)]) = H4 at e04 b24 hs4 d4 x4
  -- spots
  refine ⟨_, rfl, x, KC, dx, _, .ref ra, rfl, x4, Z.cls, Z.triples, rfl, ra, rvs, rfl, same_t (b24.trans (off_same.trans off_same)) F2.1, fun D2 hD2 => ?_⟩
  refine dc_it (walk_enumT (K := K) (a := ra) (xs := rvs)) (fun i H' => Same H4 H' ∧ H' D2 = some (.dK ((spotsV fs).take i))) ⟨same_new (Same.refl H4) hD2, upd_same⟩ (fun i H' _ h => same_t ((b24.trans (off_same.trans off_same)).trans h.1) F2.1) ?_ ?_
  · rintro i v H5 H5' hi ⟨e5, d5⟩ ⟨U, _, y, rfl, hU, rfl, h1, hy⟩
    obtain rfl := Option.some.inj h1
    obtain ⟨f', hf', u, rfl, hu⟩ := F2.2.get hy
    have e6 : Same H5 (upd H5 U (.tup [.int (i : Nat), .ref u])) := same_new (Same.refl H5) hU
    have hu6 : SqT K (upd H5 U (.tup [.int (i : Nat), .ref u])) u (FdV f') := same_t ((b24.trans (off_same.trans off_same)).trans (e5.trans e6)) hu
    refine ⟨U, _, rfl, SqT.of upd_same, rfl, _, _, rfl, _, _, rfl, rfl, rfl, ?_⟩
    refine ⟨_, rfl, u, _, 0, .str f'.nm, rfl, rfl, hu6, rfl, _, rfl, _, .inr f'.nm, rfl, e6 _ _ d5, ?_, fun b o hb => ?_, ?_⟩
    · exact Nat.lt_of_le_of_lt (Nat.le_trans (List.length_take_le' ..) (by rw [spots_len]; exact ok.fields.le)) (by decide)
    · rw [upd_ne (ne_of_none hb hD2)]
      exact e6 _ _ (e5 _ _ hb)
    · rw [upd_same, put_take (spots_nd ok.fields.nd) (spots_at hf')]
  rintro H5 ⟨e5, d5⟩
  rw [show rvs.length = (spotsV fs).length by rw [spots_len]; exact F2.2.1, List.take_length] at d5
  have x5 := e5 _ _ x4
  refine ⟨_, rfl, x, KC, dx, _, rfl, x5, Z.cls, Z.spots, by simp, ?_⟩
  show tSeq _ _ _ _ (upd H5 x (.ins KC dx [("triples", .ref ra), ("sorts", .ref D), ("spots", .ref D2)]))
  have D2x : D2 ≠ x := fun e => by rw [e, x5] at d5; cases d5
  have D2s : D2 ≠ s := ne_s hs4 (Same.refl H4) hD2
  have e06 : SameX x H (upd H5 x (.ins KC dx [("triples", .ref ra), ("sorts", .ref D), ("spots", .ref D2)])) := (e04.trans (same_sx e5)).put
  have b26 : Same (Off x (Off s H4)) (Off x (Off s (upd H5 x (.ins KC dx [("triples", .ref ra), ("sorts", .ref D), ("spots", .ref D2)])))) := by
    rw [hB]
    exact same_off (same_off e5)
  have hs6 : upd H5 x (.ins KC dx [("triples", .ref ra), ("sorts", .ref D), ("spots", .ref D2)]) s ≠ none := by
    rw [upd_ne (Ne.symm xs)]
    exact kept_s hs4 e5
  have d6 : Off x (Off s (upd H5 x (.ins KC dx [("triples", .ref ra), ("sorts", .ref D), ("spots", .ref D2)]))) D2 = some (.dK (spotsV fs)) := by
    rw [hB, off_ne D2x, off_ne D2s]
    exact d5
  have x6 : upd H5 x (.ins KC dx [("triples", .ref ra), ("sorts", .ref D), ("spots", .ref D2)]) x = some (.ins KC dx [("triples", .ref ra), ("sorts", .ref D), ("spots", .ref D2)]) := upd_same
  generalize upd H5 x (.ins KC dx [("triples", .ref ra), ("sorts", .ref D), ("spots", .ref D2)]) = H6 at e06 b26 hs6 d6 x6
  -- modes
  refine ⟨_, rfl, (n : Int), rfl, ?_⟩
  rw [decide_eq_true (by omega : (1 : Int) ≤ n), decide_eq_true (by omega : (n : Int) ≤ 4)]
  refine ⟨true, rfl, iteF ?_⟩
  refine ⟨_, rfl, _, rfl, x, KC, dx, _, rfl, x6, Z.cls, Z.modes, by simp, ?_⟩
  show tSeq _ _ _ _ (upd H6 x (.ins KC dx [("triples", .ref ra), ("sorts", .ref D), ("spots", .ref D2), ("modes", .int n)]))
  have e07 : SameX x H (upd H6 x (.ins KC dx [("triples", .ref ra), ("sorts", .ref D), ("spots", .ref D2), ("modes", .int n)])) := e06.put
  have b67 : Off x (Off s (upd H6 x (.ins KC dx [("triples", .ref ra), ("sorts", .ref D), ("spots", .ref D2), ("modes", .int n)]))) = Off x (Off s H6) := hB
  have hs7 : upd H6 x (.ins KC dx [("triples", .ref ra), ("sorts", .ref D), ("spots", .ref D2), ("modes", .int n)]) s ≠ none := by
    rw [upd_ne (Ne.symm xs)]
    exact hs6
  have x7 : upd H6 x (.ins KC dx [("triples", .ref ra), ("sorts", .ref D), ("spots", .ref D2), ("modes", .int n)]) x = some (.ins KC dx [("triples", .ref ra), ("sorts", .ref D), ("spots", .ref D2), ("modes", .int n)]) := upd_same
  generalize upd H6 x (.ins KC dx [("triples", .ref ra), ("sorts", .ref D), ("spots", .ref D2), ("modes", .int n)]) = H7 at e07 b67 hs7 x7
  have b47 : Same (Off x (Off s H4)) (Off x (Off s H7)) := by
    rw [b67]
    exact b26
  have b27 := b24.trans b47
  rw [← b67] at d6
  -- steps
  refine ⟨_, rfl, _, rfl, x, KC, dx, _, .ref D, rfl, x7, Z.cls, Z.sorts, rfl, _, rfl, s, cv, D, n, fs, cvs, cs, rfl, hs7, C2.1.keep (b27.trans off_same), C2.2.mono fun _ _ h => CdA.keep (b27.trans off_same) h, (b47.trans (off_same.trans off_same)) _ _ d4, ok.fields, n4, ok.cpos, ok.cle, ok.calls, ok.nd, fun r8 svs H8 e8 tr8 al8 => ?_⟩
  have x8 := e8 _ _ x7
  refine ⟨_, rfl, x, KC, dx, _, rfl, x8, Z.cls, Z.steps, by simp, ?_⟩
  have hB8 : Off s H8 x = some (.ins KC dx [("triples", .ref ra), ("sorts", .ref D), ("spots", .ref D2), ("modes", .int n)]) := (off_ne xs).trans x8
  have tr9 : Tu K (Off x (Off s H8)) r8 svs := tr8.off hB8 no_ins
  have al9 : Al (CdT K (Off x (Off s H8))) svs cs := al8.mono fun _ _ h => CdT.off h hB8 no_ins
  obtain ⟨rb, rfl, trb⟩ := tr9
  rw [show putF ("steps" : Str) (V.ref rb) ([("triples", .ref ra), ("sorts", .ref D), ("spots", .ref D2), ("modes", .int n)] : List (Str × V)) = ([("triples", .ref ra), ("sorts", .ref D), ("spots", .ref D2), ("modes", .int n), ("steps", .ref rb)] : List (Str × V)) from rfl]
  have e09 : SameX x H (upd H8 x (.ins KC dx [("triples", .ref ra), ("sorts", .ref D), ("spots", .ref D2), ("modes", .int n), ("steps", .ref rb)])) := (e07.trans (same_sx e8)).put
  have b89 : Off x (Off s (upd H8 x (.ins KC dx [("triples", .ref ra), ("sorts", .ref D), ("spots", .ref D2), ("modes", .int n), ("steps", .ref rb)]))) = Off x (Off s H8) := hB
  have hs9 : upd H8 x (.ins KC dx [("triples", .ref ra), ("sorts", .ref D), ("spots", .ref D2), ("modes", .int n), ("steps", .ref rb)]) s ≠ none := by
    rw [upd_ne (Ne.symm xs)]
    exact kept_s hs7 e8
  have x9 : upd H8 x (.ins KC dx [("triples", .ref ra), ("sorts", .ref D), ("spots", .ref D2), ("modes", .int n), ("steps", .ref rb)]) x = some (.ins KC dx [("triples", .ref ra), ("sorts", .ref D), ("spots", .ref D2), ("modes", .int n), ("steps", .ref rb)]) := upd_same
  generalize upd H8 x (.ins KC dx [("triples", .ref ra), ("sorts", .ref D), ("spots", .ref D2), ("modes", .int n), ("steps", .ref rb)]) = H9 at e09 b89 hs9 x9
  have b79 : Same (Off x (Off s H7)) (Off x (Off s H9)) := by
    rw [b89]
    exact same_off (same_off e8)
  rw [← b89] at trb al9
  have sl : svs.length ≤ 6 := by rw [al9.1]; exact ok.cle
  -- table
  refine ⟨_, rfl, x, KC, dx, _, .ref rb, rfl, x9, Z.cls, Z.steps, rfl, rb, rfl, ⟨svs, same_t (off_same.trans off_same) trb⟩, fun D3 hD3 => ?_⟩
  refine dc_it (walk_tup (K := K) (a := rb) (xs := svs)) (fun i H' => Same H9 H' ∧ H' D3 = some (.dK ((tableV cs svs).take i))) ⟨same_new (Same.refl H9) hD3, upd_same⟩ (fun i H' _ h => same_t ((off_same.trans off_same).trans h.1) trb) ?_ ?_
  · rintro i v Ha' Ha hi ⟨ea, da⟩ ⟨rfl, hv⟩
    obtain ⟨c', hc', m', d', s', ds', ⟨u, rfl, hu⟩, _⟩ := al9.get hv
    refine ⟨rfl, ?_⟩
    refine ⟨_, rfl, u, _, 0, .str c'.nm, rfl, rfl, same_t ((off_same.trans off_same).trans ea) hu, rfl, _, rfl, _, .inr c'.nm, rfl, da, ?_, fun b o hb => ?_, ?_⟩
    · exact Nat.lt_of_le_of_lt (Nat.le_trans (List.length_take_le' ..) (by rw [table_len al9.1]; exact ok.cle)) (by decide)
    · rw [upd_ne (ne_of_none hb hD3)]
      exact ea _ _ hb
    · rw [upd_same, put_take (table_nd ok.nd al9.1) (table_at hc' hv)]
  rintro Ha ⟨ea, da⟩
  rw [show svs.length = (tableV cs svs).length by rw [table_len al9.1]; exact al9.1, List.take_length] at da
  have xa := ea _ _ x9
  refine ⟨_, rfl, x, KC, dx, _, rfl, xa, Z.cls, Z.table, by simp, ?_⟩
  have D3x : D3 ≠ x := fun e => by rw [e, xa] at da; cases da
  have D3s : D3 ≠ s := ne_s hs9 (Same.refl H9) hD3
  show Q .non (upd Ha x (.ins KC dx [("triples", .ref ra), ("sorts", .ref D), ("spots", .ref D2), ("modes", .int n), ("steps", .ref rb), ("table", .ref D3)]))
  have b9a : Same (Off x (Off s H9)) (Off s (upd Ha x (.ins KC dx [("triples", .ref ra), ("sorts", .ref D), ("spots", .ref D2), ("modes", .int n), ("steps", .ref rb), ("table", .ref D3)]))) := by
    refine Same.trans (H1 := Off x (Off s (upd Ha x (.ins KC dx [("triples", .ref ra), ("sorts", .ref D), ("spots", .ref D2), ("modes", .int n), ("steps", .ref rb), ("table", .ref D3)])))) ?_ off_same
    rw [hB]
    exact same_off (same_off ea)
  refine k _ ((e09.trans (same_sx ea)).put) ⟨x, dx, D, D2, D3, .ref ra, .ref rb, rvs, svs, rfl, ?_, ⟨ra, rfl, same_t ((b27.trans b79).trans b9a) F2.1⟩, F2.2.mono fun _ _ h => FdT.keep ((b27.trans b79).trans b9a) h, ((b47.trans b79).trans b9a) _ _ d4, (b79.trans b9a) _ _ d6, ⟨rb, rfl, same_t b9a trb⟩, al9.mono fun _ _ h => CdT.keep b9a h, ?_⟩
  · rw [off_ne xs, upd_same]
  · rw [off_ne D3s, upd_ne D3x]
    exact da
end
end MK
set_option Elab.async false
set_option linter.all false
set_option autoImplicit false
set_option maxRecDepth 100000
set_option maxHeartbeats 4000000
namespace MK
open PySem PySem.Spec PyProof.Rows L2
local macro_rules | `(tactic| walk_at "x") => `(tactic| dsimp only [tSeq, tAsg, tRet, tDrop, tLst, tTup, tCons, tOp, tUn, tIfS])
abbrev s_mix : Stmt := topS 68
theorem sc_mix : FnScope ["_law_state", "_law_things", "_law_left", "_law_found"] ["_law_state", "_law_things"] (defScope s_mix) := ⟨rfl, rfl, rfl, by decide +kernel, rfl, by decide +kernel, by decide +kernel⟩
def spMix (K : PySem.W.Frag) : Sp := fun vs H Q _ => ∃ (s c l : Addr) (ns : List Int) (zs : List Str), vs = [.ref s, .ref l] ∧ StA H s c ns ∧ ns.length ≤ 63 ∧ SqL K H l (zs.map V.str) ∧ zs.length < 1000 ∧ (∀ z ∈ zs, PyData.strOk z = true) ∧
  ∀ (a : Addr) (ys : List Str) H', ys.Perm zs → H a = none → H' a = some (.lst (ys.map V.str)) → SameX s H H' → StA H' s c ns → Q (.ref a) H'
section
variable {P : Program} {w : World} {K : PySem.W.Frag} {mg : Str → Option Value} {base : Heap}
def lenAt (a : Addr) (H : Hp) : Nat := match H a with
  | some (.lst xs) => xs.length
  | _ => 0
theorem StA.put {H : Hp} {s c a : Addr} {ns : List Int} {o : HO} (x : StA H s c ns) (h1 : a ≠ s) (h2 : a ≠ c) : StA (upd H a o) s c ns := by
  obtain ⟨n, e1, p, q, m, e2⟩ := x
  exact ⟨n, (upd_ne (Ne.symm h2)).trans e1, p, q, m, (upd_ne (Ne.symm h1)).trans e2⟩
theorem StA.ne {H : Hp} {s c a : Addr} {ns : List Int} (x : StA H s c ns) (h : H a = none) : a ≠ s ∧ a ≠ c := by
  obtain ⟨n, e1, p, q, m, e2⟩ := x
  exact ⟨fun e => (by rw [e, e2] at h; cases h), fun e => (by rw [e, e1] at h; cases h)⟩
theorem ok_mix {f : Addr} {fd : FuncData} (F : DefX K mg "_law_mix" s_mix ["_law_state", "_law_things"] f fd) (T : Txt K mg) (c_take : Cal P w K mg base CX0 2 "_law_take" spTake) : Cal P w K mg base CX0 3 "_law_mix" (spMix K) := by
  refine cal_mk F sc_mix (fun vs H Q E h => ?_) (fun cdv A outer sh H vs Q E hr h => ?_)
  · obtain ⟨s, c, l, ns, zs, rfl, _⟩ := h
    rfl
  · obtain ⟨s, c, l, ns, zs, rfl, h0, hl, hx, hz, hok, k⟩ := h
    refine ⟨_, (pss_cons (ps_par (i := 2) (j := 3) (by rfl) sc_mix.nd rfl rfl (by decide) rfl rfl (pa_cons (pe_callTy call_list_of (by rfl) T.list (by decide +kernel) (pa_cons (pv 1) pa_nil)) (pa_cons (pe_lst pa_nil) pa_nil)) (by rfl))
(pss_cons (ps_while PassesOwn.never (pt_cmpR (op_neD hr.units) (pv 2) (pe_lst pa_nil) (nomark _))
(pss_one (ps_expr (pe_bm PySem.F.plainAttrs_list PySem.F.slot_list_append PySem.F.type_list_append mt_append (pv 3) (pa_cons (pe_bm PySem.F.plainAttrs_list PySem.F.slot_list_pop PySem.F.type_list_pop mt_popAt (pv 2) (pa_cons (pe_c c_take hr (by first | decide | assumption) rfl (pa_cons (pv 0) (pa_cons (pe_callB call_len_seq (by rfl) T.len (by decide +kernel) (pa_cons (pv 2) pa_nil)) pa_nil))) pa_nil)) pa_nil)))))
(pss_one (ps_ret (pv 3))))), ?_⟩
    refine ⟨_, rfl, l, _, rfl, .inl hx, fun a ha => ?_⟩
    refine ⟨by show 0 ≤ sizeLine; decide, fun b hb => ?_⟩
    obtain ⟨ba, hb0⟩ := upd_none hb
    have hs0 : H s ≠ none := by
      obtain ⟨_, _, _, _, _, e⟩ := h0
      rw [e]
      exact nofun
    have sa : a ≠ s := fun e => hs0 (e ▸ ha)
    have sb : b ≠ s := fun e => hs0 (e ▸ hb0)
    have hb1 : upd (upd H a (.lst (zs.map V.str))) b (.lst []) a = some (.lst (zs.map V.str)) := by rw [upd_ne (Ne.symm ba), upd_same]
    refine ⟨_, _, rfl, ?_⟩
    refine while_by (fun σ H2 => SameX s H H2 ∧ StA H2 s c ns ∧ ∃ ls fs : List Str, (fs ++ ls).Perm zs ∧ H2 a = some (.lst (ls.map V.str)) ∧ H2 b = some (.lst (fs.map V.str)) ∧ σ = [some (.ref s), some (.ref l), some (.ref a), some (.ref b)]) (fun _ H2 => lenAt a H2) ?_ ?_ (fun σ H Q Q' h x => ?_)
    · refine ⟨((SameX.refl s H).putN ha).putN hb0, h0.keep (same_new (same_new (Same.refl H) ha) hb), zs, [], by simp, hb1, upd_same, rfl⟩
    · rintro σ H2 ⟨e2, h2, ls, fs, hp, ea, eb, rfl⟩
      have okl : ∀ z ∈ ls, PyData.strOk z = true := fun z m => hok z (hp.mem_iff.mp (List.mem_append_right _ m))
      refine ⟨_, rfl, by show 0 ≤ sizeLine; decide, fun p hp2 => ?_⟩
      have e3 : Same H2 (upd H2 p (.lst [])) := same_new (Same.refl H2) hp2
      refine ⟨_, _, .lst (SqL.of (e3 _ _ ea)) (dp_strs ls), .lst (SqL.of upd_same) .nil, strs_shaped ls okl, strs_shaped [] nofun, _, rfl, ?_⟩
      rw [eqv_nil]
      refine ite2 (fun h1 => ?_) (fun h1 => ?_)
      · cases ls with
        | nil => cases h1
        | cons z0 ls =>
        have lz : (z0 :: ls).length < 1000 := by
          have := hp.length_eq
          rw [List.length_append] at this
          omega
        refine ⟨_, rfl, (.inl ⟨rfl, _, SqL.of (e3 _ _ eb)⟩), _, rfl, (.inl ⟨rfl, _, SqL.of (e3 _ _ ea)⟩), _, rfl, _, rfl, a, _, rfl, .inl (SqL.of (e3 _ _ ea)), s, c, ns, _, rfl, h2.keep e3, hl, by rw [List.length_map, List.length_cons]; omega, by rw [List.length_map]; omega, fun d H4 hd e4 h4 => ?_⟩
        rw [List.length_map] at hd
        have hdl : d < (z0 :: ls).length := by omega
        have a4 := e4 _ _ (e3 _ _ ea) sa
        have b4 := e4 _ _ (e3 _ _ eb) sb
        refine ⟨a, _, _, d, .str (z0 :: ls)[d], rfl, rfl, a4, by omega, by omega, seqIndex_nat (by rw [List.length_map]; exact hdl), by rw [List.getElem?_map, List.getElem?_eq_getElem hdl]; rfl, ?_⟩
        have fl : fs.length < 1000 := by
          have := hp.length_eq
          rw [List.length_append] at this
          omega
        refine ⟨b, _, _, rfl, rfl, (upd_ne ba).trans b4, by rw [List.length_map]; exact Nat.lt_of_lt_of_le fl (by decide), ?_⟩
        refine ⟨⟨(((e2.trans (same_sx e3)).trans e4).putN ha).putN hb0, ?_, (z0 :: ls).eraseIdx d, fs ++ [(z0 :: ls)[d]], ?_, ?_, ?_, rfl⟩, ?_⟩
        · exact (h4.put (h0.ne ha).1 (h0.ne ha).2).put (h0.ne hb0).1 (h0.ne hb0).2
        · rw [List.append_assoc]
          exact ((perm_erase (z0 :: ls) d hdl).append_left fs).trans hp
        · rw [upd_ne (Ne.symm ba), upd_same, eraseIdx_mapV]
        · rw [upd_same, List.map_append]
          rfl
        · show lenAt a _ < lenAt a _
          unfold lenAt
          rw [upd_ne (Ne.symm ba), upd_same, ea]
          show (List.eraseIdx _ _).length < (List.map V.str (z0 :: ls)).length
          rw [List.length_eraseIdx, List.length_map, if_pos hdl]
          omega
      · cases ls with
        | cons z0 ls => exact absurd rfl h1
        | nil =>
        refine ⟨_, rfl, ?_⟩
        exact k b fs _ (by simpa using hp) hb0 (e3 _ _ eb) (e2.trans (same_sx e3)) (h2.keep e3)
    · obtain ⟨v, h1, h2, h3⟩ := x
      exact ⟨v, h1, h2, fun p hp => by
        obtain ⟨d, e, a1, a2, a3, a4, k, a5, a6⟩ := h3 p hp
        exact ⟨d, e, a1, a2, a3, a4, k, a5, h _ _ a6⟩⟩
end
end MK
set_option Elab.async false
set_option linter.all false
set_option autoImplicit false
set_option maxRecDepth 100000
set_option maxHeartbeats 4000000
namespace MK
open PySem PySem.Spec PyProof.Rows L2
local macro_rules | `(tactic| walk_at "x") => `(tactic| dsimp only [tSeq, tAsg, tRet, tDrop, tLst, tTup, tCons, tOp, tUn, tIfS])
abbrev s_deeds : Stmt := topS 76
theorem sc_deeds : FnScope ["_law_state", "_law_fields", "_law_many", "_law_found", "_law_busy", "_law_k", "_law_name", "_law_sort", "_law_need", "_law_some", "_law_deed_here"] ["_law_state", "_law_fields", "_law_many"] (defScope s_deeds) := ⟨rfl, rfl, rfl, by decide +kernel, rfl, by decide +kernel, by decide +kernel⟩
def spDeeds (K : PySem.W.Frag) : Sp := fun vs H Q _ => ∃ (s c l : Addr) (ns : List Int) (n : Int) (fvs : List V) (fs : List FD), vs = [.ref s, .ref l, .int n] ∧ StA H s c ns ∧ ns.length ≤ 63 ∧ Off s H l = some (.lst fvs) ∧ Al (FdT K (Off s H)) fvs fs ∧ 0 < fs.length ∧ fs.length < 10 ∧ 0 ≤ n ∧ n < 10 ∧
  ∀ (a : Addr) (ds : List (Str × Str)) (dvs : List V) H', H a = none → Off s H' a = some (.lst dvs) → Al (DeT K (Off s H')) dvs ds → (ds.length : Int) ≤ n → (∀ d ∈ ds, DeOk fs d) → (worded ds).Nodup → SameX s H H' → StA H' s c ns → Q (.ref a) H'
section
variable {P : Program} {w : World} {K : PySem.W.Frag} {mg : Str → Option Value} {base : Heap}
theorem ok_deeds {f : Addr} {fd : FuncData} (F : DefX K mg "_law_deeds" s_deeds ["_law_state", "_law_fields", "_law_many"] f fd) (T : Txt K mg) (c_take : Cal P w K mg base CX0 2 "_law_take" spTake) (c_one : Cal P w K mg base CX0 3 "_law_one" (spOne K)) : Cal P w K mg base CX0 4 "_law_deeds" (spDeeds K) := by
  refine cal_mk F sc_deeds (fun vs H Q E h => ?_) (fun cdv A outer sh H vs Q E hr h => ?_)
  · obtain ⟨s, c, l, ns, n, fvs, fs, rfl, _⟩ := h
    rfl
  · obtain ⟨s, c, l, ns, n, fvs, fs, rfl, h0, hl, hx, hfs, f0, f1, n0, n1, k⟩ := h
    refine ⟨_, (pss_cons (ps_par (i := 3) (j := 4) (by rfl) sc_deeds.nd rfl rfl (by decide) rfl rfl (pa_cons (pe_lst pa_nil) (pa_cons (pe_lst pa_nil) pa_nil)) (by rfl))
(pss_cons (ps_for PassesOwn.never rfl (pi_range1 (by rfl) T.range (pa_cons (pe_c c_take hr (by first | decide | assumption) rfl (pa_cons (pv 0) (pa_cons (pe_op op_add (pv 2) pe_int) pa_nil))) pa_nil)) (pg_name (i := 5) sc_deeds.nd rfl (Or.inl rfl))
(pss_cons (ps_asg (pe_c c_one hr (by first | decide | assumption) rfl (pa_cons (pv 0) (pa_cons (pv 1) pa_nil))) (pg_tup (by rfl) (pgs_cons (pg_name (i := 6) sc_deeds.nd rfl (Or.inl rfl)) (pgs_cons (pg_name (i := 7) sc_deeds.nd rfl (Or.inl rfl)) (pgs_cons (pg_name (i := 8) sc_deeds.nd rfl (Or.inl rfl)) pgs_nil)))))
(pss_cons (ps_set (i := 9) sc_deeds.nd rfl (Or.inl rfl) (pe_cut (pe_ifExp (pt_cmpR op_eq (pv 7) pe_str (nomark _)) (pe_lst (pa_cons pe_str (pa_cons pe_str pa_nil))) (pe_lst (pa_cons pe_str (pa_cons pe_str (pa_cons pe_str (pa_cons pe_str (pa_cons pe_str pa_nil)))))))))
(pss_cons (ps_set (i := 10) sc_deeds.nd rfl (Or.inl rfl) (pe_c c_one hr (by first | decide | assumption) rfl (pa_cons (pv 0) (pa_cons (pv 9) pa_nil))))
(pss_one (ps_if (pt_cut (PW.pt (pw_or (pt_cmpR op_notIn_seq (pv 10) (pe_tup (pa_cons pe_str (pa_cons pe_str pa_nil))) (by rfl)) (pw_or1 (pt_cmpR op_notIn_seq (pv 6) (pv 4) (by rfl))))))
(pss_cons (ps_set (i := 4) sc_deeds.nd rfl (Or.inl rfl) (pe_op op_cat (pv 4) (pe_op op_rep (pe_lst (pa_cons (pv 6) pa_nil)) (pe_callTy call_int1 (by rfl) T.int (by decide +kernel) (pa_cons (pe_cmpR op_in_seq (pv 10) (pe_tup (pa_cons pe_str (pa_cons pe_str pa_nil))) (by rfl)) pa_nil)))))
(pss_one (ps_expr (pe_bm PySem.F.plainAttrs_list PySem.F.slot_list_append PySem.F.type_list_append mt_append (pv 3) (pa_cons (pe_tup (pa_cons (pv 10) (pa_cons (pv 6) pa_nil))) pa_nil)))))
pss_nil))))))
(pss_one (ps_ret (pv 3))))), ?_⟩
    have ls : l ≠ s := fun e => by rw [e, off_s] at hx; cases hx
    refine ⟨by show 0 ≤ sizeLine; decide, fun a ha => ⟨by show 0 ≤ sizeLine; decide, fun b hb => ⟨_, _, rfl, ?_⟩⟩⟩
    obtain ⟨ba, hb0⟩ := upd_none hb
    obtain ⟨as, ac⟩ := h0.ne ha
    obtain ⟨bs, bc⟩ := h0.ne hb0
    have e1 : SameX s H (upd (upd H a (.lst [])) b (.lst [])) := ((SameX.refl s H).putN ha).putN hb0
    refine ⟨_, rfl, _, rfl, _, _, rfl, rfl, s, c, ns, n + 1, rfl, (h0.put as ac).put bs bc, hl, by omega, by omega, fun d H2 hd e2 h2 => ?_⟩
    have a2 := e2 _ _ ((upd_ne (Ne.symm ba)).trans upd_same) as
    have b2 := e2 _ _ upd_same bs
    refine ⟨(d : Int), rfl, by omega, by omega, ?_⟩
    refine for_it walk_range (fun i σ H2 => SameX s H H2 ∧ StA H2 s c ns ∧ ∃ (ds : List (Str × Str)) (dvs : List V) (b : Addr), H2 a = some (.lst dvs) ∧ H2 b = some (.lst ((worded ds).map V.str)) ∧ b ≠ s ∧ b ≠ a ∧
      Al (DeT K (Off a (Off s H2))) dvs ds ∧ ds.length ≤ i ∧ (∀ d ∈ ds, DeOk fs d) ∧ (worded ds).Nodup ∧ ∃ x5 x6 x7 x8 x9 x10, σ = [some (.ref s), some (.ref l), some (.int n), some (.ref a), some (.ref b), x5, x6, x7, x8, x9, x10])
      ⟨e1.trans e2, h2, [], [], b, a2, b2, bs, ba, Al.nil, Nat.le_refl _, nofun, List.nodup_nil, none, none, none, none, none, none, rfl⟩ (fun _ _ _ _ _ => trivial) ?_ ?_
    · rintro i x σ H3' H3 hi ⟨e3, h3, ds, dvs, b, ea, eb, bs, ba, hal, hln, hok, hnd, x5, x6, x7, x8, x9, x10, rfl⟩ ⟨rfl, rfl⟩
      have hi10 : i < 10 := by
        have : i < d := hi
        omega
      have fl : fvs.length < 10 := by rw [hfs.1]; exact f1
      refine ⟨_, rfl, _, rfl, s, c, l, ns, fvs, rfl, h3, hl, ls, .inl (SqL.of (e3 _ _ (off_get hx) ls)), by rw [hfs.1]; exact f0, by omega, fun j v H4 hj e4 h4 => ?_⟩
      obtain ⟨f, hfj, hft⟩ := hfs.get hj
      have e04 := e3.trans e4
      obtain ⟨u, rfl, hu⟩ := (FdT.keep e04.off hft)
      have hu : SqT K H4 u (FdV f) := same_t off_same hu
      refine ⟨u, _, rfl, hu, rfl, _, _, rfl, _, _, rfl, _, _, rfl, rfl, ?_⟩
      refine ⟨fun v H5 => ∃ (q : Addr) (zs : List Str), v = .ref q ∧ H4 q = none ∧ H5 = upd H4 q (.lst (zs.map V.str)) ∧ 0 < zs.length ∧ zs.length < 10 ∧ ∀ z ∈ zs, f.many ∈ deedSorts z, ?_, ?_⟩
      · refine ⟨_, rfl, rfl, _, rfl, ?_⟩
        refine ite2 (fun h1 => ⟨by show 2 ≤ sizeLine; decide, fun q hq => ⟨q, ["set", "clear"], rfl, hq, rfl, by decide, by decide, ?_⟩⟩) (fun h1 => ⟨by show 5 ≤ sizeLine; decide, fun q hq => ⟨q, ["add", "add", "strike", "clear", "fresh"], rfl, hq, rfl, by decide, by decide, ?_⟩⟩)
        · have h2 : sortS f.many = "one" := by
            have := of_decide_eq_true h1
            exact V.str.inj this
          have : f.many = false := by
            cases e : f.many with
            | false => rfl
            | true =>
              rw [e] at h2
              exact absurd h2 (by decide)
          rw [this]
          decide
        · have : f.many = true := by
            cases e : f.many with
            | true => rfl
            | false =>
              rw [e] at h1
              exact absurd rfl (fun h => h1 (decide_eq_true h))
          rw [this]
          decide
      rintro _ _ ⟨q, zs, rfl, hq, rfl, z0, z1, hz⟩
      have e5 : Same H4 (upd H4 q (.lst (zs.map V.str))) := same_new (Same.refl H4) hq
      have qs := (h4.ne hq).1
      -- the deed
      refine ⟨_, rfl, _, rfl, s, c, q, ns, _, rfl, h4.keep e5, hl, qs, .inl (SqL.of upd_same), by rw [List.length_map]; exact z0, by rw [List.length_map]; omega, fun j2 v H6 hj2 e6 h6 => ?_⟩
      rw [List.getElem?_map] at hj2
      obtain ⟨z, hz2, rfl⟩ := Option.map_eq_some_iff.mp hj2
      have hzm := hz z (List.mem_of_getElem? hz2)
      have e46 : SameX s H3 H6 := (e4.trans (same_sx e5)).trans e6
      have a6 := e46 _ _ ea as
      have b6 := e46 _ _ eb bs
      have hal6 : Al (DeT K (Off a (Off s H6))) dvs ds := hal.mono fun _ _ h => DeT.keep (same_off e46.off) h
      have kp : ∀ {H' : Hp}, Same H6 H' → SameX s H H' ∧ StA H' s c ns ∧ Al (DeT K (Off a (Off s H'))) dvs ds := fun e => ⟨(e3.trans e46).trans (same_sx e), h6.keep e, hal6.mono fun _ _ h => DeT.keep (same_off (same_off e)) h⟩
      have dl : dvs.length < 1000 := by rw [hal.1]; omega
      have wl : (worded ds).length < 1000 := by
        have : (worded ds).length ≤ ds.length := by unfold worded; rw [List.length_map]; exact List.length_filter_le ..
        omega
      -- the test
      refine ⟨fun t H7 => Same H6 H7 ∧ (t = true → (z = "add" ∨ z = "strike") → f.nm ∉ worded ds), ?_, ?_⟩
      · refine ⟨_, rfl, by show 2 ≤ sizeLine; decide, fun p hp => ?_⟩
        have e7 : Same H6 (upd H6 p (.tup [.str "add", .str "strike"])) := same_new (Same.refl H6) hp
        refine ⟨p, _, rfl, .inr (SqT.of upd_same), rfl, rfl, _, rfl, ?_⟩
        rw [show ([.str "add", .str "strike"] : List V) = (["add", "strike"] : List Str).map V.str from rfl, inV_strs]
        refine ite2 (fun h1 => ⟨e7, fun _ h2 => ?_⟩) (fun h1 => ?_)
        · have hm : z ∈ (["add", "strike"] : List Str) := by rcases h2 with rfl | rfl <;> decide
          rw [decide_eq_true hm] at h1
          cases h1
        · refine ⟨_, rfl, _, rfl, b, _, rfl, .inl (SqL.of (e7 _ _ b6)), rfl, flat_strs _, ?_⟩
          rw [inV_strs]
          refine ⟨_, rfl, e7, fun h2 _ hm => ?_⟩
          rw [decide_eq_true hm] at h2
          cases h2
      rintro t H7 ⟨e7, ht⟩
      refine ite2 (fun h1 => ?_) (fun h1 => ?_)
      · refine ⟨_, rfl, _, rfl, by show 1 ≤ sizeLine; decide, fun p hp => ?_⟩
        refine ⟨_, rfl, by show 2 ≤ sizeLine; decide, fun p2 hp2 => ⟨p2, _, rfl, .inr (SqT.of upd_same), rfl, rfl, .inr ⟨_, rfl, ?_⟩⟩⟩
        rw [show ([.str "add", .str "strike"] : List V) = (["add", "strike"] : List Str).map V.str from rfl, inV_strs]
        have e8 : Same H6 (upd (upd H7 p (.lst [.str f.nm])) p2 (.tup ((["add", "strike"] : List Str).map V.str))) := same_new (same_new e7 hp) hp2
        have p8 : upd (upd H7 p (.lst [.str f.nm])) p2 (.tup ((["add", "strike"] : List Str).map V.str)) p = some (.lst [.str f.nm]) := by
          rw [upd_ne (Ne.symm (upd_none hp2).1), upd_same]
        obtain ⟨m, hm, m1, hw⟩ : ∃ m : Nat, (if (if false = true then !decide (z ∈ (["add", "strike"] : List Str)) else decide (z ∈ (["add", "strike"] : List Str))) = true then (1 : Int) else 0) = (m : Int) ∧ m ≤ 1 ∧ worded (ds ++ [(z, f.nm)]) = worded ds ++ List.replicate m f.nm := by
          rw [worded_snoc]
          by_cases q : z ∈ (["add", "strike"] : List Str)
          · refine ⟨1, by rw [decide_eq_true q]; rfl, Nat.le_refl _, ?_⟩
            rw [if_pos (by simpa using q)]
            rfl
          · refine ⟨0, by rw [decide_eq_false q]; rfl, by decide, ?_⟩
            rw [if_neg (by simpa using q)]
            rfl
        refine ⟨p, m, _, rfl, congrArg V.int hm, p8, by omega, by omega, ?_, fun p3 hp3 => ?_⟩
        · rw [Int.toNat_natCast]
          show 1 * m ≤ sizeLine
          exact Nat.le_trans (by omega : 1 * m ≤ 1) (by decide)
        rw [Int.toNat_natCast, rep_flat]
        have e9 := same_new e8 hp3 (o := .lst ((List.replicate m f.nm).map V.str))
        refine ⟨b, p3, _, _, rfl, rfl, e9 _ _ b6, upd_same, ?_, fun p4 hp4 => ?_⟩
        · rw [List.length_map, List.length_map, List.length_replicate]
          exact Nat.le_trans (by omega : (worded ds).length + m ≤ 1001) (by decide)
        rw [← List.map_append, ← hw]
        have e10 := same_new e9 hp4 (o := .lst ((worded (ds ++ [(z, f.nm)])).map V.str))
        refine ⟨_, rfl, .inl ⟨rfl, _, SqL.of (e10 _ _ a6)⟩, _, rfl, _, rfl, by show 2 ≤ sizeLine; decide, fun p5 hp5 => ?_⟩
        have e11 := same_new e10 hp5 (o := .tup [.str z, .str f.nm])
        refine ⟨a, _, _, rfl, rfl, e11 _ _ a6, Nat.lt_of_lt_of_le dl (by decide), ?_⟩
        obtain ⟨k1, k2, k3⟩ := kp e11
        have n4 := (h6.keep e9).ne hp4
        have n4a : p4 ≠ a := fun e => by rw [e, e9 _ _ a6] at hp4; cases hp4
        have n5 := (h6.keep e10).ne hp5
        have n5a : p5 ≠ a := fun e => by rw [e, e10 _ _ a6] at hp5; cases hp5
        refine ⟨k1.putN ha, k2.put as ac, ds ++ [(z, f.nm)], dvs ++ [.ref p5], p4, upd_same, ?_, n4.1, n4a, ?_, ?_, ?_, ?_, _, _, _, _, _, _, rfl⟩
        · rw [upd_ne n4a, upd_ne (fun e => by rw [← e, upd_same] at hp5; cases hp5), upd_same]
        · rw [off_upd as, off_put]
          exact k3.snoc (Tu.tup (by rw [off_ne n5a, off_ne n5.1, upd_same]; rfl))
        · rw [List.length_append]
          exact Nat.succ_le_succ hln
        · intro d' hd'
          rcases List.mem_append.mp hd' with h | h
          · exact hok d' h
          · obtain rfl := List.mem_singleton.mp h
            exact ⟨f, List.mem_of_getElem? hfj, rfl, hzm⟩
        · rw [worded_snoc]
          by_cases q : z = ("add" : Str) ∨ z = ("strike" : Str)
          · rw [if_pos q]
            exact List.nodup_append.mpr ⟨hnd, by simp, fun x hx y hy e => ht h1 q (by have e2 : y = f.nm := List.mem_singleton.mp hy; rw [← e2, ← e]; exact hx)⟩
          · rw [if_neg q, List.append_nil]
            exact hnd
      · obtain ⟨k1, k2, k3⟩ := kp e7
        exact ⟨k1, k2, ds, dvs, b, e7 _ _ a6, e7 _ _ b6, bs, ba, k3, Nat.le_succ_of_le hln, hok, hnd, _, _, _, _, _, _, rfl⟩
    · rintro σ H3 ⟨e3, h3, ds, dvs, b, ea, eb, bs, ba, hal, hln, hok, hnd, x5, x6, x7, x8, x9, x10, rfl⟩
      refine ⟨_, rfl, ?_⟩
      have hd' : ds.length ≤ d := hln
      exact k a ds dvs H3 ha ((off_ne as).trans ea) (hal.mono fun _ _ h => DeT.keep off_same h) (by omega) hok hnd e3 h3
end
end MK
set_option Elab.async false
set_option linter.all false
set_option autoImplicit false
set_option maxRecDepth 100000
set_option maxHeartbeats 4000000
namespace MK
open PySem PySem.Spec PyProof.Rows L2
local macro_rules | `(tactic| walk_at "x") => `(tactic| dsimp only [tSeq, tAsg, tRet, tDrop, tLst, tTup, tCons, tOp, tUn, tIfS])
abbrev s_call : Stmt := topS 77
theorem sc_call : FnScope ["_law_state", "_law_name", "_law_hand", "_law_fields", "_law_far", "_law_some", "_law_k", "_law_moves", "_law_x", "_law_lists", "_law_deeds_here"] ["_law_state", "_law_name", "_law_hand", "_law_fields", "_law_far"] (defScope s_call) := ⟨rfl, rfl, rfl, by decide +kernel, rfl, by decide +kernel, by decide +kernel⟩
def spCall (K : PySem.W.Frag) : Sp := fun vs H Q _ => ∃ (s c l : Addr) (ns : List Int) (nm hd : Str) (far : Nat) (fvs : List V) (fs : List FD), vs = [.ref s, .str nm, .str hd, .ref l, .int far] ∧ StA H s c ns ∧ ns.length ≤ 63 ∧ Off s H l = some (.lst fvs) ∧ Al (FdT K (Off s H)) fvs fs ∧ 0 < fs.length ∧ fs.length < 10 ∧
  (fs.map (·.nm)).Nodup ∧ 1 ≤ far ∧ far ≤ 4 ∧ wordB nm = true ∧ (hd = "self" ∨ hd = "new" ∨ hd = "last") ∧
  ∀ (v : V) (cd : CD) H', cd.nm = nm → cd.hand = hd → CdN K H (Off s H') v cd → CdOk fs far cd → SameX s H H' → StA H' s c ns → Q v H'
section
variable {P : Program} {w : World} {K : PySem.W.Frag} {mg : Str → Option Value} {base : Heap}
theorem ok_call {f : Addr} {fd : FuncData} (F : DefX K mg "_law_call" s_call ["_law_state", "_law_name", "_law_hand", "_law_fields", "_law_far"] f fd) (T : Txt K mg) (c_take : Cal P w K mg base CX0 2 "_law_take" spTake) (c_one : Cal P w K mg base CX0 3 "_law_one" (spOne K)) (c_deeds : Cal P w K mg base CX0 4 "_law_deeds" (spDeeds K)) : Cal P w K mg base CX0 5 "_law_call" (spCall K) := by
  refine cal_mk F sc_call (fun vs H Q E h => ?_) (fun cdv A outer sh H vs Q E hr h => ?_)
  · obtain ⟨s, c, l, ns, nm, hd, far, fvs, fs, rfl, _⟩ := h
    rfl
  · obtain ⟨s, c, l, ns, nm, hd, far, fvs, fs, rfl, h0, hl, hx, hfs, f0, f1, fnd, far0, far1, hw, hh, k⟩ := h
    refine ⟨_, (pss_cut (ps_set (i := 5) sc_call.nd rfl (Or.inr rfl) (pe_op op_cat (pe_op op_rep (pe_listRg rfl (by rfl) T.list (prg_1 (by rfl) T.range (pv 4))) pe_int) (pe_op op_rep (pe_lst (pa_cons (pe_un un_neg pe_int) pa_nil)) (pe_callTy call_int1 (by rfl) T.int (by decide +kernel) (pa_cons (pe_cmpR op_gt (pv 4) pe_int (nomark _)) pa_nil)))))
(pss_cut (ps_setLc (i := 7) (own := [("_law_k", 6)]) (g := (gName 6)) (tt := tYes) rfl sc_call.nd rfl rfl (sw_true rfl rfl rfl (by decide +kernel)) (pi_range1 (by rfl) T.range (pa_cons (pv 4) pa_nil)) (blkOk_by (own := [("_law_k", 6)]) (N := ["_law_state", "_law_name", "_law_hand", "_law_fields", "_law_far", "_law_some", "_law_k", "_law_moves", "_law_x", "_law_lists", "_law_deeds_here"]) (sc := defScope s_call) (by decide +kernel)) (fun _ _ _ _ _ => (pg_name (i := 6) sc_call.nd rfl (Or.inl rfl))) (fun _ _ _ _ _ => pts_nil) (fun _ _ _ _ _ => (pe_c c_one hr (by first | decide | assumption) rfl (pa_cons (pv 0) (pa_cons (pv 5) pa_nil)))))
(pss_cut (ps_setLc (i := 9) (own := [("_law_x", 8)]) (g := (gName 8)) rfl sc_call.nd rfl rfl (sw_true rfl rfl rfl (by decide +kernel)) (pi_list (pv 3)) (blkOk_by (own := [("_law_x", 8)]) (N := ["_law_state", "_law_name", "_law_hand", "_law_fields", "_law_far", "_law_some", "_law_k", "_law_moves", "_law_x", "_law_lists", "_law_deeds_here"]) (sc := defScope s_call) (by decide +kernel)) (fun _ _ _ _ _ => (pg_name (i := 8) sc_call.nd rfl (Or.inl rfl))) (fun _ _ _ _ _ => (pts_one (pt_cut (PW.pt (pw_and (pt_cmpR op_eq (pe_ix (ix_tupK (K := K) rfl) (pv 8) pe_int (fun _ _ => rfl)) pe_str (nomark _)) (pw_and1 (pt_cmpR op_eq (pe_c c_take hr (by first | decide | assumption) rfl (pa_cons (pv 0) (pa_cons pe_int pa_nil))) pe_int (nomark _)))))))) (fun _ _ _ _ _ => (pe_ix (ix_tupK (K := K) rfl) (pv 8) pe_int (fun _ _ => rfl))))
(pss_cons (ps_set (i := 10) sc_call.nd rfl (Or.inl rfl) (pe_c c_deeds hr (by first | decide | assumption) rfl (pa_cons (pv 0) (pa_cons (pv 3) (pa_cons (pe_c c_one hr (by first | decide | assumption) rfl (pa_cons (pv 0) (pa_cons (pe_lst (pa_cons pe_int (pa_cons pe_int (pa_cons pe_int (pa_cons pe_int pa_nil))))) pa_nil))) pa_nil)))))
(pss_one (ps_ret (pe_tup (pa_cons (pv 1) (pa_cons (pv 2) (pa_cons (pv 7) (pa_cons (pv 10) (pa_cons (pe_cut (pe_ifExp (pt_cmpR op_ne (pv 2) pe_str (nomark _)) (pv 9) (pe_lst pa_nil))) pa_nil)))))))))))), ?_⟩
    have ls : l ≠ s := fun e => by rw [e, off_s] at hx; cases hx
    have fl : fvs.length < 10 := by rw [hfs.1]; exact f1
    refine ⟨fun σ H5 => ∃ q5 x6 x7 x8 x9 x10, ∃ m : Nat, m ≤ 1 ∧ Same H H5 ∧ q5 ≠ s ∧ H5 q5 = some (.lst (smV (far : Int) m)) ∧ σ = [some (.ref s), some (.str nm), some (.str hd), some (.ref l), some (.int far), some (.ref q5), x6, x7, x8, x9, x10], ?_, ?_⟩
    · refine ⟨_, rfl, (far : Int), rfl, RgOk.of_le (by omega) (by omega) (by omega) (by omega), fun q hq => ?_⟩
      have e1 := same_new (Same.refl H) hq (o := .lst (rgV 0 (far : Int)))
      have rl : (rgV 0 (far : Int)).length = far := by rw [rgV_length, Int.sub_zero, Int.toNat_natCast]
      refine ⟨q, 3, _, rfl, rfl, upd_same, by decide, by decide, ?_, fun q2 hq2 => ?_⟩
      · rw [rl]
        exact Nat.le_trans (by show far * 3 ≤ 12; omega) (by decide)
      have e2 := same_new e1 hq2 (o := .lst (List.replicate 3 (rgV 0 (far : Int))).flatten)
      refine ⟨_, rfl, by show 1 ≤ sizeLine; decide, fun q3 hq3 => ?_⟩
      have e3 := same_new e2 hq3 (o := .lst [V.int (-1)])
      refine ⟨_, rfl, _, _, rfl, rfl, .inr ⟨_, rfl, ?_⟩⟩
      obtain ⟨m, hm, m1⟩ : ∃ m : Nat, (if decide ((far : Int) > 1) = true then (1 : Int) else 0) = (m : Int) ∧ m ≤ 1 := by
        by_cases q : (far : Int) > 1
        · exact ⟨1, by rw [decide_eq_true q]; rfl, Nat.le_refl _⟩
        · exact ⟨0, by rw [decide_eq_false q]; rfl, by decide⟩
      refine ⟨q3, m, _, rfl, congrArg V.int hm, upd_same, by omega, by omega, ?_, fun q4 hq4 => ?_⟩
      · rw [Int.toNat_natCast]
        exact Nat.le_trans (by show 1 * m ≤ 1; omega) (by decide)
      rw [Int.toNat_natCast]
      have e4 := same_new e3 hq4 (o := .lst (List.replicate m [V.int (-1)]).flatten)
      have z3 : q2 ≠ q3 := fun e => by rw [← e, upd_same] at hq3; cases hq3
      have z4 : q2 ≠ q4 := fun e => by rw [← e, upd_ne z3, upd_same] at hq4; cases hq4
      have sml := smV_len (far := (far : Int)) (m := m) (by omega)
      refine ⟨q2, q4, _, _, rfl, rfl, by rw [upd_ne z4, upd_ne z3, upd_same], upd_same, ?_, fun q5 hq5 => ?_⟩
      · have : (smV (far : Int) m).length ≤ sizeLine := Nat.le_trans (by omega : _ ≤ 13) (by decide)
        unfold smV at this
        rw [List.length_append] at this
        exact this
      exact ⟨q5, _, _, _, _, _, m, m1, same_new e4 hq5, ((h0.keep e4).ne hq5).1, upd_same, rfl⟩
    rintro _ H5 ⟨q5, x6, x7, x8, x9, x10, m, m1, e5, q5s, s5, rfl⟩
    have h5 := h0.keep e5
    have sml := smV_len (far := (far : Int)) (m := m) (by omega)
    have smm : ∀ x ∈ smV (far : Int) m, ∃ z : Int, x = .int z ∧ -1 ≤ z ∧ z < far := fun x h => smV_mem (by omega) h
    -- the moves
    refine ⟨fun σ H6 => ∃ (D : Addr) (ms : List Int) (x6 x8 x9 x10 : Option V), SameX s H H6 ∧ StA H6 s c ns ∧ D ≠ s ∧ H D = none ∧ H6 D = some (.lst (ms.map V.int)) ∧ ms.length = far ∧ (∀ z ∈ ms, -1 ≤ z ∧ z < far) ∧
      σ = [some (.ref s), some (.str nm), some (.str hd), some (.ref l), some (.int far), some (.ref q5), x6, some (.ref D), x8, x9, x10], ?_, ?_⟩
    · refine ⟨_, rfl, (far : Int), rfl, by omega, by omega, fun D hD => ?_⟩
      obtain ⟨Ds, Dc⟩ := h5.ne hD
      refine lc_it walk_range (fun i H6 => SameX s H H6 ∧ StA H6 s c ns ∧ H6 q5 = some (.lst (smV (far : Int) m)) ∧ ∃ ms : List Int, H6 D = some (.lst (ms.map V.int)) ∧ ms.length = i ∧ ∀ z ∈ ms, -1 ≤ z ∧ z < far)
        ⟨same_sx (same_new e5 hD), h5.put Ds Dc, same_new (Same.refl H5) hD _ _ s5, [], upd_same, rfl, nofun⟩ (fun _ _ _ _ => trivial) ?_ ?_
      · rintro i x H6' H6 hi ⟨e6, h6, s6, ms, hms, hlen, hz⟩ ⟨rfl, rfl⟩
        have hi4 : i < far := by
          have : i < (far : Int).toNat := hi
          omega
        refine ⟨rfl, ?_⟩
        refine ⟨_, rfl, _, rfl, s, c, q5, ns, _, rfl, h6, hl, q5s, .inl (SqL.of s6), by rw [sml]; omega, by rw [sml]; omega, fun d v H7 hd7 e7 h7 => ?_⟩
        obtain ⟨z, rfl, z0, z1⟩ := smm v (List.mem_of_getElem? hd7)
        refine ⟨_, e7 _ _ hms Ds, by rw [List.length_map]; exact Nat.lt_of_lt_of_le (by omega : ms.length < 4) (by decide), ?_⟩
        have q5D : q5 ≠ D := fun e => by rw [e, hD] at s5; cases s5
        refine ⟨(e6.trans e7).putN (none_of e5 hD), h7.put Ds Dc, (upd_ne q5D).trans (e7 _ _ s6 q5s), ms ++ [z], ?_, by rw [List.length_append, hlen]; rfl, ?_⟩
        · rw [upd_same, List.map_append]
          rfl
        · intro y hy
          rcases List.mem_append.mp hy with hy | hy
          · exact hz y hy
          · rw [List.mem_singleton.mp hy]
            exact ⟨z0, z1⟩
      · rintro H6 ⟨e6, h6, _, ms, hms, hlen, hz⟩
        exact ⟨D, ms, _, _, _, _, e6, h6, Ds, none_of e5 hD, hms, by rw [hlen]; exact Int.toNat_natCast far, hz, rfl⟩
    rintro _ H6 ⟨D, ms, x6, x8, x9, x10, e6, h6, Ds, Dn, hms, hml, hmz, rfl⟩
    -- the lists in common
    refine ⟨fun σ H7 => ∃ (D2 : Addr) (zs : List Str) (x6 x8 x10 : Option V), SameX s H H7 ∧ StA H7 s c ns ∧ D2 ≠ s ∧ H D2 = none ∧ H7 D = some (.lst (ms.map V.int)) ∧ H7 D2 = some (.lst (zs.map V.str)) ∧ zs.Nodup ∧ (∀ z ∈ zs, ∃ f ∈ fs, f.nm = z ∧ f.many = true) ∧
      σ = [some (.ref s), some (.str nm), some (.str hd), some (.ref l), some (.int far), some (.ref q5), x6, some (.ref D), x8, some (.ref D2), x10], ?_, ?_⟩
    · refine ⟨_, rfl, l, rfl, ⟨_, SqL.of (e6 _ _ (off_get hx) ls)⟩, fun D2 hD2 => ?_⟩
      obtain ⟨D2s, D2c⟩ := h6.ne hD2
      have D2D : D ≠ D2 := fun e => by rw [← e, hms] at hD2; cases hD2
      refine lc_list (K := K) (a := l) (xs := fvs) (fun i H7 => SameX s H6 H7 ∧ StA H7 s c ns ∧ ∃ zs : List Str, H7 D2 = some (.lst (zs.map V.str)) ∧ zs.length ≤ i ∧ zs.Sublist ((fs.take i).map (·.nm)) ∧ ∀ z ∈ zs, ∃ f ∈ fs, f.nm = z ∧ f.many = true)
        ⟨same_sx (same_new (Same.refl H6) hD2), h6.put D2s D2c, [], upd_same, Nat.le_refl _, List.nil_sublist _, nofun⟩ (fun i H7 _ h => SqL.of (h.1 _ _ (e6 _ _ (off_get hx) ls) ls)) ?_ ?_
      · rintro i v H7 hv7 ⟨e7, h7, zs, hzs, hzl, hsub, hzm⟩
        obtain ⟨f, hfi, hft⟩ := hfs.get hv7
        have il : i < fvs.length := (List.getElem?_eq_some_iff.mp hv7).1
        obtain ⟨u, rfl, hu0⟩ := FdT.keep (e6.trans e7).off hft
        have hu : SqT K H7 u (FdV f) := same_t off_same hu0
        refine ⟨rfl, ?_⟩
        refine ⟨fun t H8 => SameX s H7 H8 ∧ StA H8 s c ns ∧ (t = true → f.many = true), ?_, ?_⟩
        · refine ⟨_, rfl, u, _, 1, .str (sortS f.many), rfl, rfl, hu, rfl, rfl, _, rfl, ite2 (fun h1 => ?_) (fun h1 => ⟨SameX.refl s H7, h7, nofun⟩)⟩
          refine ⟨_, rfl, s, c, ns, 2, rfl, h7, hl, by decide, by decide, fun d H8 hd e8 h8 => ⟨rfl, _, rfl, e8, h8, fun _ => ?_⟩⟩
          cases e : f.many with
          | true => rfl
          | false =>
            rw [e] at h1
            exact absurd (V.str.inj (of_decide_eq_true h1)) (by decide)
        rintro t H8 ⟨e8, h8, ht⟩
        have fi : (fs.take (i + 1)).map (·.nm) = (fs.take i).map (·.nm) ++ [f.nm] := by
          rw [List.take_succ, hfi]
          simp
        refine ite2 (fun h1 => ?_) (fun h1 => ?_)
        · refine ⟨_, rfl, u, _, 0, .str f.nm, rfl, rfl, same_t off_same (same_t e8.off hu0), rfl, ?_⟩
          refine ⟨_, e8 _ _ hzs D2s, by rw [List.length_map]; exact Nat.lt_of_lt_of_le (by omega : zs.length < 10) (by decide), ?_⟩
          refine ⟨(e7.trans e8).putN hD2, h8.put D2s D2c, zs ++ [f.nm], ?_, by rw [List.length_append]; exact Nat.succ_le_succ hzl, ?_, ?_⟩
          · rw [upd_same, List.map_append]
            rfl
          · rw [fi]
            exact hsub.append (List.Sublist.refl _)
          · intro y hy
            rcases List.mem_append.mp hy with hy | hy
            · exact hzm y hy
            · rw [List.mem_singleton.mp hy]
              exact ⟨f, List.mem_of_getElem? hfi, rfl, ht h1⟩
        · refine ⟨e7.trans e8, h8, zs, e8 _ _ hzs D2s, Nat.le_succ_of_le hzl, ?_, hzm⟩
          rw [fi]
          exact hsub.trans (List.sublist_append_left _ _)
      · rintro H7 ⟨e7, h7, zs, hzs, hzl, hsub, hzm⟩
        refine ⟨D2, zs, _, _, _, e6.trans e7, h7, D2s, noneX e6 D2s hD2, e7 _ _ hms Ds, hzs, ?_, hzm, rfl⟩
        refine hsub.nodup (List.Nodup.sublist ?_ fnd)
        exact (List.take_sublist _ _).map _
    rintro _ H7 ⟨D2, zs, x6, x8, x10, e7, h7, D2s, D2n, hms7, hzs, hznd, hzm, rfl⟩
    -- the deeds
    refine ⟨_, rfl, _, rfl, _, rfl, by show 4 ≤ sizeLine; decide, fun b hb => ?_⟩
    have e8 := same_new (Same.refl H7) hb (o := .lst [.int 1, .int 2, .int 2, .int 4])
    refine ⟨s, c, b, ns, _, rfl, h7.keep e8, hl, (h7.ne hb).1, .inl (SqL.of upd_same), by decide, by decide, fun d v H8 hd8 e9 h8 => ?_⟩
    obtain ⟨n, rfl, n0, n1⟩ : ∃ n : Int, v = .int n ∧ 0 ≤ n ∧ n ≤ 4 := by
      have m := List.mem_of_getElem? hd8
      simp only [List.mem_cons, List.not_mem_nil, or_false] at m
      rcases m with rfl | rfl | rfl | rfl <;> exact ⟨_, rfl, by decide, by decide⟩
    have e78 := (same_sx (s := s) e8).trans e9
    have e08 := e7.trans e78
    refine ⟨s, c, l, ns, n, fvs, fs, rfl, h8, hl, ?_, hfs.mono fun _ _ h => FdT.keep e08.off h, f0, f1, n0, by omega, fun a ds dvs H9 ha hda hal hdl hdok hdnd e10 h9 => ?_⟩
    · rw [off_ne ls]
      exact e08 _ _ (off_get hx) ls
    have e79 := e78.trans e10
    -- what is handed
    refine ⟨_, rfl, _, rfl, _, rfl, _, rfl, ?_⟩
    refine ⟨fun v H10 => Same H9 H10 ∧ ∃ ys : List Str, LsN H (Off s H10) v (ys.map V.str) ∧ ys.Nodup ∧ (∀ z ∈ ys, ∃ f ∈ fs, f.nm = z ∧ f.many = true) ∧ (hd = "self" → ys = []), ?_, ?_⟩
    · refine ⟨_, rfl, rfl, _, rfl, ite2 (fun h1 => ?_) (fun h1 => ?_)⟩
      · refine ⟨_, rfl, Same.refl H9, zs, ⟨D2, rfl, D2n, ?_⟩, hznd, hzm, fun e => ?_⟩
        · rw [off_ne D2s]
          exact e79 _ _ hzs D2s
        · subst e
          exact absurd h1 (by decide)
      · refine ⟨by show 0 ≤ sizeLine; decide, fun p hp => ⟨same_new (Same.refl H9) hp, [], ⟨p, rfl, noneX (e08.trans e10) (h9.ne hp).1 hp, ?_⟩, List.nodup_nil, nofun, fun _ => rfl⟩⟩
        rw [off_ne (h9.ne hp).1, upd_same]
        rfl
    rintro v H10 ⟨e11, ys, hys, ynd, hym, hself⟩
    refine ⟨by show 5 ≤ sizeLine; decide, fun p hp => ?_⟩
    have e12 := same_new e11 hp (o := .tup [.str nm, .str hd, .ref D, .ref a, v])
    have ps := ((h9.keep e11).ne hp).1
    have e13 : Same (Off s H10) (Off s (upd H10 p (.tup [.str nm, .str hd, .ref D, .ref a, v]))) := same_off (same_new (Same.refl H10) hp)
    refine k (.ref p) ⟨nm, hd, ms, ds, ys⟩ _ rfl rfl ⟨.ref D, .ref a, v, dvs, Tu.tup ?_, ⟨D, rfl, Dn, ?_⟩, ⟨a, rfl, noneX e08 (h8.ne ha).1 ha, same_off e12 _ _ hda⟩, hal.mono fun _ _ h => DeT.keep (same_off e12) h, hys.keep e13⟩ ?_ (((e08.trans e10).trans (same_sx e12))) (h9.keep e12)
    · rw [off_ne ps, upd_same]
    · rw [off_ne Ds]
      exact e12 _ _ (e79 _ _ hms7 Ds)
    · exact ⟨hw, hh, hml, hmz, (by have : (ds.length : Int) ≤ 4 := Int.le_trans hdl n1; exact Int.ofNat_le.mp this), hdok, hdnd, hym, hself, ynd⟩
end
end MK
set_option Elab.async false
set_option linter.all false
set_option autoImplicit false
set_option maxRecDepth 100000
set_option maxHeartbeats 4000000
namespace MK
open PySem PySem.Spec PyProof.Rows L2
local macro_rules | `(tactic| walk_at "x") => `(tactic| dsimp only [tSeq, tAsg, tRet, tDrop, tLst, tTup, tCons, tOp, tUn, tIfS])
abbrev s_plan : Stmt := topS 73
theorem sc_plan : FnScope ["_law_fields", "_law_calls", "_law_far"] ["_law_fields", "_law_calls", "_law_far"] (defScope s_plan) := ⟨rfl, rfl, rfl, by decide +kernel, rfl, by decide +kernel, by decide +kernel⟩
structure KMk (P : Program) (w : World) (K : PySem.W.Frag) (mg : Str → Option Value) (base : Heap) (KC : Addr) : Prop where
  ex : ∃ (f : Addr) (fd : FuncData), Mk K KC f ∧ FnOk P w K mg base CX0 6 f fd ["self", "fields", "calls", "modes"] (spKInit K KC) ∧ KBn K fd ["self", "fields", "calls", "modes"] 3 ["modes"] (fun us ws => us ++ ws) (fun vs zs => vs ++ zs)
  g : mg "Kind" = some (.ref KC)
theorem pe_kind {X : Cx} {KC : Addr} {j : Nat} {p pos : Pos} {e : Expr} {es : List Expr} {kws : List Keyword} {t tk : TA} (c : KMk X.prog X.w X.K X.mg X.base KC) (hr : Room j X.A) (hk : 7 ≤ j) (hg : Gl X "Kind") (ha : PA X (e :: es) t) (hkw : PK X kws tk)
    (hall : (backToKw pos (keywordEach kws X.env)).all (·.1.isSome) = true := by rfl) (hks : (backToKw pos (keywordEach kws X.env)).filterMap (·.1) = (["modes"] : List Str) := by rfl)
    (he : starEach (e :: es) X.env = (false, eval e X.env) :: starEach es X.env := by rfl) (hpl : ((backTo pos (starEach (e :: es) X.env)).any (·.1) || (backToKw pos (keywordEach kws X.env)).any (·.1.isNone)) = false := by rfl) :
    PE X (.Call (.Name "Kind" p) (e :: es) kws pos) (tCutE (tMakeK KC 2 1 (spKInit X.K KC) (fun vs zs => vs ++ zs) E0 t tk)) := by
  obtain ⟨f, fd, M, F, hb⟩ := c.ex
  exact pe_cut <| pe_makeK (n := 2) M F (hr.mono hk) hg c.g hb pass0 ha hkw hall hks (by decide) he hpl
theorem rd_kind {K : PySem.W.Frag} {KC s : Addr} {H : Hp} {fv cv : V} {n : Nat} {fvs cvs : List V} {fs : List FD} {cs : List CD} {Q : VK} {E : XK} (hs : H s ≠ none) (hf : Sq K (Off s H) fv fvs) (hfs : Al (FdA K (Off s H)) fvs fs) (hc : Sq K (Off s H) cv cvs) (hcs : Al (CdA K (Off s H)) cvs cs) (ok : KdOk fs n cs)
    (q : ∀ v H', Same H H' → KdA K KC (Off s H') v fs n cs → Q v H') : ∀ x dx, H x = none → H dx = none → dx ≠ x → spKInit K KC (.ref x :: ([fv, cv] ++ [.int n])) (upd (upd H dx (.own x)) x (.ins KC dx [])) (fun v H3 => v = .non ∧ Q (.ref x) H3) E := by
  intro x dx hx hd ne
  have xs : x ≠ s := fun e => hs (e ▸ hx)
  have ds : dx ≠ s := fun e => hs (e ▸ hd)
  have b : Same (Off s H) (Off x (Off s (upd (upd H dx (.own x)) x (.ins KC dx [])))) := by
    rw [off_upd xs, off_put]
    exact same_offN (same_off (same_new (Same.refl H) hd)) (off_none hx)
  refine ⟨s, x, dx, fv, cv, n, fvs, cvs, fs, cs, rfl, xs, ?_, upd_same, hf.keep b, hfs.mono fun _ _ h => FdA.keep b h, hc.keep b, hcs.mono fun _ _ h => CdA.keep b h, ok, fun H' e kd => ⟨rfl, q _ _ (fun a o ha => ?_) kd⟩⟩
  · rw [upd_ne (Ne.symm xs), upd_ne (Ne.symm ds)]
    exact hs
  · refine e a o ?_ (fun z => by rw [z, hx] at ha; cases ha)
    rw [upd_ne (fun z => by rw [z, hx] at ha; cases ha), upd_ne (fun z => by rw [z, hd] at ha; cases ha)]
    exact ha
theorem rd_kindM {K : PySem.W.Frag} {KC s : Addr} {H : Hp} {fv cv : V} {n : Nat} {fvs cvs : List V} {fs : List FD} {cs : List CD} {E : XK} (hs : H s ≠ none) (hf : Sq K (Off s H) fv fvs) (hfs : Al (FdA K (Off s H)) fvs fs) (hc : Sq K (Off s H) cv cvs) (hcs : Al (CdA K (Off s H)) cvs cs) (ok : KdOk fs n cs) :
    ∀ x dx, H x = none → H dx = none → dx ≠ x → spKInit K KC (.ref x :: ([fv, cv] ++ [.int n])) (upd (upd H dx (.own x)) x (.ins KC dx [])) (fun v H3 => v = .non ∧ Same H H3 ∧ KdA K KC (Off s H3) (.ref x) fs n cs) E :=
  rd_kind (Q := fun v H' => Same H H' ∧ KdA K KC (Off s H') v fs n cs) hs hf hfs hc hcs ok fun _ _ e k => ⟨e, k⟩
theorem KdA.off {K : PySem.W.Frag} {KC p : Addr} {H : Hp} {v : V} {fs : List FD} {n : Nat} {cs : List CD} (h : KdA K KC H v fs n cs) (hp : H p = some (.dK [])) (f0 : 0 < fs.length) (c0 : 0 < cs.length) : KdA K KC (Off p H) v fs n cs := by
  obtain ⟨x, dx, so, sp, tb, t, st, tv, sv, h0, h1, h2, h3, h4, h5, h6, h7, h8⟩ := h
  have full : ∀ {a : Addr} {kvs : List (Key × V)}, H a = some (.dK kvs) → 0 < kvs.length → Off p H a = some (.dK kvs) := fun {a kvs} ha hl => by
    rw [off_ne (fun e => by
      rw [e, hp] at ha
      have := HO.dK.inj (Option.some.inj ha)
      rw [← this] at hl
      cases hl)]
    exact ha
  refine ⟨x, dx, so, sp, tb, t, st, tv, sv, h0, ?_, h2.off hp no_dK, h3.mono fun _ _ h => Tu.off h hp no_dK, full h4 (by rw [sorts_len]; exact f0), full h5 (by rw [spots_len]; exact f0), h6.off hp no_dK, h7.mono fun _ _ h => CdT.off h hp no_dK, full h8 (by rw [table_len h7.1]; exact c0)⟩
  rw [off_ne (fun e => by rw [e, hp] at h1; cases h1)]
  exact h1
/-- what the law holds of a kind -/
def planV (l1 l2 : Addr) (n : Nat) (kv : V) : List (Key × V) := [(.inr "fields", .ref l1), (.inr "calls", .ref l2), (.inr "modes", .int n), (.inr "known", kv)]
def PlanA (K : PySem.W.Frag) (KC : Addr) (H : Hp) (v : V) (fs : List FD) (n : Nat) (cs : List CD) : Prop := ∃ (p l1 l2 : Addr) (kv : V) (fvs cvs : List V), v = .ref p ∧ H p = some (.dK (planV l1 l2 n kv)) ∧ H l1 = some (.lst fvs) ∧ Al (FdT K H) fvs fs ∧ H l2 = some (.lst cvs) ∧ Al (CdL K H) cvs cs ∧
  KdA K KC H kv fs n cs
theorem PlanA.keep {K : PySem.W.Frag} {KC : Addr} {H H' : Hp} {v : V} {fs : List FD} {n : Nat} {cs : List CD} (e : Same H H') (h : PlanA K KC H v fs n cs) : PlanA K KC H' v fs n cs := by
  obtain ⟨p, l1, l2, kv, fvs, cvs, h0, h1, h2, h3, h4, h5, h6⟩ := h
  exact ⟨p, l1, l2, kv, fvs, cvs, h0, e _ _ h1, e _ _ h2, h3.mono fun _ _ h => FdT.keep e h, e _ _ h4, h5.mono fun _ _ h => CdL.keep e h, h6.keep e⟩
def spPlan (K : PySem.W.Frag) (KC : Addr) : Sp := fun vs H Q _ => ∃ (s l1 l2 : Addr) (n : Nat) (fvs cvs : List V) (fs : List FD) (cs : List CD), vs = [.ref l1, .ref l2, .int n] ∧ H s ≠ none ∧ Off s H l1 = some (.lst fvs) ∧ Al (FdT K (Off s H)) fvs fs ∧ Off s H l2 = some (.lst cvs) ∧ Al (CdL K (Off s H)) cvs cs ∧ KdOk fs n cs ∧
  ∀ v H', Same H H' → PlanA K KC (Off s H') v fs n cs → Q v H'
section
variable {P : Program} {w : World} {K : PySem.W.Frag} {mg : Str → Option Value} {base : Heap} {C : Cst} {KC : Addr}
theorem ok_plan {f : Addr} {fd : FuncData} (F : DefX K mg "_law_plan" s_plan ["_law_fields", "_law_calls", "_law_far"] f fd) (T : Txt K mg) (c_Kind : KMk P w K mg base KC) : Cal P w K mg base CX0 8 "_law_plan" (spPlan K KC) := by
  refine cal_mk F sc_plan (fun vs H Q E h => ?_) (fun cdv A outer sh H vs Q E hr h => ?_)
  · obtain ⟨s, l1, l2, n, fvs, cvs, fs, cs, rfl, _⟩ := h
    rfl
  · obtain ⟨s, l1, l2, n, fvs, cvs, fs, cs, rfl, hs, h1, hfs, h2, hcs, ok, k⟩ := h
    refine ⟨_, (pss_one (ps_ret (pe_disp (pps_cons pe_str (pv 0) (pps_cons pe_str (pv 1) (pps_cons pe_str (pv 2) (pps_cons pe_str (pe_kind c_Kind hr (by first | decide | assumption) rfl (pa_cons (pv 0) (pa_cons (pv 1) pa_nil)) (pk_cons (pv 2) pk_nil)) pps_nil)))) (by rfl) (by rfl) (fun z => by cases z) (by decide)))), ?_⟩
    intro p hp
    have e1 : Same H (upd H p (.dK [])) := same_new (Same.refl H) hp
    have ps : p ≠ s := ne_s hs (Same.refl H) hp
    have b1 := same_off (s := s) e1
    refine ⟨_, rfl, _, rfl, _, rfl, fun v H3 => Same (upd H p (.dK [])) H3 ∧ KdA K KC (Off s H3) v fs n cs, ⟨_, rfl, _, rfl, _, rfl, rfl, rfl, rd_kindM (s := s) (kept_s hs e1) (Ls.sq ⟨l1, rfl, b1 _ _ h1⟩) (hfs.mono fun _ _ h => FdT.a (FdT.keep b1 h)) (Ls.sq ⟨l2, rfl, b1 _ _ h2⟩) (hcs.mono fun _ _ h => CdL.a (CdL.keep b1 h)) ok⟩, ?_⟩
    rintro v H3 ⟨e3, kd⟩
    refine ⟨e3 _ _ upd_same, planV l1 l2 n v, rfl, by show 4 ≤ 15; decide, ?_⟩
    rw [show mergeK [] (planV l1 l2 n v) = planV l1 l2 n v from rfl]
    have pv := off_ne (s := s) (H := H3) ps
    have kd2 : KdA K KC (Off p (Off s H3)) v fs n cs := kd.off (pv.trans (e3 _ _ upd_same)) ok.fields.pos ok.cpos
    have b2 : Same (Off p (Off s H3)) (Off s (upd H3 p (.dK (planV l1 l2 n v)))) := by
      refine Same.trans (H1 := Off p (Off s (upd H3 p (.dK (planV l1 l2 n v))))) ?_ off_same
      rw [off_upd ps, off_put]
      exact fun _ _ h => h
    have b3 : Same (Off s H) (Off s (upd H3 p (.dK (planV l1 l2 n v)))) := by
      refine Same.trans (H1 := Off p (Off s H3)) (same_offN (same_off (e1.trans e3)) (off_none hp)) b2
    refine k _ _ (fun a o ha => ?_) ⟨p, l1, l2, v, fvs, cvs, rfl, ?_, b3 _ _ h1, hfs.mono fun _ _ h => FdT.keep b3 h, b3 _ _ h2, hcs.mono fun _ _ h => CdL.keep b3 h, kd2.keep b2⟩
    · rw [upd_ne (ne_of_none ha hp)]
      exact e3 _ _ (e1 _ _ ha)
    · rw [off_ne ps, upd_same]
end
end MK
set_option Elab.async false
set_option linter.all false
set_option autoImplicit false
set_option maxRecDepth 100000
set_option maxHeartbeats 4000000
namespace MK
open PySem PySem.Spec PyProof.Rows L2
local macro_rules | `(tactic| walk_at "x") => `(tactic| dsimp only [tSeq, tAsg, tRet, tDrop, tLst, tTup, tCons, tOp, tUn, tIfS])
abbrev s_kind : Stmt := topS 78
theorem sc_kind : FnScope ["_law_state", "_law_wide", "_law_many", "_law_far", "_law_fields", "_law_names", "_law_k", "_law_top", "_law_calls", "_law_name"] ["_law_state", "_law_wide", "_law_many", "_law_far"] (defScope s_kind) := ⟨rfl, rfl, rfl, by decide +kernel, rfl, by decide +kernel, by decide +kernel⟩
def fieldNames : List Str := ["a", "need", "many", "do", "quantity"]
def callNames : List Str := ["add", "put", "cut", "make", "jqzxvkgw"]
def spLawKind (K : PySem.W.Frag) (KC : Addr) : Sp := fun vs H Q _ => ∃ (s c : Addr) (ns : List Int) (wide many far : Nat), vs = [.ref s, .int wide, .int many, .int far] ∧ StA H s c ns ∧ ns.length ≤ 63 ∧ 1 ≤ wide ∧ wide ≤ 3 ∧ 2 ≤ many ∧ many ≤ 6 ∧ 1 ≤ far ∧ far ≤ 3 ∧
  ∀ v H' fs n cs, SameX s H H' → StA H' s c ns → KdOk fs n cs → fs.length ≤ wide → (∀ f ∈ fs, f.nm ∈ fieldNames) → n ≤ far → (∃ j, j < many ∧ cs.map (·.nm) = callNames.take j ++ (["build"] : List Str)) → (∃ cs' b, cs = cs' ++ [b] ∧ b.hand = ("last" : Str)) → PlanA K KC (Off s H') v fs n cs → Q v H'
section
variable {P : Program} {w : World} {K : PySem.W.Frag} {mg : Str → Option Value} {base : Heap} {C : Cst} {KC : Addr}
theorem ok_kind {f : Addr} {fd : FuncData} (F : DefX K mg "_law_kind" s_kind ["_law_state", "_law_wide", "_law_many", "_law_far"] f fd) (T : Txt K mg) (c_take : Cal P w K mg base CX0 2 "_law_take" spTake) (c_one : Cal P w K mg base CX0 3 "_law_one" (spOne K)) (c_mix : Cal P w K mg base CX0 3 "_law_mix" (spMix K))
    (c_call : Cal P w K mg base CX0 5 "_law_call" (spCall K)) (c_plan : Cal P w K mg base CX0 8 "_law_plan" (spPlan K KC)) : Cal P w K mg base CX0 9 "_law_kind" (spLawKind K KC) := by
  refine cal_mk F sc_kind (fun vs H Q E h => ?_) (fun cdv A outer sh H vs Q E hr h => ?_)
  · obtain ⟨s, c, ns, wide, many, far, rfl, _⟩ := h
    rfl
  · obtain ⟨s, c, ns, wide, many, far, rfl, h0, hl, w1, w3, m2, m6, f1, f3, k⟩ := h
    refine ⟨_, (pss_cons (ps_par (i := 4) (j := 5) (by rfl) sc_kind.nd rfl rfl (by decide) rfl rfl (pa_cons (pe_lst pa_nil) (pa_cons (pe_c c_mix hr (by first | decide | assumption) rfl (pa_cons (pv 0) (pa_cons (pe_lst (pa_cons pe_str (pa_cons pe_str (pa_cons pe_str (pa_cons pe_str (pa_cons pe_str pa_nil)))))) pa_nil))) pa_nil)) (by rfl))
(pss_cons (ps_for PassesOwn.never rfl (pi_range1 (by rfl) T.range (pa_cons (pe_op op_add pe_int (pe_c c_take hr (by first | decide | assumption) rfl (pa_cons (pv 0) (pa_cons (pv 1) pa_nil)))) pa_nil)) (pg_name (i := 6) sc_kind.nd rfl (Or.inl rfl))
(pss_one (ps_expr (pe_bm PySem.F.plainAttrs_list PySem.F.slot_list_append PySem.F.type_list_append mt_append (pv 4) (pa_cons (pe_tup (pa_cons (pe_ix ix_list (pv 5) (pv 6) (fun _ _ => rfl)) (pa_cons (pe_c c_one hr (by first | decide | assumption) rfl (pa_cons (pv 0) (pa_cons (pe_lst (pa_cons pe_str (pa_cons pe_str (pa_cons pe_str pa_nil)))) pa_nil))) (pa_cons (pe_cmpR op_eq (pe_c c_take hr (by first | decide | assumption) rfl (pa_cons (pv 0) (pa_cons pe_int pa_nil))) pe_int (nomark _)) pa_nil)))) pa_nil)))))
(pss_cons (ps_par (i := 7) (j := 8) (by rfl) sc_kind.nd rfl rfl (by decide) rfl rfl (pa_cons (pe_op op_add pe_int (pe_c c_take hr (by first | decide | assumption) rfl (pa_cons (pv 0) (pa_cons (pv 3) pa_nil)))) (pa_cons (pe_lst pa_nil) pa_nil)) (by rfl))
(pss_cons (ps_for PassesOwn.never rfl (pi_list (pe_slice sl_list (pe_lst (pa_cons pe_str (pa_cons pe_str (pa_cons pe_str (pa_cons pe_str (pa_cons pe_str pa_nil)))))) po_none (po_some (pe_op op_add pe_int (pe_c c_take hr (by first | decide | assumption) rfl (pa_cons (pv 0) (pa_cons (pe_op op_sub (pv 2) pe_int) pa_nil))))))) (pg_name (i := 9) sc_kind.nd rfl (Or.inl rfl))
(pss_one (ps_expr (pe_bm PySem.F.plainAttrs_list PySem.F.slot_list_append PySem.F.type_list_append mt_append (pv 8) (pa_cons (pe_c c_call hr (by first | decide | assumption) rfl (pa_cons (pv 0) (pa_cons (pv 9) (pa_cons (pe_c c_one hr (by first | decide | assumption) rfl (pa_cons (pv 0) (pa_cons (pe_lst (pa_cons pe_str (pa_cons pe_str (pa_cons pe_str (pa_cons pe_str (pa_cons pe_str pa_nil)))))) pa_nil))) (pa_cons (pv 4) (pa_cons (pv 7) pa_nil)))))) pa_nil)))))
(pss_cons (ps_expr (pe_bm PySem.F.plainAttrs_list PySem.F.slot_list_append PySem.F.type_list_append mt_append (pv 8) (pa_cons (pe_c c_call hr (by first | decide | assumption) rfl (pa_cons (pv 0) (pa_cons pe_str (pa_cons pe_str (pa_cons (pv 4) (pa_cons (pv 7) pa_nil)))))) pa_nil)))
(pss_one (ps_ret (pe_c c_plan hr (by first | decide | assumption) rfl (pa_cons (pv 4) (pa_cons (pv 8) (pa_cons (pv 7) pa_nil))))))))))), ?_⟩
    refine ⟨by show 0 ≤ sizeLine; decide, fun fa hfa => ?_⟩
    have e1 := same_new (Same.refl H) hfa (o := .lst [])
    have h1 := h0.keep e1
    obtain ⟨fas, fac⟩ := h0.ne hfa
    refine ⟨_, rfl, by show 5 ≤ sizeLine; decide, fun q hq => ?_⟩
    have e2 := same_new e1 hq (o := .lst (fieldNames.map V.str))
    have h2 := h0.keep e2
    refine ⟨s, c, q, ns, fieldNames, rfl, h2, hl, SqL.of upd_same, by decide, by decide +kernel, fun an ys H3 hp han hys e3 h3 => ⟨_, _, rfl, ?_⟩⟩
    have e03 : SameX s H H3 := (same_sx e2).trans e3
    have fq : fa ≠ q := fun e => by rw [← e, upd_same] at hq; cases hq
    have fan : fa ≠ an := fun e => by rw [← e, upd_ne fq, upd_same] at han; cases han
    have ans : an ≠ s := (h2.ne han).1
    have fa3 : H3 fa = some (.lst []) := e3 _ _ ((upd_ne fq).trans upd_same) fas
    -- the fields
    refine ⟨_, rfl, _, rfl, s, c, ns, wide, rfl, h3, hl, by omega, by omega, fun d H4 hd e4 h4 => ?_⟩
    refine ⟨_, _, rfl, rfl, _, rfl, by omega, by omega, ?_⟩
    refine for_it walk_range (fun i σ H2 => SameX s H H2 ∧ StA H2 s c ns ∧ H2 an = some (.lst (ys.map V.str)) ∧ ∃ (fs : List FD) (fvs : List V), H2 fa = some (.lst fvs) ∧ Al (FdT K (Off fa (Off s H2))) fvs fs ∧ fs.map (·.nm) = ys.take i ∧
      ∃ x6 x7 x8 x9, σ = [some (.ref s), some (.int wide), some (.int many), some (.int far), some (.ref fa), some (.ref an), x6, x7, x8, x9])
      ⟨e03.trans e4, h4, e4 _ _ hys ans, [], [], e4 _ _ fa3 fas, Al.nil, rfl, none, none, none, none, rfl⟩ (fun _ _ _ _ _ => trivial) ?_ ?_
    · rintro i x σ H5' H5 hi ⟨e5, h5, an5, fs, fvs, fa5, al, hnm, x6, x7, x8, x9, rfl⟩ ⟨rfl, rfl⟩
      have yl : ys.length = 5 := hp.length_eq
      have hi5 : i < 5 := by
        have : i < (1 + (d : Int)).toNat := hi
        omega
      have hiy : i < ys.length := by omega
      have fl : fs.length ≤ 5 := by
        have := congrArg List.length hnm
        rw [List.length_map, List.length_take] at this
        omega
      refine ⟨_, rfl, .inl ⟨rfl, _, SqL.of fa5⟩, _, rfl, _, rfl, an, _, _, .str ys[i], rfl, rfl, SqL.of an5, ?_, ?_⟩
      · rw [Int.zero_add]
        exact atI_nat (by rw [List.getElem?_map, List.getElem?_eq_getElem hiy]; rfl)
      refine ⟨_, rfl, by show 3 ≤ sizeLine; decide, fun q2 hq2 => ?_⟩
      have e6 := same_new (Same.refl H5) hq2 (o := .lst [.str "many", .str "many", .str "one"])
      refine ⟨s, c, q2, ns, _, rfl, h5.keep e6, hl, (h5.ne hq2).1, .inl (SqL.of upd_same), by decide, by decide, fun d2 v H7 hd7 e7 h7 => ?_⟩
      obtain ⟨b, rfl⟩ : ∃ b : Bool, v = .str (sortS b) := by
        have m := List.mem_of_getElem? hd7
        simp only [List.mem_cons, List.not_mem_nil, or_false] at m
        rcases m with rfl | rfl | rfl
        · exact ⟨true, rfl⟩
        · exact ⟨true, rfl⟩
        · exact ⟨false, rfl⟩
      refine ⟨_, rfl, s, c, ns, 2, rfl, h7, hl, by decide, by decide, fun d3 H8 _ e8 h8 => ⟨rfl, ?_⟩⟩
      refine ⟨by show 3 ≤ sizeLine; decide, fun p hp8 => ?_⟩
      have e58 : SameX s H5 H8 := ((same_sx e6).trans e7).trans e8
      have fa8 := e58 _ _ fa5 fas
      have ps := (h8.ne hp8).1
      have pfa : p ≠ fa := fun e => by rw [e, fa8] at hp8; cases hp8
      have pan : p ≠ an := fun e => by rw [e, e58 _ _ an5 ans] at hp8; cases hp8
      refine ⟨fa, _, _, rfl, rfl, (upd_ne (Ne.symm pfa)).trans fa8, by rw [al.1]; exact Nat.lt_of_le_of_lt fl (by decide), ?_⟩
      refine ⟨((e5.trans e58).trans (same_sx (same_new (Same.refl H8) hp8))).putN hfa, (h8.keep (same_new (Same.refl H8) hp8)).put fas fac, ?_, fs ++ [⟨ys[i], b, decide (V.int d3 = V.int 0)⟩], _, upd_same, ?_, ?_, _, _, _, _, rfl⟩
      · rw [upd_ne (Ne.symm fan), upd_ne (Ne.symm pan)]
        exact e58 _ _ an5 ans
      · rw [off_upd fas, off_put]
        have e9 : Same (Off fa (Off s H5)) (Off fa (Off s (upd H8 p (.tup [.str ys[i], .str (sortS b), .bl (decide (V.int d3 = V.int 0))])))) := same_off ((e58.trans (same_sx (same_new (Same.refl H8) hp8))).off)
        exact (al.mono fun _ _ h => FdT.keep e9 h).snoc (Tu.tup (by rw [off_ne pfa, off_ne ps, upd_same]; rfl))
      · rw [List.map_append, hnm, List.take_succ, List.getElem?_eq_getElem hiy]
        rfl
    rintro σ H5 ⟨e5, h5, _, fs, fvs, fa5, al, hnm, x6, x7, x8, x9, rfl⟩
    have yl : ys.length = 5 := hp.length_eq
    have dl : d < 3 := by omega
    have fsl : fs.length = d + 1 := by
      have := congrArg List.length hnm
      rw [List.length_map, List.length_take] at this
      omega
    have ynd : ys.Nodup := hp.nodup_iff.mpr (by decide +kernel)
    have hfn : ∀ f ∈ fs, f.nm ∈ fieldNames := fun f hf => by
      have m : f.nm ∈ fs.map (·.nm) := List.mem_map_of_mem hf
      rw [hnm] at m
      exact hp.mem_iff.mp (List.mem_of_mem_take m)
    have fok : FsOk fs := ⟨by omega, by omega, fun f hf => (by decide +kernel : ∀ z ∈ fieldNames, wordB z = true) _ (hfn f hf), by rw [hnm]; exact ynd.sublist (List.take_sublist _ _)⟩
    have al5 : Al (FdT K (Off s H5)) fvs fs := al.mono fun _ _ h => FdT.keep off_same h
    refine ⟨_, rfl, _, rfl, s, c, ns, far, rfl, h5, hl, by omega, by omega, fun d2 H6 hd2 e6 h6 => ⟨_, _, rfl, rfl, by show 0 ≤ sizeLine; decide, fun ca hca => ⟨_, _, rfl, ?_⟩⟩⟩
    obtain ⟨cas, cac⟩ := h6.ne hca
    have e7 := same_new (Same.refl H6) hca (o := .lst [])
    -- the calls
    refine ⟨by show 5 ≤ sizeLine; decide, fun q3 hq3 => ?_⟩
    have e8 := same_new e7 hq3 (o := .lst (callNames.map V.str))
    refine ⟨_, rfl, _, rfl, _, _, rfl, rfl, s, c, ns, (many : Int) - 1, rfl, h6.keep e8, hl, by omega, by omega, fun d4 H9 hd4 e9 h9 => ?_⟩
    have e79 : SameX s H6 H9 := (same_sx e8).trans e9
    have caq : ca ≠ q3 := fun e => by rw [← e, upd_same] at hq3; cases hq3
    have ca9 : H9 ca = some (.lst []) := e9 _ _ ((upd_ne caq).trans upd_same) cas
    have qs : q3 ≠ s := ((h6.keep e7).ne hq3).1
    refine ⟨_, _, rfl, rfl, _, rfl, q3, _, rfl, SqL.of (e9 _ _ upd_same qs), fun q4 hq4 => ?_⟩
    obtain ⟨q4s, q4c⟩ := h9.ne hq4
    have ca4 : ca ≠ q4 := fun e => by rw [← e, ca9] at hq4; cases hq4
    have cut : cutV (callNames.map V.str) none (some (1 + (d4 : Int))) = (callNames.take (d4 + 1)).map V.str := by
      have e : HT.sIx (callNames.map V.str).length (callNames.map V.str).length (some (1 + (d4 : Int))) = min (1 + d4) (callNames.map V.str).length := by
        rw [show (1 + (d4 : Int)) = ((1 + d4 : Nat) : Int) by omega]
        exact HT.sIx_nat _ _ _
      unfold cutV
      rw [HT.sIx_none, e, List.drop_zero, Nat.sub_zero, show min (1 + d4) (callNames.map V.str).length = d4 + 1 from (by show min (1 + d4) 5 = d4 + 1; omega), List.map_take]
    have e10 : Same H9 (upd H9 q4 (.lst (cutV (callNames.map V.str) none (some (1 + (d4 : Int)))))) := same_new (Same.refl H9) hq4
    have e610 := e79.trans (same_sx e10)
    have e510 := e6.trans e610
    refine ⟨q4, rfl, ⟨_, SqL.of upd_same⟩, ?_⟩
    refine for_list (K := K) (a := q4) (xs := (callNames.take (d4 + 1)).map V.str) (fun i σ H2 => SameX s H5 H2 ∧ StA H2 s c ns ∧ H2 q4 = some (.lst ((callNames.take (d4 + 1)).map V.str)) ∧ ∃ (cs : List CD) (cvs : List V), H2 ca = some (.lst cvs) ∧
      Al (CdL K (Off ca (Off s H2))) cvs cs ∧ (∀ c ∈ cs, CdOk fs (d2 + 1) c) ∧ cs.map (·.nm) = (callNames.take (d4 + 1)).take i ∧ ∃ x6 x9, σ = [some (.ref s), some (.int wide), some (.int many), some (.int far), some (.ref fa), some (.ref an), x6, some (.int ((d2 + 1 : Nat) : Int)), some (.ref ca), x9])
      ⟨e510, h9.keep e10, (by rw [upd_same]; exact congrArg (fun l => some (HO.lst l)) cut), [], [], (upd_ne ca4).trans ca9, Al.nil, nofun, rfl, _, _, (by rw [show ((d2 + 1 : Nat) : Int) = 1 + (d2 : Int) by omega]; rfl)⟩ (fun i σ H2 _ h => SqL.of h.2.2.1) ?_ ?_
    · rintro i x σ H2 hx' ⟨e2, h2, q42, cs, cvs, ca2, al, cok, hnm, x6, x9, rfl⟩
      rw [List.getElem?_map] at hx'
      obtain ⟨z, hz, rfl⟩ := Option.map_eq_some_iff.mp hx'
      have zm : z ∈ callNames := List.mem_of_mem_take (List.mem_of_getElem? hz)
      have cl : cs.length ≤ 5 := by
        have := congrArg List.length hnm
        rw [List.length_map, List.length_take, List.length_take] at this
        have : callNames.length = 5 := rfl
        omega
      refine ⟨_, rfl, .inl ⟨rfl, _, SqL.of ca2⟩, _, rfl, _, rfl, _, rfl, by show 5 ≤ sizeLine; decide, fun q5 hq5 => ?_⟩
      have e3 := same_new (Same.refl H2) hq5 (o := .lst [.str "self", .str "new", .str "self", .str "new", .str "last"])
      refine ⟨s, c, q5, ns, _, rfl, h2.keep e3, hl, (h2.ne hq5).1, .inl (SqL.of upd_same), by decide, by decide, fun d5 v Ha hda ea ha => ?_⟩
      obtain ⟨hd, rfl, hhd⟩ : ∃ hd : Str, v = .str hd ∧ (hd = "self" ∨ hd = "new" ∨ hd = "last") := by
        have m := List.mem_of_getElem? hda
        simp only [List.mem_cons, List.not_mem_nil, or_false] at m
        rcases m with rfl | rfl | rfl | rfl | rfl
        · exact ⟨_, rfl, .inl rfl⟩
        · exact ⟨_, rfl, .inr (.inl rfl)⟩
        · exact ⟨_, rfl, .inl rfl⟩
        · exact ⟨_, rfl, .inr (.inl rfl)⟩
        · exact ⟨_, rfl, .inr (.inr rfl)⟩
      have e2a : SameX s H2 Ha := (same_sx e3).trans ea
      have e5a := e2.trans e2a
      have caa := e2a _ _ ca2 cas
      refine ⟨_, rfl, _, rfl, s, c, fa, ns, z, hd, d2 + 1, fvs, fs, rfl, ha, hl, ?_, al5.mono fun _ _ h => FdT.keep e5a.off h, by omega, by omega, fok.nd, by omega, by omega, (by decide +kernel : ∀ z ∈ callNames, wordB z = true) z zm, hhd, fun v cd Hb cn ch cdn cdok eb hb => ?_⟩
      · rw [off_ne fas]
        exact e5a _ _ fa5 fas
      have cab := eb _ _ caa cas
      have e2b := e2a.trans eb
      refine ⟨ca, cvs, v, rfl, rfl, cab, by rw [al.1]; exact Nat.lt_of_le_of_lt cl (by decide), ?_⟩
      have q4ca : q4 ≠ ca := Ne.symm ca4
      refine ⟨(e2.trans e2b).putN (noneX e6 cas hca), hb.put cas cac, (upd_ne q4ca).trans (e2b _ _ q42 q4s), cs ++ [cd], cvs ++ [v], upd_same, ?_, ?_, ?_, _, _, rfl⟩
      · rw [off_upd cas, off_put]
        exact (al.mono fun _ _ h => CdL.keep (same_off e2b.off) h).snoc (cdn.off (caa) ((off_ne cas).trans cab)).l
      · intro c' hc'
        rcases List.mem_append.mp hc' with h | h
        · exact cok c' h
        · rw [List.mem_singleton.mp h]
          exact cdok
      · rw [List.map_append, hnm, List.take_succ (i := i), hz, ← cn]
        rfl
    · rintro σ H2 ⟨e2, h2, q42, cs, cvs, ca2, al, cok, hnm, x6, x9, rfl⟩
      rw [List.length_map, List.take_length] at hnm
      have jl : (callNames.take (d4 + 1)).length = d4 + 1 := by
        rw [List.length_take]
        show min (d4 + 1) 5 = d4 + 1
        omega
      have cl : cs.length = d4 + 1 := by
        have := congrArg List.length hnm
        rw [List.length_map, jl] at this
        exact this
      refine ⟨_, rfl, .inl ⟨rfl, _, SqL.of ca2⟩, _, rfl, _, rfl, _, rfl, s, c, fa, ns, "build", "last", d2 + 1, fvs, fs, rfl, h2, hl, ?_, al5.mono fun _ _ h => FdT.keep e2.off h, by omega, by omega, fok.nd, by omega, by omega, by decide +kernel, .inr (.inr rfl), fun v cd Hb cn ch cdn cdok eb hb => ?_⟩
      · rw [off_ne fas]
        exact e2 _ _ fa5 fas
      have cab := eb _ _ ca2 cas
      refine ⟨ca, cvs, v, rfl, rfl, cab, by rw [al.1, cl]; exact Nat.lt_of_le_of_lt (by omega : _ ≤ 6) (by decide), ?_⟩
      have faca : fa ≠ ca := fun e => by
        have := noneX e6 cas hca
        rw [← e, fa5] at this
        cases this
      have e5b := e2.trans eb
      have e5c : SameX s H5 (upd Hb ca (.lst (cvs ++ [v]))) := e5b.putN (noneX e6 cas hca)
      have hc := hb.put (o := .lst (cvs ++ [v])) cas cac
      have hsc : upd Hb ca (.lst (cvs ++ [v])) s ≠ none := by
        obtain ⟨_, _, _, _, _, e⟩ := hc
        rw [e]
        exact nofun
      have alc : Al (CdL K (Off s (upd Hb ca (.lst (cvs ++ [v]))))) (cvs ++ [v]) (cs ++ [cd]) := by
        have : Al (CdL K (Off ca (Off s (upd Hb ca (.lst (cvs ++ [v])))))) (cvs ++ [v]) (cs ++ [cd]) := by
          rw [off_upd cas, off_put]
          exact (al.mono fun _ _ h => CdL.keep (same_off eb.off) h).snoc (cdn.off ca2 ((off_ne cas).trans cab)).l
        exact this.mono fun _ _ h => CdL.keep off_same h
      have nms : (cs ++ [cd]).map (·.nm) = callNames.take (d4 + 1) ++ (["build"] : List Str) := by
        rw [List.map_append, hnm, ← cn]
        rfl
      have kok : KdOk fs (d2 + 1) (cs ++ [cd]) := by
        refine ⟨fok, by omega, by omega, by rw [List.length_append]; exact Nat.le_add_left .., by rw [List.length_append, cl]; show d4 + 1 + 1 ≤ 6; omega, fun c' hc' => ?_, ?_⟩
        · rcases List.mem_append.mp hc' with h | h
          · exact cok c' h
          · rw [List.mem_singleton.mp h]
            exact cdok
        · rw [nms]
          exact ((by decide +kernel : (callNames ++ (["build"] : List Str)).Nodup)).sublist ((List.take_sublist _ _).append (List.Sublist.refl _))
      refine ⟨_, rfl, _, rfl, _, rfl, s, fa, ca, d2 + 1, fvs, cvs ++ [v], fs, cs ++ [cd], rfl, hsc, ?_, al5.mono fun _ _ h => FdT.keep e5c.off h, ?_, alc, kok, fun v' H' e' pa => ?_⟩
      · rw [off_ne fas]
        exact e5c _ _ fa5 fas
      · rw [off_ne cas, upd_same]
      · exact k v' H' fs (d2 + 1) (cs ++ [cd]) ((e5.trans e5c).trans (same_sx e')) (hc.keep e') kok (by omega) hfn (by omega) ⟨d4 + 1, by omega, nms⟩ ⟨cs, cd, rfl, ch⟩ pa
end
end MK
set_option Elab.async false
set_option linter.all false
set_option autoImplicit false
set_option maxRecDepth 100000
set_option maxHeartbeats 4000000
namespace MK
open PySem PySem.Spec PyProof.Rows L2
local macro_rules | `(tactic| walk_at "x") => `(tactic| dsimp only [tSeq, tAsg, tRet, tDrop, tLst, tTup, tCons, tOp, tUn, tIfS])
abbrev s_same : Stmt := topS 69
theorem sc_same : FnScope ["_law_found", "_law_due", "_law_a", "_law_b"] ["_law_found", "_law_due"] (defScope s_same) := ⟨rfl, rfl, rfl, by decide +kernel, rfl, by decide +kernel, by decide +kernel⟩
def spSame (K : PySem.W.Frag) (n : Nat) : Sp := fun vs H Q _ => ∃ x y, vs = [x, y] ∧ Sm K H n x y ∧ ∀ H', Same H H' → Q (.bl true) H'
section
variable {P : Program} {w : World} {K : PySem.W.Frag} {mg : Str → Option Value} {base : Heap}
theorem any2 {t a b : String} {r1 r2 : Bool} (h1 : kitB t a = some r1) (h2 : kitB t b = some r2) : PySem.W.kitAny K (.type t) [.type a, .type b] = some (r1 || r2) := by
  refine kitAny_cons (kit_ty h1) (fun e => ?_) (fun e => by rw [e]; rfl)
  refine kitAny_cons (kit_ty h2) (fun e2 => ?_) (fun e2 => by rw [e2, Bool.or_true])
  rw [e, e2]
  rfl
theorem any4 {t a b c d : String} (h1 : kitB t a = some false) (h2 : kitB t b = some false) (h3 : kitB t c = some false) (h4 : kitB t d = some false) : PySem.W.kitAny K (.type t) [.type a, .type b, .type c, .type d] = some false :=
  kitAny_cons (kit_ty h1) (fun _ => kitAny_cons (kit_ty h2) (fun _ => kitAny_cons (kit_ty h3) (fun _ => kitAny_cons (kit_ty h4) (fun _ => rfl) nofun) nofun) nofun) nofun
/-- what the last rows of it see of flat things -/
structure FlatT (K : PySem.W.Frag) (H : Hp) (x y : V) (t : String) : Prop where
  tx : TyX K H x (.type t)
  ty : TyX K H y (.type t)
  l : kitB t "list" = some false
  u : kitB t "tuple" = some false
  i : (kitB t "int" = some false ∧ kitB t "bool" = some false) ∨ (kitB t "int" = some true ∧ ∃ b, kitB t "bool" = some b)
  eq : ∀ H', Same H H' → ∀ Q : VK, Q (.bl true) H' → (rEq x y H' Q ∨ ∃ a b kvs, x = .ref a ∧ y = .ref b ∧ H' a = some (.dK kvs) ∧ H' b = some (.dK kvs) ∧ (kvs.map (·.1)).Nodup ∧ (∀ p ∈ kvs, flatB p.2 = true) ∧ Q (.bl true) H')
theorem eq_refl {x : V} {H : Hp} {Q : VK} (h : scal x x = true) (q : Q (.bl true) H) : rEq x x H Q := ⟨h, by rw [decide_eq_true rfl]; exact q⟩
theorem flat_t {H : Hp} {x y : V} (h : Flat H x y) : ∃ t, FlatT K H x y t := by
  rcases h with ⟨rfl, h⟩ | ⟨a, b, kvs, rfl, rfl, ha, hb, hd, hv⟩
  · rcases h with rfl | ⟨b, rfl⟩ | ⟨i, rfl⟩ | ⟨z, rfl⟩
    · exact ⟨"NoneType", .base .non, .base .non, by decide +kernel, by decide +kernel, .inl ⟨by decide +kernel, by decide +kernel⟩, fun H' _ Q q => .inl (eq_refl rfl q)⟩
    · exact ⟨"bool", .base (.bl b), .base (.bl b), by decide +kernel, by decide +kernel, .inr ⟨by decide +kernel, true, by decide +kernel⟩, fun H' _ Q q => .inl (eq_refl rfl q)⟩
    · exact ⟨"int", .base (.int i), .base (.int i), by decide +kernel, by decide +kernel, .inr ⟨by decide +kernel, false, by decide +kernel⟩, fun H' _ Q q => .inl (eq_refl rfl q)⟩
    · exact ⟨"str", .base (.str z), .base (.str z), by decide +kernel, by decide +kernel, .inl ⟨by decide +kernel, by decide +kernel⟩, fun H' _ Q q => .inl (eq_refl rfl q)⟩
  · exact ⟨"dict", .base (.dK ha), .base (.dK hb), by decide +kernel, by decide +kernel, .inl ⟨by decide +kernel, by decide +kernel⟩, fun H' e Q q => .inr ⟨a, b, kvs, rfl, rfl, e _ _ ha, e _ _ hb, hd, hv, q⟩⟩
theorem ok_same0 {f : Addr} {fd : FuncData} (F : DefX K mg "_law_same" s_same ["_law_found", "_law_due"] f fd) (T : Txt K mg) (n k : Nat) (sp' : Sp) (c_same : Cal P w K mg base CX0 k "_law_same" sp') (hk : k ≤ n) (hsp : ∀ m, n = m + 1 → sp' = spSame K m) :
    Cal P w K mg base CX0 (n + 1) "_law_same" (spSame K n) := by
  refine cal_mk F sc_same (fun vs H Q E h => ?_) (fun cdv A outer s H vs Q E hr h => ?_)
  · obtain ⟨x, y, rfl, _⟩ := h
    rfl
  · obtain ⟨x, y, rfl, h, q⟩ := h
    refine ⟨_, (pss_cons (ps_if (pt_val (pe_callB call_isiT (by rfl) T.isinstance (by decide +kernel) (pa_cons (pv 1) (pa_cons (pe_tup (pa_cons (pe_tyv (n := "list") (by rfl) T.list (by decide +kernel)) (pa_cons (pe_tyv (n := "tuple") (by rfl) T.tuple (by decide +kernel)) pa_nil))) pa_nil))))
(pss_cons (ps_if (pt_cut (PW.pt (pw_or (pt_cmpR op_ne (pe_callB call_isi (by rfl) T.isinstance (by decide +kernel) (pa_cons (pv 0) (pa_cons (pe_tyv (n := "list") (by rfl) T.list (by decide +kernel)) pa_nil))) (pe_callB call_isi (by rfl) T.isinstance (by decide +kernel) (pa_cons (pv 1) (pa_cons (pe_tyv (n := "list") (by rfl) T.list (by decide +kernel)) pa_nil))) (nomark _)) (pw_or1 (pt_cmpR op_ne (pe_callB call_isi (by rfl) T.isinstance (by decide +kernel) (pa_cons (pv 0) (pa_cons (pe_tyv (n := "tuple") (by rfl) T.tuple (by decide +kernel)) pa_nil))) (pe_callB call_isi (by rfl) T.isinstance (by decide +kernel) (pa_cons (pv 1) (pa_cons (pe_tyv (n := "tuple") (by rfl) T.tuple (by decide +kernel)) pa_nil))) (nomark _))))))
(pss_one (ps_ret pe_bl))
pss_nil)
(pss_one (ps_ret (pe_cut (pe_and (pe_cmpR op_eq (pe_callB call_len_seq (by rfl) T.len (by decide +kernel) (pa_cons (pv 0) pa_nil)) (pe_callB call_len_seq (by rfl) T.len (by decide +kernel) (pa_cons (pv 1) pa_nil)) (nomark _)) (pe_one (pe_callB (cr_all rfl) (by rfl) T.all (by decide +kernel) (pa_cons (pe_lc (own := [("_law_a", 2), ("_law_b", 3)]) (g := (gTup K 2 (gCons (gName 2) (gCons (gName 3) gNil)))) (tt := tYes) rfl sc_same.nd (RZ.pi_zipA (by rfl) T.zip (pa_cons (pv 0) (pa_cons (pv 1) pa_nil))) (blkOk_by (own := [("_law_a", 2), ("_law_b", 3)]) (N := ["_law_found", "_law_due", "_law_a", "_law_b"]) (sc := defScope s_same) (by decide +kernel)) (fun _ _ _ _ _ => (pg_tup (by rfl) (pgs_cons (pg_name (i := 2) sc_same.nd rfl (Or.inl rfl)) (pgs_cons (pg_name (i := 3) sc_same.nd rfl (Or.inl rfl)) pgs_nil)))) (fun _ _ _ _ _ => pts_nil) (fun _ _ _ _ _ => (pe_c c_same hr (by first | decide | assumption) rfl (pa_cons (pv 2) (pa_cons (pv 3) pa_nil))))) pa_nil))))))))
pss_nil)
(pss_cons (ps_if (pt_val (pe_callB call_isi (by rfl) T.isinstance (by decide +kernel) (pa_cons (pv 1) (pa_cons (pe_tyv (n := "int") (by rfl) T.int (by decide +kernel)) pa_nil))))
(pss_one (ps_ret (pe_cut (pe_and (pe_callB call_isi (by rfl) T.isinstance (by decide +kernel) (pa_cons (pv 0) (pa_cons (pe_tyv (n := "int") (by rfl) T.int (by decide +kernel)) pa_nil))) (pe_and (pe_cmpR op_eq (pe_callB call_isi (by rfl) T.isinstance (by decide +kernel) (pa_cons (pv 0) (pa_cons (pe_tyv (n := "bool") (by rfl) T.bool (by decide +kernel)) pa_nil))) (pe_callB call_isi (by rfl) T.isinstance (by decide +kernel) (pa_cons (pv 1) (pa_cons (pe_tyv (n := "bool") (by rfl) T.bool (by decide +kernel)) pa_nil))) (nomark _)) (pe_one (pe_cmpR (OpR.or op_eq (op_eq_dict hr.units0)) (pv 0) (pv 1) (nomark _))))))))
pss_nil)
(pss_one (ps_ret (pe_cut (pe_and (pe_cmpR op_is_bl (pe_callB call_isiT (by rfl) T.isinstance (by decide +kernel) (pa_cons (pv 0) (pa_cons (pe_tup (pa_cons (pe_tyv (n := "bool") (by rfl) T.bool (by decide +kernel)) (pa_cons (pe_tyv (n := "int") (by rfl) T.int (by decide +kernel)) (pa_cons (pe_tyv (n := "list") (by rfl) T.list (by decide +kernel)) (pa_cons (pe_tyv (n := "tuple") (by rfl) T.tuple (by decide +kernel)) pa_nil))))) pa_nil))) pe_bl (nomark _)) (pe_one (pe_cmpR (OpR.or op_eq (op_eq_dict hr.units0)) (pv 0) (pv 1) (nomark _))))))))), ?_⟩
    have spl : Flat H x y ∨ ∃ m, n = m + 1 ∧ ∃ a b xs ys, x = V.ref a ∧ y = V.ref b ∧ ((SqL K H a xs ∧ SqL K H b ys) ∨ (SqT K H a xs ∧ SqT K H b ys)) ∧ xs.length = ys.length ∧ xs.length < 100000 ∧ ∀ (i : Nat) x y, xs[i]? = some x → ys[i]? = some y → Sm K H m x y := by
      cases n with
      | zero => exact .inl h
      | succ m =>
        rcases h with h | h
        · exact .inl h
        · exact .inr ⟨m, rfl, h⟩
    refine ⟨_, rfl, by show 2 ≤ sizeLine; decide, fun p hp => ?_⟩
    have e1 : Same H (upd H p (.tup [.ty "list", .ty "tuple"])) := same_new (Same.refl H) hp
    rcases spl with hf | ⟨m, hn, a, b, xs, ys, rfl, rfl, hs, hl, hz, hi⟩
    · obtain ⟨t, ft⟩ := flat_t (K := K) hf
      refine ⟨_, p, _, _, _, false, rfl, upd_same, .cons (.ty _) (.cons (.ty _) .nil), tyx_keep e1 ft.ty, any2 ft.l ft.u, false, rfl, iteF ?_⟩
      rcases ft.i with ⟨hi, hb⟩ | ⟨hi, bb, hb⟩
      · refine ⟨_, rfl, _, _, _, _, false, rfl, .ty _, tyx_keep e1 ft.ty, kit_ty hi, false, rfl, iteF ?_⟩
        refine ⟨fun v H2 => v = .bl true ∧ Same H H2, ?_, fun v H2 e => by rw [e.1]; exact q _ e.2⟩
        refine ⟨_, rfl, by show 4 ≤ sizeLine; decide, fun p2 hp2 => ?_⟩
        have e2 := same_new e1 hp2 (o := .tup [.ty "bool", .ty "int", .ty "list", .ty "tuple"])
        refine ⟨_, p2, _, _, _, false, rfl, upd_same, .cons (.ty _) (.cons (.ty _) (.cons (.ty _) (.cons (.ty _) .nil))), tyx_keep e2 ft.tx, any4 hb hi ft.l ft.u, _, _, rfl, rfl, _, rfl, iteT ?_⟩
        exact ⟨_, rfl, _, rfl, ft.eq _ e2 _ ⟨rfl, e2⟩⟩
      · refine ⟨_, rfl, _, _, _, _, true, rfl, .ty _, tyx_keep e1 ft.ty, kit_ty hi, true, rfl, iteT ?_⟩
        refine ⟨fun v H2 => v = .bl true ∧ Same H H2, ?_, fun v H2 e => by rw [e.1]; exact q _ e.2⟩
        refine ⟨_, rfl, _, _, _, _, true, rfl, .ty _, tyx_keep e1 ft.tx, kit_ty hi, true, rfl, iteT ?_⟩
        refine ⟨_, rfl, _, _, _, _, bb, rfl, .ty _, tyx_keep e1 ft.tx, kit_ty hb, _, rfl, _, _, _, _, bb, rfl, .ty _, tyx_keep e1 ft.ty, kit_ty hb, rfl, _, rfl, ?_⟩
        rw [decide_eq_true rfl]
        exact iteT ⟨_, rfl, _, rfl, ft.eq _ e1 _ ⟨rfl, e1⟩⟩
    · have hsp := hsp m hn
      subst hsp
      obtain ⟨t, tx, ty, h1, bl, bu⟩ : ∃ t, TyX K H (.ref a) (.type t) ∧ TyX K H (.ref b) (.type t) ∧ (∀ r1 r2, kitB t "list" = some r1 → kitB t "tuple" = some r2 → (r1 || r2) = true) ∧ (∃ r1, kitB t "list" = some r1) ∧ ∃ r2, kitB t "tuple" = some r2 := by
        rcases hs with ⟨h1, h2⟩ | ⟨h1, h2⟩
        · refine ⟨"list", tyx_l h1, tyx_l h2, fun r1 r2 q1 q2 => ?_, ⟨true, by decide +kernel⟩, ⟨false, by decide +kernel⟩⟩
          have z : kitB "list" "list" = some true := by decide +kernel
          rw [z] at q1
          cases q1
          rfl
        · refine ⟨"tuple", tyx_t h1, tyx_t h2, fun r1 r2 q1 q2 => ?_, ⟨false, by decide +kernel⟩, ⟨true, by decide +kernel⟩⟩
          have z : kitB "tuple" "tuple" = some true := by decide +kernel
          rw [z] at q2
          cases q2
          rw [Bool.or_true]
      obtain ⟨r1, b1⟩ := bl
      obtain ⟨r2, b2⟩ := bu
      refine ⟨_, p, _, _, _, true, rfl, upd_same, .cons (.ty _) (.cons (.ty _) .nil), tyx_keep e1 ty, by rw [← h1 r1 r2 b1 b2]; exact any2 b1 b2, true, rfl, iteT ?_⟩
      -- of the same kinds
      refine ⟨fun t H2 => t = false ∧ H2 = upd H p (.tup [.ty "list", .ty "tuple"]), ?_, ?_⟩
      · refine ⟨_, rfl, _, _, _, _, r1, rfl, .ty _, tyx_keep e1 tx, kit_ty b1, _, rfl, _, _, _, _, r1, rfl, .ty _, tyx_keep e1 ty, kit_ty b1, rfl, _, rfl, ?_⟩
        rw [decide_eq_true rfl]
        refine iteF ?_
        refine ⟨_, rfl, _, _, _, _, r2, rfl, .ty _, tyx_keep e1 tx, kit_ty b2, _, rfl, _, _, _, _, r2, rfl, .ty _, tyx_keep e1 ty, kit_ty b2, rfl, _, rfl, ?_⟩
        rw [decide_eq_true rfl]
        exact ⟨rfl, rfl⟩
      rintro _ _ ⟨rfl, rfl⟩
      refine iteF ?_
      have hs1 : (SqL K (upd H p (.tup [.ty "list", .ty "tuple"])) a xs ∧ SqL K (upd H p (.tup [.ty "list", .ty "tuple"])) b ys) ∨ (SqT K (upd H p (.tup [.ty "list", .ty "tuple"])) a xs ∧ SqT K (upd H p (.tup [.ty "list", .ty "tuple"])) b ys) := by
        rcases hs with ⟨q1, q2⟩ | ⟨q1, q2⟩
        · exact .inl ⟨e1.seq q1, e1.seq q2⟩
        · exact .inr ⟨same_t e1 q1, same_t e1 q2⟩
      refine ⟨fun v H2 => v = .bl true ∧ Same H H2, ?_, fun v H2 e => by rw [e.1]; exact q _ e.2⟩
      refine ⟨_, rfl, a, xs, rfl, hs1.imp (·.1) (·.1), _, rfl, b, ys, rfl, hs1.imp (·.2) (·.2), rfl, _, rfl, ?_⟩
      rw [hl, decide_eq_true rfl]
      refine iteT ?_
      have kp : ∀ H2 : Hp, Same H H2 → (SqL K H2 a xs ∧ SqL K H2 b ys) ∨ (SqT K H2 a xs ∧ SqT K H2 b ys) := fun H2 e => by
        rcases hs with ⟨q1, q2⟩ | ⟨q1, q2⟩
        · exact .inl ⟨e.seq q1, e.seq q2⟩
        · exact .inr ⟨same_t e q1, same_t e q2⟩
      rcases hs with ⟨q1, q2⟩ | ⟨q1, q2⟩
      all_goals
        refine ⟨_, rfl, _, rfl, a, b, xs, ys, rfl, ?_⟩
        first
          | refine .inl ⟨e1.seq q1, e1.seq q2, fun D hD => lc_it (walk_zip (n := xs.length) (by omega)) (fun i H2 => Same H H2 ∧ H D = none ∧ H2 D = some (.lst (List.replicate i (.bl true)))) ⟨same_new e1 hD, (upd_none hD).2, upd_same⟩ (fun i H2 _ e => ⟨e.1.seq q1, e.1.seq q2⟩) ?_ ?_⟩
          | refine .inr ⟨same_t e1 q1, same_t e1 q2, fun D hD => lc_it (walk_zipT (n := xs.length) (by omega)) (fun i H2 => Same H H2 ∧ H D = none ∧ H2 D = some (.lst (List.replicate i (.bl true)))) ⟨same_new e1 hD, (upd_none hD).2, upd_same⟩ (fun i H2 _ e => ⟨same_t e.1 q1, same_t e.1 q2⟩) ?_ ?_⟩
        · rintro i v H2 H3 hlt ⟨e2, d0, d2⟩ ⟨U, x', y', rfl, hU, rfl, hx, hy⟩
          refine ⟨U, _, rfl, SqT.of upd_same, rfl, _, _, rfl, _, _, rfl, rfl, rfl, ?_⟩
          have e3 := same_new e2 hU (o := .tup [x', y'])
          have ud : U ≠ D := fun z => by rw [z, d2] at hU; cases hU
          refine ⟨_, rfl, _, rfl, x', y', rfl, (hi i x' y' hx hy).keep e3, fun H4 e4 => ⟨List.replicate i (.bl true), e4 _ _ ((upd_ne ud.symm).trans d2), by rw [List.length_replicate, sizeLine_eq]; omega, fun c o hc => ?_, d0, ?_⟩⟩
          · have dc : c ≠ D := fun z => by rw [z, d0] at hc; cases hc
            rw [upd_ne dc]
            exact e4 _ _ (e3 _ _ hc)
          · rw [upd_same, List.replicate_succ']
        · rintro H2 ⟨e2, d0, d2⟩
          refine ⟨D, List.replicate xs.length true, rfl, ?_, ?_, e2⟩
          · rw [List.map_replicate]
            exact SqL.of d2
          · simp
theorem ok_same {f : Addr} {fd : FuncData} (F : DefX K mg "_law_same" s_same ["_law_found", "_law_due"] f fd) (T : Txt K mg) : ∀ n : Nat, Cal P w K mg base CX0 (n + 1) "_law_same" (spSame K n)
  | 0 => ok_same0 F T 0 0 _ (cal_bot F) (Nat.le_refl _) (fun _ h => nomatch h)
  | n + 1 => ok_same0 F T (n + 1) (n + 1) _ (ok_same F T n) (Nat.le_refl _) (fun m h => by cases h; rfl)
end
end MK
set_option Elab.async false
set_option linter.all false
set_option autoImplicit false
set_option maxRecDepth 100000
set_option maxHeartbeats 4000000
namespace MK
open PySem PySem.Spec PyProof.Rows L2
local macro_rules | `(tactic| walk_at "x") => `(tactic| dsimp only [tSeq, tAsg, tRet, tDrop, tLst, tTup, tCons, tOp, tUn, tIfS])
abbrev s_Kind_contains : Stmt := inClass (topS 62) 4
theorem sc_Kind_contains : FnScope ["self", "x"] ["self", "x"] (defScope s_Kind_contains) := ⟨rfl, rfl, rfl, by decide +kernel, rfl, by decide +kernel, by decide +kernel⟩
theorem table_has {cs : List CD} {sv : List V} (l : sv.length = cs.length) (z : Str) : (valV (tableV cs sv) (.inr z)).isSome = decide (z ∈ cs.map (·.nm)) := by
  rw [← valV_any, Bool.eq_iff_iff, decide_eq_true_iff, List.any_eq_true]
  have keys : (tableV cs sv).map (·.1) = (cs.map (·.nm)).map (Sum.inr : Str → Key) := by
    unfold tableV
    rw [zip_keys2 _ (fun c => Sum.inr c.nm) (fun _ _ => rfl) _ _ l.symm, List.map_map]
    rfl
  constructor
  · rintro ⟨p, hp, e⟩
    have m : p.1 ∈ (tableV cs sv).map (·.1) := List.mem_map_of_mem hp
    rw [keys, of_decide_eq_true e] at m
    obtain ⟨y, hy, e⟩ := List.mem_map.mp m
    exact Sum.inr.inj e ▸ hy
  · intro m
    have m2 : (Sum.inr z : Key) ∈ (tableV cs sv).map (·.1) := by
      rw [keys]
      exact List.mem_map_of_mem m
    obtain ⟨p, hp, e⟩ := List.mem_map.mp m2
    exact ⟨p, hp, decide_eq_true e⟩
def spHas (K : PySem.W.Frag) (KC : Addr) : Sp := fun vs H Q _ => ∃ (v x : V) (fs : List FD) (n : Nat) (cs : List CD), vs = [v, x] ∧ KdA K KC H v fs n cs ∧ ((∃ z, x = .str z ∧ Q (.bl (decide (z ∈ cs.map (·.nm)))) H) ∨ (NoStr K H x ∧ Q (.bl false) H))
section
variable {P : Program} {w : World} {K : PySem.W.Frag} {mg : Str → Option Value} {base : Heap} {C : Cst} {KC : Addr}
theorem run_has (T : Txt K mg) (Z : KCls K KC) {f : Addr} {cdv : Value} {A : Around} {outer : List Env} {sh : Shared} {H : Hp} {vs : List V} {Q : VK} {E : XK} (hr : Room 0 (A.deeper (envOfC "Kind.__contains__" (defScope s_Kind_contains) sh.heap.objs.size f cdv))) (h : spHas K KC vs H Q E) :
    ∃ t, PSs (cxOf CX0 P w K mg base ["self", "x"] "Kind.__contains__" (defScope s_Kind_contains) f cdv A outer sh H E).nox (defBody s_Kind_contains) t ∧ t { nx := fun _ H' => Q .non H', rt := Q } (start ["self", "x"] vs) H := by
  obtain ⟨v, x, fs, n, cs, rfl, ⟨a, dx, so, sp, tb, t, st, tv, sv, rfl, h1, h2, h3, h4, h5, h6, h7, h8⟩, h⟩ := h
  refine ⟨_, (pss_one (ps_ret (pe_cut (pe_and (pe_callB call_isi (by rfl) T.isinstance (by decide +kernel) (pa_cons (pv 1) (pa_cons (pe_tyv (n := "str") (by rfl) T.str (by decide +kernel)) pa_nil))) (pe_one (pe_cmp (pc_din (hu_of hr) (pv 1) (pe_fld (pv 0) rfl)) rfl)))))), ?_⟩
  rcases h with ⟨z, rfl, q⟩ | ⟨⟨t, ty, kt⟩, q⟩
  · refine ⟨fun v H2 => v = .bl (decide (z ∈ cs.map (·.nm))) ∧ H2 = H, ?_, fun v H2 e => by rw [e.1, e.2]; exact q⟩
    refine ⟨_, rfl, _, _, _, _, true, rfl, .ty _, .base (.str z), kit_ty (by decide +kernel), true, rfl, iteT ?_⟩
    refine ⟨_, rfl, _, rfl, a, KC, dx, _, .ref tb, rfl, h1, Z.cls, Z.table, rfl, tb, _, rfl, DGet.k (k := .inr z) h8, ?_, rfl⟩
    rw [table_has h7.1]
  · refine ⟨fun v H2 => v = .bl false ∧ H2 = H, ?_, fun v H2 e => by rw [e.1, e.2]; exact q⟩
    exact ⟨_, rfl, _, _, _, _, false, rfl, .ty _, ty, kit_ty kt, false, rfl, iteF ⟨rfl, rfl⟩⟩
end
end MK
set_option Elab.async false
set_option linter.all false
set_option autoImplicit false
set_option maxRecDepth 100000
set_option maxHeartbeats 4000000
namespace MK
open PySem PySem.Spec PyProof.Rows L2
open C8 (Met pe_mt pe_mt0 Mak pe_mk)
local macro_rules | `(tactic| walk_at "x") => `(tactic| dsimp only [tSeq, tAsg, tRet, tDrop, tLst, tTup, tCons, tOp, tUn, tIfS])
abbrev s_Handed_init : Stmt := inClass (topS 2) 0
theorem sc_Handed_init : FnScope ["self", "mode", "held"] ["self", "mode", "held"] (defScope s_Handed_init) := ⟨rfl, rfl, rfl, by decide +kernel, rfl, by decide +kernel, by decide +kernel⟩
abbrev s_Bench_init : Stmt := inClass (topS 3) 0
theorem sc_Bench_init : FnScope ["self", "kind", "as_values"] ["self", "kind", "as_values"] (defScope s_Bench_init) := ⟨rfl, rfl, rfl, by decide +kernel, rfl, by decide +kernel, by decide +kernel⟩
abbrev s_Bench_put_list : Stmt := inClass (topS 3) 6
theorem sc_Bench_put_list : FnScope ["self", "words"] ["self", "words"] (defScope s_Bench_put_list) := ⟨rfl, rfl, rfl, by decide +kernel, rfl, by decide +kernel, by decide +kernel⟩
abbrev s_Bench_copied : Stmt := inClass (topS 3) 7
theorem sc_Bench_copied : FnScope ["self", "held", "same", "copies", "content", "name", "sort", "need"] ["self", "held", "same"] (defScope s_Bench_copied) := ⟨rfl, rfl, rfl, by decide +kernel, rfl, by decide +kernel, by decide +kernel⟩
structure BCls (K : PySem.W.Frag) (BC : Addr) : Prop where
  cls : Cls K BC
  kind : NoAttr K BC "kind"
  av : NoAttr K BC "as_values"
  lists : NoAttr K BC "lists"
  handed : NoAttr K BC "handed"
  early : NoAttr K BC "early"
structure HCls (K : PySem.W.Frag) (HC : Addr) : Prop where
  cls : Cls K HC
  mode : NoAttr K HC "mode"
  held : NoAttr K HC "held"
def pRep (HC : Addr) : Rep := fun m sa dx => .ins HC dx [("mode", mV m), ("held", .ref sa)]
def beV (kv : V) (av : Bool) (la ha ea : Addr) : List (Str × V) := [("kind", kv), ("as_values", .bl av), ("lists", .ref la), ("handed", .ref ha), ("early", .ref ea)]
/-- what has no role stands as it stood -/
def Fr (rl : Rl) (H : Hp) (rl' : Rl) (H' : Hp) : Prop := Same (Hr rl H) (Hr rl' H')
theorem Fr.refl {rl : Rl} {H : Hp} : Fr rl H rl H := Same.refl _
theorem Fr.trans {rl rl1 rl2 : Rl} {H H1 H2 : Hp} (a : Fr rl H rl1 H1) (b : Fr rl1 H1 rl2 H2) : Fr rl H rl2 H2 := Same.trans a b
/-- a bench, in what has no role -/
def BeA (K : PySem.W.Frag) (BC KC : Addr) (B : Hp) (be : Addr) (fs : List FD) (n : Nat) (cs : List CD) (av : Bool) (la ha ea : Addr) : Prop := ∃ (bdx : Addr) (kv : V), B be = some (.ins BC bdx (beV kv av la ha ea)) ∧ KdA K KC B kv fs n cs
theorem BeA.keep {K : PySem.W.Frag} {BC KC : Addr} {B B' : Hp} {be : Addr} {fs : List FD} {n : Nat} {cs : List CD} {av : Bool} {la ha ea : Addr} (e : Same B B') (h : BeA K BC KC B be fs n cs av la ha ea) : BeA K BC KC B' be fs n cs av la ha ea := by
  obtain ⟨bdx, kv, h1, h2⟩ := h
  exact ⟨bdx, kv, e _ _ h1, h2.keep e⟩
theorem sort_one (b : Bool) : decide (V.str (sortS b) = V.str "one") = !b := by
  cases b
  · exact decide_eq_true rfl
  · exact decide_eq_false fun e => absurd (V.str.inj e) (by decide)
def spPutL (K : PySem.W.Frag) (BC KC HC : Addr) : Sp := fun vs H Q _ => ∃ (be w la ha ea : Addr) (eo : HO) (ls : List Addr) (os : Os) (b : Bn) (rl : Rl) (fs : List FD) (n : Nat) (cs : List CD) (av : Bool) (ws : List Str), vs = [.ref be, .ref w] ∧ BeA K BC KC (Hr rl H) be fs n cs av la ha ea ∧ BnI (pRep HC) rl H la ha ea eo ls os b ∧
  H w = some (.lst (ws.map V.str)) ∧ ws.length ≤ 100000 ∧ b.lists.length ≤ 100000 ∧
  ∀ rl' H' p, Fr rl H rl' H' → BnI (pRep HC) rl' H' la ha ea eo (ls ++ [p]) os { b with lists := b.lists ++ [ws] } → Q (.int (b.lists.length : Nat)) H'
section
variable {P : Program} {w : World} {K : PySem.W.Frag} {mg : Str → Option Value} {base : Heap} {BC KC HC : Addr}
theorem ok_putL {f : Addr} {fd : FuncData} (F : Fun K "put_list" "Bench.put_list" s_Bench_put_list f fd) (T : Txt K mg) (Z : BCls K BC) : FnOk P w K mg base CX0 1 f fd ["self", "words"] (spPutL K BC KC HC) := by
  refine F.ok sc_Bench_put_list (fun vs H Q E h => ?_) (fun cdv A outer sh H vs Q E hr h => ?_)
  · obtain ⟨be, w, _, _, _, _, _, _, _, _, _, _, _, _, _, rfl, _⟩ := h
    rfl
  · obtain ⟨be, w, la, ha, ea, eo, ls, os, b, rl, fs, n, cs, av, ws, rfl, ⟨bdx, kv, hbe, _⟩, I, hw, l1, l2, q⟩ := h
    refine ⟨_, (pss_cons (ps_expr (pe_bm PySem.F.plainAttrs_list PySem.F.slot_list_append PySem.F.type_list_append mt_append (pe_fld (pv 0) rfl) (pa_cons (pe_callTy call_list_of (by rfl) T.list (by decide +kernel) (pa_cons (pv 1) pa_nil)) pa_nil)))
(pss_one (ps_ret (pe_op op_sub (pe_callB call_len_seq (by rfl) T.len (by decide +kernel) (pa_cons (pe_fld (pv 0) rfl) pa_nil)) pe_int)))), ?_⟩
    have hbe0 := hr_same _ _ hbe
    refine ⟨_, rfl, be, BC, bdx, _, .ref la, rfl, hbe0, Z.cls, Z.lists, rfl, .inl ⟨rfl, _, SqL.of I.lah⟩, _, rfl, w, _, rfl, .inl (SqL.of hw), fun p hp => ?_⟩
    have e1 := same_new (Same.refl H) hp (o := .lst (ws.map V.str))
    obtain ⟨J, fr⟩ := I.putL e1 hp upd_same
    refine ⟨la, ls.map V.ref, .ref p, rfl, rfl, e1 _ _ I.lah, ?_, ?_⟩
    · rw [List.length_map, I.ll, sizeLine_eq]
      omega
    have hbe1 := hr_same _ _ (fr _ _ hbe)
    refine ⟨_, rfl, be, BC, bdx, _, .ref la, rfl, hbe1, Z.cls, Z.lists, rfl, la, _, rfl, .inl (SqL.of J.lah), _, _, rfl, rfl, ?_⟩
    have : (((ls ++ [p]).map V.ref).length : Int) - 1 = ((b.lists.length : Nat) : Int) := by
      rw [List.length_map, List.length_append, I.ll]
      show ((b.lists.length + 1 : Nat) : Int) - 1 = _
      omega
    show Q (.int ((((ls ++ [p]).map V.ref).length : Int) - 1)) _
    rw [this]
    exact q _ _ p fr J
def spCopied (K : PySem.W.Frag) (BC KC HC : Addr) : Sp := fun vs H Q _ => ∃ (be sp la ha ea : Addr) (eo : HO) (ls : List Addr) (os : Os) (b : Bn) (rl : Rl) (fs : List FD) (n : Nat) (cs : List CD) (av : Bool) (j : Nat) (x : Addr × Addr × Addr) (ss : List Str) (A B C : Nat), vs = [.ref be, .ref x.2.1, .ref sp] ∧ BeA K BC KC (Hr rl H) be fs n cs av la ha ea ∧ BnI (pRep HC) rl H la ha ea eo ls os b ∧
  os[j]? = some x ∧ SqT K (Hr rl H) sp (ss.map V.str) ∧ W0 fs n A B C b ∧ A ≤ 90000 ∧ C ≤ 90000 ∧ fs.length ≤ 3 ∧
  ∀ rl' H' ls' p, Fr rl H rl' H' → BnI (pRep HC) rl' H' la ha ea eo ls' os { b with lists := (cp ss fs (b.ob j).held b.lists).1 } → H p = none → rl' p = none → H' p = some (.lst ((cp ss fs (b.ob j).held b.lists).2.map Sl.v)) → Q (.ref p) H'
/-- what has no role may be changed -/
theorem BnI.out {rep : Rep} {rl : Rl} {H : Hp} {la ha ea : Addr} {eo : HO} {ls : List Addr} {os : Os} {b : Bn} (h : BnI rep rl H la ha ea eo ls os b) {p : Addr} {o : HO} (hp : rl p = none) : BnI rep rl (upd H p o) la ha ea eo ls os b := by
  have up : ∀ {c : Addr} {r : Ro} {u : HO}, rl c = some r → H c = some u → upd H p o c = some u := fun hc hu => (upd_ne (fun e => by rw [e, hp] at hc; cases hc)).trans hu
  exact { h with live := live_upd h.live, lah := up h.lar h.lah, hah := up h.har h.hah, eah := up h.ear h.eah, lsh := fun k c ws' hc hw => up (h.lsr k c hc) (h.lsh k c ws' hc hw), oxh := fun j x o hx ho => up (h.oxr j x hx) (h.oxh j x o hx ho), osh := fun j x o hx ho => up (h.osr j x hx) (h.osh j x o hx ho) }
theorem hr_out {rl rl' : Rl} {H H' : Hp} {p : Addr} {o : HO} (e : Same (Hr rl H) (Hr rl' H')) (hp : H p = none) : Same (Hr rl H) (Hr rl' (upd H' p o)) := fun a u ha => by
  obtain ⟨n, ha1⟩ := hr_some ha
  obtain ⟨n2, ha2⟩ := hr_some (e a u ha)
  refine hr_get ?_ n2
  rw [upd_ne (fun q : a = p => by rw [q, hp] at ha1; cases ha1)]
  exact ha2
theorem ok_copied {f : Addr} {fd : FuncData} (F : Fun K "copied" "Bench.copied" s_Bench_copied f fd) (T : Txt K mg) (Z : BCls K BC) (ZK : KCls K KC) (m_put_list : Met P w K mg base 1 BC "put_list" (spPutL K BC KC HC) []) : FnOk P w K mg base CX0 2 f fd ["self", "held", "same"] (spCopied K BC KC HC) := by
  refine F.ok sc_Bench_copied (fun vs H Q E h => ?_) (fun cdv A outer sh H vs Q E hr h => ?_)
  · obtain ⟨be, sp, _, _, _, _, _, _, _, _, _, _, _, _, _, _, _, _, _, _, rfl, _⟩ := h
    rfl
  · obtain ⟨be, sp, la, ha, ea, eo, ls, os, b, rl, fs, n, cs, av, j, x, ss, A0, B0, C0, rfl, ⟨bdx, kv, hbe, kd⟩, I, hx, hsp, w0, lA, lC, f3, q⟩ := h
    refine ⟨_, (pss_cons (ps_set (i := 3) sc_Bench_copied.nd rfl (Or.inl rfl) (pe_lst pa_nil))
(pss_cons (ps_for PassesOwn.never rfl (pi_zipLT (by rfl) T.zip (pa_cons (pv 1) (pa_cons (pe_fld (pe_fld (pv 0) rfl) rfl) pa_nil))) (pg_tup (by rfl) (pgs_cons (pg_name (i := 4) sc_Bench_copied.nd rfl (Or.inl rfl)) (pgs_cons (pg_tup (by rfl) (pgs_cons (pg_name (i := 5) sc_Bench_copied.nd rfl (Or.inl rfl)) (pgs_cons (pg_name (i := 6) sc_Bench_copied.nd rfl (Or.inl rfl)) (pgs_cons (pg_name (i := 7) sc_Bench_copied.nd rfl (Or.inl rfl)) pgs_nil)))) pgs_nil)))
(pss_one (ps_if (pt_cut (PW.pt (pw_or (pt_cmpR op_eq (pv 6) pe_str (nomark _)) (pw_or1 (pt_cmpR op_in_seq (pv 5) (pv 2) (by rfl))))))
(pss_one (ps_expr (pe_bm PySem.F.plainAttrs_list PySem.F.slot_list_append PySem.F.type_list_append mt_append (pv 3) (pa_cons (pv 4) pa_nil))))
(pss_one (ps_expr (pe_bm PySem.F.plainAttrs_list PySem.F.slot_list_append PySem.F.type_list_append mt_append (pv 3) (pa_cons (pe_mt m_put_list hr (by decide) (pv 0) (pa_cons (pe_ix ix_list (pe_fld (pv 0) rfl) (pv 4) (fun _ _ => rfl)) pa_nil)) pa_nil)))))))
(pss_one (ps_ret (pv 3))))), ?_⟩
    have kd' := kd
    obtain ⟨ka, kdx, so, spt, tb, tt, st, tv, sv, rfl, k1, ⟨ta, rfl, k2⟩, k3, _⟩ := kd
    have hj : j < b.obs.length := by rw [← I.ol]; exact at_lt hx
    have hob := ob_get hj
    have ho := w0.held _ (ob_mem hj)
    have hhw := w0.hw _ (ob_mem hj)
    generalize hH : (b.ob j).held = held at ho hhw q
    have sax : ∀ {rl' H' ls' b'}, BnI (pRep HC) rl' H' la ha ea eo ls' os b' → b'.obs = b.obs → H' x.2.1 = some (.lst (held.map Sl.v)) := fun J e => by
      rw [← hH]
      exact J.osh j x _ hx (by rw [e]; exact hob)
    refine ⟨by show 0 ≤ sizeLine; decide, fun p hp => ?_⟩
    have e1 := same_new (Same.refl H) hp (o := .lst [])
    have I1 := I.keep e1
    have np := I.fresh hp
    have p1 : upd H p (.lst []) p = some (.lst []) := upd_same
    have f1 : Same (Hr rl H) (Hr rl (upd H p (.lst []))) := hr_keep e1
    show tSeq _ _ _ _ (upd H p (.lst []))
    generalize upd H p (.lst []) = H1 at e1 I1 p1 f1
    have hbe1 := hr_same _ _ (f1 _ _ hbe)
    refine ⟨_, rfl, _, rfl, be, BC, bdx, _, .ref ka, rfl, hbe1, Z.cls, Z.kind, rfl, ka, KC, kdx, _, .ref ta, rfl, hr_same _ _ (f1 _ _ k1), ZK.cls, ZK.triples, rfl, x.2.1, ta, _, _, rfl, SqL.of (sax I1 rfl), same_t (f1.trans hr_same) k2, ?_⟩
    have lh : (held.map Sl.v).length = fs.length := by rw [List.length_map, ho.1]
    refine for_it (walk_zipLT (n := fs.length) lh k3.1) (fun i σ Hi => ∃ (rli : Rl) (lsi : List Addr) (x4 x5 x6 x7 : Option V), σ = [some (.ref be), some (.ref x.2.1), some (.ref sp), some (.ref p), x4, x5, x6, x7] ∧ Same (Hr rl H) (Hr rli Hi) ∧ BnI (pRep HC) rli Hi la ha ea eo lsi os { b with lists := (((held.zip fs).take i).foldl (cpStep ss) (b.lists, [])).1 } ∧ rli p = none ∧ Hi p = some (.lst ((((held.zip fs).take i).foldl (cpStep ss) (b.lists, [])).2.map Sl.v)))
      ⟨rl, ls, _, _, _, _, rfl, f1, I1, np, p1⟩ (fun i σ Hi _ h => ?_) ?_ ?_
    · obtain ⟨rli, lsi, _, _, _, _, _, fi, Ii, _, _⟩ := h
      exact ⟨SqL.of (sax Ii rfl), same_t (fi.trans hr_same) k2⟩
    · rintro i v σ Hi H2 hi ⟨rli, lsi, x4, x5, x6, x7, rfl, fi, Ii, npi, pi⟩ ⟨U, y1, y2, rfl, hU, rfl, h1, h2⟩
      have h1 : (held.map Sl.v)[i]? = some y1 := h1
      have h2 : tv[i]? = some y2 := h2
      rw [List.getElem?_map] at h1
      obtain ⟨s, hs, rfl⟩ := Option.map_eq_some_iff.mp h1
      obtain ⟨fd', hfd, u, rfl, hu⟩ := k3.get h2
      have hz : (held.zip fs)[i]? = some (s, fd') := by rw [List.getElem?_zip_eq_some]; exact ⟨hs, hfd⟩
      have gr := cp_grown (same := ss) ho hhw w0.wl w0.ws i (by omega)
      have so' := ho.2 i s fd' hs hfd
      generalize hst : ((held.zip fs).take i).foldl (cpStep ss) (b.lists, []) = sti at Ii pi gr
      have e2 := same_new (Same.refl Hi) hU (o := .tup [s.v, .ref u])
      have I2 := Ii.keep e2
      have f2 : Same (Hr rl H) (Hr rli (upd Hi U (.tup [s.v, .ref u]))) := fi.trans (hr_keep e2)
      have pi2 := e2 _ _ pi
      have U2 : upd Hi U (.tup [s.v, .ref u]) U = some (.tup [s.v, .ref u]) := upd_same
      generalize upd Hi U (.tup [s.v, .ref u]) = H2 at e2 I2 f2 pi2 U2
      have hu2 : SqT K H2 u (FdV fd') := same_t (f2.trans hr_same) hu
      refine ⟨U, _, rfl, SqT.of U2, rfl, _, _, rfl, _, _, rfl, u, _, rfl, hu2, rfl, _, _, rfl, _, _, rfl, _, _, rfl, rfl, rfl, ?_⟩
      have l2 : sti.2.length = i := gr.held.1
      have pll := gr.ll
      have lb : b.lists.length ≤ 90000 := Nat.le_trans w0.ll lA
      refine ⟨fun t H3 => t = !(fd'.many && !decide (fd'.nm ∈ ss)) ∧ H3 = H2, ⟨_, rfl, rfl, _, rfl, ?_⟩, ?_⟩
      · rw [sort_one]
        refine ite2 (fun g => ?_) (fun g => ?_)
        · rw [Bool.not_eq_true'] at g
          rw [g]
          exact ⟨rfl, rfl⟩
        · rw [Bool.not_eq_true, Bool.not_eq_false'] at g
          refine ⟨_, rfl, _, rfl, sp, _, rfl, .inr (same_t (f2.trans hr_same) hsp), rfl, flat_strs ss, _, rfl, ?_, rfl⟩
          show inV (.str fd'.nm) (ss.map V.str) = _
          rw [inV_strs, g, Bool.true_and, Bool.not_not]
      rintro _ _ ⟨rfl, rfl⟩
      have stp : ((held.zip fs).take (i + 1)).foldl (cpStep ss) (b.lists, []) = cpStep ss sti (s, fd') := by rw [fold_take _ _ hz, hst]
      refine ite2 (fun g => ?_) (fun g => ?_)
      · -- shared
        rw [Bool.not_eq_true'] at g
        have cs1 : cpStep ss sti (s, fd') = (sti.1, sti.2 ++ [s]) := by
          unfold cpStep
          rw [if_neg]
          rintro ⟨a1, a2⟩
          rw [a1, decide_eq_false a2] at g
          cases g
        refine ⟨_, rfl, .inl ⟨rfl, _, SqL.of pi2⟩, _, rfl, p, _, _, rfl, rfl, pi2, ?_, ?_⟩
        · rw [List.length_map, l2, sizeLine_eq]
          omega
        · rw [stp, cs1]
          refine ⟨rli, lsi, _, _, _, _, rfl, hr_out f2 hp, I2.out npi, npi, ?_⟩
          rw [upd_same, List.map_append]
          rfl
      · -- copied
        rw [Bool.not_eq_true, Bool.not_eq_false', Bool.and_eq_true, Bool.not_eq_true'] at g
        obtain ⟨g1, g2⟩ := g
        have g2 := of_decide_eq_false g2
        cases s with
        | w o =>
          have so' : fd'.many = false := so'
          rw [g1] at so'
          cases so'
        | l k =>
          have kl : k < sti.1.length := Nat.lt_of_lt_of_le so'.2 gr.pre.length_le
          have cs1 : cpStep ss sti (.l k, fd') = (sti.1 ++ [sti.1.getD k []], sti.2 ++ [.l sti.1.length]) := by
            unfold cpStep
            rw [if_pos ⟨g1, g2⟩]
            rfl
          obtain ⟨wa, hw1, hw2, hw3⟩ := I2.l (b := { b with lists := sti.1 }) kl
          have wl : (sti.1.getD k []).length ≤ 90000 := Nat.le_trans (gr.wl _ (getD_mem kl)) lC
          have be2 := hr_same _ _ (f2 _ _ hbe)
          refine ⟨_, rfl, .inl ⟨rfl, _, SqL.of pi2⟩, _, rfl, be, bdx, _, rfl, be2, rfl, _, rfl, be, BC, bdx, _, .ref la, rfl, be2, Z.cls, Z.lists, rfl, _, rfl, la, _, _, _, rfl, rfl, SqL.of I2.lah, atI_nat hw2, ?_⟩
          refine ⟨be, wa, la, ha, ea, eo, lsi, os, { b with lists := sti.1 }, rli, fs, n, cs, av, _, rfl, ⟨bdx, _, f2 _ _ hbe, kd'.keep f2⟩, I2, hw3, by show (sti.1.getD k []).length ≤ _; omega, by show sti.1.length ≤ _; omega, fun rl3 H3 p3 f3' J => ?_⟩
          · have pi3 := f3' _ _ (hr_get pi2 npi)
            obtain ⟨np3, pi3⟩ := hr_some pi3
            refine ⟨p, _, _, rfl, rfl, pi3, ?_, ?_⟩
            · rw [List.length_map, l2, sizeLine_eq]
              omega
            · rw [stp, cs1]
              refine ⟨rl3, _, _, _, _, _, rfl, hr_out (f2.trans f3') hp, J.out np3, np3, ?_⟩
              rw [upd_same, List.map_append]
              rfl
    · rintro σ Hi ⟨rli, lsi, x4, x5, x6, x7, rfl, fi, Ii, npi, pi⟩
      rw [List.take_of_length_le (by rw [List.length_zip, ho.1]; omega)] at Ii pi
      exact ⟨_, rfl, q rli Hi lsi p fi Ii hp npi pi⟩
end
end MK
set_option Elab.async false
set_option linter.all false
set_option autoImplicit false
set_option maxRecDepth 100000
set_option maxHeartbeats 4000000
namespace MK
open PySem PySem.Spec PyProof.Rows L2
open C8 (Met pe_mt pe_mt0 Mak pe_mk)
local macro_rules | `(tactic| walk_at "x") => `(tactic| dsimp only [tSeq, tAsg, tRet, tDrop, tLst, tTup, tCons, tOp, tUn, tIfS])
abbrev s_Bench_blank_maker : Stmt := inClass (topS 3) 5
theorem sc_Bench_blank_maker : FnScope ["self", "name", "sort", "need", "held"] ["self"] (defScope s_Bench_blank_maker) := ⟨rfl, rfl, rfl, by decide +kernel, rfl, by decide +kernel, by decide +kernel⟩
def spHInit (K : PySem.W.Frag) (HC : Addr) : Sp := fun vs H Q _ => ∃ (a dx : Addr) (mv hv : V), vs = [.ref a, mv, hv] ∧ H a = some (.ins HC dx []) ∧ Q .non (upd H a (.ins HC dx [("mode", mv), ("held", hv)]))
section
variable {P : Program} {w : World} {K : PySem.W.Frag} {mg : Str → Option Value} {base : Heap} {BC KC HC : Addr}
theorem ok_hinit {f : Addr} {fd : FuncData} (F : Fun K "__init__" "Handed.__init__" s_Handed_init f fd) (Z : HCls K HC) : FnOk P w K mg base CX0 1 f fd ["self", "mode", "held"] (spHInit K HC) := by
  refine F.ok sc_Handed_init (fun vs H Q E h => ?_) (fun cdv A outer sh H vs Q E hr h => ?_)
  · obtain ⟨_, _, _, _, rfl, _⟩ := h
    rfl
  · obtain ⟨a, dx, mv, hv, rfl, ha, q⟩ := h
    refine ⟨_, (pss_cons (ps_fld (pv 0) (pv 1) rfl)
(pss_one (ps_fld (pv 0) (pv 2) rfl))), ?_⟩
    refine ⟨_, rfl, _, rfl, a, HC, dx, _, rfl, ha, Z.cls, Z.mode, Nat.le_of_ble_eq_true rfl, ?_⟩
    refine ⟨_, rfl, _, rfl, a, HC, dx, _, rfl, upd_same, Z.cls, Z.held, Nat.le_of_ble_eq_true rfl, ?_⟩
    show Q .non (upd (upd H a _) a _)
    rw [upd_upd]
    exact q
def spBlank (K : PySem.W.Frag) (BC KC HC : Addr) : Sp := fun vs H Q _ => ∃ (be la ha ea : Addr) (eo : HO) (ls : List Addr) (os : Os) (b : Bn) (rl : Rl) (fs : List FD) (n : Nat) (cs : List CD) (av : Bool) (A B C : Nat), vs = [.ref be] ∧ BeA K BC KC (Hr rl H) be fs n cs av la ha ea ∧ BnI (pRep HC) rl H la ha ea eo ls os b ∧
  W0 fs n A B C b ∧ A ≤ 90000 ∧ C ≤ 90000 ∧ fs.length ≤ 3 ∧
  ∀ rl' H' ls' x, Fr rl H rl' H' → BnI (pRep HC) rl' H' la ha ea eo ls' (os ++ [x]) (b.newOb (some 0) (blank fs b.lists)) → Q (.ref x.1) H'
theorem sl_snoc (xs : List Sl) (s : Sl) : (xs ++ [s]).map Sl.v = xs.map Sl.v ++ [s.v] := by rw [List.map_append]; rfl
theorem ok_blank {f : Addr} {fd : FuncData} (F : Fun K "blank_maker" "Bench.blank_maker" s_Bench_blank_maker f fd) (T : Txt K mg) (Z : BCls K BC) (ZK : KCls K KC) (m_put_list : Met P w K mg base 1 BC "put_list" (spPutL K BC KC HC) []) (mk_Handed : Mak P w K mg base 1 "Handed" HC (spHInit K HC) []) :
    FnOk P w K mg base CX0 3 f fd ["self"] (spBlank K BC KC HC) := by
  refine F.ok sc_Bench_blank_maker (fun vs H Q E h => ?_) (fun cdv A outer sh H vs Q E hr h => ?_)
  · obtain ⟨be, _, _, _, _, _, _, _, _, _, _, _, _, _, _, _, rfl, _⟩ := h
    rfl
  · obtain ⟨be, la, ha, ea, eo, ls, os, b, rl, fs, n, cs, av, A0, B0, C0, rfl, ⟨bdx, kv, hbe, kd⟩, I, w0, lA, lC, f3, q⟩ := h
    refine ⟨_, (pss_cons (ps_setLc (i := 4) (own := [("name", 1), ("sort", 2), ("need", 3)]) (g := (gTup K 3 (gCons (gName 1) (gCons (gName 2) (gCons (gName 3) gNil))))) (tt := tYes) rfl sc_Bench_blank_maker.nd rfl rfl (sw_true rfl rfl rfl (by decide +kernel)) (pi_tup (pe_fld (pe_fld (pv 0) rfl) rfl)) (blkOk_by (own := [("name", 1), ("sort", 2), ("need", 3)]) (N := ["self", "name", "sort", "need", "held"]) (sc := defScope s_Bench_blank_maker) (by decide +kernel)) (fun _ _ _ _ _ => (pg_tup (by rfl) (pgs_cons (pg_name (i := 1) sc_Bench_blank_maker.nd rfl (Or.inl rfl)) (pgs_cons (pg_name (i := 2) sc_Bench_blank_maker.nd rfl (Or.inl rfl)) (pgs_cons (pg_name (i := 3) sc_Bench_blank_maker.nd rfl (Or.inl rfl)) pgs_nil))))) (fun _ _ _ _ _ => pts_nil) (fun _ _ _ _ _ => (pe_cut (pe_ifExp (pt_cmpR op_eq (pv 2) pe_str (nomark _)) pe_non (pe_mt m_put_list hr (by decide) (pv 0) (pa_cons (pe_lst pa_nil) pa_nil))))))
(pss_one (ps_ret (pe_mk mk_Handed hr (by decide) rfl (pa_cons pe_int (pa_cons (pv 4) pa_nil)))))), ?_⟩
    have kd' := kd
    obtain ⟨ka, kdx, so, spt, tb, tt, st, tv, sv, rfl, k1, ⟨ta, rfl, k2⟩, k3, _⟩ := kd
    have hbe0 := hr_same _ _ hbe
    refine ⟨_, rfl, be, BC, bdx, _, .ref ka, rfl, hbe0, Z.cls, Z.kind, rfl, ka, KC, kdx, _, .ref ta, rfl, hr_same _ _ k1, ZK.cls, ZK.triples, rfl, ta, rfl, ⟨tv, same_t hr_same k2⟩, fun D hD => ?_⟩
    have nD := I.fresh hD
    have lt : tv.length = fs.length := k3.1
    refine lc_it (walk_tup (K := K) (a := ta) (xs := tv)) (fun i Hi => ∃ (rli : Rl) (lsi : List Addr), Same (Hr rl H) (Hr rli Hi) ∧ BnI (pRep HC) rli Hi la ha ea eo lsi os { b with lists := ((fs.take i).foldl blStep (b.lists, [])).1 } ∧ rli D = none ∧ Hi D = some (.lst (((fs.take i).foldl blStep (b.lists, [])).2.map Sl.v)))
      ⟨rl, ls, hr_keep (same_new (Same.refl H) hD), I.keep (same_new (Same.refl H) hD), nD, upd_same⟩ (fun i Hi _ h => ?_) ?_ ?_
    · obtain ⟨rli, lsi, fi, _⟩ := h
      exact same_t (fi.trans hr_same) k2
    · rintro i v Hi H2 hi ⟨rli, lsi, fi, Ii, ni, Di⟩ ⟨rfl, hv⟩
      obtain ⟨fd', hfd, u, rfl, hu⟩ := k3.get hv
      have gr := bl_grown (fs := fs) w0.wl w0.ws i (by omega)
      have stp : (fs.take (i + 1)).foldl blStep (b.lists, []) = blStep ((fs.take i).foldl blStep (b.lists, [])) fd' := fold_take _ _ hfd
      generalize hst : (fs.take i).foldl blStep (b.lists, []) = sti at Ii Di gr stp
      have hu2 : SqT K H2 u (FdV fd') := same_t (fi.trans hr_same) hu
      refine ⟨u, _, rfl, hu2, rfl, _, _, rfl, _, _, rfl, _, _, rfl, rfl, ?_⟩
      refine ⟨rfl, fun y H4 => ∃ (rl4 : Rl) (ls4 : List Addr) (s : Sl), y = s.v ∧ (blStep sti fd').2 = sti.2 ++ [s] ∧ Same (Hr rl H) (Hr rl4 H4) ∧ BnI (pRep HC) rl4 H4 la ha ea eo ls4 os { b with lists := (blStep sti fd').1 } ∧ rl4 D = none ∧ H4 D = some (.lst (sti.2.map Sl.v)), ⟨_, rfl, rfl, _, rfl, ?_⟩, ?_⟩
      · rw [sort_one]
        refine ite2 (fun g => ?_) (fun g => ?_)
        · rw [Bool.not_eq_true'] at g
          have cs1 : blStep sti fd' = (sti.1, sti.2 ++ [.w none]) := by
            unfold blStep
            rw [if_neg (by rw [g]; decide)]
          exact ⟨rli, lsi, .w none, rfl, by rw [cs1], fi, by rw [cs1]; exact Ii, ni, Di⟩
        · rw [Bool.not_eq_true, Bool.not_eq_false'] at g
          have cs1 : blStep sti fd' = (sti.1 ++ [[]], sti.2 ++ [.l sti.1.length]) := by
            unfold blStep
            rw [if_pos g]
          have be2 := hr_same _ _ (fi _ _ hbe)
          refine ⟨_, rfl, be, bdx, _, rfl, be2, rfl, by show 0 ≤ sizeLine; decide, fun w hw => ?_⟩
          have e2 := same_new (Same.refl H2) hw (o := .lst [])
          have I2 := Ii.keep e2
          have f2 : Same (Hr rl H) (Hr rli (upd H2 w (.lst []))) := fi.trans (hr_keep e2)
          have D2 := e2 _ _ Di
          have pll := gr.ll
          refine ⟨be, w, la, ha, ea, eo, lsi, os, { b with lists := sti.1 }, rli, fs, n, cs, av, [], rfl, ⟨bdx, _, f2 _ _ hbe, kd'.keep f2⟩, I2, upd_same, Nat.zero_le _, ?_, fun rl3 H3 p3 f3' J => ?_⟩
          · show sti.1.length ≤ _
            have := w0.ll
            omega
          · obtain ⟨np3, pi3⟩ := hr_some (f3' _ _ (hr_get D2 ni))
            exact ⟨rl3, _, .l sti.1.length, rfl, by rw [cs1], f2.trans f3', by rw [cs1]; exact J, np3, pi3⟩
      · rintro y H4 ⟨rl4, ls4, s, rfl, es, f4, I4, n4, D4⟩
        refine ⟨_, D4, ?_, rl4, ls4, hr_out f4 hD, ?_, n4, ?_⟩
        · rw [List.length_map, gr.held.1, sizeLine_eq]
          omega
        · rw [stp]
          exact I4.out n4
        · rw [stp, es, upd_same, sl_snoc]
    · rintro Hi ⟨rli, lsi, fi, Ii, ni, Di⟩
      rw [lt, List.take_length] at Ii Di
      refine ⟨_, rfl, fun x dx hx hdx ndx => ⟨x, dx, .int 0, .ref D, rfl, upd_same, rfl, ?_⟩⟩
      obtain ⟨e3, x3⟩ := made_same (o := .ins HC dx []) (d := .own x) (o2 := .ins HC dx [("mode", .int 0), ("held", .ref D)]) hx hdx
      obtain ⟨J, fr⟩ := Ii.newO2 (x := x) (sa := D) (dx := dx) (m := some 0) (held := (blank fs b.lists).2) e3 hx ni Di x3
      exact q _ _ lsi (x, D, dx) (fr _ fi (by
        unfold Hr
        rw [nD]
        exact hD)) J
end
end MK
set_option Elab.async false
set_option linter.all false
set_option autoImplicit false
set_option maxRecDepth 100000
set_option maxHeartbeats 4000000
namespace MK
open PySem PySem.Spec PyProof.Rows L2
open C8 (Met pe_mt pe_mt0 Mak pe_mk)
local macro_rules | `(tactic| walk_at "x") => `(tactic| dsimp only [tSeq, tAsg, tRet, tDrop, tLst, tTup, tCons, tOp, tUn, tIfS])
abbrev s_Bench_do_list_deed : Stmt := inClass (topS 3) 9
theorem sc_Bench_do_list_deed : FnScope ["self", "number", "deed", "word", "words", "kept"] ["self", "number", "deed", "word"] (defScope s_Bench_do_list_deed) := ⟨rfl, rfl, rfl, by decide +kernel, rfl, by decide +kernel, by decide +kernel⟩
/-- a deed on a list: all lists behind it, the number that is held -/
def deL (L : List (List Str)) (k : Nat) (d wd : Str) : List (List Str) × Nat :=
  if d = ("fresh" : Str) then (L ++ [L.getD k []], L.length) else (L.set k (if d = ("add" : Str) then L.getD k [] ++ [wd] else if d = ("strike" : Str) then (L.getD k []).filter (fun z => !decide (z = wd)) else []), k)
def spLDeed (K : PySem.W.Frag) (BC KC HC : Addr) : Sp := fun vs H Q _ => ∃ (be la ha ea : Addr) (eo : HO) (ls : List Addr) (os : Os) (b : Bn) (rl : Rl) (fs : List FD) (n : Nat) (cs : List CD) (av : Bool) (A B C k : Nat) (d wd : Str) (wv : V), vs = [.ref be, .int (k : Nat), .str d, wv] ∧ BeA K BC KC (Hr rl H) be fs n cs av la ha ea ∧ BnI (pRep HC) rl H la ha ea eo ls os b ∧
  W0 fs n A B C b ∧ A ≤ 90000 ∧ C ≤ 1000 ∧ k < b.lists.length ∧ (d = ("add" : Str) ∨ d = ("strike" : Str) → wv = .str wd) ∧
  ∀ rl' H' ls', Fr rl H rl' H' → BnI (pRep HC) rl' H' la ha ea eo ls' os { b with lists := (deL b.lists k d wd).1 } → Q (.int ((deL b.lists k d wd).2 : Nat)) H'
section
variable {P : Program} {w : World} {K : PySem.W.Frag} {mg : Str → Option Value} {base : Heap} {BC KC HC : Addr}
theorem ixN_lt {n k : Nat} (h : k < n) : ixN n (k : Int) = some k := by
  unfold ixN
  rw [if_pos (by omega), if_pos (by omega)]
  rfl
theorem ok_ldeed {f : Addr} {fd : FuncData} (F : Fun K "do_list_deed" "Bench.do_list_deed" s_Bench_do_list_deed f fd) (T : Txt K mg) (Z : BCls K BC) (m_put_list : Met P w K mg base 1 BC "put_list" (spPutL K BC KC HC) []) :
    FnOk P w K mg base CX0 2 f fd ["self", "number", "deed", "word"] (spLDeed K BC KC HC) := by
  refine F.ok sc_Bench_do_list_deed (fun vs H Q E h => ?_) (fun cdv A outer sh H vs Q E hr h => ?_)
  · obtain ⟨be, _, _, _, _, _, _, _, _, _, _, _, _, _, _, _, _, _, _, _, rfl, _⟩ := h
    rfl
  · obtain ⟨be, la, ha, ea, eo, ls, os, b, rl, fs, n, cs, av, A0, B0, C0, k, d, wd, wv, rfl, ⟨bdx, kv, hbe, kd⟩, I, w0, lA, lC, hk, hw, q⟩ := h
    refine ⟨_, (pss_cons (ps_set (i := 4) sc_Bench_do_list_deed.nd rfl (Or.inl rfl) (pe_ix ix_list (pe_fld (pv 0) rfl) (pv 1) (fun _ _ => rfl)))
(pss_cons (ps_if (pt_cmpR op_eq (pv 2) pe_str (nomark _))
(pss_one (ps_ret (pe_mt m_put_list hr (by decide) (pv 0) (pa_cons (pv 4) pa_nil))))
pss_nil)
(pss_cut (ps_if (pt_cmpR op_eq (pv 2) pe_str (nomark _))
(pss_one (ps_expr (pe_bm PySem.F.plainAttrs_list PySem.F.slot_list_append PySem.F.type_list_append mt_append (pv 4) (pa_cons (pv 3) pa_nil))))
(pss_one (ps_if (pt_cmpR op_eq (pv 2) pe_str (nomark _))
(pss_one (ps_asg (pe_lc (own := [("kept", 5)]) (g := (gName 5)) rfl sc_Bench_do_list_deed.nd (pi_list (pv 4)) (blkOk_by (own := [("kept", 5)]) (N := ["self", "number", "deed", "word", "words", "kept"]) (sc := defScope s_Bench_do_list_deed) (by decide +kernel)) (fun _ _ _ _ _ => (pg_name (i := 5) sc_Bench_do_list_deed.nd rfl (Or.inl rfl))) (fun _ _ _ _ _ => (pts_one (pt_cmpR op_ne (pv 5) (pv 3) (nomark _)))) (fun _ _ _ _ _ => (pv 5))) (pg_sub (pe_fld (pv 0) rfl) (pv 1) set_list)))
(pss_one (ps_asg (pe_lst pa_nil) (pg_sub (pe_fld (pv 0) rfl) (pv 1) set_list))))))
(pss_one (ps_ret (pv 1)))))), ?_⟩
    have hbe0 := hr_same _ _ hbe
    obtain ⟨wa, hw1, hw2, hw3⟩ := I.l hk
    have wl : (b.lists.getD k []).length ≤ 1000 := Nat.le_trans (w0.wl _ (getD_mem hk)) lC
    refine ⟨_, rfl, be, BC, bdx, _, .ref la, rfl, hbe0, Z.cls, Z.lists, rfl, _, rfl, la, _, _, _, rfl, rfl, SqL.of I.lah, atI_nat hw2, ?_⟩
    refine ⟨_, rfl, rfl, _, rfl, ite2 (fun g => ?_) (fun g => ?_)⟩
    · have hL : deL b.lists k d wd = (b.lists ++ [b.lists.getD k []], b.lists.length) := by
        unfold deL
        rw [if_pos (V.str.inj (of_decide_eq_true g))]
      rw [hL] at q
      refine ⟨_, rfl, be, bdx, _, rfl, hbe0, rfl, _, rfl, be, wa, la, ha, ea, eo, ls, os, b, rl, fs, n, cs, av, _, rfl, ⟨bdx, kv, hbe, kd⟩, I, hw3, by omega, Nat.le_trans w0.ll (by omega), fun rl' H' p fr J => q rl' H' _ fr J⟩
    have nf : d ≠ ("fresh" : Str) := fun e => by
      rw [e, decide_eq_true rfl] at g
      exact g rfl
    have hL : deL b.lists k d wd = (b.lists.set k (if d = ("add" : Str) then b.lists.getD k [] ++ [wd] else if d = ("strike" : Str) then (b.lists.getD k []).filter (fun z => !decide (z = wd)) else []), k) := by
      unfold deL
      rw [if_neg nf]
    rw [hL] at q
    clear hL
    have lk : (ls.map V.ref).length = b.lists.length := by rw [List.length_map, I.ll]
    refine ⟨fun σ' H' => ∃ (rl' : Rl) (ls' : List Addr) (x4 x5 : Option V), σ' = [some (.ref be), some (.int (k : Nat)), some (.str d), some wv, x4, x5] ∧ Fr rl H rl' H' ∧ BnI (pRep HC) rl' H' la ha ea eo ls' os { b with lists := b.lists.set k (if d = ("add" : Str) then b.lists.getD k [] ++ [wd] else if d = ("strike" : Str) then (b.lists.getD k []).filter (fun z => !decide (z = wd)) else []) }, ⟨_, rfl, rfl, _, rfl, ite2 (fun g2 => ?_) (fun g2 => ⟨_, rfl, rfl, _, rfl, ite2 (fun g3 => ?_) (fun g3 => ?_)⟩)⟩, ?_⟩
    · have e2 := V.str.inj (of_decide_eq_true g2)
      rw [if_pos e2]
      have := hw (.inl e2)
      subst this
      refine ⟨_, rfl, .inl ⟨rfl, _, SqL.of hw3⟩, _, rfl, wa, _, _, rfl, rfl, hw3, ?_, ?_⟩
      · rw [List.length_map, sizeLine_eq]
        omega
      · obtain ⟨J, fr⟩ := I.modL (ws := b.lists.getD k [] ++ [wd]) hw1
        rw [List.map_append] at J fr
        exact ⟨rl, ls, _, _, rfl, fr, J⟩
    · have e3 := V.str.inj (of_decide_eq_true g3)
      have n2 : d ≠ ("add" : Str) := fun e => by
        rw [e, decide_eq_true rfl] at g2
        exact g2 rfl
      rw [if_neg n2, if_pos e3]
      have := hw (.inr e3)
      subst this
      refine ⟨_, rfl, wa, rfl, ⟨_, SqL.of hw3⟩, fun D hD => ?_⟩
      refine lc_it (walk_list (K := K) (a := wa) (xs := (b.lists.getD k []).map V.str)) (fun i H2 => Same H H2 ∧ H2 D = some (.lst ((((b.lists.getD k []).take i).filter fun z => !decide (z = wd)).map V.str))) ⟨same_new (Same.refl H) hD, upd_same⟩ (fun i H2 _ h => SqL.of (h.1 _ _ hw3)) ?_ ?_
      · rintro i v H2 H3 hi ⟨e4, d4⟩ ⟨rfl, hv⟩
        rw [List.getElem?_map] at hv
        obtain ⟨z, hz, rfl⟩ := Option.map_eq_some_iff.mp hv
        have tk := List.take_add_one (l := b.lists.getD k []) (i := i)
        rw [hz] at tk
        refine ⟨rfl, _, rfl, _, rfl, rfl, _, rfl, ?_⟩
        rw [tk, show (some z).toList = [z] from rfl, List.filter_append, List.map_append]
        show (if (!decide (V.str z = V.str wd)) = true then _ else _)
        have ez : decide (V.str z = V.str wd) = decide (z = wd) := by
          rw [Bool.eq_iff_iff, decide_eq_true_iff, decide_eq_true_iff]
          exact ⟨fun e => V.str.inj e, fun e => e ▸ rfl⟩
        rw [ez]
        by_cases e : z = wd
        · rw [if_neg (by rw [decide_eq_true e]; decide), List.filter_cons_of_neg (by rw [decide_eq_true e]; decide), List.filter_nil, List.map_nil, List.append_nil]
          exact ⟨e4, d4⟩
        · rw [if_pos (by rw [decide_eq_false e]; rfl), List.filter_cons_of_pos (by rw [decide_eq_false e]; rfl), List.filter_nil]
          refine ⟨_, rfl, _, d4, ?_, fun c o hc => ?_, upd_same⟩
          · rw [List.length_map]
            have := List.length_filter_le (fun z => !decide (z = wd)) ((b.lists.getD k []).take i)
            rw [List.length_take] at this
            rw [sizeLine_eq]
            omega
          · rw [upd_ne (ne_of_none hc hD)]
            exact e4 _ _ hc
      · rintro H2 ⟨e4, d4⟩
        rw [List.length_map, List.take_length] at d4
        obtain ⟨J, fr⟩ := I.setL (ws := (b.lists.getD k []).filter fun z => !decide (z = wd)) hw1 e4 hD d4
        refine ⟨_, rfl, be, BC, bdx, _, .ref la, rfl, e4 _ _ hbe0, Z.cls, Z.lists, rfl, _, rfl, la, _, _, k, rfl, rfl, e4 _ _ I.lah, ixN_lt (by rw [lk]; exact hk), ?_⟩
        exact ⟨_, _, _, _, rfl, fr, J⟩
    · have n3 : d ≠ ("strike" : Str) := fun e => by
        rw [e, decide_eq_true rfl] at g3
        exact g3 rfl
      have n2 : d ≠ ("add" : Str) := fun e => by
        rw [e, decide_eq_true rfl] at g2
        exact g2 rfl
      rw [if_neg n2, if_neg n3]
      refine ⟨by show 0 ≤ sizeLine; decide, fun p hp => ?_⟩
      have e1 := same_new (Same.refl H) hp (o := .lst [])
      obtain ⟨J, fr⟩ := I.setL (ws := []) hw1 e1 hp upd_same
      refine ⟨_, rfl, be, BC, bdx, _, .ref la, rfl, e1 _ _ hbe0, Z.cls, Z.lists, rfl, _, rfl, la, _, _, k, rfl, rfl, e1 _ _ I.lah, ixN_lt (by rw [lk]; exact hk), ?_⟩
      exact ⟨_, _, _, _, rfl, fr, J⟩
    · rintro _ H' ⟨rl', ls', x4, x5, rfl, fr, J⟩
      exact ⟨_, rfl, q rl' H' ls' fr J⟩
end
end MK
set_option Elab.async false
set_option linter.all false
set_option autoImplicit false
set_option maxRecDepth 100000
set_option maxHeartbeats 4000000
namespace MK
open PySem PySem.Spec PyProof.Rows L2
open C8 (Met pe_mt pe_mt0 Mak pe_mk)
local macro_rules | `(tactic| walk_at "x") => `(tactic| dsimp only [tSeq, tAsg, tRet, tDrop, tLst, tTup, tCons, tOp, tUn, tIfS])
abbrev s_Bench_do_deeds : Stmt := inClass (topS 3) 8
theorem sc_Bench_do_deeds : FnScope ["self", "held", "deeds", "word", "deed", "field", "at"] ["self", "held", "deeds", "word"] (defScope s_Bench_do_deeds) := ⟨rfl, rfl, rfl, by decide +kernel, rfl, by decide +kernel, by decide +kernel⟩
theorem spots_get {fs : List FD} (nd : (fs.map (·.nm)).Nodup) {f : FD} (m : f ∈ fs) : valV (spotsV fs) (.inr f.nm) = some (.int (spot fs f.nm : Nat)) := by
  have hs := spot_at nd m
  have l := (List.getElem?_eq_some_iff.mp hs).1
  have keys : (spotsV fs).map (·.1) = (fs.map (·.nm)).map (Sum.inr : Str → Key) := by
    unfold spotsV
    refine List.ext_getElem? fun i => ?_
    rw [List.getElem?_map, List.getElem?_zipWith, List.getElem?_map, List.getElem?_map]
    by_cases h : i < fs.length
    · rw [List.getElem?_range h, List.getElem?_eq_getElem h]
      rfl
    · rw [List.getElem?_eq_none (l := fs) (by omega), List.getElem?_eq_none (l := List.range fs.length) (by rw [List.length_range]; omega)]
      rfl
  refine val_nodup (by rw [keys]; exact List.Pairwise.map Sum.inr (fun _ _ h1 h2 => h1 (Sum.inr.inj h2)) nd) (Sum.inr f.nm, .int (spot fs f.nm : Nat)) (List.mem_of_getElem? (i := spot fs f.nm) ?_)
  unfold spotsV
  rw [List.getElem?_zipWith, List.getElem?_range l, hs]
theorem set_self {α : Type} {xs : List α} {i : Nat} {x : α} (h : xs[i]? = some x) : xs.set i x = xs := by
  refine List.ext_getElem? fun k => ?_
  by_cases e : k = i
  · subst e
    rw [List.getElem?_set_self (List.getElem?_eq_some_iff.mp h).1, h]
  · rw [List.getElem?_set_ne (fun q => e q.symm)]
theorem setOb_self {b : Bn} {j : Nat} (hj : j < b.obs.length) : b.setOb j (b.ob j) = b := by
  unfold Bn.setOb
  rw [set_self (ob_get hj)]
theorem slot_self {b : Bn} {j i : Nat} {s : Sl} (hj : j < b.obs.length) (hs : (b.ob j).held[i]? = some s) : b.setSlot j i s = b := by
  unfold Bn.setSlot
  rw [set_self hs]
  exact setOb_self hj
theorem slot_self2 {b : Bn} {j i : Nat} {s : Sl} (hj : j < b.obs.length) (hs : (b.ob j).held[i]? = some s) (L : List (List Str)) : ({ b with lists := L } : Bn).setSlot j i s = { b with lists := L } := slot_self (b := { b with lists := L }) hj hs
theorem deStep_l {fs : List FD} {wd : Str} {j k : Nat} {b : Bn} {d : Str × Str} (hj : j < b.obs.length) (hs : (b.ob j).held[spot fs d.2]? = some (.l k)) : deStep fs wd j b d = ({ b with lists := (deL b.lists k d.1 wd).1 } : Bn).setSlot j (spot fs d.2) (.l (deL b.lists k d.1 wd).2) := by
  unfold deStep deL
  rw [List.getD_eq_getElem?_getD, hs]
  by_cases e : d.1 = ("fresh" : Str)
  · show (if d.1 = ("fresh" : Str) then _ else _) = _
    rw [if_pos e, if_pos e]
  · show (if d.1 = ("fresh" : Str) then _ else _) = _
    rw [if_neg e, if_neg e]
    exact (slot_self2 hj hs _).symm
theorem deStep_w {fs : List FD} {wd : Str} {j : Nat} {b : Bn} {d : Str × Str} {o : Option Str} (hs : (b.ob j).held[spot fs d.2]? = some (.w o)) : deStep fs wd j b d = b.setSlot j (spot fs d.2) (.w (if d.1 = ("set" : Str) then some wd else none)) := by
  unfold deStep
  rw [List.getD_eq_getElem?_getD, hs]
  rfl
theorem sort_many (b : Bool) : decide (V.str (sortS b) = V.str "many") = b := by
  cases b
  · exact decide_eq_false fun e => absurd (V.str.inj e) (by decide)
  · exact decide_eq_true rfl
def spDeedsB (K : PySem.W.Frag) (BC KC HC : Addr) : Sp := fun vs H Q _ => ∃ (be da la ha ea : Addr) (eo : HO) (ls : List Addr) (os : Os) (b : Bn) (rl : Rl) (fs : List FD) (n : Nat) (cs : List CD) (av : Bool) (A B C j : Nat) (x : Addr × Addr × Addr) (dvs : List V) (ds : List (Str × Str)) (wd : Str) (wv : V), vs = [.ref be, .ref x.2.1, .ref da, wv] ∧
  BeA K BC KC (Hr rl H) be fs n cs av la ha ea ∧ BnI (pRep HC) rl H la ha ea eo ls os b ∧ os[j]? = some x ∧ SqT K (Hr rl H) da dvs ∧ Al (DeT K (Hr rl H)) dvs ds ∧ W0 fs n A B C b ∧ A + ds.length ≤ 90000 ∧ C + ds.length ≤ 1000 ∧ FsOk fs ∧ (∀ d ∈ ds, DeOk fs d) ∧ ds.length ≤ 4 ∧
  (∀ d ∈ ds, d.1 = ("set" : Str) ∨ d.1 = ("add" : Str) ∨ d.1 = ("strike" : Str) → wv = .str wd) ∧ (∀ d ∈ ds, d.1 = ("set" : Str) ∨ d.1 = ("add" : Str) → wordB wd = true) ∧
  ∀ rl' H' ls', Fr rl H rl' H' → BnI (pRep HC) rl' H' la ha ea eo ls' os (ds.foldl (deStep fs wd j) b) → Q .non H'
section
variable {P : Program} {w : World} {K : PySem.W.Frag} {mg : Str → Option Value} {base : Heap} {BC KC HC : Addr}
theorem ok_deedsB {f : Addr} {fd : FuncData} (F : Fun K "do_deeds" "Bench.do_deeds" s_Bench_do_deeds f fd) (T : Txt K mg) (Z : BCls K BC) (ZK : KCls K KC) (m_do_list_deed : Met P w K mg base 2 BC "do_list_deed" (spLDeed K BC KC HC) []) :
    FnOk P w K mg base CX0 3 f fd ["self", "held", "deeds", "word"] (spDeedsB K BC KC HC) := by
  refine F.ok sc_Bench_do_deeds (fun vs H Q E h => ?_) (fun cdv A outer sh H vs Q E hr h => ?_)
  · obtain ⟨be, _, _, _, _, _, _, _, _, _, _, _, _, _, _, _, _, _, _, _, _, _, _, rfl, _⟩ := h
    rfl
  · obtain ⟨be, da, la, ha, ea, eo, ls, os, b, rl, fs, n, cs, av, A0, B0, C0, j, x, dvs, ds, wd, wv, rfl, ⟨bdx, kv, hbe, kd⟩, I, hx, hda, hds, w0, lA, lC, fo, dok, d4, hw, hww, q⟩ := h
    refine ⟨_, (pss_one (ps_for PassesOwn.never rfl (pi_tup (pv 2)) (pg_tup (by rfl) (pgs_cons (pg_name (i := 4) sc_Bench_do_deeds.nd rfl (Or.inl rfl)) (pgs_cons (pg_name (i := 5) sc_Bench_do_deeds.nd rfl (Or.inl rfl)) pgs_nil)))
(pss_cons (ps_set (i := 6) sc_Bench_do_deeds.nd rfl (Or.inl rfl) (pe_dget (hu_of hr) (pe_fld (pe_fld (pv 0) rfl) rfl) (pv 5) (fun _ _ => rfl)))
(pss_one (ps_if (pt_cmpR op_eq (pe_dget (hu_of hr) (pe_fld (pe_fld (pv 0) rfl) rfl) (pv 5) (fun _ _ => rfl)) pe_str (nomark _))
(pss_one (ps_asg (pe_mt m_do_list_deed hr (by decide) (pv 0) (pa_cons (pe_ix ix_list (pv 1) (pv 6) (fun _ _ => rfl)) (pa_cons (pv 4) (pa_cons (pv 3) pa_nil)))) (pg_sub (pv 1) (pv 6) set_list)))
(pss_one (ps_asg (pe_cut (pe_ifExp (pt_cmpR op_eq (pv 4) pe_str (nomark _)) (pv 3) pe_non)) (pg_sub (pv 1) (pv 6) set_list)))))))), ?_⟩
    have kd' := kd
    obtain ⟨ka, kdx, so, spt, tb, tt, st, tv, sv, rfl, k1, k2, k3, kso, kspt, _⟩ := kd
    have hj : j < b.obs.length := by rw [← I.ol]; exact at_lt hx
    have ln : dvs.length = ds.length := hds.1
    refine ⟨_, rfl, da, rfl, ⟨dvs, same_t hr_same hda⟩, for_it (walk_tup (K := K) (a := da) (xs := dvs)) (fun i σ Hi => ∃ (rli : Rl) (lsi : List Addr) (x4 x5 x6 : Option V), σ = [some (.ref be), some (.ref x.2.1), some (.ref da), some wv, x4, x5, x6] ∧ Same (Hr rl H) (Hr rli Hi) ∧ BnI (pRep HC) rli Hi la ha ea eo lsi os ((ds.take i).foldl (deStep fs wd j) b))
      ⟨rl, ls, _, _, _, rfl, Same.refl _, I⟩ (fun i σ Hi _ h => ?_) ?_ ?_⟩
    · obtain ⟨rli, lsi, _, _, _, _, fi, _⟩ := h
      exact same_t (fi.trans hr_same) hda
    · rintro i v σ Hi H2 hi ⟨rli, lsi, x4, x5, x6, rfl, fi, Ii⟩ ⟨rfl, hv⟩
      obtain ⟨d, hd, pa, rfl, pt⟩ := hds.get hv
      have dm := List.mem_of_getElem? hd
      obtain ⟨wi, oi⟩ := deeds_ok (ds := ds) (wd := wd) w0 hj fo.nd dok hww i (by omega)
      have stp : (ds.take (i + 1)).foldl (deStep fs wd j) b = deStep fs wd j ((ds.take i).foldl (deStep fs wd j) b) d := fold_take _ _ hd
      rw [stp]
      clear stp
      generalize (ds.take i).foldl (deStep fs wd j) b = bi at Ii wi oi ⊢
      have hji : j < bi.obs.length := by rw [oi]; exact hj
      obtain ⟨fd', s, fm, fe, fmany, ff, hs, so'⟩ := deed_slot wi hji fo.nd (dok d dm)
      have be2 := hr_same _ _ (fi _ _ hbe)
      have k2' := hr_same _ _ (fi _ _ k1)
      have hspt := hr_same _ _ (fi _ _ kspt)
      have hso := hr_same _ _ (fi _ _ kso)
      have held := Ii.osh j x _ hx (ob_get hji)
      have atv := spots_get fo.nd fm
      have srt := sorts_get fo.nd fm
      rw [fe] at atv srt
      generalize hat : spot fs d.2 = at_ at atv ff hs
      have lat : at_ < (bi.ob j).held.length := (List.getElem?_eq_some_iff.mp hs).1
      have lat2 : at_ < ((bi.ob j).held.map Sl.v).length := by rw [List.length_map]; exact lat
      refine ⟨pa, _, rfl, same_t (fi.trans hr_same) pt, rfl, _, _, rfl, _, _, rfl, rfl, ?_⟩
      refine ⟨_, rfl, be, BC, bdx, _, .ref ka, rfl, be2, Z.cls, Z.kind, rfl, ka, KC, kdx, _, .ref spt, rfl, k2', ZK.cls, ZK.spots, rfl, _, rfl, spt, .int (at_ : Nat), rfl, atv ▸ DGet.k (k := .inr d.2) hspt, ?_⟩
      refine ⟨_, rfl, be, BC, bdx, _, .ref ka, rfl, be2, Z.cls, Z.kind, rfl, ka, KC, kdx, _, .ref so, rfl, k2', ZK.cls, ZK.sorts, rfl, _, rfl, so, .str (sortS fd'.many), rfl, srt ▸ DGet.k (k := .inr d.2) hso, rfl, _, rfl, ?_⟩
      rw [sort_many]
      refine ite2 (fun g => ?_) (fun g => ?_)
      · cases s with
        | w o =>
          have so' : fd'.many = false := so'
          rw [g] at so'
          cases so'
        | l k =>
          have hk : k < bi.lists.length := so'.2
          have hv : ((bi.ob j).held.map Sl.v)[at_]? = some (.int (k : Nat)) := by rw [List.getElem?_map, hs]; rfl
          refine ⟨_, rfl, be, bdx, _, rfl, be2, rfl, _, rfl, _, rfl, x.2.1, _, _, _, rfl, rfl, SqL.of held, atI_nat hv, _, rfl, _, rfl, ?_⟩
          refine ⟨be, la, ha, ea, eo, lsi, os, bi, rli, fs, n, cs, av, A0 + i, B0, C0 + i, k, d.1, wd, wv, rfl, ⟨bdx, _, fi _ _ hbe, kd'.keep fi⟩, Ii, wi, by omega, by omega, hk, fun e => hw d dm (.inr e), fun rl3 H3 ls3 f3 J => ?_⟩
          have held3 := J.osh j x _ hx (ob_get (b := { bi with lists := (deL bi.lists k d.1 wd).1 }) hji)
          refine ⟨_, rfl, _, rfl, x.2.1, _, _, at_, rfl, rfl, held3, ixN_lt lat2, ?_⟩
          obtain ⟨J2, f4⟩ := J.modS (held := (bi.ob j).held.set at_ (.l (deL bi.lists k d.1 wd).2)) hx
          rw [deStep_l hji (by rw [hat]; exact hs), hat]
          rw [List.map_set] at J2 f4
          exact ⟨_, _, _, _, _, rfl, (fi.trans f3).trans f4, J2⟩
      · rw [Bool.not_eq_true] at g
        cases s with
        | l k =>
          have so' : fd'.many = true := so'.1
          rw [g] at so'
          cases so'
        | w o =>
          have fin : ∀ (s : Sl), deStep fs wd j bi d = bi.setSlot j at_ s → ∃ rl' ls' x4 x5 x6, [some (V.ref be), some (V.ref x.2.1), some (V.ref da), some wv, some (V.str d.1), some (V.str d.2), some (V.int (at_ : Nat))] = [some (V.ref be), some (V.ref x.2.1), some (V.ref da), some wv, x4, x5, x6] ∧ Same (Hr rl H) (Hr rl' (upd H2 x.2.1 (.lst (((bi.ob j).held.map Sl.v).set at_ s.v)))) ∧ BnI (pRep HC) rl' (upd H2 x.2.1 (.lst (((bi.ob j).held.map Sl.v).set at_ s.v))) la ha ea eo ls' os (deStep fs wd j bi d) := fun s es => by
            obtain ⟨J2, f4⟩ := Ii.modS (held := (bi.ob j).held.set at_ s) hx
            rw [List.map_set] at J2 f4
            rw [es]
            exact ⟨rli, lsi, _, _, _, rfl, fi.trans f4, J2⟩
          have es := deStep_w (fs := fs) (wd := wd) (j := j) (b := bi) (d := d) (o := o) (by rw [hat]; exact hs)
          rw [hat] at es
          refine ⟨fun v H3 => v = (Sl.w (if d.1 = ("set" : Str) then some wd else none)).v ∧ H3 = H2, ⟨_, rfl, rfl, _, rfl, ite2 (fun g2 => ?_) (fun g2 => ?_)⟩, ?_⟩
          · have e1 := V.str.inj (of_decide_eq_true g2)
            refine ⟨_, rfl, ?_, rfl⟩
            rw [if_pos e1]
            exact hw d dm (.inl e1)
          · refine ⟨?_, rfl⟩
            rw [if_neg (fun e => by rw [e, decide_eq_true rfl] at g2; exact g2 rfl)]
            rfl
          · rintro _ _ ⟨rfl, rfl⟩
            refine ⟨_, rfl, _, rfl, x.2.1, _, _, at_, rfl, rfl, held, ixN_lt lat2, ?_⟩
            exact fin _ es
    · rintro σ Hi ⟨rli, lsi, x4, x5, x6, rfl, fi, Ii⟩
      rw [ln, List.take_length] at Ii
      exact q rli Hi lsi fi Ii
end
end MK
set_option Elab.async false
set_option linter.all false
set_option autoImplicit false
set_option maxRecDepth 100000
set_option maxHeartbeats 4000000
namespace MK
open PySem PySem.Spec PyProof.Rows L2
open C8 (Met pe_mt pe_mt0 Mak pe_mk)
local macro_rules | `(tactic| walk_at "x") => `(tactic| dsimp only [tSeq, tAsg, tRet, tDrop, tLst, tTup, tCons, tOp, tUn, tIfS])
abbrev s_Bench_contents : Stmt := inClass (topS 3) 10
theorem sc_Bench_contents : FnScope ["self", "held", "name", "sort", "need", "sorts", "content"] ["self", "held"] (defScope s_Bench_contents) := ⟨rfl, rfl, rfl, by decide +kernel, rfl, by decide +kernel, by decide +kernel⟩
def spCont (K : PySem.W.Frag) (BC KC HC : Addr) : Sp := fun vs H Q _ => ∃ (be sa la ha ea : Addr) (eo : HO) (ls : List Addr) (os : Os) (b : Bn) (rl : Rl) (fs : List FD) (n : Nat) (cs : List CD) (av : Bool) (held : List Sl), vs = [.ref be, .ref sa] ∧ BeA K BC KC (Hr rl H) be fs n cs av la ha ea ∧ BnI (pRep HC) rl H la ha ea eo ls os b ∧
  H sa = some (.lst (held.map Sl.v)) ∧ HeldOk b.lists.length fs held ∧ (∀ ws ∈ b.lists, ws.length ≤ 1000) ∧ fs.length ≤ 3 ∧
  ∀ H' p L, Same H H' → CsW H' p (held.map (ctOf b.lists)) L → (∀ a ∈ L, H a = none) → Q (.ref p) H'
section
variable {P : Program} {w : World} {K : PySem.W.Frag} {mg : Str → Option Value} {base : Heap} {BC KC HC : Addr}
theorem ok_contents {f : Addr} {fd : FuncData} (F : Fun K "contents" "Bench.contents" s_Bench_contents f fd) (T : Txt K mg) (Z : BCls K BC) (ZK : KCls K KC) :
    FnOk P w K mg base CX0 1 f fd ["self", "held"] (spCont K BC KC HC) := by
  refine F.ok sc_Bench_contents (fun vs H Q E h => ?_) (fun cdv A outer sh H vs Q E hr h => ?_)
  · obtain ⟨be, _, _, _, _, _, _, _, _, _, _, _, _, _, _, rfl, _⟩ := h
    rfl
  · obtain ⟨be, sa, la, ha, ea, eo, ls, os, b, rl, fs, n, cs, av, held, rfl, ⟨bdx, kv, hbe, kd⟩, I, hsa, ho, lC, f3, q⟩ := h
    refine ⟨_, (pss_cons (ps_setLc (i := 5) (own := [("name", 2), ("sort", 3), ("need", 4)]) (g := (gTup K 3 (gCons (gName 2) (gCons (gName 3) (gCons (gName 4) gNil))))) (tt := tYes) rfl sc_Bench_contents.nd rfl rfl (sw_true rfl rfl rfl (by decide +kernel)) (pi_tup (pe_fld (pe_fld (pv 0) rfl) rfl)) (blkOk_by (own := [("name", 2), ("sort", 3), ("need", 4)]) (N := ["self", "held", "name", "sort", "need", "sorts", "content"]) (sc := defScope s_Bench_contents) (by decide +kernel)) (fun _ _ _ _ _ => (pg_tup (by rfl) (pgs_cons (pg_name (i := 2) sc_Bench_contents.nd rfl (Or.inl rfl)) (pgs_cons (pg_name (i := 3) sc_Bench_contents.nd rfl (Or.inl rfl)) (pgs_cons (pg_name (i := 4) sc_Bench_contents.nd rfl (Or.inl rfl)) pgs_nil))))) (fun _ _ _ _ _ => pts_nil) (fun _ _ _ _ _ => (pv 3)))
(pss_one (ps_ret (pe_lc (own := [("content", 6), ("sort", 3)]) (g := (gTup K 2 (gCons (gName 6) (gCons (gName 3) gNil)))) (tt := tYes) rfl sc_Bench_contents.nd (pi_zip (by rfl) T.zip (pa_cons (pv 1) (pa_cons (pv 5) pa_nil))) (blkOk_by (own := [("content", 6), ("sort", 3)]) (N := ["self", "held", "name", "sort", "need", "sorts", "content"]) (sc := defScope s_Bench_contents) (by decide +kernel)) (fun _ _ _ _ _ => (pg_tup (by rfl) (pgs_cons (pg_name (i := 6) sc_Bench_contents.nd rfl (Or.inl rfl)) (pgs_cons (pg_name (i := 3) sc_Bench_contents.nd rfl (Or.inl rfl)) pgs_nil)))) (fun _ _ _ _ _ => pts_nil) (fun _ _ _ _ _ => (pe_cut (pe_ifExp (pt_cmpR op_eq (pv 3) pe_str (nomark _)) (pv 6) (pe_callTy (call_list_ofK (K := K) rfl) (by rfl) T.list (by decide +kernel) (pa_cons (pe_ix (ix_seqK (K := K) rfl) (pe_fldK (K := K) rfl (pv 0) rfl) (pv 6) (fun _ _ => rfl)) pa_nil))))))))), ?_⟩
    have kd' := kd
    obtain ⟨ka, kdx, so, spt, tb, tt, st, tv, sv, rfl, k1, ⟨ta, rfl, k2⟩, k3, kso, kspt, _⟩ := kd
    have hbe0 := hr_same _ _ hbe
    have lt : tv.length = fs.length := k3.1
    have k2' : SqT K H ta tv := same_t hr_same k2
    refine ⟨_, rfl, be, BC, bdx, _, .ref ka, rfl, hbe0, Z.cls, Z.kind, rfl, ka, KC, kdx, _, .ref ta, rfl, hr_same _ _ k1, ZK.cls, ZK.triples, rfl, ta, rfl, ⟨tv, k2'⟩, fun D hD => ?_⟩
    refine lc_valS (walk_tup (K := K) (a := ta) (xs := tv)) (ys := fs.map fun f => V.str (sortS f.many)) (by rw [List.length_map, lt]) (by rw [lt]; omega) hD (fun H' e => same_t e k2') (fun i x y H2 H3 R hi hy e yy r => ?_) fun H1 e1 D1 => ?_
    · obtain ⟨rfl, hx⟩ := yy
      obtain ⟨fd', hfd, u, rfl, hu⟩ := k3.get hx
      rw [List.getElem?_map, hfd] at hy
      cases hy
      refine ⟨u, _, rfl, same_t (hr_same.trans e) hu, rfl, _, _, rfl, _, _, rfl, _, _, rfl, rfl, rfl, _, rfl, r _ (Same.refl _)⟩
    have nD := I.fresh hD
    have hsa1 := e1 _ _ hsa
    have sq1 : SqL K H1 sa (held.map Sl.v) := SqL.of hsa1
    refine ⟨_, rfl, _, rfl, sa, D, _, _, rfl, sq1, SqL.of D1, fun D2 hD2 => ?_⟩
    have lh : held.length = fs.length := ho.1
    have n2 : ∀ {a : Addr} {o : HO}, H1 a = some o → a ≠ D2 := fun h q => by rw [q, hD2] at h; cases h
    have hD0 : H D2 = none := none_of e1 hD2
    refine lc_it (walk_zip (K := K) (a := sa) (b := D) (xs := held.map Sl.v) (ys := fs.map fun f => V.str (sortS f.many)) (n := fs.length) (by rw [List.length_map, List.length_map, lh, Nat.min_self])) (fun i Hi => Same H1 Hi ∧ ∃ cvs L, Hi D2 = some (.lst cvs) ∧ AlL (CtW (Off D2 Hi)) cvs ((held.take i).map (ctOf b.lists)) L ∧ (∀ a ∈ D2 :: L, H a = none) ∧ (D2 :: L).Nodup ∧ ∀ a ∈ L, Hi a ≠ none)
      ⟨same_new (Same.refl H1) hD2, [], [], upd_same, rfl, fun a ha => by rw [List.mem_singleton.mp ha]; exact hD0, by simp, nofun⟩ (fun i Hi _ h => ⟨h.1.seq sq1, SqL.of (h.1 _ _ D1)⟩) ?_ ?_
    · rintro i v H2 H3 hi ⟨e2, cvs, L, d2, al, fr, nd, lv⟩ ⟨U, y1, y2, rfl, hU, rfl, h1, h2⟩
      have h1 : (held.map Sl.v)[i]? = some y1 := h1
      rw [List.getElem?_map] at h1
      obtain ⟨s, hs, rfl⟩ := Option.map_eq_some_iff.mp h1
      have h2 : (fs.map fun f => V.str (sortS f.many))[i]? = some y2 := h2
      rw [List.getElem?_map] at h2
      obtain ⟨fd', hfd, rfl⟩ := Option.map_eq_some_iff.mp h2
      have e3 := same_new (Same.refl H2) hU (o := .tup [s.v, .str (sortS fd'.many)])
      have U3 : upd H2 U (.tup [s.v, .str (sortS fd'.many)]) U = some (.tup [s.v, .str (sortS fd'.many)]) := upd_same
      have d3 := e3 _ _ d2
      have al3 := al.mono fun _ _ _ h => CtW.keep (same_off (s := D2) e3) h
      have lv3 : ∀ a ∈ L, upd H2 U (.tup [s.v, .str (sortS fd'.many)]) a ≠ none := fun a ha => by
        cases z : H2 a with
        | none => exact absurd z (lv a ha)
        | some o => rw [e3 _ _ z]; exact nofun
      have e13 := e2.trans e3
      generalize upd H2 U (.tup [s.v, .str (sortS fd'.many)]) = H4 at e3 U3 d3 al3 lv3 e13
      have so' := ho.2 i s fd' hs hfd
      have tk : (held.take (i + 1)).map (ctOf b.lists) = (held.take i).map (ctOf b.lists) ++ [ctOf b.lists s] := by
        rw [List.take_add_one, hs, List.map_append]
        rfl
      have clen : cvs.length = i := by
        rw [al.len, List.length_map, List.length_take, lh]
        omega
      refine ⟨U, _, rfl, SqT.of U3, rfl, _, _, rfl, _, _, rfl, rfl, ?_⟩
      have fin : ∀ (y : V) (H5 : Hp) (M : List Addr), Same H4 H5 → CtW (Off D2 H5) y (ctOf b.lists s) M → (∀ a ∈ M, H4 a = none ∧ H5 a ≠ none) → M.Nodup → ∃ acc, H5 D2 = some (.lst acc) ∧ acc.length < sizeLine ∧ Same H1 (upd H5 D2 (.lst (acc ++ [y]))) ∧ ∃ cvs L, upd H5 D2 (.lst (acc ++ [y])) D2 = some (.lst cvs) ∧ AlL (CtW (Off D2 (upd H5 D2 (.lst (acc ++ [y]))))) cvs ((held.take (i + 1)).map (ctOf b.lists)) L ∧ (∀ a ∈ D2 :: L, H a = none) ∧ (D2 :: L).Nodup ∧ ∀ a ∈ L, upd H5 D2 (.lst (acc ++ [y])) a ≠ none := fun y H5 M e5 cw fm nm => by
        have live : ∀ {a : Addr}, H5 a ≠ none → upd H5 D2 (.lst (cvs ++ [y])) a ≠ none := fun {a} h => by
          by_cases z : a = D2
          · rw [z, upd_same]
            exact nofun
          · rw [upd_ne z]
            exact h
        have l5 : ∀ a ∈ L, H5 a ≠ none := fun a ha => by
          cases z : H4 a with
          | none => exact absurd z (lv3 a ha)
          | some o => rw [e5 _ _ z]; exact nofun
        refine ⟨cvs, e5 _ _ d3, by rw [clen, sizeLine_eq]; omega, fun c o hc => ?_, cvs ++ [y], L ++ M, upd_same, ?_, ?_, ?_, ?_⟩
        · rw [upd_ne (n2 hc)]
          exact e5 _ _ (e13 _ _ hc)
        · rw [tk, off_put]
          exact (al3.mono fun _ _ _ h => CtW.keep (same_off (s := D2) e5) h).snoc cw
        · intro a ha
          rcases List.mem_cons.mp ha with rfl | ha
          · exact hD0
          rcases List.mem_append.mp ha with ha | ha
          · exact fr a (List.mem_cons_of_mem _ ha)
          · exact none_of (e1.trans e13) (fm a ha).1
        · rw [← List.cons_append, List.nodup_append]
          refine ⟨nd, nm, fun a ha c hc e => ?_⟩
          subst e
          have z := (fm a hc).1
          rcases List.mem_cons.mp ha with rfl | ha
          · rw [d3] at z
            cases z
          · exact lv3 a ha z
        · intro a ha
          rcases List.mem_append.mp ha with ha | ha
          · exact live (l5 a ha)
          · exact live (fm a ha).2
      refine ⟨rfl, fun y H5 => ∃ M, Same H4 H5 ∧ CtW (Off D2 H5) y (ctOf b.lists s) M ∧ (∀ a ∈ M, H4 a = none ∧ H5 a ≠ none) ∧ M.Nodup, ⟨_, rfl, rfl, _, rfl, ?_⟩, ?_⟩
      · rw [sort_one]
        refine ite2 (fun g => ?_) (fun g => ?_)
        · rw [Bool.not_eq_true'] at g
          cases s with
          | l k =>
            have so' : fd'.many = true := so'.1
            rw [g] at so'
            cases so'
          | w o => exact ⟨_, rfl, [], Same.refl _, ⟨rfl, rfl⟩, nofun, List.nodup_nil⟩
        · rw [Bool.not_eq_true, Bool.not_eq_false'] at g
          cases s with
          | w o =>
            have so' : fd'.many = false := so'
            rw [g] at so'
            cases so'
          | l k =>
            have hk : k < b.lists.length := so'.2
            obtain ⟨wa, hw1, hw2, hw3⟩ := (I.keep (e1.trans e13)).l hk
            have I4 := I.keep (e1.trans e13)
            refine ⟨_, rfl, be, BC, bdx, _, .ref la, rfl, (e1.trans e13) _ _ hbe0, Z.cls, Z.lists, rfl, _, rfl, .inl ⟨la, _, _, _, rfl, rfl, SqL.of I4.lah, atI_nat hw2, wa, _, rfl, .inl (SqL.of hw3), fun l hl => ?_⟩⟩
            refine ⟨[l], same_new (Same.refl H4) hl, ⟨l, rfl, ?_, rfl⟩, fun a ha => ?_, by simp⟩
            · rw [off_ne (fun q => by rw [q, d3] at hl; cases hl)]
              exact upd_same
            · rw [List.mem_singleton.mp ha]
              exact ⟨hl, by rw [upd_same]; exact nofun⟩
      · rintro y H5 ⟨M, e5, cw, fm, nm⟩
        exact fin y H5 M e5 cw fm nm
    · rintro H2 ⟨e2, cvs, L, d2, al, fr, nd, lv⟩
      rw [← lh, List.take_length] at al
      exact q H2 D2 (D2 :: L) (e1.trans e2) ⟨cvs, L, d2, al.mono fun _ _ _ h => CtW.keep off_same h, rfl, nd⟩ fr
end
end MK
set_option Elab.async false
set_option linter.all false
set_option autoImplicit false
set_option maxRecDepth 100000
set_option maxHeartbeats 4000000
namespace MK
open PySem PySem.Spec PyProof.Rows L2
open C8 (Met pe_mt pe_mt0 Mak pe_mk)
local macro_rules | `(tactic| walk_at "x") => `(tactic| dsimp only [tSeq, tAsg, tRet, tDrop, tLst, tTup, tCons, tOp, tUn, tIfS])
abbrev s_Bench_hand_over : Stmt := inClass (topS 3) 4
theorem sc_Bench_hand_over : FnScope ["self", "handed"] ["self", "handed"] (defScope s_Bench_hand_over) := ⟨rfl, rfl, rfl, by decide +kernel, rfl, by decide +kernel, by decide +kernel⟩
abbrev s_Bench_next_mode : Stmt := inClass (topS 3) 2
theorem sc_Bench_next_mode : FnScope ["self", "row", "handed"] ["self", "row"] (defScope s_Bench_next_mode) := ⟨rfl, rfl, rfl, by decide +kernel, rfl, by decide +kernel, by decide +kernel⟩
def earlyOf (b : Bn) : Option Nat → Option (List Ct)
  | none => none
  | some j => match (b.ob j).mode with
    | none => some ((b.ob j).held.map (ctOf b.lists))
    | some _ => none
theorem early_none {b : Bn} {j : Nat} (h : (b.ob j).mode = none) : earlyOf b (some j) = some ((b.ob j).held.map (ctOf b.lists)) := by
  unfold earlyOf
  simp only [h]
theorem early_some {b : Bn} {j m : Nat} (h : (b.ob j).mode = some m) : earlyOf b (some j) = none := by
  unfold earlyOf
  simp only [h]
/-- what was held early: by its own addresses, that nobody changes -/
def EaI (B : Hp) (evs : List V) (es : List (Option (List Ct))) : Prop := Al (fun v e => match e with
  | none => v = .non
  | some cts => ∃ p L, v = .ref p ∧ CsW B p cts L) evs es
theorem EaI.keep {B B' : Hp} {evs : List V} {es : List (Option (List Ct))} (e : Same B B') (h : EaI B evs es) : EaI B' evs es := h.mono fun v x hx => by
  cases x with
  | none => exact hx
  | some cts =>
    obtain ⟨p, L, h1, h2⟩ := hx
    exact ⟨p, L, h1, h2.keep e⟩
/-- without the objects at M -/
def Wo (M : List Addr) (H : Hp) : Hp := fun a => if a ∈ M then none else H a
theorem wo_get {M : List Addr} {H : Hp} {a : Addr} (n : a ∉ M) : Wo M H a = H a := if_neg n
theorem wo_some {M : List Addr} {H : Hp} {a : Addr} {o : HO} (h : Wo M H a = some o) : a ∉ M ∧ H a = some o := by
  unfold Wo at h
  split at h
  · cases h
  · exact ⟨by assumption, h⟩
theorem wo_same {M : List Addr} {H : Hp} : Same (Wo M H) H := fun a o h => (wo_some h).2
theorem wo_keep {M : List Addr} {H H' : Hp} (e : Same H H') : Same (Wo M H) (Wo M H') := fun a o h => by
  obtain ⟨n, h⟩ := wo_some h
  rw [wo_get n]
  exact e _ _ h
/-- what was held early, none of it at M, where something stands from before -/
def EaM (M : List Addr) (rl : Rl) (H : Hp) (evs : List V) (es : List (Option (List Ct))) : Prop := (∀ a ∈ M, Hr rl H a ≠ none) ∧ EaI (Wo M (Hr rl H)) evs es
theorem EaM.keep {M : List Addr} {rl rl' : Rl} {H H' : Hp} {evs : List V} {es : List (Option (List Ct))} (e : Same (Hr rl H) (Hr rl' H')) (h : EaM M rl H evs es) : EaM M rl' H' evs es := by
  refine ⟨fun a ha z => ?_, h.2.keep (wo_keep e)⟩
  cases q : Hr rl H a with
  | none => exact h.1 a ha q
  | some o =>
    rw [e _ _ q] at z
    cases z
theorem alL_sub {α : Type} {R S : V → α → List Addr → Prop} : ∀ {xs : List V} {ys : List α} {L : List Addr}, (∀ x y M, (∀ b ∈ M, b ∈ L) → R x y M → S x y M) → AlL R xs ys L → AlL S xs ys L
  | [], [], _, _, h => h
  | _ :: _, _ :: _, _, f, ⟨M1, M2, e, r, h⟩ => ⟨M1, M2, e, f _ _ _ (fun b hb => by rw [e]; exact List.mem_append_left _ hb) r, alL_sub (fun x y M hM => f x y M fun b hb => by rw [e]; exact List.mem_append_right _ (hM b hb)) h⟩
  | [], _ :: _, _, _, h => h.elim
  | _ :: _, [], _, _, h => h.elim
theorem CsW.hr {rl : Rl} {H : Hp} {p : Addr} {cts : List Ct} {L : List Addr} (h : CsW H p cts L) (n : ∀ a ∈ L, rl a = none) : CsW (Hr rl H) p cts L := by
  obtain ⟨cvs, M, h1, h2, rfl, h4⟩ := h
  refine ⟨cvs, M, hr_get h1 (n p List.mem_cons_self), alL_sub (fun x y N hN r => ?_) h2, rfl, h4⟩
  cases y with
  | w o => exact r
  | l ws =>
    obtain ⟨a, r1, r2, r3⟩ := r
    subst r3
    exact ⟨a, r1, hr_get r2 (n a (List.mem_cons_of_mem _ (hN a List.mem_cons_self))), rfl⟩
theorem CsW.wo {M : List Addr} {H : Hp} {p : Addr} {cts : List Ct} {L : List Addr} (h : CsW H p cts L) (n : ∀ a ∈ L, a ∉ M) : CsW (Wo M H) p cts L := by
  obtain ⟨cvs, N, h1, h2, rfl, h4⟩ := h
  refine ⟨cvs, N, (wo_get (n p List.mem_cons_self)).trans h1, alL_sub (fun x y N' hN r => ?_) h2, rfl, h4⟩
  cases y with
  | w o => exact r
  | l ws =>
    obtain ⟨a, r1, r2, r3⟩ := r
    subst r3
    exact ⟨a, r1, (wo_get (n a (List.mem_cons_of_mem _ (hN a List.mem_cons_self)))).trans r2, rfl⟩
theorem EaM.snocN {M : List Addr} {rl : Rl} {H : Hp} {evs : List V} {es : List (Option (List Ct))} (h : EaM M rl H evs es) : EaM M rl H (evs ++ [.non]) (es ++ [none]) := ⟨h.1, h.2.snoc rfl⟩
theorem EaM.snocS {M : List Addr} {rl : Rl} {H : Hp} {evs : List V} {es : List (Option (List Ct))} {p : Addr} {cts : List Ct} {L : List Addr} (h : EaM M rl H evs es) (cw : CsW (Hr rl H) p cts L) (n : ∀ a ∈ L, a ∉ M) : EaM M rl H (evs ++ [.ref p]) (es ++ [some cts]) := ⟨h.1, h.2.snoc ⟨p, L, rfl, cw.wo n⟩⟩
def spHand (K : PySem.W.Frag) (BC KC HC : Addr) : Sp := fun vs H Q _ => ∃ (be la ha ea : Addr) (evs : List V) (M : List Addr) (ls : List Addr) (os : Os) (b : Bn) (rl : Rl) (fs : List FD) (n : Nat) (cs : List CD) (av : Bool) (A B C : Nat) (r : Option Nat), vs = [.ref be, handV os r] ∧ BeA K BC KC (Hr rl H) be fs n cs av la ha ea ∧ BnI (pRep HC) rl H la ha ea (.lst evs) ls os b ∧ EaM M rl H evs b.early ∧
  W0 fs n A B C b ∧ C ≤ 1000 ∧ fs.length ≤ 3 ∧ b.hand.length ≤ 1000 ∧ b.early.length ≤ 1000 ∧ (∀ j, r = some j → j < b.obs.length) ∧
  ∀ rl' H' evs', Fr rl H rl' H' → BnI (pRep HC) rl' H' la ha ea (.lst evs') ls os (b.push r (earlyOf b r)) → EaM M rl' H' evs' (b.early ++ [earlyOf b r]) → Q .non H'
section
variable {P : Program} {w : World} {K : PySem.W.Frag} {mg : Str → Option Value} {base : Heap} {BC KC HC : Addr}
theorem ok_hand {f : Addr} {fd : FuncData} (F : Fun K "hand_over" "Bench.hand_over" s_Bench_hand_over f fd) (T : Txt K mg) (Z : BCls K BC) (ZH : HCls K HC) (m_contents : Met P w K mg base 1 BC "contents" (spCont K BC KC HC) []) :
    FnOk P w K mg base CX0 2 f fd ["self", "handed"] (spHand K BC KC HC) := by
  refine F.ok sc_Bench_hand_over (fun vs H Q E h => ?_) (fun cdv A outer sh H vs Q E hr h => ?_)
  · obtain ⟨be, _, _, _, _, _, _, _, _, _, _, _, _, _, _, _, _, _, rfl, _⟩ := h
    rfl
  · obtain ⟨be, la, ha, ea, evs, M, ls, os, b, rl, fs, n, cs, av, A0, B0, C0, r, rfl, ⟨bdx, kv, hbe, kd⟩, I, ei, w0, lC, f3, lh, le, hj, q⟩ := h
    refine ⟨_, (pss_cons (ps_expr (pe_bm PySem.F.plainAttrs_list PySem.F.slot_list_append PySem.F.type_list_append mt_append (pe_fld (pv 0) rfl) (pa_cons (pv 1) pa_nil)))
(pss_one (ps_if (pt_cut (PW.pt (pw_and (pt_cmpR op_notN (pv 1) pe_non (nomark _)) (pw_and1 (pt_cmpR op_isN (pe_fld (pv 1) rfl) pe_non (nomark _))))))
(pss_one (ps_expr (pe_bm PySem.F.plainAttrs_list PySem.F.slot_list_append PySem.F.type_list_append mt_append (pe_fld (pv 0) rfl) (pa_cons (pe_mt m_contents hr (by decide) (pv 0) (pa_cons (pe_fld (pv 1) rfl) pa_nil)) pa_nil))))
(pss_one (ps_expr (pe_bm PySem.F.plainAttrs_list PySem.F.slot_list_append PySem.F.type_list_append mt_append (pe_fld (pv 0) rfl) (pa_cons pe_non pa_nil))))))), ?_⟩
    have hbe0 := hr_same _ _ hbe
    obtain ⟨J, fr⟩ := I.pushH (r := r) (fun j e => by rw [I.ol]; exact hj j e)
    refine ⟨_, rfl, be, BC, bdx, _, .ref ha, rfl, hbe0, Z.cls, Z.handed, rfl, .inl ⟨rfl, _, SqL.of I.hah⟩, _, rfl, ha, _, _, rfl, rfl, I.hah, ?_, ?_⟩
    · rw [List.length_map, sizeLine_eq]
      omega
    show tSeq _ _ _ _ (upd H ha (.lst (b.hand.map (handV os) ++ [handV os r])))
    generalize upd H ha (.lst (b.hand.map (handV os) ++ [handV os r])) = H1 at J fr
    have be1 := hr_same _ _ (fr _ _ hbe)
    have ei1 := ei.keep fr
    have evl : evs.length = b.early.length := ei.2.1
    have few : evs.length < sizeLine := by
      rw [evl, sizeLine_eq]
      omega
    have non : earlyOf b r = none → Q .non (upd H1 ea (.lst (evs ++ [.non]))) := fun en => by
      obtain ⟨J2, f2⟩ := J.setE (eo' := .lst (evs ++ [.non])) (e' := b.early ++ [none])
      refine q rl _ (evs ++ [.non]) (fr.trans f2) ?_ ?_
      · rw [en]
        exact J2
      · rw [en]
        exact (ei1.keep f2).snocN
    cases r with
    | none =>
      refine ⟨fun t H3 => t = false ∧ H3 = H1, ⟨_, rfl, rfl, _, rfl, ?_⟩, ?_⟩
      · exact iteF ⟨rfl, rfl⟩
      · rintro _ _ ⟨rfl, rfl⟩
        refine iteF ⟨_, rfl, be, BC, bdx, _, .ref ea, rfl, be1, Z.cls, Z.early, rfl, .inl ⟨rfl, _, SqL.of J.eah⟩, ea, _, _, rfl, rfl, J.eah, few, ?_⟩
        exact non rfl
    | some j =>
      have hjj := hj j rfl
      obtain ⟨x, hx, hx1, hx2, hx3⟩ := J.x (j := j) hjj
      have hx1 : H1 x.1 = some (pRep HC (b.ob j).mode x.2.1 x.2.2) := hx1
      have hx2 : H1 x.2.1 = some (.lst ((b.ob j).held.map Sl.v)) := hx2
      rw [hx3]
      refine ⟨fun t H3 => t = (b.ob j).mode.isNone ∧ H3 = H1, ⟨_, rfl, rfl, _, rfl, ?_⟩, ?_⟩
      · refine iteT ⟨_, rfl, x.1, HC, x.2.2, _, mV (b.ob j).mode, rfl, hx1, ZH.cls, ZH.mode, rfl, rfl, _, rfl, ?_, rfl⟩
        cases (b.ob j).mode with
        | none => exact decide_eq_true rfl
        | some m => exact decide_eq_false nofun
      · rintro _ H1 ⟨rfl, rfl⟩
        refine ite2 (fun g => ?_) (fun g => ?_)
        · refine ⟨_, rfl, be, BC, bdx, _, .ref ea, rfl, be1, Z.cls, Z.early, rfl, .inl ⟨rfl, _, SqL.of J.eah⟩, _, rfl, be, bdx, _, rfl, be1, rfl, _, rfl, x.1, HC, x.2.2, _, .ref x.2.1, rfl, hx1, ZH.cls, ZH.held, rfl, ?_⟩
          refine ⟨be, x.2.1, la, ha, ea, .lst evs, ls, os, _, rl, fs, n, cs, av, (b.ob j).held, rfl, ⟨bdx, kv, fr _ _ hbe, kd.keep fr⟩, J, hx2, w0.held _ (ob_mem hjj), fun ws m => Nat.le_trans (w0.wl ws m) lC, f3, fun H3 p L e3 cw frs => ?_⟩
          have J3 := J.keep e3
          have rn : ∀ a ∈ L, rl a = none := fun a ha => J.fresh (frs a ha)
          have en : earlyOf b (some j) = some ((b.ob j).held.map (ctOf b.lists)) := by
            cases hm : (b.ob j).mode with
            | none => exact early_none hm
            | some m =>
              rw [hm] at g
              cases g
          refine ⟨ea, _, _, rfl, rfl, J3.eah, few, ?_⟩
          obtain ⟨J4, f4⟩ := J3.setE (eo' := .lst (evs ++ [.ref p])) (e' := b.early ++ [some ((b.ob j).held.map (ctOf b.lists))])
          have f13 : Same (Hr rl H1) (Hr rl H3) := hr_keep e3
          refine q rl _ (evs ++ [.ref p]) ((fr.trans f13).trans f4) ?_ ?_
          · rw [en]
            exact J4
          · rw [en]
            exact ((ei1.keep f13).keep f4).snocS ((cw.hr rn).keep f4) fun a ha hM => ei1.1 a hM (by
              unfold Hr
              rw [rn a ha]
              exact frs a ha)
        · have en : earlyOf b (some j) = none := by
            cases hm : (b.ob j).mode with
            | some m => exact early_some hm
            | none =>
              rw [hm] at g
              exact absurd rfl g
          refine ⟨_, rfl, be, BC, bdx, _, .ref ea, rfl, be1, Z.cls, Z.early, rfl, .inl ⟨rfl, _, SqL.of J.eah⟩, ea, _, _, rfl, rfl, J.eah, few, ?_⟩
          exact non en
end
end MK
set_option Elab.async false
set_option linter.all false
set_option autoImplicit false
set_option maxRecDepth 100000
set_option maxHeartbeats 4000000
namespace MK
open PySem PySem.Spec PyProof.Rows L2
open C8 (Met pe_mt pe_mt0 Mak pe_mk)
local macro_rules | `(tactic| walk_at "x") => `(tactic| dsimp only [tSeq, tAsg, tRet, tDrop, tLst, tTup, tCons, tOp, tUn, tIfS])
def RwV : Rw → List V
  | .mk => [.str "make"]
  | .call nm k none => [.str nm, .int (k : Nat)]
  | .call nm k (some z) => [.str nm, .int (k : Nat), .str z]
def RowT (K : PySem.W.Frag) (H : Hp) (v : V) (r : Rw) : Prop := Tu K H v (RwV r)
theorem rw_zero {nm : Str} {k : Nat} {wd : Option Str} : atI (RwV (.call nm k wd)) 0 = some (.str nm) := by cases wd <;> rfl
theorem rw_one {nm : Str} {k : Nat} {wd : Option Str} : atI (RwV (.call nm k wd)) 1 = some (.int (k : Nat)) := by cases wd <;> rfl
def nextV (o : Option (Nat × Nat)) : V := match o with
  | none => .int (-1)
  | some p => .int (p.2 : Nat)
theorem callOf_at {cs : List CD} {nm : Str} {c : CD} (h : callOf cs nm = some c) : ∃ i : Nat, cs[i]? = some c ∧ c.nm = nm := by
  obtain ⟨m, e⟩ := callOf_mem h
  obtain ⟨i, hi⟩ := List.mem_iff_getElem?.mp m
  exact ⟨i, hi, e⟩
/-- the call's row of the table -/
theorem table_row {K : PySem.W.Frag} {B H : Hp} {fs : List FD} {n : Nat} {cs : List CD} {sv : List V} {tb : Addr} {nm : Str} {c : CD} (ok : KdOk fs n cs) (al : Al (CdT K B) sv cs) (ht : H tb = some (.dK (tableV cs sv))) (h : callOf cs nm = some c) :
    ∃ ta am dl sa ds, DGet H tb (.str nm) (some (.ref ta)) ∧ SqT K B ta [.str c.nm, .str c.hand, .ref am, .ref dl, .ref sa] ∧ SqT K B am (c.moves.map V.int) ∧ SqT K B dl ds ∧ Al (DeT K B) ds c.deeds ∧ SqT K B sa (c.same.map V.str) := by
  obtain ⟨i, hi, e⟩ := callOf_at h
  obtain ⟨v, hv, m, d, s, ds, ⟨ta, rfl, t1⟩, ⟨am, rfl, t2⟩, ⟨dl, rfl, t3⟩, t4, ⟨sa, rfl, t5⟩⟩ := al.get' hi
  have tv := table_valB ok al hi hv
  rw [e] at tv
  exact ⟨ta, am, dl, sa, ds, tv ▸ DGet.k (k := .inr nm) ht, t1, t2, t3, t4, t5⟩
def spNext (K : PySem.W.Frag) (BC KC HC : Addr) : Sp := fun vs H Q _ => ∃ (be la ha ea : Addr) (rv : V) (eo : HO) (ls : List Addr) (os : Os) (b : Bn) (rl : Rl) (fs : List FD) (n : Nat) (cs : List CD) (av : Bool) (nm : Str) (k : Nat) (wd : Option Str) (c : CD), vs = [.ref be, rv] ∧ BeA K BC KC (Hr rl H) be fs n cs av la ha ea ∧ BnI (pRep HC) rl H la ha ea eo ls os b ∧ KdOk fs n cs ∧
  RowT K (Hr rl H) rv (.call nm k wd) ∧ callOf cs nm = some c ∧ k < b.hand.length ∧ (∀ j, b.hand[k]? = some (some j) → ∃ m, (b.ob j).mode = some m ∧ m < n) ∧ Q (nextV (nextM c b k)) H
section
variable {P : Program} {w : World} {K : PySem.W.Frag} {mg : Str → Option Value} {base : Heap} {BC KC HC : Addr}
theorem ok_next {f : Addr} {fd : FuncData} (F : Fun K "next_mode" "Bench.next_mode" s_Bench_next_mode f fd) (T : Txt K mg) (Z : BCls K BC) (ZK : KCls K KC) (ZH : HCls K HC) :
    FnOk P w K mg base CX0 1 f fd ["self", "row"] (spNext K BC KC HC) := by
  refine F.ok sc_Bench_next_mode (fun vs H Q E h => ?_) (fun cdv A outer sh H vs Q E hr h => ?_)
  · obtain ⟨be, _, _, _, _, _, _, _, _, _, _, _, _, _, _, _, _, _, rfl, _⟩ := h
    rfl
  · obtain ⟨be, la, ha, ea, rv, eo, ls, os, b, rl, fs, n, cs, av, nm, k, wd, c, rfl, ⟨bdx, kv, hbe, kd⟩, I, ok, ⟨ra, rfl, hra⟩, hc, hk, hm, q⟩ := h
    refine ⟨_, (pss_cons (ps_set (i := 2) sc_Bench_next_mode.nd rfl (Or.inl rfl) (pe_ix ix_list (pe_fld (pv 0) rfl) (pe_ix ix_tup (pv 1) pe_int (fun _ _ => rfl)) (fun _ _ => rfl)))
(pss_one (ps_ret (pe_cut (pe_ifExp (pt_cmpR op_isN (pv 2) pe_non (nomark _)) (pe_un un_neg pe_int) (pe_ix ix_tup (pe_ix ix_tup (pe_dget (hu_of hr) (pe_fld (pe_fld (pv 0) rfl) rfl) (pe_ix ix_tup (pv 1) pe_int (fun _ _ => rfl)) (fun _ _ => rfl)) pe_int (fun _ _ => rfl)) (pe_fld (pv 2) rfl) (fun _ _ => rfl))))))), ?_⟩
    have hbe0 := hr_same _ _ hbe
    have hra0 : SqT K H ra (RwV (.call nm k wd)) := same_t hr_same hra
    obtain ⟨ka, kdx, so, spt, tb, tt, st, tv, sv, rfl, k1, k2, k3, kso, kspt, k6, k7, k8⟩ := kd
    have hh : b.hand[k]? = some b.hand[k] := List.getElem?_eq_getElem hk
    have hv : (b.hand.map (handV os))[k]? = some (handV os b.hand[k]) := by rw [List.getElem?_map, hh]; rfl
    have nx : nextM c b k = match b.hand[k] with
      | none => none
      | some j => match (b.ob j).mode with
        | none => none
        | some m => match c.moves.getD m (-1) with
          | .ofNat n => some (j, n)
          | .negSucc _ => none := by
      unfold nextM
      rw [List.getD_eq_getElem?_getD, hh]
      rfl
    refine ⟨_, rfl, be, BC, bdx, _, .ref ha, rfl, hbe0, Z.cls, Z.handed, rfl, _, rfl, ra, _, 1, _, rfl, rfl, hra0, rw_one, ha, _, _, _, rfl, rfl, SqL.of I.hah, atI_nat hv, ?_⟩
    refine ⟨fun v H3 => v = nextV (nextM c b k) ∧ H3 = H, ⟨_, rfl, rfl, _, rfl, ?_⟩, ?_⟩
    · generalize b.hand[k] = r at hh hv nx
      cases r with
      | none =>
        refine iteT ⟨_, rfl, ?_, rfl⟩
        rw [nx]
        rfl
      | some j =>
        obtain ⟨m, hm1, hm2⟩ := hm j hh
        have hj : j < b.obs.length := by rw [← I.ol]; exact I.hj j (List.mem_of_getElem? hh)
        obtain ⟨x, hx, hx1, hx2, hx3⟩ := I.x hj
        rw [hx3]
        rw [hm1] at hx1
        have cm := callOf_mem hc
        have cok := ok.calls c cm.1
        obtain ⟨ta, am, dl, sa, ds, dg, t1, t2, t3, t4, t5⟩ := table_row ok k7 (hr_same _ _ k8) hc
        have ml : m < c.moves.length := by rw [cok.len]; exact hm2
        have mv : c.moves[m]? = some c.moves[m] := List.getElem?_eq_getElem ml
        have mvv : (c.moves.map V.int)[m]? = some (.int c.moves[m]) := by rw [List.getElem?_map, mv]; rfl
        have nx : nextM c b k = match c.moves.getD m (-1) with
          | .ofNat n => some (j, n)
          | .negSucc _ => none := by rw [nx]; simp only [hm1]
        rw [List.getD_eq_getElem?_getD, mv] at nx
        have lo := cok.move _ (List.getElem_mem ml)
        refine iteF ⟨_, rfl, be, BC, bdx, _, .ref ka, rfl, hbe0, Z.cls, Z.kind, rfl, ka, KC, kdx, _, .ref tb, rfl, hr_same _ _ k1, ZK.cls, ZK.table, rfl, _, rfl, ra, _, 0, _, rfl, rfl, hra0, rw_zero, tb, .ref ta, rfl, dg, ta, _, 2, .ref am, rfl, rfl, same_t hr_same t1, rfl, _, rfl, x.1, HC, x.2.2, _, mV (some m), rfl, hx1, ZH.cls, ZH.mode, rfl, am, _, _, _, rfl, rfl, same_t hr_same t2, atI_nat mvv, ?_, rfl⟩
        rw [nx]
        generalize c.moves[m] = z at lo
        cases z with
        | ofNat z => rfl
        | negSucc z =>
          have : z = 0 := by
            have := lo.1
            omega
          subst this
          rfl
    · rintro _ _ ⟨rfl, rfl⟩
      exact q
end
end MK
set_option Elab.async false
set_option linter.all false
set_option autoImplicit false
set_option maxRecDepth 100000
set_option maxHeartbeats 4000000
namespace MK
open PySem PySem.Spec PyProof.Rows L2
open C8 (Met pe_mt pe_mt0 Mak pe_mk)
local macro_rules | `(tactic| walk_at "x") => `(tactic| dsimp only [tSeq, tAsg, tRet, tDrop, tLst, tTup, tCons, tOp, tUn, tIfS])
abbrev s_Bench_do_call : Stmt := inClass (topS 3) 3
theorem sc_Bench_do_call : FnScope ["self", "row", "mode", "name", "hand", "moves", "deeds", "same", "maker"] ["self", "row", "mode"] (defScope s_Bench_do_call) := ⟨rfl, rfl, rfl, by decide +kernel, rfl, by decide +kernel, by decide +kernel⟩
theorem made_ob {HC : Addr} {rl1 : Rl} {H1 : Hp} {la ha ea : Addr} {eo : HO} {ls : List Addr} {os : Os} {b1 : Bn} {B : Hp} {x dx p : Addr} {held : List Sl} (m : Option Nat) (I : BnI (pRep HC) rl1 H1 la ha ea eo ls os b1) (hx : H1 x = none) (hdx : H1 dx = none) (np : rl1 p = none) (hp : H1 p = some (.lst (held.map Sl.v))) (fr : Same B (Hr rl1 H1)) (hB : B p = none) :
    ∃ rl2, BnI (pRep HC) rl2 (upd (upd (upd H1 dx (.own x)) x (.ins HC dx [])) x (.ins HC dx [("mode", mV m), ("held", .ref p)])) la ha ea eo ls (os ++ [(x, p, dx)]) { b1 with obs := b1.obs ++ [⟨m, held⟩] } ∧ Same B (Hr rl2 (upd (upd (upd H1 dx (.own x)) x (.ins HC dx [])) x (.ins HC dx [("mode", mV m), ("held", .ref p)]))) := by
  obtain ⟨e3, x3⟩ := made_same (o := .ins HC dx []) (d := .own x) (o2 := .ins HC dx [("mode", mV m), ("held", .ref p)]) hx hdx
  obtain ⟨J, f⟩ := I.newO2 (x := x) (sa := p) (dx := dx) (m := m) (held := held) e3 hx np hp x3
  exact ⟨_, J, f B fr hB⟩
def wvOf (k : Nat) : Option Str → V
  | none => .int (k : Nat)
  | some z => .str z
theorem rw_last {nm : Str} {k : Nat} {wd : Option Str} : atI (RwV (.call nm k wd)) (-1) = some (wvOf k wd) := by cases wd <;> rfl
def spCallB (K : PySem.W.Frag) (BC KC HC : Addr) : Sp := fun vs H Q _ => ∃ (be la ha ea : Addr) (rv : V) (evs : List V) (M : List Addr) (ls : List Addr) (os : Os) (b : Bn) (rl : Rl) (fs : List FD) (n : Nat) (cs : List CD) (av : Bool) (nm : Str) (k : Nat) (wd : Option Str) (c : CD) (A B C j m : Nat), vs = [.ref be, rv, .int (m : Nat)] ∧ BeA K BC KC (Hr rl H) be fs n cs av la ha ea ∧ BnI (pRep HC) rl H la ha ea (.lst evs) ls os b ∧ EaM M rl H evs b.early ∧ KdOk fs n cs ∧
  RowT K (Hr rl H) rv (.call nm k wd) ∧ callOf cs nm = some c ∧ nextM c b k = some (j, m) ∧ W0 fs n A B C b ∧ A + 10 ≤ 90000 ∧ C + 4 ≤ 1000 ∧ b.hand.length ≤ 1000 ∧ b.early.length ≤ 1000 ∧ wd.isSome = c.takes ∧ (∀ z, wd = some z → wordB z = true) ∧
  ∀ rl' H' ls' os' evs', Fr rl H rl' H' → BnI (pRep HC) rl' H' la ha ea (.lst evs') ls' os' (doCall av fs c b j m (wd.getD Str.empty)) → EaM M rl' H' evs' (doCall av fs c b j m (wd.getD Str.empty)).early → Q .non H'
theorem cpy_ok {K : PySem.W.Frag} {BC KC HC be la ha ea sp : Addr} {eo : HO} {ls : List Addr} {os : Os} {b : Bn} {rl : Rl} {H : Hp} {fs : List FD} {n : Nat} {cs : List CD} {av : Bool} {A B C j : Nat} {x : Addr × Addr × Addr} {ss : List Str} {R : Addr → Hp → Prop} (mo : Option Nat) (hbe : BeA K BC KC (Hr rl H) be fs n cs av la ha ea) (I : BnI (pRep HC) rl H la ha ea eo ls os b)
    (hx : os[j]? = some x) (hsp : SqT K (Hr rl H) sp (ss.map V.str)) (w0 : W0 fs n A B C b) (lA : A ≤ 90000) (lC : C ≤ 90000) (f3 : fs.length ≤ 3) (q : ∀ rl2 H2 ls2 y p dx, Fr rl H rl2 H2 → BnI (pRep HC) rl2 H2 la ha ea eo ls2 (os ++ [(y, p, dx)]) (b.newOb mo (cp ss fs (b.ob j).held b.lists)) → R y H2) :
    spCopied K BC KC HC [.ref be, .ref x.2.1, .ref sp] H (fun v H' => ∀ y dx, H' y = none → H' dx = none → dx ≠ y → spHInit K HC [.ref y, mV mo, v] (upd (upd H' dx (.own y)) y (.ins HC dx [])) (fun v H2 => v = .non ∧ R y H2) C8.E0) C8.E0 := by
  refine ⟨be, sp, la, ha, ea, eo, ls, os, b, rl, fs, n, cs, av, j, x, ss, A, B, C, rfl, hbe, I, hx, hsp, w0, lA, lC, f3, fun rl' H' ls' p f1 J hp np pl y dx hy hdx nd => ⟨y, dx, mV mo, .ref p, rfl, upd_same, rfl, ?_⟩⟩
  obtain ⟨rl2, J2, f2⟩ := made_ob (B := Hr rl H) mo J hy hdx np pl f1 (by
    unfold Hr
    rw [I.fresh hp]
    exact hp)
  exact q rl2 _ ls' y p dx f2 J2
theorem handV_last {os : Os} {y p dx : Addr} : handV (os ++ [(y, p, dx)]) (some os.length) = .ref y := by
  show V.ref ((os ++ [(y, p, dx)]).getD os.length _).1 = _
  rw [List.getD_eq_getElem?_getD, List.getElem?_append_right (Nat.le_refl _), Nat.sub_self]
  rfl
section
variable {P : Program} {w : World} {K : PySem.W.Frag} {mg : Str → Option Value} {base : Heap} {BC KC HC : Addr}
theorem ok_callB {f : Addr} {fd : FuncData} (F : Fun K "do_call" "Bench.do_call" s_Bench_do_call f fd) (T : Txt K mg) (Z : BCls K BC) (ZK : KCls K KC) (ZH : HCls K HC) (mk_Handed : Mak P w K mg base 1 "Handed" HC (spHInit K HC) [])
    (m_copied : Met P w K mg base 2 BC "copied" (spCopied K BC KC HC) []) (m_do_deeds : Met P w K mg base 3 BC "do_deeds" (spDeedsB K BC KC HC) []) (m_hand_over : Met P w K mg base 2 BC "hand_over" (spHand K BC KC HC) []) :
    FnOk P w K mg base CX0 4 f fd ["self", "row", "mode"] (spCallB K BC KC HC) := by
  refine F.ok sc_Bench_do_call (fun vs H Q E h => ?_) (fun cdv A outer sh H vs Q E hr h => ?_)
  · obtain ⟨be, _, _, _, _, _, _, _, _, _, _, _, _, _, _, _, _, _, _, _, _, _, _, _, rfl, _⟩ := h
    rfl
  · obtain ⟨be, la, ha, ea, rv, evs, M, ls, os, b, rl, fs, n, cs, av, nm, k, wd, c, A0, B0, C0, j, m, rfl, ⟨bdx, kv, hbe, kd⟩, I, ei, ok, ⟨ra, rfl, hra⟩, hc, hn, w0, lA, lC, lh, le, tk, wok, q⟩ := h
    refine ⟨_, (pss_cons (ps_asg (pe_dget (hu_of hr) (pe_fld (pe_fld (pv 0) rfl) rfl) (pe_ix ix_tup (pv 1) pe_int (fun _ _ => rfl)) (fun _ _ => rfl)) (pg_tup (by rfl) (pgs_cons (pg_name (i := 3) sc_Bench_do_call.nd rfl (Or.inl rfl)) (pgs_cons (pg_name (i := 4) sc_Bench_do_call.nd rfl (Or.inl rfl)) (pgs_cons (pg_name (i := 5) sc_Bench_do_call.nd rfl (Or.inl rfl)) (pgs_cons (pg_name (i := 6) sc_Bench_do_call.nd rfl (Or.inl rfl)) (pgs_cons (pg_name (i := 7) sc_Bench_do_call.nd rfl (Or.inl rfl)) pgs_nil)))))))
(pss_cons (ps_set (i := 8) sc_Bench_do_call.nd rfl (Or.inl rfl) (pe_ix ix_list (pe_fld (pv 0) rfl) (pe_ix ix_tup (pv 1) pe_int (fun _ _ => rfl)) (fun _ _ => rfl)))
(pss_cut (ps_if (pt_val (pe_fld (pv 0) rfl))
(pss_one (ps_set (i := 8) sc_Bench_do_call.nd rfl (Or.inl rfl) (pe_mk mk_Handed hr (by decide) rfl (pa_cons (pv 2) (pa_cons (pe_mt m_copied hr (by decide) (pv 0) (pa_cons (pe_fld (pv 8) rfl) (pa_cons (pe_tup pa_nil) pa_nil))) pa_nil)))))
(pss_one (ps_if (pt_cmpR op_eq (pv 4) pe_str (nomark _))
(pss_one (ps_set (i := 8) sc_Bench_do_call.nd rfl (Or.inl rfl) (pe_mk mk_Handed hr (by decide) rfl (pa_cons (pv 2) (pa_cons (pe_mt m_copied hr (by decide) (pv 0) (pa_cons (pe_fld (pv 8) rfl) (pa_cons (pv 7) pa_nil))) pa_nil)))))
pss_nil)))
(pss_cons (ps_fld (pv 8) (pv 2) rfl)
(pss_cons (ps_expr (pe_mt m_do_deeds hr (by decide) (pv 0) (pa_cons (pe_fld (pv 8) rfl) (pa_cons (pv 6) (pa_cons (pe_ix ix_tup (pv 1) (pe_un un_neg pe_int) (fun _ _ => rfl)) pa_nil)))))
(pss_one (ps_if (pt_cmpR op_eq (pv 4) pe_str (nomark _))
(pss_one (ps_expr (pe_mt m_hand_over hr (by decide) (pv 0) (pa_cons (pe_mk mk_Handed hr (by decide) rfl (pa_cons pe_non (pa_cons (pe_mt m_copied hr (by decide) (pv 0) (pa_cons (pe_fld (pv 8) rfl) (pa_cons (pv 7) pa_nil))) pa_nil))) pa_nil))))
(pss_one (ps_expr (pe_mt m_hand_over hr (by decide) (pv 0) (pa_cons (pv 8) pa_nil))))))))))), ?_⟩
    have hbe0 := hr_same _ _ hbe
    have kd' := kd
    have hra0 : SqT K H ra (RwV (.call nm k wd)) := same_t hr_same hra
    obtain ⟨ka, kdx, so, spt, tb, tt, st, tv, sv, rfl, k1, k2, k3, kso, kspt, k6, k7, k8⟩ := kd
    have cm := callOf_mem hc
    have cok := ok.calls c cm.1
    obtain ⟨ta, am, dl, sa, ds, dg, t1, t2, t3, t4, t5⟩ := table_row ok k7 (hr_same _ _ k8) hc
    obtain ⟨hh, hmj, m0, hm0, hmv⟩ := nextM_some hn
    have hmn := move_lt cok hmv
    have hj : j < b.obs.length := by rw [← I.ol]; exact I.hj j (List.mem_of_getElem? hh)
    obtain ⟨x, hx, hx1, hx2, hx3⟩ := I.x hj
    have hv : (b.hand.map (handV os))[k]? = some (.ref x.1) := by rw [List.getElem?_map, hh, ← hx3]; rfl
    refine ⟨_, rfl, be, BC, bdx, _, .ref ka, rfl, hbe0, Z.cls, Z.kind, rfl, ka, KC, kdx, _, .ref tb, rfl, hr_same _ _ k1, ZK.cls, ZK.table, rfl, _, rfl, ra, _, 0, _, rfl, rfl, hra0, rw_zero, tb, .ref ta, rfl, dg, ta, _, rfl, same_t hr_same t1, rfl, _, _, rfl, _, _, rfl, _, _, rfl, _, _, rfl, _, _, rfl, rfl, ?_⟩
    refine ⟨_, rfl, be, BC, bdx, _, .ref ha, rfl, hbe0, Z.cls, Z.handed, rfl, _, rfl, ra, _, 1, _, rfl, rfl, hra0, rw_one, ha, _, _, _, rfl, rfl, SqL.of I.hah, atI_nat hv, ?_⟩
    have f3 : fs.length ≤ 3 := ok.fields.le
    have be0 : BeA K BC KC (Hr rl H) be fs n cs av la ha ea := ⟨bdx, _, hbe, kd'⟩
    have om := ob_mem hj
    have w1 := pre_w (av := av) (c := c) w0 hj hmn
    have pl := pre_lt (av := av) (fs := fs) (c := c) (b := b) (j := j) (m := m) hj
    have ph := pre_hand (av := av) (fs := fs) (c := c) (b := b) (j := j) (m := m)
    refine ⟨fun σ' H' => ∃ (rl1 : Rl) (ls1 : List Addr) (os1 : Os) (x1 : Addr × Addr × Addr), σ' = [some (.ref be), some (.ref ra), some (.int (m : Nat)), some (.str c.nm), some (.str c.hand), some (.ref am), some (.ref dl), some (.ref sa), some (.ref x1.1)] ∧ Same (Hr rl H) (Hr rl1 H') ∧ BnI (pRep HC) rl1 H' la ha ea (.lst evs) ls1 os1 (pre av fs c b j m).1 ∧ os1[(pre av fs c b j m).2]? = some x1, ⟨_, rfl, be, BC, bdx, _, .bl av, rfl, hbe0, Z.cls, Z.av, rfl, _, rfl, ite2 (fun g => ?_) (fun g => ⟨_, rfl, rfl, _, rfl, ite2 (fun g2 => ?_) (fun g2 => ?_)⟩)⟩, ?_⟩
    · have pe : pre av fs c b j m = (b.newOb (some m) (cp [] fs (b.ob j).held b.lists), b.obs.length) := by
        unfold pre
        rw [if_pos g]
      rw [pe]
      refine ⟨_, rfl, _, rfl, be, bdx, _, rfl, hbe0, rfl, _, rfl, x.1, HC, x.2.2, _, .ref x.2.1, rfl, hx1, ZH.cls, ZH.held, rfl, by show 0 ≤ sizeLine; decide, fun p hp => ?_⟩
      have e1 := same_new (Same.refl H) hp (o := .tup [])
      refine cpy_ok (K := K) (BC := BC) (KC := KC) (be := be) (sp := p) (ss := []) (some m) (be0.keep (hr_keep e1)) (I.keep e1) hx (SqT.of (hr_get upd_same (I.fresh hp))) w0 (by omega) (by omega) f3 fun rl2 H2 ls2 y p' dx f2 J => ?_
      exact ⟨rl2, ls2, _, (y, p', dx), rfl, (hr_keep e1).trans f2, J, by rw [← I.ol, List.getElem?_append_right (Nat.le_refl _), Nat.sub_self]; rfl⟩
    · have e2 := V.str.inj (of_decide_eq_true g2)
      have pe : pre av fs c b j m = (b.newOb (some m) (cp c.same fs (b.ob j).held b.lists), b.obs.length) := by
        unfold pre
        rw [if_neg g, if_pos e2]
      rw [pe]
      refine ⟨_, rfl, _, rfl, be, bdx, _, rfl, hbe0, rfl, _, rfl, x.1, HC, x.2.2, _, .ref x.2.1, rfl, hx1, ZH.cls, ZH.held, rfl, _, rfl, ?_⟩
      refine cpy_ok (K := K) (BC := BC) (KC := KC) (be := be) (sp := sa) (ss := c.same) (some m) be0 I hx t5 w0 (by omega) (by omega) f3 fun rl2 H2 ls2 y p' dx f2 J => ?_
      exact ⟨rl2, ls2, _, (y, p', dx), rfl, f2, J, by rw [← I.ol, List.getElem?_append_right (Nat.le_refl _), Nat.sub_self]; rfl⟩
    · have pe : pre av fs c b j m = (b, j) := by
        unfold pre
        rw [if_neg g, if_neg (fun e => g2 (by rw [e]; exact decide_eq_true rfl))]
      rw [pe]
      exact ⟨rl, ls, os, x, rfl, Same.refl _, I, hx⟩
    · generalize hpr : pre av fs c b j m = pr at w1 pl ph
      obtain ⟨b1, j1⟩ := pr
      rintro _ H1 ⟨rl1, ls1, os1, y, rfl, f1, I1, hy⟩
      have pl1 : j1 < b1.obs.length := pl.1
      have md1 : (b1.ob j1).mode.isSome = true := pl.2 hmj
      have w1 : W0 fs n (A0 + fs.length) (B0 + 1) C0 b1 := w1
      have ph1 : b1.hand = b.hand := ph.1
      have ph2 : b1.early = b.early := ph.2
      have hy1 := I1.oxh j1 y _ hy (ob_get pl1)
      have hy2 := I1.osh j1 y _ hy (ob_get pl1)
      have deq : doCall av fs c b j m (wd.getD Str.empty) = fin fs c (mid fs c b1 j1 m (wd.getD Str.empty)) j1 := by
        unfold doCall
        rw [hpr]
      rw [deq] at q
      clear deq
      refine ⟨_, rfl, _, rfl, y.1, HC, y.2.2, _, rfl, hy1, ZH.cls, ZH.mode, Nat.le_of_ble_eq_true rfl, ?_⟩
      obtain ⟨I2, f2⟩ := I1.modX (m := some m) hy
      show tSeq _ _ _ _ (upd H1 y.1 (pRep HC (some m) y.2.1 y.2.2))
      have hy12 : upd H1 y.1 (pRep HC (some m) y.2.1 y.2.2) y.1 = some (pRep HC (some m) y.2.1 y.2.2) := upd_same
      have w2 : W0 fs n (A0 + fs.length) (B0 + 1) C0 (b1.setMode j1 m) := w1.set (w1.held (b1.ob j1) (ob_mem pl1)) (fun m' e => by cases e; exact hmn) (w1.hw (b1.ob j1) (ob_mem pl1))
      have f12 := f1.trans f2
      have I2 : BnI (pRep HC) rl1 (upd H1 y.1 (pRep HC (some m) y.2.1 y.2.2)) la ha ea (.lst evs) ls1 os1 (b1.setMode j1 m) := I2
      generalize upd H1 y.1 (pRep HC (some m) y.2.1 y.2.2) = H2 at f12 I2 hy12
      have be2 := hr_same _ _ (f12 _ _ hbe)
      have ra2 : SqT K H2 ra (RwV (.call nm k wd)) := same_t (f12.trans hr_same) hra
      refine ⟨_, rfl, be, bdx, _, rfl, be2, rfl, _, rfl, y.1, HC, y.2.2, _, .ref y.2.1, rfl, hy12, ZH.cls, ZH.held, rfl, _, rfl, _, rfl, _, rfl, ra, _, _, _, rfl, rfl, ra2, rw_last, ?_⟩
      have dln : c.deeds.length ≤ 4 := cok.deeds
      refine ⟨be, dl, la, ha, ea, .lst evs, ls1, os1, b1.setMode j1 m, rl1, fs, n, cs, av, A0 + fs.length, B0 + 1, C0, j1, y, ds, c.deeds, wd.getD Str.empty, wvOf k wd, rfl, be0.keep f12, I2, hy, same_t f12 t3, t4.mono fun _ _ h => DeT.keep f12 h, w2, by omega, by omega, ok.fields, cok.deed, dln, fun d dm hd => ?_, row_word tk wok, fun rl3 H3 ls3 f3' I3 => ?_⟩
      · have := takes_w dm hd
        rw [this] at tk
        cases wd with
        | none => cases tk
        | some z => rfl
      · have I3 : BnI (pRep HC) rl3 H3 la ha ea (.lst evs) ls3 os1 (mid fs c b1 j1 m (wd.getD Str.empty)) := I3
        have f13 := f12.trans f3'
        obtain ⟨w3, ol3⟩ := mid_w (c := c) (wd := wd.getD Str.empty) w1 pl1 hmn ok.fields.nd cok.deed (row_word tk wok)
        have md3 := (mid_md (fs := fs) (c := c) (m := m) (wd := wd.getD Str.empty) pl1 md1).md j1 pl1
        have mh := mid_hand (fs := fs) (c := c) (b := b1) (j := j1) (m := m) (wd := wd.getD Str.empty)
        rw [ph1, ph2] at mh
        generalize mid fs c b1 j1 m (wd.getD Str.empty) = b3 at q I3 w3 ol3 md3 mh
        have hj3 : j1 < b3.obs.length := by rw [ol3]; exact pl1
        have hy31 := I3.oxh j1 y _ hy (ob_get hj3)
        have be3 := hr_same _ _ (f13 _ _ hbe)
        have ei3 : EaM M rl3 H3 evs b3.early := by rw [mh.2]; exact ei.keep f13
        refine ⟨_, rfl, rfl, _, rfl, ite2 (fun g => ?_) (fun g => ?_)⟩
        · have eh := V.str.inj (of_decide_eq_true g)
          refine ⟨_, rfl, be, bdx, _, rfl, be3, rfl, _, rfl, be, bdx, _, rfl, be3, rfl, _, rfl, y.1, HC, y.2.2, _, .ref y.2.1, rfl, hy31, ZH.cls, ZH.held, rfl, _, rfl, ?_⟩
          refine cpy_ok (K := K) (BC := BC) (KC := KC) (be := be) (sp := sa) (ss := c.same) none (be0.keep f13) I3 hy (same_t f13 t5) w3 (by omega) (by omega) f3 fun rl4 H4 ls4 z p dz f4 J => ?_
          have fe : fin fs c b3 j1 = (b3.newOb none (cp c.same fs (b3.ob j1).held b3.lists)).push (some b3.obs.length) (earlyOf (b3.newOb none (cp c.same fs (b3.ob j1).held b3.lists)) (some b3.obs.length)) := by
            unfold fin
            rw [if_pos eh, early_none (by rw [ob_new])]
          rw [fe] at q
          have w4 : W0 fs n (A0 + fs.length + c.deeds.length + fs.length) (B0 + 1 + 1) (C0 + c.deeds.length) (b3.newOb none (cp c.same fs (b3.ob j1).held b3.lists)) := w3.new (cp_ok (w3.held _ (ob_mem hj3)) (w3.hw _ (ob_mem hj3)) w3.wl w3.ws) nofun
          refine ⟨be, la, ha, ea, evs, M, ls4, os1 ++ [(z, p, dz)], b3.newOb none (cp c.same fs (b3.ob j1).held b3.lists), rl4, fs, n, cs, av, _, _, _, some b3.obs.length, ?_, be0.keep (f13.trans f4), J, ei3.keep f4, w4, by omega, f3, ?_, ?_, fun j' e => ?_, fun rl5 H5 evs5 f5 J5 ei5 => ?_⟩
          · rw [← I3.ol, handV_last]
            rfl
          · show b3.hand.length ≤ 1000
            rw [mh.1]
            exact lh
          · show b3.early.length ≤ 1000
            rw [mh.2]
            exact le
          · cases e
            rw [len_new]
            exact Nat.lt_succ_self _
          · exact q _ _ ls4 _ evs5 ((f13.trans f4).trans f5) J5 ei5
        · have eh : c.hand ≠ ("last" : Str) := fun e => g (by rw [e]; exact decide_eq_true rfl)
          obtain ⟨m3, hm3⟩ := Option.isSome_iff_exists.mp (md3.trans md1)
          have fe : fin fs c b3 j1 = b3.push (some j1) (earlyOf b3 (some j1)) := by
            unfold fin
            rw [if_neg eh, early_some hm3]
          rw [fe] at q
          refine ⟨_, rfl, be, bdx, _, rfl, be3, rfl, _, rfl, ?_⟩
          refine ⟨be, la, ha, ea, evs, M, ls3, os1, b3, rl3, fs, n, cs, av, _, _, _, some j1, ?_, be0.keep f13, I3, ei3, w3, by omega, f3, ?_, ?_, fun j' e => by cases e; exact hj3, fun rl5 H5 evs5 f5 J5 ei5 => q _ _ ls3 _ evs5 (f13.trans f5) J5 ei5⟩
          · show [V.ref be, V.ref y.1] = [V.ref be, V.ref (os1.getD j1 (0, 0, 0)).1]
            rw [List.getD_eq_getElem?_getD, hy]
            rfl
          · rw [mh.1]
            exact lh
          · rw [mh.2]
            exact le
end
end MK
set_option Elab.async false
set_option linter.all false
set_option autoImplicit false
set_option maxRecDepth 100000
set_option maxHeartbeats 4000000
namespace MK
open PySem PySem.Spec PyProof.Rows L2
open C8 (Met pe_mt pe_mt0 Mak pe_mk)
local macro_rules | `(tactic| walk_at "x") => `(tactic| dsimp only [tSeq, tAsg, tRet, tDrop, tLst, tTup, tCons, tOp, tUn, tIfS])
abbrev s_Bench_do_row : Stmt := inClass (topS 3) 1
theorem sc_Bench_do_row : FnScope ["self", "row", "mode"] ["self", "row"] (defScope s_Bench_do_row) := ⟨rfl, rfl, rfl, by decide +kernel, rfl, by decide +kernel, by decide +kernel⟩
def spRow (K : PySem.W.Frag) (BC KC HC : Addr) : Sp := fun vs H Q _ => ∃ (be la ha ea : Addr) (rv : V) (evs : List V) (M : List Addr) (ls : List Addr) (os : Os) (b : Bn) (rl : Rl) (fs : List FD) (n : Nat) (cs : List CD) (av : Bool) (rs : List Rw) (r : Rw), vs = [.ref be, rv] ∧ BeA K BC KC (Hr rl H) be fs n cs av la ha ea ∧ BnI (pRep HC) rl H la ha ea (.lst evs) ls os b ∧ EaM M rl H evs b.early ∧ KdOk fs n cs ∧
  RowT K (Hr rl H) rv r ∧ Wf fs n cs rs b ∧ RwOk cs rs r ∧ rs.length ≤ 200 ∧
  ∀ rl' H' ls' os' evs', Fr rl H rl' H' → BnI (pRep HC) rl' H' la ha ea (.lst evs') ls' os' (doRow av fs cs b r) → EaM M rl' H' evs' (doRow av fs cs b r).early → Q .non H'
theorem iteF2 {b : Bool} {X Y : Prop} (e : b = false) (h : Y) : if b = true then X else Y := by
  rw [if_neg (by rw [e]; decide)]
  exact h
section
variable {P : Program} {w : World} {K : PySem.W.Frag} {mg : Str → Option Value} {base : Heap} {BC KC HC : Addr}
theorem ok_row {f : Addr} {fd : FuncData} (F : Fun K "do_row" "Bench.do_row" s_Bench_do_row f fd) (T : Txt K mg) (Z : BCls K BC) (ZK : KCls K KC)
    (m_hand_over : Met P w K mg base 2 BC "hand_over" (spHand K BC KC HC) []) (m_blank_maker : Met P w K mg base 3 BC "blank_maker" (spBlank K BC KC HC) []) (m_next_mode : Met P w K mg base 1 BC "next_mode" (spNext K BC KC HC) []) (m_do_call : Met P w K mg base 4 BC "do_call" (spCallB K BC KC HC) []) :
    FnOk P w K mg base CX0 5 f fd ["self", "row"] (spRow K BC KC HC) := by
  refine F.ok sc_Bench_do_row (fun vs H Q E h => ?_) (fun cdv A outer sh H vs Q E hr h => ?_)
  · obtain ⟨be, _, _, _, _, _, _, _, _, _, _, _, _, _, _, _, _, rfl, _⟩ := h
    rfl
  · obtain ⟨be, la, ha, ea, rv, evs, M, ls, os, b, rl, fs, n, cs, av, rs, r, rfl, ⟨bdx, kv, hbe, kd⟩, I, ei, ok, ⟨ra, rfl, hra⟩, wf, rok, lr, q⟩ := h
    refine ⟨_, (pss_cons (ps_if (pt_cmpR op_eq (pe_callB call_len_seq (by rfl) T.len (by decide +kernel) (pa_cons (pv 1) pa_nil)) pe_int (nomark _))
(pss_cons (ps_expr (pe_mt m_hand_over hr (by decide) (pv 0) (pa_cons (pe_mt0 m_blank_maker hr (by decide) (pv 0)) pa_nil)))
(pss_one ps_retN))
pss_nil)
(pss_cons (ps_set (i := 2) sc_Bench_do_row.nd rfl (Or.inl rfl) (pe_mt m_next_mode hr (by decide) (pv 0) (pa_cons (pv 1) pa_nil)))
(pss_one (ps_if (pt_cmpR op_eq (pv 2) (pe_un un_neg pe_int) (nomark _))
(pss_one (ps_expr (pe_mt m_hand_over hr (by decide) (pv 0) (pa_cons pe_non pa_nil))))
(pss_one (ps_expr (pe_mt m_do_call hr (by decide) (pv 0) (pa_cons (pv 1) (pa_cons (pv 2) pa_nil))))))))), ?_⟩
    have hbe0 := hr_same _ _ hbe
    have be0 : BeA K BC KC (Hr rl H) be fs n cs av la ha ea := ⟨bdx, kv, hbe, kd⟩
    have hra0 : SqT K H ra (RwV r) := same_t hr_same hra
    have f3 : fs.length ≤ 3 := ok.fields.le
    have w0 := wf.w
    have lh := wf.hl
    have le := wf.el
    refine ⟨_, rfl, ra, _, rfl, .inr hra0, rfl, _, rfl, ?_⟩
    cases r with
    | mk =>
      refine iteT ?_
      refine ⟨_, rfl, be, bdx, _, rfl, hbe0, rfl, _, rfl, be, bdx, _, rfl, hbe0, rfl, ?_⟩
      refine ⟨be, la, ha, ea, .lst evs, ls, os, b, rl, fs, n, cs, av, _, _, _, rfl, be0, I, w0, by omega, by omega, f3, fun rl2 H2 ls2 x f2 J => ?_⟩
      have w2 : W0 fs n (10 * rs.length + fs.length) (2 * rs.length + 1) (4 * rs.length) (b.newOb (some 0) (blank fs b.lists)) := w0.new (blank_ok w0.wl w0.ws) (fun m' e => by cases e; exact ok.pos)
      have en : earlyOf (b.newOb (some 0) (blank fs b.lists)) (some b.obs.length) = none := early_some (m := 0) (by rw [ob_new])
      refine ⟨be, la, ha, ea, evs, M, ls2, os ++ [x], b.newOb (some 0) (blank fs b.lists), rl2, fs, n, cs, av, _, _, _, some b.obs.length, ?_, be0.keep f2, J, ei.keep f2, w2, by omega, f3, ?_, ?_, fun j' e => ?_, fun rl5 H5 evs5 f5 J5 ei5 => ?_⟩
      · rw [← I.ol, show os ++ [x] = os ++ [(x.1, x.2.1, x.2.2)] from rfl, handV_last]
        rfl
      · show b.hand.length ≤ 1000
        omega
      · show b.early.length ≤ 1000
        omega
      · cases e
        rw [len_new]
        exact Nat.lt_succ_self _
      · rw [en] at J5 ei5
        exact q _ _ ls2 _ evs5 (f2.trans f5) J5 ei5
    | call nm k wd =>
      obtain ⟨c, hc, ⟨r', hr', hl'⟩, tk, wok⟩ := rok
      refine iteF2 (by cases wd <;> rfl) ?_
      have hk : k < b.hand.length := by
        rw [lh]
        exact (List.getElem?_eq_some_iff.mp hr').1
      refine ⟨_, rfl, be, bdx, _, rfl, hbe0, rfl, _, rfl, ?_⟩
      refine ⟨be, la, ha, ea, .ref ra, .lst evs, ls, os, b, rl, fs, n, cs, av, nm, k, wd, c, rfl, be0, I, ok, ⟨ra, rfl, hra⟩, hc, hk, fun j hj => ?_, ?_⟩
      · have mk := wf.mkr k r' j hr' hj
        rw [hl'] at mk
        obtain ⟨m, hm⟩ := Option.isSome_iff_exists.mp mk
        exact ⟨m, hm, w0.mode _ (ob_mem (wf.hand k j hj)) m hm⟩
      · have dr : doRow av fs cs b (.call nm k wd) = match nextM c b k with
          | none => b.push none none
          | some (j, m) => doCall av fs c b j m (wd.getD Str.empty) := by
          unfold doRow
          simp only [hc]
          all_goals (cases nextM c b k <;> rfl)
        cases hn : nextM c b k with
        | none =>
          rw [hn] at dr
          have dr : doRow av fs cs b (.call nm k wd) = b.push none none := dr
          refine ⟨_, rfl, _, rfl, rfl, _, rfl, iteT ?_⟩
          refine ⟨_, rfl, be, bdx, _, rfl, hbe0, rfl, ?_⟩
          rw [dr] at q
          exact ⟨be, la, ha, ea, evs, M, ls, os, b, rl, fs, n, cs, av, _, _, _, none, rfl, be0, I, ei, w0, by omega, f3, by omega, by omega, nofun, fun rl5 H5 evs5 f5 J5 ei5 => q _ _ ls _ evs5 f5 J5 ei5⟩
        | some p =>
          obtain ⟨j, m⟩ := p
          rw [hn] at dr
          have dr : doRow av fs cs b (.call nm k wd) = doCall av fs c b j m (wd.getD Str.empty) := dr
          refine ⟨_, rfl, _, rfl, rfl, _, rfl, iteF2 (decide_eq_false fun e => by
            have := V.int.inj e
            omega) ?_⟩
          refine ⟨_, rfl, be, bdx, _, rfl, hbe0, rfl, _, rfl, _, rfl, ?_⟩
          rw [dr] at q
          exact ⟨be, la, ha, ea, .ref ra, evs, M, ls, os, b, rl, fs, n, cs, av, nm, k, wd, c, _, _, _, j, m, rfl, be0, I, ei, ok, ⟨ra, rfl, hra⟩, hc, hn, w0, by omega, by omega, by omega, by omega, tk, wok, fun rl5 H5 ls5 os5 evs5 f5 J5 ei5 => q _ _ ls5 os5 evs5 f5 J5 ei5⟩
end
end MK
set_option Elab.async false
set_option linter.all false
set_option autoImplicit false
set_option maxRecDepth 100000
set_option maxHeartbeats 4000000
namespace MK
open PySem PySem.Spec PyProof.Rows L2
open C8 (Met pe_mt pe_mt0 Mak pe_mk)
local macro_rules | `(tactic| walk_at "x") => `(tactic| dsimp only [tSeq, tAsg, tRet, tDrop, tLst, tTup, tCons, tOp, tUn, tIfS])
abbrev s_Bench_told : Stmt := inClass (topS 3) 11
theorem sc_Bench_told : FnScope ["self", "k", "handed", "contents"] ["self", "k"] (defScope s_Bench_told) := ⟨rfl, rfl, rfl, by decide +kernel, rfl, by decide +kernel, by decide +kernel⟩
abbrev s_Bench_told_all : Stmt := inClass (topS 3) 13
theorem sc_Bench_told_all : FnScope ["self", "k"] ["self"] (defScope s_Bench_told_all) := ⟨rfl, rfl, rfl, by decide +kernel, rfl, by decide +kernel, by decide +kernel⟩
def toldOf (b : Bn) : Option Nat → Option (Option Nat × List Ct)
  | none => none
  | some j => some ((b.ob j).mode, (b.ob j).held.map (ctOf b.lists))
/-- what is told of a row: nothing, a product, a maker with its mode -/
def ToW (H : Hp) (v : V) (d : Option (Option Nat × List Ct)) (L : List Addr) : Prop := match d with
  | none => v = .non ∧ L = []
  | some (none, cts) => ∃ t p, v = .ref t ∧ H t = some (.tup [.str "product", .ref p]) ∧ CsW H p cts L
  | some (some m, cts) => ∃ t p, v = .ref t ∧ H t = some (.tup [.str "maker", .int (m : Nat), .ref p]) ∧ CsW H p cts L
theorem ToW.keep {H H' : Hp} {v : V} {d : Option (Option Nat × List Ct)} {L : List Addr} (e : Same H H') (h : ToW H v d L) : ToW H' v d L := by
  match d with
  | none => exact h
  | some (none, cts) =>
    obtain ⟨t, p, h1, h2, h3⟩ := h
    exact ⟨t, p, h1, e _ _ h2, h3.keep e⟩
  | some (some m, cts) =>
    obtain ⟨t, p, h1, h2, h3⟩ := h
    exact ⟨t, p, h1, e _ _ h2, h3.keep e⟩
theorem CsW.nd {H : Hp} {p : Addr} {cts : List Ct} {L : List Addr} (h : CsW H p cts L) : L.Nodup := by
  obtain ⟨_, _, _, _, rfl, h⟩ := h
  exact h
theorem CsW.live {H : Hp} {p : Addr} {cts : List Ct} {L : List Addr} (h : CsW H p cts L) : ∀ a ∈ L, H a ≠ none := by
  obtain ⟨cvs, M, h1, h2, rfl, _⟩ := h
  have key : ∀ {xs : List V} {ys : List Ct} {N : List Addr}, AlL (CtW H) xs ys N → ∀ a ∈ N, H a ≠ none := by
    intro xs
    induction xs with
    | nil =>
      intro ys N h a ha
      cases ys with
      | nil =>
        rw [show N = [] from h] at ha
        cases ha
      | cons y ys => exact h.elim
    | cons x xs ih =>
      intro ys N h a ha
      cases ys with
      | nil => exact h.elim
      | cons y ys =>
        obtain ⟨L1, L2, rfl, r, h⟩ := h
        rcases List.mem_append.mp ha with ha | ha
        · cases y with
          | w o =>
            rw [show L1 = [] from r.2] at ha
            cases ha
          | l ws =>
            obtain ⟨b, _, r2, r3⟩ := r
            rw [r3] at ha
            rw [List.mem_singleton.mp ha, r2]
            exact nofun
        · exact ih h a ha
  intro a ha
  rcases List.mem_cons.mp ha with rfl | ha
  · rw [h1]
    exact nofun
  · exact key h2 a ha
theorem ToW.nd {H : Hp} {v : V} {d : Option (Option Nat × List Ct)} {L : List Addr} (h : ToW H v d L) : L.Nodup ∧ ∀ a ∈ L, H a ≠ none := by
  match d with
  | none =>
    rw [show L = [] from h.2]
    exact ⟨List.nodup_nil, nofun⟩
  | some (none, cts) =>
    obtain ⟨t, p, h1, h2, h3⟩ := h
    exact ⟨h3.nd, h3.live⟩
  | some (some m, cts) =>
    obtain ⟨t, p, h1, h2, h3⟩ := h
    exact ⟨h3.nd, h3.live⟩
theorem CsW.off {H : Hp} {p D : Addr} {cts : List Ct} {L : List Addr} (h : CsW H p cts L) (n : ∀ a ∈ L, a ≠ D) : CsW (Off D H) p cts L := by
  obtain ⟨cvs, M, h1, h2, rfl, h4⟩ := h
  refine ⟨cvs, M, (off_ne (n p List.mem_cons_self)).trans h1, alL_sub (fun x y N hN r => ?_) h2, rfl, h4⟩
  cases y with
  | w o => exact r
  | l ws =>
    obtain ⟨a, r1, r2, r3⟩ := r
    subst r3
    exact ⟨a, r1, (off_ne (n a (List.mem_cons_of_mem _ (hN a List.mem_cons_self)))).trans r2, rfl⟩
/-- (its tuple is none of the list D) -/
theorem ToW.off {H : Hp} {v : V} {D : Addr} {d : Option (Option Nat × List Ct)} {L : List Addr} {xs : List V} (hD : H D = some (.lst xs)) (h : ToW H v d L) (n : ∀ a ∈ L, a ≠ D) : ToW (Off D H) v d L := by
  match d with
  | none => exact h
  | some (none, cts) =>
    obtain ⟨t, p, h1, h2, h3⟩ := h
    exact ⟨t, p, h1, (off_ne fun e => by rw [e, hD] at h2; cases h2).trans h2, h3.off n⟩
  | some (some m, cts) =>
    obtain ⟨t, p, h1, h2, h3⟩ := h
    exact ⟨t, p, h1, (off_ne fun e => by rw [e, hD] at h2; cases h2).trans h2, h3.off n⟩
def spTld (K : PySem.W.Frag) (BC KC HC : Addr) : Sp := fun vs H Q _ => ∃ (be la ha ea : Addr) (eo : HO) (ls : List Addr) (os : Os) (b : Bn) (rl : Rl) (fs : List FD) (n : Nat) (cs : List CD) (av : Bool) (A B C k : Nat) (r : Option Nat), vs = [.ref be, .int (k : Nat)] ∧ BeA K BC KC (Hr rl H) be fs n cs av la ha ea ∧ BnI (pRep HC) rl H la ha ea eo ls os b ∧
  W0 fs n A B C b ∧ C ≤ 1000 ∧ fs.length ≤ 3 ∧ b.hand[k]? = some r ∧
  ∀ H' v L, Same H H' → ToW H' v (toldOf b r) L → (∀ a ∈ L, H a = none) → Q v H'
section
variable {P : Program} {w : World} {K : PySem.W.Frag} {mg : Str → Option Value} {base : Heap} {BC KC HC : Addr}
theorem ok_tld {f : Addr} {fd : FuncData} (F : Fun K "told" "Bench.told" s_Bench_told f fd) (T : Txt K mg) (Z : BCls K BC) (ZH : HCls K HC) (m_contents : Met P w K mg base 1 BC "contents" (spCont K BC KC HC) []) :
    FnOk P w K mg base CX0 2 f fd ["self", "k"] (spTld K BC KC HC) := by
  refine F.ok sc_Bench_told (fun vs H Q E h => ?_) (fun cdv A outer sh H vs Q E hr h => ?_)
  · obtain ⟨be, _, _, _, _, _, _, _, _, _, _, _, _, _, _, _, _, _, rfl, _⟩ := h
    rfl
  · obtain ⟨be, la, ha, ea, eo, ls, os, b, rl, fs, n, cs, av, A0, B0, C0, k, r, rfl, ⟨bdx, kv, hbe, kd⟩, I, w0, lC, f3, hk, q⟩ := h
    refine ⟨_, (pss_cons (ps_set (i := 2) sc_Bench_told.nd rfl (Or.inl rfl) (pe_ix ix_list (pe_fld (pv 0) rfl) (pv 1) (fun _ _ => rfl)))
(pss_cons (ps_if (pt_cmpR op_isN (pv 2) pe_non (nomark _))
(pss_one (ps_ret pe_non))
pss_nil)
(pss_cons (ps_set (i := 3) sc_Bench_told.nd rfl (Or.inl rfl) (pe_mt m_contents hr (by decide) (pv 0) (pa_cons (pe_fld (pv 2) rfl) pa_nil)))
(pss_cons (ps_if (pt_cmpR op_isN (pe_fld (pv 2) rfl) pe_non (nomark _))
(pss_one (ps_ret (pe_tup (pa_cons pe_str (pa_cons (pv 3) pa_nil)))))
pss_nil)
(pss_one (ps_ret (pe_tup (pa_cons pe_str (pa_cons (pe_fld (pv 2) rfl) (pa_cons (pv 3) pa_nil)))))))))), ?_⟩
    have hbe0 := hr_same _ _ hbe
    have hv : (b.hand.map (handV os))[k]? = some (handV os r) := by rw [List.getElem?_map, hk]; rfl
    refine ⟨_, rfl, be, BC, bdx, _, .ref ha, rfl, hbe0, Z.cls, Z.handed, rfl, _, rfl, ha, _, _, _, rfl, rfl, SqL.of I.hah, atI_nat hv, ?_⟩
    refine ⟨_, rfl, rfl, _, rfl, ?_⟩
    cases r with
    | none => exact iteT (q H .non [] (Same.refl _) ⟨rfl, rfl⟩ nofun)
    | some j =>
      have hj : j < b.obs.length := by rw [← I.ol]; exact I.hj j (List.mem_of_getElem? hk)
      obtain ⟨x, hx, hx1, hx2, hx3⟩ := I.x hj
      rw [hx3]
      refine iteF ⟨_, rfl, be, bdx, _, rfl, hbe0, rfl, _, rfl, x.1, HC, x.2.2, _, .ref x.2.1, rfl, hx1, ZH.cls, ZH.held, rfl, ?_⟩
      refine ⟨be, x.2.1, la, ha, ea, eo, ls, os, b, rl, fs, n, cs, av, (b.ob j).held, rfl, ⟨bdx, kv, hbe, kd⟩, I, hx2, w0.held _ (ob_mem hj), fun ws m => Nat.le_trans (w0.wl ws m) lC, f3, fun H3 p L e3 cw frs => ?_⟩
      have x3 := e3 _ _ hx1
      refine ⟨_, rfl, x.1, HC, x.2.2, _, mV (b.ob j).mode, rfl, x3, ZH.cls, ZH.mode, rfl, rfl, _, rfl, ?_⟩
      have td : toldOf b (some j) = some ((b.ob j).mode, (b.ob j).held.map (ctOf b.lists)) := rfl
      rw [td] at q
      cases hm : (b.ob j).mode with
      | none =>
        rw [hm] at q x3
        refine iteT ⟨_, rfl, by show 2 ≤ sizeLine; decide, fun t ht => ?_⟩
        have e4 := same_new (Same.refl H3) ht (o := .tup [.str "product", .ref p])
        exact q _ _ L (e3.trans e4) ⟨t, p, rfl, upd_same, cw.keep e4⟩ frs
      | some m =>
        rw [hm] at q x3
        refine iteF2 (decide_eq_false nofun) ⟨_, rfl, x.1, HC, x.2.2, _, mV (some m), rfl, x3, ZH.cls, ZH.mode, rfl, _, rfl, by show 3 ≤ sizeLine; decide, fun t ht => ?_⟩
        have e4 := same_new (Same.refl H3) ht (o := .tup [.str "maker", .int (m : Nat), .ref p])
        exact q _ _ L (e3.trans e4) ⟨t, p, rfl, upd_same, cw.keep e4⟩ frs
def spTldAll (K : PySem.W.Frag) (BC KC HC : Addr) : Sp := fun vs H Q _ => ∃ (be la ha ea : Addr) (eo : HO) (ls : List Addr) (os : Os) (b : Bn) (rl : Rl) (fs : List FD) (n : Nat) (cs : List CD) (av : Bool) (A B C : Nat), vs = [.ref be] ∧ BeA K BC KC (Hr rl H) be fs n cs av la ha ea ∧ BnI (pRep HC) rl H la ha ea eo ls os b ∧
  W0 fs n A B C b ∧ C ≤ 1000 ∧ fs.length ≤ 3 ∧ b.hand.length ≤ 1000 ∧
  ∀ H' D xs L, Same H H' → H' D = some (.lst xs) → AlL (ToW H') xs (b.hand.map (toldOf b)) L → (∀ a ∈ D :: L, H a = none) → (D :: L).Nodup → Q (.ref D) H'
theorem ok_tldAll {f : Addr} {fd : FuncData} (F : Fun K "told_all" "Bench.told_all" s_Bench_told_all f fd) (T : Txt K mg) (Z : BCls K BC) (m_told : Met P w K mg base 2 BC "told" (spTld K BC KC HC) []) :
    FnOk P w K mg base CX0 3 f fd ["self"] (spTldAll K BC KC HC) := by
  refine F.ok sc_Bench_told_all (fun vs H Q E h => ?_) (fun cdv A outer sh H vs Q E hr h => ?_)
  · obtain ⟨be, _, _, _, _, _, _, _, _, _, _, _, _, _, _, _, rfl, _⟩ := h
    rfl
  · obtain ⟨be, la, ha, ea, eo, ls, os, b, rl, fs, n, cs, av, A0, B0, C0, rfl, ⟨bdx, kv, hbe, kd⟩, I, w0, lC, f3, lh, q⟩ := h
    refine ⟨_, (pss_one (ps_ret (pe_lc (own := [("k", 1)]) (g := (gName 1)) (tt := tYes) rfl sc_Bench_told_all.nd (pi_range1 (by rfl) T.range (pa_cons (pe_callB call_len_seq (by rfl) T.len (by decide +kernel) (pa_cons (pe_fld (pv 0) rfl) pa_nil)) pa_nil)) (blkOk_by (own := [("k", 1)]) (N := ["self", "k"]) (sc := defScope s_Bench_told_all) (by decide +kernel)) (fun _ _ _ _ _ => (pg_name (i := 1) sc_Bench_told_all.nd rfl (Or.inl rfl))) (fun _ _ _ _ _ => pts_nil) (fun _ _ _ _ _ => (pe_mt m_told hr (by decide) (pv 0) (pa_cons (pv 1) pa_nil)))))), ?_⟩
    have hbe0 := hr_same _ _ hbe
    have hlen : ((b.hand.map (handV os)).length : Int) = (b.hand.length : Nat) := by rw [List.length_map]
    refine ⟨_, rfl, be, BC, bdx, _, .ref ha, rfl, hbe0, Z.cls, Z.handed, rfl, ha, _, rfl, .inl (SqL.of I.hah), ?_⟩
    rw [show (((b.hand.map (handV os)).length : Nat) : Int) = ((b.hand.length : Nat) : Int) from hlen]
    refine ⟨_, rfl, by omega, by omega, fun D hD => ?_⟩
    rw [Int.toNat_natCast]
    have hy : ∀ i, i < b.hand.length → ∃ r, b.hand[i]? = some r := fun i hi => ⟨_, List.getElem?_eq_getElem hi⟩
    refine lc_it (walk_range (lo := 0) (n := b.hand.length)) (fun i Hi => Same H Hi ∧ ∃ xs L, Hi D = some (.lst xs) ∧ AlL (ToW (Off D Hi)) xs ((b.hand.take i).map (toldOf b)) L ∧ (∀ a ∈ D :: L, H a = none) ∧ (D :: L).Nodup ∧ ∀ a ∈ L, Hi a ≠ none)
      ⟨same_new (Same.refl H) hD, [], [], upd_same, rfl, fun a ha => by rw [List.mem_singleton.mp ha]; exact hD, by simp, nofun⟩ (fun _ _ _ _ => trivial) ?_ ?_
    · rintro i v H2 H3 hi ⟨e2, xs, L, d2, al, fr, nd, lv⟩ hyy
      obtain ⟨rfl, rfl⟩ := hyy
      obtain ⟨r, hr'⟩ := hy i hi
      have tk : (b.hand.take (i + 1)).map (toldOf b) = (b.hand.take i).map (toldOf b) ++ [toldOf b r] := by
        rw [List.take_add_one, hr', List.map_append]
        rfl
      have f2 : Same (Hr rl H) (Hr rl H3) := hr_keep e2
      have clen : xs.length = i := by
        rw [al.len, List.length_map, List.length_take]
        omega
      rw [show (fun i : Nat => V.int (0 + (i : Int))) i = V.int ((i : Nat) : Int) from congrArg V.int (Int.zero_add _)]
      refine ⟨rfl, _, rfl, be, bdx, _, rfl, e2 _ _ hbe0, rfl, _, rfl, ?_⟩
      refine ⟨be, la, ha, ea, eo, ls, os, b, rl, fs, n, cs, av, _, _, _, i, r, rfl, ⟨bdx, kv, f2 _ _ hbe, kd.keep f2⟩, I.keep e2, w0, lC, f3, hr', fun H4 y M e4 tw fm => ?_⟩
      have d4 := e4 _ _ d2
      have l4 : ∀ a ∈ L, H4 a ≠ none := fun a ha => by
        cases z : H3 a with
        | none => exact absurd z (lv a ha)
        | some o => rw [e4 _ _ z]; exact nofun
      have live : ∀ {a : Addr}, H4 a ≠ none → upd H4 D (.lst (xs ++ [y])) a ≠ none := fun {a} h => by
        by_cases z : a = D
        · rw [z, upd_same]
          exact nofun
        · rw [upd_ne z]
          exact h
      have nM := tw.nd
      have dM : ∀ a ∈ M, a ≠ D := fun a ha e => by
        have := fm a ha
        rw [e, d2] at this
        cases this
      refine ⟨xs, d4, by rw [clen, sizeLine_eq]; omega, fun c o hc => ?_, xs ++ [y], L ++ M, upd_same, ?_, ?_, ?_, ?_⟩
      · rw [upd_ne (ne_of_none hc hD)]
        exact e4 _ _ (e2 _ _ hc)
      · rw [tk, off_put]
        exact (al.mono fun _ _ _ h => ToW.keep (same_off (s := D) e4) h).snoc (ToW.off d4 tw dM)
      · intro a ha
        rcases List.mem_cons.mp ha with rfl | ha
        · exact hD
        rcases List.mem_append.mp ha with ha | ha
        · exact fr a (List.mem_cons_of_mem _ ha)
        · exact none_of e2 (fm a ha)
      · rw [← List.cons_append, List.nodup_append]
        refine ⟨nd, nM.1, fun a ha c hc e => ?_⟩
        subst e
        have z := fm a hc
        rcases List.mem_cons.mp ha with rfl | ha
        · rw [d2] at z
          cases z
        · exact lv a ha z
      · intro a ha
        rcases List.mem_append.mp ha with ha | ha
        · exact live (l4 a ha)
        · exact live (nM.2 a ha)
    · rintro H2 ⟨e2, xs, L, d2, al, fr, nd, lv⟩
      rw [List.take_length] at al
      exact q H2 D xs L e2 d2 (al.mono fun _ _ _ h => ToW.keep off_same h) fr nd
end
end MK
set_option Elab.async false
set_option linter.all false
set_option autoImplicit false
set_option maxRecDepth 100000
set_option maxHeartbeats 4000000
namespace MK
open PySem PySem.Spec PyProof.Rows L2
open C8 (Met pe_mt pe_mt0 Mak pe_mk)
local macro_rules | `(tactic| walk_at "x") => `(tactic| dsimp only [tSeq, tAsg, tRet, tDrop, tLst, tTup, tCons, tOp, tUn, tIfS])
section
variable {P : Program} {w : World} {K : PySem.W.Frag} {mg : Str → Option Value} {base : Heap} {BC KC HC : Addr}
def spBInit (K : PySem.W.Frag) (BC : Addr) : Sp := fun vs H Q _ => ∃ (a dx : Addr) (kv : V) (av : Bool), vs = [.ref a, kv, .bl av] ∧ H a = some (.ins BC dx []) ∧
  ∀ H' la ha ea, (∀ c o, c ≠ a → H c = some o → H' c = some o) → H' a = some (.ins BC dx (beV kv av la ha ea)) → H' la = some (.lst []) → H' ha = some (.lst []) → H' ea = some (.lst []) → H la = none → H ha = none → H ea = none → la ≠ ha → la ≠ ea → ha ≠ ea → Q .non H'
theorem ok_binit {f : Addr} {fd : FuncData} (F : FunU K "__init__" "Bench.__init__" s_Bench_init f fd) (Z : BCls K BC) : FnOk P w K mg base CX0 1 f fd ["self", "kind", "as_values"] (spBInit K BC) := by
  refine F.ok sc_Bench_init (fun vs H Q E h => ?_) (fun cdv A outer sh H vs Q E hr h => ?_)
  · obtain ⟨_, _, _, _, rfl, _⟩ := h
    rfl
  · obtain ⟨a, dx, kv, av, rfl, h0, q⟩ := h
    refine ⟨_, (pss_cons (ps_fld (pv 0) (pv 1) rfl)
(pss_cons (ps_fld (pv 0) (pv 2) rfl)
(pss_cons (ps_fld (pv 0) (pe_lst pa_nil) rfl)
(pss_cons (ps_fld (pv 0) (pe_lst pa_nil) rfl)
(pss_one (ps_fld (pv 0) (pe_lst pa_nil) rfl)))))), ?_⟩
    refine ⟨_, rfl, _, rfl, a, BC, dx, _, rfl, h0, Z.cls, Z.kind, Nat.le_of_ble_eq_true rfl, ?_⟩
    refine ⟨_, rfl, _, rfl, a, BC, dx, _, rfl, upd_same, Z.cls, Z.av, Nat.le_of_ble_eq_true rfl, ?_⟩
    have a1 : (upd (upd H a (.ins BC dx (putF "kind" kv []))) a (.ins BC dx (putF "as_values" (.bl av) (putF "kind" kv [])))) a = some (.ins BC dx [("kind", kv), ("as_values", .bl av)]) := upd_same
    have g1 : ∀ c, c ≠ a → (upd (upd H a (.ins BC dx (putF "kind" kv []))) a (.ins BC dx (putF "as_values" (.bl av) (putF "kind" kv [])))) c = H c := fun c n => by rw [upd_ne n, upd_ne n]
    show tSeq _ _ _ _ (upd (upd H a (.ins BC dx (putF "kind" kv []))) a (.ins BC dx (putF "as_values" (.bl av) (putF "kind" kv []))))
    generalize upd (upd H a (.ins BC dx (putF "kind" kv []))) a (.ins BC dx (putF "as_values" (.bl av) (putF "kind" kv []))) = G1 at a1 g1
    refine ⟨by show 0 ≤ sizeLine; decide, fun la hla => ?_⟩
    have nla : la ≠ a := fun e => by rw [e, a1] at hla; cases hla
    have hla0 : H la = none := (g1 la nla).symm.trans hla
    refine ⟨_, rfl, a, BC, dx, _, rfl, (upd_ne (Ne.symm nla)).trans a1, Z.cls, Z.lists, Nat.le_of_ble_eq_true rfl, ?_⟩
    have a2 : (upd (upd G1 la (.lst [])) a (.ins BC dx (putF "lists" (.ref la) [("kind", kv), ("as_values", .bl av)]))) a = some (.ins BC dx [("kind", kv), ("as_values", .bl av), ("lists", .ref la)]) := upd_same
    have g2 : ∀ c, c ≠ a → c ≠ la → (upd (upd G1 la (.lst [])) a (.ins BC dx (putF "lists" (.ref la) [("kind", kv), ("as_values", .bl av)]))) c = H c := fun c n n2 => by rw [upd_ne n, upd_ne n2, g1 c n]
    have l2 : (upd (upd G1 la (.lst [])) a (.ins BC dx (putF "lists" (.ref la) [("kind", kv), ("as_values", .bl av)]))) la = some (.lst []) := by rw [upd_ne nla, upd_same]
    show tSeq _ _ _ _ (upd (upd G1 la (.lst [])) a (.ins BC dx (putF "lists" (.ref la) [("kind", kv), ("as_values", .bl av)])))
    generalize upd (upd G1 la (.lst [])) a (.ins BC dx (putF "lists" (.ref la) [("kind", kv), ("as_values", .bl av)])) = G2 at a2 g2 l2
    refine ⟨by show 0 ≤ sizeLine; decide, fun ha hha => ?_⟩
    have nha : ha ≠ a := fun e => by rw [e, a2] at hha; cases hha
    have nhl : ha ≠ la := fun e => by rw [e, l2] at hha; cases hha
    have hha0 : H ha = none := (g2 ha nha nhl).symm.trans hha
    refine ⟨_, rfl, a, BC, dx, _, rfl, (upd_ne (Ne.symm nha)).trans a2, Z.cls, Z.handed, Nat.le_of_ble_eq_true rfl, ?_⟩
    have a3 : (upd (upd G2 ha (.lst [])) a (.ins BC dx (putF "handed" (.ref ha) [("kind", kv), ("as_values", .bl av), ("lists", .ref la)]))) a = some (.ins BC dx [("kind", kv), ("as_values", .bl av), ("lists", .ref la), ("handed", .ref ha)]) := upd_same
    have g3 : ∀ c, c ≠ a → c ≠ la → c ≠ ha → (upd (upd G2 ha (.lst [])) a (.ins BC dx (putF "handed" (.ref ha) [("kind", kv), ("as_values", .bl av), ("lists", .ref la)]))) c = H c := fun c n n2 n3 => by rw [upd_ne n, upd_ne n3, g2 c n n2]
    have l3 : (upd (upd G2 ha (.lst [])) a (.ins BC dx (putF "handed" (.ref ha) [("kind", kv), ("as_values", .bl av), ("lists", .ref la)]))) la = some (.lst []) := by rw [upd_ne nla, upd_ne (Ne.symm nhl), l2]
    have m3 : (upd (upd G2 ha (.lst [])) a (.ins BC dx (putF "handed" (.ref ha) [("kind", kv), ("as_values", .bl av), ("lists", .ref la)]))) ha = some (.lst []) := by rw [upd_ne nha, upd_same]
    generalize upd (upd G2 ha (.lst [])) a (.ins BC dx (putF "handed" (.ref ha) [("kind", kv), ("as_values", .bl av), ("lists", .ref la)])) = G3 at a3 g3 l3 m3 ⊢
    refine ⟨by show 0 ≤ sizeLine; decide, fun ea hea => ?_⟩
    have nea : ea ≠ a := fun e => by rw [e, a3] at hea; cases hea
    have nel : ea ≠ la := fun e => by rw [e, l3] at hea; cases hea
    have neh : ea ≠ ha := fun e => by rw [e, m3] at hea; cases hea
    have hea0 : H ea = none := (g3 ea nea nel neh).symm.trans hea
    refine ⟨_, rfl, a, BC, dx, _, rfl, (upd_ne (Ne.symm nea)).trans a3, Z.cls, Z.early, Nat.le_of_ble_eq_true rfl, ?_⟩
    refine q _ la ha ea (fun c o n hc => ?_) upd_same ?_ ?_ ?_ hla0 hha0 hea0 (Ne.symm nhl) (Ne.symm nel) (Ne.symm neh)
    · have c1 : c ≠ la := fun e => by rw [e, hla0] at hc; cases hc
      have c2 : c ≠ ha := fun e => by rw [e, hha0] at hc; cases hc
      have c3 : c ≠ ea := fun e => by rw [e, hea0] at hc; cases hc
      rw [upd_ne n, upd_ne c3, g3 c n c1 c2, hc]
    · rw [upd_ne nla, upd_ne (Ne.symm nel), l3]
    · rw [upd_ne nha, upd_ne (Ne.symm neh), m3]
    · rw [upd_ne nea, upd_same]
end
end MK
set_option Elab.async false
set_option linter.all false
set_option autoImplicit false
set_option maxRecDepth 100000
set_option maxHeartbeats 4000000
namespace MK
open PySem PySem.Spec PyProof.Rows L2
open C8 (Met pe_mt pe_mt0 Mak pe_mk)
local macro_rules | `(tactic| walk_at "x") => `(tactic| dsimp only [tSeq, tAsg, tRet, tDrop, tLst, tTup, tCons, tOp, tUn, tIfS])
abbrev s_Kind_takes : Stmt := inClass (topS 62) 9
theorem sc_Kind_takes : FnScope ["self", "name", "deed", "field"] ["self", "name"] (defScope s_Kind_takes) := ⟨rfl, rfl, rfl, by decide +kernel, rfl, by decide +kernel, by decide +kernel⟩
abbrev s_is_last : Stmt := topS 53
theorem sc_is_last : FnScope ["kind", "row"] ["kind", "row"] (defScope s_is_last) := ⟨rfl, rfl, rfl, by decide +kernel, rfl, by decide +kernel, by decide +kernel⟩
abbrev s_is_row : Stmt := topS 52
theorem sc_is_row : FnScope ["kind", "ahead", "row", "name", "k"] ["kind", "ahead", "row"] (defScope s_is_row) := ⟨rfl, rfl, rfl, by decide +kernel, rfl, by decide +kernel, by decide +kernel⟩
def spTakes0 (K : PySem.W.Frag) (KC : Addr) : Sp := fun vs H Q _ => ∃ (v : V) (nm : Str) (fs : List FD) (n : Nat) (cs : List CD) (c : CD), vs = [v, .str nm] ∧ KdA K KC H v fs n cs ∧ KdOk fs n cs ∧ callOf cs nm = some c ∧ ∀ H', Same H H' → Q (.bl c.takes) H'
theorem takes_eq (c : CD) : (c.deeds.map fun d => decide (d.1 ∈ (["set", "add", "strike"] : List Str))).any id = c.takes := by
  unfold CD.takes
  rw [List.any_map]
  congr 1
  funext d
  show decide (d.1 ∈ (["set", "add", "strike"] : List Str)) = _
  rw [Bool.eq_iff_iff, decide_eq_true_iff, Bool.or_eq_true, Bool.or_eq_true, decide_eq_true_iff, decide_eq_true_iff, decide_eq_true_iff]
  simp only [List.mem_cons, List.not_mem_nil, or_false]
section
variable {P : Program} {w : World} {K : PySem.W.Frag} {mg : Str → Option Value} {base : Heap} {C : Cst} {KC fh : Addr} {fdh : FuncData}
theorem ok_has0 {f : Addr} {fd : FuncData} (F : Fun K "__contains__" "Kind.__contains__" s_Kind_contains f fd) (T : Txt K mg) (Z : KCls K KC) : FnOk P w K mg base CX0 1 f fd ["self", "x"] (spHas K KC) := by
  refine F.ok sc_Kind_contains (fun vs H Q E h => ?_) (fun cdv A outer sh H vs Q E hr h => ?_)
  · obtain ⟨v, x, fs, n, cs, rfl, _⟩ := h
    rfl
  · exact run_has T Z hr h
theorem ok_takes0 {f : Addr} {fd : FuncData} (F : Fun K "takes" "Kind.takes" s_Kind_takes f fd) (T : Txt K mg) (Z : KCls K KC) (Cs : Csts K w mg C)
    (H_has : FnOk P w K mg base CX0 1 fh fdh ["self", "x"] (spHas K KC) ∧ PySem.W.findIn K (.ref KC) "__contains__" = some (some (.ref fh)) ∧ PySem.W.isFn K (.ref fh) = true ∧ Binds K fdh ["self", "x"] []) :
    FnOk P w K mg base CX0 2 f fd ["self", "name"] (spTakes0 K KC) := by
  refine F.ok sc_Kind_takes (fun vs H Q E h => ?_) (fun cdv A outer sh H vs Q E hr h => ?_)
  · obtain ⟨v, nm, fs, n, cs, c, rfl, _⟩ := h
    rfl
  · obtain ⟨v, nm, fs, n, cs, c, rfl, kd, ok, hc, q⟩ := h
    refine ⟨_, (pss_cons (ps_if (pt_cmpR (op_notInOwn H_has.1 H_has.2.1 H_has.2.2.1 H_has.2.2.2 (hr.mono (by decide))) (pv 1) (pv 0) (by rfl))
(pss_one (ps_never))
pss_nil)
(pss_one (ps_ret (pe_callB (cr_any rfl) (by rfl) T.any (by decide +kernel) (pa_cons (pe_lc (own := [("deed", 2), ("field", 3)]) (g := (gTup K 2 (gCons (gName 2) (gCons (gName 3) gNil)))) (tt := tYes) rfl sc_Kind_takes.nd (pi_tup (pe_ix ix_tup (pe_dget (hu_of hr) (pe_fld (pv 0) rfl) (pv 1) (fun _ _ => rfl)) pe_int (fun _ _ => rfl))) (blkOk_by (own := [("deed", 2), ("field", 3)]) (N := ["self", "name", "deed", "field"]) (sc := defScope s_Kind_takes) (by decide +kernel)) (fun _ _ _ _ _ => (pg_tup (by rfl) (pgs_cons (pg_name (i := 2) sc_Kind_takes.nd rfl (Or.inl rfl)) (pgs_cons (pg_name (i := 3) sc_Kind_takes.nd rfl (Or.inl rfl)) pgs_nil)))) (fun _ _ _ _ _ => pts_nil) (fun _ _ _ _ _ => (pe_cmpR (op_in_seqK (K := K) rfl) (pv 2) (pe_cst rfl Cs.WORD_DEEDS) (by rfl)))) pa_nil))))), ?_⟩
    have kd0 := kd
    obtain ⟨a, dx, so, sp, tb, t, st, tv, sv, rfl, h1, h2, h3, h4, h5, h6, h7, h8⟩ := kd
    obtain ⟨ta, am, dl, sa, ds, dg, t1, t2, t3, t4, t5⟩ := table_row ok h7 h8 hc
    have cm := callOf_mem hc
    have hm : nm ∈ cs.map (·.nm) := cm.2 ▸ List.mem_map_of_mem cm.1
    have dl4 := (ok.calls c cm.1).deeds
    refine ⟨_, rfl, _, rfl, a, dx, _, rfl, h1, ⟨_, _, fs, n, cs, rfl, kd0, .inl ⟨_, rfl, true, congrArg V.bl (decide_eq_true hm), false, rfl, iteF ?_⟩⟩⟩
    refine ⟨_, rfl, a, KC, dx, _, .ref tb, rfl, h1, Z.cls, Z.table, rfl, _, rfl, tb, .ref ta, rfl, dg, ta, _, 3, .ref dl, rfl, rfl, t1, rfl, dl, rfl, ⟨ds, t3⟩, fun D hD => ?_⟩
    refine lc_it (walk_tup (K := K) (a := dl) (xs := ds)) (fun j H2 => Same H H2 ∧ H2 D = some (.lst ((c.deeds.take j).map fun d => V.bl (decide (d.1 ∈ (["set", "add", "strike"] : List Str)))))) ⟨same_new (Same.refl H) hD, upd_same⟩ (fun j H2 _ h => same_t h.1 t3) ?_ ?_
    · rintro j x H3 H2 hj ⟨e2, d2⟩ ⟨rfl, hx⟩
      obtain ⟨d, hd, ⟨pa, rfl, pt⟩⟩ := t4.get hx
      refine ⟨pa, _, rfl, same_t e2 pt, rfl, _, _, rfl, _, _, rfl, rfl, rfl, ?_⟩
      refine ⟨_, rfl, C.wd, _, rfl, .inr (Cs.t_wd _), rfl, flat_strs ["set", "add", "strike"], ?_⟩
      refine ⟨_, d2, ?_, fun b o hb => ?_, ?_⟩
      · rw [List.length_map, List.length_take]
        exact Nat.lt_of_le_of_lt (by show min j c.deeds.length ≤ 4; omega) (by decide)
      · rw [upd_ne (ne_of_none hb hD)]
        exact e2 _ _ hb
      · rw [upd_same, List.take_succ, hd, List.map_append]
        show some (HO.lst (_ ++ [V.bl (inV (.str d.1) ((["set", "add", "strike"] : List Str).map V.str))])) = _
        rw [inV_strs]
        rfl
    · rintro H2 ⟨e2, d2⟩
      rw [t4.1, List.take_length] at d2
      refine ⟨D, c.deeds.map fun d => decide (d.1 ∈ (["set", "add", "strike"] : List Str)), rfl, SqL.of (by rw [List.map_map]; exact d2), ?_⟩
      rw [takes_eq]
      exact q _ e2
theorem iteT2 {b : Bool} {X Y : Prop} (e : b = true) (h : X) : if b = true then X else Y := by
  rw [if_pos e]
  exact h
def spLast (K : PySem.W.Frag) (KC : Addr) : Sp := fun vs H Q _ => ∃ (kv rv : V) (fs : List FD) (n : Nat) (cs : List CD) (r : Rw), vs = [kv, rv] ∧ KdA K KC H kv fs n cs ∧ KdOk fs n cs ∧ RowT K H rv r ∧ (∀ nm k wd, r = .call nm k wd → ∃ c, callOf cs nm = some c) ∧ Q (.bl (isLast cs r)) H
theorem ok_last {f : Addr} {fd : FuncData} (F : DefX K mg "is_last" s_is_last ["kind", "row"] f fd) (T : Txt K mg) (Z : KCls K KC) : Cal P w K mg base CX0 1 "is_last" (spLast K KC) := by
  refine cal_mk F sc_is_last (fun vs H Q E h => ?_) (fun cdv A outer sh H vs Q E hr h => ?_)
  · obtain ⟨kv, rv, fs, n, cs, r, rfl, _⟩ := h
    rfl
  · obtain ⟨kv, rv, fs, n, cs, r, rfl, ⟨a, dx, so, sp, tb, t, st, tv, sv, rfl, h1, h2, h3, h4, h5, h6, h7, h8⟩, ok, ⟨ra, rfl, hra⟩, hc, q⟩ := h
    refine ⟨_, (pss_one (ps_ret (pe_cut (pe_and (pe_cmpR op_gt (pe_callB call_len_seq (by rfl) T.len (by decide +kernel) (pa_cons (pv 1) pa_nil)) pe_int (nomark _)) (pe_one (pe_cmpR op_eq (pe_ix ix_tup (pe_dget (hu_of hr) (pe_fld (pv 0) rfl) (pe_ix ix_tup (pv 1) pe_int (fun _ _ => rfl)) (fun _ _ => rfl)) pe_int (fun _ _ => rfl)) pe_str (nomark _))))))), ?_⟩
    refine ⟨fun v H3 => v = .bl (isLast cs r) ∧ H3 = H, ?_, fun v H3 e => by rw [e.1, e.2]; exact q⟩
    cases r with
    | mk => exact ⟨_, rfl, ra, _, rfl, .inr hra, _, _, rfl, rfl, false, rfl, iteF ⟨rfl, rfl⟩⟩
    | call nm k wd =>
      obtain ⟨c, hc⟩ := hc nm k wd rfl
      obtain ⟨ta, am, dl, sa, ds, dg, t1, t2, t3, t4, t5⟩ := table_row ok h7 h8 hc
      have il : isLast cs (.call nm k wd) = decide (c.hand = ("last" : Str)) := by
        unfold isLast
        simp only [hc]
      have ln : decide ((1 : Int) < ((RwV (.call nm k wd)).length : Int)) = true := by cases wd <;> rfl
      refine ⟨_, rfl, ra, _, rfl, .inr hra, _, _, rfl, rfl, true, congrArg V.bl ln, iteT ⟨_, rfl, a, KC, dx, _, .ref tb, rfl, h1, Z.cls, Z.table, rfl, _, rfl, ra, _, 0, _, rfl, rfl, hra, rw_zero, tb, .ref ta, rfl, dg, ta, _, 1, .str c.hand, rfl, rfl, t1, rfl, rfl, ?_, rfl⟩⟩
      rw [il]
      refine congrArg V.bl ?_
      rw [Bool.eq_iff_iff, decide_eq_true_iff, decide_eq_true_iff]
      exact ⟨fun e => V.str.inj e, fun e => by rw [e]⟩
def spIsRow (K : PySem.W.Frag) (KC : Addr) : Sp := fun vs H Q _ => ∃ (kv rv : V) (kp : Addr) (rvs : List V) (fs : List FD) (n : Nat) (cs : List CD) (rs : List Rw) (r : Rw), vs = [kv, .ref kp, rv] ∧ KdA K KC H kv fs n cs ∧ KdOk fs n cs ∧ H kp = some (.lst rvs) ∧ Al (RowT K H) rvs rs ∧ RwsOk cs rs ∧ Sq K H rv (RwV r) ∧ RwOk cs rs r ∧ rs.length ≤ 200 ∧ ∀ H', Same H H' → Q (.bl true) H'
theorem ok_isrow {f : Addr} {fd : FuncData} (F : DefX K mg "is_row" s_is_row ["kind", "ahead", "row"] f fd) (T : Txt K mg) (Z : KCls K KC) (c_is_list : Cal P w K mg base CX0 1 "is_list" (spList K)) (c_is_word : Cal P w K mg base CX0 1 "is_word" (spWord K)) (c_is_integer : Cal P w K mg base CX0 1 "is_integer" spInt) (c_is_last : Cal P w K mg base CX0 1 "is_last" (spLast K KC))
    (m_takes : Met P w K mg base 2 KC "takes" (spTakes0 K KC) []) (H_has : FnOk P w K mg base CX0 1 fh fdh ["self", "x"] (spHas K KC) ∧ PySem.W.findIn K (.ref KC) "__contains__" = some (some (.ref fh)) ∧ PySem.W.isFn K (.ref fh) = true ∧ Binds K fdh ["self", "x"] []) :
    Cal P w K mg base CX0 3 "is_row" (spIsRow K KC) := by
  refine cal_mk F sc_is_row (fun vs H Q E h => ?_) (fun cdv A outer sh H vs Q E hr h => ?_)
  · obtain ⟨kv, rv, kp, _, _, _, _, _, _, rfl, _⟩ := h
    rfl
  · obtain ⟨kv, rv, kp, rvs, fs, n, cs, rs, r, rfl, kd, ok, hkp, hrs, rso, ⟨ra, rfl, hra⟩, rok, lr, q⟩ := h
    refine ⟨_, (pss_cons (ps_if (pt_cut (PW.pt (pw_or (pt_not (pt_val (pe_c c_is_list hr (by first | decide | assumption) rfl (pa_cons (pv 2) pa_nil)))) (pw_or1 (pt_cmpR op_eq (pe_callB call_len_seq (by rfl) T.len (by decide +kernel) (pa_cons (pv 2) pa_nil)) pe_int (nomark _))))))
(pss_one (ps_ret pe_bl))
pss_nil)
(pss_cons (ps_if (pt_cmpR op_eq (pe_callB call_len_seq (by rfl) T.len (by decide +kernel) (pa_cons (pv 2) pa_nil)) pe_int (nomark _))
(pss_one (ps_ret (pe_cmpR op_eq (pe_ix ix_seq (pv 2) pe_int (fun _ _ => rfl)) pe_str (nomark _))))
pss_nil)
(pss_cons (ps_asg (pe_slice (sl_sqA (K := K) rfl) (pv 2) po_none (po_some pe_int)) (pg_sq (by rfl) (pgs_cons (pg_name (i := 3) sc_is_row.nd rfl (Or.inl rfl)) (pgs_cons (pg_name (i := 4) sc_is_row.nd rfl (Or.inl rfl)) pgs_nil))))
(pss_cons (ps_if (pt_cmpR (op_notInOwn H_has.1 H_has.2.1 H_has.2.2.1 H_has.2.2.2 (hr.mono (by decide))) (pv 3) (pv 0) (by rfl))
(pss_one (ps_ret pe_bl))
pss_nil)
(pss_cons (ps_if (pt_cut (PW.pt (pw_or (pt_not (pt_val (pe_c c_is_integer hr (by first | decide | assumption) rfl (pa_cons (pv 4) pa_nil)))) (pw_or (pt_not (pt_chain op_le op_lt pe_int (pv 4) (pe_callB call_len_seq (by rfl) T.len (by decide +kernel) (pa_cons (pv 1) pa_nil)))) (pw_or1 (pt_val (pe_c c_is_last hr (by first | decide | assumption) rfl (pa_cons (pv 0) (pa_cons (pe_ix ix_list (pv 1) (pv 4) (fun _ _ => rfl)) pa_nil)))))))))
(pss_one (ps_ret pe_bl))
pss_nil)
(pss_cons (ps_if (pt_val (pe_mt m_takes hr (by decide) (pv 0) (pa_cons (pv 3) pa_nil)))
(pss_one (ps_ret (pe_cut (pe_and (pe_cmpR op_eq (pe_callB call_len_seq (by rfl) T.len (by decide +kernel) (pa_cons (pv 2) pa_nil)) pe_int (nomark _)) (pe_one (pe_c c_is_word hr (by first | decide | assumption) rfl (pa_cons (pe_ix ix_seq (pv 2) pe_int (fun _ _ => rfl)) pa_nil)))))))
pss_nil)
(pss_one (ps_ret (pe_cmpR op_eq (pe_callB call_len_seq (by rfl) T.len (by decide +kernel) (pa_cons (pv 2) pa_nil)) pe_int (nomark _)))))))))), ?_⟩
    have sm : ∀ {H1 : Hp}, Same H H1 → SqL K H1 ra (RwV r) ∨ SqT K H1 ra (RwV r) := fun e => hra.imp (fun h => e.seq h) (fun h => same_t e h)
    refine ⟨fun t H1 => t = false ∧ Same H H1, ⟨_, rfl, _, _, rfl, ⟨ra, rfl, hra⟩, fun H1 e1 => ⟨_, rfl, iteF ⟨_, rfl, ra, _, rfl, sm e1, rfl, _, rfl, ?_, e1⟩⟩⟩, ?_⟩
    · match r with
      | .mk => exact decide_eq_false fun e => by cases e
      | .call nm k none => exact decide_eq_false fun e => by cases e
      | .call nm k (some z) => exact decide_eq_false fun e => by cases e
    rintro _ H1 ⟨rfl, e1⟩
    refine iteF ?_
    refine ⟨_, rfl, ra, _, rfl, sm e1, rfl, _, rfl, ?_⟩
    cases r with
    | mk =>
      refine iteT ⟨_, rfl, ix_of (i := 0) (sm e1) rfl ⟨rfl, ?_⟩⟩
      show Q (.bl (decide (V.str "make" = V.str "make"))) H1
      rw [decide_eq_true rfl]
      exact q _ e1
    | call nm k wd =>
      obtain ⟨c, hc, ⟨r', hr', hl'⟩, tk, wok⟩ := rok
      refine iteF2 (by cases wd <;> rfl) ?_
      have x2 : (RwV (.call nm k wd)).take 2 = [.str nm, .int (k : Nat)] := by cases wd <;> rfl
      have kd0 := kd
      obtain ⟨a, dx, so, sp, tb, t, st, tv, sv, rfl, h1, h2, h3, h4, h5, h6, h7, h8⟩ := kd
      have cm := callOf_mem hc
      have hm : nm ∈ cs.map (·.nm) := cm.2 ▸ List.mem_map_of_mem cm.1
      have hk : k < rs.length := (List.getElem?_eq_some_iff.mp hr').1
      have hsq := sm e1
      rcases hsq with h | h
      · refine ⟨_, rfl, _, rfl, .inl ⟨ra, _, rfl, h, fun p hp => ?_⟩⟩
        rw [cut02, x2]
        have e2 := e1.trans (same_new (Same.refl H1) hp (o := .lst [.str nm, .int (k : Nat)]))
        have p2 : Sq K (upd H1 p (.lst [.str nm, .int (k : Nat)])) (.ref p) [.str nm, .int (k : Nat)] := ⟨p, rfl, .inl (SqL.of upd_same)⟩
        generalize upd H1 p (.lst [.str nm, .int (k : Nat)]) = H2 at e2 p2
        refine ⟨_, p2, rfl, _, _, rfl, _, _, rfl, rfl, ?_⟩
        refine ⟨_, rfl, _, rfl, a, dx, _, rfl, e2 _ _ h1, ⟨_, _, fs, n, cs, rfl, kd0.keep e2, .inl ⟨_, rfl, true, congrArg V.bl (decide_eq_true hm), false, rfl, iteF ?_⟩⟩⟩
        refine ⟨fun t H3 => t = false ∧ Same H H3, ⟨_, rfl, _, rfl, _, rfl, iteF ?_⟩, ?_⟩
        · have lr' : rvs.length = rs.length := hrs.1
          obtain ⟨rv, hrv, hrt⟩ := hrs.get' hr'
          refine ⟨_, rfl, _, _, rfl, rfl, true, congrArg V.bl (decide_eq_true (by omega)), iteT ⟨_, rfl, kp, _, rfl, .inl (SqL.of (e2 _ _ hkp)), _, _, rfl, rfl, _, rfl, iteF2 ?_ ?_⟩⟩
          · rw [decide_eq_true (by omega)]
            rfl
          · refine ⟨_, rfl, _, rfl, _, rfl, kp, _, _, _, rfl, rfl, SqL.of (e2 _ _ hkp), atI_nat hrv, ?_⟩
            refine ⟨_, _, fs, n, cs, r', rfl, kd0.keep e2, ok, hrt.keep e2, fun nm' k' wd' e => ?_, _, rfl, hl', e2⟩
            have := rso k r' hr'
            rw [e] at this
            obtain ⟨c', hc', _⟩ := this
            exact ⟨c', hc'⟩
        · rintro _ H3 ⟨rfl, e3⟩
          refine iteF ?_
          refine ⟨_, rfl, a, dx, _, rfl, e3 _ _ h1, rfl, _, rfl, ?_⟩
          refine ⟨_, nm, fs, n, cs, c, rfl, kd0.keep e3, ok, hc, fun H4 e4 => ⟨_, rfl, ?_⟩⟩
          have e34 := e3.trans e4
          cases wd with
          | none =>
            refine iteF2 tk.symm ?_
            refine ⟨_, rfl, ra, _, rfl, sm e34, rfl, ?_⟩
            exact q _ e34
          | some z =>
            refine iteT2 tk.symm ?_
            have wz := wok z rfl
            refine ⟨fun v H5 => v = .bl true ∧ Same H H5, ⟨_, rfl, ra, _, rfl, sm e34, rfl, true, rfl, iteT ⟨_, rfl, ix_of (i := 2) (sm e34) rfl ⟨.str z, rfl, .inl ⟨z, rfl, word_sz wz, fun H5 e5 => ⟨?_, e34.trans e5⟩⟩⟩⟩⟩, fun v H5 e => by rw [e.1]; exact q _ e.2⟩
            rw [wz]
      · refine ⟨_, rfl, _, rfl, .inr ⟨ra, _, rfl, h, fun hw => ?_, fun _ p hp => ?_⟩⟩
        · have p2 : Sq K H1 (.ref ra) [.str nm, .int (k : Nat)] := by
            cases wd with
            | none => exact ⟨ra, rfl, .inr h⟩
            | some z => exact ((by decide : ¬ HT.sIx 3 3 (some 2) = 3) hw.2).elim
          have e2 := e1
          generalize H1 = H2 at e2 p2
          refine ⟨_, p2, rfl, _, _, rfl, _, _, rfl, rfl, ?_⟩
          refine ⟨_, rfl, _, rfl, a, dx, _, rfl, e2 _ _ h1, ⟨_, _, fs, n, cs, rfl, kd0.keep e2, .inl ⟨_, rfl, true, congrArg V.bl (decide_eq_true hm), false, rfl, iteF ?_⟩⟩⟩
          refine ⟨fun t H3 => t = false ∧ Same H H3, ⟨_, rfl, _, rfl, _, rfl, iteF ?_⟩, ?_⟩
          · have lr' : rvs.length = rs.length := hrs.1
            obtain ⟨rv, hrv, hrt⟩ := hrs.get' hr'
            refine ⟨_, rfl, _, _, rfl, rfl, true, congrArg V.bl (decide_eq_true (by omega)), iteT ⟨_, rfl, kp, _, rfl, .inl (SqL.of (e2 _ _ hkp)), _, _, rfl, rfl, _, rfl, iteF2 ?_ ?_⟩⟩
            · rw [decide_eq_true (by omega)]
              rfl
            · refine ⟨_, rfl, _, rfl, _, rfl, kp, _, _, _, rfl, rfl, SqL.of (e2 _ _ hkp), atI_nat hrv, ?_⟩
              refine ⟨_, _, fs, n, cs, r', rfl, kd0.keep e2, ok, hrt.keep e2, fun nm' k' wd' e => ?_, _, rfl, hl', e2⟩
              have := rso k r' hr'
              rw [e] at this
              obtain ⟨c', hc', _⟩ := this
              exact ⟨c', hc'⟩
          · rintro _ H3 ⟨rfl, e3⟩
            refine iteF ?_
            refine ⟨_, rfl, a, dx, _, rfl, e3 _ _ h1, rfl, _, rfl, ?_⟩
            refine ⟨_, nm, fs, n, cs, c, rfl, kd0.keep e3, ok, hc, fun H4 e4 => ⟨_, rfl, ?_⟩⟩
            have e34 := e3.trans e4
            cases wd with
            | none =>
              refine iteF2 tk.symm ?_
              refine ⟨_, rfl, ra, _, rfl, sm e34, rfl, ?_⟩
              exact q _ e34
            | some z =>
              refine iteT2 tk.symm ?_
              have wz := wok z rfl
              refine ⟨fun v H5 => v = .bl true ∧ Same H H5, ⟨_, rfl, ra, _, rfl, sm e34, rfl, true, rfl, iteT ⟨_, rfl, ix_of (i := 2) (sm e34) rfl ⟨.str z, rfl, .inl ⟨z, rfl, word_sz wz, fun H5 e5 => ⟨?_, e34.trans e5⟩⟩⟩⟩⟩, fun v H5 e => by rw [e.1]; exact q _ e.2⟩
              rw [wz]
        · rw [cut02, x2]
          have e2 := e1.trans (same_new (Same.refl H1) hp (o := .tup [.str nm, .int (k : Nat)]))
          have p2 : Sq K (upd H1 p (.tup [.str nm, .int (k : Nat)])) (.ref p) [.str nm, .int (k : Nat)] := ⟨p, rfl, .inr (SqT.of upd_same)⟩
          generalize upd H1 p (.tup [.str nm, .int (k : Nat)]) = H2 at e2 p2
          refine ⟨_, p2, rfl, _, _, rfl, _, _, rfl, rfl, ?_⟩
          refine ⟨_, rfl, _, rfl, a, dx, _, rfl, e2 _ _ h1, ⟨_, _, fs, n, cs, rfl, kd0.keep e2, .inl ⟨_, rfl, true, congrArg V.bl (decide_eq_true hm), false, rfl, iteF ?_⟩⟩⟩
          refine ⟨fun t H3 => t = false ∧ Same H H3, ⟨_, rfl, _, rfl, _, rfl, iteF ?_⟩, ?_⟩
          · have lr' : rvs.length = rs.length := hrs.1
            obtain ⟨rv, hrv, hrt⟩ := hrs.get' hr'
            refine ⟨_, rfl, _, _, rfl, rfl, true, congrArg V.bl (decide_eq_true (by omega)), iteT ⟨_, rfl, kp, _, rfl, .inl (SqL.of (e2 _ _ hkp)), _, _, rfl, rfl, _, rfl, iteF2 ?_ ?_⟩⟩
            · rw [decide_eq_true (by omega)]
              rfl
            · refine ⟨_, rfl, _, rfl, _, rfl, kp, _, _, _, rfl, rfl, SqL.of (e2 _ _ hkp), atI_nat hrv, ?_⟩
              refine ⟨_, _, fs, n, cs, r', rfl, kd0.keep e2, ok, hrt.keep e2, fun nm' k' wd' e => ?_, _, rfl, hl', e2⟩
              have := rso k r' hr'
              rw [e] at this
              obtain ⟨c', hc', _⟩ := this
              exact ⟨c', hc'⟩
          · rintro _ H3 ⟨rfl, e3⟩
            refine iteF ?_
            refine ⟨_, rfl, a, dx, _, rfl, e3 _ _ h1, rfl, _, rfl, ?_⟩
            refine ⟨_, nm, fs, n, cs, c, rfl, kd0.keep e3, ok, hc, fun H4 e4 => ⟨_, rfl, ?_⟩⟩
            have e34 := e3.trans e4
            cases wd with
            | none =>
              refine iteF2 tk.symm ?_
              refine ⟨_, rfl, ra, _, rfl, sm e34, rfl, ?_⟩
              exact q _ e34
            | some z =>
              refine iteT2 tk.symm ?_
              have wz := wok z rfl
              refine ⟨fun v H5 => v = .bl true ∧ Same H H5, ⟨_, rfl, ra, _, rfl, sm e34, rfl, true, rfl, iteT ⟨_, rfl, ix_of (i := 2) (sm e34) rfl ⟨.str z, rfl, .inl ⟨z, rfl, word_sz wz, fun H5 e5 => ⟨?_, e34.trans e5⟩⟩⟩⟩⟩, fun v H5 e => by rw [e.1]; exact q _ e.2⟩
              rw [wz]
end
end MK
set_option Elab.async false
set_option linter.all false
set_option autoImplicit false
set_option maxRecDepth 100000
set_option maxHeartbeats 4000000
namespace MK
open PySem PySem.Spec PyProof.Rows L2
open C8 (Met pe_mt pe_mt0 Mak pe_mk)
local macro_rules | `(tactic| walk_at "x") => `(tactic| dsimp only [tSeq, tAsg, tRet, tDrop, tLst, tTup, tCons, tOp, tUn, tIfS])
abbrev s_kept_program : Stmt := topS 51
theorem sc_kept_program : FnScope ["kind", "rows", "kept", "index", "row"] ["kind", "rows"] (defScope s_kept_program) := ⟨rfl, rfl, rfl, by decide +kernel, rfl, by decide +kernel, by decide +kernel⟩
def spKept (K : PySem.W.Frag) (KC : Addr) : Sp := fun vs H Q _ => ∃ (s : Addr) (kv v : V) (xs : List V) (fs : List FD) (n : Nat) (cs : List CD) (rs : List Rw), vs = [kv, v] ∧ H s ≠ none ∧ KdA K KC (Off s H) kv fs n cs ∧ KdOk fs n cs ∧ Sq K (Off s H) v xs ∧ Al (fun x r => Sq K (Off s H) x (RwV r)) xs rs ∧ RwsOk cs rs ∧ rs.length ≤ 200 ∧
  ∀ H' p rvs, Same H H' → SqT K (Off s H') p rvs → Al (RowT K (Off s H')) rvs rs → Q (.ref p) H'
section
variable {P : Program} {w : World} {K : PySem.W.Frag} {mg : Str → Option Value} {base : Heap} {C : Cst} {KC : Addr}
theorem rws_take {cs : List CD} {rs : List Rw} (h : RwsOk cs rs) (i : Nat) : RwsOk cs (rs.take i) := fun k r hr => by
  rw [List.getElem?_take] at hr
  split at hr
  · rename_i l
    have := h k r hr
    rw [List.take_take, Nat.min_eq_left (Nat.le_of_lt l)]
    exact this
  · cases hr
theorem off_off_put {H : Hp} {D s : Addr} {o : HO} : Off D (Off s (upd H D o)) = Off D (Off s H) := funext fun c => by
  by_cases q : c = D
  · subst q
    rw [show Off c (Off s (upd H c o)) c = none from if_pos rfl, show Off c (Off s H) c = none from if_pos rfl]
  · rw [off_ne q, off_ne q]
    by_cases z : c = s
    · subst z
      rw [show Off c (upd H D o) c = none from if_pos rfl, show Off c H c = none from if_pos rfl]
    · rw [off_ne z, off_ne z, upd_ne q]
theorem ok_kept {f : Addr} {fd : FuncData} (F : DefX K mg "kept_program" s_kept_program ["kind", "rows"] f fd) (T : Txt K mg) (c_is_list : Cal P w K mg base CX0 1 "is_list" (spList K)) (c_is_row : Cal P w K mg base CX0 3 "is_row" (spIsRow K KC)) :
    Cal P w K mg base CX0 4 "kept_program" (spKept K KC) := by
  refine cal_mk F sc_kept_program (fun vs H Q E h => ?_) (fun cdv A outer sh H vs Q E hr h => ?_)
  · obtain ⟨s, kv, v, xs, fs, n, cs, rs, rfl, _⟩ := h
    rfl
  · obtain ⟨s, kv, v, xs, fs, n, cs, rs, rfl, hs, kd, ok, ⟨a, rfl, ha⟩, hal, rok, lr, q⟩ := h
    refine ⟨_, (pss_cons (ps_if (pt_not (pt_val (pe_c c_is_list hr (by first | decide | assumption) rfl (pa_cons (pv 1) pa_nil))))
(pss_one (ps_never))
pss_nil)
(pss_cons (ps_set (i := 2) sc_kept_program.nd rfl (Or.inl rfl) (pe_lst pa_nil))
(pss_cons (ps_for PassesOwn.never rfl (pi_enV (by rfl) T.enumerate (pa_cons (pv 1) pa_nil)) (pg_tup (by rfl) (pgs_cons (pg_name (i := 3) sc_kept_program.nd rfl (Or.inl rfl)) (pgs_cons (pg_name (i := 4) sc_kept_program.nd rfl (Or.inl rfl)) pgs_nil)))
(pss_cons (ps_if (pt_not (pt_val (pe_c c_is_row hr (by first | decide | assumption) rfl (pa_cons (pv 0) (pa_cons (pv 2) (pa_cons (pv 4) pa_nil))))))
(pss_one (ps_never))
pss_nil)
(pss_one (ps_expr (pe_bm PySem.F.plainAttrs_list PySem.F.slot_list_append PySem.F.type_list_append mt_append (pv 2) (pa_cons (pe_callTy (call_tuple_ofK (K := K) rfl) (by rfl) T.tuple (by decide +kernel) (pa_cons (pv 4) pa_nil)) pa_nil))))))
(pss_one (ps_ret (pe_callTy (call_tuple_ofK (K := K) rfl) (by rfl) T.tuple (by decide +kernel) (pa_cons (pv 2) pa_nil))))))), ?_⟩
    have ll : xs.length = rs.length := hal.1
    have ha0 : SqL K H a xs ∨ SqT K H a xs := ha.imp (fun h => off_same.seq h) (fun h => same_t off_same h)
    refine ⟨_, rfl, _, _, rfl, ⟨a, rfl, ha0⟩, fun H1 e1 => ⟨true, rfl, iteF ?_⟩⟩
    refine ⟨by show 0 ≤ sizeLine; decide, fun D hD => ?_⟩
    have hD0 := none_of e1 hD
    have hsD : D ≠ s := fun z => hs (z ▸ hD0)
    refine ⟨_, rfl, a, xs, Off s H, rfl, ha, off_same.trans (same_new e1 hD), fun J G wk hG => ?_⟩
    refine for_it wk (fun i σ H2 => Same H H2 ∧ ∃ rvs : List V, H2 D = some (.lst rvs) ∧ Al (RowT K (Off D (Off s H2))) rvs (rs.take i) ∧ ∃ x3 x4, σ = [some kv, some (.ref a), some (.ref D), x3, x4])
      ⟨same_new e1 hD, [], upd_same, Al.nil, none, none, rfl⟩ (fun i σ H2 _ h => hG _ (off_same.trans h.1)) ?_ ?_
    · rintro i x σ H2 H3 hi ⟨e2, rvs, d2, al, x3, x4, rfl⟩ ⟨U, _, y, rfl, hU, rfl, h1, hy⟩
      obtain rfl := Option.some.inj h1
      obtain ⟨r, hr', hsq⟩ := hal.get hy
      have hi6 : i < rs.length := by
        have : i < xs.length := hi
        omega
      have e3 : Same H2 (upd H2 U (.tup [.int (i : Nat), y])) := same_new (Same.refl H2) hU
      refine ⟨U, _, rfl, SqT.of upd_same, rfl, _, _, rfl, _, _, rfl, rfl, ?_⟩
      have d3 := e3 _ _ d2
      have e23 := e2.trans e3
      generalize upd H2 U (.tup [.int (i : Nat), y]) = H3 at e3 d3 e23
      have rr := rok i r hr'
      have tk : rs.take (i + 1) = rs.take i ++ [r] := by
        rw [List.take_add_one, hr']
        rfl
      have al3 : Al (RowT K (Off D (Off s H3))) rvs (rs.take i) := al.mono fun _ _ h => Tu.keep (same_off (s := D) (same_off (s := s) e3)) h
      refine ⟨_, rfl, _, rfl, _, rfl, ?_⟩
      refine ⟨kv, y, D, rvs, fs, n, cs, rs.take i, r, rfl, kd.keep (off_same.trans e23), ok, d3, al3.mono fun _ _ h => Tu.keep (off_same.trans off_same) h, rws_take rok i, Sq.keep (off_same.trans e23) hsq, rr, by rw [List.length_take]; omega, fun H4 e4 => ⟨true, rfl, iteF ?_⟩⟩
      have d4 := e4 _ _ d3
      have e24 := e23.trans e4
      have fin : ∀ (H5 : Hp) (t : Addr), Same H4 H5 → SqT K (Off D (Off s H5)) t (RwV r) → ∃ l xs y, [V.ref D, V.ref t] = [V.ref l, y] ∧ True ∧ l = D ∧ xs = rvs ∧ y = .ref t ∧ H5 D = some (.lst rvs) ∧ rvs.length < sizeLine ∧ Same H (upd H5 D (.lst (rvs ++ [.ref t]))) ∧ ∃ rvs' : List V, upd H5 D (.lst (rvs ++ [.ref t])) D = some (.lst rvs') ∧ Al (RowT K (Off D (Off s (upd H5 D (.lst (rvs ++ [.ref t])))))) rvs' (rs.take (i + 1)) := fun H5 t e5 ht => by
        refine ⟨D, rvs, .ref t, rfl, trivial, rfl, rfl, rfl, e5 _ _ d4, ?_, fun c o hc => ?_, _, upd_same, ?_⟩
        · have := al.1
          rw [List.length_take] at this
          rw [sizeLine_eq]
          omega
        · rw [upd_ne (fun z => by rw [z, hD0] at hc; cases hc)]
          exact e5 _ _ (e24 _ _ hc)
        · rw [tk, off_off_put]
          exact (al3.mono fun _ _ h => Tu.keep (same_off (s := D) (same_off (s := s) (e4.trans e5))) h).snoc ⟨t, rfl, ht⟩
      obtain ⟨ra, rfl, hra⟩ := hsq
      rcases hra with hra | hra
      · refine ⟨_, rfl, .inl ⟨rfl, _, SqL.of d4⟩, _, rfl, ra, _, rfl, .inl ⟨(off_same.trans e24).seq hra, fun l hl => ?_⟩⟩
        obtain ⟨_, _, _, _, _, _, _, _, g1, g2, g3, rvs', g4, g5⟩ := fin (upd H4 l (.tup (RwV r))) l (same_new (Same.refl _) hl) (by
          have nl : l ≠ D := fun z => by rw [z, d4] at hl; cases hl
          have ns : l ≠ s := fun z => by
            cases w : H s with
            | none => exact hs w
            | some o =>
              rw [z, e24 _ _ w] at hl
              cases hl
          exact SqT.of ((off_ne nl).trans ((off_ne ns).trans upd_same)))
        exact ⟨D, _, _, rfl, rfl, g1, g2, g3, rvs', g4, g5, _, _, rfl⟩
      · refine ⟨_, rfl, .inl ⟨rfl, _, SqL.of d4⟩, _, rfl, ra, _, rfl, .inr ⟨same_t (off_same.trans e24) hra, ?_⟩⟩
        obtain ⟨_, _, _, _, _, _, _, _, g1, g2, g3, rvs', g4, g5⟩ := fin H4 ra (Same.refl _) (same_t (fun c o hc => (off_ne (fun z => by rw [z] at hc; rw [off_same _ _ hc] at hD0; cases hD0)).trans ((same_off (s := s) e24) _ _ hc)) hra)
        exact ⟨D, _, _, rfl, rfl, g1, g2, g3, rvs', g4, g5, _, _, rfl⟩
    · rintro σ H2 ⟨e2, rvs, d2, al, x3, x4, rfl⟩
      rw [ll, List.take_length] at al
      refine ⟨_, rfl, D, rvs, rfl, .inl ⟨SqL.of d2, fun l hl => ?_⟩⟩
      have e3 := same_new (Same.refl H2) hl (o := .tup rvs)
      have ns : l ≠ s := fun z => by
        cases w : H s with
        | none => exact hs w
        | some o =>
          rw [z, e2 _ _ w] at hl
          cases hl
      exact q _ l rvs (e2.trans e3) (SqT.of ((off_ne ns).trans upd_same)) (al.mono fun _ _ h => Tu.keep (off_same.trans (same_off (s := s) e3)) h)
end
end MK
set_option Elab.async false
set_option linter.all false
set_option autoImplicit false
set_option maxRecDepth 100000
set_option maxHeartbeats 4000000
namespace MK
open PySem PySem.Spec PyProof.Rows L2
open C8 (Met pe_mt pe_mt0 Mak pe_mk)
local macro_rules | `(tactic| walk_at "x") => `(tactic| dsimp only [tSeq, tAsg, tRet, tDrop, tLst, tTup, tCons, tOp, tUn, tIfS])
abbrev s_Run_init : Stmt := inClass (topS 54) 0
theorem sc_Run_init : FnScope ["self", "kind", "rows", "row"] ["self", "kind", "rows"] (defScope s_Run_init) := ⟨rfl, rfl, rfl, by decide +kernel, rfl, by decide +kernel, by decide +kernel⟩
structure RCls (K : PySem.W.Frag) (RC : Addr) : Prop where
  cls : Cls K RC
  kind : NoAttr K RC "kind"
  program : NoAttr K RC "program"
  bench : NoAttr K RC "bench"
/-- a run of these rows -/
def RunR (K : PySem.W.Frag) (RC BC HC KC : Addr) (H : Hp) (a : Addr) (kv : V) (fs : List FD) (n : Nat) (cs : List CD) (rs : List Rw) : Prop := ∃ (dx pa be la ha ea : Addr) (rvs evs : List V) (ls : List Addr) (os : Os) (rl : Rl), H a = some (.ins RC dx [("kind", kv), ("program", .ref pa), ("bench", .ref be)]) ∧
  BeA K BC KC (Hr rl H) be fs n cs false la ha ea ∧ BnI (pRep HC) rl H la ha ea (.lst evs) ls os (doRows false fs cs rs) ∧ EaI (Hr rl H) evs (doRows false fs cs rs).early ∧ SqT K H pa rvs ∧ Al (RowT K H) rvs rs ∧ KdA K KC H kv fs n cs
theorem RunR.keep {K : PySem.W.Frag} {RC BC HC KC : Addr} {H H' : Hp} {a : Addr} {kv : V} {fs : List FD} {n : Nat} {cs : List CD} {rs : List Rw} (e : Same H H') (h : RunR K RC BC HC KC H a kv fs n cs rs) : RunR K RC BC HC KC H' a kv fs n cs rs := by
  obtain ⟨dx, pa, be, la, ha, ea, rvs, evs, ls, os, rl, h1, h2, h3, h4, h5, h6, h7⟩ := h
  exact ⟨dx, pa, be, la, ha, ea, rvs, evs, ls, os, rl, e _ _ h1, h2.keep (hr_keep e), h3.keep e, h4.keep (hr_keep e), same_t e h5, h6.mono fun _ _ h => Tu.keep e h, h7.keep e⟩
theorem wo_hr {M : List Addr} {rl : Rl} {H : Hp} : Same (Wo M (Hr rl H)) (Hr rl (Wo M H)) := fun a o h => by
  obtain ⟨n, h⟩ := wo_some h
  obtain ⟨r, h⟩ := hr_some h
  exact hr_get ((wo_get n).trans h) r
theorem BnI.wo {rep : Rep} {rl : Rl} {H : Hp} {la ha ea : Addr} {eo : HO} {ls : List Addr} {os : Os} {b : Bn} {M : List Addr} (h : BnI rep rl H la ha ea eo ls os b) (n : ∀ a ∈ M, rl a = none) : BnI rep rl (Wo M H) la ha ea eo ls os b :=
  have up : ∀ {a : Addr} {r : Ro}, rl a = some r → a ∉ M := fun h z => by rw [n _ z] at h; cases h
  { h with
    live := fun a r z => h.live a r (by
      rw [wo_get (fun m => r (n a m))] at z
      exact z)
    lah := (wo_get (up h.lar)).trans h.lah
    hah := (wo_get (up h.har)).trans h.hah
    eah := (wo_get (up h.ear)).trans h.eah
    lsh := fun i a ws h1 h2 => (wo_get (up (h.lsr i a h1))).trans (h.lsh i a ws h1 h2)
    oxh := fun j x o h1 h2 => (wo_get (up (h.oxr j x h1))).trans (h.oxh j x o h1 h2)
    osh := fun j x o h1 h2 => (wo_get (up (h.osr j x h1))).trans (h.osh j x o h1 h2) }
theorem sqt_wo {K : PySem.W.Frag} {M : List Addr} {H : Hp} {a : Addr} {xs : List V} (h : SqT K H a xs) (l : ∀ b ∈ M, ∃ ys, H b = some (.lst ys)) : SqT K (Wo M H) a xs := by
  have n : ∀ {o : HO}, H a = some o → (∀ ys, o ≠ .lst ys) → a ∉ M := fun h1 h2 z => by
    obtain ⟨ys, h3⟩ := l a z
    rw [h1] at h3
    exact h2 ys (Option.some.inj h3)
  rcases h with (h | ⟨o, h⟩) | h
  · exact .inl (.inl ((wo_get (n h nofun)).trans h))
  · exact .inl (.inr ⟨o, (wo_get (n h nofun)).trans h⟩)
  · exact .inr h
def spRInit (K : PySem.W.Frag) (RC BC HC KC : Addr) : Sp := fun vs H Q _ => ∃ (a dx : Addr) (kv v : V) (xs : List V) (fs : List FD) (n : Nat) (cs : List CD) (rs : List Rw) (M : List Addr), vs = [.ref a, kv, v] ∧ H a = some (.ins RC dx []) ∧ KdA K KC (Wo M (Off a H)) kv fs n cs ∧ KdOk fs n cs ∧ Sq K (Off a H) v xs ∧ Al (fun x r => Sq K (Off a H) x (RwV r)) xs rs ∧ RwsOk cs rs ∧ rs.length ≤ 200 ∧ (∀ b ∈ M, ∃ ys, Off a H b = some (.lst ys)) ∧
  ∀ H', Same (Off a H) H' → RunR K RC BC HC KC (Wo M H') a kv fs n cs rs → Q .non H'
section
variable {P : Program} {w : World} {K : PySem.W.Frag} {mg : Str → Option Value} {base : Heap} {C : Cst} {RC BC HC KC : Addr}
theorem bn0_ok {rep : Rep} {H : Hp} {la ha ea : Addr} (h1 : H la = some (.lst [])) (h2 : H ha = some (.lst [])) (h3 : H ea = some (.lst [])) (n1 : la ≠ ha) (n2 : la ≠ ea) (n3 : ha ≠ ea) :
    BnI rep (((Rl.put (fun _ => none) la .la).put ha .ha).put ea .ea) H la ha ea (.lst []) [] [] bn0 where
  live := fun a n => by
    by_cases e1 : a = ea
    · rw [e1, h3]; exact nofun
    by_cases e2 : a = ha
    · rw [e2, h2]; exact nofun
    by_cases e3 : a = la
    · rw [e3, h1]; exact nofun
    · exact absurd ((put_ne e1).trans ((put_ne e2).trans (put_ne e3))) n
  lar := (put_ne n2).trans ((put_ne n1).trans put_at)
  har := (put_ne n3).trans put_at
  ear := put_at
  lah := h1
  hah := h2
  eah := h3
  ll := rfl
  lsr := fun i a h => by simp at h
  lsh := fun i a ws h => by simp at h
  ol := rfl
  oxr := fun j x h => by simp at h
  osr := fun j x h => by simp at h
  oxh := fun j x o h => by simp at h
  osh := fun j x o h => by simp at h
  hj := fun j h => by simp [bn0] at h
theorem ok_rinit {f : Addr} {fd : FuncData} (F : FunU K "__init__" "Run.__init__" s_Run_init f fd) (T : Txt K mg) (Z : RCls K RC) (c_kept_program : Cal P w K mg base CX0 4 "kept_program" (spKept K KC)) (mk_Bench : Mak P w K mg base 1 "Bench" BC (spBInit K BC) [.bl false]) (m_do_row : Met P w K mg base 5 BC "do_row" (spRow K BC KC HC) []) :
    FnOk P w K mg base CX0 6 f fd ["self", "kind", "rows"] (spRInit K RC BC HC KC) := by
  refine F.ok sc_Run_init (fun vs H Q E h => ?_) (fun cdv A outer sh H vs Q E hr h => ?_)
  · obtain ⟨a, dx, kv, v, _, _, _, _, _, _, rfl, _⟩ := h
    rfl
  · obtain ⟨a, dx, kv, v, xs, fs, n, cs, rs, M, rfl, h0, kdM, ok, sq, al, rok, lr, lM, q⟩ := h
    have kd := kdM.keep wo_same
    refine ⟨_, (pss_cons (ps_fld (pv 0) (pv 1) rfl)
(pss_cons (ps_fld (pv 0) (pe_c c_kept_program hr (by first | decide | assumption) rfl (pa_cons (pv 1) (pa_cons (pv 2) pa_nil))) rfl)
(pss_cons (ps_fld (pv 0) (pe_mk mk_Bench hr (by decide) rfl (pa_cons (pv 1) pa_nil)) rfl)
(pss_one (ps_for PassesOwn.never rfl (pi_tup (pe_fld (pv 0) rfl)) (pg_name (i := 3) sc_Run_init.nd rfl (Or.inl rfl))
(pss_one (ps_expr (pe_mt m_do_row hr (by decide) (pe_fld (pv 0) rfl) (pa_cons (pv 3) pa_nil))))))))), ?_⟩
    have b1 : Same (Off a H) (Off a (upd H a (.ins RC dx (putF "kind" kv [])))) := fun c o hc => by
      have n : c ≠ a := fun z => by rw [z, show Off a H a = none from if_pos rfl] at hc; cases hc
      rw [off_ne n, upd_ne n]
      rwa [off_ne n] at hc
    have a1 : (upd H a (.ins RC dx (putF "kind" kv []))) a = some (.ins RC dx [("kind", kv)]) := upd_same
    refine ⟨_, rfl, _, rfl, a, RC, dx, _, rfl, h0, Z.cls, Z.kind, Nat.le_of_ble_eq_true rfl, ?_⟩
    show tSeq _ _ _ _ (upd H a (.ins RC dx (putF "kind" kv [])))
    generalize upd H a (.ins RC dx (putF "kind" kv [])) = H1 at b1 a1
    refine ⟨_, rfl, _, rfl, ?_⟩
    refine ⟨a, kv, v, xs, fs, n, cs, rs, rfl, by rw [a1]; exact nofun, kd.keep b1, ok, sq.keep b1, al.mono fun _ _ h => Sq.keep b1 h, rok, lr, fun H2 pa rvs e2 hp hrv => ?_⟩
    have a2 := e2 _ _ a1
    have b2 : Same (Off a H) (Off a H2) := b1.trans (same_off e2)
    refine ⟨_, rfl, a, RC, dx, _, rfl, a2, Z.cls, Z.program, Nat.le_of_ble_eq_true rfl, ?_⟩
    have a3 : (upd H2 a (.ins RC dx (putF "program" (.ref pa) [("kind", kv)]))) a = some (.ins RC dx [("kind", kv), ("program", .ref pa)]) := upd_same
    have b3 : ∀ c o, Off a H2 c = some o → c ≠ a ∧ (upd H2 a (.ins RC dx (putF "program" (.ref pa) [("kind", kv)]))) c = some o := fun c o hc => by
      have n : c ≠ a := fun z => by rw [z, show Off a H2 a = none from if_pos rfl] at hc; cases hc
      rw [off_ne n] at hc
      exact ⟨n, (upd_ne n).trans hc⟩
    show tSeq _ _ _ _ (upd H2 a (.ins RC dx (putF "program" (.ref pa) [("kind", kv)])))
    generalize upd H2 a (.ins RC dx (putF "program" (.ref pa) [("kind", kv)])) = H3 at a3 b3
    refine ⟨_, rfl, fun be bdx hbe hbdx ndx => ⟨be, bdx, kv, false, rfl, upd_same, fun H4 la ha ea kp be4 la4 ha4 ea4 la0 ha0 ea0 n1 n2 n3 => ⟨rfl, ?_⟩⟩⟩
    have up : ∀ {c : Addr} {o : HO}, H3 c = some o → c ≠ be ∧ (upd (upd H3 bdx (.own be)) be (.ins BC bdx [])) c = some o := fun {c o} hc => by
      have z1 : c ≠ be := fun z => by rw [z, hbe] at hc; cases hc
      have z2 : c ≠ bdx := fun z => by rw [z, hbdx] at hc; cases hc
      exact ⟨z1, (upd_ne z1).trans ((upd_ne z2).trans hc)⟩
    have beI : (upd (upd H3 bdx (.own be)) be (.ins BC bdx [])) be = some (.ins BC bdx []) := upd_same
    generalize upd (upd H3 bdx (.own be)) be (.ins BC bdx []) = HB at kp la0 ha0 ea0 up beI
    have aB := up a3
    have a4 := kp _ _ aB.1 aB.2
    refine ⟨_, rfl, a, RC, dx, _, rfl, a4, Z.cls, Z.bench, Nat.le_of_ble_eq_true rfl, ?_⟩
    have a5 : (upd H4 a (.ins RC dx (putF "bench" (.ref be) [("kind", kv), ("program", .ref pa)]))) a = some (.ins RC dx [("kind", kv), ("program", .ref pa), ("bench", .ref be)]) := upd_same
    have nn : ∀ {c p : Addr} {o : HO}, HB c = some o → HB p = none → c ≠ p := fun h1 h2 z => by rw [z, h2] at h1; cases h1
    have rl0 : ∀ {c : Addr} {o : HO}, HB c = some o → ((((Rl.put (fun _ => none) la .la).put ha .ha).put ea .ea) : Rl) c = none := fun h => (put_ne (nn h ea0)).trans ((put_ne (nn h ha0)).trans (put_ne (nn h la0)))
    have k5 : ∀ {c : Addr} {o : HO}, c ≠ a → H4 c = some o → (upd H4 a (.ins RC dx (putF "bench" (.ref be) [("kind", kv), ("program", .ref pa)]))) c = some o := fun n h => (upd_ne n).trans h
    have b5 : Same (Off a H2) (Hr (((Rl.put (fun _ => none) la .la).put ha .ha).put ea .ea) (upd H4 a (.ins RC dx (putF "bench" (.ref be) [("kind", kv), ("program", .ref pa)])))) := fun c o hc => by
      obtain ⟨na, h3⟩ := b3 c o hc
      obtain ⟨nb, hB⟩ := up h3
      exact hr_get (k5 na (kp _ _ nb hB)) (rl0 hB)
    have be5 : Hr (((Rl.put (fun _ => none) la .la).put ha .ha).put ea .ea) (upd H4 a (.ins RC dx (putF "bench" (.ref be) [("kind", kv), ("program", .ref pa)]))) be = some (.ins BC bdx (beV kv false la ha ea)) := hr_get (k5 (Ne.symm aB.1) be4) (rl0 beI)
    have aH5 := hr_get a5 (rl0 aB.2)
    have I5 := bn0_ok (rep := pRep HC) (k5 (Ne.symm (nn aB.2 la0)) la4) (k5 (Ne.symm (nn aB.2 ha0)) ha4) (k5 (Ne.symm (nn aB.2 ea0)) ea4) n1 n2 n3
    generalize upd H4 a (.ins RC dx (putF "bench" (.ref be) [("kind", kv), ("program", .ref pa)])) = H5 at a5 b5 be5 I5 aH5 ⊢
    generalize ((Rl.put (fun _ => none) la .la).put ha .ha).put ea .ea = rl5 at b5 be5 I5 aH5
    have kd5 := (kd.keep b2).keep b5
    have be0 : BeA K BC KC (Hr rl5 H5) be fs n cs false la ha ea := ⟨bdx, kv, be5, kd5⟩
    have hp5 := same_t b5 hp
    have hrv5 : Al (RowT K (Hr rl5 H5)) rvs rs := hrv.mono fun _ _ h => Tu.keep b5 h
    have lrv : rvs.length = rs.length := hrv.1
    refine ⟨_, rfl, a, RC, dx, _, .ref pa, rfl, a5, Z.cls, Z.program, rfl, pa, rfl, ⟨rvs, same_t hr_same hp5⟩, for_it (walk_tup (K := K) (a := pa) (xs := rvs)) (fun i σ Hi => ∃ (rli : Rl) (ls : List Addr) (os : Os) (evs : List V) (x3 : Option V), σ = [some (.ref a), some kv, some v, x3] ∧ Same (Hr rl5 H5) (Hr rli Hi) ∧ BnI (pRep HC) rli Hi la ha ea (.lst evs) ls os (doRows false fs cs (rs.take i)) ∧ EaM M rli Hi evs (doRows false fs cs (rs.take i)).early)
      ⟨rl5, [], [], [], _, rfl, Same.refl _, I5, fun b hb z => (by
        obtain ⟨ys, hy⟩ := lM b hb
        rw [b5 _ _ (b2 _ _ hy)] at z
        cases z), Al.nil⟩ (fun i σ Hi _ h => ?_) ?_ ?_⟩
    · obtain ⟨rli, _, _, _, _, _, fi, _⟩ := h
      exact same_t (fi.trans hr_same) hp5
    · rintro i x σ H7 H6 hi ⟨rli, ls, os, evs, x3, rfl, fi, Ii, ei⟩ ⟨rfl, hx⟩
      obtain ⟨r, hr', hrt⟩ := hrv5.get hx
      have hil : i ≤ rs.length := by
        have := (List.getElem?_eq_some_iff.mp hr').1
        omega
      have wf := Wf.rows (av := false) ok rok i hil
      have stp : doRows false fs cs (rs.take (i + 1)) = doRow false fs cs (doRows false fs cs (rs.take i)) r := fold_take (doRow false fs cs) bn0 hr'
      refine ⟨_, rfl, a, RC, dx, _, .ref be, rfl, hr_same _ _ (fi _ _ aH5), Z.cls, Z.bench, rfl, be, bdx, _, rfl, hr_same _ _ (fi _ _ be5), rfl, _, rfl, ?_⟩
      refine ⟨be, la, ha, ea, x, evs, M, ls, os, _, rli, fs, n, cs, false, rs.take i, r, rfl, be0.keep fi, Ii, ei, ok, Tu.keep fi hrt, wf, rok i r hr', by rw [List.length_take]; omega, fun rl' H' ls' os' evs' f' J' ei' => ?_⟩
      rw [← stp] at J' ei'
      exact ⟨rl', ls', os', evs', _, rfl, fi.trans f', J', ei'⟩
    · rintro σ Hi ⟨rli, ls, os, evs, x3, rfl, fi, Ii, ei⟩
      rw [lrv, List.take_length] at Ii ei
      have bf : Same (Off a H2) Hi := b5.trans (fi.trans hr_same)
      have lMi : ∀ b ∈ M, ∃ ys, Hr rli Hi b = some (.lst ys) := fun b hb => by
        obtain ⟨ys, hy⟩ := lM b hb
        exact ⟨ys, fi _ _ (b5 _ _ (b2 _ _ hy))⟩
      have nM : ∀ {c : Addr} {o : HO}, Hi c = some o → (∀ ys, o ≠ .lst ys) → c ∉ M := fun h1 h2 z => by
        obtain ⟨ys, h3⟩ := lMi _ z
        rw [hr_same _ _ h3] at h1
        exact h2 ys (Option.some.inj h1).symm
      have unr : ∀ b ∈ M, rli b = none := fun b hb => by
        obtain ⟨ys, h3⟩ := lMi b hb
        exact (hr_some h3).1
      have lMh : ∀ b ∈ M, ∃ ys, Hi b = some (.lst ys) := fun b hb => by
        obtain ⟨ys, h3⟩ := lMi b hb
        exact ⟨ys, hr_same _ _ h3⟩
      have kM : Same (Wo M (Off a H)) (Hr rli (Wo M Hi)) := (wo_keep (b2.trans (b5.trans fi))).trans wo_hr
      have aHi := hr_same _ _ (fi _ _ aH5)
      have beHi := fi _ _ be5
      obtain ⟨rbe, beHi'⟩ := hr_some beHi
      exact q Hi (b2.trans bf) ⟨dx, pa, be, la, ha, ea, rvs, evs, ls, os, rli, (wo_get (nM aHi nofun)).trans aHi, ⟨bdx, kv, hr_get ((wo_get (nM beHi' nofun)).trans beHi') rbe, kdM.keep kM⟩, Ii.wo unr, ei.2.keep wo_hr, sqt_wo (same_t bf hp) lMh, hrv.mono (fun _ _ h => by
        obtain ⟨c, e, h'⟩ := Tu.keep bf h
        exact ⟨c, e, sqt_wo h' lMh⟩), kdM.keep (kM.trans hr_same)⟩
end
end MK
set_option Elab.async false
set_option linter.all false
set_option autoImplicit false
set_option maxRecDepth 100000
set_option maxHeartbeats 4000000
namespace MK
open PySem PySem.Spec PyProof.Rows L2
open C8 (Met pe_mt pe_mt0 Mak pe_mk)
local macro_rules | `(tactic| walk_at "x") => `(tactic| dsimp only [tSeq, tAsg, tRet, tDrop, tLst, tTup, tCons, tOp, tUn, tIfS])
abbrev s_Yard_init : Stmt := inClass (topS 56) 0
theorem sc_Yard_init : FnScope ["self", "kind"] ["self", "kind"] (defScope s_Yard_init) := ⟨rfl, rfl, rfl, by decide +kernel, rfl, by decide +kernel, by decide +kernel⟩
abbrev s_Yard_put_row : Stmt := inClass (topS 56) 4
theorem sc_Yard_put_row : FnScope ["self", "row", "thing"] ["self", "row"] (defScope s_Yard_put_row) := ⟨rfl, rfl, rfl, by decide +kernel, rfl, by decide +kernel, by decide +kernel⟩
abbrev s_Yard_make : Stmt := inClass (topS 56) 1
theorem sc_Yard_make : FnScope ["self"] ["self"] (defScope s_Yard_make) := ⟨rfl, rfl, rfl, by decide +kernel, rfl, by decide +kernel, by decide +kernel⟩
abbrev s_Thing_init : Stmt := inClass (topS 57) 0
theorem sc_Thing_init : FnScope ["self", "yard", "number"] ["self", "yard", "number"] (defScope s_Thing_init) := ⟨rfl, rfl, rfl, by decide +kernel, rfl, by decide +kernel, by decide +kernel⟩
structure YCls (K : PySem.W.Frag) (YC : Addr) : Prop where
  cls : Cls K YC
  kind : NoAttr K YC "kind"
  program : NoAttr K YC "program"
  bench : NoAttr K YC "bench"
  placed : NoAttr K YC "placed"
structure TCls (K : PySem.W.Frag) (TC : Addr) : Prop where
  cls : Cls K TC
  yard : NoAttr K TC "yard"
  number : NoAttr K TC "number"
  gone : NoAttr K TC "is_gone"
def yaV (kv : V) (pa be pl : Addr) : List (Str × V) := [("kind", kv), ("program", .ref pa), ("bench", .ref be), ("placed", .ref pl)]
def thV (y : Addr) (i : Nat) (g : Bool) : List (Str × V) := [("yard", .ref y), ("number", .int (i : Nat)), ("is_gone", .bl g)]
/-- a yard, its things, and all that may change of it: M; others may be in M -/
structure YaP (K : PySem.W.Frag) (YC TC BC HC KC : Addr) (H : Hp) (rl : Rl) (M O : List Addr) (y : Addr) (kv : V) (fs : List FD) (n : Nat) (cs : List CD) (rs : List Rw) (ths : List Addr) (ydx pa be pl la ha ea : Addr) (rvs evs : List V) (ls : List Addr) (os : Os) : Prop where
  yh : H y = some (.ins YC ydx (yaV kv pa be pl))
  ph : H pa = some (.lst rvs)
  lh : H pl = some (.lst (ths.map V.ref))
  th : ∀ (i : Nat) t, ths[i]? = some t → ∃ tdx, H t = some (.ins TC tdx (thV y i false))
  tl : ths.length = rs.length
  ym : y ∈ M
  pm : pa ∈ M
  lm : pl ∈ M
  tm : ∀ t ∈ ths, t ∈ M
  mr : ∀ b ∈ M, rl b = none
  mh : ∀ b ∈ M, H b ≠ none
  ne : pa ≠ pl
  om : ∀ b ∈ O, b ∈ M ∧ b ≠ y ∧ b ≠ pa ∧ b ≠ pl ∧ b ∉ ths
  rows : Al (RowT K (Wo M (Hr rl H))) rvs rs
  bch : BeA K BC KC (Wo M (Hr rl H)) be fs n cs false la ha ea
  bn : BnI (pRep HC) rl H la ha ea (.lst evs) ls os (doRows false fs cs rs)
  early : EaI (Wo M (Hr rl H)) evs (doRows false fs cs rs).early
  kd : KdA K KC (Wo M (Hr rl H)) kv fs n cs
def YaI (K : PySem.W.Frag) (YC TC BC HC KC : Addr) (H : Hp) (rl : Rl) (M O : List Addr) (y : Addr) (kv : V) (fs : List FD) (n : Nat) (cs : List CD) (rs : List Rw) (ths : List Addr) : Prop := ∃ (ydx pa be pl la ha ea : Addr) (rvs evs : List V) (ls : List Addr) (os : Os), YaP K YC TC BC HC KC H rl M O y kv fs n cs rs ths ydx pa be pl la ha ea rvs evs ls os
theorem wo_fr {M M' : List Addr} {rl rl' : Rl} {H H' : Hp} (h : ∀ b o, b ∉ M → rl b = none → H b = some o → b ∉ M' ∧ rl' b = none ∧ H' b = some o) : Same (Wo M (Hr rl H)) (Wo M' (Hr rl' H')) := fun b o hb => by
  obtain ⟨n, hb⟩ := wo_some hb
  obtain ⟨r, hb⟩ := hr_some hb
  obtain ⟨n', r', hb'⟩ := h b o n r hb
  exact (wo_get n').trans (hr_get hb' r')
theorem BnI.oth {rep : Rep} {rl : Rl} {H : Hp} {la ha ea : Addr} {eo : HO} {ls : List Addr} {os : Os} {b : Bn} {p : Addr} {o : HO} (h : BnI rep rl H la ha ea eo ls os b) (hp : rl p = none) : BnI rep rl (upd H p o) la ha ea eo ls os b :=
  have k : ∀ {a : Addr} {r : Ro}, rl a = some r → upd H p o a = H a := fun {a r} h => upd_ne (fun e => by rw [e, hp] at h; cases h)
  { h with
    live := fun a n z => by
      by_cases e : a = p
      · rw [e, upd_same] at z; cases z
      · rw [upd_ne e] at z; exact h.live a n z
    lah := (k h.lar).trans h.lah
    hah := (k h.har).trans h.hah
    eah := (k h.ear).trans h.eah
    lsh := fun i a ws h1 h2 => (k (h.lsr i a h1)).trans (h.lsh i a ws h1 h2)
    oxh := fun j x o h1 h2 => (k (h.oxr j x h1)).trans (h.oxh j x o h1 h2)
    osh := fun j x o h1 h2 => (k (h.osr j x h1)).trans (h.osh j x o h1 h2) }
def spTInit (K : PySem.W.Frag) (TC : Addr) : Sp := fun vs H Q _ => ∃ (a dx y : Addr) (i : Nat), vs = [.ref a, .ref y, .int (i : Nat)] ∧ H a = some (.ins TC dx []) ∧ Q .non (upd H a (.ins TC dx (thV y i false)))
/-- a row is put: the yard holds one more -/
def spPut (K : PySem.W.Frag) (YC TC BC HC KC : Addr) : Sp := fun vs H Q _ => ∃ (y : Addr) (rv kv : V) (M O : List Addr) (rl : Rl) (fs : List FD) (n : Nat) (cs : List CD) (rs : List Rw) (ths : List Addr) (r : Rw), vs = [.ref y, rv] ∧ YaI K YC TC BC HC KC H rl M O y kv fs n cs rs ths ∧ KdOk fs n cs ∧ RwsOk cs rs ∧ RowT K (Wo M (Hr rl H)) rv r ∧ RwOk cs rs r ∧ rs.length < 200 ∧
  ∀ H' rl' t, Same (Wo M (Hr rl H)) (Wo (t :: M) (Hr rl' H')) → t ∉ M → (∀ b ∈ O, H' b = H b) → YaI K YC TC BC HC KC H' rl' (t :: M) O y kv fs n cs (rs ++ [r]) (ths ++ [t]) → Q (.ref t) H'
section
variable {P : Program} {w : World} {K : PySem.W.Frag} {mg : Str → Option Value} {base : Heap} {C : Cst} {YC TC BC HC KC : Addr}
theorem ok_tinit {f : Addr} {fd : FuncData} (F : Fun K "__init__" "Thing.__init__" s_Thing_init f fd) (Z : TCls K TC) : FnOk P w K mg base CX0 1 f fd ["self", "yard", "number"] (spTInit K TC) := by
  refine F.ok sc_Thing_init (fun vs H Q E h => ?_) (fun cdv A outer sh H vs Q E hr h => ?_)
  · obtain ⟨_, _, _, _, rfl, _⟩ := h
    rfl
  · obtain ⟨a, dx, y, i, rfl, ha, q⟩ := h
    refine ⟨_, (pss_cons (ps_fld (pv 0) (pv 1) rfl)
(pss_cons (ps_fld (pv 0) (pv 2) rfl)
(pss_one (ps_fld (pv 0) pe_bl rfl)))), ?_⟩
    refine ⟨_, rfl, _, rfl, a, TC, dx, _, rfl, ha, Z.cls, Z.yard, Nat.le_of_ble_eq_true rfl, ?_⟩
    refine ⟨_, rfl, _, rfl, a, TC, dx, _, rfl, upd_same, Z.cls, Z.number, Nat.le_of_ble_eq_true rfl, ?_⟩
    refine ⟨_, rfl, a, TC, dx, _, rfl, upd_same, Z.cls, Z.gone, Nat.le_of_ble_eq_true rfl, ?_⟩
    show Q .non (upd (upd (upd H a _) a _) a _)
    rw [upd_upd, upd_upd]
    exact q
theorem ok_put {f : Addr} {fd : FuncData} (F : Fun K "put_row" "Yard.put_row" s_Yard_put_row f fd) (T : Txt K mg) (Z : YCls K YC) (m_do_row : Met P w K mg base 5 BC "do_row" (spRow K BC KC HC) []) (mk_Thing : Mak P w K mg base 1 "Thing" TC (spTInit K TC) []) :
    FnOk P w K mg base CX0 6 f fd ["self", "row"] (spPut K YC TC BC HC KC) := by
  refine F.ok sc_Yard_put_row (fun vs H Q E h => ?_) (fun cdv A outer sh H vs Q E hr h => ?_)
  · obtain ⟨y, rv, _, _, _, _, _, _, _, _, _, _, rfl, _⟩ := h
    rfl
  · obtain ⟨y, rv, kv, M, O, rl, fs, n, cs, rs, ths, r, rfl, ⟨ydx, pa, be, pl, la, ha, ea, rvs, evs, ls, os, I⟩, ok, rok, hrv, rk, lr, q⟩ := h
    refine ⟨_, (pss_cons (ps_expr (pe_bm PySem.F.plainAttrs_list PySem.F.slot_list_append PySem.F.type_list_append mt_append (pe_fld (pv 0) rfl) (pa_cons (pv 1) pa_nil)))
(pss_cons (ps_expr (pe_mt m_do_row hr (by decide) (pe_fld (pv 0) rfl) (pa_cons (pv 1) pa_nil)))
(pss_cons (ps_set (i := 2) sc_Yard_put_row.nd rfl (Or.inl rfl) (pe_mk mk_Thing hr (by decide) rfl (pa_cons (pv 0) (pa_cons (pe_callB call_len_seq (by rfl) T.len (by decide +kernel) (pa_cons (pe_fld (pv 0) rfl) pa_nil)) pa_nil))))
(pss_cons (ps_expr (pe_bm PySem.F.plainAttrs_list PySem.F.slot_list_append PySem.F.type_list_append mt_append (pe_fld (pv 0) rfl) (pa_cons (pv 2) pa_nil)))
(pss_one (ps_ret (pv 2))))))), ?_⟩
    obtain ⟨yh, ph, lh, th, tl, ym, pm, lm, tm, mr, mh, ne, om, rows, bch, bn, early, kd⟩ := I
    have lrv : rvs.length = rs.length := rows.1
    obtain ⟨bdx, bkv, bh, bk⟩ := id bch
    have yp : y ≠ pa := fun e => by rw [e, ph] at yh; cases yh
    have yl : y ≠ pl := fun e => by rw [e, lh] at yh; cases yh
    have tp : ∀ {i : Nat} {t : Addr}, ths[i]? = some t → t ≠ y ∧ t ≠ pa ∧ t ≠ pl := fun {i t} h => by
      obtain ⟨tdx, g⟩ := th i t h
      refine ⟨fun e => ?_, fun e => ?_, fun e => ?_⟩
      · rw [e, yh] at g
        cases g
      · rw [e, ph] at g
        cases g
      · rw [e, lh] at g
        cases g
    -- the row
    refine ⟨_, rfl, y, YC, ydx, _, .ref pa, rfl, yh, Z.cls, Z.program, rfl, .inl ⟨rfl, _, SqL.of ph⟩, _, rfl, pa, _, _, rfl, rfl, ph, by rw [lrv, sizeLine_eq]; omega, ?_⟩
    have p1 : upd H pa (.lst (rvs ++ [rv])) pa = some (.lst (rvs ++ [rv])) := upd_same
    have k1 : ∀ {b : Addr}, b ≠ pa → upd H pa (.lst (rvs ++ [rv])) b = H b := fun n => upd_ne n
    have f1 : Same (Wo M (Hr rl H)) (Wo M (Hr rl (upd H pa (.lst (rvs ++ [rv]))))) := wo_fr fun b o nb r hb => ⟨nb, r, (upd_ne (fun e => nb (by rw [e]; exact pm))).trans hb⟩
    have bn1 : BnI (pRep HC) rl (upd H pa (.lst (rvs ++ [rv]))) la ha ea (.lst evs) ls os (doRows false fs cs rs) := bn.oth (mr _ pm)
    show tSeq _ _ _ _ (upd H pa (.lst (rvs ++ [rv])))
    generalize upd H pa (.lst (rvs ++ [rv])) = H1 at p1 k1 f1 bn1 ⊢
    have yh1 := (k1 yp).trans yh
    have lh1 := (k1 (Ne.symm ne)).trans lh
    have wf := Wf.rows (av := false) ok rok rs.length (Nat.le_refl _)
    rw [List.take_length] at wf
    have w1 : Same (Wo M (Hr rl H1)) (Hr rl H1) := wo_same
    have mh1 : ∀ b ∈ M, Hr rl H1 b ≠ none := fun b hb z => by
      cases q : H b with
      | none => exact mh b hb q
      | some o =>
        by_cases e : b = pa
        · rw [e, hr_get p1 (mr _ pm)] at z; cases z
        · rw [hr_get ((k1 e).trans q) (mr _ hb)] at z; cases z
    refine ⟨_, rfl, y, YC, ydx, _, .ref be, rfl, yh1, Z.cls, Z.bench, rfl, be, bdx, _, rfl, (f1.trans (w1.trans hr_same)) _ _ bh, rfl, _, rfl, ?_⟩
    refine ⟨be, la, ha, ea, rv, evs, M, ls, os, _, rl, fs, n, cs, false, rs, r, rfl, bch.keep (f1.trans w1), bn1, ⟨mh1, early.keep f1⟩, ok, Tu.keep (f1.trans w1) hrv, wf, rk, by omega, fun rl2 H2 ls2 os2 evs2 f2 bn2 em2 => ?_⟩
    have stp : doRows false fs cs (rs ++ [r]) = doRow false fs cs (doRows false fs cs rs) r := by
      unfold doRows
      rw [List.foldl_append]
      rfl
    rw [← stp] at bn2 em2
    have f2 : Same (Hr rl H1) (Hr rl2 H2) := f2
    have at2 : ∀ {b : Addr} {o : HO}, b ∈ M → H1 b = some o → rl2 b = none ∧ H2 b = some o := fun hb h => hr_some (f2 _ _ (hr_get h (mr _ hb)))
    have mr2 : ∀ b ∈ M, rl2 b = none := fun b hb => by
      cases q : Hr rl H1 b with
      | none => exact absurd q (mh1 b hb)
      | some o => exact (hr_some (f2 _ _ q)).1
    have yh2 := (at2 ym yh1).2
    have ph2 := (at2 pm p1).2
    have lh2 := (at2 lm lh1).2
    have f12 : Same (Wo M (Hr rl H1)) (Wo M (Hr rl2 H2)) := wo_keep f2
    -- the thing
    refine ⟨_, rfl, _, rfl, y, YC, ydx, _, .ref pl, rfl, yh2, Z.cls, Z.placed, rfl, pl, _, rfl, .inl (SqL.of lh2), fun t tdx ht htd ntd => ?_⟩
    refine ⟨t, tdx, y, (ths.map V.ref).length, rfl, upd_same, rfl, ?_⟩
    rw [upd_upd]
    have t3 : upd (upd H2 tdx (.own t)) t (.ins TC tdx (thV y (ths.map V.ref).length false)) t = some (.ins TC tdx (thV y ths.length false)) := by rw [upd_same, List.length_map]
    have e3 : ∀ {b : Addr} {o : HO}, H2 b = some o → b ≠ t ∧ upd (upd H2 tdx (.own t)) t (.ins TC tdx (thV y (ths.map V.ref).length false)) b = some o := fun {b o} hb => by
      have n1 : b ≠ t := fun e => by rw [e, ht] at hb; cases hb
      have n2 : b ≠ tdx := fun e => by rw [e, htd] at hb; cases hb
      exact ⟨n1, (upd_ne n1).trans ((upd_ne n2).trans hb)⟩
    show tSeq _ _ _ _ (upd (upd H2 tdx (.own t)) t (.ins TC tdx (thV y (ths.map V.ref).length false)))
    have bn3 : BnI (pRep HC) rl2 (upd (upd H2 tdx (.own t)) t (.ins TC tdx (thV y (ths.map V.ref).length false))) la ha ea (.lst evs2) ls2 os2 (doRows false fs cs (rs ++ [r])) := (bn2.oth (bn2.fresh htd)).oth (bn2.fresh ht)
    have rt := bn2.fresh ht
    generalize upd (upd H2 tdx (.own t)) t (.ins TC tdx (thV y (ths.map V.ref).length false)) = H3 at t3 e3 bn3 ⊢
    have yh3 := (e3 yh2).2
    have ph3 := (e3 ph2).2
    have lh3 := (e3 lh2).2
    -- placed
    refine ⟨_, rfl, y, YC, ydx, _, .ref pl, rfl, yh3, Z.cls, Z.placed, rfl, .inl ⟨rfl, _, SqL.of lh3⟩, _, rfl, pl, _, _, rfl, rfl, lh3, by rw [List.length_map, tl, sizeLine_eq]; omega, ?_⟩
    have l4 : upd H3 pl (.lst (ths.map V.ref ++ [.ref t])) pl = some (.lst ((ths ++ [t]).map V.ref)) := by
      rw [upd_same, List.map_append]
      rfl
    have k4 : ∀ {b : Addr}, b ≠ pl → upd H3 pl (.lst (ths.map V.ref ++ [.ref t])) b = H3 b := fun n => upd_ne n
    have bn4 : BnI (pRep HC) rl2 (upd H3 pl (.lst (ths.map V.ref ++ [.ref t]))) la ha ea (.lst evs2) ls2 os2 (doRows false fs cs (rs ++ [r])) := bn3.oth (mr2 _ lm)
    refine ⟨_, rfl, ?_⟩
    show Q (.ref t) (upd H3 pl (.lst (ths.map V.ref ++ [.ref t])))
    generalize upd H3 pl (.lst (ths.map V.ref ++ [.ref t])) = H4 at l4 k4 bn4 ⊢
    have tpl : t ≠ pl := fun e => by rw [e, lh2] at ht; cases ht
    have fin : ∀ {b : Addr} {o : HO}, b ≠ pl → H2 b = some o → b ≠ t ∧ H4 b = some o := fun n h => ⟨(e3 h).1, (k4 n).trans (e3 h).2⟩
    have F2 : Same (Wo M (Hr rl2 H2)) (Wo (t :: M) (Hr rl2 H4)) := wo_fr fun b o nb r hb => by
      obtain ⟨n1, h4⟩ := fin (fun e => nb (by rw [e]; exact lm)) hb
      refine ⟨fun h => ?_, r, h4⟩
      rcases List.mem_cons.mp h with h | h
      · exact n1 h
      · exact nb h
    have F : Same (Wo M (Hr rl H)) (Wo (t :: M) (Hr rl2 H4)) := f1.trans (f12.trans F2)
    have tM : t ∉ M := fun hm => by
      cases q : Hr rl H1 t with
      | none => exact mh1 t hm q
      | some o =>
        have := (hr_some (f2 _ _ q)).2
        rw [ht] at this
        cases this
    have ne4 : ∀ {b : Addr}, b ∈ M → b ≠ y → b ≠ pa → b ≠ pl → H4 b = H b := fun {b} hb n1 n2 n3 => by
      cases q : H b with
      | none => exact absurd q (mh b hb)
      | some o => exact (fin n3 (at2 hb ((k1 n2).trans q)).2).2
    have y4 := (fin yl yh2).2
    have p4 := (fin ne ph2).2
    refine q H4 rl2 t F tM (fun b hb => ?_) ⟨ydx, pa, be, pl, la, ha, ea, rvs ++ [rv], evs2, ls2, os2, y4, p4, l4, fun i u hu => ?_, ?_, List.mem_cons_of_mem _ ym, List.mem_cons_of_mem _ pm, List.mem_cons_of_mem _ lm, fun u hu => ?_, fun b hb => ?_, fun b hb => ?_, ne, fun b hb => ?_, ?_, bch.keep F, bn4, em2.2.keep F2, kd.keep F⟩
    · obtain ⟨h1, h2, h3, h4, h5⟩ := om b hb
      exact ne4 h1 h2 h3 h4
    · rcases snoc_at hu with ⟨l, hu⟩ | ⟨l, e⟩
      · obtain ⟨h1, h2, h3⟩ := tp hu
        obtain ⟨udx, g⟩ := th i u hu
        exact ⟨udx, (ne4 (tm u (List.mem_of_getElem? hu)) h1 h2 h3).trans g⟩
      · rw [e, l]
        exact ⟨tdx, (k4 tpl).trans t3⟩
    · rw [List.length_append, List.length_append, tl]
      rfl
    · rcases List.mem_append.mp hu with hu | hu
      · exact List.mem_cons_of_mem _ (tm u hu)
      · rw [List.mem_singleton.mp hu]
        exact List.mem_cons_self
    · rcases List.mem_cons.mp hb with e | hb
      · rw [e]
        exact rt
      · exact mr2 b hb
    · rcases List.mem_cons.mp hb with e | hb
      · rw [e, k4 tpl, t3]
        exact nofun
      · intro z
        by_cases e : b = pl
        · rw [e, l4] at z
          cases z
        · cases q2 : Hr rl H1 b with
          | none => exact mh1 b hb q2
          | some o =>
            rw [(fin e (hr_some (f2 _ _ q2)).2).2] at z
            cases z
    · obtain ⟨h1, h2, h3, h4, h5⟩ := om b hb
      refine ⟨List.mem_cons_of_mem _ h1, h2, h3, h4, fun hm => ?_⟩
      rcases List.mem_append.mp hm with hm | hm
      · exact h5 hm
      · rw [List.mem_singleton.mp hm] at h1
        exact tM h1
    · exact (rows.mono fun _ _ h => Tu.keep F h).snoc (Tu.keep F hrv)
end
end MK
set_option Elab.async false
set_option linter.all false
set_option autoImplicit false
set_option maxRecDepth 100000
set_option maxHeartbeats 4000000
namespace MK
open PySem PySem.Spec PyProof.Rows L2
open C8 (Met pe_mt pe_mt0 Mak pe_mk)
local macro_rules | `(tactic| walk_at "x") => `(tactic| dsimp only [tSeq, tAsg, tRet, tDrop, tLst, tTup, tCons, tOp, tUn, tIfS])
def spYInit (K : PySem.W.Frag) (YC TC BC HC KC : Addr) : Sp := fun vs H Q _ => ∃ (y dx : Addr) (kv : V) (O : List Addr) (fs : List FD) (n : Nat) (cs : List CD), vs = [.ref y, kv] ∧ H y = some (.ins YC dx []) ∧ KdA K KC (Wo O (Off y H)) kv fs n cs ∧ (∀ b ∈ O, Off y H b ≠ none) ∧
  ∀ H' rl' M', Same (Wo O (Off y H)) (Wo M' (Hr rl' H')) → (∀ b ∈ O, H' b = H b) → YaI K YC TC BC HC KC H' rl' M' O y kv fs n cs [] [] → Q .non H'
def spYMake (K : PySem.W.Frag) (YC TC BC HC KC : Addr) : Sp := fun vs H Q _ => ∃ (y : Addr) (kv : V) (M O : List Addr) (rl : Rl) (fs : List FD) (n : Nat) (cs : List CD) (rs : List Rw) (ths : List Addr), vs = [.ref y] ∧ YaI K YC TC BC HC KC H rl M O y kv fs n cs rs ths ∧ KdOk fs n cs ∧ RwsOk cs rs ∧ rs.length < 200 ∧
  ∀ H' rl' t, Same (Wo M (Hr rl H)) (Wo (t :: M) (Hr rl' H')) → t ∉ M → (∀ b ∈ O, H' b = H b) → YaI K YC TC BC HC KC H' rl' (t :: M) O y kv fs n cs (rs ++ [.mk]) (ths ++ [t]) → Q (.ref t) H'
/-- something new beside a yard -/
theorem YaI.new {K : PySem.W.Frag} {YC TC BC HC KC : Addr} {H H' : Hp} {rl : Rl} {M O : List Addr} {y : Addr} {kv : V} {fs : List FD} {n : Nat} {cs : List CD} {rs : List Rw} {ths : List Addr} (e : Same H H') (h : YaI K YC TC BC HC KC H rl M O y kv fs n cs rs ths) : YaI K YC TC BC HC KC H' rl M O y kv fs n cs rs ths := by
  obtain ⟨ydx, pa, be, pl, la, ha, ea, rvs, evs, ls, os, I⟩ := h
  have f : Same (Wo M (Hr rl H)) (Wo M (Hr rl H')) := wo_keep (hr_keep e)
  exact ⟨ydx, pa, be, pl, la, ha, ea, rvs, evs, ls, os, { I with
    yh := e _ _ I.yh
    ph := e _ _ I.ph
    lh := e _ _ I.lh
    th := fun i t ht => by
      obtain ⟨tdx, g⟩ := I.th i t ht
      exact ⟨tdx, e _ _ g⟩
    mh := fun b hb z => by
      cases q : H b with
      | none => exact I.mh b hb q
      | some o => rw [e _ _ q] at z; cases z
    rows := I.rows.mono fun _ _ h => Tu.keep f h
    bch := I.bch.keep f
    bn := I.bn.keep e
    early := I.early.keep f
    kd := I.kd.keep f }⟩
theorem YaI.fr {H H' : Hp} {rl : Rl} {M : List Addr} (e : Same H H') : Same (Wo M (Hr rl H)) (Wo M (Hr rl H')) := wo_keep (hr_keep e)
section
variable {P : Program} {w : World} {K : PySem.W.Frag} {mg : Str → Option Value} {base : Heap} {C : Cst} {YC TC BC HC KC : Addr}
theorem ok_yinit {f : Addr} {fd : FuncData} (F : Fun K "__init__" "Yard.__init__" s_Yard_init f fd) (T : Txt K mg) (Z : YCls K YC) (mk_Bench : Mak P w K mg base 1 "Bench" BC (spBInit K BC) [.bl false]) : FnOk P w K mg base CX0 3 f fd ["self", "kind"] (spYInit K YC TC BC HC KC) := by
  refine F.ok sc_Yard_init (fun vs H Q E h => ?_) (fun cdv A outer sh H vs Q E hr h => ?_)
  · obtain ⟨y, dx, kv, _, _, _, _, rfl, _⟩ := h
    rfl
  · obtain ⟨y, dx, kv, O, fs, n, cs, rfl, h0, kd, oh, q⟩ := h
    refine ⟨_, (pss_cons (ps_fld (pv 0) (pv 1) rfl)
(pss_cons (ps_fld (pv 0) (pe_lst pa_nil) rfl)
(pss_cons (ps_fld (pv 0) (pe_mk mk_Bench hr (by decide) rfl (pa_cons (pv 1) pa_nil)) rfl)
(pss_one (ps_fld (pv 0) (pe_lst pa_nil) rfl))))), ?_⟩
    refine ⟨_, rfl, _, rfl, y, YC, dx, _, rfl, h0, Z.cls, Z.kind, Nat.le_of_ble_eq_true rfl, ?_⟩
    have a1 : upd H y (.ins YC dx (putF "kind" kv [])) y = some (.ins YC dx [("kind", kv)]) := upd_same
    have k1 : ∀ {b : Addr}, b ≠ y → upd H y (.ins YC dx (putF "kind" kv [])) b = H b := fun n => upd_ne n
    show tSeq _ _ _ _ (upd H y (.ins YC dx (putF "kind" kv [])))
    generalize upd H y (.ins YC dx (putF "kind" kv [])) = H1 at a1 k1
    refine ⟨by show 0 ≤ sizeLine; decide, fun pa hpa => ?_⟩
    have ypa : y ≠ pa := fun e => by rw [← e, a1] at hpa; cases hpa
    refine ⟨_, rfl, y, YC, dx, _, rfl, (upd_ne ypa).trans a1, Z.cls, Z.program, Nat.le_of_ble_eq_true rfl, ?_⟩
    have a3 : upd (upd H1 pa (.lst [])) y (.ins YC dx (putF "program" (.ref pa) [("kind", kv)])) y = some (.ins YC dx [("kind", kv), ("program", .ref pa)]) := upd_same
    have p3 : upd (upd H1 pa (.lst [])) y (.ins YC dx (putF "program" (.ref pa) [("kind", kv)])) pa = some (.lst []) := (upd_ne (Ne.symm ypa)).trans upd_same
    have k3 : ∀ {b : Addr}, b ≠ y → b ≠ pa → upd (upd H1 pa (.lst [])) y (.ins YC dx (putF "program" (.ref pa) [("kind", kv)])) b = H b := fun n1 n2 => (upd_ne n1).trans ((upd_ne n2).trans (k1 n1))
    show tSeq _ _ _ _ (upd (upd H1 pa (.lst [])) y (.ins YC dx (putF "program" (.ref pa) [("kind", kv)])))
    generalize upd (upd H1 pa (.lst [])) y (.ins YC dx (putF "program" (.ref pa) [("kind", kv)])) = H3 at a3 p3 k3
    refine ⟨_, rfl, fun be bdx hbe hbdx ndx => ⟨be, bdx, kv, false, rfl, upd_same, fun H4 la ha ea kp be4 la4 ha4 ea4 la0 ha0 ea0 n1 n2 n3 => ⟨rfl, ?_⟩⟩⟩
    have up : ∀ {c : Addr} {o : HO}, H3 c = some o → c ≠ be ∧ (upd (upd H3 bdx (.own be)) be (.ins BC bdx [])) c = some o := fun {c o} hc => by
      have z1 : c ≠ be := fun z => by rw [z, hbe] at hc; cases hc
      have z2 : c ≠ bdx := fun z => by rw [z, hbdx] at hc; cases hc
      exact ⟨z1, (upd_ne z1).trans ((upd_ne z2).trans hc)⟩
    have beI : (upd (upd H3 bdx (.own be)) be (.ins BC bdx [])) be = some (.ins BC bdx []) := upd_same
    generalize upd (upd H3 bdx (.own be)) be (.ins BC bdx []) = HB at kp la0 ha0 ea0 up beI
    have nn : ∀ {c p : Addr} {o : HO}, HB c = some o → HB p = none → c ≠ p := fun h1 h2 z => by rw [z, h2] at h1; cases h1
    have rl0 : ∀ {c : Addr} {o : HO}, HB c = some o → ((((Rl.put (fun _ => none) la .la).put ha .ha).put ea .ea) : Rl) c = none := fun h => (put_ne (nn h ea0)).trans ((put_ne (nn h ha0)).trans (put_ne (nn h la0)))
    have aB := up a3
    have pB := up p3
    have a4 := kp _ _ aB.1 aB.2
    have p4 := kp _ _ pB.1 pB.2
    refine ⟨_, rfl, y, YC, dx, _, rfl, a4, Z.cls, Z.bench, Nat.le_of_ble_eq_true rfl, ?_⟩
    have a5 : upd H4 y (.ins YC dx (putF "bench" (.ref be) [("kind", kv), ("program", .ref pa)])) y = some (.ins YC dx [("kind", kv), ("program", .ref pa), ("bench", .ref be)]) := upd_same
    have k5 : ∀ {b : Addr}, b ≠ y → upd H4 y (.ins YC dx (putF "bench" (.ref be) [("kind", kv), ("program", .ref pa)])) b = H4 b := fun n => upd_ne n
    have I4 := bn0_ok (rep := pRep HC) la4 ha4 ea4 n1 n2 n3
    have I5 : BnI (pRep HC) (((Rl.put (fun _ => none) la .la).put ha .ha).put ea .ea) (upd H4 y (.ins YC dx (putF "bench" (.ref be) [("kind", kv), ("program", .ref pa)]))) la ha ea (.lst []) [] [] bn0 := I4.oth (rl0 aB.2)
    show tSeq _ _ _ _ (upd H4 y (.ins YC dx (putF "bench" (.ref be) [("kind", kv), ("program", .ref pa)])))
    generalize upd H4 y (.ins YC dx (putF "bench" (.ref be) [("kind", kv), ("program", .ref pa)])) = H5 at a5 k5 I5
    refine ⟨by show 0 ≤ sizeLine; decide, fun pl hpl => ?_⟩
    have rlp := I5.fresh hpl
    have ypl : y ≠ pl := fun e => by rw [← e, a5] at hpl; cases hpl
    have p5 := (k5 (Ne.symm ypa)).trans p4
    have pal : pa ≠ pl := fun e => by rw [← e, p5] at hpl; cases hpl
    refine ⟨_, rfl, y, YC, dx, _, rfl, (upd_ne ypl).trans a5, Z.cls, Z.placed, Nat.le_of_ble_eq_true rfl, ?_⟩
    have a7 : upd (upd H5 pl (.lst [])) y (.ins YC dx (putF "placed" (.ref pl) [("kind", kv), ("program", .ref pa), ("bench", .ref be)])) y = some (.ins YC dx (yaV kv pa be pl)) := upd_same
    have l7 : upd (upd H5 pl (.lst [])) y (.ins YC dx (putF "placed" (.ref pl) [("kind", kv), ("program", .ref pa), ("bench", .ref be)])) pl = some (.lst []) := (upd_ne (Ne.symm ypl)).trans upd_same
    have k7 : ∀ {b : Addr}, b ≠ y → b ≠ pl → upd (upd H5 pl (.lst [])) y (.ins YC dx (putF "placed" (.ref pl) [("kind", kv), ("program", .ref pa), ("bench", .ref be)])) b = H5 b := fun n1 n2 => (upd_ne n1).trans (upd_ne n2)
    have I7 : BnI (pRep HC) (((Rl.put (fun _ => none) la .la).put ha .ha).put ea .ea) (upd (upd H5 pl (.lst [])) y (.ins YC dx (putF "placed" (.ref pl) [("kind", kv), ("program", .ref pa), ("bench", .ref be)]))) la ha ea (.lst []) [] [] bn0 := (I5.oth rlp).oth (rl0 aB.2)
    show Q .non (upd (upd H5 pl (.lst [])) y (.ins YC dx (putF "placed" (.ref pl) [("kind", kv), ("program", .ref pa), ("bench", .ref be)])))
    generalize upd (upd H5 pl (.lst [])) y (.ins YC dx (putF "placed" (.ref pl) [("kind", kv), ("program", .ref pa), ("bench", .ref be)])) = H7 at a7 l7 k7 I7
    have p7 := (k7 (Ne.symm ypa) pal).trans p5
    -- all that was there
    have go : ∀ {b : Addr} {o : HO}, b ≠ y → H b = some o → b ≠ pa ∧ b ≠ pl ∧ ((((Rl.put (fun _ => none) la .la).put ha .ha).put ea .ea) : Rl) b = none ∧ H7 b = some o := fun {b o} nb hb => by
      have npa : b ≠ pa := fun e => by rw [← k1 nb, e, hpa] at hb; cases hb
      have h3 := (k3 nb npa).trans hb
      obtain ⟨nbe, hB⟩ := up h3
      have h5 := (k5 nb).trans (kp _ _ nbe hB)
      have npl : b ≠ pl := fun e => by rw [e, hpl] at h5; cases h5
      exact ⟨npa, npl, rl0 hB, (k7 nb npl).trans h5⟩
    have beM : be ≠ y ∧ be ≠ pl ∧ be ≠ pa := by
      refine ⟨Ne.symm aB.1, fun e => ?_, Ne.symm pB.1⟩
      have := (k5 (Ne.symm aB.1)).trans be4
      rw [e, hpl] at this
      cases this
    have oy : ∀ {b : Addr}, b ∈ O → b ≠ y ∧ ∃ o, H b = some o := fun {b} hb => by
      have := oh b hb
      have n : b ≠ y := fun e => by rw [e, off_s] at this; exact this rfl
      rw [off_ne n] at this
      cases z : H b with
      | none => exact absurd z this
      | some o => exact ⟨n, o, rfl⟩
    have beO : be ∉ O := fun h => by
      obtain ⟨n, o, hb⟩ := oy h
      have npa : be ≠ pa := beM.2.2
      have := (k3 n npa).trans hb
      rw [hbe] at this
      cases this
    have F : Same (Wo O (Off y H)) (Wo (y :: pa :: pl :: O) (Hr (((Rl.put (fun _ => none) la .la).put ha .ha).put ea .ea) H7)) := fun b o hb => by
      obtain ⟨nO, hb⟩ := wo_some hb
      have nb : b ≠ y := fun e => by rw [e, off_s] at hb; cases hb
      rw [off_ne nb] at hb
      obtain ⟨g1, g2, g3, g4⟩ := go nb hb
      refine (wo_get fun hm => ?_).trans (hr_get g4 g3)
      simp only [List.mem_cons] at hm
      rcases hm with h | h | h | h
      · exact nb h
      · exact g1 h
      · exact g2 h
      · exact nO h
    have kd7 := kd.keep F
    refine q H7 _ _ F (fun b hb => ?_) ⟨dx, pa, be, pl, la, ha, ea, [], [], [], [], a7, p7, l7, fun i t h => by simp at h, rfl, List.mem_cons_self, List.mem_cons_of_mem _ List.mem_cons_self, List.mem_cons_of_mem _ (List.mem_cons_of_mem _ List.mem_cons_self), nofun, fun b hb => ?_, fun b hb => ?_, pal, fun b hb => ?_, Al.nil, ⟨bdx, kv, ?_, kd7⟩, I7, Al.nil, kd7⟩
    · obtain ⟨nb, o, hb⟩ := oy hb
      rw [(go nb hb).2.2.2, hb]
    · simp only [List.mem_cons] at hb
      rcases hb with h | h | h | h
      · rw [h]; exact rl0 aB.2
      · rw [h]; exact rl0 pB.2
      · rw [h]; exact rlp
      · obtain ⟨nb, o, hb⟩ := oy h
        exact (go nb hb).2.2.1
    · simp only [List.mem_cons] at hb
      rcases hb with h | h | h | h
      · rw [h, a7]; exact nofun
      · rw [h, p7]; exact nofun
      · rw [h, l7]; exact nofun
      · obtain ⟨nb, o, hb⟩ := oy h
        rw [(go nb hb).2.2.2]
        exact nofun
    · obtain ⟨nb, o, hb'⟩ := oy hb
      obtain ⟨g1, g2, _, _⟩ := go nb hb'
      exact ⟨List.mem_cons_of_mem _ (List.mem_cons_of_mem _ (List.mem_cons_of_mem _ hb)), nb, g1, g2, nofun⟩
    · refine (wo_get fun hm => ?_).trans (hr_get ((k7 beM.1 beM.2.1).trans ((k5 beM.1).trans be4)) (rl0 beI))
      simp only [List.mem_cons] at hm
      rcases hm with h | h | h | h
      · exact beM.1 h
      · exact beM.2.2 h
      · exact beM.2.1 h
      · exact beO h
theorem ok_ymake {f : Addr} {fd : FuncData} (F : Fun K "make" "Yard.make" s_Yard_make f fd) (T : Txt K mg) (m_put_row : Met P w K mg base 6 YC "put_row" (spPut K YC TC BC HC KC) []) : FnOk P w K mg base CX0 7 f fd ["self"] (spYMake K YC TC BC HC KC) := by
  refine F.ok sc_Yard_make (fun vs H Q E h => ?_) (fun cdv A outer sh H vs Q E hr h => ?_)
  · obtain ⟨y, _, _, _, _, _, _, _, _, _, rfl, _⟩ := h
    rfl
  · obtain ⟨y, kv, M, O, rl, fs, n, cs, rs, ths, rfl, I, ok, rok, lr, q⟩ := h
    refine ⟨_, (pss_one (ps_ret (pe_mt m_put_row hr (by decide) (pv 0) (pa_cons (pe_tup (pa_cons pe_str pa_nil)) pa_nil)))), ?_⟩
    obtain ⟨ydx, pa, be, pl, _, _, _, _, _, _, _, J⟩ := id I
    refine ⟨_, rfl, y, ydx, _, rfl, J.yh, rfl, by show 1 ≤ sizeLine; decide, fun t ht => ?_⟩
    have e := same_new (Same.refl H) ht (o := .tup [.str "make"])
    have f1 : Same (Wo M (Hr rl H)) (Wo M (Hr rl (upd H t (.tup [.str "make"])))) := YaI.fr e
    have rt : rl t = none := J.bn.fresh ht
    have tM : t ∉ M := fun h => J.mh t h ht
    have ro : RowT K (Wo M (Hr rl (upd H t (.tup [.str "make"])))) (.ref t) .mk := ⟨t, rfl, SqT.of ((wo_get tM).trans (hr_get upd_same rt))⟩
    have oe : ∀ b ∈ O, upd H t (.tup [.str "make"]) b = H b := fun b hb => upd_ne (fun h => J.mh b (J.om b hb).1 (h ▸ ht))
    refine ⟨y, .ref t, kv, M, O, rl, fs, n, cs, rs, ths, .mk, rfl, I.new e, ok, rok, ro, trivial, lr, fun H' rl' u F tu ob I' => ?_⟩
    exact q H' rl' u (f1.trans F) tu (fun b hb => (ob b hb).trans (oe b hb)) I'
end
end MK
set_option Elab.async false
set_option linter.all false
set_option autoImplicit false
set_option maxRecDepth 100000
set_option maxHeartbeats 4000000
namespace MK
open PySem PySem.Spec PyProof.Rows L2
open C8 (Met pe_mt pe_mt0 Mak pe_mk)
local macro_rules | `(tactic| walk_at "x") => `(tactic| dsimp only [tSeq, tAsg, tRet, tDrop, tLst, tTup, tCons, tOp, tUn, tIfS])
abbrev s_Yard_undo : Stmt := inClass (topS 56) 2
theorem sc_Yard_undo : FnScope ["self", "thing", "row"] ["self"] (defScope s_Yard_undo) := ⟨rfl, rfl, rfl, by decide +kernel, rfl, by decide +kernel, by decide +kernel⟩
abbrev s_Yard_run : Stmt := inClass (topS 56) 3
theorem sc_Yard_run : FnScope ["self"] ["self"] (defScope s_Yard_run) := ⟨rfl, rfl, rfl, by decide +kernel, rfl, by decide +kernel, by decide +kernel⟩
abbrev s_Thing_look : Stmt := inClass (topS 57) 2
theorem sc_Thing_look : FnScope ["self"] ["self"] (defScope s_Thing_look) := ⟨rfl, rfl, rfl, by decide +kernel, rfl, by decide +kernel, by decide +kernel⟩
def spYUndo (K : PySem.W.Frag) (YC TC BC HC KC : Addr) : Sp := fun vs H Q _ => ∃ (y : Addr) (kv : V) (M O : List Addr) (rl : Rl) (fs : List FD) (n : Nat) (cs : List CD) (rs : List Rw) (ths : List Addr), vs = [.ref y] ∧ YaI K YC TC BC HC KC H rl M O y kv fs n cs rs ths ∧ KdOk fs n cs ∧ RwsOk cs rs ∧ rs.length ≤ 200 ∧
  (rs = [] → Q (.bl false) H) ∧ (rs ≠ [] → ∀ H' rl', Same (Wo M (Hr rl H)) (Wo M (Hr rl' H')) → (∀ b ∈ O, H' b = H b) → YaI K YC TC BC HC KC H' rl' M O y kv fs n cs rs.dropLast ths.dropLast → Q (.bl true) H')
def spYRun (K : PySem.W.Frag) (YC TC BC HC KC RC : Addr) : Sp := fun vs H Q _ => ∃ (y : Addr) (kv : V) (M O : List Addr) (rl : Rl) (fs : List FD) (n : Nat) (cs : List CD) (rs : List Rw) (ths : List Addr), vs = [.ref y] ∧ YaI K YC TC BC HC KC H rl M O y kv fs n cs rs ths ∧ KdOk fs n cs ∧ RwsOk cs rs ∧ rs.length ≤ 200 ∧
  ∀ H' x, Same H H' → RunR K RC BC HC KC H' x kv fs n cs rs → Q (.ref x) H'
def spLook (K : PySem.W.Frag) (YC TC BC HC KC : Addr) : Sp := fun vs H Q _ => ∃ (y t : Addr) (i : Nat) (kv : V) (M O : List Addr) (rl : Rl) (fs : List FD) (n : Nat) (cs : List CD) (rs : List Rw) (ths : List Addr) (r : Option Nat), vs = [.ref t] ∧ YaI K YC TC BC HC KC H rl M O y kv fs n cs rs ths ∧ KdOk fs n cs ∧ RwsOk cs rs ∧ rs.length ≤ 200 ∧ ths[i]? = some t ∧ (doRows false fs cs rs).hand[i]? = some r ∧
  ∀ H' v L, Same H H' → ToW H' v (toldOf (doRows false fs cs rs) r) L → (∀ a ∈ L, H a = none) → Q v H'
section
variable {P : Program} {w : World} {K : PySem.W.Frag} {mg : Str → Option Value} {base : Heap} {C : Cst} {YC TC BC HC KC RC : Addr}
theorem ok_look {f : Addr} {fd : FuncData} (F : Fun K "look" "Thing.look" s_Thing_look f fd) (T : Txt K mg) (Z : TCls K TC) (ZY : YCls K YC) (m_told : Met P w K mg base 2 BC "told" (spTld K BC KC HC) []) : FnOk P w K mg base CX0 3 f fd ["self"] (spLook K YC TC BC HC KC) := by
  refine F.ok sc_Thing_look (fun vs H Q E h => ?_) (fun cdv A outer sh H vs Q E hr h => ?_)
  · obtain ⟨y, t, i, _, _, _, _, _, _, _, _, _, _, rfl, _⟩ := h
    rfl
  · obtain ⟨y, t, i, kv, M, O, rl, fs, n, cs, rs, ths, r, rfl, ⟨ydx, pa, be, pl, la, ha, ea, rvs, evs, ls, os, I⟩, ok, rok, lr, ht, hh, q⟩ := h
    refine ⟨_, (pss_cons (ps_if (pt_val (pe_fld (pv 0) rfl))
(pss_one (ps_never))
pss_nil)
(pss_one (ps_ret (pe_mt m_told hr (by decide) (pe_fld (pe_fld (pv 0) rfl) rfl) (pa_cons (pe_fld (pv 0) rfl) pa_nil))))), ?_⟩
    obtain ⟨tdx, th⟩ := I.th i t ht
    have wf := Wf.rows (av := false) ok rok rs.length (Nat.le_refl _)
    rw [List.take_length] at wf
    obtain ⟨bdx, bkv, bh, bk⟩ := id I.bch
    have bh0 := hr_same _ _ (wo_same _ _ bh)
    refine ⟨_, rfl, t, TC, tdx, _, .bl false, rfl, th, Z.cls, Z.gone, rfl, false, rfl, iteF ?_⟩
    refine ⟨_, rfl, t, TC, tdx, _, .ref y, rfl, th, Z.cls, Z.yard, rfl, y, YC, ydx, _, .ref be, rfl, I.yh, ZY.cls, ZY.bench, rfl, be, bdx, _, rfl, bh0, rfl, _, rfl, t, TC, tdx, _, .int (i : Nat), rfl, th, Z.cls, Z.number, rfl, ?_⟩
    exact ⟨be, la, ha, ea, .lst evs, ls, os, _, rl, fs, n, cs, false, _, _, _, i, r, rfl, I.bch.keep wo_same, I.bn, wf.w, by omega, ok.fields.le, hh, q⟩
theorem ok_yrun {f : Addr} {fd : FuncData} (F : Fun K "run" "Yard.run" s_Yard_run f fd) (T : Txt K mg) (Z : YCls K YC) (mk_Run : Mak P w K mg base 6 "Run" RC (spRInit K RC BC HC KC) []) : FnOk P w K mg base CX0 8 f fd ["self"] (spYRun K YC TC BC HC KC RC) := by
  refine F.ok sc_Yard_run (fun vs H Q E h => ?_) (fun cdv A outer sh H vs Q E hr h => ?_)
  · obtain ⟨y, _, _, _, _, _, _, _, _, _, rfl, _⟩ := h
    rfl
  · obtain ⟨y, kv, M, O, rl, fs, n, cs, rs, ths, rfl, ⟨ydx, pa, be, pl, la, ha, ea, rvs, evs, ls, os, I⟩, ok, rok, lr, q⟩ := h
    refine ⟨_, (pss_one (ps_ret (pe_mk mk_Run hr (by decide) rfl (pa_cons (pe_fld (pv 0) rfl) (pa_cons (pe_fld (pv 0) rfl) pa_nil))))), ?_⟩
    refine ⟨_, rfl, y, YC, ydx, _, kv, rfl, I.yh, Z.cls, Z.kind, rfl, _, rfl, y, YC, ydx, _, .ref pa, rfl, I.yh, Z.cls, Z.program, rfl, fun x dx hx hdx nd => ?_⟩
    have S2 : Same H (Off x (upd (upd H dx (.own x)) x (.ins RC dx []))) := fun b o hb => by
      have n1 : b ≠ x := fun e => by rw [e, hx] at hb; cases hb
      have n2 : b ≠ dx := fun e => by rw [e, hdx] at hb; cases hb
      rw [off_ne n1, upd_ne n1, upd_ne n2]
      exact hb
    have w : Same (Wo M (Hr rl H)) H := wo_same.trans hr_same
    refine ⟨x, dx, kv, .ref pa, rvs, fs, n, cs, rs, [], rfl, upd_same, (I.kd.keep w).keep (S2.trans fun b o h => (wo_get (by simp)).trans h), ok, ⟨pa, rfl, .inl (SqL.of (S2 _ _ I.ph))⟩, I.rows.mono fun _ _ h => Tu.sq (Tu.keep (w.trans S2) h), rok, lr, nofun, fun H3 e3 rr => ⟨rfl, ?_⟩⟩
    exact q H3 x (S2.trans e3) (rr.keep wo_same)
theorem ok_yundo {f : Addr} {fd : FuncData} (F : Fun K "undo" "Yard.undo" s_Yard_undo f fd) (T : Txt K mg) (Z : YCls K YC) (ZT : TCls K TC) (mk_Bench : Mak P w K mg base 1 "Bench" BC (spBInit K BC) [.bl false]) (m_do_row : Met P w K mg base 5 BC "do_row" (spRow K BC KC HC) []) : FnOk P w K mg base CX0 7 f fd ["self"] (spYUndo K YC TC BC HC KC) := by
  refine F.ok sc_Yard_undo (fun vs H Q E h => ?_) (fun cdv A outer sh H vs Q E hr h => ?_)
  · obtain ⟨y, _, _, _, _, _, _, _, _, _, rfl, _⟩ := h
    rfl
  · obtain ⟨y, kv, M, O, rl, fs, n, cs, rs, ths, rfl, ⟨ydx, pa, be, pl, la, ha, ea, rvs, evs, ls, os, I⟩, ok, rok, lr, q0, q1⟩ := h
    refine ⟨_, (pss_cons (ps_if (pt_cmpR op_eq (pe_callB call_len_seq (by rfl) T.len (by decide +kernel) (pa_cons (pe_fld (pv 0) rfl) pa_nil)) pe_int (nomark _))
(pss_one (ps_ret pe_bl))
pss_nil)
(pss_cons (ps_expr (pe_bm0 PySem.F.plainAttrs_list PySem.F.slot_list_pop PySem.F.type_list_pop mt_pop (pe_fld (pv 0) rfl)))
(pss_cons (ps_set (i := 1) sc_Yard_undo.nd rfl (Or.inl rfl) (pe_bm0 PySem.F.plainAttrs_list PySem.F.slot_list_pop PySem.F.type_list_pop mt_pop (pe_fld (pv 0) rfl)))
(pss_cons (ps_fld (pv 1) pe_bl rfl)
(pss_cons (ps_fld (pv 0) (pe_mk mk_Bench hr (by decide) rfl (pa_cons (pe_fld (pv 0) rfl) pa_nil)) rfl)
(pss_cons (ps_for PassesOwn.never rfl (pi_list (pe_fld (pv 0) rfl)) (pg_name (i := 2) sc_Yard_undo.nd rfl (Or.inl rfl))
(pss_one (ps_expr (pe_mt m_do_row hr (by decide) (pe_fld (pv 0) rfl) (pa_cons (pv 2) pa_nil)))))
(pss_one (ps_ret pe_bl)))))))), ?_⟩
    obtain ⟨yh, ph, lh, th, tl, ym, pm, lm, tm, mr, mh, ne, om, rows, bch, bn, early, kd⟩ := I
    have lrv : rvs.length = rs.length := rows.1
    refine ⟨_, rfl, y, YC, ydx, _, .ref pa, rfl, yh, Z.cls, Z.program, rfl, pa, rvs, rfl, .inl (SqL.of ph), rfl, _, rfl, ite2 (fun g => ?_) (fun g => ?_)⟩
    · refine q0 (List.length_eq_zero_iff.mp ?_)
      have := V.int.inj (of_decide_eq_true g)
      omega
    have l0 : 0 < rs.length := by
      cases z : rs.length with
      | zero => exact absurd (decide_eq_true (by rw [lrv, z]; rfl)) g
      | succ k => exact Nat.succ_pos _
    have nn : rs ≠ [] := List.length_pos_iff.mp l0
    have yp : y ≠ pa := fun e => by rw [e, ph] at yh; cases yh
    have yl : y ≠ pl := fun e => by rw [e, lh] at yh; cases yh
    have tp : ∀ {i : Nat} {t : Addr}, ths[i]? = some t → t ≠ y ∧ t ≠ pa ∧ t ≠ pl := fun {i t} h => by
      obtain ⟨tdx, g⟩ := th i t h
      refine ⟨fun e => ?_, fun e => ?_, fun e => ?_⟩
      · rw [e, yh] at g
        cases g
      · rw [e, ph] at g
        cases g
      · rw [e, lh] at g
        cases g
    -- the row, and the thing
    have hv : rvs[rvs.length - 1]? = some (rvs[rvs.length - 1]'(by omega)) := List.getElem?_eq_getElem _
    refine ⟨_, rfl, y, YC, ydx, _, .ref pa, rfl, yh, Z.cls, Z.program, rfl, .inl ⟨rfl, _, SqL.of ph⟩, pa, rvs, _, rfl, rfl, ph, hv, ?_⟩
    have k1 : ∀ {b : Addr}, b ≠ pa → upd H pa (.lst rvs.dropLast) b = H b := fun n => upd_ne n
    have p1 : upd H pa (.lst rvs.dropLast) pa = some (.lst rvs.dropLast) := upd_same
    show tSeq _ _ _ _ (upd H pa (.lst rvs.dropLast))
    generalize upd H pa (.lst rvs.dropLast) = H1 at k1 p1 ⊢
    have y1 := (k1 yp).trans yh
    have l1 := (k1 (Ne.symm ne)).trans lh
    have htl : ths[ths.length - 1]? = some (ths[ths.length - 1]'(by omega)) := List.getElem?_eq_getElem _
    generalize (ths[ths.length - 1]'(by omega)) = t at htl
    have hmt : (ths.map V.ref)[(ths.map V.ref).length - 1]? = some (.ref t) := by rw [List.length_map, List.getElem?_map, htl]; rfl
    refine ⟨_, rfl, y, YC, ydx, _, .ref pl, rfl, y1, Z.cls, Z.placed, rfl, .inl ⟨rfl, _, SqL.of l1⟩, pl, _, .ref t, rfl, rfl, l1, hmt, ?_⟩
    have k2 : ∀ {b : Addr}, b ≠ pl → upd H1 pl (.lst (ths.map V.ref).dropLast) b = H1 b := fun n => upd_ne n
    have l2 : upd H1 pl (.lst (ths.map V.ref).dropLast) pl = some (.lst (ths.dropLast.map V.ref)) := by rw [upd_same, List.map_dropLast]
    show tSeq _ _ _ _ (upd H1 pl (.lst (ths.map V.ref).dropLast))
    generalize upd H1 pl (.lst (ths.map V.ref).dropLast) = H2 at k2 l2 ⊢
    obtain ⟨t1, t2, t3⟩ := tp htl
    obtain ⟨tdx, tg⟩ := th _ t htl
    have tg2 := (k2 t3).trans ((k1 t2).trans tg)
    refine ⟨_, rfl, t, TC, tdx, _, rfl, tg2, ZT.cls, ZT.gone, Nat.le_of_ble_eq_true rfl, ?_⟩
    have k3 : ∀ {b : Addr}, b ≠ t → upd H2 t (.ins TC tdx (putF "is_gone" (.bl true) (thV y (ths.length - 1) false))) b = H2 b := fun n => upd_ne n
    have g3 : upd H2 t (.ins TC tdx (putF "is_gone" (.bl true) (thV y (ths.length - 1) false))) t = some (.ins TC tdx (putF "is_gone" (.bl true) (thV y (ths.length - 1) false))) := upd_same
    show tSeq _ _ _ _ (upd H2 t (.ins TC tdx (putF "is_gone" (.bl true) (thV y (ths.length - 1) false))))
    generalize upd H2 t (.ins TC tdx (putF "is_gone" (.bl true) (thV y (ths.length - 1) false))) = H3 at k3 g3 ⊢
    have y3 := (k3 (Ne.symm t1)).trans ((k2 yl).trans y1)
    have p3 := (k3 (Ne.symm t2)).trans ((k2 ne).trans p1)
    have l3 := (k3 (Ne.symm t3)).trans l2
    have kk : ∀ {b : Addr}, b ≠ pa → b ≠ pl → b ≠ t → H3 b = H b := fun n1 n2 n3 => (k3 n3).trans ((k2 n2).trans (k1 n1))
    have m3 : ∀ b ∈ M, ∃ o, H3 b = some o := fun b hb => by
      by_cases e1 : b = pa
      · exact ⟨_, e1 ▸ p3⟩
      by_cases e2 : b = pl
      · exact ⟨_, e2 ▸ l3⟩
      by_cases e3 : b = t
      · exact ⟨_, e3 ▸ g3⟩
      rw [kk e1 e2 e3]
      cases z : H b with
      | none => exact absurd z (mh b hb)
      | some o => exact ⟨o, rfl⟩
    -- a new bench
    refine ⟨_, rfl, y, YC, ydx, _, kv, rfl, y3, Z.cls, Z.kind, rfl, fun be2 bdx2 hbe hbdx ndx => ⟨be2, bdx2, kv, false, rfl, upd_same, fun H4 la2 ha2 ea2 kp be4 la4 ha4 ea4 la0 ha0 ea0 n1 n2 n3 => ⟨rfl, ?_⟩⟩⟩
    have up : ∀ {c : Addr} {o : HO}, H3 c = some o → c ≠ be2 ∧ (upd (upd H3 bdx2 (.own be2)) be2 (.ins BC bdx2 [])) c = some o := fun {c o} hc => by
      have z1 : c ≠ be2 := fun z => by rw [z, hbe] at hc; cases hc
      have z2 : c ≠ bdx2 := fun z => by rw [z, hbdx] at hc; cases hc
      exact ⟨z1, (upd_ne z1).trans ((upd_ne z2).trans hc)⟩
    have beI : (upd (upd H3 bdx2 (.own be2)) be2 (.ins BC bdx2 [])) be2 = some (.ins BC bdx2 []) := upd_same
    generalize upd (upd H3 bdx2 (.own be2)) be2 (.ins BC bdx2 []) = HB at kp la0 ha0 ea0 up beI
    have nq : ∀ {c p : Addr} {o : HO}, HB c = some o → HB p = none → c ≠ p := fun h1 h2 z => by rw [z, h2] at h1; cases h1
    have rl0 : ∀ {c : Addr} {o : HO}, HB c = some o → ((((Rl.put (fun _ => none) la2 .la).put ha2 .ha).put ea2 .ea) : Rl) c = none := fun h => (put_ne (nq h ea0)).trans ((put_ne (nq h ha0)).trans (put_ne (nq h la0)))
    have a4 := kp _ _ (up y3).1 (up y3).2
    refine ⟨_, rfl, y, YC, ydx, _, rfl, a4, Z.cls, Z.bench, Nat.le_of_ble_eq_true rfl, ?_⟩
    have y5 : upd H4 y (.ins YC ydx (putF "bench" (.ref be2) (yaV kv pa be pl))) y = some (.ins YC ydx (yaV kv pa be2 pl)) := upd_same
    have k5 : ∀ {b : Addr}, b ≠ y → upd H4 y (.ins YC ydx (putF "bench" (.ref be2) (yaV kv pa be pl))) b = H4 b := fun n => upd_ne n
    have I5 : BnI (pRep HC) (((Rl.put (fun _ => none) la2 .la).put ha2 .ha).put ea2 .ea) (upd H4 y (.ins YC ydx (putF "bench" (.ref be2) (yaV kv pa be pl)))) la2 ha2 ea2 (.lst []) [] [] bn0 := (bn0_ok (rep := pRep HC) la4 ha4 ea4 n1 n2 n3).oth (rl0 (up y3).2)
    show tSeq _ _ _ _ (upd H4 y (.ins YC ydx (putF "bench" (.ref be2) (yaV kv pa be pl))))
    generalize upd H4 y (.ins YC ydx (putF "bench" (.ref be2) (yaV kv pa be pl))) = H5 at y5 k5 I5 ⊢
    generalize hrl : ((((Rl.put (fun _ => none) la2 .la).put ha2 .ha).put ea2 .ea) : Rl) = rl5 at rl0 I5
    have k35 : ∀ {b : Addr} {o : HO}, b ≠ y → H3 b = some o → rl5 b = none ∧ H5 b = some o := fun nb h => ⟨rl0 (up h).2, (k5 nb).trans (kp _ _ (up h).1 (up h).2)⟩
    have p5 := (k35 (Ne.symm yp) p3).2
    have l5 := (k35 (Ne.symm yl) l3).2
    have nM : ∀ {b c : Addr}, b ∉ M → c ∈ M → b ≠ c := fun h1 h2 e => h1 (e ▸ h2)
    have f5 : Same (Wo M (Hr rl H)) (Wo M (Hr rl5 H5)) := wo_fr fun b o nb r hb => by
      have h3 := (kk (nM nb pm) (nM nb lm) (nM nb (tm t (List.mem_of_getElem? htl)))).trans hb
      exact ⟨nb, k35 (nM nb ym) h3⟩
    have mr5 : ∀ b ∈ M, rl5 b = none ∧ H5 b ≠ none := fun b hb => by
      obtain ⟨o, h3⟩ := m3 b hb
      by_cases e : b = y
      · rw [e]
        exact ⟨rl0 (up y3).2, by rw [y5]; exact nofun⟩
      · obtain ⟨r5, h5⟩ := k35 e h3
        exact ⟨r5, by rw [h5]; exact nofun⟩
    have be5 : be2 ≠ y ∧ be2 ∉ M := by
      have n : be2 ∉ M := fun h => by
        obtain ⟨o, h3⟩ := m3 be2 h
        rw [hbe] at h3
        cases h3
      exact ⟨nM n ym, n⟩
    have kd5 := kd.keep f5
    have rows5 : Al (RowT K (Wo M (Hr rl5 H5))) rvs.dropLast rs.dropLast := by
      rw [List.dropLast_eq_take, List.dropLast_eq_take, lrv]
      exact (rows.mono fun _ _ h => Tu.keep f5 h).take _
    have beA5 : BeA K BC KC (Wo M (Hr rl5 H5)) be2 fs n cs false la2 ha2 ea2 := ⟨bdx2, kv, (wo_get be5.2).trans (hr_get ((k5 be5.1).trans be4) (rl0 beI)), kd5⟩
    have rok' : RwsOk cs rs.dropLast := by rw [List.dropLast_eq_take]; exact rok.take _
    have lr' : rs.dropLast.length ≤ 200 := by rw [List.length_dropLast]; omega
    have ld : rvs.dropLast.length = rs.dropLast.length := rows5.1
    generalize hrs : rs.dropLast = rs' at rows5 rok' lr' q1 ld
    -- done again
    refine ⟨_, rfl, y, YC, ydx, _, .ref pa, rfl, y5, Z.cls, Z.program, rfl, pa, rfl, ⟨_, SqL.of p5⟩, for_it (walk_list (K := K) (a := pa) (xs := rvs.dropLast)) (fun i σ Hi => ∃ (rli : Rl) (ls : List Addr) (os : Os) (evs : List V) (x2 : Option V), σ = [some (.ref y), some (.ref t), x2] ∧ Same (Hr rl5 H5) (Hr rli Hi) ∧ BnI (pRep HC) rli Hi la2 ha2 ea2 (.lst evs) ls os (doRows false fs cs (rs'.take i)) ∧ EaM M rli Hi evs (doRows false fs cs (rs'.take i)).early)
      ⟨rl5, [], [], [], _, rfl, Same.refl _, I5, fun b hb z => (by
        obtain ⟨r5, h5⟩ := mr5 b hb
        cases q : H5 b with
        | none => exact h5 q
        | some o => rw [hr_get q r5] at z; cases z), Al.nil⟩ (fun i σ Hi _ h => ?_) ?_ ?_⟩
    · obtain ⟨rli, _, _, _, _, _, fi, _⟩ := h
      exact SqL.of ((fi.trans hr_same) _ _ (hr_get p5 (mr5 _ pm).1))
    · rintro i x σ H7 H6 hi ⟨rli, ls', os', evs', x2, rfl, fi, Ii, ei⟩ ⟨rfl, hx⟩
      have wM : Same (Wo M (Hr rl5 H5)) (Hr rli H6) := wo_same.trans fi
      obtain ⟨r, hr', hrt⟩ := rows5.get hx
      have hil : i ≤ rs'.length := by
        have := (List.getElem?_eq_some_iff.mp hr').1
        omega
      have wf := Wf.rows (av := false) ok rok' i hil
      have stp : doRows false fs cs (rs'.take (i + 1)) = doRow false fs cs (doRows false fs cs (rs'.take i)) r := fold_take (doRow false fs cs) bn0 hr'
      obtain ⟨_, _, bh, _⟩ := id beA5
      refine ⟨_, rfl, y, YC, ydx, _, .ref be2, rfl, hr_same _ _ (fi _ _ (hr_get y5 (mr5 _ ym).1)), Z.cls, Z.bench, rfl, be2, _, _, rfl, hr_same _ _ (wM _ _ bh), rfl, _, rfl, ?_⟩
      refine ⟨be2, la2, ha2, ea2, x, evs', M, ls', os', _, rli, fs, n, cs, false, rs'.take i, r, rfl, beA5.keep wM, Ii, ei, ok, Tu.keep wM hrt, wf, rok' i r hr', by rw [List.length_take]; omega, fun rl' H' ls'' os'' evs'' f' J' ei' => ?_⟩
      rw [← stp] at J' ei'
      exact ⟨rl', ls'', os'', evs'', _, rfl, fi.trans f', J', ei'⟩
    · rintro σ Hi ⟨rli, ls', os', evs', x2, rfl, fi, Ii, ei⟩
      rw [ld, List.take_length] at Ii ei
      have fw : Same (Wo M (Hr rl5 H5)) (Wo M (Hr rli Hi)) := wo_keep fi
      have F := f5.trans fw
      have at5 : ∀ {b : Addr} {o : HO}, b ∈ M → H5 b = some o → rli b = none ∧ Hi b = some o := fun hb h => hr_some (fi _ _ (hr_get h (mr5 _ hb).1))
      have ne5 : ∀ {b : Addr}, b ∈ M → b ≠ y → b ≠ pa → b ≠ pl → b ≠ t → Hi b = H b := fun {b} hb z1 z2 z3 z4 => by
        cases q : H b with
        | none => exact absurd q (mh b hb)
        | some o => exact (at5 hb (k35 z1 ((kk z2 z3 z4).trans q)).2).2
      refine q1 nn Hi rli F (fun b hb => ?_) ⟨ydx, pa, be2, pl, la2, ha2, ea2, rvs.dropLast, evs', ls', os', (at5 ym y5).2, (at5 pm p5).2, (at5 lm l5).2, fun i u hu => ?_, ?_, ym, pm, lm, fun u hu => tm u (List.dropLast_subset _ hu), fun b hb => ?_, fun b hb => ?_, ne, fun b hb => ?_, rows5.mono fun _ _ h => Tu.keep fw h, beA5.keep fw, Ii, ei.2, kd.keep F⟩
      · obtain ⟨h1, h2, h3, h4, h5⟩ := om b hb
        exact ne5 h1 h2 h3 h4 fun e => h5 (e ▸ List.mem_of_getElem? htl)
      · have lu := (List.getElem?_eq_some_iff.mp hu).1
        rw [List.length_dropLast] at lu
        rw [List.dropLast_eq_take, List.getElem?_take_of_lt lu] at hu
        obtain ⟨h1, h2, h3⟩ := tp hu
        obtain ⟨udx, g⟩ := th i u hu
        refine ⟨udx, (ne5 (tm u (List.mem_of_getElem? hu)) h1 h2 h3 fun e => ?_).trans g⟩
        rw [e, tg] at g
        have := Option.some.inj g
        simp only [HO.ins.injEq, thV, List.cons.injEq, Prod.mk.injEq, V.int.injEq, true_and, and_true] at this
        omega
      · rw [← hrs, List.length_dropLast, List.length_dropLast, tl]
      · obtain ⟨r5, h5⟩ := mr5 b hb
        cases q : H5 b with
        | none => exact absurd q h5
        | some o => exact (at5 hb q).1
      · obtain ⟨r5, h5⟩ := mr5 b hb
        cases q : H5 b with
        | none => exact absurd q h5
        | some o => rw [(at5 hb q).2]; exact nofun
      · obtain ⟨h1, h2, h3, h4, h5⟩ := om b hb
        exact ⟨h1, h2, h3, h4, fun h => h5 (List.dropLast_subset _ h)⟩
end
end MK
set_option Elab.async false
set_option linter.all false
set_option autoImplicit false
set_option maxRecDepth 100000
set_option maxHeartbeats 4000000
namespace MK
open PySem PySem.Spec PyProof.Rows L2
open C8 (Met pe_mt pe_mt0 Mak pe_mk)
local macro_rules | `(tactic| walk_at "x") => `(tactic| dsimp only [tSeq, tAsg, tRet, tDrop, tLst, tTup, tCons, tOp, tUn, tIfS])
theorem BnI.eqr {rep : Rep} {rl : Rl} {H H' : Hp} {la ha ea : Addr} {eo : HO} {ls : List Addr} {os : Os} {b : Bn} (h : BnI rep rl H la ha ea eo ls os b) (k : ∀ a, rl a ≠ none → H' a = H a) : BnI rep rl H' la ha ea eo ls os b :=
  have k' : ∀ {a : Addr} {r : Ro}, rl a = some r → H' a = H a := fun {a r} h => k a (by rw [h]; exact nofun)
  { h with
    live := fun a n => by rw [k a n]; exact h.live a n
    lah := (k' h.lar).trans h.lah
    hah := (k' h.har).trans h.hah
    eah := (k' h.ear).trans h.eah
    lsh := fun i a ws h1 h2 => (k' (h.lsr i a h1)).trans (h.lsh i a ws h1 h2)
    oxh := fun j x o h1 h2 => (k' (h.oxr j x h1)).trans (h.oxh j x o h1 h2)
    osh := fun j x o h1 h2 => (k' (h.osr j x h1)).trans (h.osh j x o h1 h2) }
theorem YaI.sx {K : PySem.W.Frag} {YC TC BC HC KC s : Addr} {H H' : Hp} {rl : Rl} {M O : List Addr} {y : Addr} {kv : V} {fs : List FD} {n : Nat} {cs : List CD} {rs : List Rw} {ths : List Addr} (hs : s ∈ O) (e : SameX s H H') (hl : H' s ≠ none) (h : YaI K YC TC BC HC KC H rl M O y kv fs n cs rs ths) : YaI K YC TC BC HC KC H' rl M O y kv fs n cs rs ths ∧ Same (Wo M (Hr rl H)) (Wo M (Hr rl H')) := by
  obtain ⟨ydx, pa, be, pl, la, ha, ea, rvs, evs, ls, os, I⟩ := h
  obtain ⟨sM, s1, s2, s3, s4⟩ := I.om s hs
  have f : Same (Wo M (Hr rl H)) (Wo M (Hr rl H')) := wo_fr fun b o nb r hb => ⟨nb, r, e _ _ hb fun z => nb (z ▸ sM)⟩
  refine ⟨⟨ydx, pa, be, pl, la, ha, ea, rvs, evs, ls, os, { I with
    yh := e _ _ I.yh (Ne.symm s1)
    ph := e _ _ I.ph (Ne.symm s2)
    lh := e _ _ I.lh (Ne.symm s3)
    th := fun i t ht => by
      obtain ⟨tdx, g⟩ := I.th i t ht
      exact ⟨tdx, e _ _ g fun z => s4 (z ▸ List.mem_of_getElem? ht)⟩
    mh := fun b hb z => by
      by_cases q : b = s
      · exact hl (q ▸ z)
      · cases r : H b with
        | none => exact I.mh b hb r
        | some o => rw [e _ _ r q] at z; cases z
    rows := I.rows.mono fun _ _ h => Tu.keep f h
    bch := I.bch.keep f
    bn := I.bn.eqr fun a ra => by
      have na : a ≠ s := fun z => ra (z ▸ I.mr s sM)
      cases r : H a with
      | none => exact absurd r (I.bn.live a ra)
      | some o => exact e _ _ r na
    early := I.early.keep f
    kd := I.kd.keep f }⟩, f⟩
end MK
set_option Elab.async false
set_option linter.all false
set_option autoImplicit false
set_option maxRecDepth 100000
set_option maxHeartbeats 4000000
namespace MK
open PySem PySem.Spec PyProof.Rows L2
open C8 (Met pe_mt pe_mt0 Mak pe_mk)
local macro_rules | `(tactic| walk_at "x") => `(tactic| dsimp only [tSeq, tAsg, tRet, tDrop, tLst, tTup, tCons, tOp, tUn, tIfS])
abbrev s_kept : Stmt := topS 80
theorem sc_kept : FnScope ["_law_heap", "_law_words"] ["_law_heap", "_law_words"] (defScope s_kept) := ⟨rfl, rfl, rfl, by decide +kernel, rfl, by decide +kernel, by decide +kernel⟩
def lRep : Rep := fun m sa dx => match m with
  | none => .lst [.str "product", .int ((dx : Nat) : Int), .ref sa]
  | some k => .lst [.str "maker", .int (k : Nat), .ref sa]
/-- the law's heap, in what has no role -/
def LhA (B : Hp) (hp la ha ea : Addr) : Prop := B hp = some (.dK [(.inr "lists", .ref la), (.inr "things", .ref ha), (.inr "made", .ref ea)])
def spLKept (K : PySem.W.Frag) : Sp := fun vs H Q _ => ∃ (hp w la ha ea : Addr) (eo : HO) (ls : List Addr) (os : Os) (b : Bn) (rl : Rl) (ws : List Str), vs = [.ref hp, .ref w] ∧ LhA (Hr rl H) hp la ha ea ∧ BnI lRep rl H la ha ea eo ls os b ∧
  H w = some (.lst (ws.map V.str)) ∧ ws.length ≤ 100000 ∧ b.lists.length ≤ 100000 ∧
  ∀ rl' H' p, Fr rl H rl' H' → BnI lRep rl' H' la ha ea eo (ls ++ [p]) os { b with lists := b.lists ++ [ws] } → Q (.int (b.lists.length : Nat)) H'
section
variable {P : Program} {w : World} {K : PySem.W.Frag} {mg : Str → Option Value} {base : Heap}
theorem lh_lists {H : Hp} {rl : Rl} {hp la ha ea : Addr} (h : LhA (Hr rl H) hp la ha ea) : DGet H hp (.str "lists") (some (.ref la)) := by
  have e : valV [((.inr "lists" : Key), V.ref la), (.inr "things", .ref ha), (.inr "made", .ref ea)] (.inr "lists") = some (.ref la) := by rfl
  exact e ▸ DGet.k (k := .inr "lists") (hr_same _ _ h)
theorem lh_things {H : Hp} {rl : Rl} {hp la ha ea : Addr} (h : LhA (Hr rl H) hp la ha ea) : DGet H hp (.str "things") (some (.ref ha)) := by
  have e : valV [((.inr "lists" : Key), V.ref la), (.inr "things", .ref ha), (.inr "made", .ref ea)] (.inr "things") = some (.ref ha) := by rfl
  exact e ▸ DGet.k (k := .inr "things") (hr_same _ _ h)
theorem lh_made {H : Hp} {rl : Rl} {hp la ha ea : Addr} (h : LhA (Hr rl H) hp la ha ea) : DGet H hp (.str "made") (some (.ref ea)) := by
  have e : valV [((.inr "lists" : Key), V.ref la), (.inr "things", .ref ha), (.inr "made", .ref ea)] (.inr "made") = some (.ref ea) := by rfl
  exact e ▸ DGet.k (k := .inr "made") (hr_same _ _ h)
theorem ok_lkept {f : Addr} {fd : FuncData} (F : DefX K mg "_law_kept" s_kept ["_law_heap", "_law_words"] f fd) (T : Txt K mg) : Cal P w K mg base CX0 1 "_law_kept" (spLKept K) := by
  refine cal_mk F sc_kept (fun vs H Q E h => ?_) (fun cdv A outer sh H vs Q E hr h => ?_)
  · obtain ⟨hp, w, _, _, _, _, _, _, _, _, _, rfl, _⟩ := h
    rfl
  · obtain ⟨hp, w, la, ha, ea, eo, ls, os, b, rl, ws, rfl, lh, I, hw, l1, l2, q⟩ := h
    refine ⟨_, (pss_cons (ps_expr (pe_bm PySem.F.plainAttrs_list PySem.F.slot_list_append PySem.F.type_list_append mt_append (pe_dget (hu_of hr) (pv 0) pe_str (fun _ _ => rfl)) (pa_cons (pe_callTy call_list_of (by rfl) T.list (by decide +kernel) (pa_cons (pv 1) pa_nil)) pa_nil)))
(pss_one (ps_ret (pe_op op_sub (pe_callB call_len_seq (by rfl) T.len (by decide +kernel) (pa_cons (pe_dget (hu_of hr) (pv 0) pe_str (fun _ _ => rfl)) pa_nil)) pe_int)))), ?_⟩
    refine ⟨_, rfl, hp, .ref la, rfl, lh_lists lh, .inl ⟨rfl, _, SqL.of I.lah⟩, _, rfl, w, _, rfl, .inl (SqL.of hw), fun p hp' => ?_⟩
    have e1 := same_new (Same.refl H) hp' (o := .lst (ws.map V.str))
    obtain ⟨J, fr⟩ := I.putL e1 hp' upd_same
    refine ⟨la, ls.map V.ref, .ref p, rfl, rfl, e1 _ _ I.lah, ?_, ?_⟩
    · rw [List.length_map, I.ll, sizeLine_eq]
      omega
    have lh' : LhA (Hr _ _) hp la ha ea := fr _ _ lh
    refine ⟨_, rfl, hp, .ref la, rfl, lh_lists lh', la, _, rfl, .inl (SqL.of J.lah), _, _, rfl, rfl, ?_⟩
    have : (((ls ++ [p]).map V.ref).length : Int) - 1 = ((b.lists.length : Nat) : Int) := by
      rw [List.length_map, List.length_append, I.ll]
      show ((b.lists.length + 1 : Nat) : Int) - 1 = _
      omega
    show Q (.int ((((ls ++ [p]).map V.ref).length : Int) - 1)) _
    rw [this]
    exact q _ _ p fr J
end
end MK
set_option Elab.async false
set_option linter.all false
set_option autoImplicit false
set_option maxRecDepth 100000
set_option maxHeartbeats 4000000
namespace MK
open PySem PySem.Spec PyProof.Rows L2
open C8 (Met pe_mt pe_mt0 Mak pe_mk)
local macro_rules | `(tactic| walk_at "x") => `(tactic| dsimp only [tSeq, tAsg, tRet, tDrop, tLst, tTup, tCons, tOp, tUn, tIfS])
abbrev s_made_of : Stmt := topS 82
theorem sc_made_of : FnScope ["_law_p", "_law_heap", "_law_maker", "_law_sort", "_law_mode", "_law_same_here", "_law_slots", "_law_x", "_law_slot"] ["_law_p", "_law_heap", "_law_maker", "_law_sort", "_law_mode", "_law_same_here"] (defScope s_made_of) := ⟨rfl, rfl, rfl, by decide +kernel, rfl, by decide +kernel, by decide +kernel⟩
/-- the law's plan, in what has no role: fields -/
def LpF (K : PySem.W.Frag) (B : Hp) (v : V) (fs : List FD) : Prop := ∃ (p l1 : Addr) (fvs : List V) (kvs : List (Key × V)), v = .ref p ∧ B p = some (.dK kvs) ∧ valV kvs (.inr "fields") = some (.ref l1) ∧ B l1 = some (.lst fvs) ∧ Al (FdT K B) fvs fs
def lSort : Option Nat → Str
  | none => "product"
  | some _ => "maker"
theorem LpF.keep {K : PySem.W.Frag} {B B' : Hp} {v : V} {fs : List FD} (e : Same B B') (h : LpF K B v fs) : LpF K B' v fs := by
  obtain ⟨p, l1, fvs, kvs, rfl, p1, p3, p2, p4⟩ := h
  exact ⟨p, l1, fvs, kvs, rfl, e _ _ p1, p3, e _ _ p2, p4.mono fun _ _ h => FdT.keep e h⟩
def lMd (mo : Option Nat) (dz : Nat) : Nat := match mo with
  | none => dz
  | some k => k
def spMadeOf (K : PySem.W.Frag) : Sp := fun vs H Q _ => ∃ (pv : V) (hp sa la ha ea : Addr) (eo : HO) (ls : List Addr) (os : Os) (b : Bn) (rl : Rl) (fs : List FD) (n A B C j : Nat) (x : Addr × Addr × Addr) (ss : List Str) (mo : Option Nat) (dz : Nat), vs = [pv, .ref hp, .ref x.1, .str (lSort mo), .int ((lMd mo dz : Nat) : Int), .ref sa] ∧ LpF K (Hr rl H) pv fs ∧ LhA (Hr rl H) hp la ha ea ∧ BnI lRep rl H la ha ea eo ls os b ∧
  os[j]? = some x ∧ (SqL K (Hr rl H) sa (ss.map V.str) ∨ SqT K (Hr rl H) sa (ss.map V.str)) ∧ W0 fs n A B C b ∧ A ≤ 90000 ∧ C ≤ 90000 ∧ fs.length ≤ 3 ∧
  ∀ rl' H' ls' y p, Fr rl H rl' H' → BnI lRep rl' H' la ha ea eo ls' (os ++ [(y, p, dz)]) (b.newOb mo (cp ss fs (b.ob j).held b.lists)) → Q (.ref y) H'
section
variable {P : Program} {w : World} {K : PySem.W.Frag} {mg : Str → Option Value} {base : Heap}
theorem ok_lmade {f : Addr} {fd : FuncData} (F : DefX K mg "_law_made_of" s_made_of ["_law_p", "_law_heap", "_law_maker", "_law_sort", "_law_mode", "_law_same_here"] f fd) (T : Txt K mg) (c_kept : Cal P w K mg base CX0 1 "_law_kept" (spLKept K)) : Cal P w K mg base CX0 2 "_law_made_of" (spMadeOf K) := by
  refine cal_mk F sc_made_of (fun vs H Q E h => ?_) (fun cdv A outer sh H vs Q E hr h => ?_)
  · obtain ⟨pv, hp, sa, _, _, _, _, _, _, _, _, _, _, _, _, _, _, _, _, _, _, rfl, _⟩ := h
    rfl
  · obtain ⟨pv, hp, sa, la, ha, ea, eo, ls, os, b, rl, fs, n, A0, B0, C0, j, x, ss, mo, dz, rfl, ⟨pa, l1, fvs, kvs, rfl, p1, p3, p2, p4⟩, lh, I, hx, hss, w0, lA, lC, f3, q⟩ := h
    refine ⟨_, (pss_cons (ps_set (i := 6) sc_made_of.nd rfl (Or.inl rfl) (pe_lst pa_nil))
(pss_cons (ps_for PassesOwn.never rfl (pi_zip (by rfl) T.zip (pa_cons (pe_dget (hu_of hr) (pv 0) pe_str (fun _ _ => rfl)) (pa_cons (pe_ix ix_list (pv 2) pe_int (fun _ _ => rfl)) pa_nil))) (pg_tup (by rfl) (pgs_cons (pg_name (i := 7) sc_made_of.nd rfl (Or.inl rfl)) (pgs_cons (pg_name (i := 8) sc_made_of.nd rfl (Or.inl rfl)) pgs_nil)))
(pss_one (ps_expr (pe_bm PySem.F.plainAttrs_list PySem.F.slot_list_append PySem.F.type_list_append mt_append (pv 6) (pa_cons (pe_cut (pe_ifExp (pt_cut (PW.pt (pw_or (pt_cmpR op_eq (pe_ix ix_tup (pv 7) pe_int (fun _ _ => rfl)) pe_str (nomark _)) (pw_or1 (pt_cmpR op_in_seq (pe_ix ix_tup (pv 7) pe_int (fun _ _ => rfl)) (pv 5) (by rfl)))))) (pv 8) (pe_c c_kept hr (by first | decide | assumption) rfl (pa_cons (pv 1) (pa_cons (pe_ix ix_list (pe_dget (hu_of hr) (pv 1) pe_str (fun _ _ => rfl)) (pv 8) (fun _ _ => rfl)) pa_nil))))) pa_nil)))))
(pss_one (ps_ret (pe_lst (pa_cons (pv 3) (pa_cons (pv 4) (pa_cons (pv 6) pa_nil)))))))), ?_⟩
    have hj : j < b.obs.length := by rw [← I.ol]; exact at_lt hx
    have hob := ob_get hj
    have ho := w0.held _ (ob_mem hj)
    have hhw := w0.hw _ (ob_mem hj)
    have xo := I.oxh j x _ hx hob
    have sao := I.osh j x _ hx hob
    have x2 : ∃ v1 v2, H x.1 = some (.lst [v1, v2, .ref x.2.1]) := by
      rw [xo]
      unfold lRep
      cases (b.ob j).mode with
      | none => exact ⟨_, _, rfl⟩
      | some m => exact ⟨_, _, rfl⟩
    obtain ⟨v1, v2, x2⟩ := x2
    refine ⟨by show 0 ≤ sizeLine; decide, fun p hp' => ?_⟩
    have e1 := same_new (Same.refl H) hp' (o := .lst [])
    have I1 := I.keep e1
    have np := I.fresh hp'
    have q1 : upd H p (.lst []) p = some (.lst []) := upd_same
    have f1 : Same (Hr rl H) (Hr rl (upd H p (.lst []))) := hr_keep e1
    show tSeq _ _ _ _ (upd H p (.lst []))
    generalize upd H p (.lst []) = H1 at e1 I1 q1 f1
    have hpd : DGet H1 pa (.str "fields") (some (.ref l1)) := p3 ▸ DGet.k (k := .inr "fields") (e1 _ _ (hr_same _ _ p1))
    generalize hH : (b.ob j).held = held at ho hhw q sao
    have sax : ∀ {rl' H' ls' b'}, BnI lRep rl' H' la ha ea eo ls' os b' → b'.obs = b.obs → H' x.2.1 = some (.lst (held.map Sl.v)) := fun J e => by
      rw [← hH]
      exact J.osh j x _ hx (by rw [e]; exact hob)
    have lh1 : LhA (Hr rl H1) hp la ha ea := f1 _ _ lh
    refine ⟨_, rfl, pa, .ref l1, rfl, hpd, _, rfl, x.1, _, 2, .ref x.2.1, rfl, rfl, SqL.of (e1 _ _ x2), rfl, l1, x.2.1, _, _, rfl, SqL.of (e1 _ _ (hr_same _ _ p2)), SqL.of (sax I1 rfl), ?_⟩
    have lf : fvs.length = fs.length := p4.1
    have lhd : held.length = fs.length := ho.1
    refine for_it (walk_zip (K := K) (a := l1) (b := x.2.1) (xs := fvs) (ys := held.map Sl.v) (n := fs.length) (by rw [List.length_map, lf, lhd, Nat.min_self])) (fun i σ Hi => ∃ (rli : Rl) (lsi : List Addr) (x7 x8 : Option V), σ = [some (.ref pa), some (.ref hp), some (.ref x.1), some (.str (lSort mo)), some (.int ((lMd mo dz : Nat) : Int)), some (.ref sa), some (.ref p), x7, x8] ∧ Same (Hr rl H) (Hr rli Hi) ∧ BnI lRep rli Hi la ha ea eo lsi os { b with lists := (((held.zip fs).take i).foldl (cpStep ss) (b.lists, [])).1 } ∧ rli p = none ∧ Hi p = some (.lst ((((held.zip fs).take i).foldl (cpStep ss) (b.lists, [])).2.map Sl.v)))
      ⟨rl, ls, _, _, rfl, f1, I1, np, q1⟩ (fun i σ Hi _ h => ?_) ?_ ?_
    · obtain ⟨rli, lsi, _, _, _, fi, Ii, _, _⟩ := h
      exact ⟨SqL.of (hr_same _ _ (fi _ _ p2)), SqL.of (sax Ii rfl)⟩
    · rintro i v σ Hi H2 hi ⟨rli, lsi, x7, x8, rfl, fi, Ii, npi, pi⟩ ⟨U, y1, y2, rfl, hU, rfl, h1, h2⟩
      have h1 : fvs[i]? = some y1 := h1
      have h2 : (held.map Sl.v)[i]? = some y2 := h2
      rw [List.getElem?_map] at h2
      obtain ⟨s, hs, rfl⟩ := Option.map_eq_some_iff.mp h2
      obtain ⟨fd', hfd, u, rfl, hu⟩ := p4.get h1
      have hz : (held.zip fs)[i]? = some (s, fd') := by rw [List.getElem?_zip_eq_some]; exact ⟨hs, hfd⟩
      have gr := cp_grown (same := ss) ho hhw w0.wl w0.ws i (by omega)
      have so' := ho.2 i s fd' hs hfd
      have stp : ((held.zip fs).take (i + 1)).foldl (cpStep ss) (b.lists, []) = cpStep ss (((held.zip fs).take i).foldl (cpStep ss) (b.lists, [])) (s, fd') := fold_take _ _ hz
      generalize hst : ((held.zip fs).take i).foldl (cpStep ss) (b.lists, []) = sti at Ii pi gr stp
      have e2 := same_new (Same.refl Hi) hU (o := .tup [.ref u, s.v])
      have I2 := Ii.keep e2
      have f2 : Same (Hr rl H) (Hr rli (upd Hi U (.tup [.ref u, s.v]))) := fi.trans (hr_keep e2)
      have pi2 := e2 _ _ pi
      have U2 : upd Hi U (.tup [.ref u, s.v]) U = some (.tup [.ref u, s.v]) := upd_same
      generalize upd Hi U (.tup [.ref u, s.v]) = H2 at e2 I2 f2 pi2 U2
      have hu2 : SqT K H2 u (FdV fd') := same_t (f2.trans hr_same) hu
      have ss2 : SqL K H2 sa (ss.map V.str) ∨ SqT K H2 sa (ss.map V.str) := hss.imp (fun h => (f2.trans hr_same).seq h) (fun h => same_t (f2.trans hr_same) h)
      have l2 : sti.2.length = i := gr.held.1
      have pll := gr.ll
      have lb : b.lists.length ≤ 90000 := Nat.le_trans w0.ll lA
      refine ⟨U, _, rfl, SqT.of U2, rfl, _, _, rfl, _, _, rfl, rfl, ?_⟩
      refine ⟨_, rfl, .inl ⟨rfl, _, SqL.of pi2⟩, fun v H4 => ∃ (rl4 : Rl) (ls4 : List Addr) (s' : Sl), v = s'.v ∧ (cpStep ss sti (s, fd')).2 = sti.2 ++ [s'] ∧ Same (Hr rl H) (Hr rl4 H4) ∧ BnI lRep rl4 H4 la ha ea eo ls4 os { b with lists := (cpStep ss sti (s, fd')).1 } ∧ rl4 p = none ∧ H4 p = some (.lst (sti.2.map Sl.v)), ?_, ?_⟩
      · refine ⟨fun t H3 => t = !(fd'.many && !decide (fd'.nm ∈ ss)) ∧ H3 = H2, ⟨_, rfl, u, _, 1, _, rfl, rfl, hu2, rfl, rfl, _, rfl, ?_⟩, ?_⟩
        · show (if decide (V.str (sortS fd'.many) = V.str "one") = true then _ else _)
          rw [sort_one]
          refine ite2 (fun g => ?_) (fun g => ?_)
          · rw [Bool.not_eq_true'] at g
            rw [g]
            exact ⟨rfl, rfl⟩
          · rw [Bool.not_eq_true, Bool.not_eq_false'] at g
            refine ⟨_, rfl, u, _, 0, _, rfl, rfl, hu2, rfl, _, rfl, sa, _, rfl, ss2, rfl, flat_strs ss, _, rfl, ?_, rfl⟩
            show inV (.str fd'.nm) (ss.map V.str) = _
            rw [inV_strs, g, Bool.true_and, Bool.not_not]
        rintro _ H3 ⟨rfl, rfl⟩
        refine ite2 (fun g => ?_) (fun g => ?_)
        · rw [Bool.not_eq_true'] at g
          have cs1 : cpStep ss sti (s, fd') = (sti.1, sti.2 ++ [s]) := by
            unfold cpStep
            rw [if_neg]
            rintro ⟨a1, a2⟩
            rw [a1, decide_eq_false a2] at g
            cases g
          exact ⟨_, rfl, rli, lsi, s, rfl, by rw [cs1], f2, by rw [cs1]; exact I2, npi, pi2⟩
        · rw [Bool.not_eq_true, Bool.not_eq_false', Bool.and_eq_true, Bool.not_eq_true'] at g
          obtain ⟨g1, g2⟩ := g
          have g2 := of_decide_eq_false g2
          cases s with
          | w o =>
            have so' : fd'.many = false := so'
            rw [g1] at so'
            cases so'
          | l k =>
            have kl : k < sti.1.length := Nat.lt_of_lt_of_le so'.2 gr.pre.length_le
            have cs1 : cpStep ss sti (.l k, fd') = (sti.1 ++ [sti.1.getD k []], sti.2 ++ [.l sti.1.length]) := by
              unfold cpStep
              rw [if_pos ⟨g1, g2⟩]
              rfl
            obtain ⟨wa, hw1, hw2, hw3⟩ := I2.l (b := { b with lists := sti.1 }) kl
            have wl : (sti.1.getD k []).length ≤ 90000 := Nat.le_trans (gr.wl _ (getD_mem kl)) lC
            have lh2 : LhA (Hr _ _) hp la ha ea := f2 _ _ lh
            refine ⟨_, rfl, _, rfl, hp, .ref la, rfl, lh_lists lh2, _, rfl, la, _, _, _, rfl, rfl, SqL.of I2.lah, atI_nat hw2, ?_⟩
            refine ⟨hp, wa, la, ha, ea, eo, lsi, os, { b with lists := sti.1 }, rli, _, rfl, lh2, I2, hw3, by show (sti.1.getD k []).length ≤ _; omega, by show sti.1.length ≤ _; omega, fun rl3 H4 p3' f3' J => ?_⟩
            obtain ⟨np3, pi3⟩ := hr_some (f3' _ _ (hr_get pi2 npi))
            exact ⟨rl3, _, .l sti.1.length, rfl, by rw [cs1], f2.trans f3', by rw [cs1]; exact J, np3, pi3⟩
      · rintro v H4 ⟨rl4, ls4, s', rfl, es, f4, I4, n4, q4⟩
        refine ⟨p, _, _, rfl, rfl, q4, ?_, ?_⟩
        · rw [List.length_map, l2, sizeLine_eq]
          omega
        · rw [stp]
          refine ⟨rl4, ls4, _, _, rfl, hr_out f4 hp', I4.out n4, n4, ?_⟩
          rw [upd_same, es, List.map_append]
          rfl
    · rintro σ Hi ⟨rli, lsi, x7, x8, rfl, fi, Ii, npi, pi⟩
      rw [List.take_of_length_le (by rw [List.length_zip, lhd]; omega)] at Ii pi
      refine ⟨_, rfl, _, rfl, _, rfl, by show 3 ≤ sizeLine; decide, fun y hy => ?_⟩
      obtain ⟨J, fr⟩ := Ii.newO2 (x := y) (sa := p) (dx := dz) (m := mo) (held := (cp ss fs held b.lists).2) (same_new (Same.refl Hi) hy (o := lRep mo p dz)) hy npi pi upd_same
      have eq : (HO.lst [.str (lSort mo), .int ((lMd mo dz : Nat) : Int), .ref p]) = lRep mo p dz := by cases mo <;> rfl
      show Q (.ref y) (upd Hi y (.lst [.str (lSort mo), .int ((lMd mo dz : Nat) : Int), .ref p]))
      rw [eq]
      exact q _ _ lsi y p (fr _ fi (by
        unfold Hr
        rw [np]
        exact hp')) J
end
end MK
set_option Elab.async false
set_option linter.all false
set_option autoImplicit false
set_option maxRecDepth 100000
set_option maxHeartbeats 4000000
namespace MK
open PySem PySem.Spec PyProof.Rows L2
open C8 (Met pe_mt pe_mt0 Mak pe_mk)
local macro_rules | `(tactic| walk_at "x") => `(tactic| dsimp only [tSeq, tAsg, tRet, tDrop, tLst, tTup, tCons, tOp, tUn, tIfS])
abbrev s_row_of : Stmt := topS 74
theorem sc_row_of : FnScope ["_law_p", "_law_name", "_law_x"] ["_law_p", "_law_name"] (defScope s_row_of) := ⟨rfl, rfl, rfl, by decide +kernel, rfl, by decide +kernel, by decide +kernel⟩
/-- the law's plan, in what has no role: calls -/
def LpC (K : PySem.W.Frag) (B : Hp) (v : V) (cs : List CD) : Prop := ∃ (p l2 : Addr) (cvs : List V) (kvs : List (Key × V)), v = .ref p ∧ B p = some (.dK kvs) ∧ valV kvs (.inr "calls") = some (.ref l2) ∧ B l2 = some (.lst cvs) ∧ Al (CdL K B) cvs cs
def spRowOf (K : PySem.W.Frag) : Sp := fun vs H Q _ => ∃ (B : Hp) (pv : V) (nm : Str) (cs : List CD) (c : CD), vs = [pv, .str nm] ∧ Same B H ∧ LpC K B pv cs ∧ (cs.map (·.nm)).Nodup ∧ cs.length ≤ 6 ∧ callOf cs nm = some c ∧ ∀ H' v, Same H H' → CdL K B v c → Q v H'
section
variable {P : Program} {w : World} {K : PySem.W.Frag} {mg : Str → Option Value} {base : Heap}
theorem ok_rowof {f : Addr} {fd : FuncData} (F : DefX K mg "_law_row_of" s_row_of ["_law_p", "_law_name"] f fd) (T : Txt K mg) : Cal P w K mg base CX0 1 "_law_row_of" (spRowOf K) := by
  refine cal_mk F sc_row_of (fun vs H Q E h => ?_) (fun cdv A outer sh H vs Q E hr h => ?_)
  · obtain ⟨B, pv, nm, cs, c, rfl, _⟩ := h
    rfl
  · obtain ⟨B, pv, nm, cs, c, rfl, eB, ⟨p, l2, cvs, kvs, rfl, p1, p2, p3, p4⟩, nd, c6, hc, q⟩ := h
    have p1 := eB _ _ p1
    have p3 := eB _ _ p3
    refine ⟨_, (pss_one (ps_ret (pe_ix ix_list (pe_lc (own := [("_law_x", 2)]) (g := (gName 2)) rfl sc_row_of.nd (pi_list (pe_dget (hu_of hr) (pv 0) pe_str (fun _ _ => rfl))) (blkOk_by (own := [("_law_x", 2)]) (N := ["_law_p", "_law_name", "_law_x"]) (sc := defScope s_row_of) (by decide +kernel)) (fun _ _ _ _ _ => (pg_name (i := 2) sc_row_of.nd rfl (Or.inl rfl))) (fun _ _ _ _ _ => (pts_one (pt_cmpR op_eq (pe_ix (ix_tupK (K := K) rfl) (pv 2) pe_int (fun _ _ => rfl)) (pv 1) (nomark _)))) (fun _ _ _ _ _ => (pv 2))) pe_int (fun _ _ => rfl)))), ?_⟩
    obtain ⟨i0, hi0, en⟩ := callOf_at hc
    obtain ⟨v0, hv0, cd0⟩ := p4.get' hi0
    have lc : cvs.length = cs.length := p4.1
    have l0 : i0 < cs.length := (List.getElem?_eq_some_iff.mp hi0).1
    have hpd : DGet H p (.str "calls") (some (.ref l2)) := p2 ▸ DGet.k (k := .inr "calls") p1
    refine ⟨_, rfl, p, .ref l2, rfl, hpd, l2, rfl, ⟨_, SqL.of p3⟩, fun D hD => ?_⟩
    refine lc_it (walk_list (K := K) (a := l2) (xs := cvs)) (fun i H2 => Same H H2 ∧ H2 D = some (.lst (if i ≤ i0 then [] else [v0]))) ⟨same_new (Same.refl H) hD, by rw [upd_same, if_pos (Nat.zero_le _)]⟩ (fun i H2 _ h => SqL.of (h.1 _ _ p3)) ?_ ?_
    · rintro i v H3 H2 hi ⟨e2, d2⟩ ⟨rfl, hv⟩
      obtain ⟨c', hc', m', d', s', ds', ⟨u, rfl, hu⟩, _⟩ := p4.get hv
      refine ⟨rfl, ?_⟩
      have uniq : c'.nm = nm → i = i0 := fun e => by
        have h1 : (cs.map (·.nm))[i]? = some nm := by rw [List.getElem?_map, hc', ← e]; rfl
        have h2 : (cs.map (·.nm))[i0]? = some nm := by rw [List.getElem?_map, hi0, ← en]; rfl
        obtain ⟨g1, g2⟩ := List.getElem?_eq_some_iff.mp h1
        obtain ⟨g3, g4⟩ := List.getElem?_eq_some_iff.mp h2
        rcases Nat.lt_trichotomy i i0 with h | h | h
        · exact absurd (g2.trans g4.symm) (List.pairwise_iff_getElem.mp nd i i0 g1 g3 h)
        · exact h
        · exact absurd (g4.trans g2.symm) (List.pairwise_iff_getElem.mp nd i0 i g3 g1 h)
      refine ⟨_, rfl, u, _, 0, .str c'.nm, rfl, rfl, same_t (eB.trans e2) hu, rfl, _, rfl, rfl, _, rfl, ite2 (fun g => ?_) (fun g => ?_)⟩
      · have e := uniq (V.str.inj (of_decide_eq_true g))
        subst e
        rw [hv0] at hv
        cases hv
        rw [if_pos (Nat.le_refl _)] at d2
        refine ⟨_, rfl, _, d2, by show 0 < sizeLine; decide, fun b o hb => ?_, ?_⟩
        · rw [upd_ne (ne_of_none hb hD)]
          exact e2 _ _ hb
        · rw [upd_same, if_neg (by omega)]
          rfl
      · refine ⟨e2, ?_⟩
        rw [d2]
        have ne : i ≠ i0 := fun e => by
          subst e
          rw [hi0] at hc'
          cases hc'
          exact g (by rw [en]; exact decide_eq_true rfl)
        by_cases h : i ≤ i0
        · rw [if_pos h, if_pos (by omega)]
        · rw [if_neg h, if_neg (by omega)]
    · rintro H2 ⟨e2, d2⟩
      rw [if_neg (by omega)] at d2
      exact ⟨D, _, _, v0, rfl, rfl, SqL.of d2, rfl, q H2 v0 e2 cd0⟩
end
end MK
set_option Elab.async false
set_option linter.all false
set_option autoImplicit false
set_option maxRecDepth 100000
set_option maxHeartbeats 4000000
namespace MK
open PySem PySem.Spec PyProof.Rows L2
open C8 (Met pe_mt pe_mt0 Mak pe_mk)
local macro_rules | `(tactic| walk_at "x") => `(tactic| dsimp only [tSeq, tAsg, tRet, tDrop, tLst, tTup, tCons, tOp, tUn, tIfS])
abbrev s_told : Stmt := topS 83
theorem sc_told : FnScope ["_law_p", "_law_heap", "_law_thing", "_law_found", "_law_x", "_law_slot"] ["_law_p", "_law_heap", "_law_thing"] (defScope s_told) := ⟨rfl, rfl, rfl, by decide +kernel, rfl, by decide +kernel, by decide +kernel⟩
def spLTold (K : PySem.W.Frag) : Sp := fun vs H Q _ => ∃ (pv : V) (hp la ha ea : Addr) (eo : HO) (ls : List Addr) (os : Os) (b : Bn) (rl : Rl) (fs : List FD) (n A B C : Nat) (r : Option Nat), vs = [pv, .ref hp, handV os r] ∧ LpF K (Hr rl H) pv fs ∧ LhA (Hr rl H) hp la ha ea ∧ BnI lRep rl H la ha ea eo ls os b ∧
  (∀ j, r = some j → j < b.obs.length) ∧ W0 fs n A B C b ∧ C ≤ 1000 ∧ fs.length ≤ 3 ∧
  ∀ H' v L, Same H H' → ToW H' v (toldOf b r) L → (∀ a ∈ L, H a = none) → Q v H'
section
variable {P : Program} {w : World} {K : PySem.W.Frag} {mg : Str → Option Value} {base : Heap}
theorem ok_ltold {f : Addr} {fd : FuncData} (F : DefX K mg "_law_told" s_told ["_law_p", "_law_heap", "_law_thing"] f fd) (T : Txt K mg) : Cal P w K mg base CX0 1 "_law_told" (spLTold K) := by
  refine cal_mk F sc_told (fun vs H Q E h => ?_) (fun cdv A outer sh H vs Q E hr h => ?_)
  · obtain ⟨pv, hp, _, _, _, _, _, _, _, _, _, _, _, _, _, _, rfl, _⟩ := h
    rfl
  · obtain ⟨pv, hp, la, ha, ea, eo, ls, os, b, rl, fs, n, A0, B0, C0, r, rfl, ⟨pa, l1, fvs, kvs, rfl, p1, p3, p2, p4⟩, lh, I, hj, w0, lC, f3, q⟩ := h
    refine ⟨_, (pss_cons (ps_if (pt_cmpR op_isN (pv 2) pe_non (nomark _))
(pss_one (ps_ret pe_non))
pss_nil)
(pss_cons (ps_set (i := 3) sc_told.nd rfl (Or.inl rfl) (pe_lst pa_nil))
(pss_cons (ps_for PassesOwn.never rfl (pi_zip (by rfl) T.zip (pa_cons (pe_dget (hu_of hr) (pv 0) pe_str (fun _ _ => rfl)) (pa_cons (pe_ix ix_list (pv 2) pe_int (fun _ _ => rfl)) pa_nil))) (pg_tup (by rfl) (pgs_cons (pg_name (i := 4) sc_told.nd rfl (Or.inl rfl)) (pgs_cons (pg_name (i := 5) sc_told.nd rfl (Or.inl rfl)) pgs_nil)))
(pss_one (ps_expr (pe_bm PySem.F.plainAttrs_list PySem.F.slot_list_append PySem.F.type_list_append mt_append (pv 3) (pa_cons (pe_cut (pe_ifExp (pt_cmpR op_eq (pe_ix ix_tup (pv 4) pe_int (fun _ _ => rfl)) pe_str (nomark _)) (pv 5) (pe_callTy call_list_of (by rfl) T.list (by decide +kernel) (pa_cons (pe_ix ix_list (pe_dget (hu_of hr) (pv 1) pe_str (fun _ _ => rfl)) (pv 5) (fun _ _ => rfl)) pa_nil)))) pa_nil)))))
(pss_one (ps_ret (pe_cut (pe_ifExp (pt_cmpR op_eq (pe_ix ix_list (pv 2) pe_int (fun _ _ => rfl)) pe_str (nomark _)) (pe_tup (pa_cons pe_str (pa_cons (pv 3) pa_nil))) (pe_tup (pa_cons pe_str (pa_cons (pe_ix ix_list (pv 2) pe_int (fun _ _ => rfl)) (pa_cons (pv 3) pa_nil))))))))))), ?_⟩
    cases r with
    | none => exact ⟨_, rfl, rfl, _, rfl, iteT (q H .non [] (Same.refl _) ⟨rfl, rfl⟩ nofun)⟩
    | some j =>
      have hj := hj j rfl
      obtain ⟨x, hx, hx1, hx2, hx3⟩ := I.x hj
      rw [hx3]
      have x2 : ∃ v2, H x.1 = some (.lst [.str (lSort (b.ob j).mode), v2, .ref x.2.1]) ∧ ∀ m, (b.ob j).mode = some m → v2 = .int (m : Nat) := by
        rw [hx1]
        unfold lRep
        cases (b.ob j).mode with
        | none => exact ⟨_, rfl, nofun⟩
        | some m => exact ⟨_, rfl, fun m' e => by cases e; rfl⟩
      obtain ⟨v2, x2, hv2⟩ := x2
      have ho := w0.held _ (ob_mem hj)
      have hpd : ∀ {H2 : Hp}, Same H H2 → DGet H2 pa (.str "fields") (some (.ref l1)) := fun e => p3 ▸ DGet.k (k := .inr "fields") (e _ _ (hr_same _ _ p1))
      refine ⟨_, rfl, rfl, _, rfl, iteF ?_⟩
      refine ⟨by show 0 ≤ sizeLine; decide, fun D hD => ?_⟩
      have e1 := same_new (Same.refl H) hD (o := .lst [])
      have q1 : upd H D (.lst []) D = some (.lst []) := upd_same
      show tSeq _ _ _ _ (upd H D (.lst []))
      generalize upd H D (.lst []) = H1 at e1 q1
      have lf : fvs.length = fs.length := p4.1
      have lhd : (b.ob j).held.length = fs.length := ho.1
      have p2' := hr_same _ _ p2
      refine ⟨_, rfl, pa, .ref l1, rfl, hpd e1, _, rfl, x.1, _, 2, .ref x.2.1, rfl, rfl, SqL.of (e1 _ _ x2), rfl, l1, x.2.1, _, _, rfl, SqL.of (e1 _ _ p2'), SqL.of (e1 _ _ hx2), ?_⟩
      refine for_it (walk_zip (K := K) (a := l1) (b := x.2.1) (xs := fvs) (ys := (b.ob j).held.map Sl.v) (n := fs.length) (by rw [List.length_map, lf, lhd, Nat.min_self])) (fun i σ Hi => ∃ (x4 x5 : Option V), σ = [some (.ref pa), some (.ref hp), some (.ref x.1), some (.ref D), x4, x5] ∧ Same H Hi ∧ ∃ xs L, Hi D = some (.lst xs) ∧ AlL (CtW (Off D Hi)) xs (((b.ob j).held.take i).map (ctOf b.lists)) L ∧ (∀ a ∈ D :: L, H a = none) ∧ (D :: L).Nodup ∧ ∀ a ∈ L, Hi a ≠ none)
        ⟨_, _, rfl, e1, [], [], q1, rfl, fun a ha => by rw [List.mem_singleton.mp ha]; exact hD, by simp, nofun⟩ (fun i σ Hi _ h => ?_) ?_ ?_
      · obtain ⟨_, _, _, e2, _⟩ := h
        exact ⟨SqL.of (e2 _ _ p2'), SqL.of (e2 _ _ hx2)⟩
      · rintro i v σ Hi H2 hi ⟨x4, x5, rfl, e2, xs, L, d2, al, fr, nd, lv⟩ ⟨U, y1, y2, rfl, hU, rfl, h1, h2⟩
        have h1 : fvs[i]? = some y1 := h1
        have h2 : ((b.ob j).held.map Sl.v)[i]? = some y2 := h2
        rw [List.getElem?_map] at h2
        obtain ⟨s, hs, rfl⟩ := Option.map_eq_some_iff.mp h2
        obtain ⟨fd', hfd, u, rfl, hu⟩ := p4.get h1
        have so' := ho.2 i s fd' hs hfd
        have e3 := same_new (Same.refl Hi) hU (o := .tup [.ref u, s.v])
        have U3 : upd Hi U (.tup [.ref u, s.v]) U = some (.tup [.ref u, s.v]) := upd_same
        have d3 := e3 _ _ d2
        have al3 := al.mono fun _ _ _ h => CtW.keep (same_off (s := D) e3) h
        have lv3 : ∀ a ∈ L, upd Hi U (.tup [.ref u, s.v]) a ≠ none := fun a ha => by
          cases z : Hi a with
          | none => exact absurd z (lv a ha)
          | some o => rw [e3 _ _ z]; exact nofun
        have e13 := e2.trans e3
        generalize upd Hi U (.tup [.ref u, s.v]) = H4 at e3 U3 d3 al3 lv3 e13
        have hu4 : SqT K H4 u (FdV fd') := same_t (hr_same.trans e13) hu
        have tk : ((b.ob j).held.take (i + 1)).map (ctOf b.lists) = ((b.ob j).held.take i).map (ctOf b.lists) ++ [ctOf b.lists s] := by
          rw [List.take_add_one, hs, List.map_append]
          rfl
        have clen : xs.length = i := by
          rw [al.len, List.length_map, List.length_take, lhd]
          omega
        have fin : ∀ (y : V) (H5 : Hp) (M : List Addr), Same H4 H5 → CtW (Off D H5) y (ctOf b.lists s) M → (∀ a ∈ M, H4 a = none ∧ H5 a ≠ none) → M.Nodup → H5 D = some (.lst xs) ∧ xs.length < sizeLine ∧ Same H (upd H5 D (.lst (xs ++ [y]))) ∧ ∃ zs L, upd H5 D (.lst (xs ++ [y])) D = some (.lst zs) ∧ AlL (CtW (Off D (upd H5 D (.lst (xs ++ [y]))))) zs (((b.ob j).held.take (i + 1)).map (ctOf b.lists)) L ∧ (∀ a ∈ D :: L, H a = none) ∧ (D :: L).Nodup ∧ ∀ a ∈ L, upd H5 D (.lst (xs ++ [y])) a ≠ none := fun y H5 M e5 cw fm nm => by
          have live : ∀ {a : Addr}, H5 a ≠ none → upd H5 D (.lst (xs ++ [y])) a ≠ none := fun {a} h => by
            by_cases z : a = D
            · rw [z, upd_same]
              exact nofun
            · rw [upd_ne z]
              exact h
          have l5 : ∀ a ∈ L, H5 a ≠ none := fun a ha => by
            cases z : H4 a with
            | none => exact absurd z (lv3 a ha)
            | some o => rw [e5 _ _ z]; exact nofun
          refine ⟨e5 _ _ d3, by rw [clen, sizeLine_eq]; omega, fun c o hc => ?_, xs ++ [y], L ++ M, upd_same, ?_, ?_, ?_, ?_⟩
          · rw [upd_ne (ne_of_none hc hD)]
            exact e5 _ _ (e13 _ _ hc)
          · rw [tk, off_put]
            exact (al3.mono fun _ _ _ h => CtW.keep (same_off (s := D) e5) h).snoc cw
          · intro a ha
            rcases List.mem_cons.mp ha with rfl | ha
            · exact hD
            rcases List.mem_append.mp ha with ha | ha
            · exact fr a (List.mem_cons_of_mem _ ha)
            · exact none_of e13 (fm a ha).1
          · rw [← List.cons_append, List.nodup_append]
            refine ⟨nd, nm, fun a ha c hc e => ?_⟩
            subst e
            have z := (fm a hc).1
            rcases List.mem_cons.mp ha with rfl | ha
            · rw [d3] at z
              cases z
            · exact lv3 a ha z
          · intro a ha
            rcases List.mem_append.mp ha with ha | ha
            · exact live (l5 a ha)
            · exact live (fm a ha).2
        refine ⟨U, _, rfl, SqT.of U3, rfl, _, _, rfl, _, _, rfl, rfl, ?_⟩
        refine ⟨_, rfl, .inl ⟨rfl, _, SqL.of d3⟩, fun y H5 => ∃ M, Same H4 H5 ∧ CtW (Off D H5) y (ctOf b.lists s) M ∧ (∀ a ∈ M, H4 a = none ∧ H5 a ≠ none) ∧ M.Nodup, ⟨_, rfl, u, _, 1, _, rfl, rfl, hu4, rfl, rfl, _, rfl, ?_⟩, ?_⟩
        · show (if decide (V.str (sortS fd'.many) = V.str "one") = true then _ else _)
          rw [sort_one]
          refine ite2 (fun g => ?_) (fun g => ?_)
          · rw [Bool.not_eq_true'] at g
            cases s with
            | l k =>
              have so' : fd'.many = true := so'.1
              rw [g] at so'
              cases so'
            | w o => exact ⟨_, rfl, [], Same.refl _, ⟨rfl, rfl⟩, nofun, List.nodup_nil⟩
          · rw [Bool.not_eq_true, Bool.not_eq_false'] at g
            cases s with
            | w o =>
              have so' : fd'.many = false := so'
              rw [g] at so'
              cases so'
            | l k =>
              have I4 := I.keep e13
              obtain ⟨wa, hw1, hw2, hw3⟩ := I4.l so'.2
              have lh4 : LhA (Hr rl H4) hp la ha ea := (hr_keep e13) _ _ lh
              refine ⟨_, rfl, hp, .ref la, rfl, lh_lists lh4, _, rfl, la, _, _, _, rfl, rfl, SqL.of I4.lah, atI_nat hw2, wa, _, rfl, .inl (SqL.of hw3), fun l hl => ?_⟩
              refine ⟨[l], same_new (Same.refl H4) hl, ⟨l, rfl, ?_, rfl⟩, fun a ha => ?_, by simp⟩
              · rw [off_ne (fun q => by rw [q, d3] at hl; cases hl)]
                exact upd_same
              · rw [List.mem_singleton.mp ha]
                exact ⟨hl, by rw [upd_same]; exact nofun⟩
        · rintro y H5 ⟨M, e5, cw, fm, nm⟩
          obtain ⟨g1, g2, g3, g4⟩ := fin y H5 M e5 cw fm nm
          exact ⟨D, _, _, rfl, rfl, g1, g2, _, _, rfl, g3, g4⟩
      · rintro σ Hi ⟨x4, x5, rfl, e2, xs, L, d2, al, fr, nd, lv⟩
        rw [← lhd, List.take_length] at al
        have cw : CsW Hi D ((b.ob j).held.map (ctOf b.lists)) (D :: L) := ⟨xs, L, d2, al.mono fun _ _ _ h => CtW.keep off_same h, rfl, nd⟩
        have td : toldOf b (some j) = some ((b.ob j).mode, (b.ob j).held.map (ctOf b.lists)) := rfl
        rw [td] at q
        have xi := e2 _ _ x2
        refine ⟨fun v H5 => Same H H5 ∧ ToW H5 v (some ((b.ob j).mode, (b.ob j).held.map (ctOf b.lists))) (D :: L), ⟨_, rfl, x.1, _, 0, _, rfl, rfl, SqL.of xi, rfl, rfl, _, rfl, ?_⟩, fun v H5 h => q H5 v (D :: L) h.1 h.2 fr⟩
        cases hm : (b.ob j).mode with
        | none =>
          refine iteT ⟨_, rfl, by show 2 ≤ sizeLine; decide, fun t ht => ?_⟩
          have e4 := same_new (Same.refl Hi) ht (o := .tup [.str "product", .ref D])
          exact ⟨e2.trans e4, t, D, rfl, upd_same, cw.keep e4⟩
        | some m =>
          have hv := hv2 m hm
          subst hv
          refine iteF2 (decide_eq_false fun e => absurd (show ("maker" : Str) = "product" from V.str.inj e) (by decide)) ⟨_, rfl, x.1, _, 1, _, rfl, rfl, SqL.of xi, rfl, _, rfl, by show 3 ≤ sizeLine; decide, fun t ht => ?_⟩
          have e4 := same_new (Same.refl Hi) ht (o := .tup [.str "maker", .int (m : Nat), .ref D])
          exact ⟨e2.trans e4, t, D, rfl, upd_same, cw.keep e4⟩
end
end MK
set_option Elab.async false
set_option linter.all false
set_option autoImplicit false
set_option maxRecDepth 100000
set_option maxHeartbeats 4000000
namespace MK
open PySem PySem.Spec PyProof.Rows L2
open C8 (Met pe_mt pe_mt0 Mak pe_mk)
local macro_rules | `(tactic| walk_at "x") => `(tactic| dsimp only [tSeq, tAsg, tRet, tDrop, tLst, tTup, tCons, tOp, tUn, tIfS])
abbrev s_deed : Stmt := topS 81
theorem sc_deed : FnScope ["_law_p", "_law_heap", "_law_maker", "_law_deed_here", "_law_name", "_law_word", "_law_x", "_law_at", "_law_slot", "_law_sort"] ["_law_p", "_law_heap", "_law_maker", "_law_deed_here", "_law_name", "_law_word"] (defScope s_deed) := ⟨rfl, rfl, rfl, by decide +kernel, rfl, by decide +kernel, by decide +kernel⟩
def spLDd (K : PySem.W.Frag) : Sp := fun vs H Q _ => ∃ (pv : V) (hp la ha ea : Addr) (eo : HO) (ls : List Addr) (os : Os) (b : Bn) (rl : Rl) (fs : List FD) (n A B C j : Nat) (x : Addr × Addr × Addr) (d : Str × Str) (wd : Str) (wv : V), vs = [pv, .ref hp, .ref x.1, .str d.1, .str d.2, wv] ∧ LpF K (Hr rl H) pv fs ∧ LhA (Hr rl H) hp la ha ea ∧ BnI lRep rl H la ha ea eo ls os b ∧
  os[j]? = some x ∧ W0 fs n A B C b ∧ A ≤ 90000 ∧ C ≤ 1000 ∧ FsOk fs ∧ DeOk fs d ∧ (d.1 = ("set" : Str) ∨ d.1 = ("add" : Str) ∨ d.1 = ("strike" : Str) → wv = .str wd) ∧
  ∀ rl' H' ls', Fr rl H rl' H' → BnI lRep rl' H' la ha ea eo ls' os (deStep fs wd j b d) → Q .non H'
section
variable {P : Program} {w : World} {K : PySem.W.Frag} {mg : Str → Option Value} {base : Heap}
theorem deStep_ls {fs : List FD} {wd : Str} {j k : Nat} {b : Bn} {d : Str × Str} (hs : (b.ob j).held[spot fs d.2]? = some (.l k)) (n : d.1 ≠ ("fresh" : Str)) :
    deStep fs wd j b d = { b with lists := b.lists.set k (if d.1 = ("add" : Str) then b.lists.getD k [] ++ [wd] else if d.1 = ("strike" : Str) then (b.lists.getD k []).filter (fun z => !decide (z = wd)) else []) } := by
  unfold deStep
  rw [List.getD_eq_getElem?_getD, hs]
  show (if d.1 = ("fresh" : Str) then _ else _) = _
  rw [if_neg n]
theorem eqV_same {z : Str} : eqV (.str z) (.str z) = true := by
  simp [eqV]
theorem eqV_other {y z : Str} (h : y ≠ z) : eqV (.str y) (.str z) = false := by
  simp [eqV, h]
theorem ok_ldd {f : Addr} {fd : FuncData} (F : DefX K mg "_law_deed" s_deed ["_law_p", "_law_heap", "_law_maker", "_law_deed_here", "_law_name", "_law_word"] f fd) (T : Txt K mg) (c_kept : Cal P w K mg base CX0 1 "_law_kept" (spLKept K)) : Cal P w K mg base CX0 2 "_law_deed" (spLDd K) := by
  refine cal_mk F sc_deed (fun vs H Q E h => ?_) (fun cdv A outer sh H vs Q E hr h => ?_)
  · obtain ⟨pv, hp, _, _, _, _, _, _, _, _, _, _, _, _, _, _, _, _, _, _, rfl, _⟩ := h
    rfl
  · obtain ⟨pv, hp, la, ha, ea, eo, ls, os, b, rl, fs, n, A0, B0, C0, j, x, d, wd, wv, rfl, ⟨pa, l1, fvs, kvs, rfl, p1, p3, p2, p4⟩, lh, I, hx, w0, lA, lC, fo, dok, hw, q⟩ := h
    refine ⟨_, (pss_cons (ps_set (i := 7) sc_deed.nd rfl (Or.inl rfl) (pe_bm PySem.F.plainAttrs_list PySem.F.slot_list_index PySem.F.type_list_index mt_index (pe_lc (own := [("_law_x", 6)]) (g := (gName 6)) (tt := tYes) rfl sc_deed.nd (pi_list (pe_dget (hu_of hr) (pv 0) pe_str (fun _ _ => rfl))) (blkOk_by (own := [("_law_x", 6)]) (N := ["_law_p", "_law_heap", "_law_maker", "_law_deed_here", "_law_name", "_law_word", "_law_x", "_law_at", "_law_slot", "_law_sort"]) (sc := defScope s_deed) (by decide +kernel)) (fun _ _ _ _ _ => (pg_name (i := 6) sc_deed.nd rfl (Or.inl rfl))) (fun _ _ _ _ _ => pts_nil) (fun _ _ _ _ _ => (pe_ix (ix_seqK (K := K) rfl) (pv 6) pe_int (fun _ _ => rfl)))) (pa_cons (pv 4) pa_nil)))
(pss_cons (ps_par (i := 8) (j := 9) (by rfl) sc_deed.nd rfl rfl (by decide) rfl rfl (pa_cons (pe_ix ix_list (pe_ix ix_list (pv 2) pe_int (fun _ _ => rfl)) (pv 7) (fun _ _ => rfl)) (pa_cons (pe_ix ix_tup (pe_ix ix_list (pe_dget (hu_of hr) (pv 0) pe_str (fun _ _ => rfl)) (pv 7) (fun _ _ => rfl)) pe_int (fun _ _ => rfl)) pa_nil)) (by rfl))
(pss_cut (ps_if (pt_cmpR op_eq (pv 3) pe_str (nomark _))
(pss_one (ps_asg (pv 5) (pg_sub (pe_ix ix_list (pv 2) pe_int (fun _ _ => rfl)) (pv 7) set_list)))
pss_nil)
(pss_cut (ps_if (pt_cut (PW.pt (pw_and (pt_cmpR op_eq (pv 3) pe_str (nomark _)) (pw_and1 (pt_cmpR op_eq (pv 9) pe_str (nomark _))))))
(pss_one (ps_asg pe_non (pg_sub (pe_ix ix_list (pv 2) pe_int (fun _ _ => rfl)) (pv 7) set_list)))
pss_nil)
(pss_cut (ps_if (pt_cut (PW.pt (pw_and (pt_cmpR op_eq (pv 3) pe_str (nomark _)) (pw_and1 (pt_cmpR op_eq (pv 9) pe_str (nomark _))))))
(pss_one (ps_asg (pe_lst pa_nil) (pg_sub (pe_dget (hu_of hr) (pv 1) pe_str (fun _ _ => rfl)) (pv 8) set_list)))
pss_nil)
(pss_cut (ps_if (pt_cmpR op_eq (pv 3) pe_str (nomark _))
(pss_one (ps_expr (pe_bm PySem.F.plainAttrs_list PySem.F.slot_list_append PySem.F.type_list_append mt_append (pe_ix ix_list (pe_dget (hu_of hr) (pv 1) pe_str (fun _ _ => rfl)) (pv 8) (fun _ _ => rfl)) (pa_cons (pv 5) pa_nil))))
pss_nil)
(pss_cut (ps_if (pt_cmpR op_eq (pv 3) pe_str (nomark _))
(pss_one (ps_asg (pe_lc (own := [("_law_x", 6)]) (g := (gName 6)) rfl sc_deed.nd (pi_list (pe_ix ix_list (pe_dget (hu_of hr) (pv 1) pe_str (fun _ _ => rfl)) (pv 8) (fun _ _ => rfl))) (blkOk_by (own := [("_law_x", 6)]) (N := ["_law_p", "_law_heap", "_law_maker", "_law_deed_here", "_law_name", "_law_word", "_law_x", "_law_at", "_law_slot", "_law_sort"]) (sc := defScope s_deed) (by decide +kernel)) (fun _ _ _ _ _ => (pg_name (i := 6) sc_deed.nd rfl (Or.inl rfl))) (fun _ _ _ _ _ => (pts_one (pt_cmpR op_ne (pv 6) (pv 5) (nomark _)))) (fun _ _ _ _ _ => (pv 6))) (pg_sub (pe_dget (hu_of hr) (pv 1) pe_str (fun _ _ => rfl)) (pv 8) set_list)))
pss_nil)
(pss_one (ps_if (pt_cmpR op_eq (pv 3) pe_str (nomark _))
(pss_one (ps_asg (pe_c c_kept hr (by first | decide | assumption) rfl (pa_cons (pv 1) (pa_cons (pe_ix ix_list (pe_dget (hu_of hr) (pv 1) pe_str (fun _ _ => rfl)) (pv 8) (fun _ _ => rfl)) pa_nil))) (pg_sub (pe_ix ix_list (pv 2) pe_int (fun _ _ => rfl)) (pv 7) set_list)))
pss_nil))))))))), ?_⟩
    have hj : j < b.obs.length := by rw [← I.ol]; exact at_lt hx
    obtain ⟨fd', s, fm, fe, fmany, ff, hs, so'⟩ := deed_slot w0 hj fo.nd dok
    generalize hat : spot fs d.2 = at_ at ff hs
    have p2' := hr_same _ _ p2
    have lf : fvs.length = fs.length := p4.1
    have f3 := fo.le
    have hpd : ∀ {H2 : Hp}, Same H H2 → DGet H2 pa (.str "fields") (some (.ref l1)) := fun e => p3 ▸ DGet.k (k := .inr "fields") (e _ _ (hr_same _ _ p1))
    refine ⟨_, rfl, pa, .ref l1, rfl, hpd (Same.refl _), l1, rfl, ⟨_, SqL.of p2'⟩, fun D hD => ?_⟩
    refine lc_valS (walk_list (K := K) (a := l1) (xs := fvs)) (ys := fs.map fun f => V.str f.nm) (by rw [List.length_map, lf]) (by rw [lf]; omega) hD (fun H' e => SqL.of (e _ _ p2')) (fun i y1 y H2 H3 R hi hy e yy r => ?_) fun H1 e1 D1 => ?_
    · obtain ⟨rfl, hxx⟩ := yy
      obtain ⟨f0, hf0, u, rfl, hu⟩ := p4.get hxx
      rw [List.getElem?_map, hf0] at hy
      cases hy
      exact ⟨rfl, _, rfl, ix_of (i := 0) (.inr (same_t (hr_same.trans e) hu)) rfl (r _ (Same.refl _))⟩
    have ny : (fs.map fun f => V.str f.nm)[at_]? = some (.str d.2) := by rw [List.getElem?_map, ff, ← fe]; rfl
    refine ⟨.inl ⟨rfl, _, SqL.of D1⟩, _, rfl, D, _, .str d.2, at_, .str d.2, rfl, rfl, SqL.of D1, rfl, ?_, ny, ?_, ?_, ?_⟩
    · have e : (fs.map fun f => V.str f.nm) = (fs.map (·.nm)).map V.str := by
        rw [List.map_map]
        rfl
      rw [e]
      exact flat_strs _
    · exact eqV_same
    · intro m z' hm hz
      rw [List.getElem?_map] at hz
      obtain ⟨g, hg, rfl⟩ := Option.map_eq_some_iff.mp hz
      have hm' : m < fs.findIdx fun f => decide (f.nm = d.2) := by
        have : spot fs d.2 = at_ := hat
        unfold spot at this
        omega
      have hne := List.not_of_lt_findIdx hm'
      obtain ⟨ml, hge⟩ := List.getElem?_eq_some_iff.mp hg
      rw [hge] at hne
      exact eqV_other (fun e => by rw [e] at hne; simp at hne)
    show tSeq _ _ _ _ _
    have held := I.osh j x _ hx (ob_get hj)
    have x2 : ∃ w1 w2, H x.1 = some (.lst [w1, w2, .ref x.2.1]) := by
      rw [I.oxh j x _ hx (ob_get hj)]
      unfold lRep
      cases (b.ob j).mode with
      | none => exact ⟨_, _, rfl⟩
      | some m => exact ⟨_, _, rfl⟩
    obtain ⟨w1, w2, x2⟩ := x2
    have hv : ((b.ob j).held.map Sl.v)[at_]? = some s.v := by rw [List.getElem?_map, hs]; rfl
    obtain ⟨uv, huv, u, rfl, hu⟩ := p4.get' ff
    refine ⟨_, rfl, x.1, _, 2, .ref x.2.1, rfl, rfl, SqL.of (e1 _ _ x2), rfl, _, rfl, x.2.1, _, _, s.v, rfl, rfl, SqL.of (e1 _ _ held), atI_nat hv, ?_⟩
    refine ⟨_, rfl, pa, .ref l1, rfl, hpd e1, _, rfl, l1, _, _, .ref u, rfl, rfl, SqL.of (e1 _ _ p2'), atI_nat huv, u, _, 1, .str (sortS fd'.many), rfl, rfl, same_t (hr_same.trans e1) hu, rfl, _, _, rfl, ?_⟩
    have hup : (upd H1 D (.lst [])) = (upd H1 D (.lst [])) := rfl
    obtain ⟨PS, hPS⟩ : ∃ PS : Bool → L2.St → Hp → Prop, ∀ t σ' H', PS t σ' H' ↔ ∃ x6 rl' ls', σ' = [some (.ref pa), some (.ref hp), some (.ref x.1), some (.str d.1), some (.str d.2), some wv, x6, some (.int (at_ : Nat)), some s.v, some (.str (sortS fd'.many))] ∧ Same (Hr rl H) (Hr rl' H') ∧ BnI lRep rl' H' la ha ea eo ls' os (if t = true then deStep fs wd j b d else b) := ⟨_, fun _ _ _ => Iff.rfl⟩
    have lat : at_ < (b.ob j).held.length := (List.getElem?_eq_some_iff.mp hs).1
    have lat2 : at_ < ((b.ob j).held.map Sl.v).length := by rw [List.length_map]; exact lat
    have xx : ∀ {rl' H' ls'}, BnI lRep rl' H' la ha ea eo ls' os b → ∃ w1 w2, H' x.1 = some (.lst [w1, w2, .ref x.2.1]) := fun J => by
      rw [J.oxh j x _ hx (ob_get hj)]
      unfold lRep
      cases (b.ob j).mode with
      | none => exact ⟨_, _, rfl⟩
      | some m => exact ⟨_, _, rfl⟩
    have slot : ∀ {rl' H' ls'} (s' : Sl), Same (Hr rl H) (Hr rl' H') → BnI lRep rl' H' la ha ea eo ls' os b → deStep fs wd j b d = b.setSlot j at_ s' → ∀ x6, PS true [some (.ref pa), some (.ref hp), some (.ref x.1), some (.str d.1), some (.str d.2), some wv, x6, some (.int (at_ : Nat)), some s.v, some (.str (sortS fd'.many))] (upd H' x.2.1 (.lst (((b.ob j).held.map Sl.v).set at_ s'.v))) := fun {rl' H' ls'} s' f J es x6 => by
      obtain ⟨J2, f2⟩ := J.modS (held := (b.ob j).held.set at_ s') hx
      rw [List.map_set] at J2 f2
      refine (hPS _ _ _).mpr ⟨x6, rl', ls', rfl, f.trans f2, ?_⟩
      rw [if_pos rfl, es]
      exact J2
    have st0 : PS false [some (.ref pa), some (.ref hp), some (.ref x.1), some (.str d.1), some (.str d.2), some wv, none, some (.int (at_ : Nat)), some s.v, some (.str (sortS fd'.many))] H1 := (hPS _ _ _).mpr ⟨none, rl, ls, rfl, hr_keep e1, I.keep e1⟩
    refine ⟨PS (decide (d.1 = ("set" : Str))), ⟨_, rfl, rfl, _, rfl, ite2 (fun g => ?_) (fun g => ?_)⟩, ?_⟩
    · have e := V.str.inj (of_decide_eq_true g)
      rw [decide_eq_true e]
      have one : fd'.many = false := by
        rw [e] at fmany
        simpa [deedSorts] using fmany
      cases s with
      | l k =>
        have so' : fd'.many = true := so'.1
        rw [one] at so'
        cases so'
      | w o =>
        have es := deStep_w (fs := fs) (wd := wd) (j := j) (b := b) (d := d) (o := o) (by rw [hat]; exact hs)
        rw [hat, if_pos e] at es
        have hwv := hw (.inl e)
        subst hwv
        refine ⟨_, rfl, _, rfl, x.1, _, 2, .ref x.2.1, rfl, rfl, SqL.of (e1 _ _ x2), rfl, _, rfl, x.2.1, _, _, at_, rfl, rfl, e1 _ _ held, ixN_lt lat2, ?_⟩
        exact slot (.w (some wd)) (hr_keep e1) (I.keep e1) es _
    · rw [show decide (d.1 = ("set" : Str)) = false from decide_eq_false fun e => g (by rw [e]; exact decide_eq_true rfl)]
      exact st0
    rintro σ2 H2 h2
    rw [hPS] at h2
    obtain ⟨x6, rl2, ls2, rfl, f2, I2⟩ := h2
    -- clear, one
    refine ⟨PS (decide (d.1 = ("set" : Str)) || (decide (d.1 = ("clear" : Str)) && !fd'.many)), ⟨fun t H3 => t = (decide (d.1 = ("clear" : Str)) && !fd'.many) ∧ H3 = H2, ⟨_, rfl, rfl, _, rfl, ite2 (fun g => ?_) (fun g => ?_)⟩, ?_⟩, ?_⟩
    · have e := V.str.inj (of_decide_eq_true g)
      refine ⟨_, rfl, rfl, _, rfl, ?_, rfl⟩
      rw [sort_one, decide_eq_true e, Bool.true_and]
    · rw [show decide (d.1 = ("clear" : Str)) = false from decide_eq_false fun e => g (by rw [e]; exact decide_eq_true rfl)]
      exact ⟨rfl, rfl⟩
    · rintro _ H3 ⟨rfl, rfl⟩
      refine ite2 (fun g => ?_) (fun g => ?_)
      · rw [Bool.and_eq_true, Bool.not_eq_true'] at g
        have e := of_decide_eq_true g.1
        have ns : d.1 ≠ ("set" : Str) := by rw [e]; decide
        rw [decide_eq_false ns, if_neg (by decide)] at I2
        rw [show (decide (d.1 = ("set" : Str)) || (decide (d.1 = ("clear" : Str)) && !fd'.many)) = true by rw [decide_eq_true e, g.2]; simp]
        cases s with
        | l k =>
          have so' : fd'.many = true := so'.1
          rw [g.2] at so'
          cases so'
        | w o =>
          have es := deStep_w (fs := fs) (wd := wd) (j := j) (b := b) (d := d) (o := o) (by rw [hat]; exact hs)
          rw [hat, if_neg ns] at es
          obtain ⟨v1, v2, xl⟩ := xx I2
          refine ⟨_, rfl, x.1, _, 2, .ref x.2.1, rfl, rfl, SqL.of xl, rfl, _, rfl, x.2.1, _, _, at_, rfl, rfl, I2.osh j x _ hx (ob_get hj), ixN_lt lat2, ?_⟩
          exact slot (.w none) f2 I2 es _
      · rw [Bool.not_eq_true] at g
        rw [g, Bool.or_false]
        exact (hPS _ _ _).mpr ⟨x6, rl2, ls2, rfl, f2, I2⟩
    rintro σ2 H3 h3
    rw [hPS] at h3
    obtain ⟨x6, rl3, ls3, rfl, f3', I3⟩ := h3
    -- clear, many
    have lk : ∀ {rl' H' ls'}, BnI lRep rl' H' la ha ea eo ls' os b → ls'.length = b.lists.length := fun J => J.ll
    refine ⟨PS ((decide (d.1 = ("set" : Str)) || (decide (d.1 = ("clear" : Str)) && !fd'.many)) || (decide (d.1 = ("clear" : Str)) && fd'.many)), ⟨fun t H4 => t = (decide (d.1 = ("clear" : Str)) && fd'.many) ∧ H4 = H3, ⟨_, rfl, rfl, _, rfl, ite2 (fun g => ?_) (fun g => ?_)⟩, ?_⟩, ?_⟩
    · have e := V.str.inj (of_decide_eq_true g)
      refine ⟨_, rfl, rfl, _, rfl, ?_, rfl⟩
      rw [sort_many, decide_eq_true e, Bool.true_and]
    · rw [show decide (d.1 = ("clear" : Str)) = false from decide_eq_false fun e => g (by rw [e]; exact decide_eq_true rfl)]
      exact ⟨rfl, rfl⟩
    · rintro _ H4 ⟨rfl, rfl⟩
      refine ite2 (fun g => ?_) (fun g => ?_)
      · rw [Bool.and_eq_true] at g
        have e := of_decide_eq_true g.1
        rw [show (decide (d.1 = ("set" : Str)) || (decide (d.1 = ("clear" : Str)) && !fd'.many)) = false by rw [e, g.2]; decide, if_neg (by decide)] at I3
        rw [show ((decide (d.1 = ("set" : Str)) || (decide (d.1 = ("clear" : Str)) && !fd'.many)) || (decide (d.1 = ("clear" : Str)) && fd'.many)) = true by rw [e, g.2]; decide]
        cases s with
        | w o =>
          have so' : fd'.many = false := so'
          rw [g.2] at so'
          cases so'.symm
        | l k =>
          have hk : k < b.lists.length := so'.2
          have es := deStep_ls (fs := fs) (wd := wd) (j := j) (b := b) (d := d) (k := k) (by rw [hat]; exact hs) (by rw [e]; decide)
          rw [if_neg (by rw [e]; decide), if_neg (by rw [e]; decide)] at es
          obtain ⟨wa, hw1, hw2, hw3⟩ := I3.l hk
          refine ⟨by show 0 ≤ sizeLine; decide, fun p hp' => ?_⟩
          have e4 := same_new (Same.refl H4) hp' (o := .lst [])
          obtain ⟨J, fr⟩ := I3.setL (ws := []) hw1 e4 hp' upd_same
          have lh4 : LhA (Hr rl3 (upd H4 p (.lst []))) hp la ha ea := (f3'.trans (hr_keep e4)) _ _ lh
          refine ⟨_, rfl, hp, .ref la, rfl, lh_lists lh4, _, rfl, la, _, _, k, rfl, rfl, e4 _ _ I3.lah, ixN_lt (by rw [List.length_map, I3.ll]; exact hk), ?_⟩
          refine (hPS _ _ _).mpr ⟨x6, _, ls3.set k p, rfl, f3'.trans fr, ?_⟩
          rw [if_pos rfl, es]
          exact J
      · rw [Bool.not_eq_true] at g
        rw [g, Bool.or_false]
        exact (hPS _ _ _).mpr ⟨x6, rl3, ls3, rfl, f3', I3⟩
    rintro σ2 H4 h4
    rw [hPS] at h4
    obtain ⟨x6, rl4, ls4, rfl, f4, I4⟩ := h4
    have manyL : ∀ {nm : Str}, d.1 = nm → deedSorts nm = [true] → ∃ k, s = .l k ∧ k < b.lists.length := fun e h => by
      rw [e, h] at fmany
      have fmany : fd'.many = true := by simpa using fmany
      cases s with
      | w o =>
        have so' : fd'.many = false := so'
        rw [fmany] at so'
        cases so'
      | l k => exact ⟨k, rfl, so'.2⟩
    -- add
    refine ⟨PS (((decide (d.1 = ("set" : Str)) || (decide (d.1 = ("clear" : Str)) && !fd'.many)) || (decide (d.1 = ("clear" : Str)) && fd'.many)) || decide (d.1 = ("add" : Str))), ⟨_, rfl, rfl, _, rfl, ite2 (fun g => ?_) (fun g => ?_)⟩, ?_⟩
    · have e := V.str.inj (of_decide_eq_true g)
      rw [show ((decide (d.1 = ("set" : Str)) || (decide (d.1 = ("clear" : Str)) && !fd'.many)) || (decide (d.1 = ("clear" : Str)) && fd'.many)) = false by rw [e]; cases fd'.many <;> decide, if_neg (by decide)] at I4
      rw [show (((decide (d.1 = ("set" : Str)) || (decide (d.1 = ("clear" : Str)) && !fd'.many)) || (decide (d.1 = ("clear" : Str)) && fd'.many)) || decide (d.1 = ("add" : Str))) = true by rw [decide_eq_true e, Bool.or_true]]
      obtain ⟨k, rfl, hk⟩ := manyL e (by decide)
      have es := deStep_ls (fs := fs) (wd := wd) (j := j) (b := b) (d := d) (k := k) (by rw [hat]; exact hs) (by rw [e]; decide)
      rw [if_pos e] at es
      have hwv := hw (.inr (.inl e))
      subst hwv
      obtain ⟨wa, hw1, hw2, hw3⟩ := I4.l hk
      have wl : (b.lists.getD k []).length ≤ 1000 := Nat.le_trans (w0.wl _ (getD_mem hk)) lC
      have lh4 : LhA (Hr rl4 H4) hp la ha ea := f4 _ _ lh
      refine ⟨_, rfl, hp, .ref la, rfl, lh_lists lh4, _, rfl, la, _, _, _, rfl, rfl, SqL.of I4.lah, atI_nat hw2, .inl ⟨rfl, _, SqL.of hw3⟩, _, rfl, wa, _, _, rfl, rfl, hw3, ?_, ?_⟩
      · rw [List.length_map, sizeLine_eq]
        omega
      · obtain ⟨J, fr⟩ := I4.modL (ws := b.lists.getD k [] ++ [wd]) hw1
        rw [List.map_append] at J fr
        refine (hPS _ _ _).mpr ⟨x6, rl4, ls4, rfl, f4.trans fr, ?_⟩
        rw [if_pos rfl, es]
        exact J
    · rw [show decide (d.1 = ("add" : Str)) = false from decide_eq_false fun e => g (by rw [e]; exact decide_eq_true rfl), Bool.or_false]
      exact (hPS _ _ _).mpr ⟨x6, rl4, ls4, rfl, f4, I4⟩
    rintro σ2 H5 h5
    rw [hPS] at h5
    obtain ⟨x6, rl5, ls5, rfl, f5, I5⟩ := h5
    -- strike
    refine ⟨PS ((((decide (d.1 = ("set" : Str)) || (decide (d.1 = ("clear" : Str)) && !fd'.many)) || (decide (d.1 = ("clear" : Str)) && fd'.many)) || decide (d.1 = ("add" : Str))) || decide (d.1 = ("strike" : Str))), ⟨_, rfl, rfl, _, rfl, ite2 (fun g => ?_) (fun g => ?_)⟩, ?_⟩
    · have e := V.str.inj (of_decide_eq_true g)
      rw [show (((decide (d.1 = ("set" : Str)) || (decide (d.1 = ("clear" : Str)) && !fd'.many)) || (decide (d.1 = ("clear" : Str)) && fd'.many)) || decide (d.1 = ("add" : Str))) = false by rw [e]; cases fd'.many <;> decide, if_neg (by decide)] at I5
      rw [show ((((decide (d.1 = ("set" : Str)) || (decide (d.1 = ("clear" : Str)) && !fd'.many)) || (decide (d.1 = ("clear" : Str)) && fd'.many)) || decide (d.1 = ("add" : Str))) || decide (d.1 = ("strike" : Str))) = true by rw [decide_eq_true e, Bool.or_true]]
      obtain ⟨k, rfl, hk⟩ := manyL e (by decide)
      have es := deStep_ls (fs := fs) (wd := wd) (j := j) (b := b) (d := d) (k := k) (by rw [hat]; exact hs) (by rw [e]; decide)
      rw [if_neg (by rw [e]; decide), if_pos e] at es
      have hwv := hw (.inr (.inr e))
      subst hwv
      obtain ⟨wa, hw1, hw2, hw3⟩ := I5.l hk
      have wl : (b.lists.getD k []).length ≤ 1000 := Nat.le_trans (w0.wl _ (getD_mem hk)) lC
      have lh5 : LhA (Hr rl5 H5) hp la ha ea := f5 _ _ lh
      refine ⟨_, rfl, hp, .ref la, rfl, lh_lists lh5, _, rfl, la, _, _, _, rfl, rfl, SqL.of I5.lah, atI_nat hw2, wa, rfl, ⟨_, SqL.of hw3⟩, fun D2 hD2 => ?_⟩
      refine lc_it (walk_list (K := K) (a := wa) (xs := (b.lists.getD k []).map V.str)) (fun i H6 => Same H5 H6 ∧ H6 D2 = some (.lst ((((b.lists.getD k []).take i).filter fun z => !decide (z = wd)).map V.str))) ⟨same_new (Same.refl H5) hD2, upd_same⟩ (fun i H6 _ h => SqL.of (h.1 _ _ hw3)) ?_ ?_
      · rintro i v H6 H7 hi ⟨e6, d6⟩ ⟨rfl, hv⟩
        rw [List.getElem?_map] at hv
        obtain ⟨z, hz, rfl⟩ := Option.map_eq_some_iff.mp hv
        have tk := List.take_add_one (l := b.lists.getD k []) (i := i)
        rw [hz] at tk
        refine ⟨rfl, _, rfl, _, rfl, rfl, _, rfl, ?_⟩
        rw [tk, show (some z).toList = [z] from rfl, List.filter_append, List.map_append]
        show (if (!decide (V.str z = V.str wd)) = true then _ else _)
        have ez : decide (V.str z = V.str wd) = decide (z = wd) := by
          rw [Bool.eq_iff_iff, decide_eq_true_iff, decide_eq_true_iff]
          exact ⟨fun e => V.str.inj e, fun e => e ▸ rfl⟩
        rw [ez]
        by_cases e : z = wd
        · rw [if_neg (by rw [decide_eq_true e]; decide), List.filter_cons_of_neg (by rw [decide_eq_true e]; decide), List.filter_nil, List.map_nil, List.append_nil]
          exact ⟨e6, d6⟩
        · rw [if_pos (by rw [decide_eq_false e]; rfl), List.filter_cons_of_pos (by rw [decide_eq_false e]; rfl), List.filter_nil]
          refine ⟨_, rfl, _, d6, ?_, fun c o hc => ?_, upd_same⟩
          · rw [List.length_map]
            have := List.length_filter_le (fun z => !decide (z = wd)) ((b.lists.getD k []).take i)
            rw [List.length_take] at this
            rw [sizeLine_eq]
            omega
          · rw [upd_ne (ne_of_none hc hD2)]
            exact e6 _ _ hc
      · rintro H6 ⟨e6, d6⟩
        rw [List.length_map, List.take_length] at d6
        obtain ⟨J, fr⟩ := I5.setL (ws := (b.lists.getD k []).filter fun z => !decide (z = wd)) hw1 e6 hD2 d6
        have lh6 : LhA (Hr rl5 H6) hp la ha ea := (f5.trans (hr_keep e6)) _ _ lh
        refine ⟨_, rfl, hp, .ref la, rfl, lh_lists lh6, _, rfl, la, _, _, k, rfl, rfl, e6 _ _ I5.lah, ixN_lt (by rw [List.length_map, I5.ll]; exact hk), ?_⟩
        refine (hPS _ _ _).mpr ⟨_, _, ls5.set k D2, rfl, f5.trans fr, ?_⟩
        rw [if_pos rfl, es]
        exact J
    · rw [show decide (d.1 = ("strike" : Str)) = false from decide_eq_false fun e => g (by rw [e]; exact decide_eq_true rfl), Bool.or_false]
      exact (hPS _ _ _).mpr ⟨x6, rl5, ls5, rfl, f5, I5⟩
    rintro σ2 H6 h6
    rw [hPS] at h6
    obtain ⟨x6, rl6, ls6, rfl, f6, I6⟩ := h6
    -- fresh
    refine ⟨_, rfl, rfl, _, rfl, ite2 (fun g => ?_) (fun g => ?_)⟩
    · have e := V.str.inj (of_decide_eq_true g)
      rw [show ((((decide (d.1 = ("set" : Str)) || (decide (d.1 = ("clear" : Str)) && !fd'.many)) || (decide (d.1 = ("clear" : Str)) && fd'.many)) || decide (d.1 = ("add" : Str))) || decide (d.1 = ("strike" : Str))) = false by rw [e]; cases fd'.many <;> decide, if_neg (by decide)] at I6
      obtain ⟨k, rfl, hk⟩ := manyL e (by decide)
      have es := deStep_l (fs := fs) (wd := wd) (j := j) (b := b) (d := d) (k := k) hj (by rw [hat]; exact hs)
      have hL : deL b.lists k d.1 wd = (b.lists ++ [b.lists.getD k []], b.lists.length) := by
        unfold deL
        rw [if_pos e]
      rw [hL, hat] at es
      obtain ⟨wa, hw1, hw2, hw3⟩ := I6.l hk
      have wl : (b.lists.getD k []).length ≤ 1000 := Nat.le_trans (w0.wl _ (getD_mem hk)) lC
      have lh6 : LhA (Hr rl6 H6) hp la ha ea := f6 _ _ lh
      refine ⟨_, rfl, _, rfl, hp, .ref la, rfl, lh_lists lh6, _, rfl, la, _, _, _, rfl, rfl, SqL.of I6.lah, atI_nat hw2, ?_⟩
      refine ⟨hp, wa, la, ha, ea, eo, ls6, os, b, rl6, _, rfl, lh6, I6, hw3, by omega, Nat.le_trans w0.ll (by omega), fun rl7 H7 p7 f7 J7 => ?_⟩
      obtain ⟨v1, v2, xl⟩ : ∃ v1 v2, H7 x.1 = some (.lst [v1, v2, .ref x.2.1]) := by
        rw [J7.oxh j x _ hx (ob_get (b := { b with lists := b.lists ++ [b.lists.getD k []] }) hj)]
        unfold lRep
        cases (({ b with lists := b.lists ++ [b.lists.getD k []] } : Bn).ob j).mode with
        | none => exact ⟨_, _, rfl⟩
        | some m => exact ⟨_, _, rfl⟩
      have held7 := J7.osh j x _ hx (ob_get (b := { b with lists := b.lists ++ [b.lists.getD k []] }) hj)
      refine ⟨_, rfl, x.1, _, 2, .ref x.2.1, rfl, rfl, SqL.of xl, rfl, _, rfl, x.2.1, _, _, at_, rfl, rfl, held7, ixN_lt lat2, ?_⟩
      obtain ⟨J8, f8⟩ := J7.modS (held := (b.ob j).held.set at_ (.l b.lists.length)) hx
      rw [List.map_set] at J8 f8
      rw [es] at q
      exact q _ _ _ ((f6.trans f7).trans f8) J8
    · have nf : d.1 ≠ ("fresh" : Str) := fun e => g (by rw [e]; exact decide_eq_true rfl)
      have five : ((((decide (d.1 = ("set" : Str)) || (decide (d.1 = ("clear" : Str)) && !fd'.many)) || (decide (d.1 = ("clear" : Str)) && fd'.many)) || decide (d.1 = ("add" : Str))) || decide (d.1 = ("strike" : Str))) = true := by
        unfold deedSorts at fmany
        by_cases c1 : d.1 = ("set" : Str)
        · simp [c1]
        by_cases c2 : d.1 = ("add" : Str)
        · simp [c2]
        by_cases c3 : d.1 = ("strike" : Str)
        · simp [c3]
        by_cases c5 : d.1 = ("clear" : Str)
        · cases fd'.many <;> simp [c5]
        rw [if_neg c1, if_neg c2, if_neg c3, if_neg nf, if_neg c5] at fmany
        cases fmany
      rw [five, if_pos rfl] at I6
      exact q _ _ _ f6 I6
end
end MK
set_option Elab.async false
set_option linter.all false
set_option autoImplicit false
set_option maxRecDepth 100000
set_option maxHeartbeats 4000000
namespace MK
open PySem PySem.Spec PyProof.Rows L2
open C8 (Met pe_mt pe_mt0 Mak pe_mk)
local macro_rules | `(tactic| walk_at "x") => `(tactic| dsimp only [tSeq, tAsg, tRet, tDrop, tLst, tTup, tCons, tOp, tUn, tIfS])
abbrev s_done : Stmt := topS 84
theorem sc_done : FnScope ["_law_p", "_law_heap", "_law_row", "_law_things", "_law_x", "_law_name", "_law_hand", "_law_moves", "_law_deeds_here", "_law_same_here", "_law_on", "_law_mode", "_law_made", "_law_deed_here", "_law_field"] ["_law_p", "_law_heap", "_law_row"] (defScope s_done) := ⟨rfl, rfl, rfl, by decide +kernel, rfl, by decide +kernel, by decide +kernel⟩
/-- a row as deep data -/
def rwL : Rw → List PyData
  | .mk => [.str "make"]
  | .call nm k none => [.str nm, .int (k : Nat)]
  | .call nm k (some z) => [.str nm, .int (k : Nat), .str z]
def pdRw (r : Rw) : PyData := .tuple (rwL r)
theorem dp_rw {K : PySem.W.Frag} {H : Hp} {a : Addr} {r : Rw} (h : SqT K H a (RwV r)) : Dp K H (.ref a) (pdRw r) := by
  match r with
  | .mk => exact .tup h (.cons (.str _) .nil)
  | .call nm k none => exact .tup h (.cons (.str _) (.cons (.int _) .nil))
  | .call nm k (some z) => exact .tup h (.cons (.str _) (.cons (.int _) (.cons (.str _) .nil)))
theorem lay_rw {fs : List FD} {n : Nat} {cs : List CD} {rs : List Rw} {r : Rw} (ok : KdOk fs n cs) (h : RwOk cs rs r) : PyData.canLay0 (pdRw r) = true := by
  match r with
  | .mk => decide +kernel
  | .call nm k wd =>
    obtain ⟨c, hc, _, _, hw⟩ := h
    obtain ⟨cm, rfl⟩ := callOf_mem hc
    have w1 := word_ok (ok.calls c cm).word
    cases wd with
    | none => simp only [pdRw, rwL, PyData.canLay0, PyData.canLayAll0, w1, Bool.and_true]
    | some z =>
      have w2 := word_ok (hw z rfl)
      simp only [pdRw, rwL, PyData.canLay0, PyData.canLayAll0, w1, w2, Bool.and_true]
theorem depth_rw (r : Rw) : PyData.depth (pdRw r) ≤ 1 := by
  match r with
  | .mk => decide +kernel
  | .call nm k none =>
    simp only [pdRw, rwL, PyData.depth, PyData.depthAll]
    decide
  | .call nm k (some z) =>
    simp only [pdRw, rwL, PyData.depth, PyData.depthAll]
    decide
theorem shaped_rw {fs : List FD} {n : Nat} {cs : List CD} {rs : List Rw} {r : Rw} (ok : KdOk fs n cs) (h : RwOk cs rs r) : SeqAt.shaped (pdRw r) = true := by
  unfold SeqAt.shaped
  rw [lay_rw ok h, decide_eq_true (Nat.le_trans (depth_rw r) (by decide))]
  rfl
def isMk : Rw → Bool
  | .mk => true
  | .call .. => false
theorem eqv_mk (r : Rw) : PyData.eqv (pdRw r) (.tuple [.str "make"]) = isMk r := by
  match r with
  | .mk => decide +kernel
  | .call nm k none => simp [pdRw, rwL, PyData.eqv, PyData.eqvAll, isMk]
  | .call nm k (some z) => simp [pdRw, rwL, PyData.eqv, PyData.eqvAll, isMk]
theorem shaped_mk : SeqAt.shaped (.tuple [.str "make"]) = true := by decide +kernel
/-- what the law's heap keeps of the lists of what was made: by the row's number -/
structure MdI (B : Hp) (kvs : List (Key × V)) (es : List (Option (List Ct))) : Prop where
  get : ∀ (k : Nat) cts, es[k]? = some (some cts) → ∃ p L, valV kvs (.inl (k : Int)) = some (.ref p) ∧ CsW B p cts L
  key : ∀ q v, valV kvs q = some v → ∃ (k : Nat) (cts : List Ct), q = .inl (k : Int) ∧ es[k]? = some (some cts)
  len : kvs.length ≤ es.length
  vals : ∀ q v, (q, v) ∈ kvs → ∃ (k : Nat) (cts : List Ct) (p : Addr) (L : List Addr), q = .inl (k : Int) ∧ es[k]? = some (some cts) ∧ v = .ref p ∧ CsW B p cts L
theorem putK_mem {kvs : List (Key × V)} {k q : Key} {v x : V} (h : (q, x) ∈ putK kvs k v) : (q, x) ∈ kvs ∨ (q = k ∧ x = v) := by
  unfold putK at h
  split at h
  · obtain ⟨y, hy, e⟩ := List.mem_map.mp h
    split at e
    · rename_i z
      cases e
      exact .inr ⟨z, rfl⟩
    · rw [e] at hy
      exact .inl hy
  · rcases List.mem_append.mp h with h | h
    · exact .inl h
    · cases List.mem_singleton.mp h
      exact .inr ⟨rfl, rfl⟩
theorem MdI.keep {B B' : Hp} {kvs : List (Key × V)} {es : List (Option (List Ct))} (e : Same B B') (h : MdI B kvs es) : MdI B' kvs es where
  get := fun k cts hk => by
    obtain ⟨p, L, h1, h2⟩ := h.get k cts hk
    exact ⟨p, L, h1, h2.keep e⟩
  key := h.key
  len := h.len
  vals := fun q v h' => by
    obtain ⟨k, cts, p, L, h1, h2, h3, h4⟩ := h.vals q v h'
    exact ⟨k, cts, p, L, h1, h2, h3, h4.keep e⟩
theorem MdI.skip {B : Hp} {kvs : List (Key × V)} {es : List (Option (List Ct))} (h : MdI B kvs es) : MdI B kvs (es ++ [none]) where
  get := fun k cts hk => by
    rcases snoc_or hk with hk | ⟨_, e⟩
    · exact h.get k cts hk
    · cases e
  key := fun q v hq => by
    obtain ⟨k, cts, e1, e2⟩ := h.key q v hq
    exact ⟨k, cts, e1, by rw [List.getElem?_append_left (at_lt e2)]; exact e2⟩
  len := by
    rw [List.length_append]
    exact Nat.le_succ_of_le h.len
  vals := fun q v h' => by
    obtain ⟨k, cts, p, L, h1, h2, h3, h4⟩ := h.vals q v h'
    exact ⟨k, cts, p, L, h1, by rw [List.getElem?_append_left (at_lt h2)]; exact h2, h3, h4⟩
theorem MdI.put {B : Hp} {kvs : List (Key × V)} {es : List (Option (List Ct))} {p : Addr} {cts : List Ct} {L : List Addr} (h : MdI B kvs es) (cw : CsW B p cts L) : MdI B (putK kvs (.inl (es.length : Int)) (.ref p)) (es ++ [some cts]) where
  get := fun k cts' hk => by
    rw [valV_put]
    rcases snoc_or hk with hk | ⟨e1, e2⟩
    · rw [if_neg (fun e => by
        have := Int.ofNat.inj (Sum.inl.inj e)
        have := at_lt hk
        omega)]
      exact h.get k cts' hk
    · cases e2
      rw [e1, if_pos rfl]
      exact ⟨p, L, rfl, cw⟩
  key := fun q v hq => by
    rw [valV_put] at hq
    split at hq
    · rename_i e
      exact ⟨es.length, cts, e, by rw [List.getElem?_append_right (Nat.le_refl _), Nat.sub_self]; rfl⟩
    · obtain ⟨k, c, e1, e2⟩ := h.key q v hq
      exact ⟨k, c, e1, by rw [List.getElem?_append_left (at_lt e2)]; exact e2⟩
  len := by
    rw [List.length_append]
    exact Nat.le_trans (length_putK kvs _ _) (Nat.succ_le_succ h.len)
  vals := fun q v h' => by
    rcases putK_mem h' with h' | ⟨rfl, rfl⟩
    · obtain ⟨k, c, p, L, h1, h2, h3, h4⟩ := h.vals q v h'
      exact ⟨k, c, p, L, h1, by rw [List.getElem?_append_left (at_lt h2)]; exact h2, h3, h4⟩
    · exact ⟨es.length, cts, p, L, rfl, by rw [List.getElem?_append_right (Nat.le_refl _), Nat.sub_self]; rfl, rfl, cw⟩
theorem BnI.early {rep : Rep} {rl : Rl} {H : Hp} {la ha ea : Addr} {eo : HO} {ls : List Addr} {os : Os} {b : Bn} (h : BnI rep rl H la ha ea eo ls os b) {e : List (Option (List Ct))} : BnI rep rl H la ha ea eo ls os { b with early := e } := { h with }
def spLDone (K : PySem.W.Frag) : Sp := fun vs H Q _ => ∃ (pq : V) (hp ra la ha ea : Addr) (kvs : List (Key × V)) (ls : List Addr) (os : Os) (b : Bn) (rl : Rl) (fs : List FD) (n : Nat) (cs : List CD) (rs : List Rw) (r : Rw), vs = [pq, .ref hp, .ref ra] ∧ LpF K (Hr rl H) pq fs ∧ LpC K (Hr rl H) pq cs ∧ LhA (Hr rl H) hp la ha ea ∧ BnI lRep rl H la ha ea (.dK kvs) ls os b ∧ MdI (Hr rl H) kvs b.early ∧ KdOk fs n cs ∧
  SqT K (Hr rl H) ra (RwV r) ∧ Wf fs n cs rs b ∧ RwOk cs rs r ∧ rs.length ≤ 200 ∧
  ∀ rl' H' ls' os' kvs', Fr rl H rl' H' → BnI lRep rl' H' la ha ea (.dK kvs') ls' os' (doRow false fs cs b r) → MdI (Hr rl' H') kvs' (doRow false fs cs b r).early → Q .non H'
theorem LpC.keep {K : PySem.W.Frag} {B B' : Hp} {v : V} {cs : List CD} (e : Same B B') (h : LpC K B v cs) : LpC K B' v cs := by
  obtain ⟨p, l1, fvs, kvs, rfl, p1, p3, p2, p4⟩ := h
  exact ⟨p, l1, fvs, kvs, rfl, e _ _ p1, p3, e _ _ p2, p4.mono fun _ _ h => CdL.keep e h⟩
section
variable {P : Program} {w : World} {K : PySem.W.Frag} {mg : Str → Option Value} {base : Heap}
theorem ok_ldone {f : Addr} {fd : FuncData} (F : DefX K mg "_law_done" s_done ["_law_p", "_law_heap", "_law_row"] f fd) (T : Txt K mg) (c_kept : Cal P w K mg base CX0 1 "_law_kept" (spLKept K)) (c_row_of : Cal P w K mg base CX0 1 "_law_row_of" (spRowOf K)) (c_made_of : Cal P w K mg base CX0 2 "_law_made_of" (spMadeOf K))
    (c_deed : Cal P w K mg base CX0 2 "_law_deed" (spLDd K)) (c_told : Cal P w K mg base CX0 1 "_law_told" (spLTold K)) : Cal P w K mg base CX0 3 "_law_done" (spLDone K) := by
  refine cal_mk F sc_done (fun vs H Q E h => ?_) (fun cdv A outer sh H vs Q E hr h => ?_)
  · obtain ⟨pq, hp, ra, _, _, _, _, _, _, _, _, _, _, _, _, _, rfl, _⟩ := h
    rfl
  · obtain ⟨pq, hp, ra, la, ha, ea, kvs, ls, os, b, rl, fs, n, cs, rs, r, rfl, pF, pC, lh, I, md, ok, hra, wf, rok, lr, q⟩ := h
    refine ⟨_, (pss_cons (ps_set (i := 3) sc_done.nd rfl (Or.inl rfl) (pe_dget (hu_of hr) (pv 1) pe_str (fun _ _ => rfl)))
(pss_cons (ps_if (pt_cmpR (op_eqD hr.units) (pv 2) (pe_tup (pa_cons pe_str pa_nil)) (nomark _))
(pss_cons (ps_expr (pe_bm PySem.F.plainAttrs_list PySem.F.slot_list_append PySem.F.type_list_append mt_append (pv 3) (pa_cons (pe_lst (pa_cons pe_str (pa_cons pe_int (pa_cons (pe_lc (own := [("_law_x", 4)]) (g := (gName 4)) (tt := tYes) rfl sc_done.nd (pi_list (pe_dget (hu_of hr) (pv 0) pe_str (fun _ _ => rfl))) (blkOk_by (own := [("_law_x", 4)]) (N := ["_law_p", "_law_heap", "_law_row", "_law_things", "_law_x", "_law_name", "_law_hand", "_law_moves", "_law_deeds_here", "_law_same_here", "_law_on", "_law_mode", "_law_made", "_law_deed_here", "_law_field"]) (sc := defScope s_done) (by decide +kernel)) (fun _ _ _ _ _ => (pg_name (i := 4) sc_done.nd rfl (Or.inl rfl))) (fun _ _ _ _ _ => pts_nil) (fun _ _ _ _ _ => (pe_cut (pe_ifExp (pt_cmpR op_eq (pe_ix (ix_tupK (K := K) rfl) (pv 4) pe_int (fun _ _ => rfl)) pe_str (nomark _)) pe_non (pe_c c_kept hr (by first | decide | assumption) rfl (pa_cons (pv 1) (pa_cons (pe_lst pa_nil) pa_nil))))))) pa_nil)))) pa_nil)))
(pss_one ps_retN))
pss_nil)
(pss_cons (ps_asg (pe_c c_row_of hr (by first | decide | assumption) rfl (pa_cons (pv 0) (pa_cons (pe_ix ix_tup (pv 2) pe_int (fun _ _ => rfl)) pa_nil))) (pg_tup (by rfl) (pgs_cons (pg_name (i := 5) sc_done.nd rfl (Or.inl rfl)) (pgs_cons (pg_name (i := 6) sc_done.nd rfl (Or.inl rfl)) (pgs_cons (pg_name (i := 7) sc_done.nd rfl (Or.inl rfl)) (pgs_cons (pg_name (i := 8) sc_done.nd rfl (Or.inl rfl)) (pgs_cons (pg_name (i := 9) sc_done.nd rfl (Or.inl rfl)) pgs_nil)))))))
(pss_cons (ps_set (i := 10) sc_done.nd rfl (Or.inl rfl) (pe_ix ix_list (pv 3) (pe_ix ix_tup (pv 2) pe_int (fun _ _ => rfl)) (fun _ _ => rfl)))
(pss_cons (ps_if (pt_cut (PW.pt (pw_or (pt_cmpR op_isN (pv 10) pe_non (nomark _)) (pw_or1 (pt_cmpR op_eq (pe_ix ix_list (pv 7) (pe_ix ix_list (pv 10) pe_int (fun _ _ => rfl)) (fun _ _ => rfl)) (pe_un un_neg pe_int) (nomark _))))))
(pss_cons (ps_expr (pe_bm PySem.F.plainAttrs_list PySem.F.slot_list_append PySem.F.type_list_append mt_append (pv 3) (pa_cons pe_non pa_nil)))
(pss_one ps_retN))
pss_nil)
(pss_cons (ps_set (i := 11) sc_done.nd rfl (Or.inl rfl) (pe_ix ix_list (pv 7) (pe_ix ix_list (pv 10) pe_int (fun _ _ => rfl)) (fun _ _ => rfl)))
(pss_cons (ps_set (i := 12) sc_done.nd rfl (Or.inl rfl) (pe_cut (pe_ifExp (pt_cmpR op_eq (pv 6) pe_str (nomark _)) (pe_c c_made_of hr (by first | decide | assumption) rfl (pa_cons (pv 0) (pa_cons (pv 1) (pa_cons (pv 10) (pa_cons pe_str (pa_cons (pv 11) (pa_cons (pv 9) pa_nil))))))) (pv 10))))
(pss_cons (ps_asg (pv 11) (pg_sub (pv 12) pe_int set_list))
(pss_cons (ps_for PassesOwn.never rfl (pi_list (pv 8)) (pg_tup (by rfl) (pgs_cons (pg_name (i := 13) sc_done.nd rfl (Or.inl rfl)) (pgs_cons (pg_name (i := 14) sc_done.nd rfl (Or.inl rfl)) pgs_nil)))
(pss_one (ps_expr (pe_c c_deed hr (by first | decide | assumption) rfl (pa_cons (pv 0) (pa_cons (pv 1) (pa_cons (pv 12) (pa_cons (pv 13) (pa_cons (pv 14) (pa_cons (pe_cut (pe_ifExp (pt_cmpR op_eq (pe_callB call_len_seq (by rfl) T.len (by decide +kernel) (pa_cons (pv 2) pa_nil)) pe_int (nomark _)) (pe_ix ix_tup (pv 2) pe_int (fun _ _ => rfl)) pe_non)) pa_nil))))))))))
(pss_cut (ps_if (pt_cmpR op_eq (pv 6) pe_str (nomark _))
(pss_cons (ps_set (i := 12) sc_done.nd rfl (Or.inl rfl) (pe_c c_made_of hr (by first | decide | assumption) rfl (pa_cons (pv 0) (pa_cons (pv 1) (pa_cons (pv 10) (pa_cons pe_str (pa_cons pe_int (pa_cons (pv 9) pa_nil))))))))
(pss_one (ps_asg (pe_ix ix_tup (pe_c c_told hr (by first | decide | assumption) rfl (pa_cons (pv 0) (pa_cons (pv 1) (pa_cons (pv 12) pa_nil)))) pe_int (fun _ _ => rfl)) (pg_sub (pe_dget (hu_of hr) (pv 1) pe_str (fun _ _ => rfl)) (pe_callB call_len_seq (by rfl) T.len (by decide +kernel) (pa_cons (pv 3) pa_nil)) (set_dict (hu_of hr))))))
pss_nil)
(pss_one (ps_expr (pe_bm PySem.F.plainAttrs_list PySem.F.slot_list_append PySem.F.type_list_append mt_append (pv 3) (pa_cons (pv 12) pa_nil)))))))))))))), ?_⟩
    have hra0 : SqT K H ra (RwV r) := same_t hr_same hra
    have f3 : fs.length ≤ 3 := ok.fields.le
    have w0 := wf.w
    have hl := wf.hl
    have hel := wf.el
    have pF' := pF
    obtain ⟨pa, l1, fvs, pk, rfl, p1, p3, p2, p4⟩ := pF
    refine ⟨_, rfl, hp, .ref ha, rfl, lh_things lh, ?_⟩
    refine ⟨_, rfl, by show 1 ≤ sizeLine; decide, fun t ht => ?_⟩
    have e0 := same_new (Same.refl H) ht (o := .tup [.str "make"])
    have t0 : upd H t (.tup [.str "make"]) t = some (.tup [.str "make"]) := upd_same
    refine ⟨_, _, dp_rw (same_t e0 hra0), .tup (SqT.of t0) (.cons (.str _) .nil), shaped_rw ok rok, shaped_mk, _, rfl, ?_⟩
    show (if PyData.eqv (pdRw r) (.tuple [.str "make"]) = true then _ else _)
    rw [eqv_mk]
    have I0 := I.keep e0
    have f0 : Same (Hr rl H) (Hr rl (upd H t (.tup [.str "make"]))) := hr_keep e0
    generalize upd H t (.tup [.str "make"]) = H0 at e0 I0 f0 t0
    have few : ∀ {os' : Os} {hd : List (Option Nat)}, hd = b.hand → (hd.map (handV os')).length < sizeLine := fun e => by
      rw [List.length_map, e, hl, sizeLine_eq]
      omega
    have hpd : ∀ {H2 : Hp}, Same (Hr rl H) H2 → DGet H2 pa (.str "fields") (some (.ref l1)) := fun e => p3 ▸ DGet.k (k := .inr "fields") (e _ _ p1)
    have w90 : W0 fs n 90000 (2 * rs.length) (4 * rs.length) b := w0.mono (by omega) (Nat.le_refl _) (Nat.le_refl _)
    cases r with
    | mk =>
      refine iteT2 rfl ?_
      have lt : fvs.length = fs.length := p4.1
      refine ⟨_, rfl, .inl ⟨rfl, _, SqL.of I0.hah⟩, _, rfl, pa, .ref l1, rfl, hpd (f0.trans hr_same), l1, rfl, ⟨_, SqL.of (f0.trans hr_same _ _ p2)⟩, fun D hD => ?_⟩
      have nD := I0.fresh hD
      refine lc_it (walk_list (K := K) (a := l1) (xs := fvs)) (fun i Hi => ∃ (rli : Rl) (lsi : List Addr), Same (Hr rl H0) (Hr rli Hi) ∧ BnI lRep rli Hi la ha ea (.dK kvs) lsi os { b with lists := ((fs.take i).foldl blStep (b.lists, [])).1 } ∧ rli D = none ∧ Hi D = some (.lst (((fs.take i).foldl blStep (b.lists, [])).2.map Sl.v)))
        ⟨rl, ls, hr_keep (same_new (Same.refl H0) hD), I0.keep (same_new (Same.refl H0) hD), nD, upd_same⟩ (fun i Hi _ h => ?_) ?_ ?_
      · obtain ⟨rli, lsi, fi, _⟩ := h
        exact SqL.of ((f0.trans (fi.trans hr_same)) _ _ p2)
      · rintro i v Hi H2 hi ⟨rli, lsi, fi, Ii, ni, Di⟩ ⟨rfl, hv⟩
        obtain ⟨fd', hfd, u, rfl, hu⟩ := p4.get hv
        have gr := bl_grown (fs := fs) w0.wl w0.ws i (by omega)
        have stp : (fs.take (i + 1)).foldl blStep (b.lists, []) = blStep ((fs.take i).foldl blStep (b.lists, [])) fd' := fold_take _ _ hfd
        generalize hst : (fs.take i).foldl blStep (b.lists, []) = sti at Ii Di gr stp
        have hu2 : SqT K H2 u (FdV fd') := same_t (f0.trans (fi.trans hr_same)) hu
        refine ⟨rfl, fun y H4 => ∃ (rl4 : Rl) (ls4 : List Addr) (s : Sl), y = s.v ∧ (blStep sti fd').2 = sti.2 ++ [s] ∧ Same (Hr rl H0) (Hr rl4 H4) ∧ BnI lRep rl4 H4 la ha ea (.dK kvs) ls4 os { b with lists := (blStep sti fd').1 } ∧ rl4 D = none ∧ H4 D = some (.lst (sti.2.map Sl.v)), ⟨_, rfl, u, _, 1, _, rfl, rfl, hu2, rfl, rfl, _, rfl, ?_⟩, ?_⟩
        · show (if decide (V.str (sortS fd'.many) = V.str "one") = true then _ else _)
          rw [sort_one]
          refine ite2 (fun g => ?_) (fun g => ?_)
          · rw [Bool.not_eq_true'] at g
            have cs1 : blStep sti fd' = (sti.1, sti.2 ++ [.w none]) := by
              unfold blStep
              rw [if_neg (by rw [g]; decide)]
            exact ⟨rli, lsi, .w none, rfl, by rw [cs1], fi, by rw [cs1]; exact Ii, ni, Di⟩
          · rw [Bool.not_eq_true, Bool.not_eq_false'] at g
            have cs1 : blStep sti fd' = (sti.1 ++ [[]], sti.2 ++ [.l sti.1.length]) := by
              unfold blStep
              rw [if_pos g]
            refine ⟨_, rfl, by show 0 ≤ sizeLine; decide, fun w hw => ?_⟩
            have e2 := same_new (Same.refl H2) hw (o := .lst [])
            have I2 := Ii.keep e2
            have f2 : Same (Hr rl H0) (Hr rli (upd H2 w (.lst []))) := fi.trans (hr_keep e2)
            have D2 := e2 _ _ Di
            have pll := gr.ll
            have lh2 : LhA (Hr rli (upd H2 w (.lst []))) hp la ha ea := (f0.trans f2) _ _ lh
            refine ⟨hp, w, la, ha, ea, .dK kvs, lsi, os, { b with lists := sti.1 }, rli, [], rfl, lh2, I2, upd_same, Nat.zero_le _, ?_, fun rl3 H3 p3 f3' J => ?_⟩
            · show sti.1.length ≤ _
              have := w0.ll
              omega
            · obtain ⟨np3, pi3⟩ := hr_some (f3' _ _ (hr_get D2 ni))
              exact ⟨rl3, _, .l sti.1.length, rfl, by rw [cs1], f2.trans f3', by rw [cs1]; exact J, np3, pi3⟩
        · rintro y H4 ⟨rl4, ls4, s, rfl, es, f4, I4, n4, D4⟩
          refine ⟨_, D4, ?_, rl4, ls4, hr_out f4 hD, ?_, n4, ?_⟩
          · rw [List.length_map, gr.held.1, sizeLine_eq]
            omega
          · rw [stp]
            exact I4.out n4
          · rw [stp, es, upd_same, sl_snoc]
      · rintro Hi ⟨rli, lsi, fi, Ii, ni, Di⟩
        rw [lt, List.take_length] at Ii Di
        refine ⟨by show 3 ≤ sizeLine; decide, fun y hy => ?_⟩
        obtain ⟨J, fr⟩ := Ii.newO2 (x := y) (sa := D) (dx := 0) (m := some 0) (held := (blank fs b.lists).2) (same_new (Same.refl Hi) hy (o := lRep (some 0) D 0)) hy ni Di upd_same
        have fr1 := fr _ fi (by
          unfold Hr
          rw [nD]
          exact hD)
        have eq : (HO.lst [.str "maker", .int 0, .ref D]) = lRep (some 0) D 0 := rfl
        rw [eq]
        have hv9 : handV (os ++ [(y, D, 0)]) (some b.obs.length) = .ref y := by rw [← I.ol, handV_last]
        obtain ⟨J2, fr2⟩ := J.pushH (r := some b.obs.length) (fun j e => by cases e; rw [List.length_append, I.ol]; exact Nat.lt_succ_self _)
        rw [hv9] at J2 fr2
        have fr3 := f0.trans (fr1.trans fr2)
        refine ⟨ha, _, _, rfl, rfl, J.hah, few rfl, ?_⟩
        refine q _ _ lsi (os ++ [(y, D, 0)]) kvs fr3 ?_ ((md.keep fr3).skip)
        exact J2.early
    | call nm k wd =>
      refine iteF2 rfl ?_
      obtain ⟨c, hc, ⟨r', hr', hl'⟩, tk, wok⟩ := rok
      have hk : k < b.hand.length := by
        rw [hl]
        exact (List.getElem?_eq_some_iff.mp hr').1
      have cm := callOf_mem hc
      have cok := ok.calls c cm.1
      refine ⟨_, rfl, _, rfl, ra, _, 0, _, rfl, rfl, same_t e0 hra0, rw_zero, ?_⟩
      refine ⟨Hr rl H, .ref pa, nm, cs, c, rfl, f0.trans hr_same, pC, ok.nd, ok.cle, hc, fun H1 v e1 cd => ?_⟩
      obtain ⟨ma, da, sa, ds, ⟨ca, rfl, c1⟩, ⟨ma', em, c2⟩, ⟨da', ed, c3⟩, c4, ⟨sa', es, c5⟩⟩ := cd
      subst em ed es
      have f1 : Same (Hr rl H) (Hr rl H1) := f0.trans (hr_keep e1)
      have I1 := I0.keep e1
      clear e1
      refine ⟨ca, _, rfl, same_t (f1.trans hr_same) c1, rfl, _, _, rfl, _, _, rfl, _, _, rfl, _, _, rfl, _, _, rfl, rfl, ?_⟩
      have hh : b.hand[k]? = some b.hand[k] := List.getElem?_eq_getElem hk
      have hv : (b.hand.map (handV os))[k]? = some (handV os b.hand[k]) := by rw [List.getElem?_map, hh]; rfl
      have hra1 : SqT K H1 ra (RwV (.call nm k wd)) := same_t (f1.trans hr_same) hra
      refine ⟨_, rfl, _, rfl, ra, _, 1, _, rfl, rfl, hra1, rw_one, ha, _, _, _, rfl, rfl, SqL.of I1.hah, atI_nat hv, ?_⟩
      have dr : doRow false fs cs b (.call nm k wd) = match nextM c b k with
        | none => b.push none none
        | some (j, m) => doCall false fs c b j m (wd.getD Str.empty) := by
        unfold doRow
        simp only [hc]
        all_goals (cases nextM c b k <;> rfl)
      have nx : nextM c b k = match b.hand[k] with
        | none => none
        | some j => match (b.ob j).mode with
          | none => none
          | some m => match c.moves.getD m (-1) with
            | .ofNat n => some (j, n)
            | .negSucc _ => none := by
        unfold nextM
        rw [List.getD_eq_getElem?_getD, hh]
        rfl
      have mk' : ∀ j, b.hand[k] = some j → ∃ x m0, os[j]? = some x ∧ j < b.obs.length ∧ handV os (some j) = .ref x.1 ∧ (b.ob j).mode = some m0 ∧ m0 < c.moves.length ∧ (∀ {H2 : Hp}, Same H1 H2 → H2 x.1 = some (lRep (some m0) x.2.1 0)) := fun j hj => by
        have mk := wf.mkr k r' j hr' (hj ▸ hh)
        rw [hl'] at mk
        obtain ⟨m0, hm0⟩ := Option.isSome_iff_exists.mp mk
        have hj2 := wf.hand k j (hj ▸ hh)
        obtain ⟨x, hx, hx1, hx2, hx3⟩ := I1.x hj2
        rw [hm0] at hx1
        exact ⟨x, m0, hx, hj2, hx3, hm0, by rw [cok.len]; exact w0.mode _ (ob_mem hj2) m0 hm0, fun e => e _ _ hx1⟩
      -- refused
      refine ⟨fun t H3 => t = (nextM c b k).isNone ∧ H3 = H1, ⟨_, rfl, rfl, _, rfl, ?_⟩, ?_⟩
      · generalize b.hand[k] = r0 at hh hv nx mk'
        cases r0 with
        | none =>
          refine iteT ⟨?_, rfl⟩
          rw [nx]
          rfl
        | some j =>
          obtain ⟨x, m0, hx, hj2, hx3, hm0, ml, hx1⟩ := mk' j rfl
          rw [hx3]
          have mv : c.moves[m0]? = some c.moves[m0] := List.getElem?_eq_getElem ml
          have mvv : (c.moves.map V.int)[m0]? = some (.int c.moves[m0]) := by rw [List.getElem?_map, mv]; rfl
          have nx : nextM c b k = match c.moves.getD m0 (-1) with
            | .ofNat n => some (j, n)
            | .negSucc _ => none := by rw [nx]; simp only [hm0]
          rw [List.getD_eq_getElem?_getD, mv] at nx
          have lo := cok.move _ (List.getElem_mem ml)
          refine iteF ⟨_, rfl, _, rfl, x.1, _, 1, .int (m0 : Nat), rfl, rfl, SqL.of (hx1 (Same.refl _)), rfl, ma', _, _, _, rfl, rfl, SqL.of (f1.trans hr_same _ _ c2), atI_nat mvv, _, rfl, rfl, _, rfl, ?_, rfl⟩
          rw [nx]
          generalize c.moves[m0] = z at lo
          cases z with
          | ofNat z =>
            refine decide_eq_false fun e => ?_
            have := V.int.inj e
            cases this
          | negSucc z =>
            have : z = 0 := by
              have := lo.1
              omega
            subst this
            exact decide_eq_true rfl
      rintro _ H2 ⟨rfl, rfl⟩
      cases hn : nextM c b k with
      | none =>
        refine iteT2 rfl ?_
        rw [hn] at dr
        have dr : doRow false fs cs b (.call nm k wd) = b.push none none := dr
        rw [dr] at q
        obtain ⟨J2, fr2⟩ := I1.pushH (r := none) nofun
        refine ⟨_, rfl, .inl ⟨rfl, _, SqL.of I1.hah⟩, ha, _, _, rfl, rfl, I1.hah, few rfl, ?_⟩
        exact q _ _ ls os kvs (f1.trans fr2) J2.early ((md.keep (f1.trans fr2)).skip)
      | some jm =>
        obtain ⟨j, m⟩ := jm
        refine iteF2 rfl ?_
        rw [hn] at dr
        have dr : doRow false fs cs b (.call nm k wd) = doCall false fs c b j m (wd.getD Str.empty) := dr
        rw [dr] at q
        clear dr
        obtain ⟨hh', hmj, m0', hm0', hmv⟩ := nextM_some hn
        have hbk : b.hand[k] = some j := by
          rw [hh] at hh'
          exact Option.some.inj hh'
        obtain ⟨x, m0, hx, hj2, hx3, hm0, ml, hx1⟩ := mk' j hbk
        rw [hm0'] at hm0
        cases hm0
        have hmn := move_lt cok hmv
        rw [hbk, hx3]
        have mvv : (c.moves.map V.int)[m0']? = some (.int (m : Nat)) := by
          rw [List.getD_eq_getElem?_getD, List.getElem?_eq_getElem ml] at hmv
          rw [List.getElem?_map, List.getElem?_eq_getElem ml]
          exact congrArg (fun z => some (V.int z)) hmv
        refine ⟨_, rfl, _, rfl, x.1, _, 1, .int (m0' : Nat), rfl, rfl, SqL.of (hx1 (Same.refl _)), rfl, ma', _, _, _, rfl, rfl, SqL.of (f1.trans hr_same _ _ c2), atI_nat mvv, ?_⟩
        have lh1 : LhA (Hr rl H2) hp la ha ea := f1 _ _ lh
        have w1 := pre_w (av := false) (c := c) w0 hj2 hmn
        have pl := pre_lt (av := false) (fs := fs) (c := c) (b := b) (j := j) (m := m) hj2
        have ph := pre_hand (av := false) (fs := fs) (c := c) (b := b) (j := j) (m := m)
        refine ⟨fun v H3 => ∃ (rl1 : Rl) (ls1 : List Addr) (os1 : Os) (x1 : Addr × Addr × Addr), v = .ref x1.1 ∧ Same (Hr rl H) (Hr rl1 H3) ∧ BnI lRep rl1 H3 la ha ea (.dK kvs) ls1 os1 (pre false fs c b j m).1 ∧ os1[(pre false fs c b j m).2]? = some x1 ∧ (c.hand ≠ ("new" : Str) → x1 = x), ⟨_, rfl, rfl, _, rfl, ite2 (fun g => ?_) (fun g => ?_)⟩, ?_⟩
        · have e2 := V.str.inj (of_decide_eq_true g)
          have pe : pre false fs c b j m = (b.newOb (some m) (cp c.same fs (b.ob j).held b.lists), b.obs.length) := by
            unfold pre
            rw [if_neg (by decide), if_pos e2]
          rw [pe]
          refine ⟨_, rfl, _, rfl, _, rfl, _, rfl, _, rfl, ?_⟩
          refine ⟨.ref pa, hp, sa', la, ha, ea, .dK kvs, ls, os, b, rl, fs, n, _, _, _, j, x, c.same, some m, 0, rfl, pF'.keep f1, lh1, I1, hx, .inl (SqL.of (f1 _ _ c5)), w90, Nat.le_refl _, by omega, f3, fun rl3 H3 ls3 y p f3' J => ?_⟩
          exact ⟨rl3, ls3, _, (y, p, 0), rfl, f1.trans f3', J, by rw [← I.ol, List.getElem?_append_right (Nat.le_refl _), Nat.sub_self]; rfl, fun n => absurd e2 n⟩
        · have pe : pre false fs c b j m = (b, j) := by
            unfold pre
            rw [if_neg (by decide), if_neg (fun e => g (by rw [e]; exact decide_eq_true rfl))]
          rw [pe]
          exact ⟨_, rfl, rl, ls, os, x, rfl, f1, I1, hx, fun _ => rfl⟩
        generalize hpr : pre false fs c b j m = pr at w1 pl ph
        obtain ⟨b1, j1⟩ := pr
        rintro v H3 ⟨rl1, ls1, os1, x1, rfl, f3', I3, hx1', hsx⟩
        have pl1 : j1 < b1.obs.length := pl.1
        have md1 : (b1.ob j1).mode.isSome = true := pl.2 hmj
        have w1 : W0 fs n (10 * rs.length + fs.length) (2 * rs.length + 1) (4 * rs.length) b1 := w1
        have ph1 : b1.hand = b.hand := ph.1
        have ph2 : b1.early = b.early := ph.2
        obtain ⟨m1, hm1⟩ := Option.isSome_iff_exists.mp md1
        have y1 := I3.oxh j1 x1 _ hx1' (ob_get pl1)
        rw [hm1] at y1
        have y1 : H3 x1.1 = some (.lst [.str "maker", .int (m1 : Nat), .ref x1.2.1]) := y1
        have deq : doCall false fs c b j m (wd.getD Str.empty) = fin fs c (mid fs c b1 j1 m (wd.getD Str.empty)) j1 := by
          unfold doCall
          rw [hpr]
        rw [deq] at q
        clear deq
        refine ⟨_, rfl, _, rfl, x1.1, _, _, 1, rfl, rfl, y1, ixN_lt (by show 1 < 3; decide), ?_⟩
        obtain ⟨I4, f4⟩ := I3.modX (m := some m) hx1'
        show tSeq _ _ _ _ (upd H3 x1.1 (lRep (some m) x1.2.1 x1.2.2))
        have w2 : W0 fs n (10 * rs.length + fs.length) (2 * rs.length + 1) (4 * rs.length) (b1.setMode j1 m) := w1.set (w1.held (b1.ob j1) (ob_mem pl1)) (fun m' e => by cases e; exact hmn) (w1.hw (b1.ob j1) (ob_mem pl1))
        have f14 := f3'.trans f4
        have I4 : BnI lRep rl1 (upd H3 x1.1 (lRep (some m) x1.2.1 x1.2.2)) la ha ea (.dK kvs) ls1 os1 (b1.setMode j1 m) := I4
        generalize upd H3 x1.1 (lRep (some m) x1.2.1 x1.2.2) = H4 at f14 I4
        have pl2 : j1 < (b1.setMode j1 m).obs.length := by rw [show (b1.setMode j1 m).obs.length = _ from len_setOb]; exact pl1
        have dln : c.deeds.length ≤ 4 := cok.deeds
        have ldd : ds.length = c.deeds.length := c4.1
        have dok := deeds_ok (wd := wd.getD Str.empty) w2 pl2 ok.fields.nd cok.deed (row_word tk wok)
        refine ⟨_, rfl, da', rfl, ⟨ds, SqL.of (f14.trans hr_same _ _ c3)⟩, for_it (walk_list (K := K) (a := da') (xs := ds)) (fun i σ Hi => ∃ (rli : Rl) (lsi : List Addr) (z0 z1 z2 : Option V), σ = [some (.ref pa), some (.ref hp), some (.ref ra), some (.ref ha), z0, some (.str c.nm), some (.str c.hand), some (.ref ma'), some (.ref da'), some (.ref sa'), some (.ref x.1), some (.int (m : Nat)), some (.ref x1.1), z1, z2] ∧ Same (Hr rl H) (Hr rli Hi) ∧ BnI lRep rli Hi la ha ea (.dK kvs) lsi os1 ((c.deeds.take i).foldl (deStep fs (wd.getD Str.empty) j1) (b1.setMode j1 m)))
          ⟨rl1, ls1, _, _, _, rfl, f14, I4⟩ (fun i σ Hi _ h => ?_) ?_ ?_⟩
        · obtain ⟨rli, _, _, _, _, _, fi, _⟩ := h
          exact SqL.of (fi.trans hr_same _ _ c3)
        · rintro i v σ Hi H5 hi ⟨rli, lsi, z0, z1, z2, rfl, fi, Ii⟩ ⟨rfl, hv'⟩
          obtain ⟨d, hd, ⟨ta, rfl, hta⟩⟩ := c4.get hv'
          have hil : i < c.deeds.length := (List.getElem?_eq_some_iff.mp hd).1
          obtain ⟨wi, oi⟩ := dok i (by omega)
          have stp : (c.deeds.take (i + 1)).foldl (deStep fs (wd.getD Str.empty) j1) (b1.setMode j1 m) = deStep fs (wd.getD Str.empty) j1 ((c.deeds.take i).foldl (deStep fs (wd.getD Str.empty) j1) (b1.setMode j1 m)) d := fold_take _ _ hd
          have hra5 : SqT K H5 ra (RwV (.call nm k wd)) := same_t (fi.trans hr_same) hra
          have dmem := List.mem_of_getElem? hd
          refine ⟨ta, _, rfl, same_t (fi.trans hr_same) hta, rfl, _, _, rfl, _, _, rfl, rfl, ?_⟩
          refine ⟨_, rfl, _, rfl, _, rfl, _, rfl, _, rfl, fun v H6 => v = (match wd with | none => .non | some z => .str z) ∧ H6 = H5, ⟨_, rfl, ra, _, rfl, .inr hra5, rfl, _, rfl, ?_⟩, ?_⟩
          · cases wd with
            | none => exact iteF2 rfl ⟨rfl, rfl⟩
            | some z => exact iteT2 rfl ⟨_, rfl, ra, _, 2, _, rfl, rfl, hra5, rfl, rfl, rfl⟩
          rintro _ _ ⟨rfl, rfl⟩
          refine ⟨.ref pa, hp, la, ha, ea, .dK kvs, lsi, os1, _, rli, fs, n, _, _, _, j1, x1, d, wd.getD Str.empty, _, rfl, pF'.keep fi, fi _ _ lh, Ii, hx1', wi, by omega, by omega, ok.fields, cok.deed d dmem, fun hd => ?_, fun rl6 H6 ls6 f6 J6 => ?_⟩
          · have := takes_w dmem hd
            rw [this] at tk
            cases wd with
            | none => cases tk
            | some z => rfl
          · rw [← stp] at J6
            exact ⟨rl6, ls6, _, _, _, rfl, fi.trans f6, J6⟩
        · rintro σ H5 ⟨rl5, ls5, z0, z1, z2, rfl, f5, I5⟩
          rw [ldd, List.take_length] at I5
          have I5 : BnI lRep rl5 H5 la ha ea (.dK kvs) ls5 os1 (mid fs c b1 j1 m (wd.getD Str.empty)) := I5
          obtain ⟨w3, ol3⟩ := mid_w (c := c) (wd := wd.getD Str.empty) w1 pl1 hmn ok.fields.nd cok.deed (row_word tk wok)
          have mh := mid_hand (fs := fs) (c := c) (b := b1) (j := j1) (m := m) (wd := wd.getD Str.empty)
          rw [ph1, ph2] at mh
          generalize mid fs c b1 j1 m (wd.getD Str.empty) = b3 at q I5 w3 ol3 mh
          have hj3 : j1 < b3.obs.length := by rw [ol3]; exact pl1
          have md5 := md.keep f5
          have el3 : b3.early = b.early := mh.2
          have hd3 : b3.hand = b.hand := mh.1
          refine ⟨fun σ' H' => ∃ (rl6 : Rl) (ls6 : List Addr) (os6 : Os) (kv6 : List (Key × V)) (j6 : Nat) (x6 : Addr × Addr × Addr) (b6 : Bn) (e6 : Option (List Ct)), σ' = [some (.ref pa), some (.ref hp), some (.ref ra), some (.ref ha), z0, some (.str c.nm), some (.str c.hand), some (.ref ma'), some (.ref da'), some (.ref sa'), some (.ref x.1), some (.int (m : Nat)), some (.ref x6.1), z1, z2] ∧ Same (Hr rl H) (Hr rl6 H') ∧ BnI lRep rl6 H' la ha ea (.dK kv6) ls6 os6 b6 ∧ os6[j6]? = some x6 ∧ j6 < b6.obs.length ∧ fin fs c b3 j1 = b6.push (some j6) e6 ∧ b6.hand = b.hand ∧ MdI (Hr rl6 H') kv6 (fin fs c b3 j1).early, ⟨_, rfl, rfl, _, rfl, ite2 (fun g => ?_) (fun g => ?_)⟩, ?_⟩
          · have eh := V.str.inj (of_decide_eq_true g)
            have lh5 : LhA (Hr rl5 H5) hp la ha ea := f5 _ _ lh
            have ex := hsx (by rw [eh]; decide)
            subst ex
            refine ⟨_, rfl, _, rfl, _, rfl, _, rfl, ?_⟩
            refine ⟨.ref pa, hp, sa', la, ha, ea, .dK kvs, ls5, os1, b3, rl5, fs, n, _, _, _, j1, x1, c.same, none, 0, rfl, pF'.keep f5, lh5, I5, hx1', .inl (SqL.of (f5 _ _ c5)), w3, by omega, by omega, f3, fun rl6 H6 ls6 y p f6 J6 => ?_⟩
            have fe : fin fs c b3 j1 = (b3.newOb none (cp c.same fs (b3.ob j1).held b3.lists)).push (some b3.obs.length) (some (((b3.newOb none (cp c.same fs (b3.ob j1).held b3.lists)).ob b3.obs.length).held.map (ctOf (b3.newOb none (cp c.same fs (b3.ob j1).held b3.lists)).lists))) := by
              unfold fin
              rw [if_pos eh]
            have w4 : W0 fs n _ _ _ (b3.newOb none (cp c.same fs (b3.ob j1).held b3.lists)) := w3.new (cp_ok (w3.held _ (ob_mem hj3)) (w3.hw _ (ob_mem hj3)) w3.wl w3.ws) nofun
            have td : toldOf (b3.newOb none (cp c.same fs (b3.ob j1).held b3.lists)) (some b3.obs.length) = some (none, ((b3.newOb none (cp c.same fs (b3.ob j1).held b3.lists)).ob b3.obs.length).held.map (ctOf (b3.newOb none (cp c.same fs (b3.ob j1).held b3.lists)).lists)) := by
              show some (((b3.newOb none (cp c.same fs (b3.ob j1).held b3.lists)).ob b3.obs.length).mode, _) = _
              rw [show ((b3.newOb none (cp c.same fs (b3.ob j1).held b3.lists)).ob b3.obs.length).mode = none by rw [ob_new]]
            have h4 : (b3.newOb none (cp c.same fs (b3.ob j1).held b3.lists)).hand = b.hand := hd3
            have h4e : (b3.newOb none (cp c.same fs (b3.ob j1).held b3.lists)).early = b.early := el3
            have l4 : b3.obs.length < (b3.newOb none (cp c.same fs (b3.ob j1).held b3.lists)).obs.length := by
              rw [len_new]
              exact Nat.lt_succ_self _
            have hv4 : handV (os1 ++ [(y, p, 0)]) (some b3.obs.length) = .ref y := by rw [← I5.ol, handV_last]
            have ho4 : (os1 ++ [(y, p, 0)])[b3.obs.length]? = some (y, p, 0) := by
              rw [← I5.ol, List.getElem?_append_right (Nat.le_refl _), Nat.sub_self]
              rfl
            rw [fe]
            generalize b3.newOb none (cp c.same fs (b3.ob j1).held b3.lists) = b4 at J6 w4 td h4 h4e l4 ⊢
            have f56 := f5.trans f6
            have lh6 : LhA (Hr rl6 H6) hp la ha ea := f56 _ _ lh
            refine ⟨_, rfl, _, rfl, _, rfl, ?_⟩
            refine ⟨.ref pa, hp, la, ha, ea, .dK kvs, ls6, os1 ++ [(y, p, 0)], b4, rl6, fs, n, _, _, _, some b3.obs.length, by rw [hv4]; rfl, pF'.keep f56, lh6, J6, fun j e => by cases e; exact l4, w4, by omega, f3, fun H7 v L e7 tw frs => ?_⟩
            rw [td] at tw
            obtain ⟨tp, pp, rfl, ht7, cw⟩ := tw
            have J7 := J6.keep e7
            have f57 : Same (Hr rl H) (Hr rl6 H7) := f56.trans (hr_keep e7)
            have cw7 := cw.hr (rl := rl6) (fun a ha => J6.fresh (frs a ha))
            have lh7 : LhA (Hr rl6 H7) hp la ha ea := f57 _ _ lh
            have nl : (b4.hand.map (handV (os1 ++ [(y, p, 0)]))).length = b.early.length := by
              rw [List.length_map, h4, hl, hel]
            refine ⟨tp, _, 1, .ref pp, rfl, rfl, SqT.of ht7, rfl, ?_⟩
            refine ⟨_, rfl, hp, .ref ea, rfl, lh_made lh7, _, rfl, ha, _, rfl, .inl (SqL.of J7.hah), ?_⟩
            refine ⟨ea, _, rfl, DPut.k (k := .inl (((b4.hand.map (handV (os1 ++ [(y, p, 0)]))).length : Nat) : Int)) J7.eah (by have := md.len; rw [hel] at this; rw [sizeLine_eq]; omega), ?_⟩
            rw [nl]
            obtain ⟨J8, f8⟩ := J7.setE (eo' := .dK (putK kvs (.inl (b.early.length : Int)) (.ref pp))) (e' := b4.early)
            refine ⟨rl6, ls6, _, _, b3.obs.length, (y, p, 0), b4, _, rfl, f57.trans f8, J8.early (e := b4.early), ho4, l4, rfl, h4, ?_⟩
            have e4 : (b4.push (some b3.obs.length) (some ((b4.ob b3.obs.length).held.map (ctOf b4.lists)))).early = b.early ++ [some ((b4.ob b3.obs.length).held.map (ctOf b4.lists))] := by
              show b4.early ++ _ = _
              rw [h4e]
            rw [e4]
            exact ((md.keep f57).put cw7).keep f8
          · have eh : c.hand ≠ ("last" : Str) := fun e => g (by rw [e]; exact decide_eq_true rfl)
            have fe : fin fs c b3 j1 = b3.push (some j1) none := by
              unfold fin
              rw [if_neg eh]
            rw [fe]
            refine ⟨rl5, ls5, os1, kvs, j1, x1, b3, none, rfl, f5, I5, hx1', hj3, rfl, hd3, ?_⟩
            show MdI _ kvs (b3.early ++ [none])
            rw [el3]
            exact md5.skip
          · rintro σ6 H6 ⟨rl6, ls6, os6, kv6, j6, x6, b6, e6, rfl, f6, I6, hx6, hj6, fe, hd6, md6⟩
            obtain ⟨J2, fr2⟩ := I6.pushH (r := some j6) (fun j e => by cases e; exact at_lt hx6)
            have hv6 : handV os6 (some j6) = .ref x6.1 := by
              show V.ref (os6.getD j6 (0, 0, 0)).1 = _
              rw [List.getD_eq_getElem?_getD, hx6]
              rfl
            rw [hv6] at J2 fr2
            refine ⟨_, rfl, .inl ⟨rfl, _, SqL.of I6.hah⟩, _, rfl, ha, _, _, rfl, rfl, I6.hah, few hd6, ?_⟩
            refine q _ _ ls6 os6 kv6 (f6.trans fr2) ?_ (md6.keep fr2)
            rw [fe]
            exact J2.early
end
end MK
set_option Elab.async false
set_option linter.all false
set_option autoImplicit false
set_option maxRecDepth 100000
set_option maxHeartbeats 4000000
namespace MK
open PySem PySem.Spec PyProof.Rows L2
open C8 (Met pe_mt pe_mt0 Mak pe_mk)
local macro_rules | `(tactic| walk_at "x") => `(tactic| dsimp only [tSeq, tAsg, tRet, tDrop, tLst, tTup, tCons, tOp, tUn, tIfS])
abbrev s_begin : Stmt := topS 79
theorem sc_begin : FnScope ["_law_p"] ["_law_p"] (defScope s_begin) := ⟨rfl, rfl, rfl, by decide +kernel, rfl, by decide +kernel, by decide +kernel⟩
theorem bn0_okE {rep : Rep} {H : Hp} {la ha ea : Addr} {eo : HO} (h1 : H la = some (.lst [])) (h2 : H ha = some (.lst [])) (h3 : H ea = some eo) (n1 : la ≠ ha) (n2 : la ≠ ea) (n3 : ha ≠ ea) :
    BnI rep (((Rl.put (fun _ => none) la .la).put ha .ha).put ea .ea) H la ha ea eo [] [] bn0 where
  live := fun a n => by
    by_cases e1 : a = ea
    · rw [e1, h3]; exact nofun
    by_cases e2 : a = ha
    · rw [e2, h2]; exact nofun
    by_cases e3 : a = la
    · rw [e3, h1]; exact nofun
    · exact absurd ((put_ne e1).trans ((put_ne e2).trans (put_ne e3))) n
  lar := (put_ne n2).trans ((put_ne n1).trans put_at)
  har := (put_ne n3).trans put_at
  ear := put_at
  lah := h1
  hah := h2
  eah := h3
  ll := rfl
  lsr := fun i a h => by simp at h
  lsh := fun i a ws h => by simp at h
  ol := rfl
  oxr := fun j x h => by simp at h
  osr := fun j x h => by simp at h
  oxh := fun j x o h => by simp at h
  osh := fun j x o h => by simp at h
  hj := fun j h => by simp [bn0] at h
def spLBegin : Sp := fun vs H Q _ => ∃ (pv : V), vs = [pv] ∧ ∀ rl' H' hp la ha ea, Same H (Hr rl' H') → LhA (Hr rl' H') hp la ha ea → BnI lRep rl' H' la ha ea (.dK []) [] [] bn0 → Q (.ref hp) H'
section
variable {P : Program} {w : World} {K : PySem.W.Frag} {mg : Str → Option Value} {base : Heap}
theorem ok_lbegin {f : Addr} {fd : FuncData} (F : DefX K mg "_law_begin" s_begin ["_law_p"] f fd) (T : Txt K mg) : Cal P w K mg base CX0 1 "_law_begin" spLBegin := by
  refine cal_mk F sc_begin (fun vs H Q E h => ?_) (fun cdv A outer sh H vs Q E hr h => ?_)
  · obtain ⟨pv, rfl, _⟩ := h
    rfl
  · obtain ⟨pv, rfl, q⟩ := h
    refine ⟨_, (pss_one (ps_ret (pe_disp (pps_cons pe_str (pe_lst pa_nil) (pps_cons pe_str (pe_lst pa_nil) (pps_cons pe_str pe_dnewK pps_nil))) (by rfl) (by rfl) (fun z => by cases z) (by decide)))), ?_⟩
    intro D hD
    refine ⟨by show 0 ≤ sizeLine; decide, fun la hla => ⟨by show 0 ≤ sizeLine; decide, fun ha hha ea hea => ?_⟩⟩
    have nl : la ≠ D := fun e => by rw [e, upd_same] at hla; cases hla
    have hla0 : H la = none := by rwa [upd_ne nl] at hla
    have nhl : ha ≠ la := fun e => by rw [e, upd_same] at hha; cases hha
    have nhD : ha ≠ D := fun e => by rw [e, upd_ne (Ne.symm nl), upd_same] at hha; cases hha
    have hha0 : H ha = none := by rwa [upd_ne nhl, upd_ne nhD] at hha
    have neh : ea ≠ ha := fun e => by rw [e, upd_same] at hea; cases hea
    have nel : ea ≠ la := fun e => by rw [e, upd_ne (Ne.symm nhl), upd_same] at hea; cases hea
    have neD : ea ≠ D := fun e => by rw [e, upd_ne (Ne.symm nhD), upd_ne (Ne.symm nl), upd_same] at hea; cases hea
    have hea0 : H ea = none := by rwa [upd_ne neh, upd_ne nel, upd_ne neD] at hea
    refine ⟨by rw [upd_ne (Ne.symm neD), upd_ne (Ne.symm nhD), upd_ne (Ne.symm nl), upd_same], [((.inr "lists" : Key), V.ref la), (.inr "things", .ref ha), (.inr "made", .ref ea)], rfl, by show 3 ≤ 15; decide, ?_⟩
    have mk : mergeK [] [((.inr "lists" : Key), V.ref la), (.inr "things", .ref ha), (.inr "made", .ref ea)] = [((.inr "lists" : Key), V.ref la), (.inr "things", .ref ha), (.inr "made", .ref ea)] := by rfl
    rw [mk]
    have I := bn0_okE (rep := lRep) (H := upd (upd (upd (upd (upd H D (.dK [])) la (.lst [])) ha (.lst [])) ea (.dK [])) D (.dK [((.inr "lists" : Key), V.ref la), (.inr "things", .ref ha), (.inr "made", .ref ea)])) (la := la) (ha := ha) (ea := ea) (eo := .dK [])
      (by rw [upd_ne nl, upd_ne (Ne.symm nel), upd_ne (Ne.symm nhl), upd_same]) (by rw [upd_ne nhD, upd_ne (Ne.symm neh), upd_same]) (by rw [upd_ne neD, upd_same]) (Ne.symm nhl) (Ne.symm nel) (Ne.symm neh)
    refine q _ _ D la ha ea (fun c o hc => ?_) ?_ I
    · have c1 : c ≠ la := fun e => by rw [e, hla0] at hc; cases hc
      have c2 : c ≠ ha := fun e => by rw [e, hha0] at hc; cases hc
      have c3 : c ≠ ea := fun e => by rw [e, hea0] at hc; cases hc
      have c4 : c ≠ D := fun e => by rw [e, hD] at hc; cases hc
      refine hr_get ?_ ((put_ne c3).trans ((put_ne c2).trans (put_ne c1)))
      rw [upd_ne c4, upd_ne c3, upd_ne c2, upd_ne c1, upd_ne c4]
      exact hc
    · exact hr_get upd_same ((put_ne (Ne.symm neD)).trans ((put_ne (Ne.symm nhD)).trans (put_ne (Ne.symm nl))))
end
end MK
set_option Elab.async false
set_option linter.all false
set_option autoImplicit false
set_option maxRecDepth 100000
set_option maxHeartbeats 4000000
namespace MK
open PySem PySem.Spec PyProof.Rows L2
open C8 (Met pe_mt pe_mt0 Mak pe_mk)
local macro_rules | `(tactic| walk_at "x") => `(tactic| dsimp only [tSeq, tAsg, tRet, tDrop, tLst, tTup, tCons, tOp, tUn, tIfS])
abbrev s_ran : Stmt := topS 85
theorem sc_ran : FnScope ["_law_p", "_law_rows", "_law_heap", "_law_row"] ["_law_p", "_law_rows"] (defScope s_ran) := ⟨rfl, rfl, rfl, by decide +kernel, rfl, by decide +kernel, by decide +kernel⟩
abbrev s_all_told : Stmt := topS 86
theorem sc_all_told : FnScope ["_law_p", "_law_heap", "_law_x"] ["_law_p", "_law_heap"] (defScope s_all_told) := ⟨rfl, rfl, rfl, by decide +kernel, rfl, by decide +kernel, by decide +kernel⟩
def spLRan (K : PySem.W.Frag) : Sp := fun vs H Q _ => ∃ (pq : V) (ra : Addr) (rvs : List V) (fs : List FD) (n : Nat) (cs : List CD) (rs : List Rw), vs = [pq, .ref ra] ∧ LpF K H pq fs ∧ LpC K H pq cs ∧ KdOk fs n cs ∧ H ra = some (.lst rvs) ∧ Al (RowT K H) rvs rs ∧ RwsOk cs rs ∧ rs.length ≤ 200 ∧
  ∀ rl' H' hp la ha ea kvs ls os, Same H (Hr rl' H') → LhA (Hr rl' H') hp la ha ea → BnI lRep rl' H' la ha ea (.dK kvs) ls os (doRows false fs cs rs) → MdI (Hr rl' H') kvs (doRows false fs cs rs).early → Q (.ref hp) H'
theorem mdi0 {B : Hp} : MdI B [] [] := ⟨fun k cts h => (by simp at h), fun q v h => (by cases h), Nat.le_refl _, fun q v h => (by cases h)⟩
def spLAll (K : PySem.W.Frag) : Sp := fun vs H Q _ => ∃ (pq : V) (hp la ha ea : Addr) (eo : HO) (ls : List Addr) (os : Os) (b : Bn) (rl : Rl) (fs : List FD) (n A B C : Nat), vs = [pq, .ref hp] ∧ LpF K (Hr rl H) pq fs ∧ LhA (Hr rl H) hp la ha ea ∧ BnI lRep rl H la ha ea eo ls os b ∧
  W0 fs n A B C b ∧ C ≤ 1000 ∧ fs.length ≤ 3 ∧ b.hand.length ≤ 1000 ∧
  ∀ H' D xs L, Same H H' → H' D = some (.lst xs) → AlL (ToW H') xs (b.hand.map (toldOf b)) L → (∀ a ∈ D :: L, H a = none) → (D :: L).Nodup → Q (.ref D) H'
section
variable {P : Program} {w : World} {K : PySem.W.Frag} {mg : Str → Option Value} {base : Heap}
theorem ok_lran {f : Addr} {fd : FuncData} (F : DefX K mg "_law_ran" s_ran ["_law_p", "_law_rows"] f fd) (T : Txt K mg) (c_begin : Cal P w K mg base CX0 1 "_law_begin" spLBegin) (c_done : Cal P w K mg base CX0 3 "_law_done" (spLDone K)) : Cal P w K mg base CX0 4 "_law_ran" (spLRan K) := by
  refine cal_mk F sc_ran (fun vs H Q E h => ?_) (fun cdv A outer sh H vs Q E hr h => ?_)
  · obtain ⟨pq, ra, _, _, _, _, _, rfl, _⟩ := h
    rfl
  · obtain ⟨pq, ra, rvs, fs, n, cs, rs, rfl, pF, pC, ok, hra, al, rok, lr, q⟩ := h
    refine ⟨_, (pss_cons (ps_set (i := 2) sc_ran.nd rfl (Or.inl rfl) (pe_c c_begin hr (by first | decide | assumption) rfl (pa_cons (pv 0) pa_nil)))
(pss_cons (ps_for PassesOwn.never rfl (pi_list (pv 1)) (pg_name (i := 3) sc_ran.nd rfl (Or.inl rfl))
(pss_one (ps_expr (pe_c c_done hr (by first | decide | assumption) rfl (pa_cons (pv 0) (pa_cons (pv 2) (pa_cons (pv 3) pa_nil)))))))
(pss_one (ps_ret (pv 2))))), ?_⟩
    refine ⟨_, rfl, ⟨pq, rfl, fun rl0 H0 hp la ha ea f0 lh0 I0 => ?_⟩⟩
    have lrv : rvs.length = rs.length := al.1
    refine ⟨_, rfl, ra, rfl, ⟨rvs, SqL.of (f0.trans hr_same _ _ hra)⟩, for_it (walk_list (K := K) (a := ra) (xs := rvs)) (fun i σ Hi => ∃ (rli : Rl) (ls : List Addr) (os : Os) (kvs : List (Key × V)) (x3 : Option V), σ = [some pq, some (.ref ra), some (.ref hp), x3] ∧ Same (Hr rl0 H0) (Hr rli Hi) ∧ BnI lRep rli Hi la ha ea (.dK kvs) ls os (doRows false fs cs (rs.take i)) ∧ MdI (Hr rli Hi) kvs (doRows false fs cs (rs.take i)).early)
      ⟨rl0, [], [], [], _, rfl, Same.refl _, I0, mdi0⟩ (fun i σ Hi _ h => ?_) ?_ ?_⟩
    · obtain ⟨rli, _, _, _, _, _, fi, _⟩ := h
      exact SqL.of ((f0.trans (fi.trans hr_same)) _ _ hra)
    · rintro i x σ H7 H6 hi ⟨rli, ls, os, kvs, x3, rfl, fi, Ii, mi⟩ ⟨rfl, hx⟩
      obtain ⟨r, hr', ⟨a, rfl, hrt⟩⟩ := al.get hx
      have hil : i ≤ rs.length := by
        have := (List.getElem?_eq_some_iff.mp hr').1
        omega
      have wf := Wf.rows (av := false) ok rok i hil
      have stp : doRows false fs cs (rs.take (i + 1)) = doRow false fs cs (doRows false fs cs (rs.take i)) r := fold_take (doRow false fs cs) bn0 hr'
      refine ⟨_, rfl, _, rfl, _, rfl, ?_⟩
      refine ⟨pq, hp, a, la, ha, ea, kvs, ls, os, _, rli, fs, n, cs, rs.take i, r, rfl, pF.keep (f0.trans fi), pC.keep (f0.trans fi), fi _ _ lh0, Ii, mi, ok, same_t (f0.trans fi) hrt, wf, rok i r hr', by rw [List.length_take]; omega, fun rl' H' ls' os' kvs' f' J' mi' => ?_⟩
      rw [← stp] at J' mi'
      exact ⟨rl', ls', os', kvs', _, rfl, fi.trans f', J', mi'⟩
    · rintro σ Hi ⟨rli, ls, os, kvs, x3, rfl, fi, Ii, mi⟩
      rw [lrv, List.take_length] at Ii mi
      exact ⟨_, rfl, q rli Hi hp la ha ea kvs ls os (f0.trans fi) (fi _ _ lh0) Ii mi⟩
theorem ok_lall {f : Addr} {fd : FuncData} (F : DefX K mg "_law_all_told" s_all_told ["_law_p", "_law_heap"] f fd) (T : Txt K mg) (c_told : Cal P w K mg base CX0 1 "_law_told" (spLTold K)) : Cal P w K mg base CX0 2 "_law_all_told" (spLAll K) := by
  refine cal_mk F sc_all_told (fun vs H Q E h => ?_) (fun cdv A outer sh H vs Q E hr h => ?_)
  · obtain ⟨pq, hp, _, _, _, _, _, _, _, _, _, _, _, _, _, rfl, _⟩ := h
    rfl
  · obtain ⟨pq, hp, la, ha, ea, eo, ls, os, b, rl, fs, n, A0, B0, C0, rfl, pF, lh, I, w0, lC, f3, hl, q⟩ := h
    refine ⟨_, (pss_one (ps_ret (pe_lc (own := [("_law_x", 2)]) (g := (gName 2)) (tt := tYes) rfl sc_all_told.nd (pi_list (pe_dget (hu_of hr) (pv 1) pe_str (fun _ _ => rfl))) (blkOk_by (own := [("_law_x", 2)]) (N := ["_law_p", "_law_heap", "_law_x"]) (sc := defScope s_all_told) (by decide +kernel)) (fun _ _ _ _ _ => (pg_name (i := 2) sc_all_told.nd rfl (Or.inl rfl))) (fun _ _ _ _ _ => pts_nil) (fun _ _ _ _ _ => (pe_c c_told hr (by first | decide | assumption) rfl (pa_cons (pv 0) (pa_cons (pv 1) (pa_cons (pv 2) pa_nil)))))))), ?_⟩
    refine ⟨_, rfl, hp, .ref ha, rfl, lh_things lh, ha, rfl, ⟨_, SqL.of I.hah⟩, fun D hD => ?_⟩
    refine lc_it (walk_list (K := K) (a := ha) (xs := b.hand.map (handV os))) (fun i Hi => Same H Hi ∧ ∃ xs L, Hi D = some (.lst xs) ∧ AlL (ToW (Off D Hi)) xs ((b.hand.take i).map (toldOf b)) L ∧ (∀ a ∈ D :: L, H a = none) ∧ (D :: L).Nodup ∧ ∀ a ∈ L, Hi a ≠ none)
      ⟨same_new (Same.refl H) hD, [], [], upd_same, rfl, fun a ha => by rw [List.mem_singleton.mp ha]; exact hD, by simp, nofun⟩ (fun i Hi _ h => SqL.of (h.1 _ _ I.hah)) ?_ ?_
    · rintro i v H2 H3 hi ⟨e2, xs, L, d2, al, fr, nd, lv⟩ ⟨rfl, hv⟩
      rw [List.getElem?_map] at hv
      obtain ⟨r, hr', rfl⟩ := Option.map_eq_some_iff.mp hv
      have tk : (b.hand.take (i + 1)).map (toldOf b) = (b.hand.take i).map (toldOf b) ++ [toldOf b r] := by
        rw [List.take_add_one, hr', List.map_append]
        rfl
      have f2 : Same (Hr rl H) (Hr rl H3) := hr_keep e2
      have hil : i < b.hand.length := (List.getElem?_eq_some_iff.mp hr').1
      have clen : xs.length = i := by
        rw [al.len, List.length_map, List.length_take]
        omega
      refine ⟨rfl, _, rfl, _, rfl, _, rfl, ?_⟩
      refine ⟨pq, hp, la, ha, ea, eo, ls, os, b, rl, fs, n, _, _, _, r, rfl, pF.keep f2, f2 _ _ lh, I.keep e2, fun j e => by rw [← I.ol]; exact I.hj j (e ▸ List.mem_of_getElem? hr'), w0, lC, f3, fun H4 y M e4 tw fm => ?_⟩
      have d4 := e4 _ _ d2
      have l4 : ∀ a ∈ L, H4 a ≠ none := fun a ha => by
        cases z : H3 a with
        | none => exact absurd z (lv a ha)
        | some o => rw [e4 _ _ z]; exact nofun
      have live : ∀ {a : Addr}, H4 a ≠ none → upd H4 D (.lst (xs ++ [y])) a ≠ none := fun {a} h => by
        by_cases z : a = D
        · rw [z, upd_same]
          exact nofun
        · rw [upd_ne z]
          exact h
      have nM := tw.nd
      have dM : ∀ a ∈ M, a ≠ D := fun a ha e => by
        have := fm a ha
        rw [e, d2] at this
        cases this
      refine ⟨xs, d4, by rw [clen, sizeLine_eq]; omega, fun c o hc => ?_, xs ++ [y], L ++ M, upd_same, ?_, ?_, ?_, ?_⟩
      · rw [upd_ne (ne_of_none hc hD)]
        exact e4 _ _ (e2 _ _ hc)
      · rw [tk, off_put]
        exact (al.mono fun _ _ _ h => ToW.keep (same_off (s := D) e4) h).snoc (ToW.off d4 tw dM)
      · intro a ha
        rcases List.mem_cons.mp ha with rfl | ha
        · exact hD
        rcases List.mem_append.mp ha with ha | ha
        · exact fr a (List.mem_cons_of_mem _ ha)
        · exact none_of e2 (fm a ha)
      · rw [← List.cons_append, List.nodup_append]
        refine ⟨nd, nM.1, fun a ha c hc e => ?_⟩
        subst e
        have z := fm a hc
        rcases List.mem_cons.mp ha with rfl | ha
        · rw [d2] at z
          cases z
        · exact lv a ha z
      · intro a ha
        rcases List.mem_append.mp ha with ha | ha
        · exact live (l4 a ha)
        · exact live (nM.2 a ha)
    · rintro H2 ⟨e2, xs, L, d2, al, fr, nd, lv⟩
      rw [List.length_map, List.take_length] at al
      exact q H2 D xs L e2 d2 (al.mono fun _ _ _ h => ToW.keep off_same h) fr nd
end
end MK
set_option Elab.async false
set_option linter.all false
set_option autoImplicit false
set_option maxRecDepth 100000
set_option maxHeartbeats 4000000
namespace MK
open PySem PySem.Spec PyProof.Rows L2
local macro_rules | `(tactic| walk_at "x") => `(tactic| dsimp only [tSeq, tAsg, tRet, tDrop, tLst, tTup, tCons, tOp, tUn, tIfS])
abbrev s_Kind_eq : Stmt := inClass (topS 62) 1
theorem sc_Kind_eq : FnScope ["self", "other"] ["self", "other"] (defScope s_Kind_eq) := ⟨rfl, rfl, rfl, by decide +kernel, rfl, by decide +kernel, by decide +kernel⟩
structure KIns (K : PySem.W.Frag) (KC : Addr) : Prop where
  ha : PySem.W.findIn K (.ref KC) "__class__" = some (some (.builtin "object.__class__"))
  hn : PySem.W.specialIn K (.builtin "object.__class__") "__get__" = some (some (.builtin "getset_descriptor.__get__"))
  htk : PySem.W.takesIn K (.builtin "object.__class__") = some true
  hm : PySem.W.mroIn K KC (.type "object") = some true
def spKEq (K : PySem.W.Frag) (KC : Addr) : Sp := fun vs H Q _ => ∃ (v w : V) (fs gs : List FD) (n m : Nat) (cs ds : List CD), vs = [v, w] ∧ KdA K KC H v fs n cs ∧ KdA K KC H w gs m ds ∧ KdOk fs n cs ∧ KdOk gs m ds ∧ Q (.bl (decide (fs = gs ∧ n = m ∧ cs = ds))) H
section
variable {P : Program} {w : World} {K : PySem.W.Frag} {mg : Str → Option Value} {base : Heap} {C : Cst} {KC : Addr}
theorem run_keq (T : Txt K mg) (Z : KCls K KC) (Y : KIns K KC) (gK : mg "Kind" = some (.ref KC)) {f : Addr} {cdv : Value} {A : Around} {outer : List Env} {sh : Shared} {H : Hp} {vs : List V} {Q : VK} {E : XK} (hr : Room 0 (A.deeper (envOfC "Kind.__eq__" (defScope s_Kind_eq) sh.heap.objs.size f cdv))) (h : spKEq K KC vs H Q E) :
    ∃ t, PSs (cxOf CX0 P w K mg base ["self", "other"] "Kind.__eq__" (defScope s_Kind_eq) f cdv A outer sh H E).nox (defBody s_Kind_eq) t ∧ t { nx := fun _ H' => Q .non H', rt := Q } (start ["self", "other"] vs) H := by
  obtain ⟨v, w', fs, gs, n, m, cs, ds, rfl, ⟨a, dx, so, sp, tb, t, st, tv, sv, rfl, h1, h2, h3, h4, h5, h6, h7, h8⟩, ⟨b, dy, so', sp', tb', t', st', tv', sv', rfl, g1, g2, g3, g4, g5, g6, g7, g8⟩, ok1, ok2, q⟩ := h
  refine ⟨_, (pss_one (ps_ret (pe_cut (pe_and (pe_callB call_isi (by rfl) T.isinstance (by decide +kernel) (pa_cons (pv 1) (pa_cons (pe_refv (by rfl) gK) pa_nil))) (pe_and (pe_cmpR (op_eqD hr.units) (pe_fld (pv 0) rfl) (pe_fld (pv 1) rfl) (nomark _)) (pe_and (pe_cmpR op_eq (pe_fld (pv 0) rfl) (pe_fld (pv 1) rfl) (nomark _)) (pe_one (pe_cmpR (op_eqD hr.units) (pe_fld (pv 0) rfl) (pe_fld (pv 1) rfl) (nomark _))))))))), ?_⟩
  refine ⟨fun v H2 => v = .bl (decide (fs = gs ∧ n = m ∧ cs = ds)) ∧ H2 = H, ?_, fun v H2 e => by rw [e.1, e.2]; exact q⟩
  refine ⟨_, rfl, _, _, _, _, true, rfl, .own _, .base (.ins g1 Z.cls Y.ha Y.hn Y.htk Y.hm), if_pos (beq_self_eq_true _), true, rfl, iteT ?_⟩
  refine ⟨_, rfl, a, KC, dx, _, t, rfl, h1, Z.cls, Z.triples, rfl, _, rfl, b, KC, dy, _, t', rfl, g1, Z.cls, Z.triples, rfl, _, _, dp_fs h2 h3, dp_fs g2 g3, shaped_fs ok1.fields, shaped_fs ok2.fields, ?_⟩
  rw [eqv_fs]
  refine ⟨_, rfl, ite2 (fun e => ?_) (fun e => ⟨?_, rfl⟩)⟩
  · have e := of_decide_eq_true e
    refine ⟨_, rfl, a, KC, dx, _, .int n, rfl, h1, Z.cls, Z.modes, rfl, _, rfl, b, KC, dy, _, .int m, rfl, g1, Z.cls, Z.modes, rfl, rfl, _, rfl, ite2 (fun e2 => ?_) (fun e2 => ⟨?_, rfl⟩)⟩
    · have e2 : n = m := by
        have := V.int.inj (of_decide_eq_true e2)
        omega
      refine ⟨_, rfl, a, KC, dx, _, st, rfl, h1, Z.cls, Z.steps, rfl, _, rfl, b, KC, dy, _, st', rfl, g1, Z.cls, Z.steps, rfl, _, _, dp_cs h6 h7, dp_cs g6 g7, shaped_cs ok1.fields ok1.calls, shaped_cs ok2.fields ok2.calls, ?_, rfl⟩
      rw [eqv_cs]
      exact congrArg V.bl (decide_eq_decide.mpr ⟨fun x => ⟨e, e2, x⟩, fun x => x.2.2⟩)
    · have e2 : ¬ n = m := fun x => e2 (decide_eq_true (by rw [x]))
      exact congrArg V.bl (decide_eq_false (p := fs = gs ∧ n = m ∧ cs = ds) fun x => e2 x.2.1).symm
  · have e : ¬ fs = gs := fun x => e (decide_eq_true x)
    exact congrArg V.bl (decide_eq_false (p := fs = gs ∧ n = m ∧ cs = ds) fun x => e x.1).symm
end
end MK
set_option Elab.async false
set_option linter.all false
set_option autoImplicit false
set_option maxRecDepth 100000
set_option maxHeartbeats 4000000
namespace MK
open PySem PySem.Spec PyProof.Rows L2
open C8 (Met pe_mt pe_mt0 Mak pe_mk)
local macro_rules | `(tactic| walk_at "x") => `(tactic| dsimp only [tSeq, tAsg, tRet, tDrop, tLst, tTup, tCons, tOp, tUn, tIfS])
abbrev s_takes : Stmt := topS 75
theorem sc_takes : FnScope ["_law_row", "_law_x"] ["_law_row"] (defScope s_takes) := ⟨rfl, rfl, rfl, by decide +kernel, rfl, by decide +kernel, by decide +kernel⟩
abbrev s_callable : Stmt := topS 87
theorem sc_callable : FnScope ["_law_p", "_law_rows", "_law_k", "_law_x"] ["_law_p", "_law_rows"] (defScope s_callable) := ⟨rfl, rfl, rfl, by decide +kernel, rfl, by decide +kernel, by decide +kernel⟩
theorem op_eqDK {X : Cx} {K : PySem.W.Frag} {A : Around} (hk : X.K = K) (ha : X.A = A) (hu : A.units + 64 < cLine) : OpR X (compareOp .Eq) (rEqD K) := by
  subst hk ha
  exact op_eqD hu
def spLTakes (K : PySem.W.Frag) : Sp := fun vs H Q _ => ∃ (v : V) (cd : CD), vs = [v] ∧ CdL K H v cd ∧ cd.deeds.length ≤ 4 ∧ ∀ H', Same H H' → Q (.bl cd.takes) H'
def spLCallable (K : PySem.W.Frag) : Sp := fun vs H Q _ => ∃ (pq : V) (ra : Addr) (rvs : List V) (fs : List FD) (n : Nat) (cs : List CD) (rs : List Rw), vs = [pq, .ref ra] ∧ LpC K H pq cs ∧ KdOk fs n cs ∧ H ra = some (.lst rvs) ∧ Al (RowT K H) rvs rs ∧ RwsOk cs rs ∧ rs.length ≤ 200 ∧
  ∀ H' D (ks : List Nat), Same H H' → H D = none → H' D = some (.lst (ks.map fun k => V.int (k : Nat))) → ks.getLast? = lat cs rs → ks.length ≤ 200 → (∀ k ∈ ks, ∃ r, rs[k]? = some r ∧ isLast cs r = false) → (∀ (k : Nat) r, rs[k]? = some r → isLast cs r = false → k ∈ ks) → Q (.ref D) H'
section
variable {P : Program} {w : World} {K : PySem.W.Frag} {mg : Str → Option Value} {base : Heap}
theorem ok_ltakes {f : Addr} {fd : FuncData} (F : DefX K mg "_law_takes" s_takes ["_law_row"] f fd) (T : Txt K mg) : Cal P w K mg base CX0 1 "_law_takes" (spLTakes K) := by
  refine cal_mk F sc_takes (fun vs H Q E h => ?_) (fun cdv A outer sh H vs Q E hr h => ?_)
  · obtain ⟨v, cd, rfl, _⟩ := h
    rfl
  · obtain ⟨v, cd, rfl, ⟨m, d, sm, ds, ⟨a, rfl, h1⟩, h2, ⟨da, rfl, h3⟩, h4, h5⟩, dl, k⟩ := h
    refine ⟨_, (pss_one (ps_ret (pe_callB (cr_any rfl) (by rfl) T.any (by decide +kernel) (pa_cons (pe_lc (own := [("_law_x", 1)]) (g := (gName 1)) (tt := tYes) rfl sc_takes.nd (pi_list (pe_ix (ix_tupK (K := K) rfl) (pv 0) pe_int (fun _ _ => rfl))) (blkOk_by (own := [("_law_x", 1)]) (N := ["_law_row", "_law_x"]) (sc := defScope s_takes) (by decide +kernel)) (fun _ _ _ _ _ => (pg_name (i := 1) sc_takes.nd rfl (Or.inl rfl))) (fun _ _ _ _ _ => pts_nil) (fun _ _ _ _ _ => (pe_cmpR (op_in_seqK (K := K) rfl) (pe_ix (ix_tupK (K := K) rfl) (pv 1) pe_int (fun _ _ => rfl)) (pe_tup (pa_cons pe_str (pa_cons pe_str (pa_cons pe_str pa_nil)))) (by rfl)))) pa_nil)))), ?_⟩
    refine ⟨_, rfl, a, _, 3, .ref da, rfl, rfl, h1, rfl, da, rfl, ⟨ds, SqL.of h3⟩, fun D hD => ?_⟩
    refine lc_it (walk_list (K := K) (a := da) (xs := ds)) (fun j H2 => Same H H2 ∧ H2 D = some (.lst ((cd.deeds.take j).map fun d => V.bl (decide (d.1 ∈ (["set", "add", "strike"] : List Str)))))) ⟨same_new (Same.refl H) hD, upd_same⟩ (fun j H2 _ h => SqL.of (h.1 _ _ h3)) ?_ ?_
    · rintro j x H3 H2 hj ⟨e2, d2⟩ ⟨rfl, hx⟩
      obtain ⟨d, hd, ⟨pa, rfl, pt⟩⟩ := h4.get hx
      refine ⟨rfl, ?_⟩
      refine ⟨_, rfl, pa, _, 0, .str d.1, rfl, rfl, same_t e2 pt, rfl, by show 3 ≤ sizeLine; decide, fun q hq => ?_⟩
      have e3 := same_new e2 hq (o := .tup [.str "set", .str "add", .str "strike"])
      have d3 := (same_new (Same.refl H2) hq (o := .tup [.str "set", .str "add", .str "strike"])) _ _ d2
      refine ⟨q, _, rfl, .inr (SqT.of upd_same), rfl, flat_strs ["set", "add", "strike"], ?_⟩
      refine ⟨_, d3, ?_, fun b o hb => ?_, ?_⟩
      · rw [List.length_map, List.length_take]
        exact Nat.lt_of_le_of_lt (by show min j cd.deeds.length ≤ 4; omega) (by decide)
      · rw [upd_ne (ne_of_none hb hD)]
        exact e3 _ _ hb
      · rw [upd_same, List.take_succ, hd, List.map_append]
        show some (HO.lst (_ ++ [V.bl (inV (.str d.1) ((["set", "add", "strike"] : List Str).map V.str))])) = _
        rw [inV_strs]
        rfl
    · rintro H2 ⟨e2, d2⟩
      rw [h4.1, List.take_length] at d2
      refine ⟨D, cd.deeds.map fun d => decide (d.1 ∈ (["set", "add", "strike"] : List Str)), rfl, SqL.of (by rw [List.map_map]; exact d2), ?_⟩
      rw [takes_eq]
      exact k _ e2
theorem last_row {fs : List FD} {n : Nat} {cs : List CD} {rs : List Rw} {nm : Str} {k : Nat} {wd : Option Str} {c : CD} (hc : callOf cs nm = some c) : isLast cs (.call nm k wd) = decide (c.hand = ("last" : Str)) := by
  unfold isLast
  simp only [hc]
theorem ok_lcallable {f : Addr} {fd : FuncData} (F : DefX K mg "_law_callable" s_callable ["_law_p", "_law_rows"] f fd) (T : Txt K mg) (c_row_of : Cal P w K mg base CX0 1 "_law_row_of" (spRowOf K)) : Cal P w K mg base CX0 2 "_law_callable" (spLCallable K) := by
  refine cal_mk F sc_callable (fun vs H Q E h => ?_) (fun cdv A outer sh H vs Q E hr h => ?_)
  · obtain ⟨pq, ra, _, _, _, _, _, rfl, _⟩ := h
    rfl
  · obtain ⟨pq, ra, rvs, fs, n, cs, rs, rfl, pC, ok, hra, al, rok, lr, q⟩ := h
    refine ⟨_, (pss_one (ps_ret (pe_lc (own := [("_law_k", 2), ("_law_x", 3)]) (g := (gTup K 2 (gCons (gName 2) (gCons (gName 3) gNil)))) rfl sc_callable.nd (pi_enum (by rfl) T.enumerate (pa_cons (pv 1) pa_nil)) (blkOk_by (own := [("_law_k", 2), ("_law_x", 3)]) (N := ["_law_p", "_law_rows", "_law_k", "_law_x"]) (sc := defScope s_callable) (by decide +kernel)) (fun _ _ _ _ _ => (pg_tup (by rfl) (pgs_cons (pg_name (i := 2) sc_callable.nd rfl (Or.inl rfl)) (pgs_cons (pg_name (i := 3) sc_callable.nd rfl (Or.inl rfl)) pgs_nil)))) (fun _ _ _ _ _ => (pts_one (pt_cut (PW.pt (pw_or (pt_cmpR (op_eqDK (K := K) rfl rfl hr.units) (pv 3) (pe_tup (pa_cons pe_str pa_nil)) (nomark _)) (pw_or1 (pt_cmpR op_ne (pe_ix (ix_tupK (K := K) rfl) (pe_c c_row_of hr (by first | decide | assumption) rfl (pa_cons (pv 0) (pa_cons (pe_ix (ix_tupK (K := K) rfl) (pv 3) pe_int (fun _ _ => rfl)) pa_nil))) pe_int (fun _ _ => rfl)) pe_str (nomark _)))))))) (fun _ _ _ _ _ => (pv 2))))), ?_⟩
    have lrv : rvs.length = rs.length := al.1
    refine ⟨_, rfl, ra, rvs, rfl, SqL.of hra, fun D hD => ?_⟩
    refine lc_it (walk_enum (K := K) (a := ra) (xs := rvs)) (fun i Hi => Same H Hi ∧ ∃ ks : List Nat, Hi D = some (.lst (ks.map fun k => V.int (k : Nat))) ∧ ks.length ≤ i ∧ ks.getLast? = lat cs (rs.take i) ∧ (∀ k ∈ ks, ∃ r, rs[k]? = some r ∧ isLast cs r = false) ∧ ∀ (k : Nat) r, k < i → rs[k]? = some r → isLast cs r = false → k ∈ ks)
      ⟨same_new (Same.refl H) hD, [], upd_same, Nat.le_refl _, rfl, nofun, fun k r h => absurd h (Nat.not_lt_zero _)⟩ (fun i Hi _ h => SqL.of (h.1 _ _ hra)) ?_ ?_
    · rintro i v H2 H3 hi ⟨e2, ks, d2, kl, k0, km, kn⟩ ⟨U, y1, y2, rfl, hU, rfl, g1, hv⟩
      obtain rfl := Option.some.inj g1
      obtain ⟨r, hr', ⟨a, rfl, hrt⟩⟩ := al.get hv
      have hil : i < rs.length := (List.getElem?_eq_some_iff.mp hr').1
      have rk := rok i r hr'
      have e3 := same_new (Same.refl H2) hU (o := .tup [.int (i : Nat), .ref a])
      have e03 := e2.trans e3
      have U3 : upd H2 U (.tup [.int (i : Nat), .ref a]) U = some (.tup [.int (i : Nat), .ref a]) := upd_same
      have d3 := e3 _ _ d2
      generalize upd H2 U (.tup [.int (i : Nat), .ref a]) = H4 at e03 U3 d3
      refine ⟨U, _, rfl, SqT.of U3, rfl, _, _, rfl, _, _, rfl, rfl, rfl, ?_⟩
      refine ⟨fun t H5 => t = (!isLast cs r) ∧ Same H4 H5, ⟨_, rfl, by show 1 ≤ sizeLine; decide, fun t ht => ?_⟩, ?_⟩
      · have e4 := same_new (Same.refl H4) ht (o := .tup [.str "make"])
        refine ⟨_, _, dp_rw (same_t (e03.trans e4) hrt), .tup (SqT.of upd_same) (.cons (.str _) .nil), shaped_rw ok rk, shaped_mk, _, rfl, ?_⟩
        show (if PyData.eqv (pdRw r) (.tuple [.str "make"]) = true then _ else _)
        rw [eqv_mk]
        cases r with
        | mk => exact iteT2 rfl ⟨rfl, e4⟩
        | call nm k wd =>
          refine iteF2 rfl ?_
          obtain ⟨c, hc, _⟩ := rk
          refine ⟨_, rfl, _, rfl, a, _, 0, _, rfl, rfl, same_t (e03.trans e4) hrt, rw_zero, ?_⟩
          refine ⟨H, pq, nm, cs, c, rfl, e03.trans e4, pC, ok.nd, ok.cle, hc, fun H5 v e5 cd => ?_⟩
          obtain ⟨ma, da, sa, ds, ⟨ca, rfl, c1⟩, _⟩ := cd
          refine ⟨ca, _, 1, .str c.hand, rfl, rfl, same_t (e03.trans (e4.trans e5)) c1, rfl, rfl, _, rfl, ?_, e4.trans e5⟩
          rw [last_row (fs := fs) (n := n) (rs := rs) hc]
          refine congrArg Bool.not ?_
          rw [Bool.eq_iff_iff, decide_eq_true_iff, decide_eq_true_iff]
          exact ⟨fun e => V.str.inj e, fun e => by rw [e]⟩
      · rintro _ H5 ⟨rfl, e5⟩
        have d5 := e5 _ _ d3
        refine ite2 (fun g => ?_) (fun g => ?_)
        · rw [Bool.not_eq_true'] at g
          refine ⟨_, rfl, _, d5, ?_, fun c o hc => ?_, ks ++ [i], ?_, ?_, ?_, fun k hk => ?_, fun k r2 hk h1 h2 => ?_⟩
          · rw [List.length_map, sizeLine_eq]
            omega
          · rw [upd_ne (ne_of_none hc hD)]
            exact e5 _ _ (e03 _ _ hc)
          · rw [upd_same, List.map_append]
            rfl
          · rw [List.length_append]
            exact Nat.succ_le_succ kl
          · rw [lat_take hr', if_neg (by rw [g]; decide), List.getLast?_concat]
          · rcases List.mem_append.mp hk with hk | hk
            · exact km k hk
            · rw [List.mem_singleton.mp hk]
              exact ⟨r, hr', g⟩
          · by_cases e : k = i
            · rw [e]
              simp
            · exact List.mem_append_left _ (kn k r2 (by omega) h1 h2)
        · rw [Bool.not_eq_true, Bool.not_eq_false'] at g
          refine ⟨e03.trans e5, ks, d5, by omega, ?_, km, fun k r2 hk h1 h2 => ?_⟩
          · rw [lat_take hr', if_pos g]
            exact k0
          · by_cases e : k = i
            · rw [e, hr'] at h1
              cases h1
              rw [g] at h2
              cases h2
            · exact kn k r2 (by omega) h1 h2
    · rintro H2 ⟨e2, ks, d2, kl, k0, km, kn⟩
      rw [lrv] at kl k0
      rw [List.take_length] at k0
      exact q H2 D ks e2 hD d2 k0 (by omega) km fun k r h1 h2 => kn k r (by have := (List.getElem?_eq_some_iff.mp h1).1; omega) h1 h2
end
end MK
set_option Elab.async false
set_option linter.all false
set_option autoImplicit false
set_option maxRecDepth 100000
set_option maxHeartbeats 4000000
namespace MK
open PySem PySem.Spec PyProof.Rows L2
open C8 (Met pe_mt pe_mt0 Mak pe_mk)
local macro_rules | `(tactic| walk_at "x") => `(tactic| dsimp only [tSeq, tAsg, tRet, tDrop, tLst, tTup, tCons, tOp, tUn, tIfS])
abbrev s_Run_eq : Stmt := inClass (topS 54) 1
theorem sc_Run_eq : FnScope ["self", "other"] ["self", "other"] (defScope s_Run_eq) := ⟨rfl, rfl, rfl, by decide +kernel, rfl, by decide +kernel, by decide +kernel⟩
theorem eqv_rw (a b : Rw) : PyData.eqv (pdRw a) (pdRw b) = decide (a = b) := by
  match a, b with
  | .mk, .mk => decide +kernel
  | .mk, .call _ _ none => simp [pdRw, rwL, PyData.eqv, PyData.eqvAll]
  | .mk, .call _ _ (some _) => simp [pdRw, rwL, PyData.eqv, PyData.eqvAll]
  | .call _ _ none, .mk => simp [pdRw, rwL, PyData.eqv, PyData.eqvAll]
  | .call _ _ (some _), .mk => simp [pdRw, rwL, PyData.eqv, PyData.eqvAll]
  | .call _ _ none, .call _ _ (some _) => simp [pdRw, rwL, PyData.eqv, PyData.eqvAll]
  | .call _ _ (some _), .call _ _ none => simp [pdRw, rwL, PyData.eqv, PyData.eqvAll]
  | .call n1 k1 none, .call n2 k2 none =>
    rw [Bool.eq_iff_iff, decide_eq_true_iff]
    simp only [pdRw, rwL, PyData.eqv, PyData.eqvAll, Bool.and_eq_true, beq_iff_eq, Bool.and_true, Rw.call.injEq, and_true]
    exact ⟨fun h => ⟨h.1, by have := h.2; omega⟩, fun h => ⟨h.1, by have := h.2; omega⟩⟩
  | .call n1 k1 (some z1), .call n2 k2 (some z2) =>
    rw [Bool.eq_iff_iff, decide_eq_true_iff]
    simp only [pdRw, rwL, PyData.eqv, PyData.eqvAll, Bool.and_eq_true, beq_iff_eq, Bool.and_true, Rw.call.injEq, Option.some.injEq]
    exact ⟨fun h => ⟨h.1, by have := h.2.1; omega, h.2.2⟩, fun h => ⟨h.1, by have := h.2.1; omega, h.2.2⟩⟩
theorem eqv_rws (rs ss : List Rw) : PyData.eqv (.tuple (rs.map pdRw)) (.tuple (ss.map pdRw)) = decide (rs = ss) := by
  unfold PyData.eqv
  exact eqv_map eqv_rw rs ss
theorem shaped_rws {fs : List FD} {n : Nat} {cs : List CD} {rs : List Rw} (ok : KdOk fs n cs) (h : RwsOk cs rs) : SeqAt.shaped (.tuple (rs.map pdRw)) = true := by
  have h1 := lay_map (g := pdRw) rs fun r hr => by
    obtain ⟨j, hj⟩ := List.mem_iff_getElem?.mp hr
    exact lay_rw ok (h j r hj)
  have h2 := depth_map (g := pdRw) depth_rw rs
  unfold SeqAt.shaped
  rw [show PyData.canLay0 (.tuple (rs.map pdRw)) = true by unfold PyData.canLay0; exact h1, decide_eq_true (by unfold PyData.depth; omega)]
  rfl
theorem dp_rws {K : PySem.W.Frag} {H : Hp} {p : Addr} {rvs : List V} {rs : List Rw} (h : SqT K H p rvs) (al : Al (RowT K H) rvs rs) : Dp K H (.ref p) (.tuple (rs.map pdRw)) := .tup h (dp_map (fun _ _ h => by
  obtain ⟨a, rfl, h⟩ := h
  exact dp_rw h) al)
/-- what is equal to a run -/
def spREq (K : PySem.W.Frag) (RC BC HC KC : Addr) : Sp := fun vs H Q _ => (∃ (a b : Addr) (kv kw : V) (fs gs : List FD) (n m : Nat) (cs ds : List CD) (rs ss : List Rw), vs = [.ref a, .ref b] ∧ RunR K RC BC HC KC H a kv fs n cs rs ∧ RunR K RC BC HC KC H b kw gs m ds ss ∧ KdOk fs n cs ∧ KdOk gs m ds ∧ RwsOk cs rs ∧ RwsOk ds ss ∧ Q (.bl (decide ((fs = gs ∧ n = m ∧ cs = ds) ∧ rs = ss))) H) ∨
  ∃ (v w : V) (t : Value), vs = [v, w] ∧ TyX K H w t ∧ PySem.W.kitOne K t (.ref RC) = some false ∧ Q (.bl false) H
section
variable {P : Program} {w : World} {K : PySem.W.Frag} {mg : Str → Option Value} {base : Heap} {C : Cst} {RC BC HC KC fq : Addr} {fdq : FuncData}
theorem ok_req {f : Addr} {fd : FuncData} (F : Fun K "__eq__" "Run.__eq__" s_Run_eq f fd) (T : Txt K mg) (Z : RCls K RC) (Y : KIns K RC) (gR : mg "Run" = some (.ref RC))
    (H_keq : FnOk P w K mg base CX0 1 fq fdq ["self", "other"] (spKEq K KC) ∧ PySem.W.findIn K (.ref KC) "__eq__" = some (some (.ref fq)) ∧ PySem.W.isFn K (.ref fq) = true ∧ Binds K fdq ["self", "other"] []) : FnOk P w K mg base CX0 2 f fd ["self", "other"] (spREq K RC BC HC KC) := by
  refine F.ok sc_Run_eq (fun vs H Q E h => ?_) (fun cdv A outer sh H vs Q E hr h => ?_)
  · rcases h with ⟨a, b, _, _, _, _, _, _, _, _, _, _, rfl, _⟩ | ⟨v, w, t, rfl, _⟩ <;> rfl
  · rcases h with ⟨a, b, kv, kw, fs, gs, n, m, cs, ds, rs, ss, rfl, ⟨dx, pa, be, _, _, _, rvs, _, _, _, _, h1, _, _, _, h5, h6, h7⟩, ⟨dy, pb, bf, _, _, _, svs, _, _, _, _, g1, _, _, _, g5, g6, g7⟩, ok1, ok2, rok, sok, q⟩ | ⟨v, w', t, rfl, ty, kt, q⟩
    · refine ⟨_, (pss_one (ps_ret (pe_cut (pe_and (pe_callB call_isi (by rfl) T.isinstance (by decide +kernel) (pa_cons (pv 1) (pa_cons (pe_refv (by rfl) gR) pa_nil))) (pe_and (pe_cmpR (op_eqOwn H_keq.1 H_keq.2.1 H_keq.2.2.1 H_keq.2.2.2 (hr.mono (by decide))) (pe_fld (pv 0) rfl) (pe_fld (pv 1) rfl) (nomark _)) (pe_one (pe_cmpR (op_eqD hr.units) (pe_fld (pv 0) rfl) (pe_fld (pv 1) rfl) (nomark _)))))))), ?_⟩
      refine ⟨fun v H2 => v = .bl (decide ((fs = gs ∧ n = m ∧ cs = ds) ∧ rs = ss)) ∧ H2 = H, ?_, fun v H2 e => by rw [e.1, e.2]; exact q⟩
      refine ⟨_, rfl, _, _, _, _, true, rfl, .own _, .base (.ins g1 Z.cls Y.ha Y.hn Y.htk Y.hm), if_pos (beq_self_eq_true _), true, rfl, iteT ?_⟩
      obtain ⟨ka, kdx, _, _, _, _, _, _, _, rfl, k1, _⟩ := id h7
      obtain ⟨kb, kdy, _, _, _, _, _, _, _, rfl, k2, _⟩ := id g7
      refine ⟨_, rfl, a, RC, dx, _, .ref ka, rfl, h1, Z.cls, Z.kind, rfl, _, rfl, b, RC, dy, _, .ref kb, rfl, g1, Z.cls, Z.kind, rfl, ka, kdx, _, kb, kdy, _, rfl, rfl, k1, k2, _, _, fs, gs, n, m, cs, ds, rfl, h7, g7, ok1, ok2, _, rfl, ?_⟩
      refine ⟨_, rfl, ite2 (fun e => ?_) (fun e => ⟨?_, rfl⟩)⟩
      · have e := of_decide_eq_true e
        refine ⟨_, rfl, a, RC, dx, _, .ref pa, rfl, h1, Z.cls, Z.program, rfl, _, rfl, b, RC, dy, _, .ref pb, rfl, g1, Z.cls, Z.program, rfl, _, _, dp_rws h5 h6, dp_rws g5 g6, shaped_rws ok1 rok, shaped_rws ok2 sok, ?_, rfl⟩
        rw [eqv_rws]
        exact congrArg V.bl (decide_eq_decide.mpr ⟨fun x => ⟨e, x⟩, fun x => x.2⟩)
      · have e : ¬ (fs = gs ∧ n = m ∧ cs = ds) := fun x => e (decide_eq_true x)
        exact congrArg V.bl (decide_eq_false (p := (fs = gs ∧ n = m ∧ cs = ds) ∧ rs = ss) fun x => e x.1).symm
    · refine ⟨_, (pss_one (ps_ret (pe_cut (pe_and (pe_callB call_isi (by rfl) T.isinstance (by decide +kernel) (pa_cons (pv 1) (pa_cons (pe_refv (by rfl) gR) pa_nil))) (pe_and (pe_cmpR (op_eqOwn H_keq.1 H_keq.2.1 H_keq.2.2.1 H_keq.2.2.2 (hr.mono (by decide))) (pe_fld (pv 0) rfl) (pe_fld (pv 1) rfl) (nomark _)) (pe_one (pe_cmpR (op_eqD hr.units) (pe_fld (pv 0) rfl) (pe_fld (pv 1) rfl) (nomark _)))))))), ?_⟩
      exact ⟨fun v H2 => v = .bl false ∧ H2 = H, ⟨_, rfl, _, _, _, _, false, rfl, .own _, ty, kt, false, rfl, iteF ⟨rfl, rfl⟩⟩, fun v H2 e => by rw [e.1, e.2]; exact q⟩
end
end MK
set_option Elab.async false
set_option linter.all false
set_option autoImplicit false
set_option maxRecDepth 100000
set_option maxHeartbeats 4000000
namespace MK
open PySem PySem.Spec PyProof.Rows L2
open C8 (Met pe_mt pe_mt0 Mak pe_mk)
local macro_rules | `(tactic| walk_at "x") => `(tactic| dsimp only [tSeq, tAsg, tRet, tDrop, tLst, tTup, tCons, tOp, tUn, tIfS])
theorem sm_flat {K : PySem.W.Frag} {H : Hp} {x : V} (h : Prim x) : ∀ n, Sm K H n x x
  | 0 => .inl ⟨rfl, h⟩
  | _ + 1 => .inl (.inl ⟨rfl, h⟩)
theorem sm_lst {K : PySem.W.Frag} {H : Hp} {n : Nat} {a b : Addr} {xs ys : List V} (ha : H a = some (.lst xs)) (hb : H b = some (.lst ys)) (hl : xs.length = ys.length) (hz : xs.length < 100000) (h : ∀ (i : Nat) x y, xs[i]? = some x → ys[i]? = some y → Sm K H n x y) : Sm K H (n + 1) (.ref a) (.ref b) :=
  .inr ⟨a, b, xs, ys, rfl, rfl, .inl ⟨SqL.of ha, SqL.of hb⟩, hl, hz, h⟩
theorem sm_tup {K : PySem.W.Frag} {H : Hp} {n : Nat} {x y : V} {xs ys : List V} (ha : Tu K H x xs) (hb : Tu K H y ys) (hl : xs.length = ys.length) (hz : xs.length < 100000) (h : ∀ (i : Nat) x y, xs[i]? = some x → ys[i]? = some y → Sm K H n x y) : Sm K H (n + 1) x y := by
  obtain ⟨a, rfl, ha⟩ := ha
  obtain ⟨b, rfl, hb⟩ := hb
  exact .inr ⟨a, b, xs, ys, rfl, rfl, .inr ⟨ha, hb⟩, hl, hz, h⟩
theorem sm_self {K : PySem.W.Frag} {H : Hp} {n : Nat} {xs : List V} (h : ∀ x ∈ xs, Prim x) : ∀ (i : Nat) x y, xs[i]? = some x → xs[i]? = some y → Sm K H n x y := fun i x y h1 h2 => by
  rw [h1] at h2
  cases h2
  exact sm_flat (h _ (List.mem_of_getElem? h1)) n
theorem sm_al {K : PySem.W.Frag} {H : Hp} {n : Nat} {α : Type} {R S : V → α → Prop} {a b : Addr} {xs ys : List V} {zs : List α} (ha : H a = some (.lst xs)) (hb : H b = some (.lst ys)) (l1 : Al R xs zs) (l2 : Al S ys zs) (hz : zs.length < 100000) (f : ∀ x y z, z ∈ zs → R x z → S y z → Sm K H n x y) : Sm K H (n + 1) (.ref a) (.ref b) :=
  sm_lst ha hb (l1.1.trans l2.1.symm) (by rw [l1.1]; exact hz) fun i x y h1 h2 => by
    obtain ⟨z, hz1, r⟩ := l1.get h1
    exact f x y z (List.mem_of_getElem? hz1) r (l2.2 i y z h2 hz1)
theorem sm_cs {K : PySem.W.Frag} {H : Hp} {n : Nat} {p q : Addr} {cts : List Ct} {L M : List Addr} (h1 : CsW H p cts L) (h2 : CsW H q cts M) (f : CtF 3 900 cts) : Sm K H (n + 2) (.ref p) (.ref q) := by
  obtain ⟨xs, _, a1, b1, _⟩ := h1
  obtain ⟨ys, _, a2, b2, _⟩ := h2
  refine sm_al a1 a2 (b1.al (S := fun x y => ∃ L, CtW H x y L) fun x y L r => ⟨L, r⟩) (b2.al (S := fun x y => ∃ L, CtW H x y L) fun x y L r => ⟨L, r⟩) (Nat.lt_of_le_of_lt f.1 (by decide)) fun x y z hz r1 r2 => ?_
  obtain ⟨L1, r1⟩ := r1
  obtain ⟨L2', r2⟩ := r2
  cases z with
  | w o =>
    rw [r1.1, r2.1]
    refine sm_flat ?_ _
    cases o with
    | none => exact .inl rfl
    | some z => exact prim_str _
  | l ws =>
    obtain ⟨a, rfl, g1, _⟩ := r1
    obtain ⟨b, rfl, g2, _⟩ := r2
    have wl := f.2 ws hz
    exact sm_lst g1 g2 rfl (by rw [List.length_map]; omega) (sm_self fun x hx => by
      obtain ⟨z, _, rfl⟩ := List.mem_map.mp hx
      exact prim_str _)
theorem sm_2 {K : PySem.W.Frag} {H : Hp} {n : Nat} {x1 x2 y2 : V} (h1 : Prim x1) (h2 : Sm K H n x2 y2) : ∀ (i : Nat) x y, [x1, x2][i]? = some x → [x1, y2][i]? = some y → Sm K H n x y := fun i x y g1 g2 => by
  match i, g1, g2 with
  | 0, g1, g2 =>
    cases g1
    cases g2
    exact sm_flat h1 _
  | 1, g1, g2 =>
    cases g1
    cases g2
    exact h2
theorem sm_3 {K : PySem.W.Frag} {H : Hp} {n : Nat} {x0 x1 x2 y2 : V} (h0 : Prim x0) (h1 : Prim x1) (h2 : Sm K H n x2 y2) : ∀ (i : Nat) x y, [x0, x1, x2][i]? = some x → [x0, x1, y2][i]? = some y → Sm K H n x y := fun i x y g1 g2 => by
  match i, g1, g2 with
  | 0, g1, g2 =>
    cases g1
    cases g2
    exact sm_flat h0 _
  | 1, g1, g2 =>
    cases g1
    cases g2
    exact sm_flat h1 _
  | 2, g1, g2 =>
    cases g1
    cases g2
    exact h2
theorem sm_to {K : PySem.W.Frag} {H : Hp} {n : Nat} {x y : V} {d : Option (Option Nat × List Ct)} {L M : List Addr} (h1 : ToW H x d L) (h2 : ToW H y d M) (f : ∀ p, d = some p → CtF 3 900 p.2) : Sm K H (n + 3) x y := by
  match d, h1, h2 with
  | none, h1, h2 =>
    rw [h1.1, h2.1]
    exact sm_flat (.inl rfl) _
  | some (none, cts), h1, h2 =>
    obtain ⟨t, p, rfl, a1, b1⟩ := h1
    obtain ⟨u, q, rfl, a2, b2⟩ := h2
    exact sm_tup (xs := [.str "product", .ref p]) (ys := [.str "product", .ref q]) ⟨t, rfl, SqT.of a1⟩ ⟨u, rfl, SqT.of a2⟩ rfl (by show 2 < 100000; decide) (sm_2 (prim_str _) (sm_cs b1 b2 (f _ rfl)))
  | some (some m, cts), h1, h2 =>
    obtain ⟨t, p, rfl, a1, b1⟩ := h1
    obtain ⟨u, q, rfl, a2, b2⟩ := h2
    exact sm_tup (xs := [.str "maker", .int (m : Nat), .ref p]) (ys := [.str "maker", .int (m : Nat), .ref q]) ⟨t, rfl, SqT.of a1⟩ ⟨u, rfl, SqT.of a2⟩ rfl (by show 3 < 100000; decide) (sm_3 (prim_str _) (prim_int _) (sm_cs b1 b2 (f _ rfl)))
end MK
set_option Elab.async false
set_option linter.all false
set_option autoImplicit false
set_option maxRecDepth 100000
set_option maxHeartbeats 4000000
namespace MK
open PySem PySem.Spec PyProof.Rows L2
open C8 (Met pe_mt pe_mt0 Mak pe_mk)
local macro_rules | `(tactic| walk_at "x") => `(tactic| dsimp only [tSeq, tAsg, tRet, tDrop, tLst, tTup, tCons, tOp, tUn, tIfS])
abbrev s_is_right : Stmt := topS 88
theorem sc_is_right : FnScope ["_law_p", "_law_yard", "_law_rows", "_law_things", "_law_heap", "_law_x"] ["_law_p", "_law_yard", "_law_rows", "_law_things"] (defScope s_is_right) := ⟨rfl, rfl, rfl, by decide +kernel, rfl, by decide +kernel, by decide +kernel⟩
theorem plan_partsF {K : PySem.W.Frag} {KC : Addr} {H : Hp} {v : V} {fs : List FD} {n : Nat} {cs : List CD} (h : PlanA K KC H v fs n cs) : LpF K H v fs ∧ LpC K H v cs ∧ ∃ p kv, v = .ref p ∧ (∀ {H2 : Hp}, Same H H2 → DGet H2 p (.str "known") (some kv)) ∧ KdA K KC H kv fs n cs := by
  obtain ⟨p, l1, l2, kv, fvs, cvs, rfl, q1, q2, q3, q4, q5, q6⟩ := h
  exact ⟨⟨p, l1, fvs, _, rfl, q1, rfl, q2, q3⟩, ⟨p, l2, cvs, _, rfl, q1, rfl, q4, q5⟩, p, kv, rfl, fun e => DGet.k (k := .inr "known") (e _ _ q1), q6⟩
theorem RunR.at {K : PySem.W.Frag} {RC BC HC KC : Addr} {H : Hp} {a : Addr} {kv : V} {fs : List FD} {n : Nat} {cs : List CD} {rs : List Rw} (h : RunR K RC BC HC KC H a kv fs n cs rs) : ∃ dx pa be, H a = some (.ins RC dx [("kind", kv), ("program", .ref pa), ("bench", .ref be)]) := by
  obtain ⟨dx, pa, be, _, _, _, _, _, _, _, _, h1, _⟩ := h
  exact ⟨dx, pa, be, h1⟩
def spYRight (K : PySem.W.Frag) (YC TC BC HC KC : Addr) : Sp := fun vs H Q _ => ∃ (pq kv : V) (y ra ta : Addr) (rvs : List V) (M O : List Addr) (rl : Rl) (fs : List FD) (n : Nat) (cs : List CD) (rs : List Rw) (ths : List Addr), vs = [pq, .ref y, .ref ra, .ref ta] ∧ PlanA K KC H pq fs n cs ∧ YaI K YC TC BC HC KC H rl M O y kv fs n cs rs ths ∧ KdOk fs n cs ∧ RwsOk cs rs ∧ rs.length ≤ 200 ∧ H ra = some (.lst rvs) ∧ Al (RowT K H) rvs rs ∧ H ta = some (.lst (ths.map V.ref)) ∧ ∀ H', Same H H' → Q (.bl true) H'
section
variable {P : Program} {w : World} {K : PySem.W.Frag} {mg : Str → Option Value} {base : Heap} {C : Cst} {YC TC BC HC KC RC fq : Addr} {fdq : FuncData}
theorem ok_yright {f : Addr} {fd : FuncData} (F : DefX K mg "_law_is_right" s_is_right ["_law_p", "_law_yard", "_law_rows", "_law_things"] f fd) (T : Txt K mg) (Z : RCls K RC) (c_ran : Cal P w K mg base CX0 4 "_law_ran" (spLRan K)) (c_same : Cal P w K mg base CX0 5 "_law_same" (spSame K 4)) (c_all_told : Cal P w K mg base CX0 2 "_law_all_told" (spLAll K))
    (mk_Run : Mak P w K mg base 6 "Run" RC (spRInit K RC BC HC KC) []) (m_run : Met P w K mg base 8 YC "run" (spYRun K YC TC BC HC KC RC) []) (m_look : Met P w K mg base 3 TC "look" (spLook K YC TC BC HC KC) [])
    (H_req : FnOk P w K mg base CX0 2 fq fdq ["self", "other"] (spREq K RC BC HC KC) ∧ PySem.W.findIn K (.ref RC) "__eq__" = some (some (.ref fq)) ∧ PySem.W.isFn K (.ref fq) = true ∧ Binds K fdq ["self", "other"] [])
    (H_rne : PySem.W.findIn K (.ref RC) "__ne__" = some (some (.builtin "object.__ne__")) ∧ PySem.W.subIn K (.ref RC) (.type "object") = some true) :
    Cal P w K mg base CX0 9 "_law_is_right" (spYRight K YC TC BC HC KC) := by
  refine cal_mk F sc_is_right (fun vs H Q E h => ?_) (fun cdv A outer sh H vs Q E hr h => ?_)
  · obtain ⟨_, _, _, _, _, _, _, _, _, _, _, _, _, _, rfl, _⟩ := h
    rfl
  · obtain ⟨pq, kv, y, ra, ta, rvs, M, O, rl, fs, n, cs, rs, ths, rfl, pl, YI, ok, rok, lr, hra, al, hta, q⟩ := h
    refine ⟨_, (pss_cons (ps_set (i := 4) sc_is_right.nd rfl (Or.inl rfl) (pe_c c_ran hr (by first | decide | assumption) rfl (pa_cons (pv 0) (pa_cons (pv 2) pa_nil))))
(pss_cons (ps_if (pt_cmpR (op_neOwn H_req.1 H_rne.1 H_req.2.1 H_req.2.2.1 H_rne.2 H_req.2.2.2 (hr.mono (by decide))) (pe_mt0 m_run hr (by decide) (pv 1)) (pe_mk mk_Run hr (by decide) rfl (pa_cons (pe_dget (hu_of hr) (pv 0) pe_str (fun _ _ => rfl)) (pa_cons (pv 2) pa_nil))) (nomark _))
(pss_one (ps_ret pe_bl))
pss_nil)
(pss_one (ps_ret (pe_c c_same hr (by first | decide | assumption) rfl (pa_cons (pe_lc (own := [("_law_x", 5)]) (g := (gName 5)) (tt := tYes) rfl sc_is_right.nd (pi_list (pv 3)) (blkOk_by (own := [("_law_x", 5)]) (N := ["_law_p", "_law_yard", "_law_rows", "_law_things", "_law_heap", "_law_x"]) (sc := defScope s_is_right) (by decide +kernel)) (fun _ _ _ _ _ => (pg_name (i := 5) sc_is_right.nd rfl (Or.inl rfl))) (fun _ _ _ _ _ => pts_nil) (fun _ _ _ _ _ => (pe_mt0 m_look hr (by decide) (pv 5)))) (pa_cons (pe_c c_all_told hr (by first | decide | assumption) rfl (pa_cons (pv 0) (pa_cons (pv 4) pa_nil))) pa_nil))))))), ?_⟩
    obtain ⟨pF, pC, p, kw, rfl, dg, kd⟩ := plan_partsF pl
    have f3 := ok.fields.le
    have wf := Wf.rows (av := false) ok rok rs.length (Nat.le_refl _)
    rw [List.take_length] at wf
    have hln := wf.hl
    have yat : ∃ ydx pa be pl, H y = some (.ins YC ydx (yaV kv pa be pl)) := by
      obtain ⟨ydx, _, _, _, _, _, _, _, _, _, _, J⟩ := YI
      exact ⟨ydx, _, _, _, J.yh⟩
    obtain ⟨ydx, ypa, ybe, ypl, hy⟩ := yat
    have tl : ths.length = rs.length := by
      obtain ⟨_, _, _, _, _, _, _, _, _, _, _, J⟩ := YI
      exact J.tl
    have tat : ∀ {i : Nat} {t : Addr}, ths[i]? = some t → ∃ tdx, H t = some (.ins TC tdx (thV y i false)) := fun {i t} h => by
      obtain ⟨_, _, _, _, _, _, _, _, _, _, _, J⟩ := YI
      obtain ⟨tdx, g⟩ := J.th i t h
      exact ⟨tdx, g⟩
    refine ⟨_, rfl, _, rfl, .ref p, ra, rvs, fs, n, cs, rs, rfl, pF, pC, ok, hra, al, rok, lr, fun rl1 H1 hp la ha ea kvs ls os e1 lh I md => ?_⟩
    have e01 : Same H H1 := e1.trans hr_same
    -- its run
    refine ⟨_, rfl, y, ydx, _, rfl, e01 _ _ hy, rfl, y, kv, M, O, rl, fs, n, cs, rs, ths, rfl, YI.new e01, ok, rok, lr, fun H2 x e2 rr => ?_⟩
    have e02 := e01.trans e2
    refine ⟨_, rfl, p, kw, rfl, dg e02, _, rfl, fun x2 dx hx hdx nd => ?_⟩
    have S2 : Same H2 (Off x2 (upd (upd H2 dx (.own x2)) x2 (.ins RC dx []))) := fun b o hb => by
      have n1 : b ≠ x2 := fun e => by rw [e, hx] at hb; cases hb
      have n2 : b ≠ dx := fun e => by rw [e, hdx] at hb; cases hb
      rw [off_ne n1, upd_ne n1, upd_ne n2]
      exact hb
    refine ⟨x2, dx, kw, .ref ra, rvs, fs, n, cs, rs, [], rfl, upd_same, (kd.keep e02).keep (S2.trans fun b o h => (wo_get (by simp)).trans h), ok, ⟨ra, rfl, .inl (SqL.of (S2 _ _ (e02 _ _ hra)))⟩, al.mono fun _ _ h => Tu.sq (Tu.keep (e02.trans S2) h), rok, lr, nofun, fun H3 e3 rr2 => ⟨rfl, ?_⟩⟩
    have e23 := S2.trans e3
    have rr2 := rr2.keep wo_same
    have rr1 := rr.keep e23
    obtain ⟨xd1, xp1, xb1, hx1⟩ := rr1.at
    obtain ⟨xd2, xp2, xb2, hx2⟩ := rr2.at
    have e03 := e02.trans e23
    have e13 := e2.trans e23
    refine ⟨x, xd1, _, x2, xd2, _, rfl, rfl, hx1, hx2, .inl ⟨x, x2, kv, kw, fs, fs, n, n, cs, cs, rs, rs, rfl, rr1, rr2, ok, ok, rok, rok, _, rfl, _, rfl, iteF2 (by rw [decide_eq_true ⟨⟨rfl, rfl, rfl⟩, rfl⟩]; rfl) ?_⟩⟩
    -- the looks
    refine ⟨_, rfl, ta, rfl, ⟨_, SqL.of (e03 _ _ hta)⟩, fun D hD => ?_⟩
    have fewt : (ths.map V.ref).length ≤ 1000 := by rw [List.length_map]; omega
    refine lc_relS (walk_list (K := K) (a := ta) (xs := ths.map V.ref)) (fun i v Hv => ∃ r L, (doRows false fs cs rs).hand[i]? = some r ∧ ToW Hv v (toldOf (doRows false fs cs rs) r) L) (fun i v G G' e h => by
      obtain ⟨r, L, h1, h2⟩ := h
      exact ⟨r, L, h1, h2.keep e⟩) fewt hD (fun H' e => SqL.of (e _ _ (e03 _ _ hta))) ?_ ?_
    · rintro i v H4 _ R hi e4 ⟨acc, hacc⟩ ⟨rfl, hv⟩ rq
      rw [List.getElem?_map] at hv
      obtain ⟨t, ht, rfl⟩ := Option.map_eq_some_iff.mp hv
      obtain ⟨tdx, tg⟩ := tat ht
      have e04 := e03.trans e4
      have il : i < rs.length := by rw [← tl]; exact (List.getElem?_eq_some_iff.mp ht).1
      have hh : (doRows false fs cs rs).hand[i]? = some ((doRows false fs cs rs).hand[i]'(by omega)) := List.getElem?_eq_getElem (by omega)
      refine ⟨rfl, _, rfl, t, tdx, _, rfl, e04 _ _ tg, rfl, y, t, i, kv, M, O, rl, fs, n, cs, rs, ths, _, rfl, YI.new e04, ok, rok, lr, ht, hh, fun H5 v2 L e5 tw fr => rq v2 H5 e5 ⟨_, L, hh, ToW.off (e5 _ _ hacc) tw fun a ha e => ?_⟩⟩
      have := fr a ha
      rw [e, hacc] at this
      cases this
    intro H4 ws e4 hws lws rel
    have e14 := e13.trans e4
    have e04 := e03.trans e4
    have f14 : Same (Hr rl1 H1) (Hr rl1 H4) := hr_keep e14
    refine ⟨_, rfl, _, rfl, .ref p, hp, la, ha, ea, .dK kvs, ls, os, _, rl1, fs, n, _, _, _, rfl, pF.keep (e1.trans f14), f14 _ _ lh, I.keep e14, wf.w, by omega, f3, by omega, fun H5 D2 xs2 L2 e5 hD2 al2 _ _ => ?_⟩
    have al1 : Al (fun v d => ∃ L, ToW H5 v d L) ws ((doRows false fs cs rs).hand.map (toldOf (doRows false fs cs rs))) := by
      refine ⟨by rw [lws, List.length_map, List.length_map]; omega, fun i v d h1 h2 => ?_⟩
      obtain ⟨r, L, g1, g2⟩ := rel i v h1
      rw [List.getElem?_map, g1] at h2
      cases h2
      exact ⟨L, (g2.keep off_same).keep e5⟩
    refine ⟨_, _, rfl, sm_al (e5 _ _ hws) hD2 al1 (al2.al (S := fun x d => ∃ L, ToW H5 x d L) fun x d L h => ⟨L, h⟩) (by rw [List.length_map]; omega) (fun x z d hd r1 r2 => ?_), fun H6 e6 => q _ ((e04.trans e5).trans e6)⟩
    obtain ⟨L1, r1⟩ := r1
    obtain ⟨L3, r2⟩ := r2
    refine sm_to r1 r2 fun pp hpp => ?_
    obtain ⟨r, hr', er⟩ := List.mem_map.mp hd
    cases r with
    | none => rw [← er] at hpp; cases hpp
    | some j =>
      rw [← er] at hpp
      cases hpp
      obtain ⟨k', hk'⟩ := List.mem_iff_getElem?.mp hr'
      have tf := told_few wf.w (wf.hand k' j hk')
      exact ⟨Nat.le_trans tf.1 f3, fun ws m => Nat.le_trans (tf.2 ws m) (by omega)⟩
end
end MK
set_option Elab.async false
set_option linter.all false
set_option autoImplicit false
set_option maxRecDepth 100000
set_option maxHeartbeats 4000000
namespace MK
open PySem PySem.Spec PyProof.Rows L2
open C8 (Met pe_mt pe_mt0 Mak pe_mk)
local macro_rules | `(tactic| walk_at "x") => `(tactic| dsimp only [tSeq, tAsg, tRet, tDrop, tLst, tTup, tCons, tOp, tUn, tIfS])
theorem YaI.oth {K : PySem.W.Frag} {YC TC BC HC KC : Addr} {H H' : Hp} {rl : Rl} {M O : List Addr} {y : Addr} {kv : V} {fs : List FD} {n : Nat} {cs : List CD} {rs : List Rw} {ths : List Addr} (e : ∀ b o, H b = some o → b ∉ O → H' b = some o) (hl : ∀ b ∈ O, H' b ≠ none) (h : YaI K YC TC BC HC KC H rl M O y kv fs n cs rs ths) : YaI K YC TC BC HC KC H' rl M O y kv fs n cs rs ths ∧ Same (Wo M (Hr rl H)) (Wo M (Hr rl H')) := by
  obtain ⟨ydx, pa, be, pl, la, ha, ea, rvs, evs, ls, os, I⟩ := h
  have f : Same (Wo M (Hr rl H)) (Wo M (Hr rl H')) := wo_fr fun b o nb r hb => ⟨nb, r, e _ _ hb fun z => nb (I.om b z).1⟩
  refine ⟨⟨ydx, pa, be, pl, la, ha, ea, rvs, evs, ls, os, { I with
    yh := e _ _ I.yh fun z => (I.om _ z).2.1 rfl
    ph := e _ _ I.ph fun z => (I.om _ z).2.2.1 rfl
    lh := e _ _ I.lh fun z => (I.om _ z).2.2.2.1 rfl
    th := fun i t ht => by
      obtain ⟨tdx, g⟩ := I.th i t ht
      exact ⟨tdx, e _ _ g fun z => (I.om _ z).2.2.2.2 (List.mem_of_getElem? ht)⟩
    mh := fun b hb z => by
      by_cases q : b ∈ O
      · exact hl b q z
      · cases r : H b with
        | none => exact I.mh b hb r
        | some o => rw [e _ _ r q] at z; cases z
    rows := I.rows.mono fun _ _ h => Tu.keep f h
    bch := I.bch.keep f
    bn := I.bn.eqr fun a ra => by
      have na : a ∉ O := fun z => ra (I.mr a (I.om a z).1)
      cases r : H a with
      | none => exact absurd r (I.bn.live a ra)
      | some o => exact e _ _ r na
    early := I.early.keep f
    kd := I.kd.keep f }⟩, f⟩
theorem YaI.add {K : PySem.W.Frag} {YC TC BC HC KC : Addr} {H H' : Hp} {rl : Rl} {M O : List Addr} {y T : Addr} {kv : V} {fs : List FD} {n : Nat} {cs : List CD} {rs : List Rw} {ths : List Addr} (e : Same H H') (hT : H T = none) (hT' : H' T ≠ none) (h : YaI K YC TC BC HC KC H rl M O y kv fs n cs rs ths) : YaI K YC TC BC HC KC H' rl (T :: M) (T :: O) y kv fs n cs rs ths ∧ Same (Wo M (Hr rl H)) (Wo (T :: M) (Hr rl H')) := by
  obtain ⟨ydx, pa, be, pl, la, ha, ea, rvs, evs, ls, os, I⟩ := h
  have nT : ∀ {b : Addr} {o : HO}, H b = some o → T ≠ b := fun h z => by rw [← z, hT] at h; cases h
  have f : Same (Wo M (Hr rl H)) (Wo (T :: M) (Hr rl H')) := wo_fr fun b o nb r hb => ⟨fun z => (List.mem_cons.mp z).elim (fun q => nT hb q.symm) nb, r, e _ _ hb⟩
  exact ⟨⟨ydx, pa, be, pl, la, ha, ea, rvs, evs, ls, os, {
    yh := e _ _ I.yh
    ph := e _ _ I.ph
    lh := e _ _ I.lh
    th := fun i t ht => by
      obtain ⟨tdx, g⟩ := I.th i t ht
      exact ⟨tdx, e _ _ g⟩
    tl := I.tl
    ym := List.mem_cons_of_mem _ I.ym
    pm := List.mem_cons_of_mem _ I.pm
    lm := List.mem_cons_of_mem _ I.lm
    tm := fun t ht => List.mem_cons_of_mem _ (I.tm t ht)
    mr := fun b hb => (List.mem_cons.mp hb).elim (fun q => by rw [q]; exact I.bn.fresh hT) (I.mr b)
    mh := fun b hb => (List.mem_cons.mp hb).elim (fun q => by rw [q]; exact hT') fun hb z => by
      cases r : H b with
      | none => exact I.mh b hb r
      | some o => rw [e _ _ r] at z; cases z
    ne := I.ne
    om := fun b hb => (List.mem_cons.mp hb).elim (fun q => by
        rw [q]
        refine ⟨List.mem_cons_self, nT I.yh, nT I.ph, nT I.lh, fun z => ?_⟩
        obtain ⟨i, hi⟩ := List.mem_iff_getElem?.mp z
        obtain ⟨tdx, g⟩ := I.th i T hi
        exact nT g rfl) fun hb => by
      obtain ⟨h1, h2⟩ := I.om b hb
      exact ⟨List.mem_cons_of_mem _ h1, h2⟩
    rows := I.rows.mono fun _ _ h => Tu.keep f h
    bch := I.bch.keep f
    bn := I.bn.keep e
    early := I.early.keep f
    kd := I.kd.keep f }⟩, f⟩
theorem YaI.tl {K : PySem.W.Frag} {YC TC BC HC KC : Addr} {H : Hp} {rl : Rl} {M O : List Addr} {y : Addr} {kv : V} {fs : List FD} {n : Nat} {cs : List CD} {rs : List Rw} {ths : List Addr} (h : YaI K YC TC BC HC KC H rl M O y kv fs n cs rs ths) : ths.length = rs.length := by
  obtain ⟨_, _, _, _, _, _, _, _, _, _, _, J⟩ := h
  exact J.tl
theorem YaI.om {K : PySem.W.Frag} {YC TC BC HC KC : Addr} {H : Hp} {rl : Rl} {M O : List Addr} {y : Addr} {kv : V} {fs : List FD} {n : Nat} {cs : List CD} {rs : List Rw} {ths : List Addr} (h : YaI K YC TC BC HC KC H rl M O y kv fs n cs rs ths) : (∀ b ∈ O, b ∈ M) ∧ ∀ b, b ∈ M ∨ rl b ≠ none → H b ≠ none := by
  obtain ⟨_, _, _, _, _, _, _, _, _, _, _, J⟩ := h
  exact ⟨fun b hb => (J.om b hb).1, fun b hb => hb.elim (J.mh b) (J.bn.live b)⟩
theorem YaI.at {K : PySem.W.Frag} {YC TC BC HC KC : Addr} {H : Hp} {rl : Rl} {M O : List Addr} {y : Addr} {kv : V} {fs : List FD} {n : Nat} {cs : List CD} {rs : List Rw} {ths : List Addr} (h : YaI K YC TC BC HC KC H rl M O y kv fs n cs rs ths) : (∃ ydx pa be pl, H y = some (.ins YC ydx (yaV kv pa be pl))) ∧ ∀ {i : Nat} {t : Addr}, ths[i]? = some t → ∃ tdx, H t = some (.ins TC tdx (thV y i false)) := by
  obtain ⟨ydx, _, _, _, _, _, _, _, _, _, _, J⟩ := h
  exact ⟨⟨ydx, _, _, _, J.yh⟩, fun h => J.th _ _ h⟩
theorem hand_mk {fs : List FD} {cs : List CD} {rs : List Rw} : ∃ j, (doRows false fs cs (rs ++ [.mk])).hand = (doRows false fs cs rs).hand ++ [some j] := by
  unfold doRows
  rw [List.foldl_append]
  exact ⟨_, rfl⟩
theorem fin_h {fs : List FD} {c : CD} (b : Bn) (j : Nat) : ∃ h, (fin fs c b j).hand = b.hand ++ [some h] := by
  unfold fin
  split
  · exact ⟨_, rfl⟩
  · exact ⟨_, rfl⟩
theorem hand_call {fs : List FD} {n : Nat} {cs : List CD} {rs : List Rw} {nm : Str} {k : Nat} {wd : Option Str} {c : CD} (ok : KdOk fs n cs) (rok : RwsOk cs rs) (rk : RwOk cs rs (.call nm k wd)) (hc : callOf cs nm = some c) :
    ∃ h, (doRows false fs cs (rs ++ [.call nm k wd])).hand = (doRows false fs cs rs).hand ++ [h] ∧ (h = none ↔ nextM c (doRows false fs cs rs) k = none) := by
  have e : doRows false fs cs (rs ++ [.call nm k wd]) = doRow false fs cs (doRows false fs cs rs) (.call nm k wd) := by
    unfold doRows
    rw [List.foldl_append]
    rfl
  rw [e]
  unfold doRow
  simp only [hc]
  cases hn : nextM c (doRows false fs cs rs) k with
  | none => exact ⟨none, rfl, ⟨fun _ => rfl, fun _ => rfl⟩⟩
  | some p =>
    obtain ⟨j, m⟩ := p
    obtain ⟨h, eh⟩ := fin_h (fs := fs) (c := c) (mid fs c (pre false fs c (doRows false fs cs rs) j m).1 (pre false fs c (doRows false fs cs rs) j m).2 m (wd.getD Str.empty)) (pre false fs c (doRows false fs cs rs) j m).2
    refine ⟨some h, ?_, nofun, nofun⟩
    show (fin fs c _ _).hand = _
    rw [eh, mid_hand.1, pre_hand.1]
theorem hand_drop {fs : List FD} {cs : List CD} {rs : List Rw} : ∀ x ∈ (doRows false fs cs rs.dropLast).hand, x ∈ (doRows false fs cs rs).hand := by
  rcases List.eq_nil_or_concat rs with h | ⟨r, q, h⟩
  · rw [h]
    exact fun x hx => hx
  · rw [List.concat_eq_append] at h
    rw [h, List.dropLast_concat]
    have : ∃ l, (doRows false fs cs (r ++ [q])).hand = (doRows false fs cs r).hand ++ l := by
      have e : doRows false fs cs (r ++ [q]) = doRow false fs cs (doRows false fs cs r) q := by
        unfold doRows
        rw [List.foldl_append]
        rfl
      rw [e]
      cases q with
      | mk => exact ⟨_, rfl⟩
      | call nm k wd =>
        unfold doRow
        simp only
        split
        · exact ⟨_, rfl⟩
        · split
          · exact ⟨_, rfl⟩
          · rename_i _ c _ _ j m _
            obtain ⟨h, eh⟩ := fin_h (fs := fs) (c := c) (mid fs c (pre false fs c (doRows false fs cs r) j m).1 (pre false fs c (doRows false fs cs r) j m).2 m (wd.getD Str.empty)) (pre false fs c (doRows false fs cs r) j m).2
            refine ⟨[some h], ?_⟩
            show (fin fs c _ _).hand = _
            rw [eh, mid_hand.1, pre_hand.1]
    obtain ⟨l, e⟩ := this
    rw [e]
    exact fun x hx => List.mem_append_left _ hx
theorem cut_last (xs : List V) : cutV xs none (some (-1)) = xs.dropLast := by
  unfold cutV
  rw [HT.sIx_none, List.dropLast_eq_take]
  have e : HT.sIx xs.length 0 none = 0 := rfl
  have e2 : HT.sIx xs.length xs.length (some (-1)) = xs.length - 1 := by
    unfold HT.sIx
    simp only
    split <;> omega
  rw [e2, List.drop_zero, Nat.sub_zero]
theorem callOf_of : ∀ {cs : List CD} {c : CD}, (cs.map (·.nm)).Nodup → c ∈ cs → callOf cs c.nm = some c
  | [], _, _, h => by cases h
  | c0 :: cs, c, nd, h => by
    unfold callOf
    rw [List.map_cons, List.nodup_cons] at nd
    rcases List.mem_cons.mp h with e | h
    · rw [e, List.find?_cons_of_pos (by exact decide_eq_true rfl)]
    · rw [List.find?_cons_of_neg (fun z => nd.1 (by rw [of_decide_eq_true z]; exact List.mem_map_of_mem h))]
      exact callOf_of nd.2 h
end MK
set_option Elab.async false
set_option linter.all false
set_option autoImplicit false
set_option maxRecDepth 100000
set_option maxHeartbeats 4000000
namespace MK
open PySem PySem.Spec PyProof.Rows L2
open C8 (Met pe_mt pe_mt0 Mak pe_mk)
local macro_rules | `(tactic| walk_at "x") => `(tactic| dsimp only [tSeq, tAsg, tRet, tDrop, tLst, tTup, tCons, tOp, tUn, tIfS])
abbrev s_error : Stmt := topS 71
theorem sc_error : FnScope ["_law_e"] ["_law_e"] (defScope s_error) := ⟨rfl, rfl, rfl, by decide +kernel, rfl, by decide +kernel, by decide +kernel⟩
abbrev s_other_error : Stmt := topS 72
theorem sc_other_error : FnScope ["_law_e"] ["_law_e"] (defScope s_other_error) := ⟨rfl, rfl, rfl, by decide +kernel, rfl, by decide +kernel, by decide +kernel⟩
abbrev s_tried : Stmt := topS 70
theorem sc_tried : FnScope ["_law_deed_here", "_law_e"] ["_law_deed_here"] (defScope s_tried) := ⟨rfl, rfl, rfl, by decide +kernel, rfl, by decide +kernel, by decide +kernel⟩
theorem pe_nev {X : Cx} {e : Expr} : PE X e (fun _ _ _ => False) := ⟨fun _ _ _ _ _ _ h => h.elim⟩
theorem pe_nevA {X : Cx} {e2 : Expr} {n : Str} {pos : Pos} {t : TE} (_ : PE X e2 t) : PE X (.Attribute e2 n pos) (fun _ _ _ => False) := pe_nev
structure EB where
  BadField : Addr
  BadModes : Addr
  BadCall : Addr
  UnknownCall : Addr
  BadPlace : Addr
  BadText : Addr
  BadRow : Addr
  BadWord : Addr
  BadWish : Addr
  BadRun : Addr
  BadCallers : Addr
  BadKind : Addr
  BadRule : Addr
  Refused : Addr
  BadThing : Addr
  MakerError : Addr
structure ErrN (K : PySem.W.Frag) (mg : Str → Option Value) (A : EB) : Prop where
  g_BadField : mg "BadField" = some (.ref A.BadField)
  g_BadModes : mg "BadModes" = some (.ref A.BadModes)
  g_BadCall : mg "BadCall" = some (.ref A.BadCall)
  g_UnknownCall : mg "UnknownCall" = some (.ref A.UnknownCall)
  g_BadPlace : mg "BadPlace" = some (.ref A.BadPlace)
  g_BadText : mg "BadText" = some (.ref A.BadText)
  g_BadRow : mg "BadRow" = some (.ref A.BadRow)
  g_BadWord : mg "BadWord" = some (.ref A.BadWord)
  g_BadWish : mg "BadWish" = some (.ref A.BadWish)
  g_BadRun : mg "BadRun" = some (.ref A.BadRun)
  g_BadCallers : mg "BadCallers" = some (.ref A.BadCallers)
  g_BadKind : mg "BadKind" = some (.ref A.BadKind)
  g_BadRule : mg "BadRule" = some (.ref A.BadRule)
  g_Refused : mg "Refused" = some (.ref A.Refused)
  g_BadThing : mg "BadThing" = some (.ref A.BadThing)
  g_MakerError : mg "MakerError" = some (.ref A.MakerError)
  iF : ErrI K A.Refused
  r1 : PySem.W.kitOne K (.ref A.Refused) (.ref A.BadField) = some false
  r2 : PySem.W.kitOne K (.ref A.Refused) (.ref A.BadModes) = some false
  r3 : PySem.W.kitOne K (.ref A.Refused) (.ref A.BadCall) = some false
  r4 : PySem.W.kitOne K (.ref A.Refused) (.ref A.UnknownCall) = some false
  r5 : PySem.W.kitOne K (.ref A.Refused) (.ref A.BadPlace) = some false
  r6 : PySem.W.kitOne K (.ref A.Refused) (.ref A.BadText) = some false
  r7 : PySem.W.kitOne K (.ref A.Refused) (.ref A.BadRow) = some false
  r8 : PySem.W.kitOne K (.ref A.Refused) (.ref A.BadWord) = some false
  r9 : PySem.W.kitOne K (.ref A.Refused) (.ref A.BadWish) = some false
  r10 : PySem.W.kitOne K (.ref A.Refused) (.ref A.BadRun) = some false
  r11 : PySem.W.kitOne K (.ref A.Refused) (.ref A.BadCallers) = some false
  r12 : PySem.W.kitOne K (.ref A.Refused) (.ref A.BadKind) = some false
  r13 : PySem.W.kitOne K (.ref A.Refused) (.ref A.BadRule) = some false
  r14 : PySem.W.kitOne K (.ref A.Refused) (.ref A.Refused) = some true
  mF : PySem.W.exmOne K (.ref A.Refused) (.ref A.MakerError) = some true
def spErrW (A : EB) : SpP := fun a cls d vs H Q _ => vs = [.ref a] ∧ cls = .ref A.Refused ∧ d = none ∧ ∀ p, H p = none → Q (.ref p) (upd H p (.tup [.str "refused", .non]))
section
variable {P : Program} {w : World} {K : PySem.W.Frag} {mg : Str → Option Value} {base : Heap} {A : EB}
theorem ok_errO {f : Addr} {fd : FuncData} (F : DefX K mg "_law_other_error" s_other_error ["_law_e"] f fd) (T : Txt K mg) (W : ErrN K mg A) : FnP P w K mg base 1 f fd ["_law_e"] (spErrW A) := by
  refine fnP_of F sc_other_error (fun a cls d vs H Q h => ?_) (fun cdv Ar outer sh H vs Q a oe cls d hz hf hr h => ?_)
  · rw [h.1]
    rfl
  · obtain ⟨rfl, rfl, rfl, q⟩ := h
    have hp : (a, oe) ∈ [(a, oe)] := List.mem_cons_self
    refine ⟨_, (pss_cons (ps_if (pt_val (pe_callB (call_isP0 hp hz hf) (by rfl) T.isinstance (by decide +kernel) (pa_cons (pv 0) (pa_cons (pe_refv (by rfl) W.g_BadWord) pa_nil))))
(pss_one (ps_ret (pe_tup (pa_cons pe_str (pa_cons (pe_nevA (pv 0)) pa_nil)))))
pss_nil)
(pss_cons (ps_if (pt_val (pe_callB (call_isP0 hp hz hf) (by rfl) T.isinstance (by decide +kernel) (pa_cons (pv 0) (pa_cons (pe_refv (by rfl) W.g_BadWish) pa_nil))))
(pss_one (ps_ret (pe_tup (pa_cons pe_str (pa_cons (pe_nevA (pv 0)) pa_nil)))))
pss_nil)
(pss_cons (ps_if (pt_val (pe_callB (call_isP0 hp hz hf) (by rfl) T.isinstance (by decide +kernel) (pa_cons (pv 0) (pa_cons (pe_refv (by rfl) W.g_BadRun) pa_nil))))
(pss_one (ps_ret (pe_tup (pa_cons pe_str (pa_cons (pe_nevA (pv 0)) pa_nil)))))
pss_nil)
(pss_cons (ps_if (pt_val (pe_callB (call_isP0 hp hz hf) (by rfl) T.isinstance (by decide +kernel) (pa_cons (pv 0) (pa_cons (pe_refv (by rfl) W.g_BadCallers) pa_nil))))
(pss_one (ps_ret (pe_tup (pa_cons pe_str (pa_cons (pe_nevA (pv 0)) pa_nil)))))
pss_nil)
(pss_cons (ps_if (pt_val (pe_callB (call_isP0 hp hz hf) (by rfl) T.isinstance (by decide +kernel) (pa_cons (pv 0) (pa_cons (pe_refv (by rfl) W.g_BadKind) pa_nil))))
(pss_one (ps_ret (pe_tup (pa_cons pe_str (pa_cons (pe_nevA (pv 0)) pa_nil)))))
pss_nil)
(pss_cons (ps_if (pt_val (pe_callB (call_isP0 hp hz hf) (by rfl) T.isinstance (by decide +kernel) (pa_cons (pv 0) (pa_cons (pe_refv (by rfl) W.g_BadRule) pa_nil))))
(pss_one (ps_ret (pe_tup (pa_cons pe_str (pa_cons (pe_nevA (pv 0)) pa_nil)))))
pss_nil)
(pss_cons (ps_if (pt_val (pe_callB (call_isP0 hp hz hf) (by rfl) T.isinstance (by decide +kernel) (pa_cons (pv 0) (pa_cons (pe_refv (by rfl) W.g_Refused) pa_nil))))
(pss_one (ps_ret (pe_tup (pa_cons pe_str (pa_cons pe_non pa_nil)))))
pss_nil)
(pss_one (ps_ret (pe_cut (pe_ifExp (pt_val (pe_callB (call_isP0 hp hz hf) (by rfl) T.isinstance (by decide +kernel) (pa_cons (pv 0) (pa_cons (pe_refv (by rfl) W.g_BadThing) pa_nil)))) (pe_tup (pa_cons pe_str (pa_cons pe_non pa_nil))) (pe_tup (pa_cons pe_str (pa_cons pe_non pa_nil)))))))))))))), ?_⟩
    refine ⟨_, rfl, A.Refused, _, _, false, rfl, rfl, W.iF, .own _, W.r8, false, rfl, iteF ?_⟩
    refine ⟨_, rfl, A.Refused, _, _, false, rfl, rfl, W.iF, .own _, W.r9, false, rfl, iteF ?_⟩
    refine ⟨_, rfl, A.Refused, _, _, false, rfl, rfl, W.iF, .own _, W.r10, false, rfl, iteF ?_⟩
    refine ⟨_, rfl, A.Refused, _, _, false, rfl, rfl, W.iF, .own _, W.r11, false, rfl, iteF ?_⟩
    refine ⟨_, rfl, A.Refused, _, _, false, rfl, rfl, W.iF, .own _, W.r12, false, rfl, iteF ?_⟩
    refine ⟨_, rfl, A.Refused, _, _, false, rfl, rfl, W.iF, .own _, W.r13, false, rfl, iteF ?_⟩
    refine ⟨_, rfl, A.Refused, _, _, true, rfl, rfl, W.iF, .own _, W.r14, true, rfl, iteT ?_⟩
    exact ⟨by show 2 ≤ sizeLine; decide, fun p hp => q p hp⟩
theorem ok_errw {f fo : Addr} {fd fdo : FuncData} (F : DefX K mg "_law_error" s_error ["_law_e"] f fd) (T : Txt K mg) (W : ErrN K mg A) (F_oth : FnP P w K mg base 1 fo fdo ["_law_e"] (spErrW A)) (H_oth : mg "_law_other_error" = some (.ref fo) ∧ PySem.W.keepIn K (.ref fo) = true ∧ Binds K fdo ["_law_e"] []) : FnP P w K mg base 2 f fd ["_law_e"] (spErrW A) := by
  refine fnP_of F sc_error (fun a cls d vs H Q h => ?_) (fun cdv Ar outer sh H vs Q a oe cls d hz hf hr2 h => ?_)
  · rw [h.1]
    rfl
  · obtain ⟨rfl, rfl, rfl, q⟩ := h
    have hp : (a, oe) ∈ [(a, oe)] := List.mem_cons_self
    refine ⟨_, (pss_cons (ps_if (pt_val (pe_callB (call_isP0 hp hz hf) (by rfl) T.isinstance (by decide +kernel) (pa_cons (pv 0) (pa_cons (pe_refv (by rfl) W.g_BadField) pa_nil))))
(pss_one (ps_ret (pe_tup (pa_cons pe_str (pa_cons (pe_nevA (pv 0)) pa_nil)))))
pss_nil)
(pss_cons (ps_if (pt_val (pe_callB (call_isP0 hp hz hf) (by rfl) T.isinstance (by decide +kernel) (pa_cons (pv 0) (pa_cons (pe_refv (by rfl) W.g_BadModes) pa_nil))))
(pss_one (ps_ret (pe_tup (pa_cons pe_str (pa_cons (pe_nevA (pv 0)) pa_nil)))))
pss_nil)
(pss_cons (ps_if (pt_val (pe_callB (call_isP0 hp hz hf) (by rfl) T.isinstance (by decide +kernel) (pa_cons (pv 0) (pa_cons (pe_refv (by rfl) W.g_BadCall) pa_nil))))
(pss_one (ps_ret (pe_tup (pa_cons pe_str (pa_cons (pe_tup (pa_cons (pe_nevA (pv 0)) (pa_cons (pe_nevA (pv 0)) pa_nil))) pa_nil)))))
pss_nil)
(pss_cons (ps_if (pt_val (pe_callB (call_isP0 hp hz hf) (by rfl) T.isinstance (by decide +kernel) (pa_cons (pv 0) (pa_cons (pe_refv (by rfl) W.g_UnknownCall) pa_nil))))
(pss_one (ps_ret (pe_tup (pa_cons pe_str (pa_cons (pe_nevA (pv 0)) pa_nil)))))
pss_nil)
(pss_cons (ps_if (pt_val (pe_callB (call_isP0 hp hz hf) (by rfl) T.isinstance (by decide +kernel) (pa_cons (pv 0) (pa_cons (pe_refv (by rfl) W.g_BadPlace) pa_nil))))
(pss_one (ps_ret (pe_tup (pa_cons pe_str (pa_cons (pe_nevA (pv 0)) pa_nil)))))
pss_nil)
(pss_cons (ps_if (pt_val (pe_callB (call_isP0 hp hz hf) (by rfl) T.isinstance (by decide +kernel) (pa_cons (pv 0) (pa_cons (pe_refv (by rfl) W.g_BadText) pa_nil))))
(pss_one (ps_ret (pe_tup (pa_cons pe_str (pa_cons (pe_nevA (pv 0)) pa_nil)))))
pss_nil)
(pss_cons (ps_if (pt_val (pe_callB (call_isP0 hp hz hf) (by rfl) T.isinstance (by decide +kernel) (pa_cons (pv 0) (pa_cons (pe_refv (by rfl) W.g_BadRow) pa_nil))))
(pss_one (ps_ret (pe_tup (pa_cons pe_str (pa_cons (pe_nevA (pv 0)) pa_nil)))))
pss_nil)
(pss_one (ps_ret (pe_callP hp hz hf F_oth hr2 rfl H_oth.1 H_oth.2.1 H_oth.2.2 (pa_cons (pv 0) pa_nil))))))))))), ?_⟩
    refine ⟨_, rfl, A.Refused, _, _, false, rfl, rfl, W.iF, .own _, W.r1, false, rfl, iteF ?_⟩
    refine ⟨_, rfl, A.Refused, _, _, false, rfl, rfl, W.iF, .own _, W.r2, false, rfl, iteF ?_⟩
    refine ⟨_, rfl, A.Refused, _, _, false, rfl, rfl, W.iF, .own _, W.r3, false, rfl, iteF ?_⟩
    refine ⟨_, rfl, A.Refused, _, _, false, rfl, rfl, W.iF, .own _, W.r4, false, rfl, iteF ?_⟩
    refine ⟨_, rfl, A.Refused, _, _, false, rfl, rfl, W.iF, .own _, W.r5, false, rfl, iteF ?_⟩
    refine ⟨_, rfl, A.Refused, _, _, false, rfl, rfl, W.iF, .own _, W.r6, false, rfl, iteF ?_⟩
    refine ⟨_, rfl, A.Refused, _, _, false, rfl, rfl, W.iF, .own _, W.r7, false, rfl, iteF ?_⟩
    exact ⟨_, rfl, rfl, rfl, rfl, q⟩
end
def TTried (A : EB) : (XK → Hp → VK → Prop) → Hp → VK → Prop := fun tl H Q =>
  tl (fun cls d H' => cls = .ref A.Refused ∧ ∀ a, H' a = none → spErrW A a cls d [.ref a] H' Q E0) H fun v H' => ([V.str "told", v] : List V).length ≤ sizeLine ∧ ∀ p, H' p = none → Q (.ref p) (upd H' p (.tup [.str "told", v]))
def tVarL (n i : Nat) : TE := fun σ H Q => ∃ v : V, (σ.length = n → σ[i]? = some (some v)) ∧ Q v H
theorem pe_varL {X : Cx} {x : Str} {n i : Nat} {pos : Pos} (hl : X.N.length = n) (hN : X.N[i]? = some x := by rfl) (hv : Vis X.env.scope x := by first | exact .inl rfl | exact .inr (.inl rfl)) (hd : (x == ("__debug__" : Str)) = false := by decide) (hcd : (x == ("__classdict__" : Str)) = false := by decide) :
    PE X (.Name x pos) (tVarL n i) := ⟨fun pins s σ H Q I ⟨v, h, q⟩ => (pe_var (i := i) hN hv hd hcd).run pins s σ H Q I ⟨v, h (I.len.trans hl), q⟩⟩
theorem tried_gives {X : Cx} {A : EB} {fe g : Addr} {fde : FuncData} {cdg : Value} {q : Str} (F : FnP X.prog X.w X.K X.mg X.base 2 fe fde ["_law_e"] (spErrW A)) (W : ErrN X.K X.mg A) (hm : X.mg "_law_error" = some (.ref fe)) (hk : PySem.W.keepIn X.K (.ref fe) = true) (hb : Binds X.K fde ["_law_e"] []) (hr : Room 4 X.A) :
    LamX.GivesTo X ["_law_deed_here", "_law_e"] "_law_tried" (defScope s_tried) g cdg (defBody s_tried) "_law_deed_here" q (TTried A) := by
  intro f c' s H Q tl act hc h
  have hrH : ∀ (a : Addr), L2H.RoomH 2 (((cxOf C8.CX0 X.prog X.w X.K X.mg X.base ["_law_deed_here", "_law_e"] "_law_tried" (defScope s_tried) g cdg X.A X.stack s H C8.E0).nox.A).mark (some (.ref a))) := fun a => by
    have r := (hr.mono (j := 3) (by decide)).deeper (envOfC "_law_tried" (defScope s_tried) s.heap.objs.size g cdg)
    exact ⟨r.dp, r.un⟩
  refine ⟨_, pss_one (ps_try_as (X := (cxOf C8.CX0 X.prog X.w X.K X.mg X.base ["_law_deed_here", "_law_e"] "_law_tried" (defScope s_tried) g cdg X.A X.stack s H C8.E0).nox) (c := .ref A.MakerError) (i := 1)
      (tb := fun W D σ H => ∃ Ech : XK, (∀ cls d σ' H', Ech cls d H' → W cls d σ' H') ∧ σ[0]? = some (some (.ref f)) ∧ H c' = some (LamX.CodeO c' q) ∧ tl Ech H fun v H' => ([V.str "told", v] : List V).length ≤ sizeLine ∧ ∀ p, H' p = none → D.rt (.ref p) (upd H' p (.tup [.str "told", v])))
      (ts := fun a cls d => tRet (tCallP (spErrW A) a cls d (tCons (tVarL 2 1) tNil)))
      (Wout := fun _ _ _ _ => False) rfl rfl sc_tried.nd rfl rfl ⟨rfl, by decide, .inl W.g_MakerError⟩ LamX.takes0 (fun W pn xe tk _ => ?_)
      (fun a oe cls d pn hz hf => pss_one (ps_ret (pe_callP (X := Cx.suite _ a ((a, oe) :: pn)) List.mem_cons_self hz hf F (hrH a) rfl hm hk hb (pa_cons (pe_varL rfl) pa_nil))))), ?_⟩
  · refine ⟨fun pins s' σ H' D I h' => ?_⟩
    obtain ⟨Ech, hW, h1, h2, h3⟩ := h'
    refine (pss_one (ps_ret (pe_tup (pa_cons pe_str (pa_cons (act W pn xe Ech _ _ tk hW) pa_nil))))).run pins s' σ H' D I ?_
    exact ⟨h1, h2, h3⟩
  · refine ⟨fun cls d H' => cls = .ref A.Refused ∧ ∀ a, H' a = none → spErrW A a cls d [.ref a] H' Q E0, fun cls d σ' H' ⟨hc, hE⟩ => ⟨true, ?_, fun _ a ha => ?_, fun z => nomatch z⟩, rfl, hc, h⟩
    · rw [hc]
      exact W.mF
    · exact ⟨.ref a, fun z => by rw [List.getElem?_set_self (by rw [List.length_set] at z; rw [z]; decide)], hE a ha⟩
end MK
set_option Elab.async false
set_option linter.all false
set_option autoImplicit false
set_option maxRecDepth 100000
set_option maxHeartbeats 4000000
namespace MK
open PySem PySem.Spec PyProof.Rows L2
open C8 (Met pe_mt pe_mt0 Mak pe_mk)
local macro_rules | `(tactic| walk_at "x") => `(tactic| dsimp only [tSeq, tAsg, tRet, tDrop, tLst, tTup, tCons, tOp, tUn, tIfS])
abbrev s_Thing_call : Stmt := inClass (topS 57) 1
theorem sc_Thing_call : FnScope ["self", "name", "word", "yard", "is_right", "row"] ["self", "name", "word"] (defScope s_Thing_call) := ⟨rfl, rfl, rfl, by decide +kernel, rfl, by decide +kernel, by decide +kernel⟩
theorem FunU.okX {P : Program} {w : World} {K : PySem.W.Frag} {mg : Str → Option Value} {base : Heap} {x qual : Str} {st : Stmt} {f : Addr} {fd : FuncData} {N ps : List Str} {k : Nat} {sp : Sp} (F : FunU K x qual st f fd) (S : FnScope N ps (defScope st)) (len : ∀ vs H Q E, sp vs H Q E → vs.length = ps.length)
    (hbody : ∀ (cdv : Value) (A : Around) (outer : List Env) (s : Shared) (H : Hp) (vs : List V) (Q : VK) (E : XK), Room k (A.deeper (envOfC qual (defScope st) s.heap.objs.size f cdv)) → sp vs H Q E →
      ∃ t, PSs (cxOf (L2.CX P w) P w K mg base N qual (defScope st) f cdv A outer s H E) (defBody st) t ∧ t { nx := fun _ H' => Q .non H', rt := Q } (L2.start N vs) H) : FnOk P w K mg base (L2.CX P w) (k + 1) f fd ps sp := by
  obtain ⟨oc, od, dV, kV, doc, pm, an, cdv, ct, osl, rfl, lk, hcd⟩ := F.ex
  exact fn_of lk hcd S len fun A outer s H vs Q E hr hsp => hbody cdv A outer s H vs Q E hr hsp
def wdV : Option Str → V
  | none => .non
  | some z => .str z
/-- a call on a maker that stands, by a good name with a good word -/
def spTCall (K : PySem.W.Frag) (YC TC BC HC KC CF : Addr) : Sp := fun vs H Q E => ∃ (y t : Addr) (i : Nat) (kv : V) (M O : List Addr) (rl : Rl) (fs : List FD) (n : Nat) (cs : List CD) (rs : List Rw) (ths : List Addr) (nm : Str) (wd : Option Str) (j : Nat) (c : CD), vs = [.ref t, .str nm, wdV wd] ∧ YaI K YC TC BC HC KC H rl M O y kv fs n cs rs ths ∧ KdOk fs n cs ∧ RwsOk cs rs ∧ rs.length < 200 ∧ ths[i]? = some t ∧ RwOk cs rs (.call nm i wd) ∧ (doRows false fs cs rs).hand[i]? = some (some j) ∧ ((doRows false fs cs rs).ob j).mode.isSome = true ∧
  callOf cs nm = some c ∧ (nextM c (doRows false fs cs rs) i = none → ∀ H', Same H H' → E (.ref CF) none H') ∧
  (nextM c (doRows false fs cs rs) i ≠ none → ∀ H' rl' u, Same (Wo M (Hr rl H)) (Wo (u :: M) (Hr rl' H')) → u ∉ M → (∀ b ∈ O, H' b = H b) → YaI K YC TC BC HC KC H' rl' (u :: M) O y kv fs n cs (rs ++ [.call nm i wd]) (ths ++ [u]) → Q (.ref u) H')
section
variable {P : Program} {w : World} {K : PySem.W.Frag} {mg : Str → Option Value} {base : Heap} {C : Cst} {YC TC BC HC KC CF fh : Addr} {fdh : FuncData}
theorem ok_tcall {f : Addr} {fd : FuncData} (F : FunU K "call" "Thing.call" s_Thing_call f fd) (T : Txt K mg) (Z : TCls K TC) (ZY : YCls K YC) (ZB : BCls K BC) (ZH : HCls K HC) (ZK : KCls K KC) (c_is_word : Cal P w K mg base CX0 1 "is_word" (spWord K)) (m_takes : Met P w K mg base 2 KC "takes" (spTakes0 K KC) []) (H_has : FnOk P w K mg base CX0 1 fh fdh ["self", "x"] (spHas K KC) ∧ PySem.W.findIn K (.ref KC) "__contains__" = some (some (.ref fh)) ∧ PySem.W.isFn K (.ref fh) = true ∧ Binds K fdh ["self", "x"] [])
    (m_next_mode : Met P w K mg base 1 BC "next_mode" (spNext K BC KC HC) []) (m_put_row : Met P w K mg base 6 YC "put_row" (spPut K YC TC BC HC KC) []) (x_Refused : Exc0 K mg "Refused" CF) (s_Refused : PySem.W.subIn K (.ref CF) (.type "BaseException") = some true ∧ PySem.W.typeIn K (.ref CF) = some (.type "type")) :
    FnOk P w K mg base (L2.CX P w) 8 f fd ["self", "name", "word"] (spTCall K YC TC BC HC KC CF) := by
  refine F.okX sc_Thing_call (fun vs H Q E h => ?_) (fun cdv A outer sh H vs Q E hr h => ?_)
  · obtain ⟨_, _, _, _, _, _, _, _, _, _, _, _, _, _, _, _, rfl, _⟩ := h
    rfl
  · obtain ⟨y, t, i, kv, M, O, rl, fs, n, cs, rs, ths, nm, wd, j, c, rfl, YI, ok, rok, lr, ht, rk, hh, hm, hc, q1, q2⟩ := h
    refine ⟨_, (pss_cons (ps_set (i := 3) sc_Thing_call.nd rfl (Or.inl rfl) (pe_fld (pv 0) rfl))
(pss_cons (ps_if (pt_cut (PW.pt (pw_or (pt_val (pe_fld (pv 0) rfl)) (pw_or1 (pt_cmpR op_isN (pe_fld (pe_ix ix_list (pe_fld (pe_fld (pv 3) rfl) rfl) (pe_fld (pv 0) rfl) (fun _ _ => rfl)) rfl) pe_non (nomark _))))))
(pss_one (ps_never))
pss_nil)
(pss_cons (ps_if (pt_cmpR (op_notInOwn H_has.1 H_has.2.1 H_has.2.2.1 H_has.2.2.2 (hr.mono (by decide))) (pv 1) (pe_fld (pv 3) rfl) (by rfl))
(pss_one (ps_never))
pss_nil)
(pss_cons (ps_set (i := 4) sc_Thing_call.nd rfl (Or.inl rfl) (pe_cut (pe_ifExp (pt_val (pe_mt m_takes hr (by decide) (pe_fld (pv 3) rfl) (pa_cons (pv 1) pa_nil))) (pe_c c_is_word hr (by first | decide | assumption) rfl (pa_cons (pv 2) pa_nil)) (pe_cmpR op_isN (pv 2) pe_non (nomark _)))))
(pss_cons (ps_if (pt_not (pt_val (pv 4)))
(pss_one (ps_never))
pss_nil)
(pss_cons (ps_set (i := 5) sc_Thing_call.nd rfl (Or.inl rfl) (pe_cut (pe_ifExp (pt_cmpR op_isN (pv 2) pe_non (nomark _)) (pe_tup (pa_cons (pv 1) (pa_cons (pe_fld (pv 0) rfl) pa_nil))) (pe_tup (pa_cons (pv 1) (pa_cons (pe_fld (pv 0) rfl) (pa_cons (pv 2) pa_nil)))))))
(pss_cons (ps_if (pt_cmpR op_eq (pe_mt m_next_mode hr (by decide) (pe_fld (pv 3) rfl) (pa_cons (pv 5) pa_nil)) (pe_un un_neg pe_int) (nomark _))
(pss_one (ps_raise0 x_Refused (raises_own s_Refused.1 s_Refused.2) rfl (takes_of rfl rfl rfl rfl) rfl))
pss_nil)
(pss_one (ps_ret (pe_mt m_put_row hr (by decide) (pv 3) (pa_cons (pv 5) pa_nil))))))))))), ?_⟩
    obtain ⟨ydx, pa, be, pl, la, ha, ea, rvs, evs, ls, os, I⟩ := id YI
    obtain ⟨tdx, th⟩ := I.th i t ht
    have wf := Wf.rows (av := false) ok rok rs.length (Nat.le_refl _)
    rw [List.take_length] at wf
    have hln := wf.hl
    have w0 := wf.w
    obtain ⟨bdx, bkv, bh, bk⟩ := id I.bch
    have bw : Same (Wo M (Hr rl H)) H := wo_same.trans hr_same
    have bh0 := bw _ _ bh
    have kd0 := I.kd.keep bw
    obtain ⟨ka, kdx, _, _, _, _, _, _, _, rfl, kh, _⟩ := id kd0
    have jl := wf.hand i j hh
    obtain ⟨x, hx, hx1, hx2, hx3⟩ := I.bn.x (j := j) jl
    have hx1 : H x.1 = some (pRep HC ((doRows false fs cs rs).ob j).mode x.2.1 x.2.2) := hx1
    obtain ⟨m, hm'⟩ := Option.isSome_iff_exists.mp hm
    rw [hm'] at hx1
    have hv : ((doRows false fs cs rs).hand.map (handV os))[i]? = some (.ref x.1) := by rw [List.getElem?_map, hh, ← hx3]; rfl
    obtain ⟨c0, hc0, ⟨r', hr', hl'⟩, tk, wok⟩ := rk
    obtain rfl : c0 = c := Option.some.inj (hc0.symm.trans hc)
    have rk : RwOk cs rs (.call nm i wd) := ⟨c0, hc, ⟨r', hr', hl'⟩, tk, wok⟩
    have il : i < rs.length := (List.getElem?_eq_some_iff.mp hr').1
    obtain ⟨cm, ecn⟩ := callOf_mem hc
    refine ⟨_, rfl, t, TC, tdx, _, .ref y, rfl, th, Z.cls, Z.yard, rfl, ?_⟩
    -- it stands, a maker
    refine ⟨fun b H' => b = false ∧ H' = H, ⟨_, rfl, t, TC, tdx, _, .bl false, rfl, th, Z.cls, Z.gone, rfl, false, rfl, iteF ?_⟩, ?_⟩
    · refine ⟨_, rfl, y, YC, ydx, _, .ref be, rfl, I.yh, ZY.cls, ZY.bench, rfl, be, BC, bdx, _, .ref ha, rfl, bh0, ZB.cls, ZB.handed, rfl, _, rfl, t, TC, tdx, _, .int (i : Nat), rfl, th, Z.cls, Z.number, rfl, ha, _, _, _, rfl, rfl, SqL.of I.bn.hah, atI_nat hv, x.1, HC, x.2.2, _, mV (some m), rfl, hx1, ZH.cls, ZH.mode, rfl, rfl, _, rfl, decide_eq_false nofun, rfl⟩
    rintro _ H0 ⟨rfl, rfl⟩
    refine iteF ?_
    -- its name
    refine ⟨_, rfl, _, rfl, y, YC, ydx, _, .ref ka, rfl, I.yh, ZY.cls, ZY.kind, rfl, ka, kdx, _, rfl, kh, .ref ka, .str nm, fs, n, cs, rfl, kd0, .inl ⟨nm, rfl, _, rfl, _, rfl, iteF2 ?_ ?_⟩⟩
    · rw [if_pos rfl, decide_eq_true (by rw [← ecn]; exact List.mem_map_of_mem cm)]
      rfl
    -- its word
    refine ⟨fun v H' => v = .bl true ∧ Same H0 H', ?_, ?_⟩
    · refine ⟨_, rfl, y, YC, ydx, _, .ref ka, rfl, I.yh, ZY.cls, ZY.kind, rfl, ka, kdx, _, rfl, kh, rfl, _, rfl, .ref ka, nm, fs, n, cs, c0, rfl, kd0, ok, hc, fun H1 e1 => ⟨_, rfl, ?_⟩⟩
      cases wd with
      | none => exact iteF2 tk.symm ⟨_, rfl, rfl, congrArg V.bl (decide_eq_true rfl), e1⟩
      | some z => exact iteT2 tk.symm ⟨_, rfl, .str z, rfl, .inl ⟨z, rfl, word_sz (wok z rfl), fun H2 e2 => ⟨congrArg V.bl (wok z rfl), e1.trans e2⟩⟩⟩
    rintro _ H1 ⟨rfl, e1⟩
    refine ⟨_, rfl, true, rfl, iteF ?_⟩
    -- its row
    refine ⟨fun v H' => ∃ q, v = .ref q ∧ H' q = some (.tup (RwV (.call nm i wd))) ∧ Same H1 H' ∧ H1 q = none, ?_, ?_⟩
    · cases wd with
      | none => exact ⟨_, rfl, rfl, _, rfl, iteT2 (decide_eq_true rfl) ⟨_, rfl, _, rfl, t, TC, tdx, _, .int (i : Nat), rfl, e1 _ _ th, Z.cls, Z.number, rfl, by show 2 ≤ sizeLine; decide, fun q hq => ⟨q, rfl, upd_same, same_new (Same.refl _) hq, hq⟩⟩⟩
      | some z => exact ⟨_, rfl, rfl, _, rfl, iteF2 (decide_eq_false nofun) ⟨_, rfl, _, rfl, t, TC, tdx, _, .int (i : Nat), rfl, e1 _ _ th, Z.cls, Z.number, rfl, _, rfl, by show 3 ≤ sizeLine; decide, fun q hq => ⟨q, rfl, upd_same, same_new (Same.refl _) hq, hq⟩⟩⟩
    rintro _ H2 ⟨q, rfl, hq, e2, hq0⟩
    have e02 := e1.trans e2
    have YI2 := YI.new e02
    have F2 : Same (Wo M (Hr rl H0)) (Wo M (Hr rl H2)) := YaI.fr e02
    have rq : rl q = none := (I.bn.keep e1).fresh hq0
    have qM : q ∉ M := fun h => by
      cases z : H0 q with
      | none => exact I.mh q h z
      | some o => rw [e1 _ _ z] at hq0; cases hq0
    refine ⟨_, rfl, y, YC, ydx, _, .ref be, rfl, e02 _ _ I.yh, ZY.cls, ZY.bench, rfl, be, bdx, _, rfl, e02 _ _ bh0, rfl, _, rfl, be, la, ha, ea, .ref q, .lst evs, ls, os, _, rl, fs, n, cs, false, nm, i, wd, c0, rfl, (I.bch.keep F2).keep wo_same, I.bn.keep e02, ok, ⟨q, rfl, SqT.of (hr_get hq rq)⟩, hc, by omega, fun j' hj' => ?_, ?_⟩
    · rw [hh] at hj'
      cases hj'
      exact ⟨m, hm', w0.mode _ (ob_mem jl) m hm'⟩
    cases hn : nextM c0 (doRows false fs cs rs) i with
    | none => exact ⟨1, rfl, rfl, _, rfl, iteT (q1 hn H2 e02)⟩
    | some p =>
      obtain ⟨j', m'⟩ := p
      refine ⟨1, rfl, rfl, _, rfl, iteF2 (decide_eq_false fun e => by
        have := V.int.inj e
        omega) ?_⟩
      refine ⟨_, rfl, y, ydx, _, rfl, e02 _ _ I.yh, rfl, _, rfl, y, .ref q, .ref ka, M, O, rl, fs, n, cs, rs, ths, .call nm i wd, rfl, YI2, ok, rok, ⟨q, rfl, SqT.of ((wo_get qM).trans (hr_get hq rq))⟩, rk, lr, fun H' rl' u F uM ob I' => ?_⟩
      refine q2 (by rw [hn]; exact nofun) H' rl' u (F2.trans F) uM (fun b hb => (ob b hb).trans ?_) I'
      cases z : H0 b with
      | none => exact absurd z (I.mh b (I.om b hb).1)
      | some o => exact e02 _ _ z
end
end MK
set_option Elab.async false
set_option linter.all false
set_option autoImplicit false
set_option maxRecDepth 100000
set_option maxHeartbeats 4000000
namespace MK
open PySem PySem.Spec PyProof.Rows L2
open C8 (Met pe_mt pe_mt0 Mak pe_mk)
local macro_rules | `(tactic| walk_at "x") => `(tactic| dsimp only [tSeq, tAsg, tRet, tDrop, tLst, tTup, tCons, tOp, tUn, tIfS])
abbrev s_law : Stmt := topS 89
theorem sc_law : FnScope ["_law_script", "_law_state", "_law_turn", "_law_p", "_law_yard", "_law_rows", "_law_things", "_law_k", "_law_way", "_law_call_here", "_law_at", "_law_word", "_law_row", "_law_is_right_here", "_law_found"] ["_law_script"] (defScope s_law) := ⟨rfl, rfl, rfl, by decide +kernel, rfl, by decide +kernel, by decide +kernel⟩
theorem ix_listK {X : Cx} {K : PySem.W.Frag} (h : X.K = K) : IxR X (rIxL K) := by subst h; exact ix_list
/-- _law_tried(lambda: body) -/
theorem pe_triedZ {X : Cx} {A : EB} {k : Nat} {g fe c P : Addr} {fd fde : FuncData} {params : Arguments} {body : Expr} {scope : Scope} {t : XK → TE} {p lpos pos : Pos} (F : DefX X.K X.mg "_law_tried" s_tried ["_law_deed_here"] g fd) (FE : FnP X.prog X.w X.K X.mg X.base 2 fe fde ["_law_e"] (spErrW A)) (W : ErrN X.K X.mg A)
    (he : X.mg "_law_error" = some (.ref fe) ∧ PySem.W.keepIn X.K (.ref fe) = true ∧ Binds X.K fde ["_law_e"] []) (TB : LamX.TabB X.base X.mg c P) (hcode : X.env.code = .ref c) (hr : Room (k + 4) X.A) (L : LamX.LamS X.env.scope scope) (hdef : defaultsOf params X.env = ([], []))
    (hbind : ∀ (q : Str) (cl : List (Str × Addr)) (pm cv ctv : Value), bindArgs (PySem.W.kla_fn "<lambda>" q params body scope cl pm cv ctv) ⟨[], []⟩ = pure [])
    (hbody : ∀ (A : Around) (outer : List Env) (s : Shared) (H : Hp) (E : XK) (f c' : Addr), Room k (A.deeper (LamX.lamEnv X scope s.heap.objs.size f c')) → PE (LamX.lamCx X A outer s H E scope f c') body (t E)) (hg : Gl X "_law_tried" := by rfl) :
    PE X (.Call (.Name "_law_tried" p) [.Lambda params body scope lpos] [] pos) (tLamZ P (X.env.qual ++ "<lambda>") (TTried A) t) := by
  obtain ⟨oc, od, kV, doc, pm, an, cdv, ct, osl, e, lk, hcd⟩ := F.fn.ex
  subst e
  exact pe_lamcallZ (a := "_law_deed_here") hg F.mgf F.fn.kp lk hcd F.bi sc_tried rfl (.inl rfl) (tried_gives FE W he.1 he.2.1 he.2.2 (hr.mono (by omega))) TB hcode (hr.mono (by omega)) L hdef hbind hbody
def lamQ : Str := (envOfC "law" (defScope s_law) 0 0 .none).qual ++ "<lambda>"
def Plan9 (K : PySem.W.Frag) (KC : Addr) (H : Hp) (p l1 l2 : Addr) (kv : V) (fvs cvs : List V) (fs : List FD) (n : Nat) (cs : List CD) : Prop := H p = some (.dK (planV l1 l2 n kv)) ∧ H l1 = some (.lst fvs) ∧ Al (FdT K H) fvs fs ∧ H l2 = some (.lst cvs) ∧ Al (CdL K H) cvs cs ∧ KdA K KC H kv fs n cs
theorem Plan9.keep {K : PySem.W.Frag} {KC : Addr} {H H' : Hp} {p l1 l2 : Addr} {kv : V} {fvs cvs : List V} {fs : List FD} {n : Nat} {cs : List CD} (e : Same H H') (h : Plan9 K KC H p l1 l2 kv fvs cvs fs n cs) : Plan9 K KC H' p l1 l2 kv fvs cvs fs n cs := by
  obtain ⟨h1, h2, h3, h4, h5, h6⟩ := h
  exact ⟨e _ _ h1, e _ _ h2, h3.mono fun _ _ h => FdT.keep e h, e _ _ h4, h5.mono fun _ _ h => CdL.keep e h, h6.keep e⟩
theorem Plan9.c {K : PySem.W.Frag} {KC : Addr} {H : Hp} {p l1 l2 : Addr} {kv : V} {fvs cvs : List V} {fs : List FD} {n : Nat} {cs : List CD} (h : Plan9 K KC H p l1 l2 kv fvs cvs fs n cs) : LpC K H (.ref p) cs := ⟨p, l2, cvs, _, rfl, h.1, rfl, h.2.2.2.1, h.2.2.2.2.1⟩
theorem Plan9.f {K : PySem.W.Frag} {KC : Addr} {H : Hp} {p l1 l2 : Addr} {kv : V} {fvs cvs : List V} {fs : List FD} {n : Nat} {cs : List CD} (h : Plan9 K KC H p l1 l2 kv fvs cvs fs n cs) : LpF K H (.ref p) fs := ⟨p, l1, fvs, _, rfl, h.1, rfl, h.2.1, h.2.2.1⟩
theorem Plan9.a {K : PySem.W.Frag} {KC : Addr} {H : Hp} {p l1 l2 : Addr} {kv : V} {fvs cvs : List V} {fs : List FD} {n : Nat} {cs : List CD} (h : Plan9 K KC H p l1 l2 kv fvs cvs fs n cs) : PlanA K KC H (.ref p) fs n cs := ⟨p, l1, l2, kv, fvs, cvs, rfl, h⟩
/-- all but what may change -/
abbrev Gd (M : List Addr) (rl : Rl) (H : Hp) : Hp := Wo M (Hr rl H)
abbrev Ze (M : List Addr) (rl : Rl) : Addr → Prop := fun b => b ∈ M ∨ rl b ≠ none
theorem gd_at {M : List Addr} {rl : Rl} {H : Hp} {b : Addr} {o : HO} (h : H b = some o) (n : ¬ Ze M rl b) : Gd M rl H b = some o := (wo_get fun m => n (.inl m)).trans (hr_get h (by
  cases q : rl b with
  | none => rfl
  | some r => exact absurd (.inr (by rw [q]; exact nofun)) n))
theorem gd_of {M : List Addr} {rl : Rl} {H : Hp} {b : Addr} {o : HO} (h : Gd M rl H b = some o) : H b = some o ∧ ¬ Ze M rl b := by
  obtain ⟨n, h⟩ := wo_some h
  obtain ⟨r, h⟩ := hr_some h
  exact ⟨h, fun z => z.elim n fun z => z r⟩
theorem gd_same {M : List Addr} {rl : Rl} {H : Hp} : Same (Gd M rl H) H := wo_same.trans hr_same
/-- the state, the law's table, its plan -/
structure YB (K : PySem.W.Frag) (KC : Addr) (H : Hp) (rl : Rl) (M O : List Addr) (s c Pl : Addr) (ns : List Int) (p l1 l2 : Addr) (kv : V) (fvs cvs : List V) (fs : List FD) (n : Nat) (cs : List CD) : Prop where
  so : s ∈ O
  po : Pl ∈ O
  ne : c ≠ s
  st : ∃ (a b : Int) (m : Bool), H s = some (.lst [.ref c, .int a, .int b, .bl m])
  cl : Gd M rl H c = some (.lst (ns.map V.int))
  tb : TabZ (Ze M rl) H Pl lamQ
  pl : Plan9 K KC (Gd M rl H) p l1 l2 kv fvs cvs fs n cs
section
variable {K : PySem.W.Frag} {KC : Addr} {H H' : Hp} {rl rl' : Rl} {M M' O O' : List Addr} {s c Pl : Addr} {ns : List Int} {p l1 l2 : Addr} {kv : V} {fvs cvs : List V} {fs : List FD} {n : Nat} {cs : List CD}
theorem YB.sta (h : YB K KC H rl M O s c Pl ns p l1 l2 kv fvs cvs fs n cs) : StA H s c ns := ⟨h.ne, gd_same _ _ h.cl, h.st⟩
theorem YB.nP (h : YB K KC H rl M O s c Pl ns p l1 l2 kv fvs cvs fs n cs) : s ≠ Pl := fun e => by
  obtain ⟨_, _, _, h1⟩ := h.st
  obtain ⟨tb, h2, _⟩ := h.tb
  rw [e, h2] at h1
  cases h1
theorem YB.gen (h : YB K KC H rl M O s c Pl ns p l1 l2 kv fvs cvs fs n cs) (e : Same (Gd M rl H) (Gd M' rl' H')) (so : s ∈ O') (po : Pl ∈ O') (hs : ∃ (a b : Int) (m : Bool), H' s = some (.lst [.ref c, .int a, .int b, .bl m])) (hP : H' Pl = H Pl) : YB K KC H' rl' M' O' s c Pl ns p l1 l2 kv fvs cvs fs n cs where
  so := so
  po := po
  ne := h.ne
  st := hs
  cl := e _ _ h.cl
  tb := h.tb.step hP fun b hb nz => gd_of (e _ _ (gd_at hb nz))
  pl := h.pl.keep e
theorem YB.go (h : YB K KC H rl M O s c Pl ns p l1 l2 kv fvs cvs fs n cs) (e : Same (Gd M rl H) (Gd M' rl' H')) (sub : ∀ b ∈ O, b ∈ O') (o : ∀ b ∈ O, H' b = H b) : YB K KC H' rl' M' O' s c Pl ns p l1 l2 kv fvs cvs fs n cs :=
  h.gen e (sub _ h.so) (sub _ h.po) (by rw [o _ h.so]; exact h.st) (o _ h.po)
theorem YB.new (h : YB K KC H rl M O s c Pl ns p l1 l2 kv fvs cvs fs n cs) (e : Same H H') : YB K KC H' rl M O s c Pl ns p l1 l2 kv fvs cvs fs n cs :=
  h.gen (YaI.fr e) h.so h.po (by obtain ⟨a, b, m, g⟩ := h.st; exact ⟨a, b, m, e _ _ g⟩) (by obtain ⟨tb, g, _⟩ := h.tb; rw [e _ _ g, g])
/-- things, rows -/
structure YR (K : PySem.W.Frag) (H : Hp) (rl : Rl) (M O : List Addr) (fs : List FD) (cs : List CD) (s Pl : Addr) (rs : List Rw) (ths : List Addr) (ra T : Addr) (rvs : List V) : Prop where
  to : T ∈ O
  ts : T ≠ s
  tp : T ≠ Pl
  th : H T = some (.lst (ths.map V.ref))
  ra : Gd M rl H ra = some (.lst rvs)
  al : Al (RowT K (Gd M rl H)) rvs rs
  rok : RwsOk cs rs
  hs : ∀ x ∈ (doRows false fs cs rs).hand, x ≠ none
theorem YR.gen {rs : List Rw} {ths : List Addr} {ra T : Addr} {rvs : List V} (h : YR K H rl M O fs cs s Pl rs ths ra T rvs) (e : Same (Gd M rl H) (Gd M' rl' H')) (sub : ∀ b ∈ O, b ∈ O') (o : H' T = H T) : YR K H' rl' M' O' fs cs s Pl rs ths ra T rvs :=
  { h with to := sub _ h.to, th := o.trans h.th, ra := e _ _ h.ra, al := h.al.mono fun _ _ h => Tu.keep e h }
theorem YR.new {rs : List Rw} {ths : List Addr} {ra T : Addr} {rvs : List V} (h : YR K H rl M O fs cs s Pl rs ths ra T rvs) (e : Same H H') : YR K H' rl M O fs cs s Pl rs ths ra T rvs :=
  h.gen (YaI.fr e) (fun _ h => h) (by rw [e _ _ h.th, h.th])
end
/-- all of it -/
structure YA (K : PySem.W.Frag) (YC TC BC HC KC : Addr) (H : Hp) (rl : Rl) (M O : List Addr) (y : Addr) (s c Pl : Addr) (ns : List Int) (p l1 l2 : Addr) (kv : V) (fvs cvs : List V) (fs : List FD) (n : Nat) (cs : List CD) (rs : List Rw) (ths : List Addr) (ra T : Addr) (rvs : List V) : Prop where
  y : YaI K YC TC BC HC KC H rl M O y kv fs n cs rs ths
  b : YB K KC H rl M O s c Pl ns p l1 l2 kv fvs cvs fs n cs
  r : YR K H rl M O fs cs s Pl rs ths ra T rvs
section
variable {K : PySem.W.Frag} {YC TC BC HC KC : Addr} {H H' : Hp} {rl rl' : Rl} {M M' O O' : List Addr} {y s c Pl : Addr} {ns : List Int} {p l1 l2 : Addr} {kv : V} {fvs cvs : List V} {fs : List FD} {n : Nat} {cs : List CD} {rs : List Rw} {ths : List Addr} {ra T : Addr} {rvs : List V}
theorem YA.new (h : YA K YC TC BC HC KC H rl M O y s c Pl ns p l1 l2 kv fvs cvs fs n cs rs ths ra T rvs) (e : Same H H') : YA K YC TC BC HC KC H' rl M O y s c Pl ns p l1 l2 kv fvs cvs fs n cs rs ths ra T rvs := ⟨h.y.new e, h.b.new e, h.r.new e⟩
/-- behind a draw -/
theorem YA.sx (h : YA K YC TC BC HC KC H rl M O y s c Pl ns p l1 l2 kv fvs cvs fs n cs rs ths ra T rvs) (e : SameX s H H') (hs : StA H' s c ns) : YA K YC TC BC HC KC H' rl M O y s c Pl ns p l1 l2 kv fvs cvs fs n cs rs ths ra T rvs := by
  have hl : H' s ≠ none := by
    obtain ⟨_, _, a, b, m, g⟩ := hs
    rw [g]
    exact nofun
  obtain ⟨i, f⟩ := h.y.sx h.b.so e hl
  refine ⟨i, h.b.gen f h.b.so h.b.po hs.2.2 ?_, h.r.gen f (fun _ h => h) ?_⟩
  · obtain ⟨tb, g, _⟩ := h.b.tb
    rw [e _ _ g (Ne.symm h.b.nP), g]
  · rw [e _ _ h.r.th h.r.ts, h.r.th]
/-- behind a lambda -/
theorem YA.lam (h : YA K YC TC BC HC KC H rl M O y s c Pl ns p l1 l2 kv fvs cvs fs n cs rs ths ra T rvs) (e : ∀ b o, b ≠ Pl → H b = some o → H' b = some o) (t : TabZ (Ze M rl) H' Pl lamQ) : YA K YC TC BC HC KC H' rl M O y s c Pl ns p l1 l2 kv fvs cvs fs n cs rs ths ra T rvs := by
  have e' : ∀ b o, H b = some o → b ∉ O → H' b = some o := fun b o hb n => e b o (fun z => n (z ▸ h.b.po)) hb
  have hl : ∀ b ∈ O, H' b ≠ none := fun b hb z => by
    by_cases q : b = Pl
    · obtain ⟨tb, g, _⟩ := t
      rw [q, g] at z
      cases z
    · cases r : H b with
      | none => exact h.y.om.2 b (.inl (h.y.om.1 b hb)) r
      | some o => rw [e _ _ q r] at z; cases z
  obtain ⟨i, f⟩ := h.y.oth e' hl
  refine ⟨i, { so := h.b.so, po := h.b.po, ne := h.b.ne, st := ?_, cl := f _ _ h.b.cl, tb := t, pl := h.b.pl.keep f }, h.r.gen f (fun _ h => h) ?_⟩
  · obtain ⟨a, b, m, g⟩ := h.b.st
    exact ⟨a, b, m, e _ _ h.b.nP g⟩
  · rw [e _ _ h.r.tp h.r.th, h.r.th]
/-- the list of things is written -/
theorem YA.put (h : YA K YC TC BC HC KC H rl M O y s c Pl ns p l1 l2 kv fvs cvs fs n cs rs ths ra T rvs) (xs : List V) : YaI K YC TC BC HC KC (upd H T (.lst xs)) rl M O y kv fs n cs rs ths ∧ YB K KC (upd H T (.lst xs)) rl M O s c Pl ns p l1 l2 kv fvs cvs fs n cs ∧ Same (Gd M rl H) (Gd M rl (upd H T (.lst xs))) := by
  have e' : ∀ b o, H b = some o → b ∉ O → upd H T (.lst xs) b = some o := fun b o hb n => (upd_ne fun z => n (by rw [z]; exact h.r.to)).trans hb
  have hl : ∀ b ∈ O, upd H T (.lst xs) b ≠ none := fun b hb z => by
    by_cases q : b = T
    · rw [q, upd_same] at z
      cases z
    · rw [upd_ne q] at z
      exact h.y.om.2 b (.inl (h.y.om.1 b hb)) z
  obtain ⟨i, f⟩ := h.y.oth e' hl
  exact ⟨i, h.b.gen f h.b.so h.b.po (by rw [upd_ne (Ne.symm h.r.ts)]; exact h.b.st) (upd_ne (Ne.symm h.r.tp)), f⟩
end
theorem nx_wo2 {s Pl : Addr} {H : Hp} {tb : Array Value} (h : H Pl = some (.tbl tb)) : Same (Nx s H) (Wo [s, Pl] H) := fun b o hb => by
  obtain ⟨hb, g⟩ := nt_get hb
  have n1 : b ≠ s := fun e => by rw [e, off_s] at hb; cases hb
  rw [off_ne n1] at hb
  have n2 : b ≠ Pl := fun e => by
    rw [e, h] at hb
    exact g tb (Option.some.inj hb).symm
  refine (wo_get fun m => ?_).trans hb
  simp only [List.mem_cons, List.not_mem_nil, or_false] at m
  exact m.elim n1 n2
theorem PlanA.nt {K : PySem.W.Frag} {KC : Addr} {H : Hp} {v : V} {fs : List FD} {n : Nat} {cs : List CD} (h : PlanA K KC H v fs n cs) : PlanA K KC (Nt H) v fs n cs := by
  obtain ⟨p, l1, l2, kv, fvs, cvs, h0, h1, h2, h3, h4, h5, h6⟩ := h
  exact ⟨p, l1, l2, kv, fvs, cvs, h0, nt_of h1 nofun, nt_of h2 nofun, h3.mono fun _ _ h => Tu.nt h, nt_of h4 nofun, h5.mono fun _ _ h => CdL.nt h, h6.nt⟩
section
variable {K : PySem.W.Frag} {YC TC BC HC KC : Addr} {H H' : Hp} {rl rl' : Rl} {M M' O O' : List Addr} {y s c Pl : Addr} {ns : List Int} {p l1 l2 : Addr} {kv : V} {fvs cvs : List V} {fs : List FD} {n : Nat} {cs : List CD} {rs : List Rw} {ths : List Addr} {ra T : Addr} {rvs : List V}
/-- new lists of rows and things -/
theorem YA.mk3 {ra T tq : Addr} {o : HO} (Y : YaI K YC TC BC HC KC H rl M O y kv fs n cs rs ths) (B : YB K KC H rl M O s c Pl ns p l1 l2 kv fvs cvs fs n cs) (hra : H ra = none) (hT : upd H ra (.lst rvs) T = none) (htq : upd (upd H ra (.lst rvs)) T (.lst (ths.map V.ref)) tq = none)
    (al : Al (RowT K (Gd M rl H)) rvs rs) (rok : RwsOk cs rs) (hs : ∀ x ∈ (doRows false fs cs rs).hand, x ≠ none) :
    YA K YC TC BC HC KC (upd (upd (upd H ra (.lst rvs)) T (.lst (ths.map V.ref))) tq o) rl (T :: M) (T :: O) y s c Pl ns p l1 l2 kv fvs cvs fs n cs rs ths ra T rvs := by
  have e45 := same_new (Same.refl H) hra (o := .lst rvs)
  have e56 := same_new (Same.refl _) hT (o := .lst (ths.map V.ref))
  have e67 := same_new (Same.refl _) htq (o := o)
  have Y5 := Y.new e45
  obtain ⟨Y6, f56⟩ := Y5.add e56 hT (by rw [upd_same]; exact nofun)
  have Y7 := Y6.new e67
  have f47 := ((YaI.fr (rl := rl) (M := M) e45).trans f56).trans (YaI.fr e67)
  have e47 := (e45.trans e56).trans e67
  obtain ⟨a0, b0, m0, hs4⟩ := B.st
  obtain ⟨tb, hP4, _⟩ := B.tb
  have B7 := B.gen f47 (O' := T :: O) (List.mem_cons_of_mem _ B.so) (List.mem_cons_of_mem _ B.po) ⟨a0, b0, m0, e47 _ _ hs4⟩ (by rw [e47 _ _ hP4, hP4])
  have raT : ra ≠ T := fun z => by rw [← z, upd_same] at hT; cases hT
  have nT : ∀ {b : Addr} {o : HO}, H b = some o → T ≠ b := fun h z => by
    have := e45 _ _ h
    rw [← z, hT] at this
    cases this
  refine ⟨Y7, B7, List.mem_cons_self, nT hs4, nT hP4, e67 _ _ upd_same, gd_at ((e56.trans e67) _ _ upd_same) (fun z => ?_), al.mono fun _ _ h => Tu.keep f47 h, rok, hs⟩
  exact (Y.om.2 ra (z.imp (fun m => (List.mem_cons.mp m).elim (fun q => absurd q raT) id) id)) hra
/-- one more row, its thing is put on the list -/
theorem YA.snoc {r : Rw} {t : Addr} (A : YA K YC TC BC HC KC H rl M O y s c Pl ns p l1 l2 kv fvs cvs fs n cs rs ths ra T rvs) (Y : YaI K YC TC BC HC KC H' rl' M' O y kv fs n cs (rs ++ [r]) (ths ++ [t])) (F : Same (Gd M rl H) (Gd M' rl' H')) (o : ∀ b ∈ O, H' b = H b) :
    YaI K YC TC BC HC KC (upd H' T (.lst (ths.map V.ref ++ [.ref t]))) rl' M' O y kv fs n cs (rs ++ [r]) (ths ++ [t]) ∧ YB K KC (upd H' T (.lst (ths.map V.ref ++ [.ref t]))) rl' M' O s c Pl ns p l1 l2 kv fvs cvs fs n cs ∧ Same (Gd M rl H) (Gd M' rl' (upd H' T (.lst (ths.map V.ref ++ [.ref t])))) := by
  have B := A.b.go F (fun _ h => h) o
  have e' : ∀ b o, H' b = some o → b ∉ O → upd H' T (.lst (ths.map V.ref ++ [.ref t])) b = some o := fun b o hb n => (upd_ne fun z => n (by rw [z]; exact A.r.to)).trans hb
  have hl : ∀ b ∈ O, upd H' T (.lst (ths.map V.ref ++ [.ref t])) b ≠ none := fun b hb z => by
    by_cases q : b = T
    · rw [q, upd_same] at z
      cases z
    · rw [upd_ne q] at z
      exact Y.om.2 b (.inl (Y.om.1 b hb)) z
  obtain ⟨i, f⟩ := Y.oth e' hl
  exact ⟨i, B.gen f B.so B.po (by rw [upd_ne (Ne.symm A.r.ts)]; exact B.st) (upd_ne (Ne.symm A.r.tp)), F.trans f⟩
theorem rok_snoc {r : Rw} (h : RwsOk cs rs) (k : RwOk cs rs r) : RwsOk cs (rs ++ [r]) := fun i x hx => by
  by_cases q : i < rs.length
  · rw [List.getElem?_append_left q] at hx
    rw [List.take_append_of_le_length (Nat.le_of_lt q)]
    exact h i x hx
  · rw [List.getElem?_append_right (by omega)] at hx
    have z : i - rs.length = 0 := by
      have := (List.getElem?_eq_some_iff.mp hx).1
      simp only [List.length_cons, List.length_nil] at this
      omega
    rw [z] at hx
    cases hx
    have e : i = rs.length := by omega
    rw [e, List.take_left']
    · exact k
    · rfl
/-- and its row behind the rows -/
theorem YA.rows {r : Rw} {t ra' : Addr} {rv : V} (A : YA K YC TC BC HC KC H rl M O y s c Pl ns p l1 l2 kv fvs cvs fs n cs rs ths ra T rvs) {H2 H3 : Hp} (Y : YaI K YC TC BC HC KC H2 rl' M' O y kv fs n cs (rs ++ [r]) (ths ++ [t])) (B : YB K KC H2 rl' M' O s c Pl ns p l1 l2 kv fvs cvs fs n cs) (F : Same (Gd M rl H) (Gd M' rl' H2)) (e : Same H2 H3)
    (hT : H2 T = some (.lst (ths.map V.ref ++ [.ref t]))) (hra : H3 ra' = some (.lst (rvs ++ [rv]))) (n1 : H2 ra' = none) (hr : RowT K (Gd M' rl' H3) rv r) (rk : RwOk cs rs r) (hs : ∀ x ∈ (doRows false fs cs (rs ++ [r])).hand, x ≠ none) :
    YA K YC TC BC HC KC H3 rl' M' O y s c Pl ns p l1 l2 kv fvs cvs fs n cs (rs ++ [r]) (ths ++ [t]) ra' T (rvs ++ [rv]) := by
  refine ⟨Y.new e, B.new e, A.r.to, A.r.ts, A.r.tp, ?_, gd_at hra fun z => Y.om.2 ra' z n1, ?_, rok_snoc A.r.rok rk, hs⟩
  · rw [e _ _ hT, List.map_append]
    rfl
  · exact (A.r.al.mono fun _ _ h => Tu.keep (F.trans (YaI.fr e)) h).snoc hr
theorem shaped_rwl (ok : KdOk fs n cs) (h : RwsOk cs rs) : SeqAt.shaped (.list (rs.map pdRw)) = true := by
  have h1 := lay_map (g := pdRw) rs fun r hr => by
    obtain ⟨j, hj⟩ := List.mem_iff_getElem?.mp hr
    exact lay_rw ok (h j r hj)
  have h2 := depth_map (g := pdRw) depth_rw rs
  unfold SeqAt.shaped
  rw [show PyData.canLay0 (.list (rs.map pdRw)) = true by unfold PyData.canLay0; exact h1, decide_eq_true (by unfold PyData.depth; omega)]
  rfl
theorem dp_rwl {q : Addr} (h : H q = some (.lst rvs)) (al : Al (RowT K H) rvs rs) : Dp K H (.ref q) (.list (rs.map pdRw)) := .lst (SqL.of h) (dp_map (fun _ _ h => by
  obtain ⟨a, rfl, h⟩ := h
  exact dp_rw h) al)
theorem eqv_rw0 (rs : List Rw) : PyData.eqv (.list (rs.map pdRw)) (.list []) = decide (rs = []) := by
  cases rs <;> simp [PyData.eqv, PyData.eqvAll]
theorem rok_first (rok : RwsOk cs rs) (h : rs ≠ []) : rs[0]? = some .mk := by
  cases rs with
  | nil => exact absurd rfl h
  | cons r l =>
    have := rok 0 r rfl
    cases r with
    | mk => rfl
    | call nm k wd =>
      obtain ⟨_, _, ⟨r', hr', _⟩, _⟩ := this
      simp at hr'
theorem gd_ne {b b' : Addr} {o : HO} (h : Gd M rl H b = some o) (m : b' ∈ M) : b ≠ b' := fun e => (gd_of h).2 (.inl (e ▸ m))
theorem lam_fr (m : Pl ∈ M) (e : ∀ b o, b ≠ Pl → H b = some o → H' b = some o) : Same (Gd M rl H) (Gd M rl H') := wo_fr fun b o nb r hb => ⟨nb, r, e _ _ (fun z => nb (z ▸ m)) hb⟩
theorem atI_last (xs : List V) (v : V) : atI (xs ++ [v]) (-1) = some v := by
  unfold atI ixN
  rw [if_neg (by decide), if_pos (by rw [List.length_append, List.length_singleton]; omega)]
  show (xs ++ [v])[((-1 : Int) + ((xs ++ [v]).length : Int)).toNat]? = _
  rw [show ((-1 : Int) + ((xs ++ [v]).length : Int)).toNat = xs.length by rw [List.length_append, List.length_singleton]; omega, List.getElem?_append_right (Nat.le_refl _), Nat.sub_self]
  rfl
theorem gd_new (Y : YaI K YC TC BC HC KC H rl M O y kv fs n cs rs ths) (e : Same H H') {q : Addr} {o : HO} (h : H q = none) (hq : H' q = some o) : Gd M rl H' q = some o := gd_at hq fun z => Y.om.2 q z h
end
/-- between the turns -/
structure StZ (H : Hp) (s c Pl : Addr) (ns : List Int) : Prop where
  st : StA H s c ns
  tb : TabZ (fun b => b = s) H Pl lamQ
section
variable {P : Program} {w : World} {K : PySem.W.Frag} {mg : Str → Option Value} {base : Heap} {C : Cst} {YC TC RC BC HC KC fm g fe cl Pl : Addr} {fdm fdt fde : FuncData} {A : EB}
theorem run_law {f : Addr} (T : Txt K mg) (ZT : TCls K TC) (ZY : YCls K YC) (W : ErrN K mg A) (c_fresh : Cal P w K mg base CX0 1 "_law_fresh" (spFresh K)) (c_kind : Cal P w K mg base CX0 9 "_law_kind" (spLawKind K KC)) (c_one : Cal P w K mg base CX0 3 "_law_one" (spOne K)) (c_take : Cal P w K mg base CX0 2 "_law_take" spTake)
    (c_takes : Cal P w K mg base CX0 1 "_law_takes" (spLTakes K)) (c_callable : Cal P w K mg base CX0 2 "_law_callable" (spLCallable K)) (c_ran : Cal P w K mg base CX0 4 "_law_ran" (spLRan K)) (c_is_right : Cal P w K mg base CX0 9 "_law_is_right" (spYRight K YC TC BC HC KC))
    (mk_Yard : Mak P w K mg base 3 "Yard" YC (spYInit K YC TC BC HC KC) []) (m_undo : Met P w K mg base 7 YC "undo" (spYUndo K YC TC BC HC KC) []) (m_make : Met P w K mg base 7 YC "make" (spYMake K YC TC BC HC KC) [])
    (H_tcall : Meth K TC "call" fm ∧ FnOk P w K mg base (L2.CX P w) 8 fm fdm ["self", "name", "word"] (spTCall K YC TC BC HC KC A.Refused) ∧ Binds K fdm ["self", "name", "word"] [])
    (F_tried : DefX K mg "_law_tried" s_tried ["_law_deed_here"] g fdt) (F_err : FnP P w K mg base 2 fe fde ["_law_e"] (spErrW A)) (H_err : mg "_law_error" = some (.ref fe) ∧ PySem.W.keepIn K (.ref fe) = true ∧ Binds K fde ["_law_e"] []) (TB : LamX.TabB base mg cl Pl)
    {Ar : Around} {outer : List Env} {sh : Shared} {H : Hp} {Q : VK} {E : XK} (hr : Room 12 (Ar.deeper (envOfC "law" (defScope s_law) sh.heap.objs.size f (.ref cl)))) {a : Addr} {ns : List Int} (hS : SqL K H a (ns.map V.int)) (hn : ns.length ≤ 63) (hP : H Pl = some (.tbl #[])) (k : ∀ H', Q (.bl true) H') :
    ∃ t, PSs (cxOf CX0 P w K mg base ["_law_script", "_law_state", "_law_turn", "_law_p", "_law_yard", "_law_rows", "_law_things", "_law_k", "_law_way", "_law_call_here", "_law_at", "_law_word", "_law_row", "_law_is_right_here", "_law_found"] "law" (defScope s_law) f (.ref cl) Ar outer sh H E).nox (defBody s_law) t ∧ t { nx := fun _ H' => Q .non H', rt := Q } (start ["_law_script", "_law_state", "_law_turn", "_law_p", "_law_yard", "_law_rows", "_law_things", "_law_k", "_law_way", "_law_call_here", "_law_at", "_law_word", "_law_row", "_law_is_right_here", "_law_found"] [.ref a]) H := by
  refine ⟨_, (pss_cons (ps_set (i := 1) sc_law.nd rfl (Or.inl rfl) (pe_c c_fresh hr (by first | decide | assumption) rfl (pa_cons (pv 0) pa_nil)))
(pss_cons (ps_for PassesOwn.never rfl (pi_range1 (by rfl) T.range (pa_cons pe_int pa_nil)) (pg_name (i := 2) sc_law.nd rfl (Or.inl rfl))
(pss_cons (ps_set (i := 3) sc_law.nd rfl (Or.inl rfl) (pe_c c_kind hr (by first | decide | assumption) rfl (pa_cons (pv 1) (pa_cons pe_int (pa_cons pe_int (pa_cons pe_int pa_nil))))))
(pss_cons (ps_asg (pe_tup (pa_cons (pe_mk mk_Yard hr (by decide) rfl (pa_cons (pe_dget (hu_of hr) (pv 3) pe_str (fun _ _ => rfl)) pa_nil)) (pa_cons (pe_lst pa_nil) (pa_cons (pe_lst pa_nil) pa_nil)))) (pg_tup (by rfl) (pgs_cons (pg_name (i := 4) sc_law.nd rfl (Or.inl rfl)) (pgs_cons (pg_name (i := 5) sc_law.nd rfl (Or.inl rfl)) (pgs_cons (pg_name (i := 6) sc_law.nd rfl (Or.inr rfl)) pgs_nil)))))
(pss_cons (ps_if (pt_cmpR op_isnot_bl (pe_mt0 m_undo hr (by decide) (pv 4)) pe_bl (nomark _))
(pss_one (ps_ret pe_bl))
pss_nil)
(pss_cut (ps_for PassesOwn.never rfl (pi_range1 (by rfl) T.range (pa_cons (pe_c c_one hr (by first | decide | assumption) rfl (pa_cons (pv 1) (pa_cons (pe_lst (pa_cons pe_int (pa_cons pe_int (pa_cons pe_int pa_nil)))) pa_nil))) pa_nil)) (pg_name (i := 7) sc_law.nd rfl (Or.inl rfl))
(pss_cons (ps_set (i := 8) sc_law.nd rfl (Or.inl rfl) (pe_c c_take hr (by first | decide | assumption) rfl (pa_cons (pv 1) (pa_cons pe_int pa_nil))))
(pss_cut (ps_if (pt_cut (PW.pt (pw_and (pt_cmpR op_eq (pv 8) pe_int (nomark _)) (pw_and1 (pt_cmpR (op_neD hr.units) (pv 5) (pe_lst pa_nil) (nomark _))))))
(pss_cons (ps_if (pt_cmpR op_isnot_bl (pe_mt0 m_undo hr (by decide) (pv 4)) pe_bl (nomark _))
(pss_one (ps_ret pe_bl))
pss_nil)
(pss_one (ps_asg (pe_tup (pa_cons (pe_slice sl_list (pv 5) po_none (po_some (pe_un un_neg pe_int))) (pa_cons (pe_slice sl_list (pv 6) po_none (po_some (pe_un un_neg pe_int))) pa_nil))) (pg_tup (by rfl) (pgs_cons (pg_name (i := 5) sc_law.nd rfl (Or.inl rfl)) (pgs_cons (pg_name (i := 6) sc_law.nd rfl (Or.inr rfl)) pgs_nil))))))
(pss_one (ps_if (pt_cut (PW.pt (pw_or (pt_cmpR op_eq (pv 8) pe_int (nomark _)) (pw_or1 (pt_cmpR (op_eqD hr.units) (pv 5) (pe_lst pa_nil) (nomark _))))))
(pss_cons (ps_expr (pe_bm PySem.F.plainAttrs_list PySem.F.slot_list_append PySem.F.type_list_append mt_append (pv 6) (pa_cons (pe_mt0 m_make hr (by decide) (pv 4)) pa_nil)))
(pss_one (ps_set (i := 5) sc_law.nd rfl (Or.inl rfl) (pe_op op_cat (pv 5) (pe_lst (pa_cons (pe_tup (pa_cons pe_str pa_nil)) pa_nil))))))
(pss_cons (ps_asg (pe_tup (pa_cons (pe_c c_one hr (by first | decide | assumption) rfl (pa_cons (pv 1) (pa_cons (pe_dget (hu_of hr) (pv 3) pe_str (fun _ _ => rfl)) pa_nil))) (pa_cons (pe_c c_one hr (by first | decide | assumption) rfl (pa_cons (pv 1) (pa_cons (pe_c c_callable hr (by first | decide | assumption) rfl (pa_cons (pv 3) (pa_cons (pv 5) pa_nil))) pa_nil))) pa_nil))) (pg_tup (by rfl) (pgs_cons (pg_name (i := 9) sc_law.nd rfl (Or.inr rfl)) (pgs_cons (pg_name (i := 10) sc_law.nd rfl (Or.inr rfl)) pgs_nil))))
(pss_cut (ps_set (i := 11) sc_law.nd rfl (Or.inr rfl) (pe_cut (pe_ifExp (pt_val (pe_c c_takes hr (by first | decide | assumption) rfl (pa_cons (pv 9) pa_nil))) (pe_c c_one hr (by first | decide | assumption) rfl (pa_cons (pv 1) (pa_cons (pe_lst (pa_cons pe_str (pa_cons pe_str pa_nil))) pa_nil))) pe_non)))
(pss_cut (ps_set (i := 12) sc_law.nd rfl (Or.inl rfl) (pe_cut (pe_ifExp (pt_cmpR op_isN (pv 11) pe_non (nomark _)) (pe_tup (pa_cons (pe_ix ix_tup (pv 9) pe_int (fun _ _ => rfl)) (pa_cons (pv 10) pa_nil))) (pe_tup (pa_cons (pe_ix ix_tup (pv 9) pe_int (fun _ _ => rfl)) (pa_cons (pv 10) (pa_cons (pv 11) pa_nil)))))))
(pss_cons (ps_set (i := 13) sc_law.nd rfl (Or.inl rfl) (pe_cmpR op_notN (pe_ix ix_list (pe_dget (hu_of hr) (pe_c c_ran hr (by first | decide | assumption) rfl (pa_cons (pv 3) (pa_cons (pe_op op_cat (pv 5) (pe_lst (pa_cons (pv 12) pa_nil))) pa_nil))) pe_str (fun _ _ => rfl)) (pe_un un_neg pe_int) (fun _ _ => rfl)) pe_non (nomark _)))
(pss_cons (ps_set (i := 14) sc_law.nd rfl (Or.inl rfl) (pe_triedZ (k := 8) F_tried F_err W H_err TB rfl (hr.mono (by decide)) (show LamX.LamS (defScope s_law) _ from LamX.lamS_by (by decide +kernel)) rfl (fun _ _ _ _ _ => rfl) (fun A2 outer2 s2 H2 E2 f2 c2 hr2 => pe_meth (pe_ix (ix_listK (K := K) rfl) (pv 6) (pv 10) (fun _ _ => rfl)) ZT.cls H_tcall.1 H_tcall.2.1 hr2 H_tcall.2.2 .nil (passes_call (takes_of rfl rfl rfl rfl) (fun _ _ _ _ h => h)) (pa_cons (pe_ix (ix_tupK (K := K) rfl) (pv 9) pe_int (fun _ _ => rfl)) (pa_cons (pv 11) pa_nil)))))
(pss_cons (ps_if (pt_cmpR op_ne (pe_ix ix_tup (pv 14) pe_int (fun _ _ => rfl)) (pe_cut (pe_ifExp (pt_val (pv 13)) pe_str pe_str)) (nomark _))
(pss_one (ps_ret pe_bl))
pss_nil)
(pss_one (ps_if (pt_val (pv 13))
(pss_cons (ps_expr (pe_bm PySem.F.plainAttrs_list PySem.F.slot_list_append PySem.F.type_list_append mt_append (pv 6) (pa_cons (pe_ix ix_tup (pv 14) pe_int (fun _ _ => rfl)) pa_nil)))
(pss_one (ps_set (i := 5) sc_law.nd rfl (Or.inl rfl) (pe_op op_cat (pv 5) (pe_lst (pa_cons (pv 12) pa_nil))))))
pss_nil)))))))))))
(pss_one (ps_if (pt_cut (PW.pt (pw_and (pt_cmpR op_eq (pe_op op_modN (pv 7) pe_int) pe_int (nomark _)) (pw_and1 (pt_not (pt_val (pe_c c_is_right hr (by first | decide | assumption) rfl (pa_cons (pv 3) (pa_cons (pv 4) (pa_cons (pv 5) (pa_cons (pv 6) pa_nil)))))))))))
(pss_one (ps_ret pe_bl))
pss_nil)))))
(pss_one (ps_if (pt_not (pt_val (pe_c c_is_right hr (by first | decide | assumption) rfl (pa_cons (pv 3) (pa_cons (pv 4) (pa_cons (pv 5) (pa_cons (pv 6) pa_nil)))))))
(pss_one (ps_ret pe_bl))
pss_nil)))))))
(pss_one (ps_ret pe_bl)))), ?_⟩
  refine ⟨_, rfl, a, ns, rfl, hS, hn, fun s c H0 e0 hs0 hc0 hS0 => ?_⟩
  have hP0 : StZ H0 s c Pl ns := ⟨hS0, TabZ.nil (e0 _ _ hP)⟩
  refine ⟨3, rfl, by decide, by decide, for_range (n := 3) (fun i σ H2 => StZ H2 s c Pl ns ∧ ∃ x2 x3 x4 x5 x6 x7 x8 x9 x10 x11 x12 x13 x14, σ = [some (.ref a), some (.ref s), x2, x3, x4, x5, x6, x7, x8, x9, x10, x11, x12, x13, x14]) ⟨hP0, _, _, _, _, _, _, _, _, _, _, _, _, _, rfl⟩ ?_ ?_⟩
  · rintro i σ H2 hi ⟨⟨h1, t1⟩, x2, x3, x4, x5, x6, x7, x8, x9, x10, x11, x12, x13, x14, rfl⟩
    refine ⟨_, rfl, s, c, ns, 2, 5, 2, rfl, h1, hn, by decide, by decide, by decide, by decide, by decide, by decide, fun pq H3 fs n cs e3 hS3 ok _ hfn _ hnm hlast pl => ?_⟩
    have t3 : TabZ (fun b => b = s) H3 Pl lamQ := t1.step (by
      obtain ⟨tb, g, _⟩ := t1
      have : Pl ≠ s := fun z => by
        obtain ⟨_, _, _, _, _, g2⟩ := h1
        rw [z, g2] at g
        cases g
      rw [e3 _ _ g this, g]) fun b hb n => ⟨e3 _ _ hb n, n⟩
    obtain ⟨tb3, tP3, _⟩ := id t3
    obtain ⟨p, l1, l2, kv, fvs, cvs, rfl, pl9⟩ := pl.nt
    have pl9 : Plan9 K KC (Nx s H3) p l1 l2 kv fvs cvs fs n cs := pl9
    clear pl
    -- a yard
    have pl3 := pl9.keep (nx_wo2 tP3)
    refine ⟨_, rfl, p, kv, rfl, DGet.k (k := .inr "known") (wo_same _ _ pl3.1), fun y dx hy hdx nd => ?_⟩
    have nyo : ∀ {b : Addr} {o : HO}, H3 b = some o → b ≠ y ∧ (upd (upd H3 dx (.own y)) y (.ins YC dx [])) b = some o := fun {b o} hb => by
      have n1 : b ≠ y := fun e => by rw [e, hy] at hb; cases hb
      have n2 : b ≠ dx := fun e => by rw [e, hdx] at hb; cases hb
      exact ⟨n1, (upd_ne n1).trans ((upd_ne n2).trans hb)⟩
    have S3 : Same (Wo [s, Pl] H3) (Wo [s, Pl] (Off y (upd (upd H3 dx (.own y)) y (.ins YC dx [])))) := wo_keep fun b o hb => by
      obtain ⟨n1, g⟩ := nyo hb
      rw [off_ne n1]
      exact g
    obtain ⟨cns, hc3, sa3, sb3, sm3, hs3⟩ := id hS3
    refine ⟨y, dx, kv, [s, Pl], fs, n, cs, rfl, upd_same, pl3.2.2.2.2.2.keep S3, fun b hb => ?_, fun H4 rl M F4 o4 Y4 => ⟨rfl, ?_⟩⟩
    · simp only [List.mem_cons, List.not_mem_nil, or_false] at hb
      rcases hb with rfl | rfl
      · obtain ⟨n1, g⟩ := nyo hs3
        rw [off_ne n1, g]
        exact nofun
      · obtain ⟨n1, g⟩ := nyo tP3
        rw [off_ne n1, g]
        exact nofun
    have H4s : ∃ (a b : Int) (m : Bool), H4 s = some (.lst [.ref c, .int a, .int b, .bl m]) := ⟨_, _, _, (o4 s (by simp)).trans (nyo hs3).2⟩
    have H4P : H4 Pl = some (.tbl tb3) := (o4 Pl (by simp)).trans (nyo tP3).2
    have at4 : ∀ {b : Addr} {o : HO}, b ≠ s → b ≠ Pl → H3 b = some o → Gd M rl H4 b = some o := fun {b o} n1 n2 hb => F4 _ _ (S3 _ _ ((wo_get (by simp [n1, n2])).trans hb))
    have B4 : YB K KC H4 rl M [s, Pl] s c Pl ns p l1 l2 kv fvs cvs fs n cs := by
      refine ⟨by simp, by simp, cns, H4s, at4 cns (fun z => ?_) hc3, t3.step (H4P.trans tP3.symm) (fun b hb n => gd_of (at4 n (fun z => ?_) hb)), pl3.keep (S3.trans F4)⟩
      · rw [z, tP3] at hc3
        cases hc3
      · rw [z, tP3] at hb
        exact LamX.codeO_ne _ (Option.some.inj hb).symm
    clear at4 H4s
    refine ⟨by show 0 ≤ sizeLine; decide, fun ra hra => ⟨by show 0 ≤ sizeLine; decide, fun T hT => ⟨by show 3 ≤ sizeLine; decide, fun tq htq => ?_⟩⟩⟩
    have A7 := YA.mk3 (rvs := []) (o := .tup [.ref y, .ref ra, .ref T]) Y4 B4 hra hT htq Al.nil (fun i r h => by simp at h) (fun x hx => by cases hx)
    have t7 : (upd (upd (upd H4 ra (.lst [])) T (.lst [])) tq (.tup [.ref y, .ref ra, .ref T])) tq = some (.tup [.ref y, .ref ra, .ref T]) := upd_same
    change YA K YC TC BC HC KC (upd (upd (upd H4 ra (.lst [])) T (.lst [])) tq (.tup [.ref y, .ref ra, .ref T])) _ _ _ _ _ _ _ _ _ _ _ _ _ _ _ _ _ _ _ _ _ _ at A7
    generalize upd (upd (upd H4 ra (.lst [])) T (.lst [])) tq (.tup [.ref y, .ref ra, .ref T]) = H7 at A7 t7
    clear B4 H4P F4 o4 Y4 S3 nyo pl3 pl9 t3 t1 tP3 htq hT hra hs3 hc3 cns hdx hy nd h1 e3 hS3
    generalize T :: [s, Pl] = O at A7
    generalize T :: M = M at A7
    refine ⟨tq, _, rfl, SqT.of t7, rfl, _, _, rfl, _, _, rfl, _, _, rfl, rfl, ?_⟩
    obtain ⟨⟨ydx, ypa, ybe, ypl, hy7⟩, _⟩ := A7.y.at
    refine ⟨_, rfl, y, ydx, _, rfl, hy7, rfl, y, kv, M, O, rl, fs, n, cs, [], [], rfl, A7.y, ok, A7.r.rok, Nat.zero_le _, fun _ => ⟨_, _, rfl, rfl, _, rfl, iteF2 rfl ?_⟩, fun z => absurd rfl z⟩
    refine ⟨fun σ' H' => ∃ (rl : Rl) (M O : List Addr) (rs : List Rw) (ths : List Addr) (ra T : Addr) (rvs : List V) (x7 x8 x9 x10 x11 x12 x13 x14 : Option V), YA K YC TC BC HC KC H' rl M O y s c Pl ns p l1 l2 kv fvs cvs fs n cs rs ths ra T rvs ∧ rs.length ≤ 25 ∧ σ' = [some (.ref a), some (.ref s), some (.int (0 + (i : Int))), some (.ref p), some (.ref y), some (.ref ra), some (.ref T), x7, x8, x9, x10, x11, x12, x13, x14], ?_, ?_⟩
    · refine ⟨_, rfl, by show 3 ≤ sizeLine; decide, fun q hq => ?_⟩
      have e8 := same_new (Same.refl H7) hq (o := .lst [.int 3, .int 10, .int 25])
      refine ⟨s, c, q, ns, _, rfl, (A7.new e8).b.sta, hn, (A7.b.sta.ne hq).1, .inl (SqL.of upd_same), by decide, by decide, fun d v H9 hd e9 h9 => ?_⟩
      obtain ⟨m, rfl, m25⟩ : ∃ m : Nat, v = .int (m : Nat) ∧ m ≤ 25 := by
        have m := List.mem_of_getElem? hd
        simp only [List.mem_cons, List.not_mem_nil, or_false] at m
        rcases m with rfl | rfl | rfl
        · exact ⟨3, rfl, by decide⟩
        · exact ⟨10, rfl, by decide⟩
        · exact ⟨25, rfl, by decide⟩
      refine ⟨m, rfl, by omega, by omega, for_range (n := m) (fun j σ' H' => ∃ (rl : Rl) (M O : List Addr) (rs : List Rw) (ths : List Addr) (ra T : Addr) (rvs : List V) (x7 x8 x9 x10 x11 x12 x13 x14 : Option V), YA K YC TC BC HC KC H' rl M O y s c Pl ns p l1 l2 kv fvs cvs fs n cs rs ths ra T rvs ∧ rs.length ≤ j ∧ σ' = [some (.ref a), some (.ref s), some (.int (0 + (i : Int))), some (.ref p), some (.ref y), some (.ref ra), some (.ref T), x7, x8, x9, x10, x11, x12, x13, x14])
        ⟨rl, M, O, [], [], ra, T, [], _, _, _, _, _, _, _, _, (A7.new e8).sx e9 h9, Nat.le_refl _, rfl⟩ ?_ ?_⟩
      · clear A7 e8 e9 h9 hd t7 hy7
        rintro j σ H10 hj ⟨rl, M, O, rs, ths, ra, T, rvs, x7, x8, x9, x10, x11, x12, x13, x14, A10, lrs, rfl⟩
        refine ⟨_, rfl, s, c, ns, 6, rfl, A10.b.sta, hn, by decide, by decide, fun d H11 _ e11 h11 => ?_⟩
        have A11 := A10.sx e11 h11
        clear A10 e11 h11
        refine ⟨fun σ' H' => ∃ (rl : Rl) (M O : List Addr) (rs : List Rw) (ths : List Addr) (ra T : Addr) (rvs : List V) (x8 x9 x10 x11 x12 x13 x14 : Option V), YA K YC TC BC HC KC H' rl M O y s c Pl ns p l1 l2 kv fvs cvs fs n cs rs ths ra T rvs ∧ rs.length ≤ j + 1 ∧ σ' = [some (.ref a), some (.ref s), some (.int (0 + (i : Int))), some (.ref p), some (.ref y), some (.ref ra), some (.ref T), some (.int (0 + (j : Int))), x8, x9, x10, x11, x12, x13, x14], ?_, ?_⟩
        · refine ⟨fun t H' => (t = true → rs ≠ []) ∧ Same H11 H', ⟨_, rfl, rfl, _, rfl, ite2 (fun g => ?_) (fun g => ⟨nofun, Same.refl _⟩)⟩, ?_⟩
          · refine ⟨_, rfl, by show 0 ≤ sizeLine; decide, fun q hq => ?_⟩
            have e12 := same_new (Same.refl H11) hq (o := .lst [])
            have al := A11.r.al.mono fun _ _ h => Tu.keep (gd_same.trans e12) h
            refine ⟨_, _, dp_rwl (e12 _ _ (gd_same _ _ A11.r.ra)) al, .lst (SqL.of upd_same) .nil, shaped_rwl ok A11.r.rok, shaped_nil, _, rfl, fun z e => ?_, e12⟩
            rw [eqv_rw0, decide_eq_true e] at z
            cases z
          rintro t H12 ⟨nn, e12⟩
          have A12 := A11.new e12
          clear A11 e12
          obtain ⟨⟨ydx, ypa, ybe, ypl, hy12⟩, _⟩ := A12.y.at
          refine ite2 (fun g => ?_) (fun _ => ?_)
          · -- the last row is taken back
            refine ⟨_, rfl, y, ydx, _, rfl, hy12, rfl, y, kv, M, O, rl, fs, n, cs, rs, ths, rfl, A12.y, ok, A12.r.rok, by omega, fun z => absurd z (nn g), fun _ H13 rl' F o Y13 => ⟨_, _, rfl, rfl, _, rfl, iteF2 rfl ?_⟩⟩
            have B13 := A12.b.go F (fun _ h => h) o
            have R13 := A12.r.gen F (fun _ h => h) (o _ A12.r.to)
            have ra13 := gd_same _ _ R13.ra
            have T13 := R13.th
            refine ⟨_, rfl, _, rfl, _, rfl, ra, rvs, rfl, SqL.of ra13, fun ra' hra' => ?_⟩
            rw [cut_last]
            refine ⟨_, rfl, _, rfl, _, rfl, T, _, rfl, SqL.of ((same_new (Same.refl H13) hra') _ _ T13), fun T' hT' => ?_⟩
            rw [cut_last, ← List.map_dropLast] 
            refine ⟨by show 2 ≤ sizeLine; decide, fun tq htq => ?_⟩
            have A14 := YA.mk3 (rvs := rvs.dropLast) (o := .tup [.ref ra', .ref T']) Y13 B13 hra' hT' htq (by
              have lrv : rvs.length = rs.length := R13.al.1
              rw [List.dropLast_eq_take, List.dropLast_eq_take, lrv]
              exact R13.al.take _) (by rw [List.dropLast_eq_take]; exact R13.rok.take _) (fun x hx => R13.hs x (hand_drop x hx))
            refine ⟨tq, _, rfl, SqT.of upd_same, rfl, _, _, rfl, _, _, rfl, rfl, ?_⟩
            exact ⟨_, _, _, _, _, _, _, _, _, _, _, _, _, _, _, A14, by rw [List.length_dropLast]; omega, rfl⟩
          refine ⟨fun t H' => (t = false → rs ≠ []) ∧ Same H12 H', ⟨_, rfl, rfl, _, rfl, ite2 (fun g => ⟨nofun, Same.refl _⟩) (fun g => ?_)⟩, ?_⟩
          · refine ⟨_, rfl, by show 0 ≤ sizeLine; decide, fun q hq => ?_⟩
            have e13 := same_new (Same.refl H12) hq (o := .lst [])
            have al := A12.r.al.mono fun _ _ h => Tu.keep (gd_same.trans e13) h
            refine ⟨_, _, dp_rwl (e13 _ _ (gd_same _ _ A12.r.ra)) al, .lst (SqL.of upd_same) .nil, shaped_rwl ok A12.r.rok, shaped_nil, _, rfl, fun z e => ?_, e13⟩
            rw [eqv_rw0, decide_eq_true e] at z
            cases z
          clear nn
          rintro t2 H13 ⟨nn, e13⟩
          have hy13 := e13 _ _ hy12
          have A13 := A12.new e13
          clear A12 e13 hy12
          refine ite2 (fun _ => ?_) (fun g => ?_)
          · -- a maker
            refine ⟨_, rfl, .inl ⟨rfl, _, SqL.of A13.r.th⟩, _, rfl, y, ydx, _, rfl, hy13, rfl, y, kv, M, O, rl, fs, n, cs, rs, ths, rfl, A13.y, ok, A13.r.rok, by omega, fun H14 rl' t F tM o Y14 => ?_⟩
            have tl := A13.y.tl
            obtain ⟨Y15, B15, F15⟩ := A13.snoc Y14 F o
            refine ⟨T, ths.map V.ref, .ref t, rfl, rfl, (o _ A13.r.to).trans A13.r.th, by rw [List.length_map, sizeLine_eq]; omega, ?_⟩
            have T15 : upd H14 T (.lst (ths.map V.ref ++ [.ref t])) T = some (.lst (ths.map V.ref ++ [.ref t])) := upd_same
            show tSeq _ _ _ _ (upd H14 T (.lst (ths.map V.ref ++ [.ref t])))
            generalize upd H14 T (.lst (ths.map V.ref ++ [.ref t])) = H15 at Y15 B15 F15 T15
            have ra15 := gd_same _ _ (F15 _ _ A13.r.ra)
            refine ⟨_, rfl, by show 1 ≤ sizeLine; decide, fun q1 hq1 => ⟨by show 1 ≤ sizeLine; decide, fun q2 hq2 => ?_⟩⟩
            have f1 := same_new (Same.refl H15) hq1 (o := .tup [.str "make"])
            have f2 := same_new (Same.refl _) hq2 (o := .lst [.ref q1])
            refine ⟨ra, q2, _, _, rfl, rfl, (f1.trans f2) _ _ ra15, upd_same, by show rvs.length + 1 ≤ sizeLine; rw [A13.r.al.1, sizeLine_eq]; omega, fun q3 hq3 => ?_⟩
            have f3 := same_new (Same.refl _) hq3 (o := .lst (rvs ++ [.ref q1]))
            have q31 : H15 q3 = none := none_of (f1.trans f2) hq3
            have A16 := A13.rows (ra' := q3) (rv := .ref q1) Y15 B15 F15 (f1.trans (f2.trans f3)) T15 upd_same q31 ⟨q1, rfl, SqT.of (gd_new Y15 (f1.trans (f2.trans f3)) hq1 ((f2.trans f3) _ _ upd_same))⟩ trivial (fun x hx => by
              obtain ⟨j', ej⟩ := hand_mk (fs := fs) (cs := cs) (rs := rs)
              rw [ej] at hx
              rcases List.mem_append.mp hx with h | h
              · exact A13.r.hs x h
              · rw [List.mem_singleton.mp h]
                exact nofun)
            exact ⟨_, _, _, _, _, _, _, _, _, _, _, _, _, _, _, A16, by rw [List.length_append]; exact Nat.succ_le_succ lrs, rfl⟩
          have nn := nn (by rw [Bool.not_eq_true] at g; exact g)
          -- a call
          have pl13 := A13.b.pl
          have l2s : l2 ≠ s := gd_ne pl13.2.2.2.1 (A13.y.om.1 s A13.b.so)
          have lcs : cvs.length = cs.length := pl13.2.2.2.2.1.1
          have c0 := ok.cpos
          have c6 := ok.cle
          refine ⟨_, rfl, _, rfl, p, .ref l2, rfl, DGet.k (k := .inr "calls") (gd_same _ _ pl13.1), ?_⟩
          refine ⟨s, c, l2, ns, cvs, rfl, A13.b.sta, hn, l2s, .inl (SqL.of (gd_same _ _ pl13.2.2.2.1)), by omega, by omega, fun d1 v1 H14 hd1 e14 h14 => ?_⟩
          have A14 := A13.sx e14 h14
          have F14 : Same (Gd M rl H13) (Gd M rl H14) := (A13.y.sx A13.b.so e14 (by obtain ⟨_, _, _, _, _, g⟩ := h14; rw [g]; exact nofun)).2
          obtain ⟨cd, hcd, hcl⟩ := pl13.2.2.2.2.1.get hd1
          have hcl := CdL.keep F14 hcl
          have cmem := List.mem_of_getElem? hcd
          have hcall := callOf_of ok.nd cmem
          refine ⟨_, rfl, _, rfl, _, rfl, ?_⟩
          refine ⟨.ref p, ra, rvs, fs, n, cs, rs, rfl, A14.b.pl.c.keep gd_same, ok, gd_same _ _ A14.r.ra, A14.r.al.mono fun _ _ h => Tu.keep gd_same h, A14.r.rok, by omega, fun H15 D ks e15 hD dD kL kl km kn => ?_⟩
          have A15 := A14.new e15
          have k0 : ks ≠ [] := fun e => by
            have := kn 0 .mk (rok_first A13.r.rok nn) rfl
            rw [e] at this
            cases this
          refine ⟨s, c, D, ns, _, rfl, A15.b.sta, hn, (A14.b.sta.ne hD).1, .inl (SqL.of dD), by rw [List.length_map]; exact List.length_pos_iff.mpr k0, by rw [List.length_map]; omega, fun d2 v2 H16 hv2 e16 h16 => ?_⟩
          rw [List.getElem?_map] at hv2
          obtain ⟨k1, hk1, rfl⟩ := Option.map_eq_some_iff.mp hv2
          obtain ⟨r1, hr1, hl1⟩ := km k1 (List.mem_of_getElem? hk1)
          have A16 := A15.sx e16 h16
          have F16 : Same (Gd M rl H14) (Gd M rl H16) := (YaI.fr e15).trans (A15.y.sx A15.b.so e16 (by obtain ⟨_, _, _, _, _, g⟩ := h16; rw [g]; exact nofun)).2
          have hcl := CdL.keep F16 hcl
          refine ⟨by show 2 ≤ sizeLine; decide, fun tq htq => ?_⟩
          have e17 := same_new (Same.refl H16) htq (o := .tup [v1, .int (k1 : Nat)])
          have A17 := A16.new e17
          have hcl := CdL.keep (YaI.fr e17) hcl
          refine ⟨tq, _, rfl, SqT.of upd_same, rfl, _, _, rfl, _, _, rfl, rfl, ?_⟩
          generalize upd H16 tq (.tup [v1, .int (k1 : Nat)]) = H17 at e17 A17 hcl
          clear F14 F16 e17 A16 A15 A14 A13 e16 h16 e15 hD dD e14 h14 hd1 pl13 km kn kL kl hk1 hv2 k0 l2s lcs hy13 htq
          -- its word
          refine ⟨fun σ' H' => ∃ (wd : Option Str) (x12 x13 x14 : Option V), σ' = [some (.ref a), some (.ref s), some (.int (0 + (i : Int))), some (.ref p), some (.ref y), some (.ref ra), some (.ref T), some (.int (0 + (j : Int))), some (.int (d : Nat)), some v1, some (.int (k1 : Nat)), some (wdV wd), x12, x13, x14] ∧ YA K YC TC BC HC KC H' rl M O y s c Pl ns p l1 l2 kv fvs cvs fs n cs rs ths ra T rvs ∧ CdL K (Gd M rl H') v1 cd ∧ wd.isSome = cd.takes ∧ ∀ z, wd = some z → wordB z = true, ?_, ?_⟩
          · refine ⟨fun v H' => ∃ wd : Option Str, v = wdV wd ∧ YA K YC TC BC HC KC H' rl M O y s c Pl ns p l1 l2 kv fvs cvs fs n cs rs ths ra T rvs ∧ CdL K (Gd M rl H') v1 cd ∧ wd.isSome = cd.takes ∧ ∀ z, wd = some z → wordB z = true, ?_, ?_⟩
            · refine ⟨_, rfl, v1, cd, rfl, CdL.keep gd_same hcl, (ok.calls cd cmem).deeds, fun H18 e18 => ⟨_, rfl, ite2 (fun g => ?_) (fun g => ?_)⟩⟩
              · have A18 := A17.new e18
                have hcl := CdL.keep (YaI.fr e18) hcl
                refine ⟨_, rfl, by show 2 ≤ sizeLine; decide, fun wq hwq => ?_⟩
                have e19 := same_new (Same.refl H18) hwq (o := .lst [.str "w", .str "quantity"])
                have A19 := A18.new e19
                have hcl := CdL.keep (YaI.fr e19) hcl
                refine ⟨s, c, wq, ns, _, rfl, A19.b.sta, hn, (A18.b.sta.ne hwq).1, .inl (SqL.of upd_same), by decide, by decide, fun d3 v3 H20 hd3 e20 h20 => ?_⟩
                have A20 := A19.sx e20 h20
                have F20 := (A19.y.sx A19.b.so e20 (by obtain ⟨_, _, _, _, _, g⟩ := h20; rw [g]; exact nofun)).2
                have m := List.mem_of_getElem? hd3
                simp only [List.mem_cons, List.not_mem_nil, or_false] at m
                rcases m with rfl | rfl
                · exact ⟨some "w", rfl, A20, CdL.keep F20 hcl, g.symm, fun z e => by cases e; decide +kernel⟩
                · exact ⟨some "quantity", rfl, A20, CdL.keep F20 hcl, g.symm, fun z e => by cases e; decide +kernel⟩
              · exact ⟨none, rfl, A17.new e18, CdL.keep (YaI.fr e18) hcl, by rw [Bool.not_eq_true] at g; exact g.symm, nofun⟩
            · rintro v H18 ⟨wd, rfl, h⟩
              exact ⟨wd, _, _, _, rfl, h⟩
          clear A17 hcl H17
          rintro σ' H18 ⟨wd, y12, y13, y14, rfl, A18, hcl, hw1, hw2⟩
          have rk : RwOk cs rs (.call cd.nm k1 wd) := ⟨cd, hcall, ⟨r1, hr1, hl1⟩, hw1, hw2⟩
          -- its row
          refine ⟨fun σ' H' => ∃ (rq : Addr) (x13 x14 : Option V), σ' = [some (.ref a), some (.ref s), some (.int (0 + (i : Int))), some (.ref p), some (.ref y), some (.ref ra), some (.ref T), some (.int (0 + (j : Int))), some (.int (d : Nat)), some v1, some (.int (k1 : Nat)), some (wdV wd), some (.ref rq), x13, x14] ∧ YA K YC TC BC HC KC H' rl M O y s c Pl ns p l1 l2 kv fvs cvs fs n cs rs ths ra T rvs ∧ CdL K (Gd M rl H') v1 cd ∧ RowT K (Gd M rl H') (.ref rq) (.call cd.nm k1 wd), ?_, ?_⟩
          · obtain ⟨ma, da, sa, ds, ⟨ca, rfl, c1⟩, _⟩ := id hcl
            have c1 := same_t gd_same c1
            refine ⟨fun v H' => ∃ rq, v = .ref rq ∧ YA K YC TC BC HC KC H' rl M O y s c Pl ns p l1 l2 kv fvs cvs fs n cs rs ths ra T rvs ∧ CdL K (Gd M rl H') (.ref ca) cd ∧ RowT K (Gd M rl H') (.ref rq) (.call cd.nm k1 wd), ?_, ?_⟩
            · cases wd with
              | none =>
                refine ⟨_, rfl, rfl, _, rfl, iteT2 (decide_eq_true rfl) ⟨_, rfl, ca, _, 0, .str cd.nm, rfl, rfl, c1, rfl, _, rfl, by show 2 ≤ sizeLine; decide, fun rq hrq => ?_⟩⟩
                have e19 := same_new (Same.refl H18) hrq (o := .tup [.str cd.nm, .int (k1 : Nat)])
                exact ⟨rq, rfl, A18.new e19, CdL.keep (YaI.fr e19) hcl, rq, rfl, SqT.of (gd_new A18.y e19 hrq upd_same)⟩
              | some z =>
                refine ⟨_, rfl, rfl, _, rfl, iteF2 (decide_eq_false nofun) ⟨_, rfl, ca, _, 0, .str cd.nm, rfl, rfl, c1, rfl, _, rfl, _, rfl, by show 3 ≤ sizeLine; decide, fun rq hrq => ?_⟩⟩
                have e19 := same_new (Same.refl H18) hrq (o := .tup [.str cd.nm, .int (k1 : Nat), .str z])
                exact ⟨rq, rfl, A18.new e19, CdL.keep (YaI.fr e19) hcl, rq, rfl, SqT.of (gd_new A18.y e19 hrq upd_same)⟩
            · rintro v H19 ⟨rq, rfl, h⟩
              exact ⟨rq, _, _, rfl, h⟩
          clear A18 hcl
          rintro σ' H19 ⟨rq, z13, z14, rfl, A19, hcl, hrw⟩
          have rok' : RwsOk cs (rs ++ [.call cd.nm k1 wd]) := rok_snoc A19.r.rok rk
          have ra19 := gd_same _ _ A19.r.ra
          have lrv : rvs.length = rs.length := A19.r.al.1
          refine ⟨_, rfl, _, rfl, _, rfl, by show 1 ≤ sizeLine; decide, fun q1 hq1 => ?_⟩
          have e20 := same_new (Same.refl H19) hq1 (o := .lst [.ref rq])
          refine ⟨ra, q1, _, _, rfl, rfl, e20 _ _ ra19, upd_same, by show rvs.length + 1 ≤ sizeLine; rw [lrv, sizeLine_eq]; omega, fun q2 hq2 => ?_⟩
          have e21 := e20.trans (same_new (Same.refl _) hq2 (o := .lst (rvs ++ [.ref rq])))
          have q21 : upd (upd H19 q1 (.lst [.ref rq])) q2 (.lst (rvs ++ [.ref rq])) q2 = some (.lst (rvs ++ [.ref rq])) := upd_same
          generalize upd (upd H19 q1 (.lst [.ref rq])) q2 (.lst (rvs ++ [.ref rq])) = H21 at e21 q21
          have A21 := A19.new e21
          have g21 : Same (Gd M rl H19) (Gd M rl H21) := YaI.fr e21
          have al21 : Al (RowT K (Gd M rl H21)) (rvs ++ [.ref rq]) (rs ++ [.call cd.nm k1 wd]) := A21.r.al.snoc (Tu.keep g21 hrw)
          refine ⟨.ref p, q2, rvs ++ [.ref rq], fs, n, cs, rs ++ [.call cd.nm k1 wd], rfl, A21.b.pl.f.keep gd_same, A21.b.pl.c.keep gd_same, ok, q21, (show Al (RowT K H21) (rvs ++ [.ref rq]) (rs ++ [.call cd.nm k1 wd]) from al21.mono fun _ _ h => Tu.keep gd_same h), rok', by rw [List.length_append]; show rs.length + 1 ≤ 200; omega, fun rl1 H22 hp la ha ea kvs ls os e22 lh I md => ?_⟩
          have e2122 : Same H21 H22 := e22.trans hr_same
          obtain ⟨h, hh, hnx⟩ := hand_call ok A19.r.rok rk hcall
          have at1 : atI ((doRows false fs cs (rs ++ [.call cd.nm k1 wd])).hand.map (handV os)) (-1) = some (handV os h) := by
            rw [hh, List.map_append]
            exact atI_last _ _
          refine ⟨hp, .ref ha, rfl, lh_things lh, _, rfl, ha, _, _, _, rfl, rfl, SqL.of I.hah, at1, rfl, ?_⟩
          have A22 := A21.new e2122
          have hrw := Tu.keep (YaI.fr (rl := rl) (M := M) (e21.trans e2122)) hrw
          have hcl := CdL.keep (YaI.fr (rl := rl) (M := M) (e21.trans e2122)) hcl
          clear e22 lh I md at1 al21 g21 A21 A19 e21 q21 e20 hq1 hq2 ra19 e2122
          refine ⟨Ze M rl, A22.b.tb, A22.y.om.2, fun H23 e23 t23 => ?_⟩
          have A23 := A22.lam e23 t23
          have F23 : Same (Gd M rl H22) (Gd M rl H23) := lam_fr (A22.y.om.1 _ A22.b.po) e23
          have hrw := Tu.keep F23 hrw
          have hcl := CdL.keep F23 hcl
          clear A22 e23 t23 F23
          have wf := Wf.rows (av := false) ok A23.r.rok rs.length (Nat.le_refl _)
          rw [List.take_length] at wf
          have tl := A23.y.tl
          have k1l : k1 < rs.length := (List.getElem?_eq_some_iff.mp hr1).1
          have ht : ths[k1]? = some (ths[k1]'(by omega)) := List.getElem?_eq_getElem (by omega)
          obtain ⟨tdx, htd⟩ := A23.y.at.2 ht
          obtain ⟨jj, hjj⟩ : ∃ jj, (doRows false fs cs rs).hand[k1]? = some (some jj) := by
            have g : (doRows false fs cs rs).hand[k1]? = some ((doRows false fs cs rs).hand[k1]'(by rw [wf.hl]; exact k1l)) := List.getElem?_eq_getElem _
            cases z : (doRows false fs cs rs).hand[k1]'(by rw [wf.hl]; exact k1l) with
            | none => exact absurd z (A23.r.hs _ (List.getElem_mem _))
            | some jj => exact ⟨jj, by rw [g, z]⟩
          have hmd := wf.mkr k1 r1 jj hr1 hjj
          rw [hl1] at hmd
          obtain ⟨ma, da, sa, ds, ⟨ca, rfl, c1⟩, _⟩ := id hcl
          have c1 := same_t gd_same c1
          obtain ⟨⟨ydx, ypa, ybe, ypl, hy23⟩, _⟩ := A23.y.at
          have atT : atI (ths.map V.ref) ((k1 : Nat) : Int) = some (.ref (ths[k1]'(by omega))) := atI_nat (by rw [List.getElem?_map, ht]; rfl)
          refine ⟨_, rfl, _, rfl, T, _, _, .ref (ths[k1]'(by omega)), rfl, rfl, SqL.of A23.r.th, atT, _, tdx, _, rfl, htd, rfl, _, rfl, ca, _, 0, .str cd.nm, rfl, rfl, c1, rfl, _, rfl, ?_⟩
          refine ⟨y, _, k1, kv, M, O, rl, fs, n, cs, rs, ths, cd.nm, wd, jj, cd, rfl, A23.y, ok, A23.r.rok, by omega, ht, rk, hjj, hmd, hcall, fun hx H24 e24 => ⟨rfl, fun ae hae => ⟨rfl, rfl, rfl, fun pp hpp => ?_⟩⟩, fun hx H24 rl' u F uM ob Y24 => ⟨by show 2 ≤ sizeLine; decide, fun pp hpp => ?_⟩⟩
          · have h0 : h = none := hnx.mpr hx
            subst h0
            have A24 := (A23.new e24).new (same_new (Same.refl H24) hpp (o := .tup [.str "refused", .non]))
            have e13 : (!decide (handV os none = V.non)) = false := by
              rw [show handV os none = V.non from rfl, decide_eq_true rfl]
              rfl
            refine ⟨_, rfl, pp, _, 0, .str "refused", rfl, rfl, SqT.of upd_same, rfl, fun v H' => v = .str "refused" ∧ H' = upd H24 pp (.tup [.str "refused", .non]), ⟨_, rfl, _, rfl, iteF2 e13 ⟨rfl, rfl⟩⟩, ?_⟩
            rintro _ _ ⟨rfl, rfl⟩
            refine ⟨rfl, _, rfl, iteF2 (by rw [decide_eq_true rfl]; rfl) ?_⟩
            refine ⟨_, rfl, _, rfl, iteF2 e13 ?_⟩
            exact ⟨rl, M, O, rs, ths, ra, T, rvs, _, _, _, _, _, _, _, A24, by omega, rfl⟩
          · have h0 : ∃ j', h = some j' := by
              cases h with
              | none => exact absurd (hnx.mp rfl) hx
              | some j' => exact ⟨j', rfl⟩
            obtain ⟨j', rfl⟩ := h0
            have e13 : (!decide (handV os (some j') = V.non)) = true := by
              rw [decide_eq_false nofun]
              rfl
            have e25 := same_new (Same.refl H24) hpp (o := .tup [.str "told", .ref u])
            have Y25 := Y24.new e25
            have F25 := F.trans (YaI.fr (rl := rl') (M := u :: M) e25)
            have o25 : ∀ b ∈ O, upd H24 pp (.tup [.str "told", .ref u]) b = H23 b := fun b hb => (upd_ne fun z => A23.y.om.2 b (.inl (A23.y.om.1 b hb)) (by rw [← ob b hb, z]; exact hpp)).trans (ob b hb)
            have pp25 : upd H24 pp (.tup [.str "told", .ref u]) pp = some (.tup [.str "told", .ref u]) := upd_same
            show gName 14 _ _ (upd H24 pp (.tup [.str "told", .ref u])) _
            generalize upd H24 pp (.tup [.str "told", .ref u]) = H25 at Y25 F25 o25 pp25
            obtain ⟨Y26, B26, F26⟩ := A23.snoc Y25 F25 o25
            refine ⟨_, rfl, pp, _, 0, .str "told", rfl, rfl, SqT.of pp25, rfl, fun v H' => v = .str "told" ∧ H' = H25, ⟨_, rfl, _, rfl, iteT2 e13 ⟨rfl, rfl⟩⟩, ?_⟩
            rintro _ H' ⟨rfl, rfl⟩
            refine ⟨rfl, _, rfl, iteF2 (by rw [decide_eq_true rfl]; rfl) ?_⟩
            refine ⟨_, rfl, _, rfl, iteT2 e13 ?_⟩
            have T25 := (o25 _ A23.r.to).trans A23.r.th
            refine ⟨_, rfl, .inl ⟨rfl, _, SqL.of T25⟩, _, rfl, pp, _, 1, .ref u, rfl, rfl, SqT.of pp25, rfl, T, ths.map V.ref, .ref u, rfl, rfl, T25, by rw [List.length_map, sizeLine_eq]; omega, ?_⟩
            have T26 : upd H' T (.lst (ths.map V.ref ++ [.ref u])) T = some (.lst (ths.map V.ref ++ [.ref u])) := upd_same
            generalize upd H' T (.lst (ths.map V.ref ++ [.ref u])) = H26 at Y26 B26 F26 T26 ⊢
            have ra26 := gd_same _ _ (F26 _ _ A23.r.ra)
            refine ⟨_, rfl, _, rfl, by show 1 ≤ sizeLine; decide, fun q1 hq1 => ?_⟩
            have f1 := same_new (Same.refl H26) hq1 (o := .lst [.ref rq])
            refine ⟨ra, q1, _, _, rfl, rfl, f1 _ _ ra26, upd_same, by show rvs.length + 1 ≤ sizeLine; rw [lrv, sizeLine_eq]; omega, fun q2 hq2 => ?_⟩
            have f2 := f1.trans (same_new (Same.refl _) hq2 (o := .lst (rvs ++ [.ref rq])))
            have A27 := A23.rows (ra' := q2) (rv := .ref rq) Y26 B26 F26 f2 T26 upd_same (none_of f1 hq2) (Tu.keep (F26.trans (YaI.fr f2)) hrw) rk (fun x hx => by
              rw [hh] at hx
              rcases List.mem_append.mp hx with h | h
              · exact A23.r.hs x h
              · rw [List.mem_singleton.mp h]
                exact nofun)
            exact ⟨_, _, _, _, _, _, _, _, _, _, _, _, _, _, _, A27, by rw [List.length_append]; exact Nat.succ_le_succ lrs, rfl⟩
        rintro σ' H20 ⟨rl, M, O, rs, ths, ra, T, rvs, x8, x9, x10, x11, x12, x13, x14, A20, lrs, rfl⟩
        refine ⟨fun t H' => t = false ∧ Same H20 H', ⟨_, rfl, _, _, rfl, rfl, (by show (5 : Int) ≠ 0; decide), rfl, _, rfl, ite2 (fun g => ?_) (fun g => ⟨rfl, Same.refl _⟩)⟩, ?_⟩
        · refine ⟨_, rfl, _, rfl, _, rfl, _, rfl, .ref p, kv, y, ra, T, rvs, M, O, rl, fs, n, cs, rs, ths, rfl, (A20.b.pl.keep gd_same).a, A20.y, ok, A20.r.rok, by omega, gd_same _ _ A20.r.ra, A20.r.al.mono fun _ _ h => Tu.keep gd_same h, A20.r.th, fun H21 e21 => ?_⟩
          exact ⟨true, rfl, rfl, e21⟩
        rintro _ H21 ⟨rfl, e21⟩
        refine iteF ?_
        exact ⟨rl, M, O, rs, ths, ra, T, rvs, _, _, _, _, _, _, _, _, A20.new e21, lrs, rfl⟩
      · rintro σ H10 ⟨rl, M, O, rs, ths, ra, T, rvs, x7, x8, x9, x10, x11, x12, x13, x14, A10, lrs, rfl⟩
        exact ⟨rl, M, O, rs, ths, ra, T, rvs, _, _, _, _, _, _, _, _, A10, by omega, rfl⟩
    rintro σ' H11 ⟨rl, M, O, rs, ths, ra, T, rvs, x7, x8, x9, x10, x11, x12, x13, x14, A11, lrs, rfl⟩
    refine ⟨_, rfl, _, rfl, _, rfl, _, rfl, .ref p, kv, y, ra, T, rvs, M, O, rl, fs, n, cs, rs, ths, rfl, (A11.b.pl.keep gd_same).a, A11.y, ok, A11.r.rok, by omega, gd_same _ _ A11.r.ra, A11.r.al.mono fun _ _ h => Tu.keep gd_same h, A11.r.th, fun H12 e12 => ⟨true, rfl, iteF ?_⟩⟩
    have A12 := A11.new e12
    refine ⟨⟨A12.b.sta, A12.b.tb.step rfl fun b hb nz => ⟨hb, fun e => nz (.inl (e ▸ A12.y.om.1 _ A12.b.so))⟩⟩, _, _, _, _, _, _, _, _, _, _, _, _, _, rfl⟩
  · rintro σ H2 ⟨h1, x2, x3, x4, x5, x6, x7, x8, x9, x10, x11, x12, x13, x14, rfl⟩
    exact k _
end
end MK
set_option Elab.async false
set_option linter.all false
set_option autoImplicit false
set_option maxRecDepth 100000
set_option maxHeartbeats 4000000
namespace MK
open PySem PySem.Spec PyProof.Rows L2 TL ClX
local macro_rules | `(tactic| walk_at "x") => `(tactic| dsimp only [tSeq, tAsg, tRet, tDrop, tLst, tTup, tCons, tOp, tUn, tIfS])
theorem sod_all {K : PySem.W.Frag} {w : World} {a : Addr} (h : He.dicW K a = some (He.keysIn w.params ["set", "add", "strike", "fresh", "clear"])) (h1 : ∃ b, PySem.W.nsIn K a "set" = some (some (.ref b)) ∧ ∀ H, SqT K H b ((["one"] : List Str).map V.str)) (h2 : ∃ b, PySem.W.nsIn K a "add" = some (some (.ref b)) ∧ ∀ H, SqT K H b ((["many"] : List Str).map V.str))
    (h3 : ∃ b, PySem.W.nsIn K a "strike" = some (some (.ref b)) ∧ ∀ H, SqT K H b ((["many"] : List Str).map V.str)) (h4 : ∃ b, PySem.W.nsIn K a "fresh" = some (some (.ref b)) ∧ ∀ H, SqT K H b ((["many"] : List Str).map V.str)) (h5 : ∃ b, PySem.W.nsIn K a "clear" = some (some (.ref b)) ∧ ∀ H, SqT K H b ((["one", "many"] : List Str).map V.str)) :
    ∀ z : Str, (PySem.W.nsIn K a z = some none ∧ sodOf z = none) ∨ ∃ b l, PySem.W.nsIn K a z = some (some (.ref b)) ∧ sodOf z = some l ∧ ∀ H, SqT K H b (l.map V.str) := fun z => by
  by_cases e1 : z = ("set" : Str)
  · obtain ⟨b, x, y⟩ := h1
    exact .inr ⟨b, _, e1 ▸ x, by rw [e1]; decide +kernel, y⟩
  by_cases e2 : z = ("add" : Str)
  · obtain ⟨b, x, y⟩ := h2
    exact .inr ⟨b, _, e2 ▸ x, by rw [e2]; decide +kernel, y⟩
  by_cases e3 : z = ("strike" : Str)
  · obtain ⟨b, x, y⟩ := h3
    exact .inr ⟨b, _, e3 ▸ x, by rw [e3]; decide +kernel, y⟩
  by_cases e4 : z = ("fresh" : Str)
  · obtain ⟨b, x, y⟩ := h4
    exact .inr ⟨b, _, e4 ▸ x, by rw [e4]; decide +kernel, y⟩
  by_cases e5 : z = ("clear" : Str)
  · obtain ⟨b, x, y⟩ := h5
    exact .inr ⟨b, _, e5 ▸ x, by rw [e5]; decide +kernel, y⟩
  refine .inl ⟨ns_none h fun m => ?_, ?_⟩
  · simp only [List.mem_cons, List.not_mem_nil, or_false] at m
    rcases m with m | m | m | m | m
    · exact e1 m
    · exact e2 m
    · exact e3 m
    · exact e4 m
    · exact e5 m
  · unfold sodOf
    rw [if_neg e1, if_neg e2, if_neg e3, if_neg e4, if_neg e5]
def spLawT (K : PySem.W.Frag) (P : Addr) : Sp := fun vs H Q _ => ∃ (a : Addr) (ns : List Int), vs = [.ref a] ∧ SqL K H a (ns.map V.int) ∧ ns.length ≤ 63 ∧ H P = some (.tbl #[]) ∧ ∀ H', Q (.bl true) H'
theorem all_mk {l : PySem.W.OpenLaw} {w : World} {K : PySem.W.Frag} {h : Heap} {mg : Str → Option Value} {fa : Addr} (X : K.In h) (G : h.Ns mainGlobals mg) (hfa : mg "law" = some (.ref fa))
    {f_fresh : Addr} {fd_fresh : FuncData}
    {f_fill : Addr} {fd_fill : FuncData}
    {f_take : Addr} {fd_take : FuncData}
    {f_one : Addr} {fd_one : FuncData}
    {f_mix : Addr} {fd_mix : FuncData}
    {f_same : Addr} {fd_same : FuncData}
    {f_tried : Addr} {fd_tried : FuncData}
    {f_error : Addr} {fd_error : FuncData}
    {f_other_error : Addr} {fd_other_error : FuncData}
    {f_plan : Addr} {fd_plan : FuncData}
    {f_row_of : Addr} {fd_row_of : FuncData}
    {f_takes : Addr} {fd_takes : FuncData}
    {f_deeds : Addr} {fd_deeds : FuncData}
    {f_call : Addr} {fd_call : FuncData}
    {f_kind : Addr} {fd_kind : FuncData}
    {f_begin : Addr} {fd_begin : FuncData}
    {f_kept : Addr} {fd_kept : FuncData}
    {f_deed : Addr} {fd_deed : FuncData}
    {f_made_of : Addr} {fd_made_of : FuncData}
    {f_told : Addr} {fd_told : FuncData}
    {f_done : Addr} {fd_done : FuncData}
    {f_ran : Addr} {fd_ran : FuncData}
    {f_all_told : Addr} {fd_all_told : FuncData}
    {f_callable : Addr} {fd_callable : FuncData}
    {f_is_right : Addr} {fd_is_right : FuncData}
    {f_is_word : Addr} {fd_is_word : FuncData}
    {f_is_integer : Addr} {fd_is_integer : FuncData}
    {f_is_list : Addr} {fd_is_list : FuncData}
    {f_is_modes : Addr} {fd_is_modes : FuncData}
    {f_is_field : Addr} {fd_is_field : FuncData}
    {f_kept_fields : Addr} {fd_kept_fields : FuncData}
    {f_is_many : Addr} {fd_is_many : FuncData}
    {f_is_deed : Addr} {fd_is_deed : FuncData}
    {f_are_moves : Addr} {fd_are_moves : FuncData}
    {f_has_call_form : Addr} {fd_has_call_form : FuncData}
    {f_are_deeds : Addr} {fd_are_deeds : FuncData}
    {f_is_same : Addr} {fd_is_same : FuncData}
    {f_kept_call : Addr} {fd_kept_call : FuncData}
    {f_wrong_part : Addr} {fd_wrong_part : FuncData}
    {f_kept_calls : Addr} {fd_kept_calls : FuncData}
    {f_kept_program : Addr} {fd_kept_program : FuncData}
    {f_is_row : Addr} {fd_is_row : FuncData}
    {f_is_last : Addr} {fd_is_last : FuncData}
    {f_law : Addr} {fd_law : FuncData}
    {C_Kind : Addr}
    {C_Handed : Addr}
    {C_Bench : Addr}
    {C_Run : Addr}
    {C_Yard : Addr}
    {C_Thing : Addr}
    {C_BadField : Addr}
    {C_BadModes : Addr}
    {C_BadCall : Addr}
    {C_UnknownCall : Addr}
    {C_BadPlace : Addr}
    {C_BadText : Addr}
    {C_BadRow : Addr}
    {C_BadWord : Addr}
    {C_BadWish : Addr}
    {C_BadRun : Addr}
    {C_BadCallers : Addr}
    {C_BadKind : Addr}
    {C_BadRule : Addr}
    {C_Refused : Addr}
    {C_BadThing : Addr}
    {C_MakerError : Addr}
    {A_z0 : Addr}
    {f_kinit : Addr} {fd_kinit : FuncData}
    {f_khas : Addr} {fd_khas : FuncData}
    {f_keq : Addr} {fd_keq : FuncData}
    {f_ktakes : Addr} {fd_ktakes : FuncData}
    {f_hinit : Addr} {fd_hinit : FuncData}
    {f_binit : Addr} {fd_binit : FuncData}
    {f_rinit : Addr} {fd_rinit : FuncData}
    {f_b_put_list : Addr} {fd_b_put_list : FuncData}
    {f_b_copied : Addr} {fd_b_copied : FuncData}
    {f_b_blank_maker : Addr} {fd_b_blank_maker : FuncData}
    {f_b_do_list_deed : Addr} {fd_b_do_list_deed : FuncData}
    {f_b_do_deeds : Addr} {fd_b_do_deeds : FuncData}
    {f_b_contents : Addr} {fd_b_contents : FuncData}
    {f_b_hand_over : Addr} {fd_b_hand_over : FuncData}
    {f_b_next_mode : Addr} {fd_b_next_mode : FuncData}
    {f_b_do_call : Addr} {fd_b_do_call : FuncData}
    {f_b_do_row : Addr} {fd_b_do_row : FuncData}
    {f_b_told : Addr} {fd_b_told : FuncData}
    {f_b_told_all : Addr} {fd_b_told_all : FuncData}
    {f_r_eq : Addr} {fd_r_eq : FuncData}
    {f_y_init : Addr} {fd_y_init : FuncData}
    {f_y_make : Addr} {fd_y_make : FuncData}
    {f_y_undo : Addr} {fd_y_undo : FuncData}
    {f_y_run : Addr} {fd_y_run : FuncData}
    {f_y_put_row : Addr} {fd_y_put_row : FuncData}
    {f_t_init : Addr} {fd_t_init : FuncData}
    {f_t_look : Addr} {fd_t_look : FuncData}
    {f_t_call : Addr} {fd_t_call : FuncData}
    {tk_MOST_LETTERS : Tok}
    {tk_MOST_FIELDS : Tok}
    {tk_MOST_MODES : Tok}
    {tk_MOST_CALLS : Tok}
    {tk_MOST_DEEDS : Tok}
    {A_sorts : Addr}
    {A_hands : Addr}
    {A_wd : Addr}
    {A_lwd : Addr}
    {A_sod : Addr}
    {A_sod_set : Addr}
    {A_sod_add : Addr}
    {A_sod_strike : Addr}
    {A_sod_fresh : Addr}
    {A_sod_clear : Addr}
    (a_fresh : PySem.W.nsIn K mainGlobals "_law_fresh" = some (some (.ref f_fresh)))
    (D_fresh : FunD K "_law_fresh" "_law_fresh" (defArgs s_fresh) (defBody s_fresh) (defScope s_fresh) [] [] f_fresh fd_fresh)
    (a_fill : PySem.W.nsIn K mainGlobals "_law_fill" = some (some (.ref f_fill)))
    (D_fill : FunD K "_law_fill" "_law_fill" (defArgs s_fill) (defBody s_fill) (defScope s_fill) [] [] f_fill fd_fill)
    (a_take : PySem.W.nsIn K mainGlobals "_law_take" = some (some (.ref f_take)))
    (D_take : FunD K "_law_take" "_law_take" (defArgs s_take) (defBody s_take) (defScope s_take) [] [] f_take fd_take)
    (a_one : PySem.W.nsIn K mainGlobals "_law_one" = some (some (.ref f_one)))
    (D_one : FunD K "_law_one" "_law_one" (defArgs s_one) (defBody s_one) (defScope s_one) [] [] f_one fd_one)
    (a_mix : PySem.W.nsIn K mainGlobals "_law_mix" = some (some (.ref f_mix)))
    (D_mix : FunD K "_law_mix" "_law_mix" (defArgs s_mix) (defBody s_mix) (defScope s_mix) [] [] f_mix fd_mix)
    (a_same : PySem.W.nsIn K mainGlobals "_law_same" = some (some (.ref f_same)))
    (D_same : FunD K "_law_same" "_law_same" (defArgs s_same) (defBody s_same) (defScope s_same) [] [] f_same fd_same)
    (a_tried : PySem.W.nsIn K mainGlobals "_law_tried" = some (some (.ref f_tried)))
    (D_tried : FunD K "_law_tried" "_law_tried" (defArgs s_tried) (defBody s_tried) (defScope s_tried) [] [] f_tried fd_tried)
    (a_error : PySem.W.nsIn K mainGlobals "_law_error" = some (some (.ref f_error)))
    (D_error : FunD K "_law_error" "_law_error" (defArgs s_error) (defBody s_error) (defScope s_error) [] [] f_error fd_error)
    (a_other_error : PySem.W.nsIn K mainGlobals "_law_other_error" = some (some (.ref f_other_error)))
    (D_other_error : FunD K "_law_other_error" "_law_other_error" (defArgs s_other_error) (defBody s_other_error) (defScope s_other_error) [] [] f_other_error fd_other_error)
    (a_plan : PySem.W.nsIn K mainGlobals "_law_plan" = some (some (.ref f_plan)))
    (D_plan : FunD K "_law_plan" "_law_plan" (defArgs s_plan) (defBody s_plan) (defScope s_plan) [] [] f_plan fd_plan)
    (a_row_of : PySem.W.nsIn K mainGlobals "_law_row_of" = some (some (.ref f_row_of)))
    (D_row_of : FunD K "_law_row_of" "_law_row_of" (defArgs s_row_of) (defBody s_row_of) (defScope s_row_of) [] [] f_row_of fd_row_of)
    (a_takes : PySem.W.nsIn K mainGlobals "_law_takes" = some (some (.ref f_takes)))
    (D_takes : FunD K "_law_takes" "_law_takes" (defArgs s_takes) (defBody s_takes) (defScope s_takes) [] [] f_takes fd_takes)
    (a_deeds : PySem.W.nsIn K mainGlobals "_law_deeds" = some (some (.ref f_deeds)))
    (D_deeds : FunD K "_law_deeds" "_law_deeds" (defArgs s_deeds) (defBody s_deeds) (defScope s_deeds) [] [] f_deeds fd_deeds)
    (a_call : PySem.W.nsIn K mainGlobals "_law_call" = some (some (.ref f_call)))
    (D_call : FunD K "_law_call" "_law_call" (defArgs s_call) (defBody s_call) (defScope s_call) [] [] f_call fd_call)
    (a_kind : PySem.W.nsIn K mainGlobals "_law_kind" = some (some (.ref f_kind)))
    (D_kind : FunD K "_law_kind" "_law_kind" (defArgs s_kind) (defBody s_kind) (defScope s_kind) [] [] f_kind fd_kind)
    (a_begin : PySem.W.nsIn K mainGlobals "_law_begin" = some (some (.ref f_begin)))
    (D_begin : FunD K "_law_begin" "_law_begin" (defArgs s_begin) (defBody s_begin) (defScope s_begin) [] [] f_begin fd_begin)
    (a_kept : PySem.W.nsIn K mainGlobals "_law_kept" = some (some (.ref f_kept)))
    (D_kept : FunD K "_law_kept" "_law_kept" (defArgs s_kept) (defBody s_kept) (defScope s_kept) [] [] f_kept fd_kept)
    (a_deed : PySem.W.nsIn K mainGlobals "_law_deed" = some (some (.ref f_deed)))
    (D_deed : FunD K "_law_deed" "_law_deed" (defArgs s_deed) (defBody s_deed) (defScope s_deed) [] [] f_deed fd_deed)
    (a_made_of : PySem.W.nsIn K mainGlobals "_law_made_of" = some (some (.ref f_made_of)))
    (D_made_of : FunD K "_law_made_of" "_law_made_of" (defArgs s_made_of) (defBody s_made_of) (defScope s_made_of) [] [] f_made_of fd_made_of)
    (a_told : PySem.W.nsIn K mainGlobals "_law_told" = some (some (.ref f_told)))
    (D_told : FunD K "_law_told" "_law_told" (defArgs s_told) (defBody s_told) (defScope s_told) [] [] f_told fd_told)
    (a_done : PySem.W.nsIn K mainGlobals "_law_done" = some (some (.ref f_done)))
    (D_done : FunD K "_law_done" "_law_done" (defArgs s_done) (defBody s_done) (defScope s_done) [] [] f_done fd_done)
    (a_ran : PySem.W.nsIn K mainGlobals "_law_ran" = some (some (.ref f_ran)))
    (D_ran : FunD K "_law_ran" "_law_ran" (defArgs s_ran) (defBody s_ran) (defScope s_ran) [] [] f_ran fd_ran)
    (a_all_told : PySem.W.nsIn K mainGlobals "_law_all_told" = some (some (.ref f_all_told)))
    (D_all_told : FunD K "_law_all_told" "_law_all_told" (defArgs s_all_told) (defBody s_all_told) (defScope s_all_told) [] [] f_all_told fd_all_told)
    (a_callable : PySem.W.nsIn K mainGlobals "_law_callable" = some (some (.ref f_callable)))
    (D_callable : FunD K "_law_callable" "_law_callable" (defArgs s_callable) (defBody s_callable) (defScope s_callable) [] [] f_callable fd_callable)
    (a_is_right : PySem.W.nsIn K mainGlobals "_law_is_right" = some (some (.ref f_is_right)))
    (D_is_right : FunD K "_law_is_right" "_law_is_right" (defArgs s_is_right) (defBody s_is_right) (defScope s_is_right) [] [] f_is_right fd_is_right)
    (a_is_word : PySem.W.nsIn K mainGlobals "is_word" = some (some (.ref f_is_word)))
    (D_is_word : FunD K "is_word" "is_word" (defArgs s_is_word) (defBody s_is_word) (defScope s_is_word) [] [] f_is_word fd_is_word)
    (a_is_integer : PySem.W.nsIn K mainGlobals "is_integer" = some (some (.ref f_is_integer)))
    (D_is_integer : FunD K "is_integer" "is_integer" (defArgs s_is_integer) (defBody s_is_integer) (defScope s_is_integer) [] [] f_is_integer fd_is_integer)
    (a_is_list : PySem.W.nsIn K mainGlobals "is_list" = some (some (.ref f_is_list)))
    (D_is_list : FunD K "is_list" "is_list" (defArgs s_is_list) (defBody s_is_list) (defScope s_is_list) [] [] f_is_list fd_is_list)
    (a_is_modes : PySem.W.nsIn K mainGlobals "is_modes" = some (some (.ref f_is_modes)))
    (D_is_modes : FunD K "is_modes" "is_modes" (defArgs s_is_modes) (defBody s_is_modes) (defScope s_is_modes) [] [] f_is_modes fd_is_modes)
    (a_is_field : PySem.W.nsIn K mainGlobals "is_field" = some (some (.ref f_is_field)))
    (D_is_field : FunD K "is_field" "is_field" (defArgs s_is_field) (defBody s_is_field) (defScope s_is_field) [] [] f_is_field fd_is_field)
    (a_kept_fields : PySem.W.nsIn K mainGlobals "kept_fields" = some (some (.ref f_kept_fields)))
    (D_kept_fields : FunD K "kept_fields" "kept_fields" (defArgs s_kept_fields) (defBody s_kept_fields) (defScope s_kept_fields) [] [] f_kept_fields fd_kept_fields)
    (a_is_many : PySem.W.nsIn K mainGlobals "is_many" = some (some (.ref f_is_many)))
    (D_is_many : FunD K "is_many" "is_many" (defArgs s_is_many) (defBody s_is_many) (defScope s_is_many) [] [] f_is_many fd_is_many)
    (a_is_deed : PySem.W.nsIn K mainGlobals "is_deed" = some (some (.ref f_is_deed)))
    (D_is_deed : FunD K "is_deed" "is_deed" (defArgs s_is_deed) (defBody s_is_deed) (defScope s_is_deed) [] [] f_is_deed fd_is_deed)
    (a_are_moves : PySem.W.nsIn K mainGlobals "are_moves" = some (some (.ref f_are_moves)))
    (D_are_moves : FunD K "are_moves" "are_moves" (defArgs s_are_moves) (defBody s_are_moves) (defScope s_are_moves) [] [] f_are_moves fd_are_moves)
    (a_has_call_form : PySem.W.nsIn K mainGlobals "has_call_form" = some (some (.ref f_has_call_form)))
    (D_has_call_form : FunD K "has_call_form" "has_call_form" (defArgs s_has_call_form) (defBody s_has_call_form) (defScope s_has_call_form) [] [] f_has_call_form fd_has_call_form)
    (a_are_deeds : PySem.W.nsIn K mainGlobals "are_deeds" = some (some (.ref f_are_deeds)))
    (D_are_deeds : FunD K "are_deeds" "are_deeds" (defArgs s_are_deeds) (defBody s_are_deeds) (defScope s_are_deeds) [] [] f_are_deeds fd_are_deeds)
    (a_is_same : PySem.W.nsIn K mainGlobals "is_same" = some (some (.ref f_is_same)))
    (D_is_same : FunD K "is_same" "is_same" (defArgs s_is_same) (defBody s_is_same) (defScope s_is_same) [] [] f_is_same fd_is_same)
    (a_kept_call : PySem.W.nsIn K mainGlobals "kept_call" = some (some (.ref f_kept_call)))
    (D_kept_call : FunD K "kept_call" "kept_call" (defArgs s_kept_call) (defBody s_kept_call) (defScope s_kept_call) [] [] f_kept_call fd_kept_call)
    (a_wrong_part : PySem.W.nsIn K mainGlobals "wrong_part" = some (some (.ref f_wrong_part)))
    (D_wrong_part : FunD K "wrong_part" "wrong_part" (defArgs s_wrong_part) (defBody s_wrong_part) (defScope s_wrong_part) [] [] f_wrong_part fd_wrong_part)
    (a_kept_calls : PySem.W.nsIn K mainGlobals "kept_calls" = some (some (.ref f_kept_calls)))
    (D_kept_calls : FunD K "kept_calls" "kept_calls" (defArgs s_kept_calls) (defBody s_kept_calls) (defScope s_kept_calls) [] [] f_kept_calls fd_kept_calls)
    (a_kept_program : PySem.W.nsIn K mainGlobals "kept_program" = some (some (.ref f_kept_program)))
    (D_kept_program : FunD K "kept_program" "kept_program" (defArgs s_kept_program) (defBody s_kept_program) (defScope s_kept_program) [] [] f_kept_program fd_kept_program)
    (a_is_row : PySem.W.nsIn K mainGlobals "is_row" = some (some (.ref f_is_row)))
    (D_is_row : FunD K "is_row" "is_row" (defArgs s_is_row) (defBody s_is_row) (defScope s_is_row) [] [] f_is_row fd_is_row)
    (a_is_last : PySem.W.nsIn K mainGlobals "is_last" = some (some (.ref f_is_last)))
    (D_is_last : FunD K "is_last" "is_last" (defArgs s_is_last) (defBody s_is_last) (defScope s_is_last) [] [] f_is_last fd_is_last)
    (a_law : PySem.W.nsIn K mainGlobals "law" = some (some (.ref f_law)))
    (D_law : FunD K "law" "law" (defArgs s_law) (defBody s_law) (defScope s_law) [] [] f_law fd_law)
    (tab_law : tabB K "law" = true)
    (aC_Kind : PySem.W.nsIn K mainGlobals "Kind" = some (some (.ref C_Kind)))
    (aC_Handed : PySem.W.nsIn K mainGlobals "Handed" = some (some (.ref C_Handed)))
    (aC_Bench : PySem.W.nsIn K mainGlobals "Bench" = some (some (.ref C_Bench)))
    (aC_Run : PySem.W.nsIn K mainGlobals "Run" = some (some (.ref C_Run)))
    (aC_Yard : PySem.W.nsIn K mainGlobals "Yard" = some (some (.ref C_Yard)))
    (aC_Thing : PySem.W.nsIn K mainGlobals "Thing" = some (some (.ref C_Thing)))
    (aC_BadField : PySem.W.nsIn K mainGlobals "BadField" = some (some (.ref C_BadField)))
    (aC_BadModes : PySem.W.nsIn K mainGlobals "BadModes" = some (some (.ref C_BadModes)))
    (aC_BadCall : PySem.W.nsIn K mainGlobals "BadCall" = some (some (.ref C_BadCall)))
    (aC_UnknownCall : PySem.W.nsIn K mainGlobals "UnknownCall" = some (some (.ref C_UnknownCall)))
    (aC_BadPlace : PySem.W.nsIn K mainGlobals "BadPlace" = some (some (.ref C_BadPlace)))
    (aC_BadText : PySem.W.nsIn K mainGlobals "BadText" = some (some (.ref C_BadText)))
    (aC_BadRow : PySem.W.nsIn K mainGlobals "BadRow" = some (some (.ref C_BadRow)))
    (aC_BadWord : PySem.W.nsIn K mainGlobals "BadWord" = some (some (.ref C_BadWord)))
    (aC_BadWish : PySem.W.nsIn K mainGlobals "BadWish" = some (some (.ref C_BadWish)))
    (aC_BadRun : PySem.W.nsIn K mainGlobals "BadRun" = some (some (.ref C_BadRun)))
    (aC_BadCallers : PySem.W.nsIn K mainGlobals "BadCallers" = some (some (.ref C_BadCallers)))
    (aC_BadKind : PySem.W.nsIn K mainGlobals "BadKind" = some (some (.ref C_BadKind)))
    (aC_BadRule : PySem.W.nsIn K mainGlobals "BadRule" = some (some (.ref C_BadRule)))
    (aC_Refused : PySem.W.nsIn K mainGlobals "Refused" = some (some (.ref C_Refused)))
    (aC_BadThing : PySem.W.nsIn K mainGlobals "BadThing" = some (some (.ref C_BadThing)))
    (aC_MakerError : PySem.W.nsIn K mainGlobals "MakerError" = some (some (.ref C_MakerError)))
    (m_kinit : PySem.W.findIn K (.ref C_Kind) "__init__" = some (some (.ref f_kinit)))
    (D_kinit : FunD K "__init__" "Kind.__init__" (defArgs s_Kind_init) (defBody s_Kind_init) (defScope s_Kind_init) [] [] f_kinit fd_kinit)
    (fn_kinit : PySem.W.isFn K (.ref f_kinit) = true)
    (m_khas : PySem.W.findIn K (.ref C_Kind) "__contains__" = some (some (.ref f_khas)))
    (D_khas : FunD K "__contains__" "Kind.__contains__" (defArgs s_Kind_contains) (defBody s_Kind_contains) (defScope s_Kind_contains) [] [] f_khas fd_khas)
    (fn_khas : PySem.W.isFn K (.ref f_khas) = true)
    (m_keq : PySem.W.findIn K (.ref C_Kind) "__eq__" = some (some (.ref f_keq)))
    (D_keq : FunD K "__eq__" "Kind.__eq__" (defArgs s_Kind_eq) (defBody s_Kind_eq) (defScope s_Kind_eq) [] [] f_keq fd_keq)
    (fn_keq : PySem.W.isFn K (.ref f_keq) = true)
    (m_ktakes : PySem.W.findIn K (.ref C_Kind) "takes" = some (some (.ref f_ktakes)))
    (D_ktakes : FunD K "takes" "Kind.takes" (defArgs s_Kind_takes) (defBody s_Kind_takes) (defScope s_Kind_takes) [] [] f_ktakes fd_ktakes)
    (fn_ktakes : PySem.W.isFn K (.ref f_ktakes) = true)
    (m_hinit : PySem.W.findIn K (.ref C_Handed) "__init__" = some (some (.ref f_hinit)))
    (D_hinit : FunD K "__init__" "Handed.__init__" (defArgs s_Handed_init) (defBody s_Handed_init) (defScope s_Handed_init) [] [] f_hinit fd_hinit)
    (fn_hinit : PySem.W.isFn K (.ref f_hinit) = true)
    (m_binit : PySem.W.findIn K (.ref C_Bench) "__init__" = some (some (.ref f_binit)))
    (D_binit : FunD K "__init__" "Bench.__init__" (defArgs s_Bench_init) (defBody s_Bench_init) (defScope s_Bench_init) [.bl false] [] f_binit fd_binit)
    (fn_binit : PySem.W.isFn K (.ref f_binit) = true)
    (m_rinit : PySem.W.findIn K (.ref C_Run) "__init__" = some (some (.ref f_rinit)))
    (D_rinit : FunD K "__init__" "Run.__init__" (defArgs s_Run_init) (defBody s_Run_init) (defScope s_Run_init) [.ref A_z0] [] f_rinit fd_rinit)
    (fn_rinit : PySem.W.isFn K (.ref f_rinit) = true)
    (m_b_put_list : PySem.W.findIn K (.ref C_Bench) "put_list" = some (some (.ref f_b_put_list)))
    (D_b_put_list : FunD K "put_list" "Bench.put_list" (defArgs s_Bench_put_list) (defBody s_Bench_put_list) (defScope s_Bench_put_list) [] [] f_b_put_list fd_b_put_list)
    (fn_b_put_list : PySem.W.isFn K (.ref f_b_put_list) = true)
    (m_b_copied : PySem.W.findIn K (.ref C_Bench) "copied" = some (some (.ref f_b_copied)))
    (D_b_copied : FunD K "copied" "Bench.copied" (defArgs s_Bench_copied) (defBody s_Bench_copied) (defScope s_Bench_copied) [] [] f_b_copied fd_b_copied)
    (fn_b_copied : PySem.W.isFn K (.ref f_b_copied) = true)
    (m_b_blank_maker : PySem.W.findIn K (.ref C_Bench) "blank_maker" = some (some (.ref f_b_blank_maker)))
    (D_b_blank_maker : FunD K "blank_maker" "Bench.blank_maker" (defArgs s_Bench_blank_maker) (defBody s_Bench_blank_maker) (defScope s_Bench_blank_maker) [] [] f_b_blank_maker fd_b_blank_maker)
    (fn_b_blank_maker : PySem.W.isFn K (.ref f_b_blank_maker) = true)
    (m_b_do_list_deed : PySem.W.findIn K (.ref C_Bench) "do_list_deed" = some (some (.ref f_b_do_list_deed)))
    (D_b_do_list_deed : FunD K "do_list_deed" "Bench.do_list_deed" (defArgs s_Bench_do_list_deed) (defBody s_Bench_do_list_deed) (defScope s_Bench_do_list_deed) [] [] f_b_do_list_deed fd_b_do_list_deed)
    (fn_b_do_list_deed : PySem.W.isFn K (.ref f_b_do_list_deed) = true)
    (m_b_do_deeds : PySem.W.findIn K (.ref C_Bench) "do_deeds" = some (some (.ref f_b_do_deeds)))
    (D_b_do_deeds : FunD K "do_deeds" "Bench.do_deeds" (defArgs s_Bench_do_deeds) (defBody s_Bench_do_deeds) (defScope s_Bench_do_deeds) [] [] f_b_do_deeds fd_b_do_deeds)
    (fn_b_do_deeds : PySem.W.isFn K (.ref f_b_do_deeds) = true)
    (m_b_contents : PySem.W.findIn K (.ref C_Bench) "contents" = some (some (.ref f_b_contents)))
    (D_b_contents : FunD K "contents" "Bench.contents" (defArgs s_Bench_contents) (defBody s_Bench_contents) (defScope s_Bench_contents) [] [] f_b_contents fd_b_contents)
    (fn_b_contents : PySem.W.isFn K (.ref f_b_contents) = true)
    (m_b_hand_over : PySem.W.findIn K (.ref C_Bench) "hand_over" = some (some (.ref f_b_hand_over)))
    (D_b_hand_over : FunD K "hand_over" "Bench.hand_over" (defArgs s_Bench_hand_over) (defBody s_Bench_hand_over) (defScope s_Bench_hand_over) [] [] f_b_hand_over fd_b_hand_over)
    (fn_b_hand_over : PySem.W.isFn K (.ref f_b_hand_over) = true)
    (m_b_next_mode : PySem.W.findIn K (.ref C_Bench) "next_mode" = some (some (.ref f_b_next_mode)))
    (D_b_next_mode : FunD K "next_mode" "Bench.next_mode" (defArgs s_Bench_next_mode) (defBody s_Bench_next_mode) (defScope s_Bench_next_mode) [] [] f_b_next_mode fd_b_next_mode)
    (fn_b_next_mode : PySem.W.isFn K (.ref f_b_next_mode) = true)
    (m_b_do_call : PySem.W.findIn K (.ref C_Bench) "do_call" = some (some (.ref f_b_do_call)))
    (D_b_do_call : FunD K "do_call" "Bench.do_call" (defArgs s_Bench_do_call) (defBody s_Bench_do_call) (defScope s_Bench_do_call) [] [] f_b_do_call fd_b_do_call)
    (fn_b_do_call : PySem.W.isFn K (.ref f_b_do_call) = true)
    (m_b_do_row : PySem.W.findIn K (.ref C_Bench) "do_row" = some (some (.ref f_b_do_row)))
    (D_b_do_row : FunD K "do_row" "Bench.do_row" (defArgs s_Bench_do_row) (defBody s_Bench_do_row) (defScope s_Bench_do_row) [] [] f_b_do_row fd_b_do_row)
    (fn_b_do_row : PySem.W.isFn K (.ref f_b_do_row) = true)
    (m_b_told : PySem.W.findIn K (.ref C_Bench) "told" = some (some (.ref f_b_told)))
    (D_b_told : FunD K "told" "Bench.told" (defArgs s_Bench_told) (defBody s_Bench_told) (defScope s_Bench_told) [] [] f_b_told fd_b_told)
    (fn_b_told : PySem.W.isFn K (.ref f_b_told) = true)
    (m_b_told_all : PySem.W.findIn K (.ref C_Bench) "told_all" = some (some (.ref f_b_told_all)))
    (D_b_told_all : FunD K "told_all" "Bench.told_all" (defArgs s_Bench_told_all) (defBody s_Bench_told_all) (defScope s_Bench_told_all) [] [] f_b_told_all fd_b_told_all)
    (fn_b_told_all : PySem.W.isFn K (.ref f_b_told_all) = true)
    (m_r_eq : PySem.W.findIn K (.ref C_Run) "__eq__" = some (some (.ref f_r_eq)))
    (D_r_eq : FunD K "__eq__" "Run.__eq__" (defArgs s_Run_eq) (defBody s_Run_eq) (defScope s_Run_eq) [] [] f_r_eq fd_r_eq)
    (fn_r_eq : PySem.W.isFn K (.ref f_r_eq) = true)
    (m_y_init : PySem.W.findIn K (.ref C_Yard) "__init__" = some (some (.ref f_y_init)))
    (D_y_init : FunD K "__init__" "Yard.__init__" (defArgs s_Yard_init) (defBody s_Yard_init) (defScope s_Yard_init) [] [] f_y_init fd_y_init)
    (fn_y_init : PySem.W.isFn K (.ref f_y_init) = true)
    (m_y_make : PySem.W.findIn K (.ref C_Yard) "make" = some (some (.ref f_y_make)))
    (D_y_make : FunD K "make" "Yard.make" (defArgs s_Yard_make) (defBody s_Yard_make) (defScope s_Yard_make) [] [] f_y_make fd_y_make)
    (fn_y_make : PySem.W.isFn K (.ref f_y_make) = true)
    (m_y_undo : PySem.W.findIn K (.ref C_Yard) "undo" = some (some (.ref f_y_undo)))
    (D_y_undo : FunD K "undo" "Yard.undo" (defArgs s_Yard_undo) (defBody s_Yard_undo) (defScope s_Yard_undo) [] [] f_y_undo fd_y_undo)
    (fn_y_undo : PySem.W.isFn K (.ref f_y_undo) = true)
    (m_y_run : PySem.W.findIn K (.ref C_Yard) "run" = some (some (.ref f_y_run)))
    (D_y_run : FunD K "run" "Yard.run" (defArgs s_Yard_run) (defBody s_Yard_run) (defScope s_Yard_run) [] [] f_y_run fd_y_run)
    (fn_y_run : PySem.W.isFn K (.ref f_y_run) = true)
    (m_y_put_row : PySem.W.findIn K (.ref C_Yard) "put_row" = some (some (.ref f_y_put_row)))
    (D_y_put_row : FunD K "put_row" "Yard.put_row" (defArgs s_Yard_put_row) (defBody s_Yard_put_row) (defScope s_Yard_put_row) [] [] f_y_put_row fd_y_put_row)
    (fn_y_put_row : PySem.W.isFn K (.ref f_y_put_row) = true)
    (m_t_init : PySem.W.findIn K (.ref C_Thing) "__init__" = some (some (.ref f_t_init)))
    (D_t_init : FunD K "__init__" "Thing.__init__" (defArgs s_Thing_init) (defBody s_Thing_init) (defScope s_Thing_init) [] [] f_t_init fd_t_init)
    (fn_t_init : PySem.W.isFn K (.ref f_t_init) = true)
    (m_t_look : PySem.W.findIn K (.ref C_Thing) "look" = some (some (.ref f_t_look)))
    (D_t_look : FunD K "look" "Thing.look" (defArgs s_Thing_look) (defBody s_Thing_look) (defScope s_Thing_look) [] [] f_t_look fd_t_look)
    (fn_t_look : PySem.W.isFn K (.ref f_t_look) = true)
    (m_t_call : PySem.W.findIn K (.ref C_Thing) "call" = some (some (.ref f_t_call)))
    (D_t_call : FunD K "call" "Thing.call" (defArgs s_Thing_call) (defBody s_Thing_call) (defScope s_Thing_call) [.non] [] f_t_call fd_t_call)
    (fn_t_call : PySem.W.isFn K (.ref f_t_call) = true)
    (e_Refused : errB K C_Refused = true)
    (x_Refused : PySem.W.excIn K C_Refused PySem.HandSPX.veTail "ValueError.__new__" = true)
    (s_Refused : PySem.W.subIn K (.ref C_Refused) (.type "BaseException") = some true)
    (s2_Refused : PySem.W.typeIn K (.ref C_Refused) = some (.type "type"))
    (kp_Refused : PySem.W.keepIn K (.ref C_Refused) = true)
    (kc_mk : PySem.W.makesIn K C_Kind = true)
    (kc_kp : PySem.W.keepIn K (.ref C_Kind) = true)
    (kc_pg : PySem.W.plainGet K C_Kind Str.empty = true)
    (kc_hd : PySem.W.hasDictIn K C_Kind = true)
    (kc_po : PySem.W.plainOver K C_Kind = true)
    (kc_sa : PySem.W.findIn K (.ref C_Kind) "__setattr__" = some (some (.builtin "object.__setattr__")))
    (kc_n_triples : PySem.W.findIn K (.ref C_Kind) "triples" = some none)
    (kc_n_sorts : PySem.W.findIn K (.ref C_Kind) "sorts" = some none)
    (kc_n_spots : PySem.W.findIn K (.ref C_Kind) "spots" = some none)
    (kc_n_modes : PySem.W.findIn K (.ref C_Kind) "modes" = some none)
    (kc_n_steps : PySem.W.findIn K (.ref C_Kind) "steps" = some none)
    (kc_n_table : PySem.W.findIn K (.ref C_Kind) "table" = some none)
    (bc_mk : PySem.W.makesIn K C_Bench = true)
    (bc_kp : PySem.W.keepIn K (.ref C_Bench) = true)
    (bc_pg : PySem.W.plainGet K C_Bench Str.empty = true)
    (bc_hd : PySem.W.hasDictIn K C_Bench = true)
    (bc_po : PySem.W.plainOver K C_Bench = true)
    (bc_sa : PySem.W.findIn K (.ref C_Bench) "__setattr__" = some (some (.builtin "object.__setattr__")))
    (bc_n_kind : PySem.W.findIn K (.ref C_Bench) "kind" = some none)
    (bc_n_as_values : PySem.W.findIn K (.ref C_Bench) "as_values" = some none)
    (bc_n_lists : PySem.W.findIn K (.ref C_Bench) "lists" = some none)
    (bc_n_handed : PySem.W.findIn K (.ref C_Bench) "handed" = some none)
    (bc_n_early : PySem.W.findIn K (.ref C_Bench) "early" = some none)
    (hc_mk : PySem.W.makesIn K C_Handed = true)
    (hc_kp : PySem.W.keepIn K (.ref C_Handed) = true)
    (hc_pg : PySem.W.plainGet K C_Handed Str.empty = true)
    (hc_hd : PySem.W.hasDictIn K C_Handed = true)
    (hc_po : PySem.W.plainOver K C_Handed = true)
    (hc_sa : PySem.W.findIn K (.ref C_Handed) "__setattr__" = some (some (.builtin "object.__setattr__")))
    (hc_n_mode : PySem.W.findIn K (.ref C_Handed) "mode" = some none)
    (hc_n_held : PySem.W.findIn K (.ref C_Handed) "held" = some none)
    (yc_mk : PySem.W.makesIn K C_Yard = true)
    (yc_kp : PySem.W.keepIn K (.ref C_Yard) = true)
    (yc_pg : PySem.W.plainGet K C_Yard Str.empty = true)
    (yc_hd : PySem.W.hasDictIn K C_Yard = true)
    (yc_po : PySem.W.plainOver K C_Yard = true)
    (yc_sa : PySem.W.findIn K (.ref C_Yard) "__setattr__" = some (some (.builtin "object.__setattr__")))
    (yc_n_kind : PySem.W.findIn K (.ref C_Yard) "kind" = some none)
    (yc_n_program : PySem.W.findIn K (.ref C_Yard) "program" = some none)
    (yc_n_bench : PySem.W.findIn K (.ref C_Yard) "bench" = some none)
    (yc_n_placed : PySem.W.findIn K (.ref C_Yard) "placed" = some none)
    (tc_mk : PySem.W.makesIn K C_Thing = true)
    (tc_kp : PySem.W.keepIn K (.ref C_Thing) = true)
    (tc_pg : PySem.W.plainGet K C_Thing Str.empty = true)
    (tc_hd : PySem.W.hasDictIn K C_Thing = true)
    (tc_po : PySem.W.plainOver K C_Thing = true)
    (tc_sa : PySem.W.findIn K (.ref C_Thing) "__setattr__" = some (some (.builtin "object.__setattr__")))
    (tc_n_yard : PySem.W.findIn K (.ref C_Thing) "yard" = some none)
    (tc_n_number : PySem.W.findIn K (.ref C_Thing) "number" = some none)
    (tc_n_is_gone : PySem.W.findIn K (.ref C_Thing) "is_gone" = some none)
    (rc_mk : PySem.W.makesIn K C_Run = true)
    (rc_kp : PySem.W.keepIn K (.ref C_Run) = true)
    (rc_pg : PySem.W.plainGet K C_Run Str.empty = true)
    (rc_hd : PySem.W.hasDictIn K C_Run = true)
    (rc_po : PySem.W.plainOver K C_Run = true)
    (rc_sa : PySem.W.findIn K (.ref C_Run) "__setattr__" = some (some (.builtin "object.__setattr__")))
    (rc_n_kind : PySem.W.findIn K (.ref C_Run) "kind" = some none)
    (rc_n_program : PySem.W.findIn K (.ref C_Run) "program" = some none)
    (rc_n_bench : PySem.W.findIn K (.ref C_Run) "bench" = some none)
    (kc_ha : PySem.W.findIn K (.ref C_Kind) "__class__" = some (some (.builtin "object.__class__")))
    (kc_hn : PySem.W.specialIn K (.builtin "object.__class__") "__get__" = some (some (.builtin "getset_descriptor.__get__")))
    (kc_ht : PySem.W.takesIn K (.builtin "object.__class__") = some true)
    (kc_hm : PySem.W.mroIn K C_Kind (.type "object") = some true)
    (rc_ha : PySem.W.findIn K (.ref C_Run) "__class__" = some (some (.builtin "object.__class__")))
    (rc_hn : PySem.W.specialIn K (.builtin "object.__class__") "__get__" = some (some (.builtin "getset_descriptor.__get__")))
    (rc_ht : PySem.W.takesIn K (.builtin "object.__class__") = some true)
    (rc_hm : PySem.W.mroIn K C_Run (.type "object") = some true)
    (rc_ne : PySem.W.findIn K (.ref C_Run) "__ne__" = some (some (.builtin "object.__ne__")))
    (rc_ob : PySem.W.subIn K (.ref C_Run) (.type "object") = some true)
    (z_len : PySem.W.nsIn K mainGlobals "len" = some none)
    (z_int : PySem.W.nsIn K mainGlobals "int" = some none)
    (z_enumerate : PySem.W.nsIn K mainGlobals "enumerate" = some none)
    (z_list : PySem.W.nsIn K mainGlobals "list" = some none)
    (z_tuple : PySem.W.nsIn K mainGlobals "tuple" = some none)
    (z_isinstance : PySem.W.nsIn K mainGlobals "isinstance" = some none)
    (z_range : PySem.W.nsIn K mainGlobals "range" = some none)
    (z_all : PySem.W.nsIn K mainGlobals "all" = some none)
    (z_zip : PySem.W.nsIn K mainGlobals "zip" = some none)
    (z_ValueError : PySem.W.nsIn K mainGlobals "ValueError" = some none)
    (z_bool : PySem.W.nsIn K mainGlobals "bool" = some none)
    (z_str : PySem.W.nsIn K mainGlobals "str" = some none)
    (z_set : PySem.W.nsIn K mainGlobals "set" = some none)
    (z_any : PySem.W.nsIn K mainGlobals "any" = some none)
    (v_MOST_LETTERS : PySem.W.nsIn K mainGlobals "MOST_LETTERS" = some (some (.int 8 tk_MOST_LETTERS)))
    (v_MOST_FIELDS : PySem.W.nsIn K mainGlobals "MOST_FIELDS" = some (some (.int 3 tk_MOST_FIELDS)))
    (v_MOST_MODES : PySem.W.nsIn K mainGlobals "MOST_MODES" = some (some (.int 4 tk_MOST_MODES)))
    (v_MOST_CALLS : PySem.W.nsIn K mainGlobals "MOST_CALLS" = some (some (.int 6 tk_MOST_CALLS)))
    (v_MOST_DEEDS : PySem.W.nsIn K mainGlobals "MOST_DEEDS" = some (some (.int 4 tk_MOST_DEEDS)))
    (v_SORTS : PySem.W.nsIn K mainGlobals "SORTS" = some (some (.ref A_sorts)))
    (tu_sorts : tupB K A_sorts ["one", "many"] = true)
    (v_HANDS : PySem.W.nsIn K mainGlobals "HANDS" = some (some (.ref A_hands)))
    (tu_hands : tupB K A_hands ["self", "new", "last"] = true)
    (v_WORD_DEEDS : PySem.W.nsIn K mainGlobals "WORD_DEEDS" = some (some (.ref A_wd)))
    (tu_wd : tupB K A_wd ["set", "add", "strike"] = true)
    (v_LIST_WORD_DEEDS : PySem.W.nsIn K mainGlobals "LIST_WORD_DEEDS" = some (some (.ref A_lwd)))
    (tu_lwd : tupB K A_lwd ["add", "strike"] = true)
    (tu_z0 : tupB K A_z0 [] = true)
    (v_sod : PySem.W.nsIn K mainGlobals "SORTS_OF_DEEDS" = some (some (.ref A_sod)))
    (sd_set : PySem.W.nsIn K A_sod "set" = some (some (.ref A_sod_set)))
    (td_set : tupB K A_sod_set ["one"] = true)
    (sd_add : PySem.W.nsIn K A_sod "add" = some (some (.ref A_sod_add)))
    (td_add : tupB K A_sod_add ["many"] = true)
    (sd_strike : PySem.W.nsIn K A_sod "strike" = some (some (.ref A_sod_strike)))
    (td_strike : tupB K A_sod_strike ["many"] = true)
    (sd_fresh : PySem.W.nsIn K A_sod "fresh" = some (some (.ref A_sod_fresh)))
    (td_fresh : tupB K A_sod_fresh ["many"] = true)
    (sd_clear : PySem.W.nsIn K A_sod "clear" = some (some (.ref A_sod_clear)))
    (td_clear : tupB K A_sod_clear ["one", "many"] = true)
    (dsod : He.dicW K A_sod = some (He.keysIn w.params ["set", "add", "strike", "fresh", "clear"]))
    (q_r1 : PySem.W.kitOne K (.ref C_Refused) (.ref C_BadField) = some false)
    (q_r2 : PySem.W.kitOne K (.ref C_Refused) (.ref C_BadModes) = some false)
    (q_r3 : PySem.W.kitOne K (.ref C_Refused) (.ref C_BadCall) = some false)
    (q_r4 : PySem.W.kitOne K (.ref C_Refused) (.ref C_UnknownCall) = some false)
    (q_r5 : PySem.W.kitOne K (.ref C_Refused) (.ref C_BadPlace) = some false)
    (q_r6 : PySem.W.kitOne K (.ref C_Refused) (.ref C_BadText) = some false)
    (q_r7 : PySem.W.kitOne K (.ref C_Refused) (.ref C_BadRow) = some false)
    (q_r8 : PySem.W.kitOne K (.ref C_Refused) (.ref C_BadWord) = some false)
    (q_r9 : PySem.W.kitOne K (.ref C_Refused) (.ref C_BadWish) = some false)
    (q_r10 : PySem.W.kitOne K (.ref C_Refused) (.ref C_BadRun) = some false)
    (q_r11 : PySem.W.kitOne K (.ref C_Refused) (.ref C_BadCallers) = some false)
    (q_r12 : PySem.W.kitOne K (.ref C_Refused) (.ref C_BadKind) = some false)
    (q_r13 : PySem.W.kitOne K (.ref C_Refused) (.ref C_BadRule) = some false)
    (q_r14 : PySem.W.kitOne K (.ref C_Refused) (.ref C_Refused) = some true)
    (q_mF : PySem.W.exmOne K (.ref C_Refused) (.ref C_MakerError) = some true)
    : ∃ (fd : FuncData) (c P : Addr) (sp : Sp), PySem.W.tabIn K "law" = some (c, P) ∧ K.lookup P = none ∧ (∀ (s : Shared) (u : Value), BindsTo s fd ⟨[u], []⟩ [("_law_script", u)]) ∧
        (∀ (H : Hp) (a : Addr) (ns : List Int), ns.length ≤ 63 → H P = some (.tbl #[]) → SqL K H a (ns.map V.int) → sp [.ref a] H (fun v _ => v = .bl true) fun _ _ _ => False) ∧
        ∀ base : Heap, K.In base → base.Ns mainGlobals mg → LamX.TabB base mg c P → FnOk l.prog w K mg base CX0 13 fa fd ["_law_script"] sp := by
  have e := hfa.symm.trans (PySem.W.mg_of X G a_law)
  cases e
  have T : Txt K mg := ⟨PySem.W.mg_none_of X G z_len, PySem.W.mg_none_of X G z_int, PySem.W.mg_none_of X G z_enumerate, PySem.W.mg_none_of X G z_list, PySem.W.mg_none_of X G z_tuple, PySem.W.mg_none_of X G z_isinstance, PySem.W.mg_none_of X G z_range, PySem.W.mg_none_of X G z_all, PySem.W.mg_none_of X G z_zip, PySem.W.mg_none_of X G z_ValueError, PySem.W.mg_none_of X G z_bool, PySem.W.mg_none_of X G z_str, PySem.W.mg_none_of X G z_set, PySem.W.mg_none_of X G z_any⟩
  have k_fresh := D_fresh.kp
  have F_fresh := def_mkE (st := s_fresh) (ps := ["_law_script"]) X G a_fresh D_fresh fun _ _ _ _ _ _ us hl => match us, hl with | [_], _ => rfl
  have k_fill := D_fill.kp
  have F_fill := def_mkE (st := s_fill) (ps := ["_law_state"]) X G a_fill D_fill fun _ _ _ _ _ _ us hl => match us, hl with | [_], _ => rfl
  have k_take := D_take.kp
  have F_take := def_mkE (st := s_take) (ps := ["_law_state", "_law_many"]) X G a_take D_take fun _ _ _ _ _ _ us hl => match us, hl with | [_, _], _ => rfl
  have k_one := D_one.kp
  have F_one := def_mkE (st := s_one) (ps := ["_law_state", "_law_things"]) X G a_one D_one fun _ _ _ _ _ _ us hl => match us, hl with | [_, _], _ => rfl
  have k_mix := D_mix.kp
  have F_mix := def_mkE (st := s_mix) (ps := ["_law_state", "_law_things"]) X G a_mix D_mix fun _ _ _ _ _ _ us hl => match us, hl with | [_, _], _ => rfl
  have k_same := D_same.kp
  have F_same := def_mkE (st := s_same) (ps := ["_law_found", "_law_due"]) X G a_same D_same fun _ _ _ _ _ _ us hl => match us, hl with | [_, _], _ => rfl
  have k_tried := D_tried.kp
  have F_tried := def_mkE (st := s_tried) (ps := ["_law_deed_here"]) X G a_tried D_tried fun _ _ _ _ _ _ us hl => match us, hl with | [_], _ => rfl
  have k_error := D_error.kp
  have F_error := def_mkE (st := s_error) (ps := ["_law_e"]) X G a_error D_error fun _ _ _ _ _ _ us hl => match us, hl with | [_], _ => rfl
  have k_other_error := D_other_error.kp
  have F_other_error := def_mkE (st := s_other_error) (ps := ["_law_e"]) X G a_other_error D_other_error fun _ _ _ _ _ _ us hl => match us, hl with | [_], _ => rfl
  have k_plan := D_plan.kp
  have F_plan := def_mkE (st := s_plan) (ps := ["_law_fields", "_law_calls", "_law_far"]) X G a_plan D_plan fun _ _ _ _ _ _ us hl => match us, hl with | [_, _, _], _ => rfl
  have k_row_of := D_row_of.kp
  have F_row_of := def_mkE (st := s_row_of) (ps := ["_law_p", "_law_name"]) X G a_row_of D_row_of fun _ _ _ _ _ _ us hl => match us, hl with | [_, _], _ => rfl
  have k_takes := D_takes.kp
  have F_takes := def_mkE (st := s_takes) (ps := ["_law_row"]) X G a_takes D_takes fun _ _ _ _ _ _ us hl => match us, hl with | [_], _ => rfl
  have k_deeds := D_deeds.kp
  have F_deeds := def_mkE (st := s_deeds) (ps := ["_law_state", "_law_fields", "_law_many"]) X G a_deeds D_deeds fun _ _ _ _ _ _ us hl => match us, hl with | [_, _, _], _ => rfl
  have k_call := D_call.kp
  have F_call := def_mkE (st := s_call) (ps := ["_law_state", "_law_name", "_law_hand", "_law_fields", "_law_far"]) X G a_call D_call fun _ _ _ _ _ _ us hl => match us, hl with | [_, _, _, _, _], _ => rfl
  have k_kind := D_kind.kp
  have F_kind := def_mkE (st := s_kind) (ps := ["_law_state", "_law_wide", "_law_many", "_law_far"]) X G a_kind D_kind fun _ _ _ _ _ _ us hl => match us, hl with | [_, _, _, _], _ => rfl
  have k_begin := D_begin.kp
  have F_begin := def_mkE (st := s_begin) (ps := ["_law_p"]) X G a_begin D_begin fun _ _ _ _ _ _ us hl => match us, hl with | [_], _ => rfl
  have k_kept := D_kept.kp
  have F_kept := def_mkE (st := s_kept) (ps := ["_law_heap", "_law_words"]) X G a_kept D_kept fun _ _ _ _ _ _ us hl => match us, hl with | [_, _], _ => rfl
  have k_deed := D_deed.kp
  have F_deed := def_mkE (st := s_deed) (ps := ["_law_p", "_law_heap", "_law_maker", "_law_deed_here", "_law_name", "_law_word"]) X G a_deed D_deed fun _ _ _ _ _ _ us hl => match us, hl with | [_, _, _, _, _, _], _ => rfl
  have k_made_of := D_made_of.kp
  have F_made_of := def_mkE (st := s_made_of) (ps := ["_law_p", "_law_heap", "_law_maker", "_law_sort", "_law_mode", "_law_same_here"]) X G a_made_of D_made_of fun _ _ _ _ _ _ us hl => match us, hl with | [_, _, _, _, _, _], _ => rfl
  have k_told := D_told.kp
  have F_told := def_mkE (st := s_told) (ps := ["_law_p", "_law_heap", "_law_thing"]) X G a_told D_told fun _ _ _ _ _ _ us hl => match us, hl with | [_, _, _], _ => rfl
  have k_done := D_done.kp
  have F_done := def_mkE (st := s_done) (ps := ["_law_p", "_law_heap", "_law_row"]) X G a_done D_done fun _ _ _ _ _ _ us hl => match us, hl with | [_, _, _], _ => rfl
  have k_ran := D_ran.kp
  have F_ran := def_mkE (st := s_ran) (ps := ["_law_p", "_law_rows"]) X G a_ran D_ran fun _ _ _ _ _ _ us hl => match us, hl with | [_, _], _ => rfl
  have k_all_told := D_all_told.kp
  have F_all_told := def_mkE (st := s_all_told) (ps := ["_law_p", "_law_heap"]) X G a_all_told D_all_told fun _ _ _ _ _ _ us hl => match us, hl with | [_, _], _ => rfl
  have k_callable := D_callable.kp
  have F_callable := def_mkE (st := s_callable) (ps := ["_law_p", "_law_rows"]) X G a_callable D_callable fun _ _ _ _ _ _ us hl => match us, hl with | [_, _], _ => rfl
  have k_is_right := D_is_right.kp
  have F_is_right := def_mkE (st := s_is_right) (ps := ["_law_p", "_law_yard", "_law_rows", "_law_things"]) X G a_is_right D_is_right fun _ _ _ _ _ _ us hl => match us, hl with | [_, _, _, _], _ => rfl
  have k_is_word := D_is_word.kp
  have F_is_word := def_mkE (st := s_is_word) (ps := ["thing"]) X G a_is_word D_is_word fun _ _ _ _ _ _ us hl => match us, hl with | [_], _ => rfl
  have k_is_integer := D_is_integer.kp
  have F_is_integer := def_mkE (st := s_is_integer) (ps := ["thing"]) X G a_is_integer D_is_integer fun _ _ _ _ _ _ us hl => match us, hl with | [_], _ => rfl
  have k_is_list := D_is_list.kp
  have F_is_list := def_mkE (st := s_is_list) (ps := ["thing"]) X G a_is_list D_is_list fun _ _ _ _ _ _ us hl => match us, hl with | [_], _ => rfl
  have k_is_modes := D_is_modes.kp
  have F_is_modes := def_mkE (st := s_is_modes) (ps := ["modes"]) X G a_is_modes D_is_modes fun _ _ _ _ _ _ us hl => match us, hl with | [_], _ => rfl
  have k_is_field := D_is_field.kp
  have F_is_field := def_mkE (st := s_is_field) (ps := ["item", "earlier"]) X G a_is_field D_is_field fun _ _ _ _ _ _ us hl => match us, hl with | [_, _], _ => rfl
  have k_kept_fields := D_kept_fields.kp
  have F_kept_fields := def_mkE (st := s_kept_fields) (ps := ["fields"]) X G a_kept_fields D_kept_fields fun _ _ _ _ _ _ us hl => match us, hl with | [_], _ => rfl
  have k_is_many := D_is_many.kp
  have F_is_many := def_mkE (st := s_is_many) (ps := ["field", "sorts"]) X G a_is_many D_is_many fun _ _ _ _ _ _ us hl => match us, hl with | [_, _], _ => rfl
  have k_is_deed := D_is_deed.kp
  have F_is_deed := def_mkE (st := s_is_deed) (ps := ["pair", "sorts"]) X G a_is_deed D_is_deed fun _ _ _ _ _ _ us hl => match us, hl with | [_, _], _ => rfl
  have k_are_moves := D_are_moves.kp
  have F_are_moves := def_mkE (st := s_are_moves) (ps := ["moves", "modes"]) X G a_are_moves D_are_moves fun _ _ _ _ _ _ us hl => match us, hl with | [_, _], _ => rfl
  have k_has_call_form := D_has_call_form.kp
  have F_has_call_form := def_mkE (st := s_has_call_form) (ps := ["item"]) X G a_has_call_form D_has_call_form fun _ _ _ _ _ _ us hl => match us, hl with | [_], _ => rfl
  have k_are_deeds := D_are_deeds.kp
  have F_are_deeds := def_mkE (st := s_are_deeds) (ps := ["deeds", "sorts"]) X G a_are_deeds D_are_deeds fun _ _ _ _ _ _ us hl => match us, hl with | [_, _], _ => rfl
  have k_is_same := D_is_same.kp
  have F_is_same := def_mkE (st := s_is_same) (ps := ["same", "hand", "sorts"]) X G a_is_same D_is_same fun _ _ _ _ _ _ us hl => match us, hl with | [_, _, _], _ => rfl
  have k_kept_call := D_kept_call.kp
  have F_kept_call := def_mkE (st := s_kept_call) (ps := ["call"]) X G a_kept_call D_kept_call fun _ _ _ _ _ _ us hl => match us, hl with | [_], _ => rfl
  have k_wrong_part := D_wrong_part.kp
  have F_wrong_part := def_mkE (st := s_wrong_part) (ps := ["item", "earlier", "sorts", "modes"]) X G a_wrong_part D_wrong_part fun _ _ _ _ _ _ us hl => match us, hl with | [_, _, _, _], _ => rfl
  have k_kept_calls := D_kept_calls.kp
  have F_kept_calls := def_mkE (st := s_kept_calls) (ps := ["calls", "sorts", "modes"]) X G a_kept_calls D_kept_calls fun _ _ _ _ _ _ us hl => match us, hl with | [_, _, _], _ => rfl
  have k_kept_program := D_kept_program.kp
  have F_kept_program := def_mkE (st := s_kept_program) (ps := ["kind", "rows"]) X G a_kept_program D_kept_program fun _ _ _ _ _ _ us hl => match us, hl with | [_, _], _ => rfl
  have k_is_row := D_is_row.kp
  have F_is_row := def_mkE (st := s_is_row) (ps := ["kind", "ahead", "row"]) X G a_is_row D_is_row fun _ _ _ _ _ _ us hl => match us, hl with | [_, _, _], _ => rfl
  have k_is_last := D_is_last.kp
  have F_is_last := def_mkE (st := s_is_last) (ps := ["kind", "row"]) X G a_is_last D_is_last fun _ _ _ _ _ _ us hl => match us, hl with | [_, _], _ => rfl
  have k_law := D_law.kp
  have k_kinit := D_kinit.kp
  have F_kinit := He5.fun_of (st := s_Kind_init) D_kinit
  obtain ⟨kV_kinit, dc_kinit, pm_kinit, an_kinit, cd_kinit, ct_kinit, e_kinit⟩ := fn_isD D_kinit
  subst e_kinit
  have k_khas := D_khas.kp
  have F_khas := He5.fun_of (st := s_Kind_contains) D_khas
  have B_khas : Binds K _ ["self", "x"] [] := F_khas.binds fun _ _ _ _ _ _ us hl => match us, hl with | [_, _], _ => rfl
  have k_keq := D_keq.kp
  have F_keq := He5.fun_of (st := s_Kind_eq) D_keq
  have B_keq : Binds K _ ["self", "other"] [] := F_keq.binds fun _ _ _ _ _ _ us hl => match us, hl with | [_, _], _ => rfl
  have k_ktakes := D_ktakes.kp
  have F_ktakes := He5.fun_of (st := s_Kind_takes) D_ktakes
  have B_ktakes : Binds K _ ["self", "name"] [] := F_ktakes.binds fun _ _ _ _ _ _ us hl => match us, hl with | [_, _], _ => rfl
  have k_hinit := D_hinit.kp
  have F_hinit := He5.fun_of (st := s_Handed_init) D_hinit
  have B_hinit : Binds K _ ["self", "mode", "held"] [] := F_hinit.binds fun _ _ _ _ _ _ us hl => match us, hl with | [_, _, _], _ => rfl
  have k_binit := D_binit.kp
  have F_binit := FunU.of (st := s_Bench_init) D_binit
  have k_rinit := D_rinit.kp
  have F_rinit := FunU.of (st := s_Run_init) D_rinit
  have k_b_put_list := D_b_put_list.kp
  have F_b_put_list := He5.fun_of (st := s_Bench_put_list) D_b_put_list
  have B_b_put_list : Binds K _ ["self", "words"] [] := F_b_put_list.binds fun _ _ _ _ _ _ us hl => match us, hl with | [_, _], _ => rfl
  have k_b_copied := D_b_copied.kp
  have F_b_copied := He5.fun_of (st := s_Bench_copied) D_b_copied
  have B_b_copied : Binds K _ ["self", "held", "same"] [] := F_b_copied.binds fun _ _ _ _ _ _ us hl => match us, hl with | [_, _, _], _ => rfl
  have k_b_blank_maker := D_b_blank_maker.kp
  have F_b_blank_maker := He5.fun_of (st := s_Bench_blank_maker) D_b_blank_maker
  have B_b_blank_maker : Binds K _ ["self"] [] := F_b_blank_maker.binds fun _ _ _ _ _ _ us hl => match us, hl with | [_], _ => rfl
  have k_b_do_list_deed := D_b_do_list_deed.kp
  have F_b_do_list_deed := He5.fun_of (st := s_Bench_do_list_deed) D_b_do_list_deed
  have B_b_do_list_deed : Binds K _ ["self", "number", "deed", "word"] [] := F_b_do_list_deed.binds fun _ _ _ _ _ _ us hl => match us, hl with | [_, _, _, _], _ => rfl
  have k_b_do_deeds := D_b_do_deeds.kp
  have F_b_do_deeds := He5.fun_of (st := s_Bench_do_deeds) D_b_do_deeds
  have B_b_do_deeds : Binds K _ ["self", "held", "deeds", "word"] [] := F_b_do_deeds.binds fun _ _ _ _ _ _ us hl => match us, hl with | [_, _, _, _], _ => rfl
  have k_b_contents := D_b_contents.kp
  have F_b_contents := He5.fun_of (st := s_Bench_contents) D_b_contents
  have B_b_contents : Binds K _ ["self", "held"] [] := F_b_contents.binds fun _ _ _ _ _ _ us hl => match us, hl with | [_, _], _ => rfl
  have k_b_hand_over := D_b_hand_over.kp
  have F_b_hand_over := He5.fun_of (st := s_Bench_hand_over) D_b_hand_over
  have B_b_hand_over : Binds K _ ["self", "handed"] [] := F_b_hand_over.binds fun _ _ _ _ _ _ us hl => match us, hl with | [_, _], _ => rfl
  have k_b_next_mode := D_b_next_mode.kp
  have F_b_next_mode := He5.fun_of (st := s_Bench_next_mode) D_b_next_mode
  have B_b_next_mode : Binds K _ ["self", "row"] [] := F_b_next_mode.binds fun _ _ _ _ _ _ us hl => match us, hl with | [_, _], _ => rfl
  have k_b_do_call := D_b_do_call.kp
  have F_b_do_call := He5.fun_of (st := s_Bench_do_call) D_b_do_call
  have B_b_do_call : Binds K _ ["self", "row", "mode"] [] := F_b_do_call.binds fun _ _ _ _ _ _ us hl => match us, hl with | [_, _, _], _ => rfl
  have k_b_do_row := D_b_do_row.kp
  have F_b_do_row := He5.fun_of (st := s_Bench_do_row) D_b_do_row
  have B_b_do_row : Binds K _ ["self", "row"] [] := F_b_do_row.binds fun _ _ _ _ _ _ us hl => match us, hl with | [_, _], _ => rfl
  have k_b_told := D_b_told.kp
  have F_b_told := He5.fun_of (st := s_Bench_told) D_b_told
  have B_b_told : Binds K _ ["self", "k"] [] := F_b_told.binds fun _ _ _ _ _ _ us hl => match us, hl with | [_, _], _ => rfl
  have k_b_told_all := D_b_told_all.kp
  have F_b_told_all := He5.fun_of (st := s_Bench_told_all) D_b_told_all
  have B_b_told_all : Binds K _ ["self"] [] := F_b_told_all.binds fun _ _ _ _ _ _ us hl => match us, hl with | [_], _ => rfl
  have k_r_eq := D_r_eq.kp
  have F_r_eq := He5.fun_of (st := s_Run_eq) D_r_eq
  have B_r_eq : Binds K _ ["self", "other"] [] := F_r_eq.binds fun _ _ _ _ _ _ us hl => match us, hl with | [_, _], _ => rfl
  have k_y_init := D_y_init.kp
  have F_y_init := He5.fun_of (st := s_Yard_init) D_y_init
  have B_y_init : Binds K _ ["self", "kind"] [] := F_y_init.binds fun _ _ _ _ _ _ us hl => match us, hl with | [_, _], _ => rfl
  have k_y_make := D_y_make.kp
  have F_y_make := He5.fun_of (st := s_Yard_make) D_y_make
  have B_y_make : Binds K _ ["self"] [] := F_y_make.binds fun _ _ _ _ _ _ us hl => match us, hl with | [_], _ => rfl
  have k_y_undo := D_y_undo.kp
  have F_y_undo := He5.fun_of (st := s_Yard_undo) D_y_undo
  have B_y_undo : Binds K _ ["self"] [] := F_y_undo.binds fun _ _ _ _ _ _ us hl => match us, hl with | [_], _ => rfl
  have k_y_run := D_y_run.kp
  have F_y_run := He5.fun_of (st := s_Yard_run) D_y_run
  have B_y_run : Binds K _ ["self"] [] := F_y_run.binds fun _ _ _ _ _ _ us hl => match us, hl with | [_], _ => rfl
  have k_y_put_row := D_y_put_row.kp
  have F_y_put_row := He5.fun_of (st := s_Yard_put_row) D_y_put_row
  have B_y_put_row : Binds K _ ["self", "row"] [] := F_y_put_row.binds fun _ _ _ _ _ _ us hl => match us, hl with | [_, _], _ => rfl
  have k_t_init := D_t_init.kp
  have F_t_init := He5.fun_of (st := s_Thing_init) D_t_init
  have B_t_init : Binds K _ ["self", "yard", "number"] [] := F_t_init.binds fun _ _ _ _ _ _ us hl => match us, hl with | [_, _, _], _ => rfl
  have k_t_look := D_t_look.kp
  have F_t_look := He5.fun_of (st := s_Thing_look) D_t_look
  have B_t_look : Binds K _ ["self"] [] := F_t_look.binds fun _ _ _ _ _ _ us hl => match us, hl with | [_], _ => rfl
  have k_t_call := D_t_call.kp
  have F_t_call := FunU.of (st := s_Thing_call) D_t_call
  have Z : KCls K C_Kind := ⟨⟨kc_pg, kc_hd, kc_po, kc_sa⟩, kc_n_triples, kc_n_sorts, kc_n_spots, kc_n_modes, kc_n_steps, kc_n_table⟩
  have ZB : BCls K C_Bench := ⟨⟨bc_pg, bc_hd, bc_po, bc_sa⟩, bc_n_kind, bc_n_as_values, bc_n_lists, bc_n_handed, bc_n_early⟩
  have ZH : HCls K C_Handed := ⟨⟨hc_pg, hc_hd, hc_po, hc_sa⟩, hc_n_mode, hc_n_held⟩
  have ZY : YCls K C_Yard := ⟨⟨yc_pg, yc_hd, yc_po, yc_sa⟩, yc_n_kind, yc_n_program, yc_n_bench, yc_n_placed⟩
  have ZT : TCls K C_Thing := ⟨⟨tc_pg, tc_hd, tc_po, tc_sa⟩, tc_n_yard, tc_n_number, tc_n_is_gone⟩
  have ZR : RCls K C_Run := ⟨⟨rc_pg, rc_hd, rc_po, rc_sa⟩, rc_n_kind, rc_n_program, rc_n_bench⟩
  have Yk : KIns K C_Kind := ⟨kc_ha, kc_hn, kc_ht, kc_hm⟩
  have Yr : KIns K C_Run := ⟨rc_ha, rc_hn, rc_ht, rc_hm⟩
  have gK := PySem.W.mg_of X G aC_Kind
  have gR := PySem.W.mg_of X G aC_Run
  have Cs : Csts K w mg ⟨A_sorts, A_hands, A_sod, A_wd, A_lwd⟩ :=
    { MOST_LETTERS := ⟨_, PySem.W.mg_of X G v_MOST_LETTERS, _, rfl⟩,
      MOST_FIELDS := ⟨_, PySem.W.mg_of X G v_MOST_FIELDS, _, rfl⟩,
      MOST_MODES := ⟨_, PySem.W.mg_of X G v_MOST_MODES, _, rfl⟩,
      MOST_CALLS := ⟨_, PySem.W.mg_of X G v_MOST_CALLS, _, rfl⟩,
      MOST_DEEDS := ⟨_, PySem.W.mg_of X G v_MOST_DEEDS, _, rfl⟩,
      SORTS := ⟨_, PySem.W.mg_of X G v_SORTS, rfl⟩,
      HANDS := ⟨_, PySem.W.mg_of X G v_HANDS, rfl⟩,
      SORTS_OF_DEEDS := ⟨_, PySem.W.mg_of X G v_sod, rfl⟩,
      WORD_DEEDS := ⟨_, PySem.W.mg_of X G v_WORD_DEEDS, rfl⟩,
      t_wd := tupB_ok tu_wd,
      LIST_WORD_DEEDS := ⟨_, PySem.W.mg_of X G v_LIST_WORD_DEEDS, rfl⟩,
      t_sorts := tupB_ok tu_sorts,
      t_hands := tupB_ok tu_hands,
      t_lwd := tupB_ok tu_lwd,
      sodD := He.dicW_ok dsod,
      sodN := sod_all dsod ⟨_, sd_set, tupB_ok td_set⟩ ⟨_, sd_add, tupB_ok td_add⟩ ⟨_, sd_strike, tupB_ok td_strike⟩ ⟨_, sd_fresh, tupB_ok td_fresh⟩ ⟨_, sd_clear, tupB_ok td_clear⟩ }
  have W : ErrN K mg ⟨C_BadField, C_BadModes, C_BadCall, C_UnknownCall, C_BadPlace, C_BadText, C_BadRow, C_BadWord, C_BadWish, C_BadRun, C_BadCallers, C_BadKind, C_BadRule, C_Refused, C_BadThing, C_MakerError⟩ :=
    { g_BadField := PySem.W.mg_of X G aC_BadField,
      g_BadModes := PySem.W.mg_of X G aC_BadModes,
      g_BadCall := PySem.W.mg_of X G aC_BadCall,
      g_UnknownCall := PySem.W.mg_of X G aC_UnknownCall,
      g_BadPlace := PySem.W.mg_of X G aC_BadPlace,
      g_BadText := PySem.W.mg_of X G aC_BadText,
      g_BadRow := PySem.W.mg_of X G aC_BadRow,
      g_BadWord := PySem.W.mg_of X G aC_BadWord,
      g_BadWish := PySem.W.mg_of X G aC_BadWish,
      g_BadRun := PySem.W.mg_of X G aC_BadRun,
      g_BadCallers := PySem.W.mg_of X G aC_BadCallers,
      g_BadKind := PySem.W.mg_of X G aC_BadKind,
      g_BadRule := PySem.W.mg_of X G aC_BadRule,
      g_Refused := PySem.W.mg_of X G aC_Refused,
      g_BadThing := PySem.W.mg_of X G aC_BadThing,
      g_MakerError := PySem.W.mg_of X G aC_MakerError,
      iF := errI_of e_Refused,
      r1 := q_r1,
      r2 := q_r2,
      r3 := q_r3,
      r4 := q_r4,
      r5 := q_r5,
      r6 := q_r6,
      r7 := q_r7,
      r8 := q_r8,
      r9 := q_r9,
      r10 := q_r10,
      r11 := q_r11,
      r12 := q_r12,
      r13 := q_r13,
      r14 := q_r14,
      mF := q_mF }
  obtain ⟨cl, Pl, tabl, nPl⟩ := tabB_ok tab_law
  obtain ⟨oc_law, od_law, kV_law, dc_law, pm_law, an_law, ct_law, sl_law, e_law, l_law, c_law⟩ := tab_def a_law D_law tabl
  subst e_law
  refine ⟨PySem.W.fnOf "law" "law" (defArgs s_law) (defBody s_law) (defScope s_law) .none kV_law dc_law pm_law an_law (.ref cl) ct_law, cl, Pl, spLawT K Pl, tabl, nPl, fun s v => .of_eq rfl, fun H a ns hl hP hS => ⟨a, ns, rfl, hS, hl, hP, fun _ => rfl⟩, fun base _ _ TB => ?_⟩
  have c_fresh := ok_fresh (P := l.prog) (w := w) (base := base) F_fresh T
  have c_fill := ok_fill (P := l.prog) (w := w) (base := base) F_fill T
  have c_take := ok_take F_take T c_fill
  have c_one := ok_one F_one T c_take
  have c_mix := ok_mix F_mix T c_take
  have c_deeds := ok_deeds F_deeds T c_take c_one
  have c_call := ok_call F_call T c_take c_one c_deeds
  have c_same := ok_same (P := l.prog) (w := w) (base := base) F_same T 4
  have c_is_word := ok_word (P := l.prog) (w := w) (base := base) F_is_word T Cs
  have c_is_integer := ok_integer (P := l.prog) (w := w) (base := base) F_is_integer T
  have c_is_list := ok_list (P := l.prog) (w := w) (base := base) F_is_list T
  have c_is_modes := ok_modes F_is_modes T Cs c_is_integer
  have c_is_field := ok_field F_is_field T Cs c_is_list c_is_word
  have c_kept_fields := ok_fields F_kept_fields T Cs c_is_list c_is_field
  have c_is_many := ok_many (P := l.prog) (w := w) (base := base) F_is_many T
  have c_is_deed := ok_deed F_is_deed T Cs c_is_list
  have c_are_moves := ok_moves F_are_moves T c_is_integer
  have c_has_call_form := ok_callForm F_has_call_form T c_is_list
  have c_are_deeds := ok_deedsOk F_are_deeds T Cs c_is_deed
  have c_is_same := ok_sameOk F_is_same T c_is_many
  have c_kept_call := ok_keptCall (P := l.prog) (w := w) (base := base) F_kept_call T
  have c_wrong_part := ok_wrong F_wrong_part T Cs c_has_call_form c_is_word c_are_moves c_are_deeds c_is_same
  have c_kept_calls := ok_calls F_kept_calls T Cs c_is_list c_wrong_part c_kept_call
  have I_kinit : FnOk l.prog w K mg base CX0 6 f_kinit _ ["self", "fields", "calls", "modes"] (spKInit K C_Kind) := F_kinit.ok sc_Kind_init (fun vs H Q E h => by obtain ⟨_, _, _, _, _, _, _, _, _, _, rfl, _⟩ := h; rfl) fun cdv A outer s H vs Q E hr h => run_kinit T Z c_kept_fields c_is_modes c_kept_calls hr h
  have c_Kind : KMk l.prog w K mg base C_Kind := ⟨⟨f_kinit, _, ⟨kc_mk, m_kinit, fn_kinit, kc_kp⟩, I_kinit, ⟨fun s us ws _ h1 h2 => match us, ws, h1, h2 with | [_, _, _], [_], _, _ => .of_eq rfl, fun r r2 => r.append r2⟩⟩, gK⟩
  have c_plan := ok_plan F_plan T c_Kind
  have c_kind := ok_kind F_kind T c_take c_one c_mix c_call c_plan
  have I_khas := ok_has0 (P := l.prog) (w := w) (base := base) F_khas T Z
  have H_has := (⟨I_khas, m_khas, fn_khas, B_khas⟩ : _ ∧ _ ∧ _ ∧ _)
  have I_keq : FnOk l.prog w K mg base CX0 1 f_keq _ ["self", "other"] (spKEq K C_Kind) := F_keq.ok sc_Kind_eq (fun vs H Q E h => by obtain ⟨_, _, _, _, _, _, _, _, rfl, _⟩ := h; rfl) fun cdv A outer s H vs Q E hr h => run_keq T Z Yk gK hr h
  have M_takes : C8.Met l.prog w K mg base 2 C_Kind "takes" (spTakes0 K C_Kind) [] := ⟨⟨f_ktakes, _, ["self", "name"], [], Z.cls, ⟨m_ktakes, fn_ktakes, k_ktakes⟩, ok_takes0 F_ktakes T Z Cs H_has, B_ktakes, .nil⟩⟩
  have c_is_last := ok_last (P := l.prog) (w := w) (base := base) F_is_last T Z
  have c_is_row := ok_isrow F_is_row T Z c_is_list c_is_word c_is_integer c_is_last M_takes H_has
  have c_kept_program := ok_kept F_kept_program T c_is_list c_is_row
  have mk_Handed : C8.Mak l.prog w K mg base 1 "Handed" C_Handed (spHInit K C_Handed) [] := ⟨⟨f_hinit, _, ["self", "mode", "held"], [], ⟨hc_mk, m_hinit, fn_hinit, hc_kp⟩, ok_hinit F_hinit ZH, PySem.W.mg_of X G aC_Handed, B_hinit, .nil⟩⟩
  have mk_Bench : C8.Mak l.prog w K mg base 1 "Bench" C_Bench (spBInit K C_Bench) [.bl false] := mak_dfl ⟨bc_mk, m_binit, fn_binit, bc_kp⟩ (ok_binit F_binit ZB) (PySem.W.mg_of X G aC_Bench) (FunD.binds1 D_binit 2 0 (by simp) rfl fun T kV doc pm an cdv ct us its h1 h2 => match us, its, h1, h2 with | [_, _], [_], _, _ => ⟨_, rfl, rfl⟩)
  have M_put_list : C8.Met l.prog w K mg base 1 C_Bench "put_list" (spPutL K C_Bench C_Kind C_Handed) [] := ⟨⟨f_b_put_list, _, ["self", "words"], [], ZB.cls, ⟨m_b_put_list, fn_b_put_list, k_b_put_list⟩, ok_putL F_b_put_list T ZB, B_b_put_list, .nil⟩⟩
  have M_copied : C8.Met l.prog w K mg base 2 C_Bench "copied" (spCopied K C_Bench C_Kind C_Handed) [] := ⟨⟨f_b_copied, _, ["self", "held", "same"], [], ZB.cls, ⟨m_b_copied, fn_b_copied, k_b_copied⟩, ok_copied F_b_copied T ZB Z M_put_list, B_b_copied, .nil⟩⟩
  have M_blank_maker : C8.Met l.prog w K mg base 3 C_Bench "blank_maker" (spBlank K C_Bench C_Kind C_Handed) [] := ⟨⟨f_b_blank_maker, _, ["self"], [], ZB.cls, ⟨m_b_blank_maker, fn_b_blank_maker, k_b_blank_maker⟩, ok_blank F_b_blank_maker T ZB Z M_put_list mk_Handed, B_b_blank_maker, .nil⟩⟩
  have M_do_list_deed : C8.Met l.prog w K mg base 2 C_Bench "do_list_deed" (spLDeed K C_Bench C_Kind C_Handed) [] := ⟨⟨f_b_do_list_deed, _, ["self", "number", "deed", "word"], [], ZB.cls, ⟨m_b_do_list_deed, fn_b_do_list_deed, k_b_do_list_deed⟩, ok_ldeed F_b_do_list_deed T ZB M_put_list, B_b_do_list_deed, .nil⟩⟩
  have M_do_deeds : C8.Met l.prog w K mg base 3 C_Bench "do_deeds" (spDeedsB K C_Bench C_Kind C_Handed) [] := ⟨⟨f_b_do_deeds, _, ["self", "held", "deeds", "word"], [], ZB.cls, ⟨m_b_do_deeds, fn_b_do_deeds, k_b_do_deeds⟩, ok_deedsB F_b_do_deeds T ZB Z M_do_list_deed, B_b_do_deeds, .nil⟩⟩
  have M_contents : C8.Met l.prog w K mg base 1 C_Bench "contents" (spCont K C_Bench C_Kind C_Handed) [] := ⟨⟨f_b_contents, _, ["self", "held"], [], ZB.cls, ⟨m_b_contents, fn_b_contents, k_b_contents⟩, ok_contents F_b_contents T ZB Z, B_b_contents, .nil⟩⟩
  have M_hand_over : C8.Met l.prog w K mg base 2 C_Bench "hand_over" (spHand K C_Bench C_Kind C_Handed) [] := ⟨⟨f_b_hand_over, _, ["self", "handed"], [], ZB.cls, ⟨m_b_hand_over, fn_b_hand_over, k_b_hand_over⟩, ok_hand F_b_hand_over T ZB ZH M_contents, B_b_hand_over, .nil⟩⟩
  have M_next_mode : C8.Met l.prog w K mg base 1 C_Bench "next_mode" (spNext K C_Bench C_Kind C_Handed) [] := ⟨⟨f_b_next_mode, _, ["self", "row"], [], ZB.cls, ⟨m_b_next_mode, fn_b_next_mode, k_b_next_mode⟩, ok_next F_b_next_mode T ZB Z ZH, B_b_next_mode, .nil⟩⟩
  have M_do_call : C8.Met l.prog w K mg base 4 C_Bench "do_call" (spCallB K C_Bench C_Kind C_Handed) [] := ⟨⟨f_b_do_call, _, ["self", "row", "mode"], [], ZB.cls, ⟨m_b_do_call, fn_b_do_call, k_b_do_call⟩, ok_callB F_b_do_call T ZB Z ZH mk_Handed M_copied M_do_deeds M_hand_over, B_b_do_call, .nil⟩⟩
  have M_do_row : C8.Met l.prog w K mg base 5 C_Bench "do_row" (spRow K C_Bench C_Kind C_Handed) [] := ⟨⟨f_b_do_row, _, ["self", "row"], [], ZB.cls, ⟨m_b_do_row, fn_b_do_row, k_b_do_row⟩, ok_row F_b_do_row T ZB Z M_hand_over M_blank_maker M_next_mode M_do_call, B_b_do_row, .nil⟩⟩
  have M_told : C8.Met l.prog w K mg base 2 C_Bench "told" (spTld K C_Bench C_Kind C_Handed) [] := ⟨⟨f_b_told, _, ["self", "k"], [], ZB.cls, ⟨m_b_told, fn_b_told, k_b_told⟩, ok_tld F_b_told T ZB ZH M_contents, B_b_told, .nil⟩⟩
  have M_told_all : C8.Met l.prog w K mg base 3 C_Bench "told_all" (spTldAll K C_Bench C_Kind C_Handed) [] := ⟨⟨f_b_told_all, _, ["self"], [], ZB.cls, ⟨m_b_told_all, fn_b_told_all, k_b_told_all⟩, ok_tldAll F_b_told_all T ZB M_told, B_b_told_all, .nil⟩⟩
  have I_rinit : FnOk l.prog w K mg base CX0 6 f_rinit _ ["self", "kind", "rows"] (spRInit K C_Run C_Bench C_Handed C_Kind) := ok_rinit F_rinit T ZR c_kept_program mk_Bench M_do_row
  have mk_Run : C8.Mak l.prog w K mg base 6 "Run" C_Run (spRInit K C_Run C_Bench C_Handed C_Kind) [] := mak_all ⟨rc_mk, m_rinit, fn_rinit, rc_kp⟩ I_rinit (PySem.W.mg_of X G aC_Run) (FunD.binds1 D_rinit 3 1 (by simp) rfl fun T kV doc pm an cdv ct us its h1 h2 => match us, its, h1, h2 with | [_, _, _], [_], _, _ => ⟨_, rfl, rfl⟩)
  have I_req := ok_req (BC := C_Bench) (HC := C_Handed) F_r_eq T ZR Yr gR ⟨I_keq, m_keq, fn_keq, B_keq⟩
  have mk_Thing : C8.Mak l.prog w K mg base 1 "Thing" C_Thing (spTInit K C_Thing) [] := ⟨⟨f_t_init, _, ["self", "yard", "number"], [], ⟨tc_mk, m_t_init, fn_t_init, tc_kp⟩, ok_tinit F_t_init ZT, PySem.W.mg_of X G aC_Thing, B_t_init, .nil⟩⟩
  have mk_Yard : C8.Mak l.prog w K mg base 3 "Yard" C_Yard (spYInit K C_Yard C_Thing C_Bench C_Handed C_Kind) [] := ⟨⟨f_y_init, _, ["self", "kind"], [], ⟨yc_mk, m_y_init, fn_y_init, yc_kp⟩, ok_yinit F_y_init T ZY mk_Bench, PySem.W.mg_of X G aC_Yard, B_y_init, .nil⟩⟩
  have M_put_row : C8.Met l.prog w K mg base 6 C_Yard "put_row" (spPut K C_Yard C_Thing C_Bench C_Handed C_Kind) [] := ⟨⟨f_y_put_row, _, ["self", "row"], [], ZY.cls, ⟨m_y_put_row, fn_y_put_row, k_y_put_row⟩, ok_put F_y_put_row T ZY M_do_row mk_Thing, B_y_put_row, .nil⟩⟩
  have M_make : C8.Met l.prog w K mg base 7 C_Yard "make" (spYMake K C_Yard C_Thing C_Bench C_Handed C_Kind) [] := ⟨⟨f_y_make, _, ["self"], [], ZY.cls, ⟨m_y_make, fn_y_make, k_y_make⟩, ok_ymake F_y_make T M_put_row, B_y_make, .nil⟩⟩
  have M_undo : C8.Met l.prog w K mg base 7 C_Yard "undo" (spYUndo K C_Yard C_Thing C_Bench C_Handed C_Kind) [] := ⟨⟨f_y_undo, _, ["self"], [], ZY.cls, ⟨m_y_undo, fn_y_undo, k_y_undo⟩, ok_yundo F_y_undo T ZY ZT mk_Bench M_do_row, B_y_undo, .nil⟩⟩
  have M_run : C8.Met l.prog w K mg base 8 C_Yard "run" (spYRun K C_Yard C_Thing C_Bench C_Handed C_Kind C_Run) [] := ⟨⟨f_y_run, _, ["self"], [], ZY.cls, ⟨m_y_run, fn_y_run, k_y_run⟩, ok_yrun F_y_run T ZY mk_Run, B_y_run, .nil⟩⟩
  have M_look : C8.Met l.prog w K mg base 3 C_Thing "look" (spLook K C_Yard C_Thing C_Bench C_Handed C_Kind) [] := ⟨⟨f_t_look, _, ["self"], [], ZT.cls, ⟨m_t_look, fn_t_look, k_t_look⟩, ok_look F_t_look T ZT ZY M_told, B_t_look, .nil⟩⟩
  have I_tcall := ok_tcall F_t_call T ZT ZY ZB ZH Z c_is_word M_takes H_has M_next_mode M_put_row (⟨x_Refused, PySem.W.mg_of X G aC_Refused, kp_Refused⟩ : Exc0 K mg "Refused" C_Refused) ⟨s_Refused, s2_Refused⟩
  have tbs : ∃ ds, Vals [] ds ∧ Binds K _ ["self", "name", "word"] ds := FunD.binds1 D_t_call 3 1 (by simp) rfl fun T kV doc pm an cdv ct us its h1 h2 => match us, its, h1, h2 with | [_, _, _], [_], _, _ => ⟨_, rfl, rfl⟩
  obtain ⟨tds, tv, tb⟩ := tbs
  cases tv
  have c_row_of := ok_rowof (P := l.prog) (w := w) (base := base) F_row_of T
  have c_takes := ok_ltakes (P := l.prog) (w := w) (base := base) F_takes T
  have c_begin := ok_lbegin (P := l.prog) (w := w) (base := base) F_begin T
  have c_kept := ok_lkept (P := l.prog) (w := w) (base := base) F_kept T
  have c_deed := ok_ldd F_deed T c_kept
  have c_made_of := ok_lmade F_made_of T c_kept
  have c_told := ok_ltold (P := l.prog) (w := w) (base := base) F_told T
  have c_done := ok_ldone F_done T c_kept c_row_of c_made_of c_deed c_told
  have c_ran := ok_lran F_ran T c_begin c_done
  have c_all := ok_lall F_all_told T c_told
  have c_callable := ok_lcallable F_callable T c_row_of
  have c_is_right := ok_yright F_is_right T ZR c_ran c_same c_all mk_Run M_run M_look ⟨I_req, m_r_eq, fn_r_eq, B_r_eq⟩ ⟨rc_ne, rc_ob⟩
  have F_oth := ok_errO (P := l.prog) (w := w) (base := base) F_other_error T W
  have F_err := ok_errw (P := l.prog) (w := w) (base := base) F_error T W F_oth ⟨PySem.W.mg_of X G a_other_error, k_other_error, F_other_error.bi⟩
  refine fn_of l_law c_law sc_law (fun vs H Q E h => by obtain ⟨a, ns, rfl, _⟩ := h; rfl) fun A outer s H vs Q E hr hsp => ?_
  obtain ⟨a, ns, rfl, hS, hn, hP, k⟩ := hsp
  obtain ⟨t, h1, h2⟩ := run_law T ZT ZY W c_fresh c_kind c_one c_take c_takes c_callable c_ran c_is_right mk_Yard M_undo M_make ⟨⟨m_t_call, fn_t_call, k_t_call⟩, I_tcall, tb⟩ F_tried F_err ⟨PySem.W.mg_of X G a_error, k_error, F_error.bi⟩ TB hr hS hn hP k
  exact ⟨t, h1.nox, h2⟩
def fs0 : List (PySem.W.Frag → Bool) := [fun K => decide (PySem.W.nsIn K mainGlobals "_law_fresh" = some (some (.ref (He.ga K "_law_fresh")))),
  fun K => decide (PySem.W.nsIn K mainGlobals "_law_fill" = some (some (.ref (He.ga K "_law_fill")))),
  fun K => decide (PySem.W.nsIn K mainGlobals "_law_take" = some (some (.ref (He.ga K "_law_take")))),
  fun K => decide (PySem.W.nsIn K mainGlobals "_law_one" = some (some (.ref (He.ga K "_law_one")))),
  fun K => decide (PySem.W.nsIn K mainGlobals "_law_mix" = some (some (.ref (He.ga K "_law_mix")))),
  fun K => decide (PySem.W.nsIn K mainGlobals "_law_same" = some (some (.ref (He.ga K "_law_same")))),
  fun K => decide (PySem.W.nsIn K mainGlobals "_law_tried" = some (some (.ref (He.ga K "_law_tried")))),
  fun K => decide (PySem.W.nsIn K mainGlobals "_law_error" = some (some (.ref (He.ga K "_law_error")))),
  fun K => decide (PySem.W.nsIn K mainGlobals "_law_other_error" = some (some (.ref (He.ga K "_law_other_error")))),
  fun K => decide (PySem.W.nsIn K mainGlobals "_law_plan" = some (some (.ref (He.ga K "_law_plan")))),
  fun K => decide (PySem.W.nsIn K mainGlobals "_law_row_of" = some (some (.ref (He.ga K "_law_row_of")))),
  fun K => decide (PySem.W.nsIn K mainGlobals "_law_takes" = some (some (.ref (He.ga K "_law_takes")))),
  fun K => decide (PySem.W.nsIn K mainGlobals "_law_deeds" = some (some (.ref (He.ga K "_law_deeds")))),
  fun K => decide (PySem.W.nsIn K mainGlobals "_law_call" = some (some (.ref (He.ga K "_law_call")))),
  fun K => decide (PySem.W.nsIn K mainGlobals "_law_kind" = some (some (.ref (He.ga K "_law_kind")))),
  fun K => decide (PySem.W.nsIn K mainGlobals "_law_begin" = some (some (.ref (He.ga K "_law_begin")))),
  fun K => decide (PySem.W.nsIn K mainGlobals "_law_kept" = some (some (.ref (He.ga K "_law_kept")))),
  fun K => decide (PySem.W.nsIn K mainGlobals "_law_deed" = some (some (.ref (He.ga K "_law_deed")))),
  fun K => decide (PySem.W.nsIn K mainGlobals "_law_made_of" = some (some (.ref (He.ga K "_law_made_of")))),
  fun K => decide (PySem.W.nsIn K mainGlobals "_law_told" = some (some (.ref (He.ga K "_law_told"))))]
def fs1 : List (PySem.W.Frag → Bool) := [fun K => decide (PySem.W.nsIn K mainGlobals "_law_done" = some (some (.ref (He.ga K "_law_done")))),
  fun K => decide (PySem.W.nsIn K mainGlobals "_law_ran" = some (some (.ref (He.ga K "_law_ran")))),
  fun K => decide (PySem.W.nsIn K mainGlobals "_law_all_told" = some (some (.ref (He.ga K "_law_all_told")))),
  fun K => decide (PySem.W.nsIn K mainGlobals "_law_callable" = some (some (.ref (He.ga K "_law_callable")))),
  fun K => decide (PySem.W.nsIn K mainGlobals "_law_is_right" = some (some (.ref (He.ga K "_law_is_right")))),
  fun K => decide (PySem.W.nsIn K mainGlobals "is_word" = some (some (.ref (He.ga K "is_word")))),
  fun K => decide (PySem.W.nsIn K mainGlobals "is_integer" = some (some (.ref (He.ga K "is_integer")))),
  fun K => decide (PySem.W.nsIn K mainGlobals "is_list" = some (some (.ref (He.ga K "is_list")))),
  fun K => decide (PySem.W.nsIn K mainGlobals "is_modes" = some (some (.ref (He.ga K "is_modes")))),
  fun K => decide (PySem.W.nsIn K mainGlobals "is_field" = some (some (.ref (He.ga K "is_field")))),
  fun K => decide (PySem.W.nsIn K mainGlobals "kept_fields" = some (some (.ref (He.ga K "kept_fields")))),
  fun K => decide (PySem.W.nsIn K mainGlobals "is_many" = some (some (.ref (He.ga K "is_many")))),
  fun K => decide (PySem.W.nsIn K mainGlobals "is_deed" = some (some (.ref (He.ga K "is_deed")))),
  fun K => decide (PySem.W.nsIn K mainGlobals "are_moves" = some (some (.ref (He.ga K "are_moves")))),
  fun K => decide (PySem.W.nsIn K mainGlobals "has_call_form" = some (some (.ref (He.ga K "has_call_form")))),
  fun K => decide (PySem.W.nsIn K mainGlobals "are_deeds" = some (some (.ref (He.ga K "are_deeds")))),
  fun K => decide (PySem.W.nsIn K mainGlobals "is_same" = some (some (.ref (He.ga K "is_same")))),
  fun K => decide (PySem.W.nsIn K mainGlobals "kept_call" = some (some (.ref (He.ga K "kept_call")))),
  fun K => decide (PySem.W.nsIn K mainGlobals "wrong_part" = some (some (.ref (He.ga K "wrong_part")))),
  fun K => decide (PySem.W.nsIn K mainGlobals "kept_calls" = some (some (.ref (He.ga K "kept_calls"))))]
def fs2 : List (PySem.W.Frag → Bool) := [fun K => decide (PySem.W.nsIn K mainGlobals "kept_program" = some (some (.ref (He.ga K "kept_program")))),
  fun K => decide (PySem.W.nsIn K mainGlobals "is_row" = some (some (.ref (He.ga K "is_row")))),
  fun K => decide (PySem.W.nsIn K mainGlobals "is_last" = some (some (.ref (He.ga K "is_last")))),
  fun K => decide (PySem.W.nsIn K mainGlobals "law" = some (some (.ref (He.ga K "law")))),
  fun K => tabB K "law",
  fun K => decide (PySem.W.nsIn K mainGlobals "Kind" = some (some (.ref (He.ga K "Kind")))),
  fun K => decide (PySem.W.nsIn K mainGlobals "Handed" = some (some (.ref (He.ga K "Handed")))),
  fun K => decide (PySem.W.nsIn K mainGlobals "Bench" = some (some (.ref (He.ga K "Bench")))),
  fun K => decide (PySem.W.nsIn K mainGlobals "Run" = some (some (.ref (He.ga K "Run")))),
  fun K => decide (PySem.W.nsIn K mainGlobals "Yard" = some (some (.ref (He.ga K "Yard")))),
  fun K => decide (PySem.W.nsIn K mainGlobals "Thing" = some (some (.ref (He.ga K "Thing")))),
  fun K => decide (PySem.W.nsIn K mainGlobals "BadField" = some (some (.ref (He.ga K "BadField")))),
  fun K => decide (PySem.W.nsIn K mainGlobals "BadModes" = some (some (.ref (He.ga K "BadModes")))),
  fun K => decide (PySem.W.nsIn K mainGlobals "BadCall" = some (some (.ref (He.ga K "BadCall")))),
  fun K => decide (PySem.W.nsIn K mainGlobals "UnknownCall" = some (some (.ref (He.ga K "UnknownCall")))),
  fun K => decide (PySem.W.nsIn K mainGlobals "BadPlace" = some (some (.ref (He.ga K "BadPlace")))),
  fun K => decide (PySem.W.nsIn K mainGlobals "BadText" = some (some (.ref (He.ga K "BadText")))),
  fun K => decide (PySem.W.nsIn K mainGlobals "BadRow" = some (some (.ref (He.ga K "BadRow")))),
  fun K => decide (PySem.W.nsIn K mainGlobals "BadWord" = some (some (.ref (He.ga K "BadWord")))),
  fun K => decide (PySem.W.nsIn K mainGlobals "BadWish" = some (some (.ref (He.ga K "BadWish"))))]
def fs3 : List (PySem.W.Frag → Bool) := [fun K => decide (PySem.W.nsIn K mainGlobals "BadRun" = some (some (.ref (He.ga K "BadRun")))),
  fun K => decide (PySem.W.nsIn K mainGlobals "BadCallers" = some (some (.ref (He.ga K "BadCallers")))),
  fun K => decide (PySem.W.nsIn K mainGlobals "BadKind" = some (some (.ref (He.ga K "BadKind")))),
  fun K => decide (PySem.W.nsIn K mainGlobals "BadRule" = some (some (.ref (He.ga K "BadRule")))),
  fun K => decide (PySem.W.nsIn K mainGlobals "Refused" = some (some (.ref (He.ga K "Refused")))),
  fun K => decide (PySem.W.nsIn K mainGlobals "BadThing" = some (some (.ref (He.ga K "BadThing")))),
  fun K => decide (PySem.W.nsIn K mainGlobals "MakerError" = some (some (.ref (He.ga K "MakerError")))),
  fun K => decide (PySem.W.findIn K (.ref (He.ga K "Kind")) "__init__" = some (some (.ref (He.ma K (He.ga K "Kind") "__init__")))),
  fun K => PySem.W.isFn K (.ref (He.ma K (He.ga K "Kind") "__init__")),
  fun K => decide (PySem.W.findIn K (.ref (He.ga K "Kind")) "__contains__" = some (some (.ref (He.ma K (He.ga K "Kind") "__contains__")))),
  fun K => PySem.W.isFn K (.ref (He.ma K (He.ga K "Kind") "__contains__")),
  fun K => decide (PySem.W.findIn K (.ref (He.ga K "Kind")) "__eq__" = some (some (.ref (He.ma K (He.ga K "Kind") "__eq__")))),
  fun K => PySem.W.isFn K (.ref (He.ma K (He.ga K "Kind") "__eq__")),
  fun K => decide (PySem.W.findIn K (.ref (He.ga K "Kind")) "takes" = some (some (.ref (He.ma K (He.ga K "Kind") "takes")))),
  fun K => PySem.W.isFn K (.ref (He.ma K (He.ga K "Kind") "takes")),
  fun K => decide (PySem.W.findIn K (.ref (He.ga K "Handed")) "__init__" = some (some (.ref (He.ma K (He.ga K "Handed") "__init__")))),
  fun K => PySem.W.isFn K (.ref (He.ma K (He.ga K "Handed") "__init__")),
  fun K => decide (PySem.W.findIn K (.ref (He.ga K "Bench")) "__init__" = some (some (.ref (He.ma K (He.ga K "Bench") "__init__")))),
  fun K => PySem.W.isFn K (.ref (He.ma K (He.ga K "Bench") "__init__")),
  fun K => decide (PySem.W.findIn K (.ref (He.ga K "Run")) "__init__" = some (some (.ref (He.ma K (He.ga K "Run") "__init__"))))]
def fs4 : List (PySem.W.Frag → Bool) := [fun K => PySem.W.isFn K (.ref (He.ma K (He.ga K "Run") "__init__")),
  fun K => decide (PySem.W.findIn K (.ref (He.ga K "Bench")) "put_list" = some (some (.ref (He.ma K (He.ga K "Bench") "put_list")))),
  fun K => PySem.W.isFn K (.ref (He.ma K (He.ga K "Bench") "put_list")),
  fun K => decide (PySem.W.findIn K (.ref (He.ga K "Bench")) "copied" = some (some (.ref (He.ma K (He.ga K "Bench") "copied")))),
  fun K => PySem.W.isFn K (.ref (He.ma K (He.ga K "Bench") "copied")),
  fun K => decide (PySem.W.findIn K (.ref (He.ga K "Bench")) "blank_maker" = some (some (.ref (He.ma K (He.ga K "Bench") "blank_maker")))),
  fun K => PySem.W.isFn K (.ref (He.ma K (He.ga K "Bench") "blank_maker")),
  fun K => decide (PySem.W.findIn K (.ref (He.ga K "Bench")) "do_list_deed" = some (some (.ref (He.ma K (He.ga K "Bench") "do_list_deed")))),
  fun K => PySem.W.isFn K (.ref (He.ma K (He.ga K "Bench") "do_list_deed")),
  fun K => decide (PySem.W.findIn K (.ref (He.ga K "Bench")) "do_deeds" = some (some (.ref (He.ma K (He.ga K "Bench") "do_deeds")))),
  fun K => PySem.W.isFn K (.ref (He.ma K (He.ga K "Bench") "do_deeds")),
  fun K => decide (PySem.W.findIn K (.ref (He.ga K "Bench")) "contents" = some (some (.ref (He.ma K (He.ga K "Bench") "contents")))),
  fun K => PySem.W.isFn K (.ref (He.ma K (He.ga K "Bench") "contents")),
  fun K => decide (PySem.W.findIn K (.ref (He.ga K "Bench")) "hand_over" = some (some (.ref (He.ma K (He.ga K "Bench") "hand_over")))),
  fun K => PySem.W.isFn K (.ref (He.ma K (He.ga K "Bench") "hand_over")),
  fun K => decide (PySem.W.findIn K (.ref (He.ga K "Bench")) "next_mode" = some (some (.ref (He.ma K (He.ga K "Bench") "next_mode")))),
  fun K => PySem.W.isFn K (.ref (He.ma K (He.ga K "Bench") "next_mode")),
  fun K => decide (PySem.W.findIn K (.ref (He.ga K "Bench")) "do_call" = some (some (.ref (He.ma K (He.ga K "Bench") "do_call")))),
  fun K => PySem.W.isFn K (.ref (He.ma K (He.ga K "Bench") "do_call")),
  fun K => decide (PySem.W.findIn K (.ref (He.ga K "Bench")) "do_row" = some (some (.ref (He.ma K (He.ga K "Bench") "do_row"))))]
def fs5 : List (PySem.W.Frag → Bool) := [fun K => PySem.W.isFn K (.ref (He.ma K (He.ga K "Bench") "do_row")),
  fun K => decide (PySem.W.findIn K (.ref (He.ga K "Bench")) "told" = some (some (.ref (He.ma K (He.ga K "Bench") "told")))),
  fun K => PySem.W.isFn K (.ref (He.ma K (He.ga K "Bench") "told")),
  fun K => decide (PySem.W.findIn K (.ref (He.ga K "Bench")) "told_all" = some (some (.ref (He.ma K (He.ga K "Bench") "told_all")))),
  fun K => PySem.W.isFn K (.ref (He.ma K (He.ga K "Bench") "told_all")),
  fun K => decide (PySem.W.findIn K (.ref (He.ga K "Run")) "__eq__" = some (some (.ref (He.ma K (He.ga K "Run") "__eq__")))),
  fun K => PySem.W.isFn K (.ref (He.ma K (He.ga K "Run") "__eq__")),
  fun K => decide (PySem.W.findIn K (.ref (He.ga K "Yard")) "__init__" = some (some (.ref (He.ma K (He.ga K "Yard") "__init__")))),
  fun K => PySem.W.isFn K (.ref (He.ma K (He.ga K "Yard") "__init__")),
  fun K => decide (PySem.W.findIn K (.ref (He.ga K "Yard")) "make" = some (some (.ref (He.ma K (He.ga K "Yard") "make")))),
  fun K => PySem.W.isFn K (.ref (He.ma K (He.ga K "Yard") "make")),
  fun K => decide (PySem.W.findIn K (.ref (He.ga K "Yard")) "undo" = some (some (.ref (He.ma K (He.ga K "Yard") "undo")))),
  fun K => PySem.W.isFn K (.ref (He.ma K (He.ga K "Yard") "undo")),
  fun K => decide (PySem.W.findIn K (.ref (He.ga K "Yard")) "run" = some (some (.ref (He.ma K (He.ga K "Yard") "run")))),
  fun K => PySem.W.isFn K (.ref (He.ma K (He.ga K "Yard") "run")),
  fun K => decide (PySem.W.findIn K (.ref (He.ga K "Yard")) "put_row" = some (some (.ref (He.ma K (He.ga K "Yard") "put_row")))),
  fun K => PySem.W.isFn K (.ref (He.ma K (He.ga K "Yard") "put_row")),
  fun K => decide (PySem.W.findIn K (.ref (He.ga K "Thing")) "__init__" = some (some (.ref (He.ma K (He.ga K "Thing") "__init__")))),
  fun K => PySem.W.isFn K (.ref (He.ma K (He.ga K "Thing") "__init__")),
  fun K => decide (PySem.W.findIn K (.ref (He.ga K "Thing")) "look" = some (some (.ref (He.ma K (He.ga K "Thing") "look"))))]
def fs6 : List (PySem.W.Frag → Bool) := [fun K => PySem.W.isFn K (.ref (He.ma K (He.ga K "Thing") "look")),
  fun K => decide (PySem.W.findIn K (.ref (He.ga K "Thing")) "call" = some (some (.ref (He.ma K (He.ga K "Thing") "call")))),
  fun K => PySem.W.isFn K (.ref (He.ma K (He.ga K "Thing") "call")),
  fun K => errB K (He.ga K "Refused"),
  fun K => PySem.W.excIn K (He.ga K "Refused") PySem.HandSPX.veTail "ValueError.__new__",
  fun K => decide (PySem.W.subIn K (.ref (He.ga K "Refused")) (.type "BaseException") = some true),
  fun K => decide (PySem.W.typeIn K (.ref (He.ga K "Refused")) = some (.type "type")),
  fun K => PySem.W.keepIn K (.ref (He.ga K "Refused")),
  fun K => PySem.W.makesIn K (He.ga K "Kind"),
  fun K => PySem.W.keepIn K (.ref (He.ga K "Kind")),
  fun K => PySem.W.plainGet K (He.ga K "Kind") Str.empty,
  fun K => PySem.W.hasDictIn K (He.ga K "Kind"),
  fun K => PySem.W.plainOver K (He.ga K "Kind"),
  fun K => decide (PySem.W.findIn K (.ref (He.ga K "Kind")) "__setattr__" = some (some (.builtin "object.__setattr__"))),
  fun K => decide (PySem.W.findIn K (.ref (He.ga K "Kind")) "triples" = some none),
  fun K => decide (PySem.W.findIn K (.ref (He.ga K "Kind")) "sorts" = some none),
  fun K => decide (PySem.W.findIn K (.ref (He.ga K "Kind")) "spots" = some none),
  fun K => decide (PySem.W.findIn K (.ref (He.ga K "Kind")) "modes" = some none),
  fun K => decide (PySem.W.findIn K (.ref (He.ga K "Kind")) "steps" = some none),
  fun K => decide (PySem.W.findIn K (.ref (He.ga K "Kind")) "table" = some none)]
def fs7 : List (PySem.W.Frag → Bool) := [fun K => PySem.W.makesIn K (He.ga K "Bench"),
  fun K => PySem.W.keepIn K (.ref (He.ga K "Bench")),
  fun K => PySem.W.plainGet K (He.ga K "Bench") Str.empty,
  fun K => PySem.W.hasDictIn K (He.ga K "Bench"),
  fun K => PySem.W.plainOver K (He.ga K "Bench"),
  fun K => decide (PySem.W.findIn K (.ref (He.ga K "Bench")) "__setattr__" = some (some (.builtin "object.__setattr__"))),
  fun K => decide (PySem.W.findIn K (.ref (He.ga K "Bench")) "kind" = some none),
  fun K => decide (PySem.W.findIn K (.ref (He.ga K "Bench")) "as_values" = some none),
  fun K => decide (PySem.W.findIn K (.ref (He.ga K "Bench")) "lists" = some none),
  fun K => decide (PySem.W.findIn K (.ref (He.ga K "Bench")) "handed" = some none),
  fun K => decide (PySem.W.findIn K (.ref (He.ga K "Bench")) "early" = some none),
  fun K => PySem.W.makesIn K (He.ga K "Handed"),
  fun K => PySem.W.keepIn K (.ref (He.ga K "Handed")),
  fun K => PySem.W.plainGet K (He.ga K "Handed") Str.empty,
  fun K => PySem.W.hasDictIn K (He.ga K "Handed"),
  fun K => PySem.W.plainOver K (He.ga K "Handed"),
  fun K => decide (PySem.W.findIn K (.ref (He.ga K "Handed")) "__setattr__" = some (some (.builtin "object.__setattr__"))),
  fun K => decide (PySem.W.findIn K (.ref (He.ga K "Handed")) "mode" = some none),
  fun K => decide (PySem.W.findIn K (.ref (He.ga K "Handed")) "held" = some none),
  fun K => PySem.W.makesIn K (He.ga K "Yard")]
def fs8 : List (PySem.W.Frag → Bool) := [fun K => PySem.W.keepIn K (.ref (He.ga K "Yard")),
  fun K => PySem.W.plainGet K (He.ga K "Yard") Str.empty,
  fun K => PySem.W.hasDictIn K (He.ga K "Yard"),
  fun K => PySem.W.plainOver K (He.ga K "Yard"),
  fun K => decide (PySem.W.findIn K (.ref (He.ga K "Yard")) "__setattr__" = some (some (.builtin "object.__setattr__"))),
  fun K => decide (PySem.W.findIn K (.ref (He.ga K "Yard")) "kind" = some none),
  fun K => decide (PySem.W.findIn K (.ref (He.ga K "Yard")) "program" = some none),
  fun K => decide (PySem.W.findIn K (.ref (He.ga K "Yard")) "bench" = some none),
  fun K => decide (PySem.W.findIn K (.ref (He.ga K "Yard")) "placed" = some none),
  fun K => PySem.W.makesIn K (He.ga K "Thing"),
  fun K => PySem.W.keepIn K (.ref (He.ga K "Thing")),
  fun K => PySem.W.plainGet K (He.ga K "Thing") Str.empty,
  fun K => PySem.W.hasDictIn K (He.ga K "Thing"),
  fun K => PySem.W.plainOver K (He.ga K "Thing"),
  fun K => decide (PySem.W.findIn K (.ref (He.ga K "Thing")) "__setattr__" = some (some (.builtin "object.__setattr__"))),
  fun K => decide (PySem.W.findIn K (.ref (He.ga K "Thing")) "yard" = some none),
  fun K => decide (PySem.W.findIn K (.ref (He.ga K "Thing")) "number" = some none),
  fun K => decide (PySem.W.findIn K (.ref (He.ga K "Thing")) "is_gone" = some none),
  fun K => PySem.W.makesIn K (He.ga K "Run"),
  fun K => PySem.W.keepIn K (.ref (He.ga K "Run"))]
def fs9 : List (PySem.W.Frag → Bool) := [fun K => PySem.W.plainGet K (He.ga K "Run") Str.empty,
  fun K => PySem.W.hasDictIn K (He.ga K "Run"),
  fun K => PySem.W.plainOver K (He.ga K "Run"),
  fun K => decide (PySem.W.findIn K (.ref (He.ga K "Run")) "__setattr__" = some (some (.builtin "object.__setattr__"))),
  fun K => decide (PySem.W.findIn K (.ref (He.ga K "Run")) "kind" = some none),
  fun K => decide (PySem.W.findIn K (.ref (He.ga K "Run")) "program" = some none),
  fun K => decide (PySem.W.findIn K (.ref (He.ga K "Run")) "bench" = some none),
  fun K => decide (PySem.W.findIn K (.ref (He.ga K "Kind")) "__class__" = some (some (.builtin "object.__class__"))),
  fun K => decide (PySem.W.specialIn K (.builtin "object.__class__") "__get__" = some (some (.builtin "getset_descriptor.__get__"))),
  fun K => decide (PySem.W.takesIn K (.builtin "object.__class__") = some true),
  fun K => decide (PySem.W.mroIn K (He.ga K "Kind") (.type "object") = some true),
  fun K => decide (PySem.W.findIn K (.ref (He.ga K "Run")) "__class__" = some (some (.builtin "object.__class__"))),
  fun K => decide (PySem.W.specialIn K (.builtin "object.__class__") "__get__" = some (some (.builtin "getset_descriptor.__get__"))),
  fun K => decide (PySem.W.takesIn K (.builtin "object.__class__") = some true),
  fun K => decide (PySem.W.mroIn K (He.ga K "Run") (.type "object") = some true),
  fun K => decide (PySem.W.findIn K (.ref (He.ga K "Run")) "__ne__" = some (some (.builtin "object.__ne__"))),
  fun K => decide (PySem.W.subIn K (.ref (He.ga K "Run")) (.type "object") = some true),
  fun K => decide (PySem.W.nsIn K mainGlobals "len" = some none),
  fun K => decide (PySem.W.nsIn K mainGlobals "int" = some none),
  fun K => decide (PySem.W.nsIn K mainGlobals "enumerate" = some none)]
def fs10 : List (PySem.W.Frag → Bool) := [fun K => decide (PySem.W.nsIn K mainGlobals "list" = some none),
  fun K => decide (PySem.W.nsIn K mainGlobals "tuple" = some none),
  fun K => decide (PySem.W.nsIn K mainGlobals "isinstance" = some none),
  fun K => decide (PySem.W.nsIn K mainGlobals "range" = some none),
  fun K => decide (PySem.W.nsIn K mainGlobals "all" = some none),
  fun K => decide (PySem.W.nsIn K mainGlobals "zip" = some none),
  fun K => decide (PySem.W.nsIn K mainGlobals "ValueError" = some none),
  fun K => decide (PySem.W.nsIn K mainGlobals "bool" = some none),
  fun K => decide (PySem.W.nsIn K mainGlobals "str" = some none),
  fun K => decide (PySem.W.nsIn K mainGlobals "set" = some none),
  fun K => decide (PySem.W.nsIn K mainGlobals "any" = some none),
  fun K => intB K "MOST_LETTERS" 8,
  fun K => intB K "MOST_FIELDS" 3,
  fun K => intB K "MOST_MODES" 4,
  fun K => intB K "MOST_CALLS" 6,
  fun K => intB K "MOST_DEEDS" 4,
  fun K => decide (PySem.W.nsIn K mainGlobals "SORTS" = some (some (.ref (He.ga K "SORTS")))),
  fun K => tupB K (He.ga K "SORTS") ["one", "many"],
  fun K => decide (PySem.W.nsIn K mainGlobals "HANDS" = some (some (.ref (He.ga K "HANDS")))),
  fun K => tupB K (He.ga K "HANDS") ["self", "new", "last"]]
def fs11 : List (PySem.W.Frag → Bool) := [fun K => decide (PySem.W.nsIn K mainGlobals "WORD_DEEDS" = some (some (.ref (He.ga K "WORD_DEEDS")))),
  fun K => tupB K (He.ga K "WORD_DEEDS") ["set", "add", "strike"],
  fun K => decide (PySem.W.nsIn K mainGlobals "LIST_WORD_DEEDS" = some (some (.ref (He.ga K "LIST_WORD_DEEDS")))),
  fun K => tupB K (He.ga K "LIST_WORD_DEEDS") ["add", "strike"],
  fun K => tupB K (He.dflAt ("Run", some "__init__") 0 K) [],
  fun K => decide (PySem.W.nsIn K mainGlobals "SORTS_OF_DEEDS" = some (some (.ref (He.ga K "SORTS_OF_DEEDS")))),
  fun K => decide (PySem.W.nsIn K (He.ga K "SORTS_OF_DEEDS") "set" = some (some (.ref (da K (He.ga K "SORTS_OF_DEEDS") "set")))),
  fun K => tupB K (da K (He.ga K "SORTS_OF_DEEDS") "set") ["one"],
  fun K => decide (PySem.W.nsIn K (He.ga K "SORTS_OF_DEEDS") "add" = some (some (.ref (da K (He.ga K "SORTS_OF_DEEDS") "add")))),
  fun K => tupB K (da K (He.ga K "SORTS_OF_DEEDS") "add") ["many"],
  fun K => decide (PySem.W.nsIn K (He.ga K "SORTS_OF_DEEDS") "strike" = some (some (.ref (da K (He.ga K "SORTS_OF_DEEDS") "strike")))),
  fun K => tupB K (da K (He.ga K "SORTS_OF_DEEDS") "strike") ["many"],
  fun K => decide (PySem.W.nsIn K (He.ga K "SORTS_OF_DEEDS") "fresh" = some (some (.ref (da K (He.ga K "SORTS_OF_DEEDS") "fresh")))),
  fun K => tupB K (da K (He.ga K "SORTS_OF_DEEDS") "fresh") ["many"],
  fun K => decide (PySem.W.nsIn K (He.ga K "SORTS_OF_DEEDS") "clear" = some (some (.ref (da K (He.ga K "SORTS_OF_DEEDS") "clear")))),
  fun K => tupB K (da K (He.ga K "SORTS_OF_DEEDS") "clear") ["one", "many"],
  fun K => decide (PySem.W.kitOne K (.ref (He.ga K "Refused")) (.ref (He.ga K "BadField")) = some false),
  fun K => decide (PySem.W.kitOne K (.ref (He.ga K "Refused")) (.ref (He.ga K "BadModes")) = some false),
  fun K => decide (PySem.W.kitOne K (.ref (He.ga K "Refused")) (.ref (He.ga K "BadCall")) = some false),
  fun K => decide (PySem.W.kitOne K (.ref (He.ga K "Refused")) (.ref (He.ga K "UnknownCall")) = some false)]
def fs12 : List (PySem.W.Frag → Bool) := [fun K => decide (PySem.W.kitOne K (.ref (He.ga K "Refused")) (.ref (He.ga K "BadPlace")) = some false),
  fun K => decide (PySem.W.kitOne K (.ref (He.ga K "Refused")) (.ref (He.ga K "BadText")) = some false),
  fun K => decide (PySem.W.kitOne K (.ref (He.ga K "Refused")) (.ref (He.ga K "BadRow")) = some false),
  fun K => decide (PySem.W.kitOne K (.ref (He.ga K "Refused")) (.ref (He.ga K "BadWord")) = some false),
  fun K => decide (PySem.W.kitOne K (.ref (He.ga K "Refused")) (.ref (He.ga K "BadWish")) = some false),
  fun K => decide (PySem.W.kitOne K (.ref (He.ga K "Refused")) (.ref (He.ga K "BadRun")) = some false),
  fun K => decide (PySem.W.kitOne K (.ref (He.ga K "Refused")) (.ref (He.ga K "BadCallers")) = some false),
  fun K => decide (PySem.W.kitOne K (.ref (He.ga K "Refused")) (.ref (He.ga K "BadKind")) = some false),
  fun K => decide (PySem.W.kitOne K (.ref (He.ga K "Refused")) (.ref (He.ga K "BadRule")) = some false),
  fun K => decide (PySem.W.kitOne K (.ref (He.ga K "Refused")) (.ref (He.ga K "Refused")) = some true),
  fun K => decide (PySem.W.exmOne K (.ref (He.ga K "Refused")) (.ref (He.ga K "MakerError")) = some true)]
def fsAll : BsM := [fs0, fs1, fs2, fs3, fs4, fs5, fs6, fs7, fs8, fs9, fs10, fs11, fs12]
def dA_fresh : He5.DefA := ⟨fun K => (He.ga K "_law_fresh"), "_law_fresh", "_law_fresh", defArgs s_fresh, defBody s_fresh, defScope s_fresh, [], []⟩
def dA_fill : He5.DefA := ⟨fun K => (He.ga K "_law_fill"), "_law_fill", "_law_fill", defArgs s_fill, defBody s_fill, defScope s_fill, [], []⟩
def dA_take : He5.DefA := ⟨fun K => (He.ga K "_law_take"), "_law_take", "_law_take", defArgs s_take, defBody s_take, defScope s_take, [], []⟩
def dA_one : He5.DefA := ⟨fun K => (He.ga K "_law_one"), "_law_one", "_law_one", defArgs s_one, defBody s_one, defScope s_one, [], []⟩
def dA_mix : He5.DefA := ⟨fun K => (He.ga K "_law_mix"), "_law_mix", "_law_mix", defArgs s_mix, defBody s_mix, defScope s_mix, [], []⟩
def dA_same : He5.DefA := ⟨fun K => (He.ga K "_law_same"), "_law_same", "_law_same", defArgs s_same, defBody s_same, defScope s_same, [], []⟩
def dA_tried : He5.DefA := ⟨fun K => (He.ga K "_law_tried"), "_law_tried", "_law_tried", defArgs s_tried, defBody s_tried, defScope s_tried, [], []⟩
def dA_error : He5.DefA := ⟨fun K => (He.ga K "_law_error"), "_law_error", "_law_error", defArgs s_error, defBody s_error, defScope s_error, [], []⟩
def dA_other_error : He5.DefA := ⟨fun K => (He.ga K "_law_other_error"), "_law_other_error", "_law_other_error", defArgs s_other_error, defBody s_other_error, defScope s_other_error, [], []⟩
def dA_plan : He5.DefA := ⟨fun K => (He.ga K "_law_plan"), "_law_plan", "_law_plan", defArgs s_plan, defBody s_plan, defScope s_plan, [], []⟩
def dA_row_of : He5.DefA := ⟨fun K => (He.ga K "_law_row_of"), "_law_row_of", "_law_row_of", defArgs s_row_of, defBody s_row_of, defScope s_row_of, [], []⟩
def dA_takes : He5.DefA := ⟨fun K => (He.ga K "_law_takes"), "_law_takes", "_law_takes", defArgs s_takes, defBody s_takes, defScope s_takes, [], []⟩
def dA_deeds : He5.DefA := ⟨fun K => (He.ga K "_law_deeds"), "_law_deeds", "_law_deeds", defArgs s_deeds, defBody s_deeds, defScope s_deeds, [], []⟩
def dA_call : He5.DefA := ⟨fun K => (He.ga K "_law_call"), "_law_call", "_law_call", defArgs s_call, defBody s_call, defScope s_call, [], []⟩
def dA_kind : He5.DefA := ⟨fun K => (He.ga K "_law_kind"), "_law_kind", "_law_kind", defArgs s_kind, defBody s_kind, defScope s_kind, [], []⟩
def dA_begin : He5.DefA := ⟨fun K => (He.ga K "_law_begin"), "_law_begin", "_law_begin", defArgs s_begin, defBody s_begin, defScope s_begin, [], []⟩
def dA_kept : He5.DefA := ⟨fun K => (He.ga K "_law_kept"), "_law_kept", "_law_kept", defArgs s_kept, defBody s_kept, defScope s_kept, [], []⟩
def dA_deed : He5.DefA := ⟨fun K => (He.ga K "_law_deed"), "_law_deed", "_law_deed", defArgs s_deed, defBody s_deed, defScope s_deed, [], []⟩
def dA_made_of : He5.DefA := ⟨fun K => (He.ga K "_law_made_of"), "_law_made_of", "_law_made_of", defArgs s_made_of, defBody s_made_of, defScope s_made_of, [], []⟩
def dA_told : He5.DefA := ⟨fun K => (He.ga K "_law_told"), "_law_told", "_law_told", defArgs s_told, defBody s_told, defScope s_told, [], []⟩
def dA_done : He5.DefA := ⟨fun K => (He.ga K "_law_done"), "_law_done", "_law_done", defArgs s_done, defBody s_done, defScope s_done, [], []⟩
def dA_ran : He5.DefA := ⟨fun K => (He.ga K "_law_ran"), "_law_ran", "_law_ran", defArgs s_ran, defBody s_ran, defScope s_ran, [], []⟩
def dA_all_told : He5.DefA := ⟨fun K => (He.ga K "_law_all_told"), "_law_all_told", "_law_all_told", defArgs s_all_told, defBody s_all_told, defScope s_all_told, [], []⟩
def dA_callable : He5.DefA := ⟨fun K => (He.ga K "_law_callable"), "_law_callable", "_law_callable", defArgs s_callable, defBody s_callable, defScope s_callable, [], []⟩
def dA_is_right : He5.DefA := ⟨fun K => (He.ga K "_law_is_right"), "_law_is_right", "_law_is_right", defArgs s_is_right, defBody s_is_right, defScope s_is_right, [], []⟩
def dA_is_word : He5.DefA := ⟨fun K => (He.ga K "is_word"), "is_word", "is_word", defArgs s_is_word, defBody s_is_word, defScope s_is_word, [], []⟩
def dA_is_integer : He5.DefA := ⟨fun K => (He.ga K "is_integer"), "is_integer", "is_integer", defArgs s_is_integer, defBody s_is_integer, defScope s_is_integer, [], []⟩
def dA_is_list : He5.DefA := ⟨fun K => (He.ga K "is_list"), "is_list", "is_list", defArgs s_is_list, defBody s_is_list, defScope s_is_list, [], []⟩
def dA_is_modes : He5.DefA := ⟨fun K => (He.ga K "is_modes"), "is_modes", "is_modes", defArgs s_is_modes, defBody s_is_modes, defScope s_is_modes, [], []⟩
def dA_is_field : He5.DefA := ⟨fun K => (He.ga K "is_field"), "is_field", "is_field", defArgs s_is_field, defBody s_is_field, defScope s_is_field, [], []⟩
def dA_kept_fields : He5.DefA := ⟨fun K => (He.ga K "kept_fields"), "kept_fields", "kept_fields", defArgs s_kept_fields, defBody s_kept_fields, defScope s_kept_fields, [], []⟩
def dA_is_many : He5.DefA := ⟨fun K => (He.ga K "is_many"), "is_many", "is_many", defArgs s_is_many, defBody s_is_many, defScope s_is_many, [], []⟩
def dA_is_deed : He5.DefA := ⟨fun K => (He.ga K "is_deed"), "is_deed", "is_deed", defArgs s_is_deed, defBody s_is_deed, defScope s_is_deed, [], []⟩
def dA_are_moves : He5.DefA := ⟨fun K => (He.ga K "are_moves"), "are_moves", "are_moves", defArgs s_are_moves, defBody s_are_moves, defScope s_are_moves, [], []⟩
def dA_has_call_form : He5.DefA := ⟨fun K => (He.ga K "has_call_form"), "has_call_form", "has_call_form", defArgs s_has_call_form, defBody s_has_call_form, defScope s_has_call_form, [], []⟩
def dA_are_deeds : He5.DefA := ⟨fun K => (He.ga K "are_deeds"), "are_deeds", "are_deeds", defArgs s_are_deeds, defBody s_are_deeds, defScope s_are_deeds, [], []⟩
def dA_is_same : He5.DefA := ⟨fun K => (He.ga K "is_same"), "is_same", "is_same", defArgs s_is_same, defBody s_is_same, defScope s_is_same, [], []⟩
def dA_kept_call : He5.DefA := ⟨fun K => (He.ga K "kept_call"), "kept_call", "kept_call", defArgs s_kept_call, defBody s_kept_call, defScope s_kept_call, [], []⟩
def dA_wrong_part : He5.DefA := ⟨fun K => (He.ga K "wrong_part"), "wrong_part", "wrong_part", defArgs s_wrong_part, defBody s_wrong_part, defScope s_wrong_part, [], []⟩
def dA_kept_calls : He5.DefA := ⟨fun K => (He.ga K "kept_calls"), "kept_calls", "kept_calls", defArgs s_kept_calls, defBody s_kept_calls, defScope s_kept_calls, [], []⟩
def dA_kept_program : He5.DefA := ⟨fun K => (He.ga K "kept_program"), "kept_program", "kept_program", defArgs s_kept_program, defBody s_kept_program, defScope s_kept_program, [], []⟩
def dA_is_row : He5.DefA := ⟨fun K => (He.ga K "is_row"), "is_row", "is_row", defArgs s_is_row, defBody s_is_row, defScope s_is_row, [], []⟩
def dA_is_last : He5.DefA := ⟨fun K => (He.ga K "is_last"), "is_last", "is_last", defArgs s_is_last, defBody s_is_last, defScope s_is_last, [], []⟩
def dA_law : He5.DefA := ⟨fun K => (He.ga K "law"), "law", "law", defArgs s_law, defBody s_law, defScope s_law, [], []⟩
def dA_kinit : He5.DefA := ⟨fun K => (He.ma K (He.ga K "Kind") "__init__"), "__init__", "Kind.__init__", defArgs s_Kind_init, defBody s_Kind_init, defScope s_Kind_init, [], []⟩
def dA_khas : He5.DefA := ⟨fun K => (He.ma K (He.ga K "Kind") "__contains__"), "__contains__", "Kind.__contains__", defArgs s_Kind_contains, defBody s_Kind_contains, defScope s_Kind_contains, [], []⟩
def dA_keq : He5.DefA := ⟨fun K => (He.ma K (He.ga K "Kind") "__eq__"), "__eq__", "Kind.__eq__", defArgs s_Kind_eq, defBody s_Kind_eq, defScope s_Kind_eq, [], []⟩
def dA_ktakes : He5.DefA := ⟨fun K => (He.ma K (He.ga K "Kind") "takes"), "takes", "Kind.takes", defArgs s_Kind_takes, defBody s_Kind_takes, defScope s_Kind_takes, [], []⟩
def dA_hinit : He5.DefA := ⟨fun K => (He.ma K (He.ga K "Handed") "__init__"), "__init__", "Handed.__init__", defArgs s_Handed_init, defBody s_Handed_init, defScope s_Handed_init, [], []⟩
def dA_binit : He5.DefA := ⟨fun K => (He.ma K (He.ga K "Bench") "__init__"), "__init__", "Bench.__init__", defArgs s_Bench_init, defBody s_Bench_init, defScope s_Bench_init, [.bl false], []⟩
def dA_rinit : He5.DefA := ⟨fun K => (He.ma K (He.ga K "Run") "__init__"), "__init__", "Run.__init__", defArgs s_Run_init, defBody s_Run_init, defScope s_Run_init, [.adr (He.dflAt ("Run", some "__init__") 0)], []⟩
def dA_b_put_list : He5.DefA := ⟨fun K => (He.ma K (He.ga K "Bench") "put_list"), "put_list", "Bench.put_list", defArgs s_Bench_put_list, defBody s_Bench_put_list, defScope s_Bench_put_list, [], []⟩
def dA_b_copied : He5.DefA := ⟨fun K => (He.ma K (He.ga K "Bench") "copied"), "copied", "Bench.copied", defArgs s_Bench_copied, defBody s_Bench_copied, defScope s_Bench_copied, [], []⟩
def dA_b_blank_maker : He5.DefA := ⟨fun K => (He.ma K (He.ga K "Bench") "blank_maker"), "blank_maker", "Bench.blank_maker", defArgs s_Bench_blank_maker, defBody s_Bench_blank_maker, defScope s_Bench_blank_maker, [], []⟩
def dA_b_do_list_deed : He5.DefA := ⟨fun K => (He.ma K (He.ga K "Bench") "do_list_deed"), "do_list_deed", "Bench.do_list_deed", defArgs s_Bench_do_list_deed, defBody s_Bench_do_list_deed, defScope s_Bench_do_list_deed, [], []⟩
def dA_b_do_deeds : He5.DefA := ⟨fun K => (He.ma K (He.ga K "Bench") "do_deeds"), "do_deeds", "Bench.do_deeds", defArgs s_Bench_do_deeds, defBody s_Bench_do_deeds, defScope s_Bench_do_deeds, [], []⟩
def dA_b_contents : He5.DefA := ⟨fun K => (He.ma K (He.ga K "Bench") "contents"), "contents", "Bench.contents", defArgs s_Bench_contents, defBody s_Bench_contents, defScope s_Bench_contents, [], []⟩
def dA_b_hand_over : He5.DefA := ⟨fun K => (He.ma K (He.ga K "Bench") "hand_over"), "hand_over", "Bench.hand_over", defArgs s_Bench_hand_over, defBody s_Bench_hand_over, defScope s_Bench_hand_over, [], []⟩
def dA_b_next_mode : He5.DefA := ⟨fun K => (He.ma K (He.ga K "Bench") "next_mode"), "next_mode", "Bench.next_mode", defArgs s_Bench_next_mode, defBody s_Bench_next_mode, defScope s_Bench_next_mode, [], []⟩
def dA_b_do_call : He5.DefA := ⟨fun K => (He.ma K (He.ga K "Bench") "do_call"), "do_call", "Bench.do_call", defArgs s_Bench_do_call, defBody s_Bench_do_call, defScope s_Bench_do_call, [], []⟩
def dA_b_do_row : He5.DefA := ⟨fun K => (He.ma K (He.ga K "Bench") "do_row"), "do_row", "Bench.do_row", defArgs s_Bench_do_row, defBody s_Bench_do_row, defScope s_Bench_do_row, [], []⟩
def dA_b_told : He5.DefA := ⟨fun K => (He.ma K (He.ga K "Bench") "told"), "told", "Bench.told", defArgs s_Bench_told, defBody s_Bench_told, defScope s_Bench_told, [], []⟩
def dA_b_told_all : He5.DefA := ⟨fun K => (He.ma K (He.ga K "Bench") "told_all"), "told_all", "Bench.told_all", defArgs s_Bench_told_all, defBody s_Bench_told_all, defScope s_Bench_told_all, [], []⟩
def dA_r_eq : He5.DefA := ⟨fun K => (He.ma K (He.ga K "Run") "__eq__"), "__eq__", "Run.__eq__", defArgs s_Run_eq, defBody s_Run_eq, defScope s_Run_eq, [], []⟩
def dA_y_init : He5.DefA := ⟨fun K => (He.ma K (He.ga K "Yard") "__init__"), "__init__", "Yard.__init__", defArgs s_Yard_init, defBody s_Yard_init, defScope s_Yard_init, [], []⟩
def dA_y_make : He5.DefA := ⟨fun K => (He.ma K (He.ga K "Yard") "make"), "make", "Yard.make", defArgs s_Yard_make, defBody s_Yard_make, defScope s_Yard_make, [], []⟩
def dA_y_undo : He5.DefA := ⟨fun K => (He.ma K (He.ga K "Yard") "undo"), "undo", "Yard.undo", defArgs s_Yard_undo, defBody s_Yard_undo, defScope s_Yard_undo, [], []⟩
def dA_y_run : He5.DefA := ⟨fun K => (He.ma K (He.ga K "Yard") "run"), "run", "Yard.run", defArgs s_Yard_run, defBody s_Yard_run, defScope s_Yard_run, [], []⟩
def dA_y_put_row : He5.DefA := ⟨fun K => (He.ma K (He.ga K "Yard") "put_row"), "put_row", "Yard.put_row", defArgs s_Yard_put_row, defBody s_Yard_put_row, defScope s_Yard_put_row, [], []⟩
def dA_t_init : He5.DefA := ⟨fun K => (He.ma K (He.ga K "Thing") "__init__"), "__init__", "Thing.__init__", defArgs s_Thing_init, defBody s_Thing_init, defScope s_Thing_init, [], []⟩
def dA_t_look : He5.DefA := ⟨fun K => (He.ma K (He.ga K "Thing") "look"), "look", "Thing.look", defArgs s_Thing_look, defBody s_Thing_look, defScope s_Thing_look, [], []⟩
def dA_t_call : He5.DefA := ⟨fun K => (He.ma K (He.ga K "Thing") "call"), "call", "Thing.call", defArgs s_Thing_call, defBody s_Thing_call, defScope s_Thing_call, [.non], []⟩
def ds0 : List He5.DefA := [dA_fresh, dA_fill, dA_take, dA_one, dA_mix, dA_same, dA_tried, dA_error, dA_other_error, dA_plan, dA_row_of, dA_takes, dA_deeds, dA_call, dA_kind, dA_begin, dA_kept, dA_deed, dA_made_of, dA_told]
def ds1 : List He5.DefA := [dA_done, dA_ran, dA_all_told, dA_callable, dA_is_right, dA_is_word, dA_is_integer, dA_is_list, dA_is_modes, dA_is_field, dA_kept_fields, dA_is_many, dA_is_deed, dA_are_moves, dA_has_call_form, dA_are_deeds, dA_is_same, dA_kept_call, dA_wrong_part, dA_kept_calls]
def ds2 : List He5.DefA := [dA_kept_program, dA_is_row, dA_is_last, dA_law, dA_kinit, dA_khas, dA_keq, dA_ktakes, dA_hinit, dA_binit, dA_rinit, dA_b_put_list, dA_b_copied, dA_b_blank_maker, dA_b_do_list_deed, dA_b_do_deeds, dA_b_contents, dA_b_hand_over, dA_b_next_mode, dA_b_do_call]
def ds3 : List He5.DefA := [dA_b_do_row, dA_b_told, dA_b_told_all, dA_r_eq, dA_y_init, dA_y_make, dA_y_undo, dA_y_run, dA_y_put_row, dA_t_init, dA_t_look, dA_t_call]
def dsAll : DsM := [ds0, ds1, ds2, ds3]
def tsAll : List He.Tab := [(fun K => (He.ga K "SORTS_OF_DEEDS"), ["set", "add", "strike", "fresh", "clear"])]
set_option maxRecDepth 100000 in
theorem facts {l : PySem.W.OpenLaw} {w : World} {K : PySem.W.Frag} {h : Heap} {mg : Str → Option Value} {fa : Addr} (X : K.In h) (G : h.Ns mainGlobals mg) (hfa : mg "law" = some (.ref fa)) (c : SaysM fsAll dsAll tsAll w K) :
    ∃ (fd : FuncData) (c P : Addr) (sp : Sp), PySem.W.tabIn K "law" = some (c, P) ∧ K.lookup P = none ∧ (∀ (s : Shared) (u : Value), BindsTo s fd ⟨[u], []⟩ [("_law_script", u)]) ∧
        (∀ (H : Hp) (a : Addr) (ns : List Int), ns.length ≤ 63 → H P = some (.tbl #[]) → SqL K H a (ns.map V.int) → sp [.ref a] H (fun v _ => v = .bl true) fun _ _ _ => False) ∧
        ∀ base : Heap, K.In base → base.Ns mainGlobals mg → LamX.TabB base mg c P → FnOk l.prog w K mg base CX0 13 fa fd ["_law_script"] sp := by
  obtain ⟨fd_fresh, D_fresh⟩ : ∃ fd, FunD K "_law_fresh" "_law_fresh" (defArgs s_fresh) (defBody s_fresh) (defScope s_fresh) [] [] (He.ga K "_law_fresh") fd := c.d 0 0 (d := dA_fresh) rfl rfl
  obtain ⟨fd_fill, D_fill⟩ : ∃ fd, FunD K "_law_fill" "_law_fill" (defArgs s_fill) (defBody s_fill) (defScope s_fill) [] [] (He.ga K "_law_fill") fd := c.d 0 1 (d := dA_fill) rfl rfl
  obtain ⟨fd_take, D_take⟩ : ∃ fd, FunD K "_law_take" "_law_take" (defArgs s_take) (defBody s_take) (defScope s_take) [] [] (He.ga K "_law_take") fd := c.d 0 2 (d := dA_take) rfl rfl
  obtain ⟨fd_one, D_one⟩ : ∃ fd, FunD K "_law_one" "_law_one" (defArgs s_one) (defBody s_one) (defScope s_one) [] [] (He.ga K "_law_one") fd := c.d 0 3 (d := dA_one) rfl rfl
  obtain ⟨fd_mix, D_mix⟩ : ∃ fd, FunD K "_law_mix" "_law_mix" (defArgs s_mix) (defBody s_mix) (defScope s_mix) [] [] (He.ga K "_law_mix") fd := c.d 0 4 (d := dA_mix) rfl rfl
  obtain ⟨fd_same, D_same⟩ : ∃ fd, FunD K "_law_same" "_law_same" (defArgs s_same) (defBody s_same) (defScope s_same) [] [] (He.ga K "_law_same") fd := c.d 0 5 (d := dA_same) rfl rfl
  obtain ⟨fd_tried, D_tried⟩ : ∃ fd, FunD K "_law_tried" "_law_tried" (defArgs s_tried) (defBody s_tried) (defScope s_tried) [] [] (He.ga K "_law_tried") fd := c.d 0 6 (d := dA_tried) rfl rfl
  obtain ⟨fd_error, D_error⟩ : ∃ fd, FunD K "_law_error" "_law_error" (defArgs s_error) (defBody s_error) (defScope s_error) [] [] (He.ga K "_law_error") fd := c.d 0 7 (d := dA_error) rfl rfl
  obtain ⟨fd_other_error, D_other_error⟩ : ∃ fd, FunD K "_law_other_error" "_law_other_error" (defArgs s_other_error) (defBody s_other_error) (defScope s_other_error) [] [] (He.ga K "_law_other_error") fd := c.d 0 8 (d := dA_other_error) rfl rfl
  obtain ⟨fd_plan, D_plan⟩ : ∃ fd, FunD K "_law_plan" "_law_plan" (defArgs s_plan) (defBody s_plan) (defScope s_plan) [] [] (He.ga K "_law_plan") fd := c.d 0 9 (d := dA_plan) rfl rfl
  obtain ⟨fd_row_of, D_row_of⟩ : ∃ fd, FunD K "_law_row_of" "_law_row_of" (defArgs s_row_of) (defBody s_row_of) (defScope s_row_of) [] [] (He.ga K "_law_row_of") fd := c.d 0 10 (d := dA_row_of) rfl rfl
  obtain ⟨fd_takes, D_takes⟩ : ∃ fd, FunD K "_law_takes" "_law_takes" (defArgs s_takes) (defBody s_takes) (defScope s_takes) [] [] (He.ga K "_law_takes") fd := c.d 0 11 (d := dA_takes) rfl rfl
  obtain ⟨fd_deeds, D_deeds⟩ : ∃ fd, FunD K "_law_deeds" "_law_deeds" (defArgs s_deeds) (defBody s_deeds) (defScope s_deeds) [] [] (He.ga K "_law_deeds") fd := c.d 0 12 (d := dA_deeds) rfl rfl
  obtain ⟨fd_call, D_call⟩ : ∃ fd, FunD K "_law_call" "_law_call" (defArgs s_call) (defBody s_call) (defScope s_call) [] [] (He.ga K "_law_call") fd := c.d 0 13 (d := dA_call) rfl rfl
  obtain ⟨fd_kind, D_kind⟩ : ∃ fd, FunD K "_law_kind" "_law_kind" (defArgs s_kind) (defBody s_kind) (defScope s_kind) [] [] (He.ga K "_law_kind") fd := c.d 0 14 (d := dA_kind) rfl rfl
  obtain ⟨fd_begin, D_begin⟩ : ∃ fd, FunD K "_law_begin" "_law_begin" (defArgs s_begin) (defBody s_begin) (defScope s_begin) [] [] (He.ga K "_law_begin") fd := c.d 0 15 (d := dA_begin) rfl rfl
  obtain ⟨fd_kept, D_kept⟩ : ∃ fd, FunD K "_law_kept" "_law_kept" (defArgs s_kept) (defBody s_kept) (defScope s_kept) [] [] (He.ga K "_law_kept") fd := c.d 0 16 (d := dA_kept) rfl rfl
  obtain ⟨fd_deed, D_deed⟩ : ∃ fd, FunD K "_law_deed" "_law_deed" (defArgs s_deed) (defBody s_deed) (defScope s_deed) [] [] (He.ga K "_law_deed") fd := c.d 0 17 (d := dA_deed) rfl rfl
  obtain ⟨fd_made_of, D_made_of⟩ : ∃ fd, FunD K "_law_made_of" "_law_made_of" (defArgs s_made_of) (defBody s_made_of) (defScope s_made_of) [] [] (He.ga K "_law_made_of") fd := c.d 0 18 (d := dA_made_of) rfl rfl
  obtain ⟨fd_told, D_told⟩ : ∃ fd, FunD K "_law_told" "_law_told" (defArgs s_told) (defBody s_told) (defScope s_told) [] [] (He.ga K "_law_told") fd := c.d 0 19 (d := dA_told) rfl rfl
  obtain ⟨fd_done, D_done⟩ : ∃ fd, FunD K "_law_done" "_law_done" (defArgs s_done) (defBody s_done) (defScope s_done) [] [] (He.ga K "_law_done") fd := c.d 1 0 (d := dA_done) rfl rfl
  obtain ⟨fd_ran, D_ran⟩ : ∃ fd, FunD K "_law_ran" "_law_ran" (defArgs s_ran) (defBody s_ran) (defScope s_ran) [] [] (He.ga K "_law_ran") fd := c.d 1 1 (d := dA_ran) rfl rfl
  obtain ⟨fd_all_told, D_all_told⟩ : ∃ fd, FunD K "_law_all_told" "_law_all_told" (defArgs s_all_told) (defBody s_all_told) (defScope s_all_told) [] [] (He.ga K "_law_all_told") fd := c.d 1 2 (d := dA_all_told) rfl rfl
  obtain ⟨fd_callable, D_callable⟩ : ∃ fd, FunD K "_law_callable" "_law_callable" (defArgs s_callable) (defBody s_callable) (defScope s_callable) [] [] (He.ga K "_law_callable") fd := c.d 1 3 (d := dA_callable) rfl rfl
  obtain ⟨fd_is_right, D_is_right⟩ : ∃ fd, FunD K "_law_is_right" "_law_is_right" (defArgs s_is_right) (defBody s_is_right) (defScope s_is_right) [] [] (He.ga K "_law_is_right") fd := c.d 1 4 (d := dA_is_right) rfl rfl
  obtain ⟨fd_is_word, D_is_word⟩ : ∃ fd, FunD K "is_word" "is_word" (defArgs s_is_word) (defBody s_is_word) (defScope s_is_word) [] [] (He.ga K "is_word") fd := c.d 1 5 (d := dA_is_word) rfl rfl
  obtain ⟨fd_is_integer, D_is_integer⟩ : ∃ fd, FunD K "is_integer" "is_integer" (defArgs s_is_integer) (defBody s_is_integer) (defScope s_is_integer) [] [] (He.ga K "is_integer") fd := c.d 1 6 (d := dA_is_integer) rfl rfl
  obtain ⟨fd_is_list, D_is_list⟩ : ∃ fd, FunD K "is_list" "is_list" (defArgs s_is_list) (defBody s_is_list) (defScope s_is_list) [] [] (He.ga K "is_list") fd := c.d 1 7 (d := dA_is_list) rfl rfl
  obtain ⟨fd_is_modes, D_is_modes⟩ : ∃ fd, FunD K "is_modes" "is_modes" (defArgs s_is_modes) (defBody s_is_modes) (defScope s_is_modes) [] [] (He.ga K "is_modes") fd := c.d 1 8 (d := dA_is_modes) rfl rfl
  obtain ⟨fd_is_field, D_is_field⟩ : ∃ fd, FunD K "is_field" "is_field" (defArgs s_is_field) (defBody s_is_field) (defScope s_is_field) [] [] (He.ga K "is_field") fd := c.d 1 9 (d := dA_is_field) rfl rfl
  obtain ⟨fd_kept_fields, D_kept_fields⟩ : ∃ fd, FunD K "kept_fields" "kept_fields" (defArgs s_kept_fields) (defBody s_kept_fields) (defScope s_kept_fields) [] [] (He.ga K "kept_fields") fd := c.d 1 10 (d := dA_kept_fields) rfl rfl
  obtain ⟨fd_is_many, D_is_many⟩ : ∃ fd, FunD K "is_many" "is_many" (defArgs s_is_many) (defBody s_is_many) (defScope s_is_many) [] [] (He.ga K "is_many") fd := c.d 1 11 (d := dA_is_many) rfl rfl
  obtain ⟨fd_is_deed, D_is_deed⟩ : ∃ fd, FunD K "is_deed" "is_deed" (defArgs s_is_deed) (defBody s_is_deed) (defScope s_is_deed) [] [] (He.ga K "is_deed") fd := c.d 1 12 (d := dA_is_deed) rfl rfl
  obtain ⟨fd_are_moves, D_are_moves⟩ : ∃ fd, FunD K "are_moves" "are_moves" (defArgs s_are_moves) (defBody s_are_moves) (defScope s_are_moves) [] [] (He.ga K "are_moves") fd := c.d 1 13 (d := dA_are_moves) rfl rfl
  obtain ⟨fd_has_call_form, D_has_call_form⟩ : ∃ fd, FunD K "has_call_form" "has_call_form" (defArgs s_has_call_form) (defBody s_has_call_form) (defScope s_has_call_form) [] [] (He.ga K "has_call_form") fd := c.d 1 14 (d := dA_has_call_form) rfl rfl
  obtain ⟨fd_are_deeds, D_are_deeds⟩ : ∃ fd, FunD K "are_deeds" "are_deeds" (defArgs s_are_deeds) (defBody s_are_deeds) (defScope s_are_deeds) [] [] (He.ga K "are_deeds") fd := c.d 1 15 (d := dA_are_deeds) rfl rfl
  obtain ⟨fd_is_same, D_is_same⟩ : ∃ fd, FunD K "is_same" "is_same" (defArgs s_is_same) (defBody s_is_same) (defScope s_is_same) [] [] (He.ga K "is_same") fd := c.d 1 16 (d := dA_is_same) rfl rfl
  obtain ⟨fd_kept_call, D_kept_call⟩ : ∃ fd, FunD K "kept_call" "kept_call" (defArgs s_kept_call) (defBody s_kept_call) (defScope s_kept_call) [] [] (He.ga K "kept_call") fd := c.d 1 17 (d := dA_kept_call) rfl rfl
  obtain ⟨fd_wrong_part, D_wrong_part⟩ : ∃ fd, FunD K "wrong_part" "wrong_part" (defArgs s_wrong_part) (defBody s_wrong_part) (defScope s_wrong_part) [] [] (He.ga K "wrong_part") fd := c.d 1 18 (d := dA_wrong_part) rfl rfl
  obtain ⟨fd_kept_calls, D_kept_calls⟩ : ∃ fd, FunD K "kept_calls" "kept_calls" (defArgs s_kept_calls) (defBody s_kept_calls) (defScope s_kept_calls) [] [] (He.ga K "kept_calls") fd := c.d 1 19 (d := dA_kept_calls) rfl rfl
  obtain ⟨fd_kept_program, D_kept_program⟩ : ∃ fd, FunD K "kept_program" "kept_program" (defArgs s_kept_program) (defBody s_kept_program) (defScope s_kept_program) [] [] (He.ga K "kept_program") fd := c.d 2 0 (d := dA_kept_program) rfl rfl
  obtain ⟨fd_is_row, D_is_row⟩ : ∃ fd, FunD K "is_row" "is_row" (defArgs s_is_row) (defBody s_is_row) (defScope s_is_row) [] [] (He.ga K "is_row") fd := c.d 2 1 (d := dA_is_row) rfl rfl
  obtain ⟨fd_is_last, D_is_last⟩ : ∃ fd, FunD K "is_last" "is_last" (defArgs s_is_last) (defBody s_is_last) (defScope s_is_last) [] [] (He.ga K "is_last") fd := c.d 2 2 (d := dA_is_last) rfl rfl
  obtain ⟨fd_law, D_law⟩ : ∃ fd, FunD K "law" "law" (defArgs s_law) (defBody s_law) (defScope s_law) [] [] (He.ga K "law") fd := c.d 2 3 (d := dA_law) rfl rfl
  obtain ⟨fd_kinit, D_kinit⟩ : ∃ fd, FunD K "__init__" "Kind.__init__" (defArgs s_Kind_init) (defBody s_Kind_init) (defScope s_Kind_init) [] [] (He.ma K (He.ga K "Kind") "__init__") fd := c.d 2 4 (d := dA_kinit) rfl rfl
  obtain ⟨fd_khas, D_khas⟩ : ∃ fd, FunD K "__contains__" "Kind.__contains__" (defArgs s_Kind_contains) (defBody s_Kind_contains) (defScope s_Kind_contains) [] [] (He.ma K (He.ga K "Kind") "__contains__") fd := c.d 2 5 (d := dA_khas) rfl rfl
  obtain ⟨fd_keq, D_keq⟩ : ∃ fd, FunD K "__eq__" "Kind.__eq__" (defArgs s_Kind_eq) (defBody s_Kind_eq) (defScope s_Kind_eq) [] [] (He.ma K (He.ga K "Kind") "__eq__") fd := c.d 2 6 (d := dA_keq) rfl rfl
  obtain ⟨fd_ktakes, D_ktakes⟩ : ∃ fd, FunD K "takes" "Kind.takes" (defArgs s_Kind_takes) (defBody s_Kind_takes) (defScope s_Kind_takes) [] [] (He.ma K (He.ga K "Kind") "takes") fd := c.d 2 7 (d := dA_ktakes) rfl rfl
  obtain ⟨fd_hinit, D_hinit⟩ : ∃ fd, FunD K "__init__" "Handed.__init__" (defArgs s_Handed_init) (defBody s_Handed_init) (defScope s_Handed_init) [] [] (He.ma K (He.ga K "Handed") "__init__") fd := c.d 2 8 (d := dA_hinit) rfl rfl
  obtain ⟨fd_binit, D_binit⟩ : ∃ fd, FunD K "__init__" "Bench.__init__" (defArgs s_Bench_init) (defBody s_Bench_init) (defScope s_Bench_init) [.bl false] [] (He.ma K (He.ga K "Bench") "__init__") fd := c.d 2 9 (d := dA_binit) rfl rfl
  obtain ⟨fd_rinit, D_rinit⟩ : ∃ fd, FunD K "__init__" "Run.__init__" (defArgs s_Run_init) (defBody s_Run_init) (defScope s_Run_init) [.ref (He.dflAt ("Run", some "__init__") 0 K)] [] (He.ma K (He.ga K "Run") "__init__") fd := c.d 2 10 (d := dA_rinit) rfl rfl
  obtain ⟨fd_b_put_list, D_b_put_list⟩ : ∃ fd, FunD K "put_list" "Bench.put_list" (defArgs s_Bench_put_list) (defBody s_Bench_put_list) (defScope s_Bench_put_list) [] [] (He.ma K (He.ga K "Bench") "put_list") fd := c.d 2 11 (d := dA_b_put_list) rfl rfl
  obtain ⟨fd_b_copied, D_b_copied⟩ : ∃ fd, FunD K "copied" "Bench.copied" (defArgs s_Bench_copied) (defBody s_Bench_copied) (defScope s_Bench_copied) [] [] (He.ma K (He.ga K "Bench") "copied") fd := c.d 2 12 (d := dA_b_copied) rfl rfl
  obtain ⟨fd_b_blank_maker, D_b_blank_maker⟩ : ∃ fd, FunD K "blank_maker" "Bench.blank_maker" (defArgs s_Bench_blank_maker) (defBody s_Bench_blank_maker) (defScope s_Bench_blank_maker) [] [] (He.ma K (He.ga K "Bench") "blank_maker") fd := c.d 2 13 (d := dA_b_blank_maker) rfl rfl
  obtain ⟨fd_b_do_list_deed, D_b_do_list_deed⟩ : ∃ fd, FunD K "do_list_deed" "Bench.do_list_deed" (defArgs s_Bench_do_list_deed) (defBody s_Bench_do_list_deed) (defScope s_Bench_do_list_deed) [] [] (He.ma K (He.ga K "Bench") "do_list_deed") fd := c.d 2 14 (d := dA_b_do_list_deed) rfl rfl
  obtain ⟨fd_b_do_deeds, D_b_do_deeds⟩ : ∃ fd, FunD K "do_deeds" "Bench.do_deeds" (defArgs s_Bench_do_deeds) (defBody s_Bench_do_deeds) (defScope s_Bench_do_deeds) [] [] (He.ma K (He.ga K "Bench") "do_deeds") fd := c.d 2 15 (d := dA_b_do_deeds) rfl rfl
  obtain ⟨fd_b_contents, D_b_contents⟩ : ∃ fd, FunD K "contents" "Bench.contents" (defArgs s_Bench_contents) (defBody s_Bench_contents) (defScope s_Bench_contents) [] [] (He.ma K (He.ga K "Bench") "contents") fd := c.d 2 16 (d := dA_b_contents) rfl rfl
  obtain ⟨fd_b_hand_over, D_b_hand_over⟩ : ∃ fd, FunD K "hand_over" "Bench.hand_over" (defArgs s_Bench_hand_over) (defBody s_Bench_hand_over) (defScope s_Bench_hand_over) [] [] (He.ma K (He.ga K "Bench") "hand_over") fd := c.d 2 17 (d := dA_b_hand_over) rfl rfl
  obtain ⟨fd_b_next_mode, D_b_next_mode⟩ : ∃ fd, FunD K "next_mode" "Bench.next_mode" (defArgs s_Bench_next_mode) (defBody s_Bench_next_mode) (defScope s_Bench_next_mode) [] [] (He.ma K (He.ga K "Bench") "next_mode") fd := c.d 2 18 (d := dA_b_next_mode) rfl rfl
  obtain ⟨fd_b_do_call, D_b_do_call⟩ : ∃ fd, FunD K "do_call" "Bench.do_call" (defArgs s_Bench_do_call) (defBody s_Bench_do_call) (defScope s_Bench_do_call) [] [] (He.ma K (He.ga K "Bench") "do_call") fd := c.d 2 19 (d := dA_b_do_call) rfl rfl
  obtain ⟨fd_b_do_row, D_b_do_row⟩ : ∃ fd, FunD K "do_row" "Bench.do_row" (defArgs s_Bench_do_row) (defBody s_Bench_do_row) (defScope s_Bench_do_row) [] [] (He.ma K (He.ga K "Bench") "do_row") fd := c.d 3 0 (d := dA_b_do_row) rfl rfl
  obtain ⟨fd_b_told, D_b_told⟩ : ∃ fd, FunD K "told" "Bench.told" (defArgs s_Bench_told) (defBody s_Bench_told) (defScope s_Bench_told) [] [] (He.ma K (He.ga K "Bench") "told") fd := c.d 3 1 (d := dA_b_told) rfl rfl
  obtain ⟨fd_b_told_all, D_b_told_all⟩ : ∃ fd, FunD K "told_all" "Bench.told_all" (defArgs s_Bench_told_all) (defBody s_Bench_told_all) (defScope s_Bench_told_all) [] [] (He.ma K (He.ga K "Bench") "told_all") fd := c.d 3 2 (d := dA_b_told_all) rfl rfl
  obtain ⟨fd_r_eq, D_r_eq⟩ : ∃ fd, FunD K "__eq__" "Run.__eq__" (defArgs s_Run_eq) (defBody s_Run_eq) (defScope s_Run_eq) [] [] (He.ma K (He.ga K "Run") "__eq__") fd := c.d 3 3 (d := dA_r_eq) rfl rfl
  obtain ⟨fd_y_init, D_y_init⟩ : ∃ fd, FunD K "__init__" "Yard.__init__" (defArgs s_Yard_init) (defBody s_Yard_init) (defScope s_Yard_init) [] [] (He.ma K (He.ga K "Yard") "__init__") fd := c.d 3 4 (d := dA_y_init) rfl rfl
  obtain ⟨fd_y_make, D_y_make⟩ : ∃ fd, FunD K "make" "Yard.make" (defArgs s_Yard_make) (defBody s_Yard_make) (defScope s_Yard_make) [] [] (He.ma K (He.ga K "Yard") "make") fd := c.d 3 5 (d := dA_y_make) rfl rfl
  obtain ⟨fd_y_undo, D_y_undo⟩ : ∃ fd, FunD K "undo" "Yard.undo" (defArgs s_Yard_undo) (defBody s_Yard_undo) (defScope s_Yard_undo) [] [] (He.ma K (He.ga K "Yard") "undo") fd := c.d 3 6 (d := dA_y_undo) rfl rfl
  obtain ⟨fd_y_run, D_y_run⟩ : ∃ fd, FunD K "run" "Yard.run" (defArgs s_Yard_run) (defBody s_Yard_run) (defScope s_Yard_run) [] [] (He.ma K (He.ga K "Yard") "run") fd := c.d 3 7 (d := dA_y_run) rfl rfl
  obtain ⟨fd_y_put_row, D_y_put_row⟩ : ∃ fd, FunD K "put_row" "Yard.put_row" (defArgs s_Yard_put_row) (defBody s_Yard_put_row) (defScope s_Yard_put_row) [] [] (He.ma K (He.ga K "Yard") "put_row") fd := c.d 3 8 (d := dA_y_put_row) rfl rfl
  obtain ⟨fd_t_init, D_t_init⟩ : ∃ fd, FunD K "__init__" "Thing.__init__" (defArgs s_Thing_init) (defBody s_Thing_init) (defScope s_Thing_init) [] [] (He.ma K (He.ga K "Thing") "__init__") fd := c.d 3 9 (d := dA_t_init) rfl rfl
  obtain ⟨fd_t_look, D_t_look⟩ : ∃ fd, FunD K "look" "Thing.look" (defArgs s_Thing_look) (defBody s_Thing_look) (defScope s_Thing_look) [] [] (He.ma K (He.ga K "Thing") "look") fd := c.d 3 10 (d := dA_t_look) rfl rfl
  obtain ⟨fd_t_call, D_t_call⟩ : ∃ fd, FunD K "call" "Thing.call" (defArgs s_Thing_call) (defBody s_Thing_call) (defScope s_Thing_call) [.non] [] (He.ma K (He.ga K "Thing") "call") fd := c.d 3 11 (d := dA_t_call) rfl rfl
  obtain ⟨tk_MOST_LETTERS, x_v_MOST_LETTERS⟩ := intB_ok (c.f 10 11 rfl rfl)
  obtain ⟨tk_MOST_FIELDS, x_v_MOST_FIELDS⟩ := intB_ok (c.f 10 12 rfl rfl)
  obtain ⟨tk_MOST_MODES, x_v_MOST_MODES⟩ := intB_ok (c.f 10 13 rfl rfl)
  obtain ⟨tk_MOST_CALLS, x_v_MOST_CALLS⟩ := intB_ok (c.f 10 14 rfl rfl)
  obtain ⟨tk_MOST_DEEDS, x_v_MOST_DEEDS⟩ := intB_ok (c.f 10 15 rfl rfl)
  exact all_mk X G hfa
    (of_decide_eq_true (c.f 0 0 rfl rfl))
    D_fresh
    (of_decide_eq_true (c.f 0 1 rfl rfl))
    D_fill
    (of_decide_eq_true (c.f 0 2 rfl rfl))
    D_take
    (of_decide_eq_true (c.f 0 3 rfl rfl))
    D_one
    (of_decide_eq_true (c.f 0 4 rfl rfl))
    D_mix
    (of_decide_eq_true (c.f 0 5 rfl rfl))
    D_same
    (of_decide_eq_true (c.f 0 6 rfl rfl))
    D_tried
    (of_decide_eq_true (c.f 0 7 rfl rfl))
    D_error
    (of_decide_eq_true (c.f 0 8 rfl rfl))
    D_other_error
    (of_decide_eq_true (c.f 0 9 rfl rfl))
    D_plan
    (of_decide_eq_true (c.f 0 10 rfl rfl))
    D_row_of
    (of_decide_eq_true (c.f 0 11 rfl rfl))
    D_takes
    (of_decide_eq_true (c.f 0 12 rfl rfl))
    D_deeds
    (of_decide_eq_true (c.f 0 13 rfl rfl))
    D_call
    (of_decide_eq_true (c.f 0 14 rfl rfl))
    D_kind
    (of_decide_eq_true (c.f 0 15 rfl rfl))
    D_begin
    (of_decide_eq_true (c.f 0 16 rfl rfl))
    D_kept
    (of_decide_eq_true (c.f 0 17 rfl rfl))
    D_deed
    (of_decide_eq_true (c.f 0 18 rfl rfl))
    D_made_of
    (of_decide_eq_true (c.f 0 19 rfl rfl))
    D_told
    (of_decide_eq_true (c.f 1 0 rfl rfl))
    D_done
    (of_decide_eq_true (c.f 1 1 rfl rfl))
    D_ran
    (of_decide_eq_true (c.f 1 2 rfl rfl))
    D_all_told
    (of_decide_eq_true (c.f 1 3 rfl rfl))
    D_callable
    (of_decide_eq_true (c.f 1 4 rfl rfl))
    D_is_right
    (of_decide_eq_true (c.f 1 5 rfl rfl))
    D_is_word
    (of_decide_eq_true (c.f 1 6 rfl rfl))
    D_is_integer
    (of_decide_eq_true (c.f 1 7 rfl rfl))
    D_is_list
    (of_decide_eq_true (c.f 1 8 rfl rfl))
    D_is_modes
    (of_decide_eq_true (c.f 1 9 rfl rfl))
    D_is_field
    (of_decide_eq_true (c.f 1 10 rfl rfl))
    D_kept_fields
    (of_decide_eq_true (c.f 1 11 rfl rfl))
    D_is_many
    (of_decide_eq_true (c.f 1 12 rfl rfl))
    D_is_deed
    (of_decide_eq_true (c.f 1 13 rfl rfl))
    D_are_moves
    (of_decide_eq_true (c.f 1 14 rfl rfl))
    D_has_call_form
    (of_decide_eq_true (c.f 1 15 rfl rfl))
    D_are_deeds
    (of_decide_eq_true (c.f 1 16 rfl rfl))
    D_is_same
    (of_decide_eq_true (c.f 1 17 rfl rfl))
    D_kept_call
    (of_decide_eq_true (c.f 1 18 rfl rfl))
    D_wrong_part
    (of_decide_eq_true (c.f 1 19 rfl rfl))
    D_kept_calls
    (of_decide_eq_true (c.f 2 0 rfl rfl))
    D_kept_program
    (of_decide_eq_true (c.f 2 1 rfl rfl))
    D_is_row
    (of_decide_eq_true (c.f 2 2 rfl rfl))
    D_is_last
    (of_decide_eq_true (c.f 2 3 rfl rfl))
    D_law
    (c.f 2 4 rfl rfl)
    (of_decide_eq_true (c.f 2 5 rfl rfl))
    (of_decide_eq_true (c.f 2 6 rfl rfl))
    (of_decide_eq_true (c.f 2 7 rfl rfl))
    (of_decide_eq_true (c.f 2 8 rfl rfl))
    (of_decide_eq_true (c.f 2 9 rfl rfl))
    (of_decide_eq_true (c.f 2 10 rfl rfl))
    (of_decide_eq_true (c.f 2 11 rfl rfl))
    (of_decide_eq_true (c.f 2 12 rfl rfl))
    (of_decide_eq_true (c.f 2 13 rfl rfl))
    (of_decide_eq_true (c.f 2 14 rfl rfl))
    (of_decide_eq_true (c.f 2 15 rfl rfl))
    (of_decide_eq_true (c.f 2 16 rfl rfl))
    (of_decide_eq_true (c.f 2 17 rfl rfl))
    (of_decide_eq_true (c.f 2 18 rfl rfl))
    (of_decide_eq_true (c.f 2 19 rfl rfl))
    (of_decide_eq_true (c.f 3 0 rfl rfl))
    (of_decide_eq_true (c.f 3 1 rfl rfl))
    (of_decide_eq_true (c.f 3 2 rfl rfl))
    (of_decide_eq_true (c.f 3 3 rfl rfl))
    (of_decide_eq_true (c.f 3 4 rfl rfl))
    (of_decide_eq_true (c.f 3 5 rfl rfl))
    (of_decide_eq_true (c.f 3 6 rfl rfl))
    (of_decide_eq_true (c.f 3 7 rfl rfl))
    D_kinit
    (c.f 3 8 rfl rfl)
    (of_decide_eq_true (c.f 3 9 rfl rfl))
    D_khas
    (c.f 3 10 rfl rfl)
    (of_decide_eq_true (c.f 3 11 rfl rfl))
    D_keq
    (c.f 3 12 rfl rfl)
    (of_decide_eq_true (c.f 3 13 rfl rfl))
    D_ktakes
    (c.f 3 14 rfl rfl)
    (of_decide_eq_true (c.f 3 15 rfl rfl))
    D_hinit
    (c.f 3 16 rfl rfl)
    (of_decide_eq_true (c.f 3 17 rfl rfl))
    D_binit
    (c.f 3 18 rfl rfl)
    (of_decide_eq_true (c.f 3 19 rfl rfl))
    D_rinit
    (c.f 4 0 rfl rfl)
    (of_decide_eq_true (c.f 4 1 rfl rfl))
    D_b_put_list
    (c.f 4 2 rfl rfl)
    (of_decide_eq_true (c.f 4 3 rfl rfl))
    D_b_copied
    (c.f 4 4 rfl rfl)
    (of_decide_eq_true (c.f 4 5 rfl rfl))
    D_b_blank_maker
    (c.f 4 6 rfl rfl)
    (of_decide_eq_true (c.f 4 7 rfl rfl))
    D_b_do_list_deed
    (c.f 4 8 rfl rfl)
    (of_decide_eq_true (c.f 4 9 rfl rfl))
    D_b_do_deeds
    (c.f 4 10 rfl rfl)
    (of_decide_eq_true (c.f 4 11 rfl rfl))
    D_b_contents
    (c.f 4 12 rfl rfl)
    (of_decide_eq_true (c.f 4 13 rfl rfl))
    D_b_hand_over
    (c.f 4 14 rfl rfl)
    (of_decide_eq_true (c.f 4 15 rfl rfl))
    D_b_next_mode
    (c.f 4 16 rfl rfl)
    (of_decide_eq_true (c.f 4 17 rfl rfl))
    D_b_do_call
    (c.f 4 18 rfl rfl)
    (of_decide_eq_true (c.f 4 19 rfl rfl))
    D_b_do_row
    (c.f 5 0 rfl rfl)
    (of_decide_eq_true (c.f 5 1 rfl rfl))
    D_b_told
    (c.f 5 2 rfl rfl)
    (of_decide_eq_true (c.f 5 3 rfl rfl))
    D_b_told_all
    (c.f 5 4 rfl rfl)
    (of_decide_eq_true (c.f 5 5 rfl rfl))
    D_r_eq
    (c.f 5 6 rfl rfl)
    (of_decide_eq_true (c.f 5 7 rfl rfl))
    D_y_init
    (c.f 5 8 rfl rfl)
    (of_decide_eq_true (c.f 5 9 rfl rfl))
    D_y_make
    (c.f 5 10 rfl rfl)
    (of_decide_eq_true (c.f 5 11 rfl rfl))
    D_y_undo
    (c.f 5 12 rfl rfl)
    (of_decide_eq_true (c.f 5 13 rfl rfl))
    D_y_run
    (c.f 5 14 rfl rfl)
    (of_decide_eq_true (c.f 5 15 rfl rfl))
    D_y_put_row
    (c.f 5 16 rfl rfl)
    (of_decide_eq_true (c.f 5 17 rfl rfl))
    D_t_init
    (c.f 5 18 rfl rfl)
    (of_decide_eq_true (c.f 5 19 rfl rfl))
    D_t_look
    (c.f 6 0 rfl rfl)
    (of_decide_eq_true (c.f 6 1 rfl rfl))
    D_t_call
    (c.f 6 2 rfl rfl)
    (c.f 6 3 rfl rfl)
    (c.f 6 4 rfl rfl)
    (of_decide_eq_true (c.f 6 5 rfl rfl))
    (of_decide_eq_true (c.f 6 6 rfl rfl))
    (c.f 6 7 rfl rfl)
    (c.f 6 8 rfl rfl)
    (c.f 6 9 rfl rfl)
    (c.f 6 10 rfl rfl)
    (c.f 6 11 rfl rfl)
    (c.f 6 12 rfl rfl)
    (of_decide_eq_true (c.f 6 13 rfl rfl))
    (of_decide_eq_true (c.f 6 14 rfl rfl))
    (of_decide_eq_true (c.f 6 15 rfl rfl))
    (of_decide_eq_true (c.f 6 16 rfl rfl))
    (of_decide_eq_true (c.f 6 17 rfl rfl))
    (of_decide_eq_true (c.f 6 18 rfl rfl))
    (of_decide_eq_true (c.f 6 19 rfl rfl))
    (c.f 7 0 rfl rfl)
    (c.f 7 1 rfl rfl)
    (c.f 7 2 rfl rfl)
    (c.f 7 3 rfl rfl)
    (c.f 7 4 rfl rfl)
    (of_decide_eq_true (c.f 7 5 rfl rfl))
    (of_decide_eq_true (c.f 7 6 rfl rfl))
    (of_decide_eq_true (c.f 7 7 rfl rfl))
    (of_decide_eq_true (c.f 7 8 rfl rfl))
    (of_decide_eq_true (c.f 7 9 rfl rfl))
    (of_decide_eq_true (c.f 7 10 rfl rfl))
    (c.f 7 11 rfl rfl)
    (c.f 7 12 rfl rfl)
    (c.f 7 13 rfl rfl)
    (c.f 7 14 rfl rfl)
    (c.f 7 15 rfl rfl)
    (of_decide_eq_true (c.f 7 16 rfl rfl))
    (of_decide_eq_true (c.f 7 17 rfl rfl))
    (of_decide_eq_true (c.f 7 18 rfl rfl))
    (c.f 7 19 rfl rfl)
    (c.f 8 0 rfl rfl)
    (c.f 8 1 rfl rfl)
    (c.f 8 2 rfl rfl)
    (c.f 8 3 rfl rfl)
    (of_decide_eq_true (c.f 8 4 rfl rfl))
    (of_decide_eq_true (c.f 8 5 rfl rfl))
    (of_decide_eq_true (c.f 8 6 rfl rfl))
    (of_decide_eq_true (c.f 8 7 rfl rfl))
    (of_decide_eq_true (c.f 8 8 rfl rfl))
    (c.f 8 9 rfl rfl)
    (c.f 8 10 rfl rfl)
    (c.f 8 11 rfl rfl)
    (c.f 8 12 rfl rfl)
    (c.f 8 13 rfl rfl)
    (of_decide_eq_true (c.f 8 14 rfl rfl))
    (of_decide_eq_true (c.f 8 15 rfl rfl))
    (of_decide_eq_true (c.f 8 16 rfl rfl))
    (of_decide_eq_true (c.f 8 17 rfl rfl))
    (c.f 8 18 rfl rfl)
    (c.f 8 19 rfl rfl)
    (c.f 9 0 rfl rfl)
    (c.f 9 1 rfl rfl)
    (c.f 9 2 rfl rfl)
    (of_decide_eq_true (c.f 9 3 rfl rfl))
    (of_decide_eq_true (c.f 9 4 rfl rfl))
    (of_decide_eq_true (c.f 9 5 rfl rfl))
    (of_decide_eq_true (c.f 9 6 rfl rfl))
    (of_decide_eq_true (c.f 9 7 rfl rfl))
    (of_decide_eq_true (c.f 9 8 rfl rfl))
    (of_decide_eq_true (c.f 9 9 rfl rfl))
    (of_decide_eq_true (c.f 9 10 rfl rfl))
    (of_decide_eq_true (c.f 9 11 rfl rfl))
    (of_decide_eq_true (c.f 9 12 rfl rfl))
    (of_decide_eq_true (c.f 9 13 rfl rfl))
    (of_decide_eq_true (c.f 9 14 rfl rfl))
    (of_decide_eq_true (c.f 9 15 rfl rfl))
    (of_decide_eq_true (c.f 9 16 rfl rfl))
    (of_decide_eq_true (c.f 9 17 rfl rfl))
    (of_decide_eq_true (c.f 9 18 rfl rfl))
    (of_decide_eq_true (c.f 9 19 rfl rfl))
    (of_decide_eq_true (c.f 10 0 rfl rfl))
    (of_decide_eq_true (c.f 10 1 rfl rfl))
    (of_decide_eq_true (c.f 10 2 rfl rfl))
    (of_decide_eq_true (c.f 10 3 rfl rfl))
    (of_decide_eq_true (c.f 10 4 rfl rfl))
    (of_decide_eq_true (c.f 10 5 rfl rfl))
    (of_decide_eq_true (c.f 10 6 rfl rfl))
    (of_decide_eq_true (c.f 10 7 rfl rfl))
    (of_decide_eq_true (c.f 10 8 rfl rfl))
    (of_decide_eq_true (c.f 10 9 rfl rfl))
    (of_decide_eq_true (c.f 10 10 rfl rfl))
    x_v_MOST_LETTERS
    x_v_MOST_FIELDS
    x_v_MOST_MODES
    x_v_MOST_CALLS
    x_v_MOST_DEEDS
    (of_decide_eq_true (c.f 10 16 rfl rfl))
    (c.f 10 17 rfl rfl)
    (of_decide_eq_true (c.f 10 18 rfl rfl))
    (c.f 10 19 rfl rfl)
    (of_decide_eq_true (c.f 11 0 rfl rfl))
    (c.f 11 1 rfl rfl)
    (of_decide_eq_true (c.f 11 2 rfl rfl))
    (c.f 11 3 rfl rfl)
    (c.f 11 4 rfl rfl)
    (of_decide_eq_true (c.f 11 5 rfl rfl))
    (of_decide_eq_true (c.f 11 6 rfl rfl))
    (c.f 11 7 rfl rfl)
    (of_decide_eq_true (c.f 11 8 rfl rfl))
    (c.f 11 9 rfl rfl)
    (of_decide_eq_true (c.f 11 10 rfl rfl))
    (c.f 11 11 rfl rfl)
    (of_decide_eq_true (c.f 11 12 rfl rfl))
    (c.f 11 13 rfl rfl)
    (of_decide_eq_true (c.f 11 14 rfl rfl))
    (c.f 11 15 rfl rfl)
    (c.t 0 rfl)
    (of_decide_eq_true (c.f 11 16 rfl rfl))
    (of_decide_eq_true (c.f 11 17 rfl rfl))
    (of_decide_eq_true (c.f 11 18 rfl rfl))
    (of_decide_eq_true (c.f 11 19 rfl rfl))
    (of_decide_eq_true (c.f 12 0 rfl rfl))
    (of_decide_eq_true (c.f 12 1 rfl rfl))
    (of_decide_eq_true (c.f 12 2 rfl rfl))
    (of_decide_eq_true (c.f 12 3 rfl rfl))
    (of_decide_eq_true (c.f 12 4 rfl rfl))
    (of_decide_eq_true (c.f 12 5 rfl rfl))
    (of_decide_eq_true (c.f 12 6 rfl rfl))
    (of_decide_eq_true (c.f 12 7 rfl rfl))
    (of_decide_eq_true (c.f 12 8 rfl rfl))
    (of_decide_eq_true (c.f 12 9 rfl rfl))
    (of_decide_eq_true (c.f 12 10 rfl rfl))
def nm0 : List Str := ["_wall", "__name__", "Handed", "Bench", "MakerError", "BadField", "BadModes", "BadCall", "UnknownCall", "BadPlace", "BadText", "BadRow", "BadWord", "Refused", "BadThing", "BadWish"]
def nm1 : List Str := ["BadRun", "BadCallers", "BadKind", "BadRule", "MOST_LETTERS", "is_word", "is_integer", "is_list", "MOST_FIELDS", "MOST_MODES", "MOST_CALLS", "MOST_DEEDS", "SORTS", "HANDS", "SORTS_OF_DEEDS", "WORD_DEEDS"]
def nm2 : List Str := ["LIST_WORD_DEEDS", "kept_fields", "is_field", "is_modes", "kept_calls", "wrong_part", "has_call_form", "are_moves", "are_deeds", "is_deed", "is_same", "is_many", "kept_call", "told_call", "without", "kept_program"]
def nm3 : List Str := ["is_row", "is_last", "Run", "Yard", "Thing", "written", "call_lines", "Kind", "_law_fresh", "_law_fill", "_law_take", "_law_one", "_law_mix", "_law_same", "_law_tried", "_law_error"]
def nm4 : List Str := ["_law_other_error", "_law_plan", "_law_row_of", "_law_takes", "_law_deeds", "_law_call", "_law_kind", "_law_begin", "_law_kept", "_law_deed", "_law_made_of", "_law_told", "_law_done", "_law_ran", "_law_all_told", "_law_callable"]
def nm5 : List Str := ["_law_is_right"]
def names : List Str := nm0 ++ nm1 ++ nm2 ++ nm3 ++ nm4 ++ nm5
abbrev R : PySem.W.OpenRow := PySem.W.OpenLaw.row PySem.Challenge.rw_makerlines_k13_yards_live
abbrev hk : PySem.W.Hook := hookM 6 fsAll dsAll tsAll
def ob (s : PySem.W.SharedT) : AlM := obsMG 6 fsAll dsAll tsAll (HandSHeadRun.getT s)
theorem ob_eq (s : PySem.W.SharedT) : ob s = hk.obs s.abs := obsMG_eq (HandSHeadRun.getT_eq s)
theorem runF (w : World) : HandSHeadRun.RunEq R (PySem.W.view R.prog [89]) hk ob 15000 names (w.withFollow "special-get-raises" false) := by
  intro os
  kernel_rfl
theorem runT (w : World) : HandSHeadRun.RunEq R (PySem.W.view R.prog [89]) hk ob 15000 names (w.withFollow "special-get-raises" true) := by
  intro os
  kernel_rfl
theorem run (w : World) : HandSHeadRun.RunEq R (PySem.W.view R.prog [89]) hk ob 15000 names w := PySem.W.byRow2 "special-get-raises" (P := fun w => HandSHeadRun.RunEq R (PySem.W.view R.prog [89]) hk ob 15000 names w) runF runT w
end MK
open PySem PySem.W PySem.Calls PyProof.Rows in
set_option maxRecDepth 100000 in
set_option maxHeartbeats 0 in
theorem PySem.Challenge.cw_makerlines_k13_yards_live_holds : PySem.Challenge.rw_makerlines_k13_yards_live.Holds := by
  w_on; o_law
  refine HandSHeadRun.head_any (r := OpenLaw.row PySem.Challenge.rw_makerlines_k13_yards_live) (q := view (OpenLaw.row PySem.Challenge.rw_makerlines_k13_yards_live).prog [89]) (H := MK.hk) (ob := MK.ob) (M := 15000) (loose := MK.names) (d := HandSHeadRun.topDef (OpenLaw.row PySem.Challenge.rw_makerlines_k13_yards_live).prog 89) (kwd := []) MK.ob_eq
    (by kernel_rfl) (fun s => by kernel_rfl) MK.run (by kernel_rfl) (by kernel_rfl) (by kernel_rfl) (by rfl) (by first | assumption | decide +kernel) (by decide +kernel) ⟨rfl, rfl, rfl, rfl, rfl, by decide +kernel⟩ ?hw ?hc
  case hw => w_witness2
  case hc =>
    refine MK.walk_tabE (l := PySem.Challenge.rw_makerlines_k13_yards_live) (k := 13) (x := "_law_script") (by rfl) (by kernel_rfl) ⟨rfl, by decide, by decide⟩ (by kernel_rfl) (by kernel_rfl) ?F
    intro w mg fa h Y G hmg
    obtain ⟨K, KX, c⟩ := Y
    exact ⟨K, KX, MK.facts KX G hmg c⟩
#print axioms PySem.Challenge.cw_makerlines_k13_yards_live_holds
