import PyProof.Rows.All
import Wide.All
import OpenK.AllK
import Wide.FinOn
import HandS.Base
import HandS.Call
import HandS.List
import HandS.Iter
import KE.GoesEnum
import HandS.Exc
import HandS.ExcInit
import HandS.ExcIs
import HandS.IsInst
import HandS.ForMost
import HandS.ExcValue
import KE.KExcIs
import HandS.Defaults
import HandS.TupLe
import HandS.Zip
import HandS.Walk
import HandS.More
import HandS.NoneIn
import HandS.Conv
import HandS.Strs
import HandS.DictComp
import OpenK.KMeth
import HandS.OwnEq
import PyProof.InstNe
import PyProof.EqKinds
import HandS.HotCalls
import HandS.ExcField
import HandS.Lambda
import HandS.HeadHook3
import HandS.EndTab
import HandS.EndOwn
import HandS.MakeKwOnly
import HandS.IterNext
import HandS.OwnIter
import HandS.IterVal
import HandS.WordsExc
import HandS.Text
import HandS.Dict
import HandS.Small
import HandS.ClsMeth
import HandS.Star
import HandS.FStr
import HandS.SortKw
import KE.GoesEnumKw
import HandS.Comp
import HandS.Deep
import KE.GoesZip
import KE.GoesMore
import HandS.TupAny
import PyProof.Rows.TupIter
import HandS.HeadNt
import HandS.Codes
import HandS.Head2
import HandS.HeadWalk
import HandS.HeadEnd
import KE.KDictKeyed
import KE.KeyNested
import KE.KDictCopyH
import HandS.SetKeys
import PyProof.CompUse
import PyProof.NeKinds
import PyProof.DictTruth
import HandS.Flow
import PySem.Challenge.RW_makerlines_k32_rules_refused
set_option Elab.async false
set_option linter.all false
set_option maxRecDepth 100000
set_option maxHeartbeats 4000000
namespace MK
open PySem PySem.Spec PyProof.Rows L2
/-- the tuple at a as it stands at each turn, each item in a new pair -/
def IteT (K : PySem.W.Frag) (a : Addr) : It :=
  ⟨fun i H => ∃ (xs : List V) (x : V), SqT K H a xs ∧ xs[i]? = some x, fun i H v H' => ∃ T x, v = .ref T ∧ H T = none ∧ H' = upd H T (.tup [.int (i : Nat), x]) ∧ ∀ xs, SqT K H a xs → xs[i]? = some x, fun i H => ∃ xs : List V, SqT K H a xs ∧ xs.length ≤ i⟩
theorem turn_enumT {P : Program} {w : World} {K : PySem.W.Frag} {elts : List Expr} {kk : Nat} {tpos : Pos} (a e it : Addr) :
    Turn P w K (.Tuple elts kk tpos) (IteT K a) [e, it] e (fun i h => (∃ old, IsEnum h e it ((i : Nat) : Int) old) ∧ h.IsTupleIter it a i ∧ e ≠ it ∧ a ≠ it ∧ a ≠ e) where
  mem := by simp
  obj := fun i h st b hb => by
    obtain ⟨⟨old, he⟩, ⟨o, ho, hc, hd⟩, _⟩ := st
    have e' : b = e ∨ b = it := by simpa using hb
    rcases e' with z | z
    · rw [z]; exact ⟨_, he, fun v q => nomatch q⟩
    · rw [z]; exact ⟨o, ho, fun v q => by rw [hd] at q; cases q⟩
  keep := fun i h h' st k => let ⟨⟨old, he⟩, hi, hne⟩ := st; ⟨⟨old, k e (by simp) _ he⟩, hi.at fun o q => k it (by simp) o q, hne⟩
  item := by
    intro X hP hw hK hc i pins s σ H E I hf st hg
    subst hP hw hK
    obtain ⟨⟨old, he⟩, hit, hne, hai, hae⟩ := st
    obtain ⟨xs, x, hq, hx⟩ := hg
    obtain ⟨its, rv, p, hz⟩ := I.tuple hq
    obtain ⟨u, hu, ru⟩ := rv.get hx
    have hel : e < s.heap.objs.size := Heap.lt_size he
    have hil : it < s.heap.objs.size := by obtain ⟨_, q, _⟩ := hit; exact Heap.lt_size q
    have D := Draws.tuple (prog := X.prog) (w := X.w) (A := X.A.in1) (show X.A.in1.handled = none from I.ok.hd hc) it a hai its.toArray
    have hsz : i < its.toArray.size := by
      have := (List.getElem?_eq_some_iff.mp hu).1
      simpa using this
    refine wpAny_pyNext_enum_itemD D he ⟨hit, p⟩ hsz hne (by simp [hne, Ne.symm hae]) fun v h' tk hv ho st' hT hsz' hk => ?_
    have hv : its.toArray[i]? = some v := hv
    have ev : v = u := by
      have hu' : its.toArray[i]? = some u := by simpa using hu
      rw [hu'] at hv
      exact (Option.some.inj hv).symm
    subst ev
    refine ⟨_, rfl, wpAny_letOwnedTupleGo_enum (s := { s with heap := h', toks := tk + 1 }) ho fun h'' he' sb => ?_⟩
    have hT2 : h''.get? s.heap.objs.size = some { cls := .type "tuple", data := .seq #[.int i tk, v] } := (sb.2 _ (Nat.ne_of_gt hel)).trans hT
    have new : ObjOk X.prog X.w (upd H s.heap.objs.size (.tup [.int (i : Nat), x])) h'' s.heap.objs.size (.tup [.int (i : Nat), x]) :=
      ⟨by show 2 ≤ sizeLine; decide, [.int i tk, v], .cons ⟨_, rfl⟩ (.cons ru .nil), ⟨_, hT2, rfl, _, rfl⟩⟩
    have I1 : Inv X pins σ (upd H s.heap.objs.size (.tup [.int (i : Nat), x])) { s with heap := h'', toks := tk + 1 } :=
      I.turnedNew (ch := [e, it]) (fun b ob hb q => (sb.2 b (fun z => hb (by simp [z]))).trans (hk b ob (fun z => hb (by simp [z])) (fun z => hb (by simp [z])) q)) hf (Nat.le_refl _) new
    refine ⟨.ref s.heap.objs.size, _, I1, rfl, ⟨_, x, rfl, I.hok.fresh (Nat.le_refl _), rfl, fun ys hy => by rw [I.tuple_inj hy hq]; exact hx⟩, ⟨⟨v, ?_⟩, st'.1.at fun o q => (sb.2 it (Ne.symm hne)).trans q, hne, hai, hae⟩, fun b hb => ?_⟩
    · have e1 : ((i + 1 : Nat) : Int) = (i : Int) + 1 := by omega
      rw [e1]; exact he'
    · have hb' : b < s.heap.objs.size := by
        have e' : b = e ∨ b = it := by simpa using hb
        rcases e' with z | z
        · rw [z]; exact hel
        · rw [z]; exact hil
      rw [upd_ne (Nat.ne_of_lt hb')]
      exact (hf b hb).1
  done := by
    intro X hP hw hK hc i pins s σ H E I hf st hg
    subst hP hw hK
    obtain ⟨⟨old, he⟩, hit, hne, hai, hae⟩ := st
    obtain ⟨xs, hq, hx⟩ := hg
    obtain ⟨its, rv, p, hz⟩ := I.tuple hq
    obtain ⟨f0, f1, f2, f3, f4, f5⟩ := hf it (by simp)
    have hl := rv.length
    have D : Draws X.prog X.w X.A.in1 it [it, a] i (fun _ _ => False) (fun j h => j = i ∧ h.IsTupleIter it a i ∧ IsTup h a its.toArray) :=
      { live := fun _ _ st => let ⟨_, ⟨o, ho, _⟩, _⟩ := st; ⟨o, ho⟩
        frame := fun _ _ _ st hk => ⟨st.1, st.2.1.at fun o e => hk it (by simp) o e, by
          obtain ⟨o, ho, r⟩ := st.2.2
          exact ⟨o, hk a (by simp) o ho, r⟩⟩
        item := fun j s Q E hi st hQ => absurd st.1 (Nat.ne_of_lt hi)
        done := fun s Q E st hE => wpAny_nextOf_tuple_end (show X.A.in1.handled = none from I.ok.hd hc) st.2.1 st.2.2 (by simp; omega) hE }
    exact wpAny_pyNext_enum_endD D he ⟨rfl, hit, p⟩ fun h' eb => ⟨rfl, I.turned (t' := s.toks) (fun b o hb q => eb b o hb q) f0 f1 f3 f4 f5⟩
  self := fun A i s Q E st h => let ⟨⟨_, he⟩, _⟩ := st; wpAny_pyIter_enum he h
def iEnumT (K : PySem.W.Frag) (ta : TA) : TI := fun σ H R => ta σ H fun vs H1 => ∃ a xs, vs = [.ref a] ∧ SqT K H1 a xs ∧ R (IteT K a) H1
theorem boot_enumerate' : bootBuiltins "enumerate" = some (.type "enumerate") := by decide +kernel
theorem meets_enum1 {v : Value} {o : Obj} {H : Heap → Prop} (B : Begins v o H) :
    Meets (Builtin.«enumerate.__new__» ⟨[.type "enumerate", v], []⟩) (fun _ R s => H s.heap ∧
      R (.ok (.ret (.ref (s.heap.push o).objs.size))) { s with heap := (s.heap.push o).push { cls := .type "enumerate", data := .fields #[.none, .bool false, .ref s.heap.objs.size, rawInt 0, .none, .none] } }) :=
  .of_wp fun prog w A R s h => by
    obtain ⟨hp, g, d, tk, os⟩ := s; obtain ⟨h1, h⟩ := h
    have hsub := sub_enumerate
    have it : ∀ {A' : Around} {E : Value → Shared → Prop} {Q : Value → Shared → Prop}, Q (.ref hp.objs.size) ⟨hp.push o, g, d, tk, os⟩ → wpAny (model prog w) A' (pyIter v) Q E ⟨hp, g, d, tk, os⟩ :=
      fun q => B.iter prog w _ _ ⟨hp, g, d, tk, os⟩ _ h1 q
    wp_walk using it
    refine wpAny_stack_any fun st => wpAny_pure ?_
    split
    · rename_i c _ _ _ _ _
      cases (c == Value.type "enumerate") <;> (wp_walk using it; exact ⟨_, rfl, h⟩)
    · wp_walk using it
      exact ⟨_, rfl, h⟩
theorem call_enumerate_tuple {prog : Program} {w : World} {A : Around} {E : Value → Shared → Prop} {s : Shared} {l : Addr} {items : Array Value} {Q : Value → Shared → Prop} (hL : IsTup s.heap l items)
    (h : ∀ h', IsEnum h' (s.heap.objs.size + 1) s.heap.objs.size 0 .none → h'.IsTupleIter s.heap.objs.size l 0 → h'.objs.size = s.heap.objs.size + 2 →
      (∀ b o, s.heap.get? b = some o → h'.get? b = some o) → Q (.ref (s.heap.objs.size + 1)) { s with heap := h' }) :
    wpAny (model prog w) A (call (.type "enumerate") [.ref l]) Q E s := by
  have B := begins_tuple l items
  refine callType_new F.called_enumerate (by decide) (F.typeCall_enumerate_1 _) (F.newCall_enumerate_1 _) (fun obj => F.args_object_init_2 obj _) F.entry_enumerate_new (meets_enum1 B) ⟨hL, ?_⟩
  let o : Obj := { cls := .type "tuple_iterator", data := .fields #[.ref l, .int 0 0] }
  have hz : (s.heap.push o).objs.size = s.heap.objs.size + 1 := Heap.size_push ..
  show _ ∧ _
  rw [hz]
  have he : IsEnum ((s.heap.push o).push { cls := .type "enumerate", data := .fields #[.none, .bool false, .ref s.heap.objs.size, rawInt 0, .none, .none] }) (s.heap.objs.size + 1) s.heap.objs.size 0 .none := by
    have q := Heap.get?_push_size (s.heap.push o) (o := { cls := .type "enumerate", data := .fields #[.none, .bool false, .ref s.heap.objs.size, rawInt 0, .none, .none] }) rfl
    rw [hz] at q; exact q
  exact ⟨⟨_, he, rfl⟩, h _ he ⟨_, Heap.get?_push_of_some _ (Heap.get?_push_size _ rfl), rfl, rfl⟩ (by rw [Heap.size_push, hz]) fun b o x => Heap.get?_push_of_some _ (Heap.get?_push_of_some _ x)⟩
theorem pi_enumT {X : Cx} {e : Expr} {ta : TA} {p pos tpos : Pos} {elts : List Expr} {kk : Nat} (hg : Gl X "enumerate") (hm : X.mg "enumerate" = none) (ha : PA X [e] ta) (hs : starEach [e] X.env = [(false, eval e X.env)] := by rfl) :
    PI X (.Tuple elts kk tpos) (.Call (.Name "enumerate" p) [e] [] pos) (iEnumT X.K ta) := by
  refine ⟨fun pins s σ H R I h => ?_⟩
  refine Call_ (ld_blt I hg hm boot_enumerate' (PyProof.Rows.callWith_type1 (thn (ha.run pos pins s σ H _ I h) fun us s1 ⟨vs, H1, I1, r1, q1⟩ => ?_) hs rfl))
  obtain ⟨a, xs, ex, hq, q⟩ := q1
  subst ex
  cases r1 with
  | cons r rr =>
    cases rr
    cases r
    obtain ⟨its, rv, p', hz⟩ := I1.tuple hq
    have hal : a < s1.heap.objs.size := by obtain ⟨_, q, _⟩ := p'; exact Heap.lt_size q
    refine call_enumerate_tuple p' fun h' he hit hsz hk => wpAny_pyIter_enum he ?_
    have I2 : Inv X pins σ H1 { s1 with heap := h' } := I1.kept (t' := s1.toks) hk
    refine ⟨s1.heap.objs.size + 1, [s1.heap.objs.size + 1, s1.heap.objs.size], _, _, H1, rfl, I2, turn_enumT a (s1.heap.objs.size + 1) s1.heap.objs.size, ⟨⟨.none, he⟩, hit, Nat.succ_ne_self _, Nat.ne_of_lt hal, Nat.ne_of_lt (Nat.lt_succ_of_lt hal)⟩, fun b hb => ?_, q⟩
    have e' : b = s1.heap.objs.size + 1 ∨ b = s1.heap.objs.size := by simpa using hb
    have hle : s1.heap.objs.size ≤ b := by
      rcases e' with z | z
      · rw [z]; exact Nat.le_add_right _ _
      · rw [z]; exact Nat.le_refl _
    exact I1.fpOk hle (I1.hok.fresh hle)
end MK
set_option Elab.async false
set_option linter.all false
set_option maxRecDepth 100000
set_option maxHeartbeats 4000000
set_option Elab.async false
set_option linter.all false
set_option maxRecDepth 100000
set_option maxHeartbeats 4000000
namespace MK
open PySem PySem.Spec PyProof.Rows L2
/-- an error's class over ValueError whose __init__ is the def at fI -/
structure ErrC (K : PySem.W.Frag) (C fI : Addr) : Prop where
  cls : OexC K C
  ini : PySem.W.findIn K (.ref C) "__init__" = some (some (.ref fI))
  fn : PySem.W.typeIn K (.ref fI) = some (.type "function")
section
variable {X : Cx} {CX : CXT} {k n : Nat} {f C : Addr} {fd : FuncData} {ps ks : List Str} {sp : Sp} {E : XK} {x : Str} {p pos : Pos} {e : Expr} {es : List Expr} {kws : List Keyword} {t tk : TA} {g : List Value → List Value → List Value} {gV : List V → List V → List V}
/-- e.f of such an error -/
structure ErrF (K : PySem.W.Frag) (C : Addr) : Prop where
  ga : PySem.W.findIn K (.ref C) "__getattribute__" = some (some (.builtin "BaseException.__getattribute__"))
  gg : PySem.W.findIn K (.ref C) "__getattr__" = some none
  exC : PySem.W.subIn K (.ref C) (.type "BaseException") = some true
  hdC : PySem.W.hasDictIn K C = true
/-- what isinstance asks of an error's class -/
structure ErrI (K : PySem.W.Frag) (C : Addr) : Prop where
  cl : (PySem.W.clsIn K C).isSome = true
  ga : PySem.W.findIn K (.ref C) "__getattribute__" = some (some (.builtin "BaseException.__getattribute__"))
  gg : PySem.W.findIn K (.ref C) "__getattr__" = some none
  ex : PySem.W.subIn K (.ref C) (.type "BaseException") = some true
  ca : PySem.W.findIn K (.ref C) "__class__" = some (some (.builtin "object.__class__"))
  sp : PySem.W.specialIn K (.builtin "object.__class__") "__get__" = some (some (.builtin "getset_descriptor.__get__"))
  tk : PySem.W.takesIn K (.builtin "object.__class__") = some true
  ob : PySem.W.mroIn K C (.type "object") = some true
end
end MK
set_option Elab.async false
set_option linter.all false
set_option maxRecDepth 100000
set_option maxHeartbeats 4000000
namespace MK
open PySem PySem.Spec PyProof.Rows L2
section
variable {P : Program} {w : World} {K : PySem.W.Frag} {mg : Str → Option Value} {base : Heap} {CX : CXT}
/-- a def of the module that may be called by its name -/
structure Cal (P : Program) (w : World) (K : PySem.W.Frag) (mg : Str → Option Value) (base : Heap) (CX : CXT) (k : Nat) (x : Str) (sp : Sp) : Prop where
  ex : ∃ (f : Addr) (fd : FuncData) (ps : List Str), FnOk P w K mg base CX k f fd ps sp ∧ mg x = some (.ref f) ∧ PySem.W.keepIn K (.ref f) = true ∧ Binds K fd ps []
/-- what the top left of a def: its text, its name, how its arguments bind -/
structure DefX (K : PySem.W.Frag) (mg : Str → Option Value) (x : Str) (st : Stmt) (ps : List Str) (f : Addr) (fd : FuncData) : Prop where
  fn : Fun K x x st f fd
  mgf : mg x = some (.ref f)
  bi : Binds K fd ps []
theorem cal_mk {x : Str} {st : Stmt} {f : Addr} {fd : FuncData} {N ps : List Str} {k : Nat} {sp : Sp} (F : DefX K mg x st ps f fd) (S : FnScope N ps (defScope st)) (len : ∀ vs H Q E, sp vs H Q E → vs.length = ps.length)
    (hbody : ∀ (cdv : Value) (A : Around) (outer : List Env) (s : Shared) (H : Hp) (vs : List V) (Q : VK) (E : XK), Room k (A.deeper (envOfC x (defScope st) s.heap.objs.size f cdv)) → sp vs H Q E →
      ∃ t, PSs (cxOf CX0 P w K mg base N x (defScope st) f cdv A outer s H E).nox (defBody st) t ∧ t { nx := fun _ H' => Q .non H', rt := Q } (start N vs) H) : Cal P w K mg base CX0 (k + 1) x sp :=
  ⟨f, fd, ps, F.fn.ok S len hbody, F.mgf, F.fn.kp, F.bi⟩
end
section
variable {X : Cx} {k j : Nat} {x : Str} {sp : Sp} {p pos : Pos} {e : Expr} {es : List Expr} {t : TA}
theorem pe_c (c : Cal X.prog X.w X.K X.mg X.base CX0 k x sp) (hr : Room j X.A) (hk : k ≤ j) (hg : Gl X x) (ha : PA X (e :: es) t)
    (hdb : (x == ("__debug__" : Str)) = false := by decide) (he : starEach (e :: es) X.env = (false, eval e X.env) :: starEach es X.env := by rfl) (hpl : (backTo pos (starEach es X.env)).any (·.1) = false := by rfl) :
    PE X (.Call (.Name x p) (e :: es) [] pos) (tCall sp [] E0 t) := by
  obtain ⟨f, fd, ps, F, hm, kp, b⟩ := c.ex
  exact pe_call F (hr.mono hk) hg hm kp b .nil pass0 ha hdb he hpl
end
/-- a statement, then the rest, Mid between them: what follows is shown once -/
def tCut (t u : TS) : TS := fun D σ H => ∃ Mid : L2.St → Hp → Prop, t { D with nx := Mid } σ H ∧ ∀ σ' H', Mid σ' H' → u D σ' H'
theorem pss_cut {X : Cx} {st : Stmt} {rest : List Stmt} {t u : TS} (h1 : PS X st t) (h2 : PSs X rest u) : PSs X (st :: rest) (tCut t u) := by
  refine ⟨fun pins s σ H D I h => ?_⟩
  obtain ⟨Mid, a, b⟩ := h
  refine wpAny_execs_cons (thn (h1.run pins s σ H { D with nx := Mid } I a) fun f s1 q => ?_)
  cases f with
  | next =>
    obtain ⟨σ', H', I', q⟩ := q
    exact h2.run pins s1 σ' H' D I' (b σ' H' q)
  | ret v => exact q
  | brk => exact q
  | cont => exact q
/-- the name of a built-in class, as a value -/
theorem pe_tyv {X : Cx} {x : Str} {n : String} {pos : Pos} (hg : Gl X x) (hm : X.mg x = none) (hv : bootBuiltins x = some (.type n)) (hn : x ≠ "__name__" := by decide) (hd : (x == ("__debug__" : Str)) = false := by decide) : PE X (.Name x pos) (tC (.ty n)) :=
  pe_bltn hg hm hv rfl hn hd
/-- an expression, a test, with a word between it and what follows -/
def tCutE (te : TE) : TE := fun σ H Q => ∃ Mid : V → Hp → Prop, te σ H Mid ∧ ∀ v H', Mid v H' → Q v H'
def tCutT (tt : TT) : TT := fun σ H Q => ∃ Mid : Bool → Hp → Prop, tt σ H Mid ∧ ∀ b H', Mid b H' → Q b H'
theorem pe_cut {X : Cx} {e : Expr} {te : TE} (h : PE X e te) : PE X e (tCutE te) := by
  refine ⟨fun pins s σ H Q I ⟨Mid, a, b⟩ => ?_⟩
  exact thn (h.run pins s σ H Mid I a) fun u s1 ⟨v, H1, I1, r1, q1⟩ => ⟨v, H1, I1, r1, b v H1 q1⟩
theorem pt_cut {X : Cx} {e : Expr} {tt : TT} (h : PT X e tt) : PT X e (tCutT tt) := by
  refine ⟨fun pins s σ H Q I ⟨Mid, a, b⟩ => ?_⟩
  exact thn (h.run pins s σ H Mid I a) fun u s1 ⟨H1, I1, q1⟩ => ⟨H1, I1, b u H1 q1⟩
/-- all that was tracked is as it was, but what stands at s -/
def SameX (s : Addr) (H H' : Hp) : Prop := ∀ b o, H b = some o → b ≠ s → H' b = some o
theorem SameX.refl (s : Addr) (H : Hp) : SameX s H H := fun _ _ h _ => h
theorem SameX.trans {s : Addr} {H H1 H2 : Hp} (a : SameX s H H1) (b : SameX s H1 H2) : SameX s H H2 := fun c o h n => b c o (a c o h n) n
theorem SameX.new {s p : Addr} {o : HO} {H H1 : Hp} (a : SameX s H H1) (h : H1 p = none) : SameX s H (upd H1 p o) := fun c u hc n => by
  have e := a c u hc n
  rw [upd_ne (ne_of_none e h)]
  exact e
theorem SameX.put {s : Addr} {o : HO} {H H1 : Hp} (a : SameX s H H1) : SameX s H (upd H1 s o) := fun c u hc n => by
  rw [upd_ne n]
  exact a c u hc n
theorem same_sx {s : Addr} {H H1 : Hp} (a : Same H H1) : SameX s H H1 := fun c u hc _ => a c u hc
theorem SameX.none {s p : Addr} {H H1 : Hp} (a : SameX s H H1) (n : p ≠ s) (h : H1 p = Option.none) : H p = Option.none := by
  cases e : H p with
  | none => rfl
  | some o =>
    rw [a p o e n] at h
    cases h
theorem same_new {p : Addr} {o : HO} {H H1 : Hp} (a : Same H H1) (h : H1 p = none) : Same H (upd H1 p o) := fun c u hc => by
  have e := a c u hc
  rw [upd_ne (ne_of_none e h)]
  exact e
theorem SameX.l {K : PySem.W.Frag} {s a : Addr} {xs : List V} {H H1 : Hp} (e : SameX s H H1) (n : a ≠ s) (h : SqL K H a xs) : SqL K H1 a xs := by
  rcases h with (h | ⟨o, h⟩) | h
  · exact .inl (.inl (e _ _ h n))
  · exact .inl (.inr ⟨o, e _ _ h n⟩)
  · exact .inr h
theorem SameX.t {K : PySem.W.Frag} {s a : Addr} {xs : List V} {H H1 : Hp} (e : SameX s H H1) (n : a ≠ s) (h : SqT K H a xs) : SqT K H1 a xs := by
  rcases h with (h | ⟨o, h⟩) | h
  · exact .inl (.inl (e _ _ h n))
  · exact .inl (.inr ⟨o, e _ _ h n⟩)
  · exact .inr h
theorem walk_enumT {K : PySem.W.Frag} {a : Addr} {xs : List V} : Walk (IteT K a) xs.length (fun H => SqT K H a xs) (YPair (fun i => some (.int (i : Nat))) (fun i => xs[i]?)) := by
  refine ⟨fun i _ hi q => ⟨xs, xs[i], q, by simp [hi]⟩, fun _ q => ⟨xs, q, Nat.le_refl _⟩, fun i H v H' _ q y => ?_⟩
  obtain ⟨T, x, h1, h2, h3, h4⟩ := y
  exact ⟨T, .int (i : Nat), x, h1, h2, h3, rfl, h4 xs q⟩
theorem upd_none {H : Hp} {a b : Addr} {o : HO} (h : upd H a o b = none) : b ≠ a ∧ H b = none := by
  by_cases e : b = a
  · rw [e, upd_same] at h
    cases h
  · rw [upd_ne e] at h
    exact ⟨e, h⟩
section
variable {K : PySem.W.Frag}
/-- nothing in it that is walked -/
def Flat (H : Hp) (x y : V) : Prop := (x = y ∧ (x = .non ∨ (∃ b, x = .bl b) ∨ (∃ i, x = .int i) ∨ ∃ z, x = .str z)) ∨
  ∃ a b kvs, x = .ref a ∧ y = .ref b ∧ H a = some (.dK kvs) ∧ H b = some (.dK kvs) ∧ (kvs.map (·.1)).Nodup ∧ ∀ p ∈ kvs, flatB p.2 = true
def Sm (K : PySem.W.Frag) (H : Hp) : Nat → V → V → Prop
  | 0, x, y => Flat H x y
  | n + 1, x, y => Flat H x y ∨ ∃ a b xs ys, x = .ref a ∧ y = .ref b ∧ ((SqL K H a xs ∧ SqL K H b ys) ∨ (SqT K H a xs ∧ SqT K H b ys)) ∧ xs.length = ys.length ∧ xs.length < 100000 ∧ ∀ (i : Nat) x y, xs[i]? = some x → ys[i]? = some y → Sm K H n x y
theorem same_t {H H' : Hp} {a : Addr} {xs : List V} (e : Same H H') (h : SqT K H a xs) : SqT K H' a xs := by
  rcases h with (h | ⟨o, h⟩) | h
  · exact .inl (.inl (e _ _ h))
  · exact .inl (.inr ⟨o, e _ _ h⟩)
  · exact .inr h
theorem Flat.keep {H H' : Hp} {x y : V} (e : Same H H') (h : Flat H x y) : Flat H' x y := by
  rcases h with h | ⟨a, b, kvs, h1, h2, h3, h4, h5⟩
  · exact .inl h
  · exact .inr ⟨a, b, kvs, h1, h2, e _ _ h3, e _ _ h4, h5⟩
theorem Sm.keep {H H' : Hp} (e : Same H H') : ∀ {n : Nat} {x y : V}, Sm K H n x y → Sm K H' n x y
  | 0, _, _, h => Flat.keep e h
  | n + 1, _, _, h => by
    rcases h with h | ⟨a, b, xs, ys, h1, h2, h3, h4, h5, h6⟩
    · exact .inl (h.keep e)
    · refine .inr ⟨a, b, xs, ys, h1, h2, ?_, h4, h5, fun i x y q1 q2 => Sm.keep e (h6 i x y q1 q2)⟩
      rcases h3 with ⟨p, q⟩ | ⟨p, q⟩
      · exact .inl ⟨e.seq p, e.seq q⟩
      · exact .inr ⟨same_t e p, same_t e q⟩
theorem tyx_l {H : Hp} {a : Addr} {xs : List V} (h : SqL K H a xs) : TyX K H (.ref a) (.type "list") := by
  rcases h with (h | ⟨o, h⟩) | ⟨o, its, n, hk, hc, _⟩
  · exact .base (.lst h)
  · exact .base (.frz h)
  · exact .kList hk hc
theorem tyx_t {H : Hp} {a : Addr} {xs : List V} (h : SqT K H a xs) : TyX K H (.ref a) (.type "tuple") := by
  rcases h with (h | ⟨o, h⟩) | ⟨o, its, n, hk, hc, _⟩
  · exact .base (.tup h)
  · exact .fTuple h
  · exact .kTuple hk hc
theorem tyx_keep {H H' : Hp} {x : V} {t : Value} (e : Same H H') (h : TyX K H x t) : TyX K H' x t := by
  cases h with
  | base h =>
    cases h with
    | non => exact .base .non
    | bl b => exact .base (.bl b)
    | int i => exact .base (.int i)
    | str z => exact .base (.str z)
    | flt z => exact .base (.flt z)
    | lst h => exact .base (.lst (e _ _ h))
    | frz h => exact .base (.frz (e _ _ h))
    | tup h => exact .base (.tup (e _ _ h))
    | dK h => exact .base (.dK (e _ _ h))
    | dT h => exact .base (.dT (e _ _ h))
    | ins h cl ha hn ht hm => exact .base (.ins (e _ _ h) cl ha hn ht hm)
  | byt b => exact .byt b
  | set h => exact .set (e _ _ h)
  | kList h c => exact .kList h c
  | kTuple h c => exact .kTuple h c
  | kDict h c => exact .kDict h c
  | fTuple h => exact .fTuple (e _ _ h)
  | fDict h => exact .fDict (e _ _ h)
theorem walk_zipT {a b : Addr} {xs ys : List V} {n : Nat} (hn : n = min xs.length ys.length) : Walk (RZ.ItzT K a b) n (fun H => SqT K H a xs ∧ SqT K H b ys) (YPair (fun i => xs[i]?) (fun i => ys[i]?)) := by
  subst hn
  refine ⟨fun i _ hi q => ?_, fun _ q => ⟨xs, ys, q.1, q.2, by omega⟩, fun i H v H' _ q y => ?_⟩
  · have h1 : i < xs.length := by omega
    have h2 : i < ys.length := by omega
    exact ⟨xs, ys, xs[i], ys[i], q.1, q.2, by simp [h1], by simp [h2]⟩
  · obtain ⟨T, x, y, h1, h2, h3, h4, h5⟩ := y
    exact ⟨T, x, y, h1, h2, h3, h4 xs q.1, h5 ys q.2⟩
end
/-- a def that is never called so -/
theorem cal_bot {P : Program} {w : World} {K : PySem.W.Frag} {mg : Str → Option Value} {base : Heap} {x : Str} {st : Stmt} {ps : List Str} {f : Addr} {fd : FuncData} (F : DefX K mg x st ps f fd) : Cal P w K mg base CX0 0 x (fun _ _ _ _ => False) :=
  ⟨f, fd, ps, ⟨fun _ _ _ _ h => h.elim, fun _ _ _ _ _ _ _ _ _ _ _ _ _ h => h.elim⟩, F.mgf, F.fn.kp, F.bi⟩
end MK
set_option Elab.async false
set_option linter.all false
set_option maxRecDepth 100000
set_option maxHeartbeats 4000000
namespace MK
open PySem PySem.Spec PyProof.Rows L2
theorem exo_lst {e C : Addr} {d : Option Addr} {xs : List V} : exo e C d ≠ .lst xs := fun z => by
  have z' : HO.ext _ = HO.lst xs := z
  cases z'
theorem exd_lst {e : Addr} {fs : List (Str × V)} {xs : List V} : exd e fs ≠ .lst xs := fun z => by
  have z' : HO.ext _ = HO.lst xs := z
  cases z'
/-- an error of the class at C stands at a; its attributes, the latest first -/
def Err (H : Hp) (C a : Addr) (fs : List (Str × V)) : Prop := ∃ d, H a = some (exo a C (some d)) ∧ H d = some (exd d fs)
theorem Err.keep {H H' : Hp} {C a : Addr} {fs : List (Str × V)} (e : Same H H') (h : Err H C a fs) : Err H' C a fs := by
  obtain ⟨d, h1, h2⟩ := h
  exact ⟨d, e _ _ h1, e _ _ h2⟩
theorem Err.put {H : Hp} {C a p : Addr} {fs : List (Str × V)} {xs zs : List V} (hp : H p = some (.lst xs)) (h : Err H C a fs) : Err (upd H p (.lst zs)) C a fs := by
  obtain ⟨d, h1, h2⟩ := h
  exact ⟨d, by rw [upd_ne (at_ne hp h1 (Ne.symm exo_lst))]; exact h1, by rw [upd_ne (at_ne hp h2 (Ne.symm exd_lst))]; exact h2⟩
/-- what the __init__ of an error with one attribute promises; with two -/
def spErr1 (C : Addr) (f : Str) : Sp := fun vs H Q _ => ∃ (a : Addr) (v : V), vs = [.ref a, v] ∧ H a = some (exo a C none) ∧ ∀ d, H d = none → d ≠ a → Q .non (upd (upd H d (exd d [(f, v)])) a (exo a C (some d)))
section
variable {X : Cx} {k j n : Nat} {x : Str} {C : Addr} {sp : Sp} {p pos : Pos} {e : Expr} {es : List Expr} {t tk : TA} {kws : List Keyword} {ks : List Str} {g : List Value → List Value → List Value} {gV : List V → List V → List V}
theorem pe_refv {a : Addr} (hg : Gl X x) (hm : X.mg x = some (.ref a)) (hd : (x == ("__debug__" : Str)) = false := by decide) : PE X (.Name x pos) (tC (.ref a)) := pe_glob hg hm rfl hd
end
def oexB (K : PySem.W.Frag) (C : Addr) : Bool := match K.lookup C with
  | some ⟨.type "type", _, .cls cd, sl⟩ => (match cd.mro, sl.toList with
    | .ref C' :: bm, [_, _, _, _, some (.builtin n), _] => C' == C && (n == "ValueError.__new__" && (!cd.hasDel && (cd.hasDict && PySem.HandSPX.refsVE bm)))
    | _, _ => false)
  | _ => false
theorem oexB_ok {K : PySem.W.Frag} {C : Addr} (h : oexB K C = true) :
    ∃ nm q N bs bm sn sub ab col dd k0 k1 k2 k3 k5, K.lookup C = some (excClassObj nm q C N bs bm true sn sub ab col dd k0 k1 k2 k3 k5 "ValueError.__new__") ∧ PySem.HandSPX.refsVE bm = true := by
  unfold oexB at h
  split at h
  · rename_i dd cd sl ho
    split at h
    · rename_i C' bm k0 k1 k2 k3 n k5 hm hs
      simp only [Bool.and_eq_true, beq_iff_eq, Bool.not_eq_true'] at h
      obtain ⟨rfl, rfl, hdel, hdict, hb⟩ := h
      obtain ⟨nm, bs, mro, ns, qn, hd, sn, sub, ab, col, del⟩ := cd
      dsimp only at hm hdel hdict
      subst hm hdel hdict
      have hsl : sl = #[k0, k1, k2, k3, some (.builtin "ValueError.__new__"), k5] := by
        obtain ⟨z⟩ := sl
        simp only at hs
        rw [hs]
      subst hsl
      exact ⟨_, _, _, _, _, _, _, _, _, _, _, _, _, _, _, ho, hb⟩
    · cases h
  · cases h
def errB (K : PySem.W.Frag) (C : Addr) : Bool :=
  decide (PySem.W.findIn K (.ref C) "__setattr__" = some (some (.builtin "object.__setattr__"))) && (decide (PySem.W.subIn K (.ref C) (.type "BaseException") = some true) && (decide (PySem.W.typeIn K (.ref C) = some (.type "type")) && (PySem.W.keepIn K (.ref C) &&
  (decide (PySem.W.findIn K (.ref C) "__getattribute__" = some (some (.builtin "BaseException.__getattribute__"))) && (decide (PySem.W.findIn K (.ref C) "__getattr__" = some none) && (PySem.W.hasDictIn K C && ((PySem.W.clsIn K C).isSome &&
  (decide (PySem.W.findIn K (.ref C) "__class__" = some (some (.builtin "object.__class__"))) && (decide (PySem.W.specialIn K (.builtin "object.__class__") "__get__" = some (some (.builtin "getset_descriptor.__get__"))) &&
  (decide (PySem.W.takesIn K (.builtin "object.__class__") = some true) && decide (PySem.W.mroIn K C (.type "object") = some true)))))))))))
theorem errB_ok {K : PySem.W.Frag} {C : Addr} (h : errB K C = true) (o : oexB K C = true) : OexC K C ∧ ErrF K C ∧ ErrI K C := by
  simp only [errB, Bool.and_eq_true, decide_eq_true_eq] at h
  obtain ⟨h1, h2, h3, h4, h5, h6, h7, h8, h9, h10, h11, h12⟩ := h
  exact ⟨⟨oexB_ok o, h1, h2, h3, h4⟩, ⟨h5, h6, h2, h7⟩, ⟨h8, h5, h6, h2, h9, h10, h11, h12⟩⟩
theorem errI_of {K : PySem.W.Frag} {C : Addr} (h : errB K C = true) : ErrI K C := by
  simp only [errB, Bool.and_eq_true, decide_eq_true_eq] at h
  obtain ⟨h1, h2, h3, h4, h5, h6, h7, h8, h9, h10, h11, h12⟩ := h
  exact ⟨h8, h5, h6, h2, h9, h10, h11, h12⟩
end MK
set_option Elab.async false
set_option linter.all false
set_option autoImplicit false
set_option maxRecDepth 100000
set_option maxHeartbeats 4000000
namespace MK
open PySem PySem.Spec PyProof.Rows L2
/-- all but what stands at s -/
def Off (s : Addr) (H : Hp) : Hp := fun b => if b = s then none else H b
theorem off_ne {s b : Addr} {H : Hp} (h : b ≠ s) : Off s H b = H b := if_neg h
theorem off_s {s : Addr} {H : Hp} : Off s H s = none := if_pos rfl
theorem off_same {s : Addr} {H : Hp} : Same (Off s H) H := fun b o h => by
  by_cases e : b = s
  · rw [e, off_s] at h
    cases h
  · rw [off_ne e] at h
    exact h
theorem SameX.off {s : Addr} {H H' : Hp} (e : SameX s H H') : Same (Off s H) (Off s H') := fun b o h => by
  by_cases q : b = s
  · rw [q, off_s] at h
    cases h
  · rw [off_ne q] at h ⊢
    exact e _ _ h q
theorem same_off {s : Addr} {H H' : Hp} (e : Same H H') : Same (Off s H) (Off s H') := (same_sx e).off
theorem off_upd {s a : Addr} {o : HO} {H : Hp} (h : a ≠ s) : Off s (upd H a o) = upd (Off s H) a o := by
  funext b
  by_cases e : b = s
  · subst e
    rw [off_s, upd_ne (Ne.symm h), off_s]
  · by_cases q : b = a
    · subst q
      rw [off_ne e, upd_same, upd_same]
    · rw [off_ne e, upd_ne q, upd_ne q, off_ne e]
theorem off_get {s a : Addr} {o : HO} {H : Hp} (h : Off s H a = some o) : H a = some o := off_same _ _ h
theorem off_none {s a : Addr} {H : Hp} (h : H a = none) : Off s H a = none := by
  by_cases e : a = s
  · rw [e, off_s]
  · rw [off_ne e]
    exact h
theorem SameX.putN {s a : Addr} {o : HO} {H H1 : Hp} (e : SameX s H H1) (h : H a = Option.none) : SameX s H (upd H1 a o) := fun b u hb n => by
  rw [upd_ne (fun q => by rw [q, h] at hb; cases hb)]
  exact e _ _ hb n
section
variable {K : PySem.W.Frag}
def Sq (K : PySem.W.Frag) (H : Hp) (v : V) (xs : List V) : Prop := ∃ a, v = .ref a ∧ (SqL K H a xs ∨ SqT K H a xs)
def Tu (K : PySem.W.Frag) (H : Hp) (v : V) (xs : List V) : Prop := ∃ a, v = .ref a ∧ SqT K H a xs
theorem Tu.sq {H : Hp} {v : V} {xs : List V} (h : Tu K H v xs) : Sq K H v xs := by
  obtain ⟨a, e, h⟩ := h
  exact ⟨a, e, .inr h⟩
theorem Tu.keep {H H' : Hp} {v : V} {xs : List V} (e : Same H H') (h : Tu K H v xs) : Tu K H' v xs := by
  obtain ⟨a, r, h⟩ := h
  exact ⟨a, r, same_t e h⟩
theorem Sq.keep {H H' : Hp} {v : V} {xs : List V} (e : Same H H') (h : Sq K H v xs) : Sq K H' v xs := by
  obtain ⟨a, r, h⟩ := h
  rcases h with h | h
  · exact ⟨a, r, .inl (e.seq h)⟩
  · exact ⟨a, r, .inr (same_t e h)⟩
theorem Sq.lst {H : Hp} {a : Addr} {xs : List V} (h : H a = some (.lst xs)) : Sq K H (.ref a) xs := ⟨a, rfl, .inl (SqL.of h)⟩
theorem Tu.tup {H : Hp} {a : Addr} {xs : List V} (h : H a = some (.tup xs)) : Tu K H (.ref a) xs := ⟨a, rfl, SqT.of h⟩
end
/-- item by item -/
def Al {α : Type} (R : V → α → Prop) (xs : List V) (ys : List α) : Prop := xs.length = ys.length ∧ ∀ (i : Nat) x y, xs[i]? = some x → ys[i]? = some y → R x y
section
variable {α : Type} {R S : V → α → Prop} {xs : List V} {ys : List α}
theorem Al.nil : Al R [] [] := ⟨rfl, fun i x y h => by simp at h⟩
theorem Al.mono (h : Al R xs ys) (f : ∀ x y, R x y → S x y) : Al S xs ys := ⟨h.1, fun i x y h1 h2 => f _ _ (h.2 i x y h1 h2)⟩
theorem Al.snoc {x : V} {y : α} (h : Al R xs ys) (r : R x y) : Al R (xs ++ [x]) (ys ++ [y]) := by
  refine ⟨by simp [h.1], fun i u v h1 h2 => ?_⟩
  by_cases q : i < xs.length
  · rw [List.getElem?_append_left q] at h1
    rw [List.getElem?_append_left (h.1 ▸ q)] at h2
    exact h.2 i u v h1 h2
  · have q2 : ys.length ≤ i := by have := h.1; omega
    rw [List.getElem?_append_right (by omega)] at h1
    rw [List.getElem?_append_right q2] at h2
    rw [← h.1] at h2
    cases hz : i - xs.length with
    | zero =>
      rw [hz] at h1 h2
      simp at h1 h2
      rw [← h1, ← h2]
      exact r
    | succ n =>
      rw [hz] at h1
      simp at h1
theorem Al.get (h : Al R xs ys) {i : Nat} {x : V} (hx : xs[i]? = some x) : ∃ y, ys[i]? = some y ∧ R x y := by
  have hi : i < xs.length := (List.getElem?_eq_some_iff.mp hx).1
  have hj : i < ys.length := h.1 ▸ hi
  exact ⟨ys[i], List.getElem?_eq_getElem hj, h.2 i x _ hx (List.getElem?_eq_getElem hj)⟩
theorem Al.get' (h : Al R xs ys) {i : Nat} {y : α} (hy : ys[i]? = some y) : ∃ x, xs[i]? = some x ∧ R x y := by
  have hi : i < ys.length := (List.getElem?_eq_some_iff.mp hy).1
  have hj : i < xs.length := h.1.symm ▸ hi
  exact ⟨xs[i], List.getElem?_eq_getElem hj, h.2 i _ y (List.getElem?_eq_getElem hj) hy⟩
theorem Al.map {f : α → V} (g : ∀ y, R (f y) y) : Al R (ys.map f) ys := ⟨by simp, fun i x y h1 h2 => by
  rw [List.getElem?_map, h2] at h1
  cases h1
  exact g y⟩
theorem Al.mem (h : Al R xs ys) {x : V} (hx : x ∈ xs) : ∃ y ∈ ys, R x y := by
  obtain ⟨i, hi⟩ := List.mem_iff_getElem?.mp hx
  obtain ⟨y, hy, r⟩ := h.get hi
  exact ⟨y, List.mem_of_getElem? hy, r⟩
end
theorem off_put {a : Addr} {o : HO} {H : Hp} : Off a (upd H a o) = Off a H := by
  funext b
  by_cases e : b = a
  · rw [e, off_s, off_s]
  · rw [off_ne e, off_ne e, upd_ne e]
theorem inV_strs (z : Str) (zs : List Str) : inV (.str z) (zs.map V.str) = decide (z ∈ zs) := by
  rw [Bool.eq_iff_iff, decide_eq_true_iff]
  unfold inV
  rw [List.any_map, List.any_eq_true]
  constructor
  · rintro ⟨y, m, e⟩
    have e : (y == z) = true := e
    rw [beq_iff_eq] at e
    exact e ▸ m
  · intro m
    exact ⟨z, m, beq_self_eq_true z⟩
theorem flat_strs (zs : List Str) : (zs.map V.str).all flatV = true := by
  rw [List.all_map, List.all_eq_true]
  exact fun _ _ => rfl
theorem rep_flat (z : Str) : ∀ m : Nat, (List.replicate m [V.str z]).flatten = (List.replicate m z).map V.str
  | 0 => rfl
  | m + 1 => by
    rw [List.replicate_succ, List.flatten_cons, rep_flat z m, List.replicate_succ]
    rfl
theorem none_of {H H1 : Hp} {a : Addr} (e : Same H H1) (h : H1 a = none) : H a = none := by
  cases q : H a with
  | none => rfl
  | some o =>
    rw [e _ _ q] at h
    cases h
theorem noneX {s : Addr} {H H1 : Hp} {a : Addr} (e : SameX s H H1) (n : a ≠ s) (h : H1 a = none) : H a = none := by
  cases q : H a with
  | none => rfl
  | some o =>
    rw [e _ _ q n] at h
    cases h
theorem seqIndex_nat {d n : Nat} (h : d < n) : seqIndex? (d : Int) n = some d := by
  rw [PySem.seqIndex_of (by omega) (by omega)]
  rfl
theorem eraseIdx_mapV {α β : Type} (f : α → β) : ∀ (l : List α) (d : Nat), (l.map f).eraseIdx d = (l.eraseIdx d).map f
  | [], _ => rfl
  | _ :: _, 0 => rfl
  | x :: xs, d + 1 => by
    show f x :: (xs.map f).eraseIdx d = f x :: (xs.eraseIdx d).map f
    rw [eraseIdx_mapV f xs d]
theorem perm_erase {α : Type} : ∀ (l : List α) (d : Nat) (h : d < l.length), (l[d] :: l.eraseIdx d).Perm l
  | x :: xs, 0, _ => List.Perm.refl _
  | x :: xs, d + 1, h => by
    show (xs[d]'(by simpa using h) :: x :: xs.eraseIdx d).Perm (x :: xs)
    exact (List.Perm.swap _ _ _).trans ((perm_erase xs d _).cons x)
section
variable {X : Cx} {K : PySem.W.Frag}
theorem ix_tupK (h : X.K = K) : IxR X (rIxT K) := by subst h; exact ix_tup
theorem ix_seqK (h : X.K = K) : IxR X (rIx K) := by subst h; exact ix_seq
theorem op_in_seqK (h : X.K = K) : OpR X (compareOp .In) (rIn K false) := by subst h; exact op_in_seq
theorem call_isiK (h : X.K = K) : CallR X (.builtin "isinstance") (rIsi K) := by subst h; exact call_isi
end
structure FD where
  nm : Str
  many : Bool
  need : Bool
deriving DecidableEq
structure CD where
  nm : Str
  hand : Str
  moves : List Int
  deeds : List (Str × Str)
  same : List Str
deriving DecidableEq
def sortS (b : Bool) : Str := if b then "many" else "one"
section
variable {K : PySem.W.Frag}
def FdV (f : FD) : List V := [.str f.nm, .str (sortS f.many), .bl f.need]
def DeV (d : Str × Str) : List V := [.str d.1, .str d.2]
def FdA (K : PySem.W.Frag) (H : Hp) (v : V) (f : FD) : Prop := Sq K H v (FdV f)
def FdT (K : PySem.W.Frag) (H : Hp) (v : V) (f : FD) : Prop := Tu K H v (FdV f)
def DeA (K : PySem.W.Frag) (H : Hp) (v : V) (d : Str × Str) : Prop := Sq K H v (DeV d)
def DeT (K : PySem.W.Frag) (H : Hp) (v : V) (d : Str × Str) : Prop := Tu K H v (DeV d)
def CdA (K : PySem.W.Frag) (H : Hp) (v : V) (c : CD) : Prop := ∃ m d s ds, Sq K H v [.str c.nm, .str c.hand, m, d, s] ∧ Sq K H m (c.moves.map V.int) ∧ Sq K H d ds ∧ Al (DeA K H) ds c.deeds ∧ Sq K H s (c.same.map V.str)
def CdT (K : PySem.W.Frag) (H : Hp) (v : V) (c : CD) : Prop := ∃ m d s ds, Tu K H v [.str c.nm, .str c.hand, m, d, s] ∧ Tu K H m (c.moves.map V.int) ∧ Tu K H d ds ∧ Al (DeT K H) ds c.deeds ∧ Tu K H s (c.same.map V.str)
theorem FdA.keep {H H' : Hp} {v : V} {f : FD} (e : Same H H') (h : FdA K H v f) : FdA K H' v f := Sq.keep e h
theorem FdT.keep {H H' : Hp} {v : V} {f : FD} (e : Same H H') (h : FdT K H v f) : FdT K H' v f := Tu.keep e h
theorem DeA.keep {H H' : Hp} {v : V} {f : Str × Str} (e : Same H H') (h : DeA K H v f) : DeA K H' v f := Sq.keep e h
theorem DeT.keep {H H' : Hp} {v : V} {f : Str × Str} (e : Same H H') (h : DeT K H v f) : DeT K H' v f := Tu.keep e h
theorem CdA.keep {H H' : Hp} {v : V} {c : CD} (e : Same H H') (h : CdA K H v c) : CdA K H' v c := by
  obtain ⟨m, d, s, ds, h1, h2, h3, h4, h5⟩ := h
  exact ⟨m, d, s, ds, h1.keep e, h2.keep e, h3.keep e, h4.mono fun _ _ h => DeA.keep e h, h5.keep e⟩
theorem CdT.keep {H H' : Hp} {v : V} {c : CD} (e : Same H H') (h : CdT K H v c) : CdT K H' v c := by
  obtain ⟨m, d, s, ds, h1, h2, h3, h4, h5⟩ := h
  exact ⟨m, d, s, ds, h1.keep e, h2.keep e, h3.keep e, h4.mono fun _ _ h => DeT.keep e h, h5.keep e⟩
theorem FdT.a {H : Hp} {v : V} {f : FD} (h : FdT K H v f) : FdA K H v f := Tu.sq h
theorem DeT.a {H : Hp} {v : V} {f : Str × Str} (h : DeT K H v f) : DeA K H v f := Tu.sq h
theorem CdT.a {H : Hp} {v : V} {c : CD} (h : CdT K H v c) : CdA K H v c := by
  obtain ⟨m, d, s, ds, h1, h2, h3, h4, h5⟩ := h
  exact ⟨m, d, s, ds, h1.sq, h2.sq, h3.sq, h4.mono fun _ _ h => DeT.a h, h5.sq⟩
end
def letterB (c : Nat) : Bool := decide (97 ≤ c) && decide (c ≤ 122)
def wordB (z : Str) : Bool := decide (1 ≤ z.cps.size) && decide (z.cps.size ≤ 8) && z.cps.toList.all letterB
def deedSorts (z : Str) : List Bool :=
  if z = "set" then [false] else if z = "add" then [true] else if z = "strike" then [true] else if z = "fresh" then [true] else if z = "clear" then [false, true] else []
def worded (ds : List (Str × Str)) : List Str := (ds.filter fun d => decide (d.1 = ("add" : Str)) || decide (d.1 = ("strike" : Str))).map (·.2)
structure FsOk (fs : List FD) : Prop where
  pos : 1 ≤ fs.length
  le : fs.length ≤ 3
  word : ∀ f ∈ fs, wordB f.nm = true
  nd : (fs.map (·.nm)).Nodup
structure CdOk (fs : List FD) (n : Nat) (c : CD) : Prop where
  word : wordB c.nm = true
  hand : c.hand = "self" ∨ c.hand = "new" ∨ c.hand = "last"
  len : c.moves.length = n
  move : ∀ m ∈ c.moves, -1 ≤ m ∧ m < n
  deeds : c.deeds.length ≤ 4
  deed : ∀ d ∈ c.deeds, ∃ f ∈ fs, f.nm = d.2 ∧ f.many ∈ deedSorts d.1
  once : (worded c.deeds).Nodup
  same : ∀ x ∈ c.same, ∃ f ∈ fs, f.nm = x ∧ f.many = true
  self : c.hand = "self" → c.same = []
  nd : c.same.Nodup
structure KdOk (fs : List FD) (n : Nat) (cs : List CD) : Prop where
  fields : FsOk fs
  pos : 1 ≤ n
  le : n ≤ 4
  cpos : 1 ≤ cs.length
  cle : cs.length ≤ 6
  calls : ∀ c ∈ cs, CdOk fs n c
  nd : (cs.map (·.nm)).Nodup
def DeOk (fs : List FD) (d : Str × Str) : Prop := ∃ f ∈ fs, f.nm = d.2 ∧ f.many ∈ deedSorts d.1
theorem worded_snoc (ds : List (Str × Str)) (d : Str × Str) : worded (ds ++ [d]) = worded ds ++ (if d.1 = ("add" : Str) ∨ d.1 = ("strike" : Str) then [d.2] else []) := by
  unfold worded
  rw [List.filter_append, List.map_append]
  congr 1
  by_cases h : d.1 = ("add" : Str) ∨ d.1 = ("strike" : Str)
  · rw [if_pos h]
    rcases h with h | h <;> simp [h]
  · rw [if_neg h]
    rw [not_or] at h
    simp [h.1, h.2]
/-- a list that may be changed -/
def Ls (H : Hp) (v : V) (xs : List V) : Prop := ∃ a, v = .ref a ∧ H a = some (.lst xs)
theorem Ls.sq {K : PySem.W.Frag} {H : Hp} {v : V} {xs : List V} (h : Ls H v xs) : Sq K H v xs := by
  obtain ⟨a, e, h⟩ := h
  exact ⟨a, e, .inl (SqL.of h)⟩
theorem Ls.keep {H H' : Hp} {v : V} {xs : List V} (e : Same H H') (h : Ls H v xs) : Ls H' v xs := by
  obtain ⟨a, r, h⟩ := h
  exact ⟨a, r, e _ _ h⟩
/-- a call as the laws draw them: a tuple with lists in it -/
def CdL (K : PySem.W.Frag) (H : Hp) (v : V) (c : CD) : Prop := ∃ m d s ds, Tu K H v [.str c.nm, .str c.hand, m, d, s] ∧ Ls H m (c.moves.map V.int) ∧ Ls H d ds ∧ Al (DeT K H) ds c.deeds ∧ Ls H s (c.same.map V.str)
theorem CdL.keep {K : PySem.W.Frag} {H H' : Hp} {v : V} {c : CD} (e : Same H H') (h : CdL K H v c) : CdL K H' v c := by
  obtain ⟨m, d, s, ds, h1, h2, h3, h4, h5⟩ := h
  exact ⟨m, d, s, ds, h1.keep e, h2.keep e, h3.keep e, h4.mono fun _ _ h => DeT.keep e h, h5.keep e⟩
theorem CdL.a {K : PySem.W.Frag} {H : Hp} {v : V} {c : CD} (h : CdL K H v c) : CdA K H v c := by
  obtain ⟨m, d, s, ds, h1, h2, h3, h4, h5⟩ := h
  exact ⟨m, d, s, ds, h1.sq, h2.sq, h3.sq, h4.mono fun _ _ h => DeT.a h, h5.sq⟩
/-- the modes that are drawn from -/
def smV (far : Int) (m : Nat) : List V := (List.replicate 3 (rgV 0 far)).flatten ++ (List.replicate m [V.int (-1)]).flatten
theorem rgV_mem {far : Int} {x : V} (h : x ∈ rgV 0 far) : ∃ z : Int, x = .int z ∧ 0 ≤ z ∧ z < far := by
  unfold rgV at h
  obtain ⟨i, hi, rfl⟩ := List.mem_map.mp h
  rw [List.mem_range] at hi
  exact ⟨_, rfl, by omega, by omega⟩
theorem smV_mem {far : Int} {m : Nat} {x : V} (hf : 0 < far) (h : x ∈ smV far m) : ∃ z : Int, x = .int z ∧ -1 ≤ z ∧ z < far := by
  unfold smV at h
  rcases List.mem_append.mp h with h | h
  · obtain ⟨l, hl, hx⟩ := List.mem_flatten.mp h
    obtain ⟨_, rfl⟩ := List.mem_replicate.mp hl
    obtain ⟨z, e, h0, h1⟩ := rgV_mem hx
    exact ⟨z, e, by omega, h1⟩
  · obtain ⟨l, hl, hx⟩ := List.mem_flatten.mp h
    obtain ⟨_, rfl⟩ := List.mem_replicate.mp hl
    exact ⟨-1, List.mem_singleton.mp hx, by omega, by omega⟩
theorem smV_len {far : Int} {m : Nat} (hf : 0 < far) : (smV far m).length = 3 * far.toNat + m := by
  unfold smV
  have h3 : (List.replicate 3 (rgV 0 far)).flatten.length = 3 * far.toNat := by
    show (rgV 0 far ++ (rgV 0 far ++ (rgV 0 far ++ []))).length = _
    rw [List.length_append, List.length_append, List.length_append, rgV_length]
    show (far - 0).toNat + ((far - 0).toNat + ((far - 0).toNat + 0)) = _
    rw [Int.sub_zero]
    omega
  have h4 : ∀ k : Nat, (List.replicate k [V.int (-1)]).flatten.length = k := fun k => by
    induction k with
    | zero => rfl
    | succ k ih =>
      rw [List.replicate_succ, List.flatten_cons, List.length_append, ih]
      show 1 + k = k + 1
      omega
  rw [List.length_append, h3, h4]
theorem dp_strs {K : PySem.W.Frag} {H : Hp} : ∀ zs : List Str, DpAll K H (zs.map V.str) (zs.map PyData.str)
  | [] => .nil
  | z :: zs => .cons (.str z) (dp_strs zs)
theorem strs_lay : ∀ zs : List Str, (∀ z ∈ zs, PyData.strOk z = true) → PyData.canLayAll0 (zs.map PyData.str) = true
  | [], _ => rfl
  | z :: zs, h => by
    rw [List.map_cons]
    unfold PyData.canLayAll0 PyData.canLay0
    rw [h z (List.mem_cons_self ..), Bool.true_and]
    exact strs_lay zs fun y hy => h y (List.mem_cons_of_mem _ hy)
theorem strs_depth : ∀ zs : List Str, PyData.depthAll (zs.map PyData.str) = 0
  | [] => rfl
  | z :: zs => by
    rw [List.map_cons]
    unfold PyData.depthAll
    rw [strs_depth zs]
    rfl
theorem strs_shaped (zs : List Str) (h : ∀ z ∈ zs, PyData.strOk z = true) : SeqAt.shaped (.list (zs.map PyData.str)) = true := by
  have h1 : PyData.canLay0 (.list (zs.map PyData.str)) = true := by
    unfold PyData.canLay0
    exact strs_lay zs h
  have h2 : PyData.depth (.list (zs.map PyData.str)) ≤ 64 := by
    unfold PyData.depth
    rw [strs_depth zs]
    decide
  unfold SeqAt.shaped
  rw [h1, decide_eq_true h2]
  rfl
theorem eqv_nil (zs : List Str) : PyData.eqv (.list (zs.map PyData.str)) (.list []) = zs.isEmpty := by
  cases zs <;> simp [PyData.eqv, PyData.eqvAll]
end MK
set_option Elab.async false
set_option linter.all false
set_option autoImplicit false
set_option maxRecDepth 100000
set_option maxHeartbeats 4000000
namespace MK
open PySem PySem.Spec PyProof.Rows L2
theorem take_next {zs : List Str} {i : Nat} (hi : i < zs.length) (y : Str) : decide (y ∈ zs.take (i + 1)) = (decide (y ∈ zs.take i) || decide (y = zs.getD i Str.empty)) := by
  have e : zs.take (i + 1) = zs.take i ++ [zs.getD i Str.empty] := by
    rw [List.take_add_one, List.getElem?_eq_getElem hi, List.getD_eq_getElem?_getD, List.getElem?_eq_getElem hi]
    rfl
  rw [e, Bool.eq_iff_iff]
  simp
theorem not_ahead {zs : List Str} {i : Nat} (nd : zs.Nodup) (hi : i < zs.length) : zs.getD i Str.empty ∉ zs.take i := by
  rw [List.getD_eq_getElem?_getD, List.getElem?_eq_getElem hi]
  intro m
  obtain ⟨j, hj⟩ := List.mem_iff_getElem?.mp m
  rw [List.getElem?_take] at hj
  split at hj
  · rename_i lt
    have hjl : j < zs.length := by omega
    rw [List.getElem?_eq_getElem hjl] at hj
    exact (List.pairwise_iff_getElem.mp nd j i hjl hi lt) (Option.some.inj hj)
  · cases hj
section
variable {prog : Program} {w : World} {A : Around} {R : Result → Shared → Prop} {I S : Addr} {fp wr : List Addr} {G : Array GenState → Array GenState → Prop} {n : Nat} {P : Nat → Value → Prop} {St : Nat → Shared → Prop} {zs : List Str}
theorem all_added (W : WalksS prog w A.in1 I fp wr G n P St) (off : S ∉ fp) (len : zs.length = n) (nd : zs.Nodup) (few : n < 1000) (at_ : ∀ i v, P i v → ∃ t, v = .str (zs.getD i Str.empty) t) :
    ∀ (left i : Nat) (s : Shared), i + left = n → St i s → s.heap.SetOf (strKind prog w) S (fun y => decide (y ∈ zs.take i)) i →
      (∀ s1, Moved (S :: wr) G s s1 → s1.heap.SetOf (strKind prog w) S (fun y => decide (y ∈ zs)) n → R (.ok (.ret .none)) s1) → codeAny (model prog w) A (.builtin "set.update.loop" ⟨[.ref S, .ref I], []⟩) R s := by
  intro left
  have off2 : S ∉ wr := fun m => off (W.sub _ m)
  induction left with
  | zero =>
    intro i s e st so k
    obtain rfl : i = n := e
    refine codeAny_builtin PyProof.Rows.F.entry_set_update_loop ?_
    rw [Around.under_plainId PyProof.Rows.F.plain_set_update_loop _]
    refine wpAny_bind (W.done s _ _ st fun s1 mv => wpAny_pure (k s1 (mv.mono fun b m => List.mem_cons_of_mem _ m) ?_))
    obtain ⟨o, es, ep, t, g, more⟩ := so
    have so1 : s1.heap.SetOf (strKind prog w) S (fun y => decide (y ∈ zs.take i)) i := ⟨o, es, ep, t, mv.heap S _ off2 g, more⟩
    rw [← len, List.take_length] at so1
    rw [← len]
    exact so1
  | succ left ih =>
    intro i s e st so k
    have lt : i < n := by omega
    have ltz : i < zs.length := by omega
    refine codeAny_builtin PyProof.Rows.F.entry_set_update_loop ?_
    rw [Around.under_plainId PyProof.Rows.F.plain_set_update_loop _]
    refine wpAny_bind (W.item i s _ _ lt st fun v s1 pv st1 mv => ?_)
    obtain ⟨t, rfl⟩ := at_ i v pv
    have so1 : s1.heap.SetOf (strKind prog w) S (fun y => decide (y ∈ zs.take i)) i := by
      obtain ⟨o, es, ep, tb, g, more⟩ := so
      exact ⟨o, es, ep, tb, mv.heap S _ off2 g, more⟩
    refine wpAny_bind (wpAny_holding ?_)
    unfold setAdd
    refine wpAny_holding (wpAny_bind ((strKind prog w).pyHash (k := zs.getD i Str.empty) (strKind_is _ _ _ _) ?_))
    refine wpAny_setAddHashed_of (knd := strKind prog w) (s := { s1 with toks := s1.toks + 1 }) (strKind_is _ _ _ _) rfl so1 (by unfold scanBound; omega) fun h2 only so2 => ?_
    have so3 : h2.SetOf (strKind prog w) S (fun y => decide (y ∈ zs.take (i + 1))) (i + 1) := by
      refine SetOf_congr so2 (fun y => (take_next ltz y).symm) ?_
      rw [decide_eq_false (not_ahead nd ltz)]
      rfl
    have keep : ∀ b, b ≠ S → ∀ o, s1.heap.get? b = some o → h2.get? b = some o := fun b ne o g => by
      rw [only.2 b ne]
      exact g
    refine wpAny_pure ⟨plainId_quiet PyProof.Rows.F.plain_set_update_loop _, ih (i + 1) _ (by omega) (W.frame _ s1 _ _ st1 (Nat.le_succ _) fun b m o g => keep b (fun q => off (q ▸ m)) o g) so3 fun s3 mv3 so4 => ?_⟩
    exact k s3 (Moved.trans W.gtrans ((mv.mono fun b m => List.mem_cons_of_mem _ m).then_heap (Nat.le_succ _) fun b o m g => keep b (fun q => m (by rw [q]; exact List.mem_cons_self)) o g) mv3) so4
end
section
variable {prog : Program} {w : World} {A : Around} {E : Value → Shared → Prop} {s : Shared} {l : Addr} {its : Array Value} {zs : List Str}
/-- a new set -/
def set0 (led : Bool) : Obj := { cls := .type "set", dict := none, data := .set #[] 0 (.fresh 0 0 led) }
def newS (s : Shared) (led : Bool) : Shared := { s with heap := s.heap.push (set0 led) }
/-- what set(texts) leaves -/
def Laid (prog : Program) (w : World) (s : Shared) (zs : List Str) (h : Heap) : Prop := h.SetOf (strKind prog w) s.heap.objs.size (fun y => decide (y ∈ zs)) zs.length ∧ ∀ b o, b < s.heap.objs.size → s.heap.get? b = some o → h.get? b = some o
theorem set_texts {Q : Value → Shared → Prop} (calm : A.handled = none) (hl : s.heap.IsList l its) (hz : StrsAre its.toList zs) (nd : zs.Nodup) (few : zs.length < 1000)
    (k : ∀ (h : Heap) (tk : Nat), Laid prog w s zs h → Q (.ref s.heap.objs.size) { s with heap := h, toks := tk }) : wpAny (model prog w) A (call (.type "set") [.ref l]) Q E s := by
  obtain ⟨c, tl, hmro⟩ := PySem.F.called_set.mro
  have m1 := PySem.F.called_set.made
  have m2 := PySem.F.called_set.sub
  refine wpAny_call (codeAny_of_tree (show wpAny _ _ (callAny (.type "set") _) _ _ _ from ?_))
  refine wpAny_pure ⟨Code.quiet_builtin _ (by decide +kernel), codeAny_builtin PySem.F.entry_type_call ?_⟩
  rw [Around.under_plain (weight_type_call_type "set" [.ref l] []) rfl]
  have m3 := PySem.F.called_set.notType
  have m4 := PySem.F.called_set.canCreate
  have m5 := PySem.F.typeCall_set_1 (.ref l)
  repeat (any_goals (first | assumption | wp_step))
  refine codeAny_mono (code_set_new_1 (.ref l) (E := E) (Q₁ := fun v s1 => ∃ led : Bool, v = .ref s.heap.objs.size ∧ s1 = newS s led) fun led => ⟨led, rfl, rfl⟩) fun r s1 hr => ?_
  cases r with
  | error e => exact hr
  | ok fl =>
    cases fl with
    | next => exact hr.elim
    | brk => exact hr.elim
    | cont => exact hr.elim
    | ret v =>
      obtain ⟨led, rfl, rfl⟩ := hr
      have at0 : (s.heap.push (set0 led)).get? s.heap.objs.size = some (set0 led) := Heap.get?_push_size _ rfl
      have ty0 : Shared.TypeIs (newS s led) (.ref s.heap.objs.size) "set" := ⟨_, at0, rfl⟩
      have m6 := PySem.F.called_set.init.lookup
      have m7 := PySem.F.called_set.init.bind (.ref s.heap.objs.size)
      unfold newS at ty0 ⊢
      repeat (any_goals (first | assumption | wp_step))
      refine codeAny_mono (codeAny_call_builtin (R := wants (fun v s2 => v = .none ∧ ∃ h tk, s2 = { s with heap := h, toks := tk } ∧ Laid prog w s zs h) E) PySem.F.called_set.init.plain PySem.F.entry_set_init (check_set_init_1 ty0 ?_)) fun r2 s2 h2 => ?_
      · obtain ⟨⟨cl, di, da, sl⟩, g, rfl, nl, rfl⟩ := hl
        have g0 : (s.heap.push (set0 led)).get? l = some { cls := .type "list", dict := di, data := .seq its nl, slots := sl } := Heap.get?_push_of_some _ g
        have n1 := PySem.F.sub_list_set
        have n2 := PySem.F.sub_list_frozenset
        have n3 : (Value.type "list" == Value.type "dict") = false := by decide
        have l0 : (s.heap.push (set0 led)).IsList l its := ⟨_, g0, rfl, nl, rfl⟩
        unfold Builtin.«set.__init__» noKeywords Builtin.Frozenset.updateFrom
        generalize hit : pyIter = it
        wp_walk
        subst hit
        refine wpAny_pyIter_list l0 (wpAny_bind (wpAny_runValue ?_))
        have below : l < s.heap.objs.size := Heap.lt_size g
        have sz : (s.heap.push (set0 led)).objs.size = s.heap.objs.size + 1 := Heap.size_push ..
        have d1 : l ≠ (s.heap.push (set0 led)).objs.size := Nat.ne_of_lt (by rw [sz]; exact Nat.lt_succ_of_lt below)
        have d2 : s.heap.objs.size ∉ [(s.heap.push (set0 led)).objs.size, l] := by
          rw [sz]
          intro m
          rcases List.mem_cons.mp m with e | m
          · omega
          · exact absurd (List.mem_singleton.mp m) (Nat.ne_of_gt below)
        have lz : zs.length = its.size := by rw [← StrsAre.len_eq hz, Array.length_toList]
        refine all_added (S := s.heap.objs.size) ((Walks.list (by simp [calm]) _ l d1 its).toS) d2 lz nd (by omega) (fun i v e => SS.strs_at hz i v (by rw [Array.getElem?_toList]; exact e)) its.size 0 _ (Nat.zero_add _)
          ⟨⟨_, Heap.get?_push_size _ rfl, rfl, rfl⟩, l0.push _⟩ ?_ ?_
        · have g1 := Heap.get?_push_of_some { cls := .type "list_iterator", data := .fields #[.ref l, .int 0 0] } at0
          exact SetOf_congr ((setObjOf_fresh (knd := strKind prog w) led).setOf g1 (by unfold scanBound; omega)) (fun _ => rfl) rfl
        · rintro ⟨h, g', d', tk, os'⟩ mv so
          obtain rfl : g' = s.gens := mv.gens
          obtain rfl : d' = s.drawn := mv.drawn
          obtain rfl : os' = s.os := mv.os
          refine wpAny_pure (wpAny_pure ⟨rfl, h, tk, rfl, by rw [lz]; exact so, fun b o lt e => ?_⟩)
          refine mv.heap b o (fun m => ?_) (Heap.get?_push_of_some _ (Heap.get?_push_of_some _ e))
          rcases List.mem_cons.mp m with q | m
          · exact Nat.ne_of_lt lt q
          · rcases List.mem_cons.mp m with q | m
            · rw [sz] at q
              exact Nat.ne_of_lt (Nat.lt_succ_of_lt lt) q
            · cases m
      · cases r2 with
        | error e => exact h2
        | ok fl =>
          cases fl with
          | next => exact h2.elim
          | brk => exact h2.elim
          | cont => exact h2.elim
          | ret v =>
            obtain ⟨rfl, h, tk, rfl, laid⟩ := h2
            repeat (any_goals (first | assumption | wp_step))
            exact k h _ laid
end
end MK
set_option Elab.async false
set_option linter.all false
set_option autoImplicit false
set_option maxRecDepth 100000
set_option maxHeartbeats 4000000
namespace MK
open PySem PySem.Spec PyProof.Rows L2
section
variable {prog : Program} {w : World} {A : Around} {E : Value → Shared → Prop} {s : Shared} {l : Addr} {its : Array Value} {zs : List Str}
theorem set_textsT {Q : Value → Shared → Prop} (calm : A.handled = none) (hl : s.heap.IsTuple l its) (hz : StrsAre its.toList zs) (nd : zs.Nodup) (few : zs.length < 1000)
    (k : ∀ (h : Heap) (tk : Nat), Laid prog w s zs h → Q (.ref s.heap.objs.size) { s with heap := h, toks := tk }) : wpAny (model prog w) A (call (.type "set") [.ref l]) Q E s := by
  obtain ⟨c, tl, hmro⟩ := PySem.F.called_set.mro
  have m1 := PySem.F.called_set.made
  have m2 := PySem.F.called_set.sub
  refine wpAny_call (codeAny_of_tree (show wpAny _ _ (callAny (.type "set") _) _ _ _ from ?_))
  refine wpAny_pure ⟨Code.quiet_builtin _ (by decide +kernel), codeAny_builtin PySem.F.entry_type_call ?_⟩
  rw [Around.under_plain (weight_type_call_type "set" [.ref l] []) rfl]
  have m3 := PySem.F.called_set.notType
  have m4 := PySem.F.called_set.canCreate
  have m5 := PySem.F.typeCall_set_1 (.ref l)
  repeat (any_goals (first | assumption | wp_step))
  refine codeAny_mono (code_set_new_1 (.ref l) (E := E) (Q₁ := fun v s1 => ∃ led : Bool, v = .ref s.heap.objs.size ∧ s1 = newS s led) fun led => ⟨led, rfl, rfl⟩) fun r s1 hr => ?_
  cases r with
  | error e => exact hr
  | ok fl =>
    cases fl with
    | next => exact hr.elim
    | brk => exact hr.elim
    | cont => exact hr.elim
    | ret v =>
      obtain ⟨led, rfl, rfl⟩ := hr
      have at0 : (s.heap.push (set0 led)).get? s.heap.objs.size = some (set0 led) := Heap.get?_push_size _ rfl
      have ty0 : Shared.TypeIs (newS s led) (.ref s.heap.objs.size) "set" := ⟨_, at0, rfl⟩
      have m6 := PySem.F.called_set.init.lookup
      have m7 := PySem.F.called_set.init.bind (.ref s.heap.objs.size)
      unfold newS at ty0 ⊢
      repeat (any_goals (first | assumption | wp_step))
      refine codeAny_mono (codeAny_call_builtin (R := wants (fun v s2 => v = .none ∧ ∃ h tk, s2 = { s with heap := h, toks := tk } ∧ Laid prog w s zs h) E) PySem.F.called_set.init.plain PySem.F.entry_set_init (check_set_init_1 ty0 ?_)) fun r2 s2 h2 => ?_
      · obtain ⟨⟨cl, di, da, sl⟩, g, rfl, nl, rfl⟩ := hl
        have g0 : (s.heap.push (set0 led)).get? l = some { cls := .type "tuple", dict := di, data := .seq its nl, slots := sl } := Heap.get?_push_of_some _ g
        have n1 := PySem.F.sub_tuple_set
        have n2 := PySem.F.sub_tuple_frozenset
        have n3 : (Value.type "tuple" == Value.type "dict") = false := by decide
        have l0 : (s.heap.push (set0 led)).IsTuple l its := ⟨_, g0, rfl, nl, rfl⟩
        unfold Builtin.«set.__init__» noKeywords Builtin.Frozenset.updateFrom
        generalize hit : pyIter = it
        wp_walk
        subst hit
        refine wpAny_pyIter_tuple l0 (wpAny_bind (wpAny_runValue ?_))
        have below : l < s.heap.objs.size := Heap.lt_size g
        have sz : (s.heap.push (set0 led)).objs.size = s.heap.objs.size + 1 := Heap.size_push ..
        have d1 : l ≠ (s.heap.push (set0 led)).objs.size := Nat.ne_of_lt (by rw [sz]; exact Nat.lt_succ_of_lt below)
        have d2 : s.heap.objs.size ∉ [(s.heap.push (set0 led)).objs.size, l] := by
          rw [sz]
          intro m
          rcases List.mem_cons.mp m with e | m
          · omega
          · exact absurd (List.mem_singleton.mp m) (Nat.ne_of_gt below)
        have lz : zs.length = its.size := by rw [← StrsAre.len_eq hz, Array.length_toList]
        refine all_added (S := s.heap.objs.size) ((Walks.tuple (by simp [calm]) _ l d1 its).toS) d2 lz nd (by omega) (fun i v e => SS.strs_at hz i v (by rw [Array.getElem?_toList]; exact e)) its.size 0 _ (Nat.zero_add _)
          ⟨⟨_, Heap.get?_push_size _ rfl, rfl, rfl⟩, l0.push _⟩ ?_ ?_
        · have g1 := Heap.get?_push_of_some { cls := .type "tuple_iterator", data := .fields #[.ref l, .int 0 0] } at0
          exact SetOf_congr ((setObjOf_fresh (knd := strKind prog w) led).setOf g1 (by unfold scanBound; omega)) (fun _ => rfl) rfl
        · rintro ⟨h, g', d', tk, os'⟩ mv so
          obtain rfl : g' = s.gens := mv.gens
          obtain rfl : d' = s.drawn := mv.drawn
          obtain rfl : os' = s.os := mv.os
          refine wpAny_pure (wpAny_pure ⟨rfl, h, tk, rfl, by rw [lz]; exact so, fun b o lt e => ?_⟩)
          refine mv.heap b o (fun m => ?_) (Heap.get?_push_of_some _ (Heap.get?_push_of_some _ e))
          rcases List.mem_cons.mp m with q | m
          · exact Nat.ne_of_lt lt q
          · rcases List.mem_cons.mp m with q | m
            · rw [sz] at q
              exact Nat.ne_of_lt (Nat.lt_succ_of_lt lt) q
            · cases m
      · cases r2 with
        | error e => exact h2
        | ok fl =>
          cases fl with
          | next => exact h2.elim
          | brk => exact h2.elim
          | cont => exact h2.elim
          | ret v =>
            obtain ⟨rfl, h, tk, rfl, laid⟩ := h2
            repeat (any_goals (first | assumption | wp_step))
            exact k h _ laid
end
/-- len(set(xs)), xs a list or tuple of distinct texts -/
def tLenS (K : PySem.W.Frag) (ta : TE) : TE := fun σ H Q => ta σ H fun x H1 => ∃ zs : List Str, Sq K H1 x (zs.map V.str) ∧ zs.Nodup ∧ zs.length < 1000 ∧ Q (.int zs.length) H1
theorem pe_lenS {X : Cx} {a : Expr} {ta : TE} {p p2 q pos : Pos} (hc : X.calm = true) (hg : Gl X "len") (hm : X.mg "len" = none) (hg2 : Gl X "set") (hm2 : X.mg "set" = none) (ha : PE X a ta)
    (na : starEach [a] X.env = (false, eval a X.env) :: starEach [] X.env := by rfl) : PE X (.Call (.Name "len" p) [.Call (.Name "set" p2) [a] [] q] [] pos) (tLenS X.K ta) := by
  refine ⟨fun pins s σ H Q I h => Call_ (ld_blt I hg hm boot_len (callWith_builtin1 (args_cons (Call_ (ld_blt I hg2 hm2 boot_set ?_)) rfl) rfl rfl))⟩
  refine callWith_type1 (args_cons (thn (ha.run pins s σ H _ I h) fun v s1 ⟨x, H1, I1, r1, zs, ⟨l, e, sq⟩, nd, few, q⟩ => args_nil ?_) na) na rfl
  subst e
  cases r1
  have fin : ∀ (h : Heap) (tk : Nat), Laid X.prog X.w s1 zs h → wpAny (model X.prog X.w) X.A (spliced (backTo pos (starEach [] X.env)))
      (fun vs s2 => wpAny (model X.prog X.w) X.A (call (.builtin "len") (Value.ref s1.heap.objs.size :: vs)) (EP X pins σ Q) X.xe s2) X.xe { s1 with heap := h, toks := tk } := fun h tk ⟨so, kp⟩ => by
    obtain ⟨o, es, ep, t, g, ex, hd, _, _, _, fits, cnt⟩ := so
    have I2 : Inv X pins σ H1 { s1 with heap := h, toks := tk } := I1.kept fun b o e => kp b o (Heap.lt_size e) e
    exact args_nil (call_len_set g ex hd fits (by rw [cnt] <;> omega) ⟨.int zs.length, H1, I2.tok _, ⟨_, by rw [cnt]⟩, q⟩)
  rcases sq with sq | sq
  · obtain ⟨us, r, pl, _⟩ := I1.list sq
    exact set_texts (I1.ok.hd hc) pl.isList (by simpa using strsAre_of r) nd few fin
  · obtain ⟨us, r, pl, _⟩ := I1.tuple sq
    exact set_textsT (I1.ok.hd hc) pl (by simpa using strsAre_of r) nd few fin
end MK
set_option Elab.async false
set_option linter.all false
set_option autoImplicit false
set_option maxRecDepth 100000
set_option maxHeartbeats 4000000
namespace MK
open PySem PySem.Spec PyProof.Rows L2
/-- a constant of the module -/
theorem pe_cst {X : Cx} {x : Str} {pos : Pos} {v : V} (hg : Gl X x) (h : ∃ u, X.mg x = some u ∧ RelV v u) (hd : (x == ("__debug__" : Str)) = false := by decide) : PE X (.Name x pos) (tC v) := by
  obtain ⟨u, m, r⟩ := h
  exact pe_glob hg m r hd
theorem any_two {K : PySem.W.Frag} {t a b : String} {r1 r2 : Bool} (h1 : kitB t a = some r1) (h2 : kitB t b = some r2) : PySem.W.kitAny K (.type t) [.type a, .type b] = some (r1 || r2) := by
  refine kitAny_cons (kit_ty h1) (fun e => ?_) (fun e => by rw [e]; rfl)
  refine kitAny_cons (kit_ty h2) (fun e2 => ?_) (fun e2 => by rw [e2, Bool.or_true])
  rw [e, e2]
  rfl
/-- it is a list or a tuple -/
theorem sq_ty {K : PySem.W.Frag} {H : Hp} {a : Addr} {xs : List V} (h : SqL K H a xs ∨ SqT K H a xs) : ∃ t, TyX K H (.ref a) (.type t) ∧ PySem.W.kitAny K (.type t) [.type "list", .type "tuple"] = some true := by
  rcases h with h | h
  · exact ⟨"list", tyx_l h, any_two (r1 := true) (r2 := false) (by decide +kernel) (by decide +kernel)⟩
  · exact ⟨"tuple", tyx_t h, any_two (r1 := false) (r2 := true) (by decide +kernel) (by decide +kernel)⟩
/-- (a, b, ..) = a list or a tuple of that length -/
def gSq (K : PySem.W.Frag) (n : Nat) (t : TGs) : TG := fun v σ H Q => ∃ xs, Sq K H v xs ∧ xs.length = n ∧ t xs σ H Q
theorem pg_sq {X : Cx} {es : List Expr} {k : Nat} {t : TGs} {n : Nat} {pos : Pos} (hc : X.calm = true) (h : PGs X es t)
    (hn : (assignEach es X.env).length = n := by rfl) (hst : (assignEach es X.env).findIdx? (·.1) = none := by rfl) : PG X (.Tuple es k pos) (gSq X.K n t) := by
  refine ⟨fun pins s σ H v u Q I r ⟨xs, ⟨a, e, sq⟩, l, q⟩ => ?_⟩
  rcases sq with sq | sq
  · exact (pg_unl hc h hn hst).run pins s σ H v u Q I r ⟨a, xs, e, sq, l, q⟩
  · exact (pg_tup hc h hn hst).run pins s σ H v u Q I r ⟨a, xs, e, sq, l, q⟩
/-- what is walked is a list or a tuple, of which nothing changes on the way -/
def iSqS (K : PySem.W.Frag) (te : TE) : TI := fun σ H R => te σ H fun v H1 => ∃ (a : Addr) (xs : List V) (H0 : Hp), v = .ref a ∧ (SqL K H0 a xs ∨ SqT K H0 a xs) ∧ Same H0 H1 ∧
  ∀ (J : It) (G : Hp → Prop), Walk J xs.length G (YAt xs) → (∀ H', Same H0 H' → G H') → R J H1
def iEnS (K : PySem.W.Frag) (ta : TA) : TI := fun σ H R => ta σ H fun vs H1 => ∃ (a : Addr) (xs : List V) (H0 : Hp), vs = [.ref a] ∧ (SqL K H0 a xs ∨ SqT K H0 a xs) ∧ Same H0 H1 ∧
  ∀ (J : It) (G : Hp → Prop), Walk J xs.length G (YPair (fun i => some (.int (i : Nat))) (fun i => xs[i]?)) → (∀ H', Same H0 H' → G H') → R J H1
theorem pi_sqV {X : Cx} {tg e : Expr} {i : Nat} (h : PE X e (tVar i)) : PI X tg e (iSqS X.K (tVar i)) := by
  refine ⟨fun pins s σ H R I ⟨v, ev, a, xs, H0, r, sq, sm, k⟩ => ?_⟩
  subst r
  rcases sq with sq | sq
  · exact (pi_list h).run pins s σ H R I ⟨_, ev, a, rfl, ⟨xs, sm.seq sq⟩, k _ _ walk_list fun H' e' => e'.seq sq⟩
  · exact (pi_tup h).run pins s σ H R I ⟨_, ev, a, rfl, ⟨xs, same_t sm sq⟩, k _ _ walk_tup fun H' e' => same_t e' sq⟩
theorem pi_enV {X : Cx} {e : Expr} {i : Nat} {p pos tpos : Pos} {elts : List Expr} {kk : Nat} (hg : Gl X "enumerate") (hm : X.mg "enumerate" = none) (ha : PA X [e] (tCons (tVar i) tNil)) (hs : starEach [e] X.env = [(false, eval e X.env)] := by rfl) :
    PI X (.Tuple elts kk tpos) (.Call (.Name "enumerate" p) [e] [] pos) (iEnS X.K (tCons (tVar i) tNil)) := by
  refine ⟨fun pins s σ H R I ⟨v, ev, a, xs, H0, r, sq, sm, k⟩ => ?_⟩
  obtain ⟨rfl, _⟩ := List.cons.inj r
  rcases sq with sq | sq
  · exact (pi_enum hg hm ha hs).run pins s σ H R I ⟨_, ev, a, xs, rfl, sm.seq sq, k _ _ walk_enum fun H' e' => e'.seq sq⟩
  · exact (pi_enumT hg hm ha hs).run pins s σ H R I ⟨_, ev, a, xs, rfl, same_t sm sq, k _ _ walk_enumT fun H' e' => same_t e' sq⟩
theorem iteB {b : Bool} {A B : Prop} (e : b = false) (h : B) : if b = true then A else B := by
  subst e
  exact iteF h
theorem iteA {b : Bool} {A B : Prop} (e : b = true) (h : A) : if b = true then A else B := by
  subst e
  exact iteT h
/-- d[e], d a written dict of the module -/
def tKGet (K : PySem.W.Frag) (d : Addr) (td ty : TE) : TE := fun σ H Q => td σ H fun x H1 => ty σ H1 fun y H2 => ∃ (z : Str) (u0 : Value) (v0 : V), x = .ref d ∧ y = .str z ∧ PySem.W.nsIn K d z = some (some u0) ∧ RelV v0 u0 ∧ Q v0 H2
theorem pe_kget {X : Cx} {d : Addr} {es : Array DictEntry} {n : Nat} {o i : Expr} {pos : Pos} {td ty : TE} (D : KDict X.K X.w d es n) (ho : PE X o td) (hi : PE X i ty) (hs : NoSl i) : PE X (.Subscript o i pos) (tKGet X.K d td ty) := by
  refine ⟨fun pins s σ H Q I h => ?_⟩
  refine subD_of PySem.F.slot_dict_getitem.lookup hs (thn (ho.run pins s σ H _ I h) fun u s1 ⟨x, H1, I1, rx, q1⟩ => thn (hi.run pins s1 σ H1 _ I1 q1) fun iv s2 ⟨y, H2, I2, ry, z, u0, v0, ex, ey, eq, rv, q2⟩ => ?_)
  have rx' := rx
  rw [ex] at rx'
  obtain rfl : u = Value.ref d := rx'
  exact ⟨kd_type D I2, op_item_kd D pins s2 σ H2 x y _ iv Q I2 rx ry ⟨z, u0, v0, ex, ey, eq, rv, q2⟩⟩
/-- the dict of the sorts -/
def sortsV (fs : List FD) : List (Key × V) := fs.map fun f => (.inr f.nm, .str (sortS f.many))
theorem sorts_get : ∀ {fs : List FD}, (fs.map (·.nm)).Nodup → ∀ {f : FD}, f ∈ fs → valV (sortsV fs) (.inr f.nm) = some (.str (sortS f.many))
  | [], _, f, h => by cases h
  | g :: gs, nd, f, h => by
    rw [List.map_cons, List.nodup_cons] at nd
    rcases List.mem_cons.mp h with rfl | h
    · exact valV_pos rfl
    · have ne : ¬ g.nm = f.nm := fun e => nd.1 (e ▸ List.mem_map_of_mem h)
      show valV ((.inr g.nm, .str (sortS g.many)) :: sortsV gs) (.inr f.nm) = _
      rw [valV_neg (fun e => ne (Sum.inr.inj e))]
      exact sorts_get nd.2 h
theorem call_tuple_ofK {X : Cx} {K : PySem.W.Frag} (h : X.K = K) : CallR X (.type "tuple") (fun xs H Q => ∃ p ys, xs = [.ref p] ∧ ((SqL K H p ys ∧ ∀ l, H l = none → Q (.ref l) (upd H l (.tup ys))) ∨ (SqT K H p ys ∧ Q (.ref p) H))) := by subst h; exact call_tuple_of
theorem rd_tup {K : PySem.W.Frag} {s : Addr} {H : Hp} {x : V} {ys : List V} {Q : VK} (hs : H s ≠ none) (h : Sq K (Off s H) x ys) (q : ∀ v H', Same H H' → Tu K (Off s H') v ys → Q v H') :
    ∃ p zs, [x] = [.ref p] ∧ ((SqL K H p zs ∧ ∀ l, H l = none → Q (.ref l) (upd H l (.tup zs))) ∨ (SqT K H p zs ∧ Q (.ref p) H)) := by
  obtain ⟨p, rfl, h⟩ := h
  rcases h with h | h
  · refine ⟨p, ys, rfl, .inl ⟨off_same.seq h, fun l hl => q _ _ (same_new (Same.refl H) hl) (Tu.tup ?_)⟩⟩
    rw [off_ne (fun e : l = s => hs (by rw [← e]; exact hl)), upd_same]
  · exact ⟨p, ys, rfl, .inr ⟨same_t off_same h, q _ _ (Same.refl H) ⟨p, rfl, h⟩⟩⟩
theorem rd_tupM {K : PySem.W.Frag} {s : Addr} {H : Hp} {x : V} {ys : List V} (hs : H s ≠ none) (h : Sq K (Off s H) x ys) :
    ∃ p zs, [x] = [.ref p] ∧ ((SqL K H p zs ∧ ∀ l, H l = none → Same H (upd H l (.tup zs)) ∧ Tu K (Off s (upd H l (.tup zs))) (.ref l) ys) ∨ (SqT K H p zs ∧ Same H H ∧ Tu K (Off s H) (.ref p) ys)) :=
  rd_tup (Q := fun v H' => Same H H' ∧ Tu K (Off s H') v ys) hs h fun _ _ e t => ⟨e, t⟩
theorem ne_s {s d : Addr} {H H1 : Hp} (hs : H s ≠ none) (e : Same H H1) (h : H1 d = none) : d ≠ s := fun q => by
  cases z : H s with
  | none => exact hs z
  | some o => rw [q, e _ _ z] at h; cases h
theorem kept_s {s : Addr} {H H1 : Hp} (hs : H s ≠ none) (e : Same H H1) : H1 s ≠ none := by
  cases z : H s with
  | none => exact absurd z hs
  | some o => rw [e _ _ z]; exact nofun
theorem len_sub : ∀ {xs ys : List Str}, xs.Nodup → (∀ x ∈ xs, x ∈ ys) → xs.length ≤ ys.length
  | [], _, _, _ => Nat.zero_le _
  | x :: xs, ys, nd, h => by
    rw [List.nodup_cons] at nd
    have hx := h x (List.mem_cons_self ..)
    have := len_sub (ys := ys.erase x) nd.2 fun y hy => (List.mem_erase_of_ne (fun e : y = x => nd.1 (by rw [← e]; exact hy))).mpr (h y (List.mem_cons_of_mem _ hy))
    rw [List.length_erase_of_mem hx] at this
    have := List.length_pos_of_mem hx
    rw [List.length_cons]
    omega
theorem Tu.offL {K : PySem.W.Frag} {H : Hp} {v : V} {xs : List V} {d : Addr} {ys : List V} (h : Tu K H v xs) (hd : H d = some (.lst ys)) : Tu K (Off d H) v xs := by
  obtain ⟨b, rfl, h⟩ := h
  refine ⟨b, rfl, ?_⟩
  rcases h with (h | ⟨o, h⟩) | h
  · exact .inl (.inl ((off_ne (fun e => by rw [e, hd] at h; cases h)).trans h))
  · exact .inl (.inr ⟨o, (off_ne (fun e => by rw [e, hd] at h; cases h)).trans h⟩)
  · exact .inr h
/-- nothing that is a tuple -/
def NoTup (o : HO) : Prop := (∀ ys, o ≠ .tup ys) ∧ ∀ p ys, o ≠ .frz p (.tup ys)
theorem Tu.off {K : PySem.W.Frag} {H : Hp} {v : V} {xs : List V} {d : Addr} {o : HO} (h : Tu K H v xs) (hd : H d = some o) (no : NoTup o) : Tu K (Off d H) v xs := by
  obtain ⟨b, rfl, h⟩ := h
  refine ⟨b, rfl, ?_⟩
  rcases h with (h | ⟨p, h⟩) | h
  · exact .inl (.inl ((off_ne (fun e => by rw [e, hd] at h; exact no.1 _ (Option.some.inj h))).trans h))
  · exact .inl (.inr ⟨p, (off_ne (fun e => by rw [e, hd] at h; exact no.2 _ _ (Option.some.inj h))).trans h⟩)
  · exact .inr h
theorem CdT.off {K : PySem.W.Frag} {H : Hp} {v : V} {c : CD} {d : Addr} {o : HO} (h : CdT K H v c) (hd : H d = some o) (no : NoTup o) : CdT K (Off d H) v c := by
  obtain ⟨m, dv, s, ds, h1, h2, h3, h4, h5⟩ := h
  exact ⟨m, dv, s, ds, h1.off hd no, h2.off hd no, h3.off hd no, h4.mono fun _ _ h => Tu.off h hd no, h5.off hd no⟩
theorem no_lst {xs : List V} : NoTup (.lst xs) := ⟨fun _ h => HO.noConfusion h, fun _ _ h => HO.noConfusion h⟩
theorem no_ins {C dx : Addr} {fs : List (Str × V)} : NoTup (.ins C dx fs) := ⟨fun _ h => HO.noConfusion h, fun _ _ h => HO.noConfusion h⟩
theorem no_dK {kvs : List (Key × V)} : NoTup (.dK kvs) := ⟨fun _ h => HO.noConfusion h, fun _ _ h => HO.noConfusion h⟩
theorem same_offN {A B : Hp} {d : Addr} (e : Same A B) (h : A d = none) : Same A (Off d B) := fun b o hb => by
  rw [off_ne (fun q => by rw [q, h] at hb; cases hb)]
  exact e _ _ hb
/-- the i-th turn of a dict comprehension, over anything that is walked -/
theorem dc_it {J : It} {n : Nat} {G : Hp → Prop} {Y : Nat → Hp → V → Hp → Prop} (wk : Walk J n G Y) {g : TG} {tt : TT} {tk tv : TE} {vs : List Nat} {σ : L2.St} {H1 : Hp} {D : Addr} {Qd : Hp → Prop} (Pv : Nat → Hp → Prop) (h0 : Pv 0 (upd H1 D (.dK []))) (hG : ∀ i H, i ≤ n → Pv i H → G H)
    (hs : ∀ i x H H', i < n → Pv i H → Y i H x H' → g x (wipe σ vs) H' fun σ2 H2 => wipe σ2 vs = wipe σ vs ∧ tt σ2 H2 fun b H3 =>
      if b = true then tk σ2 H3 fun y H4 => tv σ2 H4 fun z H5 => ∃ kvs k, y = kV k ∧ H5 D = some (.dK kvs) ∧ kvs.length < sizeLine ∧ Pv (i + 1) (upd H5 D (.dK (putK kvs k z))) else Pv (i + 1) H3) (hd : ∀ H, Pv n H → Qd H) :
    ∃ W : Nat → Nat → Hp → Prop, (∃ m, W 0 m (upd H1 D (.dK []))) ∧ ∀ i m H, W i m H →
      (J.stop i H ∧ Qd H) ∨ (J.go i H ∧ ∃ Nx : Hp → Prop, (∀ H', Nx H' → ∃ m', m' < m ∧ W (i + 1) m' H') ∧ ∀ x H', J.yld i H x H' → g x (wipe σ vs) H' fun σ2 H2 => wipe σ2 vs = wipe σ vs ∧ tt σ2 H2 fun b H3 =>
        if b = true then tk σ2 H3 fun y H4 => tv σ2 H4 fun z H5 => ∃ kvs k, y = kV k ∧ H5 D = some (.dK kvs) ∧ kvs.length < sizeLine ∧ Nx (upd H5 D (.dK (putK kvs k z))) else Nx H3) := by
  refine ⟨fun i m H => m + i = n ∧ Pv i H, ⟨n, rfl, h0⟩, fun i m H ⟨e, p⟩ => ?_⟩
  cases m with
  | zero =>
    have e : i = n := by omega
    subst e
    exact .inl ⟨wk.stops _ (hG _ _ (Nat.le_refl _) p), hd _ p⟩
  | succ m =>
    have lt : i < n := by omega
    have gH := hG _ _ (Nat.le_of_lt lt) p
    exact .inr ⟨wk.goes _ _ lt gH, Pv (i + 1), fun H' p' => ⟨m, Nat.lt_succ_self m, by omega, p'⟩, fun x H' y => hs i x H H' lt p (wk.yields _ _ _ _ lt gH y)⟩
theorem putK_new {kvs : List (Key × V)} {k : Key} {v : V} (h : ∀ p ∈ kvs, p.1 ≠ k) : putK kvs k v = kvs ++ [(k, v)] := by
  unfold putK
  rw [if_neg]
  intro q
  obtain ⟨p, hp, e⟩ := List.any_eq_true.mp q
  exact h p hp (of_decide_eq_true e)
/-- the places of the fields, the calls by their names -/
def spotsV (fs : List FD) : List (Key × V) := (List.range fs.length).zipWith (fun i (f : FD) => ((.inr f.nm : Key), V.int (i : Nat))) fs
def tableV (cs : List CD) (sv : List V) : List (Key × V) := List.zipWith (fun (c : CD) v => ((.inr c.nm : Key), v)) cs sv
def KdA (K : PySem.W.Frag) (KC : Addr) (H : Hp) (v : V) (fs : List FD) (n : Nat) (cs : List CD) : Prop := ∃ (x dx so sp tb : Addr) (t st : V) (tv sv : List V), v = .ref x ∧
  H x = some (.ins KC dx [("triples", t), ("sorts", .ref so), ("spots", .ref sp), ("modes", .int n), ("steps", st), ("table", .ref tb)]) ∧ Tu K H t tv ∧ Al (FdT K H) tv fs ∧ H so = some (.dK (sortsV fs)) ∧ H sp = some (.dK (spotsV fs)) ∧
  Tu K H st sv ∧ Al (CdT K H) sv cs ∧ H tb = some (.dK (tableV cs sv))
theorem KdA.keep {K : PySem.W.Frag} {KC : Addr} {H H' : Hp} {v : V} {fs : List FD} {n : Nat} {cs : List CD} (e : Same H H') (h : KdA K KC H v fs n cs) : KdA K KC H' v fs n cs := by
  obtain ⟨x, dx, so, sp, tb, t, st, tv, sv, h0, h1, h2, h3, h4, h5, h6, h7, h8⟩ := h
  exact ⟨x, dx, so, sp, tb, t, st, tv, sv, h0, e _ _ h1, h2.keep e, h3.mono fun _ _ h => FdT.keep e h, e _ _ h4, e _ _ h5, h6.keep e, h7.mono fun _ _ h => CdT.keep e h, e _ _ h8⟩
theorem lt_sing (a b : Nat) : (decide ([a] < [b])) = decide (a < b) := by
  rw [Bool.eq_iff_iff, decide_eq_true_iff, decide_eq_true_iff]
  constructor
  · intro h
    cases h with
    | rel h => exact h
    | cons h => cases h
  · intro h
    exact List.Lex.rel h
theorem letter_le (c : Nat) : (!decide ((⟨#[c]⟩ : Str).cps.toList < ("a" : Str).cps.toList)) = decide (97 ≤ c) := by
  show (!decide ([c] < [97])) = _
  rw [lt_sing, Bool.eq_iff_iff]
  simp
theorem letter_ge (c : Nat) : (!decide (("z" : Str).cps.toList < (⟨#[c]⟩ : Str).cps.toList)) = decide (c ≤ 122) := by
  show (!decide ([122] < [c])) = _
  rw [lt_sing, Bool.eq_iff_iff]
  simp
theorem letters_take (xs : List Nat) (i : Nat) (c : Nat) (h : xs[i]? = some c) : (xs.take (i + 1)).map letterB = (xs.take i).map letterB ++ [letterB c] := by
  rw [List.take_succ, h]
  simp
end MK
set_option Elab.async false
set_option linter.all false
set_option autoImplicit false
set_option maxRecDepth 100000
set_option maxHeartbeats 400000
namespace MK
open PySem PySem.Spec PyProof.Rows L2
theorem put_take {full : List (Key × V)} {i : Nat} {k : Key} {v : V} (nd : (full.map (·.1)).Nodup) (h : full[i]? = some (k, v)) : putK (full.take i) k v = full.take (i + 1) := by
  rw [List.take_succ, h]
  refine putK_new fun p hp e => ?_
  obtain ⟨j, hj⟩ := List.mem_iff_getElem?.mp hp
  rw [List.getElem?_take] at hj
  split at hj
  · rename_i lt
    obtain ⟨hjl, ej⟩ := List.getElem?_eq_some_iff.mp hj
    obtain ⟨hil, ei⟩ := List.getElem?_eq_some_iff.mp h
    refine List.pairwise_iff_getElem.mp nd j i (by simpa using hjl) (by simpa using hil) lt ?_
    rw [List.getElem_map, List.getElem_map, ej, ei]
    exact e
  · cases hj
theorem inr_nodup : ∀ {zs : List Str}, zs.Nodup → (zs.map (Sum.inr : Str → Key)).Nodup
  | [], _ => List.nodup_nil
  | z :: zs, h => by
    rw [List.nodup_cons] at h
    rw [List.map_cons, List.nodup_cons]
    refine ⟨fun m => ?_, inr_nodup h.2⟩
    obtain ⟨y, hy, e⟩ := List.mem_map.mp m
    exact h.1 (Sum.inr.inj e ▸ hy)
theorem sorts_nd {fs : List FD} (h : (fs.map (·.nm)).Nodup) : ((sortsV fs).map (·.1)).Nodup := by
  have := inr_nodup h
  rw [List.map_map] at this
  unfold sortsV
  rw [List.map_map]
  exact this
theorem zip_keys {α β : Type} (g : α → β → Key × V) (q : β → Key) (e : ∀ a b, (g a b).1 = q b) : ∀ (as : List α) (bs : List β), as.length = bs.length → (List.zipWith g as bs).map (·.1) = bs.map q
  | [], [], _ => rfl
  | a :: as, b :: bs, h => by
    rw [List.zipWith_cons_cons, List.map_cons, List.map_cons, e, zip_keys g q e as bs (by simpa using h)]
  | [], _ :: _, h => by simp at h
  | _ :: _, [], h => by simp at h
theorem spots_nd {fs : List FD} (h : (fs.map (·.nm)).Nodup) : ((spotsV fs).map (·.1)).Nodup := by
  have := inr_nodup h
  rw [List.map_map] at this
  unfold spotsV
  rw [zip_keys _ (fun f => Sum.inr f.nm) (fun _ _ => rfl) _ _ (by rw [List.length_range])]
  exact this
theorem zip_keys2 {α β : Type} (g : α → β → Key × V) (q : α → Key) (e : ∀ a b, (g a b).1 = q a) : ∀ (as : List α) (bs : List β), as.length = bs.length → (List.zipWith g as bs).map (·.1) = as.map q
  | [], [], _ => rfl
  | a :: as, b :: bs, h => by
    rw [List.zipWith_cons_cons, List.map_cons, List.map_cons, e, zip_keys2 g q e as bs (by simpa using h)]
  | [], _ :: _, h => by simp at h
  | _ :: _, [], h => by simp at h
theorem table_nd {cs : List CD} {sv : List V} (h : (cs.map (·.nm)).Nodup) (l : sv.length = cs.length) : ((tableV cs sv).map (·.1)).Nodup := by
  have := inr_nodup h
  rw [List.map_map] at this
  unfold tableV
  rw [zip_keys2 _ (fun c => Sum.inr c.nm) (fun _ _ => rfl) _ _ l.symm]
  exact this
theorem sorts_at {fs : List FD} {i : Nat} {f : FD} (h : fs[i]? = some f) : (sortsV fs)[i]? = some (.inr f.nm, .str (sortS f.many)) := by
  unfold sortsV
  rw [List.getElem?_map, h]
  rfl
theorem spots_at {fs : List FD} {i : Nat} {f : FD} (h : fs[i]? = some f) : (spotsV fs)[i]? = some (.inr f.nm, .int (i : Nat)) := by
  unfold spotsV
  have hi := (List.getElem?_eq_some_iff.mp h).1
  rw [List.getElem?_zipWith, h, List.getElem?_range hi]
theorem table_at {cs : List CD} {sv : List V} {i : Nat} {c : CD} {v : V} (h : cs[i]? = some c) (hv : sv[i]? = some v) : (tableV cs sv)[i]? = some (.inr c.nm, v) := by
  unfold tableV
  rw [List.getElem?_zipWith, h, hv]
theorem sorts_len (fs : List FD) : (sortsV fs).length = fs.length := List.length_map ..
theorem spots_len (fs : List FD) : (spotsV fs).length = fs.length := by
  unfold spotsV
  rw [List.length_zipWith, List.length_range, Nat.min_self]
theorem table_len {cs : List CD} {sv : List V} (l : sv.length = cs.length) : (tableV cs sv).length = cs.length := by
  unfold tableV
  rw [List.length_zipWith, l, Nat.min_self]
/-- a new list -/
def LsN (H0 H : Hp) (v : V) (xs : List V) : Prop := ∃ a, v = .ref a ∧ H0 a = none ∧ H a = some (.lst xs)
theorem LsN.ls {H0 H : Hp} {v : V} {xs : List V} (h : LsN H0 H v xs) : Ls H v xs := by
  obtain ⟨a, e, _, h⟩ := h
  exact ⟨a, e, h⟩
theorem LsN.keep {H0 H H' : Hp} {v : V} {xs : List V} (e : Same H H') (h : LsN H0 H v xs) : LsN H0 H' v xs := by
  obtain ⟨a, r, n, h⟩ := h
  exact ⟨a, r, n, e _ _ h⟩
theorem LsN.off {H0 H : Hp} {v : V} {xs : List V} {d : Addr} {o : HO} (h : LsN H0 H v xs) (hd : H0 d = some o) : LsN H0 (Off d H) v xs := by
  obtain ⟨a, r, n, h⟩ := h
  exact ⟨a, r, n, (off_ne (fun e => by rw [e, hd] at n; cases n)).trans h⟩
/-- a drawn call whose lists are new -/
def CdN (K : PySem.W.Frag) (H0 H : Hp) (v : V) (c : CD) : Prop := ∃ m d s ds, Tu K H v [.str c.nm, .str c.hand, m, d, s] ∧ LsN H0 H m (c.moves.map V.int) ∧ LsN H0 H d ds ∧ Al (DeT K H) ds c.deeds ∧ LsN H0 H s (c.same.map V.str)
theorem CdN.l {K : PySem.W.Frag} {H0 H : Hp} {v : V} {c : CD} (h : CdN K H0 H v c) : CdL K H v c := by
  obtain ⟨m, d, s, ds, h1, h2, h3, h4, h5⟩ := h
  exact ⟨m, d, s, ds, h1, h2.ls, h3.ls, h4, h5.ls⟩
theorem CdN.off {K : PySem.W.Frag} {H0 H : Hp} {v : V} {c : CD} {d : Addr} {xs ys : List V} (h : CdN K H0 H v c) (h0 : H0 d = some (.lst xs)) (hd : H d = some (.lst ys)) : CdN K H0 (Off d H) v c := by
  obtain ⟨m, dv, s, ds, h1, h2, h3, h4, h5⟩ := h
  exact ⟨m, dv, s, ds, h1.off hd no_lst, h2.off h0, h3.off h0, h4.mono fun _ _ h => Tu.off h hd no_lst, h5.off h0⟩
end MK
set_option Elab.async false
set_option linter.all false
set_option autoImplicit false
set_option maxRecDepth 100000
set_option maxHeartbeats 400000
namespace MK
open PySem PySem.Spec PyProof.Rows L2
def rInOwn (C : Addr) (sp : Sp) (neg : Bool) : R2 := fun x y H Q => ∃ a dx fs, y = .ref a ∧ H a = some (.ins C dx fs) ∧ sp [y, x] H (fun v H' => ∃ b, v = .bl b ∧ Q (.bl (if neg then !b else b)) H') E0
section
variable {X : Cx} {C f : Addr} {fd : FuncData} {ps : List Str} {k : Nat} {sp : Sp}
theorem op_inOwn (F : FnOk X.prog X.w X.K X.mg X.base CX0 k f fd ps sp) (hs : PySem.W.findIn X.K (.ref C) "__contains__" = some (some (.ref f))) (hf : PySem.W.isFn X.K (.ref f) = true) (hb : Binds X.K fd ps []) (hr : Room k X.A) : OpR X (compareOp .In) (rInOwn C sp false) := by
  intro pins s σ H x y v u Q I rx ry ⟨a, dx, fs, ey, ha, h⟩
  subst ey
  cases ry
  obtain ⟨mA, J, _⟩ := ins_get I.hok ha
  obtain ⟨od, J, _⟩ := J.look
  obtain ⟨m, hF⟩ := I.fr
  refine PySem.W.in_K hF I.ok.mod.kin J hs hf ?_
  have r2 : Vals [V.ref a, x] [Value.ref a, v] := .cons rfl (.cons rx .nil)
  refine thn (run_fn F hr hb .nil pass0 I r2 h) fun w s1 ⟨z, H1, I1, rz, b, ez, q⟩ => ?_
  subst ez
  cases rz
  exact wpAny_truthy_bool ⟨.bl b, H1, I1, rfl, q⟩
theorem op_notInOwn (F : FnOk X.prog X.w X.K X.mg X.base CX0 k f fd ps sp) (hs : PySem.W.findIn X.K (.ref C) "__contains__" = some (some (.ref f))) (hf : PySem.W.isFn X.K (.ref f) = true) (hb : Binds X.K fd ps []) (hr : Room k X.A) : OpR X (compareOp .NotIn) (rInOwn C sp true) := by
  intro pins s σ H x y v u Q I rx ry ⟨a, dx, fs, ey, ha, h⟩
  subst ey
  cases ry
  obtain ⟨mA, J, _⟩ := ins_get I.hok ha
  obtain ⟨od, J, _⟩ := J.look
  obtain ⟨m, hF⟩ := I.fr
  refine PySem.W.notIn_K hF I.ok.mod.kin J hs hf ?_
  have r2 : Vals [V.ref a, x] [Value.ref a, v] := .cons rfl (.cons rx .nil)
  refine thn (run_fn F hr hb .nil pass0 I r2 h) fun w s1 ⟨z, H1, I1, rz, b, ez, q⟩ => ?_
  subst ez
  cases rz
  exact wpAny_truthy_bool ⟨.bl (!b), H1, I1, rfl, q⟩
end
end MK
set_option Elab.async false
set_option linter.all false
set_option autoImplicit false
set_option maxRecDepth 100000
set_option maxHeartbeats 400000
namespace MK
open PySem PySem.Spec PyProof.Rows L2
theorem lay_map {α : Type} {g : α → PyData} : ∀ (ys : List α), (∀ y ∈ ys, PyData.canLay0 (g y) = true) → PyData.canLayAll0 (ys.map g) = true
  | [], _ => rfl
  | y :: ys, h => by
    rw [List.map_cons]
    unfold PyData.canLayAll0
    rw [h y (List.mem_cons_self ..), Bool.true_and]
    exact lay_map ys fun z hz => h z (List.mem_cons_of_mem _ hz)
theorem depth_map {α : Type} {g : α → PyData} {d : Nat} (h : ∀ y, PyData.depth (g y) ≤ d) : ∀ (ys : List α), PyData.depthAll (ys.map g) ≤ d
  | [] => Nat.zero_le _
  | y :: ys => by
    rw [List.map_cons]
    unfold PyData.depthAll
    exact Nat.max_le.mpr ⟨h y, depth_map h ys⟩
end MK
set_option Elab.async false
set_option linter.all false
set_option autoImplicit false
set_option maxRecDepth 100000
set_option maxHeartbeats 400000
namespace MK
open PySem PySem.Spec PyProof.Rows L2
theorem ints_lay : ∀ zs : List Int, PyData.canLayAll0 (zs.map PyData.int) = true := fun zs => lay_map zs fun _ _ => rfl
theorem ints_depth (zs : List Int) : PyData.depthAll (zs.map PyData.int) ≤ 0 := depth_map (g := PyData.int) (d := 0) (fun _ => by unfold PyData.depth; exact Nat.le_refl _) zs
end MK
set_option Elab.async false
set_option linter.all false
set_option autoImplicit false
set_option maxRecDepth 100000
set_option maxHeartbeats 400000
set_option Elab.async false
set_option linter.all false
set_option autoImplicit false
set_option maxRecDepth 100000
set_option maxHeartbeats 400000
namespace PySem.W
open PySem PySem.Spec PySem.Calls PyProof.Rows
end PySem.W
set_option Elab.async false
set_option linter.all false
set_option autoImplicit false
set_option maxRecDepth 100000
set_option maxHeartbeats 400000
namespace PySem.SeqAt
open AutoSeq1 (wpAny_loadPart')
open MeetsSeq MeetsSeq2 MeetsSeq3 SeqRoads2
end PySem.SeqAt
set_option Elab.async false
set_option linter.all false
set_option autoImplicit false
set_option maxRecDepth 100000
set_option maxHeartbeats 1000000
namespace MK
open PySem PySem.Spec PyProof.Rows L2
/-- an error class whose __init__ is walked, raised with positional arguments -/
structure RaiseC (P : Program) (w : World) (K : PySem.W.Frag) (mg : Str → Option Value) (base : Heap) (k : Nat) (x : Str) (C : Addr) (sp : Sp) : Prop where
  ex : ∃ (f : Addr) (fd : FuncData) (ps : List Str), ErrC K C f ∧ FnOk P w K mg base CX0 k f fd ps sp ∧ mg x = some (.ref C) ∧ Binds K fd ps []
theorem ps_raiseC {X : Cx} {W : WX} {k j : Nat} {x : Str} {C : Addr} {sp : Sp} {p pos pos2 : Pos} {e : Expr} {es : List Expr} {ta : TA} (c : RaiseC X.prog X.w X.K X.mg X.base k x C sp) (hc : X.calm = true) (tk : Takes X W) (hr : Room j X.A) (hk : k + 1 ≤ j) (hg : Gl X x) (ha : PA X (e :: es) ta)
    (hdb : (x == ("__debug__" : Str)) = false := by decide) (he : starEach (e :: es) X.env = (false, eval e X.env) :: starEach es X.env := by rfl) (hpl : (backTo pos (starEach es X.env)).any (·.1) = false := by rfl) :
    PS X (.Raise (some (.Call (.Name x p) (e :: es) [] pos)) none pos2) (fun _ σ H => tMkO C sp [] ta σ H fun cls d H' => W cls d σ H') := by
  obtain ⟨f, fd, ps, T, F, hm, b⟩ := c.ex
  exact ps_raise hc tk (pmk_oex T.cls T.ini T.fn F (hr.mono hk) b .nil pass0 hg hm ha hdb he hpl)
theorem rd_raise1 {C : Addr} {f : Str} {ta : TA} {σ : L2.St} {H : Hp} {v : V} {W : XK} (ht : ∀ R : List V → Hp → Prop, R [v] H → ta σ H R) (q : ∀ d H', Same H H' → H d = none → H' d = some (.xd [(f, v)]) → W (.ref C) (some d) H') : tMkO C (spErr1 C f) [] ta σ H W := by
  refine ht _ ⟨by show 1 ≤ 1000; decide, fun a ha => ⟨a, v, rfl, upd_same, fun d hd hda => ⟨rfl, d, [(f, v)], upd_same, (upd_ne hda).trans upd_same, ?_, ?_⟩⟩⟩
  · rw [upd_ne hda] at hd
    exact hd
  · have hd' : H d = none := by rw [upd_ne hda] at hd; exact hd
    refine q d _ (fun b o hb => ?_) hd' upd_same
    have ba : b ≠ a := fun z => by rw [z, ha] at hb; cases hb
    have bd : b ≠ d := fun z => by rw [z, hd'] at hb; cases hb
    rw [upd_ne bd, del_ne ba, upd_ne ba, upd_ne bd, upd_ne ba]
    exact hb
section
variable {X : Cx} {a : Addr} {oe : Obj} {cls : Value} {d : Option Addr}
def tErrP (K : PySem.W.Frag) (a : Addr) (cls : Value) (d : Option Addr) (f : Str) (te : TE) : TE := fun σ H Q => te σ H fun x H1 => x = .ref a ∧ ∃ (C dd : Addr) (fs : List (Str × V)) (v : V), cls = .ref C ∧ d = some dd ∧ ErrF K C ∧ PySem.W.findIn K (.ref C) f = some none ∧ H1 dd = some (.xd fs) ∧ fs.lookup f = some v ∧ Q v H1
theorem pe_errP {e : Expr} {te : TE} {pos : Pos} {n : Str} (hp : (a, oe) ∈ X.pn) (hz : Zc cls d oe) (hf : ∃ vs, oe.data = .fields vs) (he : PE X e te) (hb : attributeBase e n X.env (eval e X.env) = eval e X.env := by rfl) :
    PE X (.Attribute e n pos) (tErrP X.K a cls d n te) := by
  refine ⟨fun pins s σ H Q I h => ?_⟩
  refine attr_of hb (thn (he.run pins s σ H _ I h) fun u s1 hh => ?_)
  obtain ⟨x, H1, I1, rx, ex, C, dd, fs, v, ec, ed, T, hno, ea, l, q⟩ := hh
  subst ex ec ed
  obtain rfl : u = Value.ref a := rx
  have hget := (I1.pin (a, oe) (List.mem_append_left _ hp)).1
  obtain ⟨vs, hd⟩ := hf
  obtain ⟨mA, hns, hr⟩ := (show ObjOk X.prog X.w H1 s1.heap dd (.xd fs) from I1.hok dd _ ea)
  obtain ⟨od, ho, hl⟩ := lookIn_ns hns
  obtain ⟨y, hy, ry⟩ := RelO.some_of (v := v) (o := mA n) (by rw [← l]; exact hr n)
  have J : PySem.W.InstAt s1.heap a oe C (some od) := ⟨hget, hz.1, by unfold PySem.W.notCls; rw [hd] <;> rfl, by rw [hz.2]; exact ho⟩
  exact HandSPX.exc_get I1.kIn J T.ga T.gg T.exC (PySem.W.findObj_own T.hdC hno rfl (by rw [hl, hy])) (handed_of ry) ⟨v, H1, I1.tok _, ry, q⟩
def rIsP (K : PySem.W.Frag) (a : Addr) (cls : Value) (d : Option Addr) : List V → Hp → VK → Prop := fun xs H Q => ∃ (C dd : Addr) (fs : List (Str × V)) (c : V) (cv : Value) (b : Bool), xs = [.ref a, c] ∧ cls = .ref C ∧ d = some dd ∧ H dd = some (.xd fs) ∧ ErrI K C ∧ ClsV c cv ∧ PySem.W.kitOne K (.ref C) cv = some b ∧ Q (.bl b) H
theorem call_isP (hp : (a, oe) ∈ X.pn) (hz : Zc cls d oe) (hf : ∃ vs, oe.data = .fields vs) : CallR X (.builtin "isinstance") (rIsP X.K a cls d) := by
  intro pins s σ H xs us Q I r h
  obtain ⟨C, dd, fs, c, cv, b, rfl, ec, ed, hfs, T, k, e, q⟩ := h
  subst ec ed
  obtain ⟨u1, u2, rfl, r1, r2⟩ := vals2 r
  have e2 := k.eq r2
  subst e2
  obtain rfl : u1 = Value.ref a := r1
  have hget := (I.pin (a, oe) (List.mem_append_left _ hp)).1
  obtain ⟨vs, hd⟩ := hf
  obtain ⟨mA, hns, _⟩ := (show ObjOk X.prog X.w H s.heap dd (.xd fs) from I.hok dd _ hfs)
  obtain ⟨od, hod, _⟩ := lookIn_ns hns
  have J : PySem.W.InstAt s.heap a oe C (some od) := ⟨hget, hz.1, by unfold PySem.W.notCls; rw [hd] <;> rfl, by rw [hz.2]; exact hod⟩
  exact PySem.W.kia_one (PySem.W.kitx_exc (od := some od) T.cl T.ga T.gg T.ex T.ca T.sp T.tk T.ob) I.kIn J e (fun z => nomatch z) fun tk => ⟨.bl b, H, I.tok tk, rfl, q⟩
end
/-- what is promised of a def called with a caught error at p.1, of the class cls with the dict d -/
abbrev SpP := Addr → Value → Option Addr → Sp
structure FnP (P : Program) (w : World) (K : PySem.W.Frag) (mg : Str → Option Value) (base : Heap) (k : Nat) (f : Addr) (fd : FuncData) (ps : List Str) (sp : SpP) : Prop where
  len : ∀ a cls d vs H Q, sp a cls d vs H Q E0 → vs.length = ps.length
  run : ∀ (A : Around) (outer : List Env) (s : Shared) (H : Hp) (args : Args) (us : List Value) (vs : List V) (Q : VK) (p : Addr × Obj) (cls : Value) (d : Option Addr), L2H.RoomH k A → L2H.PinOk outer H s p → Zc cls d p.2 → (∃ fs, p.2.data = .fields fs) →
    Env0 P w K mg base A outer s H → BindsTo s fd args (ps.zip us) → Vals vs us → sp p.1 cls d vs H Q E0 → codeAny (model P w) A (.call (.ref f) args) (CR CX0 outer P w H s Q E0) s
theorem fnP_of {P : Program} {w : World} {K : PySem.W.Frag} {mg : Str → Option Value} {base : Heap} {k : Nat} {x : Str} {st : Stmt} {f : Addr} {fd : FuncData} {N ps : List Str} {sp : SpP} (F : DefX K mg x st ps f fd) (S : FnScope N ps (defScope st))
    (len : ∀ a cls d vs H Q, sp a cls d vs H Q E0 → vs.length = ps.length)
    (hbody : ∀ (cdv : Value) (A : Around) (outer : List Env) (s : Shared) (H : Hp) (vs : List V) (Q : VK) (a : Addr) (oe : Obj) (cls : Value) (d : Option Addr), Zc cls d oe → (∃ fs, oe.data = .fields fs) → L2H.RoomH k (A.deeper (envOfC x (defScope st) s.heap.objs.size f cdv)) → sp a cls d vs H Q E0 →
      ∃ t, PSs (L2H.cxH CX0 P w K mg base N x (defScope st) f cdv A outer s H E0 (a, oe)) (defBody st) t ∧ t { nx := fun _ H' => Q .non H', rt := Q } (L2.start N vs) H) : FnP P w K mg base (k + 1) f fd ps sp := by
  obtain ⟨oc, od, kV, doc, pm, an, cdv, ct, osl, rfl, lk, hcd⟩ := F.fn.ex
  refine ⟨len, fun A outer s H args us vs Q p cls d hr hpin hz hf e0 hb r hsp => ?_⟩
  have vl := len _ _ _ _ _ _ hsp
  have kin := e0.mod.kin.keeps fun b o e => (e0.bs b o e).1
  have lim := e0.mod.nolimit.keeps fun b o e => (e0.bs b o e).1
  refine codeAny_call_function hr.depth (kin _ _ lk) rfl S.co S.gen rfl (PySem.W.codeRec_of kin hcd) (hb _ _ _ _ (wpAny_newFunctionEnv_cells S.kind (fun ⟨n, v⟩ hy => ?_) fun env he s1 x1 => ?_))
  · exact (S.par n (List.of_mem_zip hy).1).imp id fun q => ⟨q, PySem.W.cellsFrom_some _ _ _ (.inl q)⟩
  subst he
  refine ⟨lim.keeps x1.toInCall.keep, codeAny_func ?_⟩
  obtain ⟨t, ht, hq⟩ := hbody cdv A outer s H vs Q p.1 p.2 cls d hz hf (hr.deeper _) hsp
  have I := L2H.inv_startH (CX := CX0) (E := E0) (N := N) (f := f) (cd := cdv) (qual := x) S hpin e0 vl r x1
  have fin : ∀ {σ' : L2.St} {H' : Hp} {v : V} {u : Value} {s' : Shared}, Inv (L2H.cxH CX0 P w K mg base N x (defScope st) f cdv A outer s H E0 p) [] σ' H' s' → RelV v u → Q v H' → CE outer P w H s Q u s' :=
    fun J rv q => ⟨_, _, J.os, J.bare, J.base, J.hok, rv, q⟩
  refine wpAny_mono (ht.run [] s1 (L2.start N vs) H _ I hq) (fun fl s' hs => ?_) fun e s' hs => hs
  cases fl with
  | ret u => obtain ⟨v, σ', H', J, rv, q⟩ := hs; exact fin J rv q
  | next => obtain ⟨σ', H', J, q⟩ := hs; exact fin (v := V.non) (u := Value.none) J rfl q
  | brk => obtain ⟨_, _, _, q⟩ := hs; exact q.elim
  | cont => obtain ⟨_, _, _, q⟩ := hs; exact q.elim
/-- f(e), e the caught error -/
def tCallP (sp : SpP) (a : Addr) (cls : Value) (d : Option Addr) (ta : TA) : TE := fun σ H Q => ta σ H fun vs H1 => sp a cls d vs H1 Q E0
theorem pe_callP {X : Cx} {a : Addr} {oe : Obj} {cls : Value} {d : Option Addr} {k : Nat} {f : Addr} {fd : FuncData} {ps : List Str} {sp : SpP} {x : Str} {p pos : Pos} {e : Expr} {es : List Expr} {ta : TA} (hp : (a, oe) ∈ X.pn) (hz : Zc cls d oe) (hf : ∃ vs, oe.data = .fields vs)
    (F : FnP X.prog X.w X.K X.mg X.base k f fd ps sp) (hr : L2H.RoomH k X.A) (hg : Gl X x) (hm : X.mg x = some (.ref f)) (hk : PySem.W.keepIn X.K (.ref f) = true) (hb : Binds X.K fd ps []) (ha : PA X (e :: es) ta)
    (hdb : (x == ("__debug__" : Str)) = false := by decide) (he : starEach (e :: es) X.env = (false, eval e X.env) :: starEach es X.env := by rfl) (hpl : (backTo pos (starEach es X.env)).any (·.1) = false := by rfl) :
    PE X (.Call (.Name x p) (e :: es) [] pos) (tCallP sp a cls d ta) := by
  refine ⟨fun pins s σ H Q I h => wpAny_Call_Name_kw (ld_glob I hg hm (PySem.W.callWith_K (h₀ := X.base) I.ok.mod.kin hk (thn (ha.run pos pins s σ H _ I h) fun us s1 hh => ?_) he hpl) hdb)⟩
  obtain ⟨vs, H1, I1, r, q⟩ := hh
  refine ⟨I1.kIn, wpAny_call (codeAny_mono (F.run X.A X.stack s1 H1 ⟨us, []⟩ us vs Q (a, oe) cls d hr ?_ hz hf I1.env0 ?_ r q) fun z s' hq => ?_)⟩
  · have P1 := I1.pin (a, oe) (List.mem_append_left _ hp)
    exact ⟨P1.1, P1.2.1, fun z => (List.mem_cons.mp (I1.stkSub a z)).elim P1.2.2.1 P1.2.2.2.1, P1.2.2.2.2⟩
  · have hl : us.length = ps.length := r.length.symm.trans (F.len _ _ _ _ _ _ q)
    have b := hb s1 us I1.kIn (by rw [List.append_nil]; exact hl)
    rwa [List.append_nil] at b
  · cases z with
    | error e => exact False.elim hq
    | ok fl => cases fl with
      | ret u => exact I1.after hq
      | next => exact False.elim hq
      | brk => exact False.elim hq
      | cont => exact False.elim hq
end MK
set_option Elab.async false
set_option linter.all false
set_option autoImplicit false
set_option maxRecDepth 100000
set_option maxHeartbeats 400000
namespace MK
open PySem PySem.Spec PyProof.Rows L2
def Nt (H : Hp) : Hp := fun b => match H b with
  | some (.tbl _) => none
  | x => x
theorem nt_of {H : Hp} {b : Addr} {o : HO} (h : H b = some o) (n : ∀ ps, o ≠ .tbl ps) : Nt H b = some o := by
  unfold Nt
  rw [h]
  cases o <;> first | rfl | exact absurd rfl (n _)
theorem nt_get {H : Hp} {b : Addr} {o : HO} (h : Nt H b = some o) : H b = some o ∧ ∀ ps, o ≠ .tbl ps := by
  unfold Nt at h
  split at h
  · cases h
  · rename_i e
    exact ⟨h, fun ps z => e ps (by rw [h, z])⟩
theorem nt_same {H : Hp} : Same (Nt H) H := fun _ _ h => (nt_get h).1
theorem same_nt {H H' : Hp} (e : Same H H') : Same (Nt H) (Nt H') := fun b o h => nt_of (e b o (nt_get h).1) (nt_get h).2
theorem ext_nt {H H' : Hp} (e : LamX.ExtN H H') : Same (Nt H) (Nt H') := fun b o h => nt_of (e b o (nt_get h).1 (nt_get h).2) (nt_get h).2
theorem ext_off {s : Addr} {H H' : Hp} (e : LamX.ExtN H H') : LamX.ExtN (Off s H) (Off s H') := fun b o h n => by
  by_cases q : b = s
  · rw [q, off_s] at h
    cases h
  · rw [off_ne q] at h ⊢
    exact e b o h n
/-- what is told of H, but of s and of tables -/
abbrev Nx (s : Addr) (H : Hp) : Hp := Nt (Off s H)
theorem SameX.nx {s : Addr} {H H' : Hp} (e : SameX s H H') : Same (Nx s H) (Nx s H') := same_nt e.off
theorem ext_nx {s : Addr} {H H' : Hp} (e : LamX.ExtN H H') : Same (Nx s H) (Nx s H') := ext_nt (ext_off e)
theorem nx_same {s : Addr} {H : Hp} : Same (Nx s H) (Off s H) := nt_same
section
variable {K : PySem.W.Frag} {H : Hp} {v : V} {xs : List V}
theorem sqt_nt {a : Addr} (h : SqT K H a xs) : SqT K (Nt H) a xs := by
  rcases h with ⟨h | ⟨o, h⟩⟩ | h
  · exact .inl (.inl (nt_of h nofun))
  · exact .inl (.inr ⟨o, nt_of h nofun⟩)
  · exact .inr h
theorem Tu.nt (h : Tu K H v xs) : Tu K (Nt H) v xs := by
  obtain ⟨a, r, h⟩ := h
  exact ⟨a, r, sqt_nt h⟩
theorem Ls.nt (h : Ls H v xs) : Ls (Nt H) v xs := by
  obtain ⟨a, r, h⟩ := h
  exact ⟨a, r, nt_of h nofun⟩
theorem CdT.nt {c : CD} (h : CdT K H v c) : CdT K (Nt H) v c := by
  obtain ⟨m, d, s, ds, h1, h2, h3, h4, h5⟩ := h
  exact ⟨m, d, s, ds, h1.nt, h2.nt, h3.nt, h4.mono fun _ _ h => Tu.nt h, h5.nt⟩
theorem CdL.nt {c : CD} (h : CdL K H v c) : CdL K (Nt H) v c := by
  obtain ⟨m, d, s, ds, h1, h2, h3, h4, h5⟩ := h
  exact ⟨m, d, s, ds, h1.nt, h2.nt, h3.nt, h4.mono fun _ _ h => Tu.nt h, h5.nt⟩
theorem KdA.nt {KC : Addr} {fs : List FD} {n : Nat} {cs : List CD} (h : KdA K KC H v fs n cs) : KdA K KC (Nt H) v fs n cs := by
  obtain ⟨x, dx, so, sp, tb, t, st, tv, sv, h0, h1, h2, h3, h4, h5, h6, h7, h8⟩ := h
  exact ⟨x, dx, so, sp, tb, t, st, tv, sv, h0, nt_of h1 nofun, h2.nt, h3.mono fun _ _ h => Tu.nt h, nt_of h4 nofun, nt_of h5 nofun, h6.nt, h7.mono fun _ _ h => CdT.nt h, nt_of h8 nofun⟩
end
theorem tab_sx {s : Addr} {H H' : Hp} {P : Addr} {q : Str} {xs : List V} (e : SameX s H H') (hs : H s = some (.lst xs)) (t : LamX.TabS H P q) : LamX.TabS H' P q := by
  obtain ⟨ps, h1, h2, h3⟩ := t
  have ne : ∀ {b : Addr} {o : HO}, H b = some o → (o ≠ .lst xs) → b ≠ s := fun hb n z => by
    rw [z, hs] at hb
    exact n (Option.some.inj hb).symm
  refine ⟨ps, e _ _ h1 (ne h1 nofun), h2, fun pos cv hc => ?_⟩
  obtain ⟨c, e1, e2⟩ := h3 pos cv hc
  exact ⟨c, e1, e _ _ e2 (ne e2 fun z => by
    unfold LamX.CodeO at z
    cases z)⟩
end MK
set_option Elab.async false
set_option linter.all false
set_option autoImplicit false
set_option maxRecDepth 100000
set_option maxHeartbeats 400000
namespace MK
open PySem PySem.Spec PyProof.Rows L2
section
variable {α : Type} {R : V → α → Prop} {xs xs' : List V} {ys ys' : List α}
theorem Al.take (h : Al R xs ys) (i : Nat) : Al R (xs.take i) (ys.take i) := by
  refine ⟨by rw [List.length_take, List.length_take, h.1], fun j x y h1 h2 => ?_⟩
  rw [List.getElem?_take] at h1 h2
  split at h1
  · rename_i q
    rw [if_pos q] at h2
    exact h.2 j x y h1 h2
  · cases h1
theorem Al.drop (h : Al R xs ys) (i : Nat) : Al R (xs.drop i) (ys.drop i) := by
  refine ⟨by rw [List.length_drop, List.length_drop, h.1], fun j x y h1 h2 => ?_⟩
  rw [List.getElem?_drop] at h1 h2
  exact h.2 _ x y h1 h2
theorem Al.append (h : Al R xs ys) (h' : Al R xs' ys') : Al R (xs ++ xs') (ys ++ ys') := by
  refine ⟨by rw [List.length_append, List.length_append, h.1, h'.1], fun j x y h1 h2 => ?_⟩
  by_cases q : j < xs.length
  · rw [List.getElem?_append_left q] at h1
    rw [List.getElem?_append_left (h.1 ▸ q)] at h2
    exact h.2 j x y h1 h2
  · rw [List.getElem?_append_right (by omega)] at h1
    rw [List.getElem?_append_right (by have := h.1; omega)] at h2
    rw [← h.1] at h2
    exact h'.2 _ x y h1 h2
theorem Al.one {x : V} {y : α} (r : R x y) : Al R [x] [y] := (Al.nil (R := R)).snoc r
end
end MK
set_option Elab.async false
set_option linter.all false
set_option autoImplicit false
set_option maxRecDepth 100000
set_option maxHeartbeats 1000000
namespace MK
open PySem PySem.Spec PyProof.Rows L2
def strsB : List Str → List Value → Bool
  | [], [] => true
  | z :: zs, .str y _ :: us => decide (y = z) && strsB zs us
  | _, _ => false
theorem strsB_ok : ∀ {zs : List Str} {us : List Value}, strsB zs us = true → Vals (zs.map V.str) us
  | [], [], _ => .nil
  | z :: zs, .str y t :: us, h => by
    obtain ⟨h1, h2⟩ := Bool.and_eq_true_iff.mp (show (decide (y = z) && strsB zs us) = true from h)
    have e := of_decide_eq_true h1
    exact .cons ⟨t, by rw [e]⟩ (strsB_ok h2)
  | [], _ :: _, h => by cases h
  | _ :: _, [], h => by cases h
  | _ :: _, .none :: _, h => by cases h
  | _ :: _, .bool _ :: _, h => by cases h
  | _ :: _, .int _ _ :: _, h => by cases h
  | _ :: _, .ref _ :: _, h => by cases h
  | _ :: _, .type _ :: _, h => by cases h
  | _ :: _, .builtin _ :: _, h => by cases h
  | _ :: _, .notImplemented :: _, h => by cases h
  | _ :: _, .ellipsis :: _, h => by cases h
  | _ :: _, .float _ _ :: _, h => by cases h
def tupB (K : PySem.W.Frag) (a : Addr) (zs : List Str) : Bool := match K.lookup a with
  | some ⟨.type c, _, .seq its _, _⟩ => decide (c = "tuple") && (decide (its.size ≤ 100) && strsB zs its.toList)
  | _ => false
theorem tupB_ok {K : PySem.W.Frag} {a : Addr} {zs : List Str} (h : tupB K a zs = true) (H : Hp) : SqT K H a (zs.map V.str) := by
  unfold tupB at h
  split at h
  · rename_i c d its n sl q
    obtain ⟨h1, h2⟩ := Bool.and_eq_true_iff.mp h
    obtain ⟨h2, h3⟩ := Bool.and_eq_true_iff.mp h2
    have e := of_decide_eq_true h1
    exact .inr ⟨_, its, n, q, by rw [e], rfl, Nat.le_trans (of_decide_eq_true h2) (by decide), strsB_ok h3⟩
  · cases h
theorem keys_none {P : Params} {z : Str} : ∀ {l : List DictEntry} {ks : List Str}, l.map He.keyOf = He.keysIn P ks → z ∉ ks → l.find? (·.key.isStr z) = none ∧ l.any (·.refKey) = false
  | [], _, _, _ => ⟨rfl, rfl⟩
  | e :: r, [], h, _ => by cases h
  | e :: r, k :: ks, h, hz => by
    have h1 : He.keyOf e :: r.map He.keyOf = some (k, PyData.keyHash P k) :: He.keysIn P ks := h
    injection h1 with h2 h3
    obtain ⟨i1, i2⟩ := keys_none h3 fun m => hz (List.mem_cons_of_mem _ m)
    unfold He.keyOf at h2
    split at h2
    · rename_i x t q
      obtain ⟨h5, _⟩ := Prod.mk.inj (Option.some.inj h2)
      have ne : (x == z) = false := by
        rw [beq_eq_false_iff_ne, h5]
        exact fun e => hz (e ▸ List.mem_cons_self)
      constructor
      · rw [List.find?_cons]
        have : e.key.isStr z = false := by rw [q]; exact ne
        rw [this]
        exact i1
      · rw [List.any_cons, i2, Bool.or_false]
        unfold DictEntry.refKey
        rw [q]
    · cases h2
theorem ns_none {K : PySem.W.Frag} {w : World} {a : Addr} {ks : List Str} {z : Str} (h : He.dicW K a = some (He.keysIn w.params ks)) (hz : z ∉ ks) : PySem.W.nsIn K a z = some none := by
  obtain ⟨es, n, D⟩ := He.dicW_ok h
  have e := D.at_
  unfold He.dicW at h
  rw [e] at h
  have h1 : (match decide ((("dict" : String)) = "dict") && ((#[] : Array (Option Value)).isEmpty && !(a == sysModules)) with
    | true => some (es.toList.map He.keyOf)
    | false => none) = some (He.keysIn w.params ks) := h
  rw [D.low] at h1
  obtain ⟨i1, i2⟩ := keys_none (Option.some.inj h1) hz
  unfold PySem.W.nsIn
  rw [e]
  show (match es.toList.find? (·.key.isStr z) with
      | some e => some (some e.val)
      | none => if es.toList.any (·.refKey) then none else some none) = some none
  rw [i1]
  show (if es.toList.any (·.refKey) then none else some none) = some none
  rw [i2]
  rfl
end MK
set_option Elab.async false
set_option linter.all false
set_option autoImplicit false
set_option maxRecDepth 100000
set_option maxHeartbeats 1000000
set_option Elab.async false
set_option linter.all false
set_option autoImplicit false
set_option maxRecDepth 100000
set_option maxHeartbeats 1000000
namespace MK
open PySem PySem.Spec PyProof.Rows L2 ItX
/-- what is promised of a def, told with the number of objects that there are when it is called -/
structure FnS (P : Program) (w : World) (K : PySem.W.Frag) (mg : Str → Option Value) (base : Heap) (k : Nat) (f : Addr) (fd : FuncData) (ps : List Str) (sp : Nat → Sp) : Prop where
  len : ∀ n vs H Q, sp n vs H Q E0 → vs.length = ps.length
  run : ∀ (A : Around) (outer : List Env) (s : Shared) (H : Hp) (us : List Value) (vs : List V) (Q : VK), Room k A → Env0 P w K mg base A outer s H → BindsTo s fd ⟨us, []⟩ (ps.zip us) → Vals vs us →
    sp s.heap.objs.size vs H Q E0 → codeAny (model P w) A (.call (.ref f) ⟨us, []⟩) (CR CX0 outer P w H s Q E0) s
theorem fnS_of {P : Program} {w : World} {K : PySem.W.Frag} {mg : Str → Option Value} {base : Heap} {k : Nat} {x qual : Str} {st : Stmt} {f : Addr} {fd : FuncData} {N ps : List Str} {sp : Nat → Sp} (F : Fun K x qual st f fd) (S : FnScope N ps (defScope st))
    (len : ∀ n vs H Q, sp n vs H Q E0 → vs.length = ps.length)
    (hbody : ∀ (cdv : Value) (A : Around) (outer : List Env) (s : Shared) (H : Hp) (vs : List V) (Q : VK), Room k (A.deeper (envOfC qual (defScope st) s.heap.objs.size f cdv)) → sp s.heap.objs.size vs H Q E0 →
      ∃ t, PSs (cxOf CX0 P w K mg base N qual (defScope st) f cdv A outer s H E0).nox (defBody st) t ∧ t { nx := fun _ H' => Q .non H', rt := Q } (start N vs) H) : FnS P w K mg base (k + 1) f fd ps sp := by
  obtain ⟨oc, od, kV, doc, pm, an, cdv, ct, osl, rfl, lk, hcd⟩ := F.ex
  refine ⟨len, fun A outer s H us vs Q hr e0 hb r hsp => ?_⟩
  have nn := len _ _ _ _ hsp
  have kin := e0.mod.kin.keeps fun b o e => (e0.bs b o e).1
  have noL := e0.mod.nolimit.keeps fun b o e => (e0.bs b o e).1
  have kinds : ∀ y ∈ ps.zip us, (defScope st).names.lookup y.1 = some .local ∨
      ((defScope st).names.lookup y.1 = some .cell ∧ ((cellsFrom (s.heap.objs.size + 1) (defScope st).names []).lookup y.1).isSome = true) := by
    rintro ⟨n, v⟩ hy
    rcases S.par n (List.of_mem_zip hy).1 with q | q
    · exact Or.inl q
    · exact Or.inr ⟨q, PySem.W.cellsFrom_some _ _ _ (Or.inl q)⟩
  refine codeAny_call_function hr.depth (kin _ _ lk) rfl S.co S.gen rfl (PySem.W.codeRec_of kin hcd)
    (hb _ _ _ _ ?_)
  refine wpAny_newFunctionEnv_cells S.kind kinds
    fun env he s1 x => ?_
  cases he
  refine ⟨noL.keeps x.toInCall.keep,
    codeAny_func ?_⟩
  obtain ⟨t, ht, hq⟩ := hbody cdv A outer s H vs Q (hr.deeper _) hsp
  have J0 := inv_start (CX := CX0) (E := E0) (qual := qual) (f := f) (cd := cdv)
    S hr.hd e0 nn r x
  refine wpAny_mono (ht.nox.run [] s1 _ H _ J0 hq)
    (fun fl s' hs => ?_) fun e s' hs => hs
  cases fl with
  | ret u =>
    obtain ⟨v, σ', H', J, rv, q⟩ := hs
    exact ⟨v, H', J.os, J.bare, J.base, J.hok, rv, q⟩
  | next =>
    obtain ⟨σ', H', J, q⟩ := hs
    exact ⟨V.non, H', J.os, J.bare, J.base, J.hok, rfl, q⟩
  | brk => exact hs.elim fun _ h => h.elim fun _ h => h.elim fun _ h => h.elim
  | cont => exact hs.elim fun _ h => h.elim fun _ h => h.elim fun _ h => h.elim
/-- a dict's iterator over its keys, new -/
def KitO (it d : Addr) (n ep : Nat) : HO := .ext fun h => h.IsKeyIter it d 0 n ep
theorem kit_ok {P : Program} {w : World} {H : Hp} {h : Heap} {d ep : Nat} {es : Array DictEntry} {n : Nat} (hz : es.size = n) :
    ObjOk P w H (h.push { cls := .type "dict_keyiterator", data := .fields #[.ref d, .int 0 0, .int es.size 0, .int ep 0] }) h.objs.size (KitO h.objs.size d n ep) := by
  refine ⟨?_, ⟨_, Heap.get?_push_size _ rfl⟩, fun h1 h2 x k => ?_⟩
  · refine ⟨_, Heap.get?_push_size _ rfl, rfl, ?_⟩
    rw [hz]
    rfl
  · obtain ⟨o, ho, hc⟩ := x
    exact ⟨o, k o ho, hc⟩
/-- iter(d), d locked -/
def rIterK (n : Nat) : List V → Hp → VK → Prop := fun xs H Q => ∃ (d : Addr) (o : Obj) (kvs : List (Key × V)), xs = [.ref d] ∧ H d = some (.frz o (.dK kvs)) ∧
  ∀ it es ep, o.data = .dict es ep → H it = none → n ≤ it → Q (.ref it) (upd H it (KitO it d kvs.length ep))
section
variable {X : Cx}
theorem call_iterK : CallR X (.builtin "iter") (rIterK X.s_0.heap.objs.size) := by
  intro pins s σ H xs us Q I r h
  obtain ⟨d, o, kvs, rfl, hd, q⟩ := h
  obtain ⟨u, rfl, ru⟩ := vals1 r
  cases ru
  obtain ⟨hs, hgd, hx, es, ep, vs, hdt, hsz, kv, hm⟩ := I.frzK hd
  refine Calls.call_function_entry (by decide +kernel) (by decide +kernel)
    PySem.W.kdk_entry_iter (PySem.W.kdk_args_iter _) ?_
  unfold Builtin.«iter»
  refine wpAny_bind (m := someArgs "iter" 1 2 _)
    (wpAny_of_eq (a := [Value.ref d]) (by first | rfl | kernel_rfl!) ?_)
  show wpAny _ _ (pyIter (.ref d) >>= _) _ _ _
  refine wpAny_bind (iter_keys hs hgd hx hdt ?_)
  refine wpAny_pure ⟨_, rfl, .ref s.heap.objs.size, _, I.laid (t' := s.toks) (fun b u e => Heap.get?_push_of_some _ e) (Nat.le_refl _) ?_, rfl, q _ es ep hdt (I.hok.fresh (Nat.le_refl _)) I.sz⟩
  exact kit_ok hsz
/-- the keys of the dict d of an own instance, through its own __iter__; d is locked -/
def iOwn (C : Addr) (fld : Str) (te : TE) : TI := fun σ H R => te σ H fun x H1 => ∃ (a dx d : Addr) (fs : List (Str × V)) (o : Obj) (kvs : List (Key × V)), x = .ref a ∧ H1 a = some (.ins C dx fs) ∧ fs.lookup fld = some (.ref d) ∧ H1 d = some (.frz o (.dK kvs)) ∧ R (Itk d o kvs) H1
/-- what the own __iter__ promises -/
def spIter (C : Addr) (fld : Str) (n : Nat) : Sp := fun vs H Q _ => ∃ (a dx d : Addr) (fs : List (Str × V)) (o : Obj) (kvs : List (Key × V)), vs = [.ref a] ∧ H a = some (.ins C dx fs) ∧ fs.lookup fld = some (.ref d) ∧ H d = some (.frz o (.dK kvs)) ∧
  ∀ it es ep, o.data = .dict es ep → H it = none → n ≤ it → Q (.ref it) (upd H it (KitO it d kvs.length ep))
theorem pi_own {tg e : Expr} {te : TE} {C f : Addr} {fd : FuncData} {ps : List Str} {fld : Str} {k : Nat} (he : PE X e te) (F : FnS X.prog X.w X.K X.mg X.base k f fd ps (spIter C fld)) (hs : PySem.W.findIn X.K (.ref C) "__iter__" = some (some (.ref f))) (hf : PySem.W.isFn X.K (.ref f) = true) (hb : Binds X.K fd ps []) (hr : Room k X.A) :
    PI X tg e (iOwn C fld te) := by
  refine ⟨fun pins s σ H R I h => ?_⟩
  refine thn (he.run pins s σ H _ I h) fun u s1 ⟨x, H1, I1, rx, a, dx, d, fs, o, kvs, ex, ha, hl, hd, q⟩ => ?_
  subst ex
  obtain rfl : u = Value.ref a := rx
  obtain ⟨mA, J, _⟩ := ins_get I1.hok ha
  obtain ⟨od, J, _⟩ := J.look
  obtain ⟨m, hF⟩ := I1.fr
  have r2 : Vals [V.ref a] [Value.ref a] := .cons rfl .nil
  obtain ⟨hs0, hgd, hx, es, ep, vs, hdt, hsz, kv, hm⟩ := I1.frzK hd
  have hsp : spIter C fld s1.heap.objs.size [.ref a] H1 (fun v H2 => ∃ it, v = .ref it ∧ H1 it = none ∧ s1.heap.objs.size ≤ it ∧ H2 = upd H1 it (KitO it d kvs.length ep)) E0 :=
    ⟨a, dx, d, fs, o, kvs, rfl, ha, hl, hd, fun it es' ep' he' hn hle => ⟨it, rfl, hn, hle, by rw [(dict_ep hdt he').2]⟩⟩
  have hln := F.len _ _ _ _ hsp
  have hbd := hb s1 [.ref a] I1.kIn (by rw [List.append_nil, ← r2.length]; exact hln)
  rw [List.append_nil] at hbd
  refine PySem.W.owit_iter hF I1.ok.mod.kin J hs hf (wpAny_call (codeAny_mono (F.run X.A X.stack s1 H1 [.ref a] _ _ hr I1.env0 hbd r2 hsp) fun r s' hq => ?_))
  cases r with
  | error e => exact False.elim hq
  | ok fl =>
    cases fl with
    | ret u =>
      obtain ⟨v, H2, I2, rz, it, ev, hn, hle, eH⟩ := I1.after hq
      subst ev eH
      obtain rfl : u = Value.ref it := rz
      have hit : upd H1 it (KitO it d kvs.length ep) it = some (KitO it d kvs.length ep) := upd_same
      have st : s'.heap.IsKeyIter it d 0 kvs.length ep := (show ObjOk X.prog X.w _ s'.heap it (KitO it d kvs.length ep) from I2.hok it _ hit).1
      unfold PySem.W.OwitIt
      refine (wpAny_specialOf (name := Str.ofString "__next__") st.typeIs PySem.F.slot_dict_keyiterator_next.lookup ?_)
      have hit' := hit
      unfold KitO at hit'
      have e1 : dropH (upd H1 it (KitO it d kvs.length ep)) it = H1 := by
        funext b
        by_cases z : b = it
        · rw [z, dropH_same, hn]
        · rw [dropH_ne z, upd_ne z]
      have I3 := inv_drop I2 hit'
      rw [e1] at I3
      refine ⟨it, [it], _, Itk d o kvs, H1, rfl, I3, turn_keys it hdt, st, fun b hb => ?_, q⟩
      have e : b = it := by simpa using hb
      rw [e, ← e1]
      exact inv_fp I2 hit (Nat.le_trans I1.sz hle)
    | next => exact False.elim hq
    | brk => exact False.elim hq
    | cont => exact False.elim hq
end
end MK
set_option Elab.async false
set_option linter.all false
set_option autoImplicit false
set_option maxRecDepth 100000
set_option maxHeartbeats 1000000
namespace MK
open PySem PySem.Spec PyProof.Rows L2
def Prim (x : V) : Prop := x = .non ∨ (∃ b, x = .bl b) ∨ (∃ i, x = .int i) ∨ ∃ z, x = .str z
/-- item by item, the addresses one behind another -/
def WL (R : V → List Addr → Prop) : List V → List Addr → Prop
  | [], L => L = []
  | x :: xs, L => ∃ L1 L2, L = L1 ++ L2 ∧ R x L1 ∧ WL R xs L2
theorem WL.mono {R S : V → List Addr → Prop} : ∀ {xs : List V} {L : List Addr}, (∀ x ∈ xs, ∀ M, (∀ b ∈ M, b ∈ L) → R x M → S x M) → WL R xs L → WL S xs L
  | [], _, _, h => h
  | x :: xs, L, f, ⟨M1, M2, e, r, h⟩ => ⟨M1, M2, e, f x List.mem_cons_self M1 (fun b hb => by rw [e]; exact List.mem_append_left _ hb) r,
      h.mono fun y hy M hM => f y (List.mem_cons_of_mem _ hy) M fun b hb => by rw [e]; exact List.mem_append_right _ (hM b hb)⟩
theorem WL.snoc {R : V → List Addr → Prop} : ∀ {xs : List V} {L : List Addr} {x : V} {M : List Addr}, WL R xs L → R x M → WL R (xs ++ [x]) (L ++ M)
  | [], L, x, M, h, r => ⟨M, [], by rw [show L = [] from h]; simp, r, rfl⟩
  | y :: ys, L, x, M, ⟨M1, M2, e, r1, h⟩, r => ⟨M1, M2 ++ M, by rw [e, List.append_assoc], r1, h.snoc r⟩
theorem WL.mem {R : V → List Addr → Prop} : ∀ {xs : List V} {L : List Addr} {b : Addr}, WL R xs L → b ∈ L → ∃ x ∈ xs, ∃ M, R x M ∧ b ∈ M
  | [], L, b, h, hb => by rw [show L = [] from h] at hb; cases hb
  | x :: xs, L, b, ⟨M1, M2, e, r, h⟩, hb => by
    rw [e] at hb
    rcases List.mem_append.mp hb with hb | hb
    · exact ⟨x, List.mem_cons_self, M1, r, hb⟩
    · obtain ⟨y, hy, M, r2, m⟩ := h.mem hb
      exact ⟨y, List.mem_cons_of_mem _ hy, M, r2, m⟩
/-- to depth n, with L the addresses of its lists -/
def W (K : PySem.W.Frag) (H : Hp) : Nat → V → List Addr → Prop
  | 0, x, L => Prim x ∧ L = []
  | n + 1, x, L => (Prim x ∧ L = []) ∨ (∃ a xs Ls, x = .ref a ∧ H a = some (.lst xs) ∧ WL (W K H n) xs Ls ∧ L = a :: Ls ∧ xs.length < 1000) ∨
      (∃ a xs, x = .ref a ∧ SqT K H a xs ∧ WL (W K H n) xs L ∧ xs.length < 1000)
def LstAt (L : List Addr) (H : Hp) : Prop := ∀ b ∈ L, ∃ ys, H b = some (.lst ys)
theorem W.lsts {K : PySem.W.Frag} {H : Hp} : ∀ {n : Nat} {x : V} {L : List Addr}, W K H n x L → LstAt L H
  | 0, _, _, ⟨_, e⟩, b, hb => by rw [e] at hb; cases hb
  | n + 1, _, L, h, b, hb => by
    rcases h with ⟨_, e⟩ | ⟨a, xs, Ls, _, ha, hw, e, _⟩ | ⟨a, xs, _, _, hw, _⟩
    · rw [e] at hb; cases hb
    · rw [e] at hb
      rcases List.mem_cons.mp hb with rfl | hb
      · exact ⟨xs, ha⟩
      · obtain ⟨y, hy, M, r, m⟩ := hw.mem hb
        exact W.lsts r b m
    · obtain ⟨y, hy, M, r, m⟩ := hw.mem hb
      exact W.lsts r b m
/-- but for the lists at M all is as it was -/
def Chg (M : List Addr) (H H' : Hp) : Prop := (∀ b o, H b = some o → b ∉ M → H' b = some o) ∧ LstAt M H'
theorem Chg.nil {H H' : Hp} (e : Same H H') : Chg [] H H' := ⟨fun b o h _ => e b o h, nofun⟩
theorem Chg.trans {M N : List Addr} {H H1 H2 : Hp} (a : Chg M H H1) (b : Chg N H1 H2) : Chg (M ++ N) H H2 := by
  refine ⟨fun c o h hc => b.1 c o (a.1 c o h fun z => hc (List.mem_append_left _ z)) fun z => hc (List.mem_append_right _ z), fun c hc => ?_⟩
  by_cases z : c ∈ N
  · exact b.2 c z
  · obtain ⟨ys, h⟩ := a.2 c ((List.mem_append.mp hc).resolve_right z)
    exact ⟨ys, b.1 c _ h z⟩
theorem sqt_chg {K : PySem.W.Frag} {M : List Addr} {H H' : Hp} {a : Addr} {xs : List V} (c : Chg M H H') (l : LstAt M H) (h : SqT K H a xs) : SqT K H' a xs := by
  have no : ∀ {o : HO}, H a = some o → (∀ ys, o ≠ .lst ys) → a ∉ M := fun ha n z => by
    obtain ⟨ys, e⟩ := l a z
    rw [ha] at e
    exact n ys (Option.some.inj e)
  rcases h with (h | ⟨o, h⟩) | h
  · exact .inl (.inl (c.1 _ _ h (no h nofun)))
  · exact .inl (.inr ⟨o, c.1 _ _ h (no h nofun)⟩)
  · exact .inr h
theorem W.chg {K : PySem.W.Frag} {M : List Addr} {H H' : Hp} (c : Chg M H H') (l : LstAt M H) : ∀ {n : Nat} {x : V} {L : List Addr}, W K H n x L → (∀ b ∈ L, b ∉ M) → W K H' n x L
  | 0, _, _, h, _ => h
  | n + 1, _, L, h, d => by
    rcases h with h | ⟨a, xs, Ls, r, ha, hw, e, z⟩ | ⟨a, xs, r, ha, hw, z⟩
    · exact .inl h
    · refine .inr (.inl ⟨a, xs, Ls, r, c.1 _ _ ha (d a (by rw [e]; exact List.mem_cons_self)), hw.mono fun y _ N hN w => W.chg c l w fun b hb => d b (by rw [e]; exact List.mem_cons_of_mem _ (hN b hb)), e, z⟩)
    · exact .inr (.inr ⟨a, xs, r, sqt_chg c l ha, hw.mono fun y _ N hN w => W.chg c l w fun b hb => d b (hN b hb), z⟩)
theorem W.keep {K : PySem.W.Frag} {H H' : Hp} (e : Same H H') {n : Nat} {x : V} {L : List Addr} (h : W K H n x L) : W K H' n x L := h.chg (Chg.nil e) nofun fun _ _ => by simp
end MK
set_option Elab.async false
set_option linter.all false
set_option autoImplicit false
set_option maxRecDepth 100000
set_option maxHeartbeats 400000
set_option Elab.async false
set_option linter.all false
set_option autoImplicit false
set_option maxRecDepth 100000
set_option maxHeartbeats 4000000
namespace MK
open PySem PySem.Spec PyProof.Rows L2
/-- how many unlike ones there are among the first i -/
def dc (zs : List Str) : Nat → Nat
  | 0 => 0
  | i + 1 => if decide (zs.getD i Str.empty ∈ zs.take i) = true then dc zs i else dc zs i + 1
end MK
set_option Elab.async false
set_option linter.all false
set_option autoImplicit false
set_option maxRecDepth 100000
set_option maxHeartbeats 4000000
set_option Elab.async false
set_option linter.all false
set_option autoImplicit false
set_option maxRecDepth 100000
set_option maxHeartbeats 1000000
namespace MK
open PySem PySem.Spec PyProof.Rows L2
inductive Dt where
  | non
  | bl (b : Bool)
  | int (i : Int)
  | str (z : Str)
  | lst (xs : List Dt)
  | tup (xs : List Dt)
  | dic
inductive Sh (K : PySem.W.Frag) (H : Hp) : V → Dt → Prop
  | non : Sh K H .non .non
  | bl (b : Bool) : Sh K H (.bl b) (.bl b)
  | int (i : Int) : Sh K H (.int i) (.int i)
  | str (z : Str) : z.length ≤ sizeLine → Sh K H (.str z) (.str z)
  | lst {a : Addr} {vs : List V} {xs : List Dt} : H a = some (.lst vs) → vs.length < 1000 → vs.length = xs.length → (∀ (i : Nat) x y, vs[i]? = some x → xs[i]? = some y → Sh K H x y) → Sh K H (.ref a) (.lst xs)
  | tup {a : Addr} {vs : List V} {xs : List Dt} : SqT K H a vs → vs.length < 1000 → vs.length = xs.length → (∀ (i : Nat) x y, vs[i]? = some x → xs[i]? = some y → Sh K H x y) → Sh K H (.ref a) (.tup xs)
  | dic {a : Addr} : H a = some (.dK []) → Sh K H (.ref a) .dic
def sqD : Dt → Option (List Dt)
  | .lst xs => some xs
  | .tup xs => some xs
  | _ => none
def isStr : Dt → Bool
  | .str _ => true
  | _ => false
def isInt : Dt → Bool
  | .int _ => true
  | _ => false
def isBl : Dt → Bool
  | .bl _ => true
  | _ => false
def isLst : Dt → Bool
  | .lst _ => true
  | _ => false
def isTup : Dt → Bool
  | .tup _ => true
  | _ => false
def isSq (d : Dt) : Bool := isLst d || isTup d
theorem isSq_iff (d : Dt) : isSq d = (sqD d).isSome := by cases d <;> rfl
section
variable {K : PySem.W.Frag} {H H' : Hp} {v : V} {d : Dt}
theorem Sh.keep (e : Same H H') (h : Sh K H v d) : Sh K H' v d := by
  induction h with
  | non => exact .non
  | bl b => exact .bl b
  | int i => exact .int i
  | str z h => exact .str z h
  | lst ha l1 l2 _ ih => exact .lst (e _ _ ha) l1 l2 ih
  | tup ha l1 l2 _ ih => exact .tup (same_t e ha) l1 l2 ih
  | dic ha => exact .dic (e _ _ ha)
/-- the type of it -/
theorem Sh.ty (h : Sh K H v d) : ∃ t, TyX K H v (.type t) ∧ kitB t "str" = some (isStr d) ∧ kitB t "int" = some (isInt d || isBl d) ∧ kitB t "bool" = some (isBl d) ∧ kitB t "list" = some (isLst d) ∧ kitB t "tuple" = some (isTup d) := by
  cases h with
  | non => exact ⟨"NoneType", .base .non, by decide +kernel, by decide +kernel, by decide +kernel, by decide +kernel, by decide +kernel⟩
  | bl b => exact ⟨"bool", .base (.bl b), by show _ = some false; decide +kernel, by show _ = some true; decide +kernel, by show _ = some true; decide +kernel, by show _ = some false; decide +kernel, by show _ = some false; decide +kernel⟩
  | int i => exact ⟨"int", .base (.int i), by show _ = some false; decide +kernel, by show _ = some true; decide +kernel, by show _ = some false; decide +kernel, by show _ = some false; decide +kernel, by show _ = some false; decide +kernel⟩
  | str z _ => exact ⟨"str", .base (.str z), by show _ = some true; decide +kernel, by show _ = some false; decide +kernel, by show _ = some false; decide +kernel, by show _ = some false; decide +kernel, by show _ = some false; decide +kernel⟩
  | lst ha => exact ⟨"list", tyx_l (SqL.of ha), by show _ = some false; decide +kernel, by show _ = some false; decide +kernel, by show _ = some false; decide +kernel, by show _ = some true; decide +kernel, by show _ = some false; decide +kernel⟩
  | tup ha => exact ⟨"tuple", tyx_t ha, by show _ = some false; decide +kernel, by show _ = some false; decide +kernel, by show _ = some false; decide +kernel, by show _ = some false; decide +kernel, by show _ = some true; decide +kernel⟩
  | dic ha => exact ⟨"dict", .base (.dK ha), by decide +kernel, by decide +kernel, by decide +kernel, by decide +kernel, by decide +kernel⟩
theorem Sh.sq (h : Sh K H v d) {xs : List Dt} (e : sqD d = some xs) : ∃ vs, Sq K H v vs ∧ Al (Sh K H) vs xs ∧ vs.length < 1000 := by
  cases h with
  | lst ha l1 l2 h => cases e; exact ⟨_, ⟨_, rfl, .inl (SqL.of ha)⟩, ⟨l2, h⟩, l1⟩
  | tup ha l1 l2 h => cases e; exact ⟨_, ⟨_, rfl, .inr ha⟩, ⟨l2, h⟩, l1⟩
  | non => cases e
  | bl b => cases e
  | int i => cases e
  | str z _ => cases e
  | dic _ => cases e
theorem Sh.str' {z : Str} (h : Sh K H v (.str z)) : v = .str z ∧ z.length ≤ sizeLine := by cases h; exact ⟨rfl, by assumption⟩
theorem Sh.int' {i : Int} (h : Sh K H v (.int i)) : v = .int i := by cases h; rfl
theorem Sh.bl' {b : Bool} (h : Sh K H v (.bl b)) : v = .bl b := by cases h; rfl
end
/-- it is one of such trees -/
def Sd (K : PySem.W.Frag) (H : Hp) (v : V) : Prop := ∃ d, Sh K H v d
theorem Sd.keep {K : PySem.W.Frag} {H H' : Hp} {v : V} (e : Same H H') (h : Sd K H v) : Sd K H' v := by
  obtain ⟨d, h⟩ := h
  exact ⟨d, h.keep e⟩
def FdD (d : Dt) (f : FD) : Prop := ∃ s, sqD d = some [.str f.nm, .str s, .bl f.need] ∧ s = sortS f.many ∧ wordB f.nm = true
theorem FdD.a {K : PySem.W.Frag} {H : Hp} {v : V} {d : Dt} {f : FD} (h : FdD d f) (s : Sh K H v d) : FdA K H v f := by
  obtain ⟨t, e, rfl, hw⟩ := h
  obtain ⟨vs, hs, hl, _⟩ := s.sq e
  obtain ⟨x, y, z, rfl⟩ : ∃ x y z, vs = [x, y, z] := by
    match vs, hl.1 with
    | [x, y, z], _ => exact ⟨x, y, z, rfl⟩
  rw [(hl.2 0 x _ rfl rfl).str'.1, (hl.2 1 y _ rfl rfl).str'.1, (hl.2 2 z _ rfl rfl).bl'] at hs
  exact hs
/-- the first i of ds are fields -/
structure PreF (ds : List Dt) (i : Nat) (fs : List FD) : Prop where
  len : fs.length = i
  le : i ≤ 3
  lt : i ≤ ds.length
  all : ∀ (j : Nat) d f, ds[j]? = some d → fs[j]? = some f → FdD d f
  nd : (fs.map (·.nm)).Nodup
def callD (d : Dt) : Option (Str × Str × List Dt × List Dt × List Dt) := match sqD d with
  | some [.str a, .str b, m, e, s] => (match sqD m, sqD e, sqD s with
    | some ms, some ds, some ss => some (a, b, ms, ds, ss)
    | _, _, _ => none)
  | _ => none
def strD : Dt → Str
  | .str z => z
  | _ => Str.empty
def deedD (d : Dt) : Option (Str × Str) := match sqD d with
  | some [.str a, .str b] => some (a, b)
  | _ => none
def deE (d : Dt) : Str × Str := (deedD d).getD (Str.empty, Str.empty)
theorem al_strs {K : PySem.W.Frag} {H : Hp} {vs : List V} {ss : List Dt} (h : Al (Sh K H) vs ss) (a : ∀ d ∈ ss, ∃ z, d = Dt.str z) : vs = (ss.map strD).map V.str := by
  refine List.ext_getElem? fun i => ?_
  rw [List.getElem?_map, List.getElem?_map]
  by_cases q : i < vs.length
  · obtain ⟨d, hd, r⟩ := h.get (List.getElem?_eq_getElem q)
    obtain ⟨z, rfl⟩ := a d (List.mem_of_getElem? hd)
    rw [List.getElem?_eq_getElem q, hd, r.str'.1]
    rfl
  · rw [List.getElem?_eq_none (by omega), List.getElem?_eq_none (by have := h.1; omega)]
    rfl
def moveI : Dt → Int
  | .int i => i
  | _ => 0
theorem al_ints {K : PySem.W.Frag} {H : Hp} {vs : List V} {ss : List Dt} (h : Al (Sh K H) vs ss) (a : ∀ d ∈ ss, ∃ z, d = Dt.int z) : vs = (ss.map moveI).map V.int := by
  refine List.ext_getElem? fun i => ?_
  rw [List.getElem?_map, List.getElem?_map]
  by_cases q : i < vs.length
  · obtain ⟨d, hd, r⟩ := h.get (List.getElem?_eq_getElem q)
    obtain ⟨z, rfl⟩ := a d (List.mem_of_getElem? hd)
    rw [List.getElem?_eq_getElem q, hd, r.int']
    rfl
  · rw [List.getElem?_eq_none (by omega), List.getElem?_eq_none (by have := h.1; omega)]
    rfl
/-- the call that it is -/
def CdD (d : Dt) (c : CD) : Prop := ∃ ms ds ss, callD d = some (c.nm, c.hand, ms, ds, ss) ∧ c.moves = ms.map moveI ∧ (∀ x ∈ ms, ∃ z, x = Dt.int z) ∧ c.deeds = ds.map deE ∧ (∀ x ∈ ds, sqD x = some [.str (deE x).1, .str (deE x).2]) ∧ c.same = ss.map strD ∧ ∀ x ∈ ss, ∃ z, x = Dt.str z
theorem callD_some {d : Dt} {a b : Str} {ms ds ss : List Dt} (h : callD d = some (a, b, ms, ds, ss)) : ∃ m e s, sqD d = some [.str a, .str b, m, e, s] ∧ sqD m = some ms ∧ sqD e = some ds ∧ sqD s = some ss := by
  unfold callD at h
  split at h
  · rename_i a' b' m e s q
    split at h
    · rename_i ms' ds' ss' h1 h2 h3
      cases h
      exact ⟨m, e, s, q, h1, h2, h3⟩
    · cases h
  · cases h
theorem len5 {vs : List V} (h : vs.length = 5) : ∃ a b c d e, vs = [a, b, c, d, e] := by
  match vs, h with
  | [a, b, c, d, e], _ => exact ⟨a, b, c, d, e, rfl⟩
theorem Sh.call {K : PySem.W.Frag} {H : Hp} {v : V} {d : Dt} {a b : Str} {ms ds ss : List Dt} (h : Sh K H v d) (e : callD d = some (a, b, ms, ds, ss)) : ∃ m dv s mvs dvs svs, Sq K H v [.str a, .str b, m, dv, s] ∧ a.length ≤ sizeLine ∧
    Sq K H m mvs ∧ Al (Sh K H) mvs ms ∧ mvs.length < 1000 ∧ Sq K H dv dvs ∧ Al (Sh K H) dvs ds ∧ dvs.length < 1000 ∧ Sq K H s svs ∧ Al (Sh K H) svs ss ∧ svs.length < 1000 := by
  obtain ⟨m, e', s, q, h1, h2, h3⟩ := callD_some e
  obtain ⟨vs, hs, hl, _⟩ := h.sq q
  obtain ⟨x0, x1, x2, x3, x4, rfl⟩ := len5 hl.1
  obtain ⟨s2, a2, l2⟩ := (hl.2 2 x2 _ rfl rfl).sq h1
  obtain ⟨s3, a3, l3⟩ := (hl.2 3 x3 _ rfl rfl).sq h2
  obtain ⟨s4, a4, l4⟩ := (hl.2 4 x4 _ rfl rfl).sq h3
  have z := (hl.2 0 x0 _ rfl rfl).str'
  rw [z.1, (hl.2 1 x1 _ rfl rfl).str'.1] at hs
  exact ⟨x2, x3, x4, s2, s3, s4, hs, z.2, a2, l2.1, l2.2, a3, l3.1, l3.2, a4, l4.1, l4.2⟩
theorem CdD.a {K : PySem.W.Frag} {H : Hp} {v : V} {d : Dt} {c : CD} (h : CdD d c) (s : Sh K H v d) : CdA K H v c := by
  obtain ⟨ms, ds, ss, e, h1, h2, h3, h4, h5, h6⟩ := h
  obtain ⟨m, dv, sv, mvs, dvs, svs, g0, _, g1, g2, _, g3, g4, _, g5, g6, _⟩ := s.call e
  rw [al_ints g2 h2, ← h1] at g1
  rw [al_strs g6 h6, ← h5] at g5
  refine ⟨m, dv, sv, dvs, g0, g1, g3, ?_, g5⟩
  rw [h3]
  refine ⟨by rw [g4.1, List.length_map], fun i x y q1 q2 => ?_⟩
  rw [List.getElem?_map] at q2
  obtain ⟨w, hw, rfl⟩ := Option.map_eq_some_iff.mp q2
  obtain ⟨us, hu, hl, _⟩ := (g4.2 i x w q1 hw).sq (h4 w (List.mem_of_getElem? hw))
  obtain ⟨p, q, rfl⟩ : ∃ p q, us = [p, q] := by
    match us, hl.1 with
    | [p, q], _ => exact ⟨p, q, rfl⟩
  rw [(hl.2 0 p _ rfl rfl).str'.1, (hl.2 1 q _ rfl rfl).str'.1] at hu
  exact hu
structure PreC (fs : List FD) (n : Nat) (ds : List Dt) (i : Nat) (cs : List CD) : Prop where
  len : cs.length = i
  le : i ≤ 6
  lt : i ≤ ds.length
  all : ∀ (j : Nat) d c, ds[j]? = some d → cs[j]? = some c → CdD d c
  ok : ∀ c ∈ cs, CdOk fs n c
  nd : (cs.map (·.nm)).Nodup
theorem PreF.ok {ds : List Dt} {i : Nat} {fs : List FD} (h : PreF ds i fs) (p : 1 ≤ i) : FsOk fs :=
  ⟨by rw [h.len]; exact p, by rw [h.len]; exact h.le, fun f hf => by
    obtain ⟨j, hj⟩ := List.mem_iff_getElem?.mp hf
    have hl := (List.getElem?_eq_some_iff.mp hj).1
    have h1 := h.len
    have h2 := h.lt
    obtain ⟨_, _, _, w⟩ := h.all j _ f (List.getElem?_eq_getElem (by omega)) hj
    exact w, h.nd⟩
theorem PreF.a {K : PySem.W.Frag} {H : Hp} {vs : List V} {ds : List Dt} {fs : List FD} (h : PreF ds ds.length fs) (a : Al (Sh K H) vs ds) : Al (FdA K H) vs fs :=
  ⟨by rw [a.1, h.len], fun i x f h1 h2 => by
    obtain ⟨d, hd, s⟩ := a.get h1
    exact (h.all i d f hd h2).a s⟩
theorem PreC.a {K : PySem.W.Frag} {H : Hp} {vs : List V} {fs : List FD} {n : Nat} {ds : List Dt} {cs : List CD} (h : PreC fs n ds ds.length cs) (a : Al (Sh K H) vs ds) : Al (CdA K H) vs cs :=
  ⟨by rw [a.1, h.len], fun i x f h1 h2 => by
    obtain ⟨d, hd, s⟩ := a.get h1
    exact (h.all i d f hd h2).a s⟩
end MK
set_option Elab.async false
set_option linter.all false
set_option autoImplicit false
set_option maxRecDepth 100000
set_option maxHeartbeats 1000000
namespace MK
open PySem PySem.Spec PyProof.Rows L2
theorem pe_cX {X : Cx} {k j : Nat} {x : Str} {sp : Sp} {p pos : Pos} {e : Expr} {es : List Expr} {t : TA} {E : XK} (hx : Passes (L2.CX X.prog X.w) X E) (c : Cal X.prog X.w X.K X.mg X.base (L2.CX X.prog X.w) k x sp) (hr : Room j X.A) (hk : k ≤ j) (hg : Gl X x) (ha : PA X (e :: es) t)
    (hdb : (x == ("__debug__" : Str)) = false := by decide) (he : starEach (e :: es) X.env = (false, eval e X.env) :: starEach es X.env := by rfl) (hpl : (backTo pos (starEach es X.env)).any (·.1) = false := by rfl) :
    PE X (.Call (.Name x p) (e :: es) [] pos) (tCall sp [] E t) := by
  obtain ⟨f, fd, ps, F, hm, kp, b⟩ := c.ex
  exact pe_call F (hr.mono hk) hg hm kp b .nil hx ha hdb he hpl
theorem fn_cx {P : Program} {w : World} {K : PySem.W.Frag} {mg : Str → Option Value} {base : Heap} {k : Nat} {f : Addr} {fd : FuncData} {ps : List Str} {sp : Sp} (F : FnOk P w K mg base CX0 k f fd ps sp) : FnOk P w K mg base (L2.CX P w) k f fd ps sp := by
  refine ⟨F.len, fun A outer s H args us vs Q E hr e0 hb hv hsp => codeAny_mono (F.run A outer s H args us vs Q E hr e0 hb hv hsp) fun z s' hq => ?_⟩
  cases z with
  | error e => exact False.elim hq
  | ok fl => cases fl with
    | ret u => exact hq
    | next => exact False.elim hq
    | brk => exact False.elim hq
    | cont => exact False.elim hq
theorem fn_or {P : Program} {w : World} {K : PySem.W.Frag} {mg : Str → Option Value} {base : Heap} {CX : CXT} {k : Nat} {f : Addr} {fd : FuncData} {ps : List Str} {sp1 sp2 : Sp} (F : FnOk P w K mg base CX k f fd ps sp1) (G : FnOk P w K mg base CX k f fd ps sp2) : FnOk P w K mg base CX k f fd ps fun vs H Q E => sp1 vs H Q E ∨ sp2 vs H Q E :=
  ⟨fun vs H Q E h => h.elim (F.len vs H Q E) (G.len vs H Q E), fun A outer s H args us vs Q E hr e0 hb hv hsp => hsp.elim (F.run A outer s H args us vs Q E hr e0 hb hv) (G.run A outer s H args us vs Q E hr e0 hb hv)⟩
theorem ix_of {K : PySem.W.Frag} {H : Hp} {a : Addr} {xs : List V} {i : Nat} {v : V} {Q : VK} (h : SqL K H a xs ∨ SqT K H a xs) (e : xs[i]? = some v) (q : Q v H) : rIx K (.ref a) (.int (i : Nat)) H Q :=
  h.elim (fun h => .inl ⟨_, _, _, _, rfl, rfl, h, atI_nat e, q⟩) (fun h => .inr (.inl ⟨_, _, _, _, rfl, rfl, h, atI_nat e, q⟩))
/-- over what an expression gives, a list or a tuple -/
theorem pi_sqG {X : Cx} {tg e : Expr} {te : TE} (h : PE X e te) : PI X tg e (iSqS X.K te) := ⟨fun pins s σ H R I hw => thn (h.run pins s σ H _ I hw) fun u s2 ⟨x, H2, J, rx, a, xs, H0, ex, sq, sm, k⟩ => by
  subst ex
  cases rx
  have fr := J.fpOk (Nat.le_refl s2.heap.objs.size) (J.hok.fresh (Nat.le_refl _))
  rcases sq with sq | sq
  · obtain ⟨ys, -, pl, -⟩ := J.list (sm.seq sq)
    exact wpAny_pyIter_list pl.isList ⟨_, [_], _, _, H2, rfl, J.kept (t' := s2.toks) (fun _ _ z => Heap.get?_push_of_some _ z), turn_list a _, ⟨_, Heap.get?_push_size _ rfl, rfl, rfl⟩, fun b hb => (List.mem_singleton.mp hb) ▸ fr, k _ _ walk_list fun H' e' => e'.seq sq⟩
  · obtain ⟨ys, -, pl, -⟩ := J.tuple (same_t sm sq)
    exact wpAny_pyIter_tuple pl ⟨_, [_], _, _, H2, rfl, J.kept (t' := s2.toks) (fun _ _ z => Heap.get?_push_of_some _ z), turn_tuple a _, ⟨_, Heap.get?_push_size _ rfl, rfl, rfl⟩, fun b hb => (List.mem_singleton.mp hb) ▸ fr, k _ _ walk_tup fun H' e' => same_t e' sq⟩⟩
end MK
set_option Elab.async false
set_option linter.all false
set_option autoImplicit false
set_option maxRecDepth 100000
set_option maxHeartbeats 1000000
set_option Elab.async false
set_option linter.all false
set_option autoImplicit false
set_option maxRecDepth 100000
set_option maxHeartbeats 1000000
namespace MK
open PySem PySem.Spec PyProof.Rows L2 TL
def numS (i : Int) : Str := Str.ofString (toString i)
/-- the lines of a text -/
inductive Ln where
  | M (n : Nat)
  | F (f : FD)
  | C (nm hand : Str) (mv : List Int)
  | D (d : Str × Str)
  | S (x : Str)
def Ln.kd : Ln → Nat
  | .M _ => 0
  | .F _ => 1
  | .C .. => 2
  | .D _ => 3
  | .S _ => 4
def needL (b : Bool) : List Str := if b then ["need"] else []
def Ln.parts : Ln → List Str
  | .M n => ["modes", numS n]
  | .F f => ([("field" : Str), f.nm, sortS f.many] : List Str) ++ needL f.need
  | .C nm hand mv => ([("call" : Str), nm, hand] : List Str) ++ mv.map numS
  | .D d => ["do", d.1, d.2]
  | .S x => ["same", x]
def Ln.text (l : Ln) : Str := Txt.join " " l.parts
def itemsC (c : CD) : List Ln := .C c.nm c.hand c.moves :: (c.deeds.map .D ++ c.same.map .S)
def items (fs : List FD) (n : Nat) (cs : List CD) : List Ln := .M n :: (fs.map .F ++ cs.flatMap itemsC)
/-- a part of a line -/
structure PartOk (p : Str) : Prop where
  nl : 10 ∉ tl p
  sp : 32 ∉ tl p
  le : p.length ≤ 8
structure LnOk (l : Ln) : Prop where
  few : l.parts.length ≤ 8
  part : ∀ p ∈ l.parts, PartOk p
theorem word_part {z : Str} (h : wordB z = true) : PartOk z := by
  unfold wordB at h
  simp only [Bool.and_eq_true, decide_eq_true_eq, List.all_eq_true] at h
  obtain ⟨⟨h1, h2⟩, h3⟩ := h
  have no : ∀ c, c < 97 → c ∉ tl z := fun c hc m => by
    have := h3 c m
    unfold letterB at this
    simp only [Bool.and_eq_true, decide_eq_true_eq] at this
    omega
  exact ⟨no 10 (by decide), no 32 (by decide), h2⟩
theorem num_part {i : Int} (h1 : -1 ≤ i) (h2 : i ≤ 4) : PartOk (numS i) := by
  have all : ∀ d : Fin 6, decide (10 ∉ tl (numS ((d.val : Int) - 1))) && decide (32 ∉ tl (numS ((d.val : Int) - 1))) && decide ((numS ((d.val : Int) - 1)).length ≤ 8) = true := by decide +kernel
  have := all ⟨(i + 1).toNat, by omega⟩
  have e : (((i + 1).toNat : Nat) : Int) - 1 = i := by omega
  simp only [Bool.and_eq_true, decide_eq_true_eq, e] at this
  exact ⟨this.1.1, this.1.2, this.2⟩
def litB (z : Str) : Bool := decide (10 ∉ tl z) && decide (32 ∉ tl z) && decide (z.length ≤ 8)
theorem lit_part {z : Str} (h : litB z = true) : PartOk z := by
  unfold litB at h
  simp only [Bool.and_eq_true, decide_eq_true_eq] at h
  exact ⟨h.1.1, h.1.2, h.2⟩
/-- what can stand in a line -/
def LnGood : Ln → Prop
  | .M n => n ≤ 4
  | .F f => wordB f.nm = true
  | .C nm hand mv => wordB nm = true ∧ wordB hand = true ∧ mv.length ≤ 4 ∧ ∀ m ∈ mv, -1 ≤ m ∧ m ≤ 4
  | .D d => wordB d.1 = true ∧ wordB d.2 = true
  | .S x => wordB x = true
theorem LnGood.ok : ∀ {l : Ln}, LnGood l → LnOk l
  | .M n, h => ⟨by show 2 ≤ 8; decide, fun p m => by
      have h : n ≤ 4 := h
      have m : p ∈ ([("modes" : Str), numS n] : List Str) := m
      simp only [List.mem_cons, List.not_mem_nil, or_false] at m
      rcases m with rfl | rfl
      · exact lit_part (by decide +kernel)
      · exact num_part (by omega) (by omega)⟩
  | .F f, h => by
    have h : wordB f.nm = true := h
    have hs : PartOk (sortS f.many) := lit_part (by cases f.many <;> decide +kernel)
    have hn : ∀ p ∈ needL f.need, PartOk p := fun p m => by
      cases q : f.need with
      | false =>
        rw [q] at m
        cases m
      | true =>
        rw [q] at m
        rw [List.mem_singleton.mp m]
        exact lit_part (by decide +kernel)
    refine ⟨?_, fun p m => ?_⟩
    · show (([("field" : Str), f.nm, sortS f.many] : List Str) ++ needL f.need).length ≤ 8
      cases f.need
      · show 3 ≤ 8
        decide
      · show 4 ≤ 8
        decide
    · have m : p ∈ ([("field" : Str), f.nm, sortS f.many] : List Str) ++ needL f.need := m
      rcases List.mem_append.mp m with m | m
      · simp only [List.mem_cons, List.not_mem_nil, or_false] at m
        rcases m with rfl | rfl | rfl
        · exact lit_part (by decide +kernel)
        · exact word_part h
        · exact hs
      · exact hn p m
  | .C nm hand mv, h => by
    obtain ⟨h1, h2, h3, h4⟩ := h
    refine ⟨?_, fun p m => ?_⟩
    · show (([("call" : Str), nm, hand] : List Str) ++ mv.map numS).length ≤ 8
      rw [List.length_append, List.length_map]
      show 3 + _ ≤ 8
      omega
    · have m : p ∈ ([("call" : Str), nm, hand] : List Str) ++ mv.map numS := m
      rcases List.mem_append.mp m with m | m
      · simp only [List.mem_cons, List.not_mem_nil, or_false] at m
        rcases m with rfl | rfl | rfl
        · exact lit_part (by decide +kernel)
        · exact word_part h1
        · exact word_part h2
      · obtain ⟨i, hi, rfl⟩ := List.mem_map.mp m
        exact num_part (h4 i hi).1 (h4 i hi).2
  | .D d, h => ⟨by show 3 ≤ 8; decide, fun p m => by
      obtain ⟨h1, h2⟩ := h
      have m : p ∈ ([("do" : Str), d.1, d.2] : List Str) := m
      simp only [List.mem_cons, List.not_mem_nil, or_false] at m
      rcases m with rfl | rfl | rfl
      · exact lit_part (by decide +kernel)
      · exact word_part h1
      · exact word_part h2⟩
  | .S x, h => ⟨by show 2 ≤ 8; decide, fun p m => by
      have h : wordB x = true := h
      have m : p ∈ ([("same" : Str), x] : List Str) := m
      simp only [List.mem_cons, List.not_mem_nil, or_false] at m
      rcases m with rfl | rfl
      · exact lit_part (by decide +kernel)
      · exact word_part h⟩
structure Dra where
  modes : Option Nat
  fs : List FD
  cs : List CD
inductive Step : Dra → Ln → Dra → Prop
  | m {n : Nat} : Step ⟨none, [], []⟩ (.M n) ⟨some n, [], []⟩
  | f {n : Nat} {fs : List FD} {f : FD} : fs.length ≤ 100 → Step ⟨some n, fs, []⟩ (.F f) ⟨some n, fs ++ [f], []⟩
  | c {n : Nat} {fs : List FD} {cs : List CD} {nm hand : Str} {mv : List Int} : cs.length ≤ 100 → Step ⟨some n, fs, cs⟩ (.C nm hand mv) ⟨some n, fs, cs ++ [⟨nm, hand, mv, [], []⟩]⟩
  | d {n : Nat} {fs : List FD} {cs : List CD} {nm hand : Str} {mv : List Int} {ds : List (Str × Str)} {d : Str × Str} : ds.length ≤ 100 → cs.length ≤ 100 → Step ⟨some n, fs, cs ++ [⟨nm, hand, mv, ds, []⟩]⟩ (.D d) ⟨some n, fs, cs ++ [⟨nm, hand, mv, ds ++ [d], []⟩]⟩
  | s {n : Nat} {fs : List FD} {cs : List CD} {nm hand : Str} {mv : List Int} {ds : List (Str × Str)} {ss : List Str} {x : Str} : ss.length ≤ 100 → cs.length ≤ 100 → Step ⟨some n, fs, cs ++ [⟨nm, hand, mv, ds, ss⟩]⟩ (.S x) ⟨some n, fs, cs ++ [⟨nm, hand, mv, ds, ss ++ [x]⟩]⟩
inductive Goes : Dra → List Ln → Dra → Prop
  | nil {a : Dra} : Goes a [] a
  | cons {a b c : Dra} {l : Ln} {r : List Ln} : Step a l b → Goes b r c → Goes a (l :: r) c
theorem Goes.app {a b c : Dra} {xs ys : List Ln} (h : Goes a xs b) (g : Goes b ys c) : Goes a (xs ++ ys) c := by
  induction h with
  | nil => exact g
  | cons s _ ih => exact .cons s (ih g)
end MK
set_option Elab.async false
set_option linter.all false
set_option autoImplicit false
set_option maxRecDepth 100000
set_option maxHeartbeats 1000000
namespace MK
open PySem PySem.Spec PyProof.Rows L2
/-- all but what stands at the addresses M -/
def Hid (M : List Addr) (H : Hp) : Hp := fun b => if b ∈ M then none else H b
theorem hid_in {M : List Addr} {H : Hp} {b : Addr} (h : b ∈ M) : Hid M H b = none := if_pos h
theorem hid_out {M : List Addr} {H : Hp} {b : Addr} (h : b ∉ M) : Hid M H b = H b := if_neg h
theorem hid_some {M : List Addr} {H : Hp} {b : Addr} {o : HO} (h : Hid M H b = some o) : b ∉ M ∧ H b = some o := by
  by_cases e : b ∈ M
  · rw [hid_in e] at h
    cases h
  · rw [hid_out e] at h
    exact ⟨e, h⟩
theorem hid_same {M : List Addr} {H : Hp} : Same (Hid M H) H := fun b o h => (hid_some h).2
theorem hid_get {M : List Addr} {H : Hp} {b : Addr} {o : HO} (h : H b = some o) (n : b ∉ M) : Hid M H b = some o := (hid_out n).trans h
theorem hid_go {M M' : List Addr} {H H' : Hp} (h : ∀ b o, b ∉ M → H b = some o → b ∉ M' ∧ H' b = some o) : Same (Hid M H) (Hid M' H') := fun b o hb => by
  obtain ⟨n, hb⟩ := hid_some hb
  obtain ⟨n', hb'⟩ := h b o n hb
  exact hid_get hb' n'
theorem hid_keep {M : List Addr} {H H' : Hp} (e : Same H H') : Same (Hid M H) (Hid M H') := hid_go fun b o n h => ⟨n, e _ _ h⟩
theorem hid_put {M : List Addr} {H H' : Hp} {a : Addr} {o : HO} (e : Same H H') (h : a ∈ M) : Same (Hid M H) (Hid M (upd H' a o)) := hid_go fun b u n hb => ⟨n, by
  rw [upd_ne (fun q : b = a => n (q.symm ▸ h))]
  exact e _ _ hb⟩
def mV : Option Nat → V
  | none => .non
  | some n => .int (n : Nat)
/-- the call that is being read: its lists of deeds and of same may be changed -/
def LastT (K : PySem.W.Frag) (H : Hp) (M : List Addr) (lf lc : Addr) (v : V) (c : CD) : Prop := ∃ (t m dl sl : Addr) (dvs : List V), v = .ref t ∧ Hid M H t = some (.tup [.str c.nm, .str c.hand, .ref m, .ref dl, .ref sl]) ∧ Hid M H m = some (.lst (c.moves.map V.int)) ∧
  (dl ∈ M ∧ sl ∈ M ∧ dl ≠ sl ∧ dl ≠ lf ∧ dl ≠ lc ∧ sl ≠ lf ∧ sl ≠ lc) ∧ H dl = some (.lst dvs) ∧ Al (DeT K (Hid M H)) dvs c.deeds ∧ H sl = some (.lst (c.same.map V.str))
def CsT (K : PySem.W.Frag) (H : Hp) (M : List Addr) (lf lc : Addr) (cvs : List V) (cs : List CD) : Prop := (cvs = [] ∧ cs = []) ∨ ∃ (cvs0 : List V) (v : V) (cs0 : List CD) (c : CD), cvs = cvs0 ++ [v] ∧ cs = cs0 ++ [c] ∧ Al (CdA K (Hid M H)) cvs0 cs0 ∧ LastT K H M lf lc v c
def drV (m : Option Nat) (lf lc : Addr) : List (Str × V) := [("modes", mV m), ("field_items", .ref lf), ("call_items", .ref lc)]
/-- a draft at dr, of which M may be changed -/
structure DrA (K : PySem.W.Frag) (DC : Addr) (H : Hp) (M : List Addr) (dr dx lf lc : Addr) (fvs cvs : List V) (a : Dra) : Prop where
  live : ∀ b ∈ M, H b ≠ none
  mem : dr ∈ M ∧ lf ∈ M ∧ lc ∈ M ∧ lf ≠ lc
  at_ : H dr = some (.ins DC dx (drV a.modes lf lc))
  fl : H lf = some (.lst fvs)
  fs : Al (FdT K (Hid M H)) fvs a.fs
  cl : H lc = some (.lst cvs)
  cs : CsT K H M lf lc cvs a.cs
def DrT (K : PySem.W.Frag) (DC : Addr) (H : Hp) (M : List Addr) (dr : Addr) (a : Dra) : Prop := ∃ (dx lf lc : Addr) (fvs cvs : List V), DrA K DC H M dr dx lf lc fvs cvs a
section
variable {K : PySem.W.Frag} {DC : Addr} {H H' : Hp} {M : List Addr} {dr dx lf lc : Addr} {fvs cvs : List V} {a : Dra} {v : V} {c : CD}
theorem LastT.keep (e : Same H H') (h : LastT K H M lf lc v c) : LastT K H' M lf lc v c := by
  obtain ⟨t, m, dl, sl, dvs, h0, h1, h2, h3, h4, h5, h6⟩ := h
  exact ⟨t, m, dl, sl, dvs, h0, hid_keep e _ _ h1, hid_keep e _ _ h2, h3, e _ _ h4, h5.mono fun _ _ h => DeT.keep (hid_keep e) h, e _ _ h6⟩
theorem CsT.keep {cs : List CD} (e : Same H H') (h : CsT K H M lf lc cvs cs) : CsT K H' M lf lc cvs cs := by
  rcases h with h | ⟨cvs0, v, cs0, c, h1, h2, h3, h4⟩
  · exact .inl h
  · exact .inr ⟨cvs0, v, cs0, c, h1, h2, h3.mono fun _ _ h => CdA.keep (hid_keep e) h, h4.keep e⟩
theorem DrA.keep (e : Same H H') (h : DrA K DC H M dr dx lf lc fvs cvs a) : DrA K DC H' M dr dx lf lc fvs cvs a where
  live := fun b hb q => by
    cases z : H b with
    | none => exact h.live b hb z
    | some o =>
      rw [e _ _ z] at q
      cases q
  mem := h.mem
  at_ := e _ _ h.at_
  fl := e _ _ h.fl
  fs := h.fs.mono fun _ _ h => FdT.keep (hid_keep e) h
  cl := e _ _ h.cl
  cs := h.cs.keep e
theorem DrA.t (h : DrA K DC H M dr dx lf lc fvs cvs a) : DrT K DC H M dr a := ⟨dx, lf, lc, fvs, cvs, h⟩
theorem DrA.nf (h : DrA K DC H M dr dx lf lc fvs cvs a) : lf ≠ dr := fun e => by
  have := h.at_
  rw [← e, h.fl] at this
  cases this
theorem DrA.nc (h : DrA K DC H M dr dx lf lc fvs cvs a) : lc ≠ dr := fun e => by
  have := h.at_
  rw [← e, h.cl] at this
  cases this
theorem DrA.new (h : DrA K DC H M dr dx lf lc fvs cvs a) {p : Addr} (hp : H p = none) : p ∉ M := fun m => h.live p m hp
/-- what stands elsewhere, when something of M is changed -/
theorem LastT.put {p : Addr} {o : HO} (hp : p ∈ M) (h : LastT K H M lf lc v c) (n : ∀ t m dl sl dvs, v = .ref t → H t = some (.tup [.str c.nm, .str c.hand, .ref m, .ref dl, .ref sl]) → H dl = some (.lst dvs) → dl ≠ p ∧ sl ≠ p) : LastT K (upd H p o) M lf lc v c := by
  obtain ⟨t, m, dl, sl, dvs, h0, h1, h2, h3, h4, h5, h6⟩ := h
  have e : Same (Hid M H) (Hid M (upd H p o)) := hid_put (Same.refl H) hp
  obtain ⟨n1, n2⟩ := n t m dl sl dvs h0 (hid_same _ _ h1) h4
  exact ⟨t, m, dl, sl, dvs, h0, e _ _ h1, e _ _ h2, h3, (upd_ne n1).trans h4, h5.mono fun _ _ h => DeT.keep e h, (upd_ne n2).trans h6⟩
end
end MK
set_option Elab.async false
set_option linter.all false
set_option autoImplicit false
set_option maxRecDepth 100000
set_option maxHeartbeats 1000000
namespace MK
open PySem PySem.Spec PyProof.Rows L2
section
variable {K : PySem.W.Frag} {a : Addr} {xs ys : List V} {g : TG} {te : TE} {vs : List Nat} {σ : L2.St} {H : Hp} {D : Addr} {Qd : Hp → Prop}
theorem take_val {i : Nat} {y : V} (h : ys[i]? = some y) : ys.take (i + 1) = ys.take i ++ [y] := by
  rw [List.take_succ, h]
  rfl
end
end MK
set_option Elab.async false
set_option linter.all false
set_option autoImplicit false
set_option maxRecDepth 100000
set_option maxHeartbeats 1000000
namespace MK
open PySem PySem.Spec PyProof.Rows L2
/-- the call that is being read: its lists of deeds and of same may be changed -/
def LastB (K : PySem.W.Frag) (H : Hp) (M : List Addr) (dr lf lc : Addr) (v : V) (c : CD) : Prop := ∃ (t m dl sl : Addr) (dvs : List V), v = .ref t ∧ Hid M H t = some (.tup [.str c.nm, .str c.hand, .ref m, .ref dl, .ref sl]) ∧ Hid M H m = some (.lst (c.moves.map V.int)) ∧
  (dl ∈ M ∧ sl ∈ M ∧ dl ≠ sl ∧ dl ≠ lf ∧ dl ≠ lc ∧ sl ≠ lf ∧ sl ≠ lc ∧ dl ≠ dr ∧ sl ≠ dr) ∧ H dl = some (.lst dvs) ∧ Al (DeT K (Hid M H)) dvs c.deeds ∧ H sl = some (.lst (c.same.map V.str))
def CsB (K : PySem.W.Frag) (H : Hp) (M : List Addr) (dr lf lc : Addr) (cvs : List V) (cs : List CD) : Prop := (cvs = [] ∧ cs = []) ∨ ∃ (cvs0 : List V) (v : V) (cs0 : List CD) (c : CD), cvs = cvs0 ++ [v] ∧ cs = cs0 ++ [c] ∧ Al (CdL K (Hid M H)) cvs0 cs0 ∧ LastB K H M dr lf lc v c
structure FR where
  nm : Str
  sort : Str
  need : Bool
def FrV (f : FR) : List V := [.str f.nm, .str f.sort, .bl f.need]
def FrT (K : PySem.W.Frag) (H : Hp) (v : V) (f : FR) : Prop := Tu K H v (FrV f)
theorem FrT.keep {K : PySem.W.Frag} {H H' : Hp} {v : V} {f : FR} (e : Same H H') (h : FrT K H v f) : FrT K H' v f := Tu.keep e h
/-- what has been read, under dr, of which M may be changed -/
structure DrB (K : PySem.W.Frag) (H : Hp) (M : List Addr) (dr : Addr) (ho : HO) (lf lc : Addr) (fvs cvs : List V) (fs : List FR) (cs : List CD) : Prop where
  live : ∀ b ∈ M, H b ≠ none
  mem : dr ∈ M ∧ lf ∈ M ∧ lc ∈ M ∧ lf ≠ lc
  nf : lf ≠ dr
  nc : lc ≠ dr
  at_ : H dr = some ho
  fl : H lf = some (.lst fvs)
  fs : Al (FrT K (Hid M H)) fvs fs
  cl : H lc = some (.lst cvs)
  cs : CsB K H M dr lf lc cvs cs
section
variable {K : PySem.W.Frag} {H H' : Hp} {M : List Addr} {dr lf lc : Addr} {ho : HO} {fvs cvs : List V} {fs : List FR} {cs : List CD} {v : V} {c : CD}
theorem LastB.keep (e : Same H H') (h : LastB K H M dr lf lc v c) : LastB K H' M dr lf lc v c := by
  obtain ⟨t, m, dl, sl, dvs, h0, h1, h2, h3, h4, h5, h6⟩ := h
  exact ⟨t, m, dl, sl, dvs, h0, hid_keep e _ _ h1, hid_keep e _ _ h2, h3, e _ _ h4, h5.mono fun _ _ h => DeT.keep (hid_keep e) h, e _ _ h6⟩
theorem CsB.keep {cs : List CD} (e : Same H H') (h : CsB K H M dr lf lc cvs cs) : CsB K H' M dr lf lc cvs cs := by
  rcases h with h | ⟨cvs0, v, cs0, c, h1, h2, h3, h4⟩
  · exact .inl h
  · exact .inr ⟨cvs0, v, cs0, c, h1, h2, h3.mono fun _ _ h => CdL.keep (hid_keep e) h, h4.keep e⟩
theorem DrB.keep (e : Same H H') (h : DrB K H M dr ho lf lc fvs cvs fs cs) : DrB K H' M dr ho lf lc fvs cvs fs cs where
  live := fun b hb q => by
    cases z : H b with
    | none => exact h.live b hb z
    | some o =>
      rw [e _ _ z] at q
      cases q
  mem := h.mem
  nf := h.nf
  nc := h.nc
  at_ := e _ _ h.at_
  fl := e _ _ h.fl
  fs := h.fs.mono fun _ _ h => FrT.keep (hid_keep e) h
  cl := e _ _ h.cl
  cs := h.cs.keep e
theorem DrB.new (h : DrB K H M dr ho lf lc fvs cvs fs cs) {p : Addr} (hp : H p = none) : p ∉ M := fun m => h.live p m hp
end
end MK
set_option Elab.async false
set_option linter.all false
set_option autoImplicit false
set_option maxRecDepth 100000
set_option maxHeartbeats 1000000
namespace MK
open PySem PySem.Spec PyProof.Rows L2 TL
def digB (c : Nat) : Bool := decide (48 ≤ c) && decide (c ≤ 57)
def numZ (z : Str) : Bool := !decide (z = ("" : Str)) && ((tl z).all digB && (decide (z = ("0" : Str)) || !decide ((tl z).head? = some 48)))
def valL (n : Nat) (cs : List Nat) : Nat := cs.foldl (fun n c => n * 10 + (c - 48)) n
def numN (z : Str) : Nat := valL 0 (tl z)
def movB (z : Str) : Bool := decide (z = ("-1" : Str)) || numZ z
def movI (z : Str) : Int := if z = ("-1" : Str) then -1 else (numN z : Nat)
structure Rd where
  modes : Option Nat
  fs : List FR
  cs : List CD
def putM (a : Rd) : List Str → Option Rd
  | [_, z] => if (a.modes.isNone && numZ z) = true then some ⟨some (numN z), a.fs, a.cs⟩ else none
  | _ => none
def putFi (a : Rd) : List Str → Option Rd
  | [_, x, y] => if (wordB x && (wordB y && a.cs.isEmpty)) = true then some ⟨a.modes, a.fs ++ [⟨x, y, false⟩], a.cs⟩ else none
  | [_, x, y, n] => if (decide (n = ("need" : Str)) && (wordB x && (wordB y && a.cs.isEmpty))) = true then some ⟨a.modes, a.fs ++ [⟨x, y, true⟩], a.cs⟩ else none
  | _ => none
def putC (a : Rd) : List Str → Option Rd
  | _ :: x :: y :: r => if (wordB x && (wordB y && r.all movB)) = true then some ⟨a.modes, a.fs, a.cs ++ [⟨x, y, r.map movI, [], []⟩]⟩ else none
  | _ => none
def putD (a : Rd) : List Str → Option Rd
  | [_, x, y] => if (wordB x && wordB y) = true then (match a.cs.getLast? with
    | some c => if c.same.isEmpty = true then some ⟨a.modes, a.fs, a.cs.dropLast ++ [⟨c.nm, c.hand, c.moves, c.deeds ++ [(x, y)], c.same⟩]⟩ else none
    | none => none) else none
  | _ => none
def putS (a : Rd) : List Str → Option Rd
  | [_, x] => if wordB x = true then (match a.cs.getLast? with
    | some c => some ⟨a.modes, a.fs, a.cs.dropLast ++ [⟨c.nm, c.hand, c.moves, c.deeds, c.same ++ [x]⟩]⟩
    | none => none) else none
  | _ => none
def putL (a : Rd) (ps : List Str) : Option Rd :=
  let h := ps.headD Str.empty
  if h = ("modes" : Str) then putM a ps else if a.modes.isNone = true then none else if h = ("field" : Str) then putFi a ps else if h = ("call" : Str) then putC a ps else if h = ("do" : Str) then putD a ps else if h = ("same" : Str) then putS a ps else none
def goes (a : Rd) : List (List Str) → Option Rd
  | [] => some a
  | p :: r => (putL a p).bind fun b => goes b r
theorem word_len' {z : Str} (h : wordB z = true) : z.length ≤ 8 := (word_part h).le
theorem word_sz {z : Str} (h : wordB z = true) : z.length ≤ sizeLine := Nat.le_trans (word_len' h) (by decide)
end MK
set_option Elab.async false
set_option linter.all false
set_option autoImplicit false
set_option maxRecDepth 100000
set_option maxHeartbeats 1000000
namespace L2
open PySem PySem.Spec PyProof.Rows
end L2
set_option Elab.async false
set_option linter.all false
set_option autoImplicit false
set_option maxRecDepth 100000
set_option maxHeartbeats 1000000
namespace MK
open PySem PySem.Spec PyProof.Rows L2
section
variable {K : PySem.W.Frag} {g : TG} {te : TE} {vs : List Nat} {σ : L2.St} {H : Hp} {D : Addr} {Qd : Hp → Prop} {J : It} {n : Nat} {G : Hp → Prop} {Y : Nat → Hp → V → Hp → Prop}
/-- each element is a value that is known -/
theorem lc_valS (wk : Walk J n G Y) {ys : List V} (len : ys.length = n) (few : n ≤ 1000) (hD : H D = none) (hG : ∀ H', Same H H' → G H')
    (hs : ∀ (i : Nat) x y H2 H3 (R : VK), i < n → ys[i]? = some y → Same H H2 → Y i H2 x H3 → (∀ H', Same H2 H' → R y H') → g x (wipe σ vs) H3 fun σ2 H4 => wipe σ2 vs = wipe σ vs ∧ te σ2 H4 R)
    (hd : ∀ H', Same H H' → H' D = some (.lst ys) → Qd H') :
    ∃ W : Nat → Nat → Hp → Prop, (∃ m, W 0 m (upd H D (.lst []))) ∧ ∀ i m H, W i m H →
      (J.stop i H ∧ Qd H) ∨ (J.go i H ∧ ∃ Nx : Hp → Prop, (∀ H', Nx H' → ∃ m', m' < m ∧ W (i + 1) m' H') ∧ ∀ x H', J.yld i H x H' → g x (wipe σ vs) H' fun σ2 H2 => wipe σ2 vs = wipe σ vs ∧ tYes σ2 H2 fun b H3 =>
        if b = true then te σ2 H3 fun y H4 => ∃ acc, H4 D = some (.lst acc) ∧ acc.length < sizeLine ∧ Nx (upd H4 D (.lst (acc ++ [y]))) else Nx H3) := by
  refine lc_it wk (fun i Z => Same H Z ∧ Z D = some (.lst (ys.take i))) ⟨same_new (Same.refl H) hD, upd_same⟩ (fun i Z _ e => hG Z e.1) (fun i x Z Z3 hi e hy => ?_) fun Z e => ?_
  · obtain ⟨e, d⟩ := e
    have hyi : ys[i]? = some ys[i] := List.getElem?_eq_getElem (by omega)
    refine hs i x _ Z Z3 _ hi hyi e hy fun H' e' => ⟨_, e' _ _ d, ?_, fun b o hb => ?_, ?_⟩
    · rw [List.length_take, sizeLine_eq]
      omega
    · rw [upd_ne (ne_of_none hb hD)]
      exact e' _ _ (e _ _ hb)
    · rw [upd_same, take_val hyi]
  · obtain ⟨e, d⟩ := e
    rw [← len, List.take_length] at d
    exact hd Z e d
end
end MK
set_option Elab.async false
set_option linter.all false
set_option autoImplicit false
set_option maxRecDepth 100000
set_option maxHeartbeats 1000000
namespace MK
open PySem PySem.Spec PyProof.Rows L2
/-- what is held for a field: a word or nothing, or the number of a list -/
inductive Sl where
  | w (o : Option Str)
  | l (n : Nat)
/-- what is told of it -/
inductive Ct where
  | w (o : Option Str)
  | l (ws : List Str)
/-- a maker, or, without a mode, a product -/
structure Ob where
  mode : Option Nat
  held : List Sl
instance : Inhabited Ob := ⟨⟨none, []⟩⟩
structure Bn where
  lists : List (List Str)
  obs : List Ob
  hand : List (Option Nat)
  early : List (Option (List Ct))
inductive Rw where
  | mk
  | call (nm : Str) (k : Nat) (wd : Option Str)
deriving DecidableEq
def getL (ls : List (List Str)) : Sl → List Str
  | .l n => ls.getD n []
  | .w _ => []
def ctOf (ls : List (List Str)) : Sl → Ct
  | .w o => .w o
  | .l n => .l (ls.getD n [])
def blStep (st : List (List Str) × List Sl) (f : FD) : List (List Str) × List Sl := if f.many = true then (st.1 ++ [[]], st.2 ++ [.l st.1.length]) else (st.1, st.2 ++ [.w none])
def blank (fs : List FD) (ls : List (List Str)) : List (List Str) × List Sl := fs.foldl blStep (ls, [])
def cpStep (same : List Str) (st : List (List Str) × List Sl) (x : Sl × FD) : List (List Str) × List Sl :=
  if x.2.many = true ∧ x.2.nm ∉ same then (st.1 ++ [getL st.1 x.1], st.2 ++ [.l st.1.length]) else (st.1, st.2 ++ [x.1])
def cp (same : List Str) (fs : List FD) (held : List Sl) (ls : List (List Str)) : List (List Str) × List Sl := (held.zip fs).foldl (cpStep same) (ls, [])
def spot (fs : List FD) (z : Str) : Nat := fs.findIdx fun f => decide (f.nm = z)
def Bn.ob (b : Bn) (j : Nat) : Ob := b.obs.getD j default
def Bn.setOb (b : Bn) (j : Nat) (o : Ob) : Bn := { b with obs := b.obs.set j o }
def Bn.setSlot (b : Bn) (j at_ : Nat) (s : Sl) : Bn := b.setOb j ⟨(b.ob j).mode, (b.ob j).held.set at_ s⟩
def Bn.setMode (b : Bn) (j m : Nat) : Bn := b.setOb j ⟨some m, (b.ob j).held⟩
def Bn.newOb (b : Bn) (m : Option Nat) (p : List (List Str) × List Sl) : Bn := { b with lists := p.1, obs := b.obs ++ [⟨m, p.2⟩] }
/-- a deed on what is held -/
def deStep (fs : List FD) (wd : Str) (j : Nat) (b : Bn) (d : Str × Str) : Bn :=
  match (b.ob j).held.getD (spot fs d.2) (.w none) with
  | .w _ => b.setSlot j (spot fs d.2) (.w (if d.1 = ("set" : Str) then some wd else none))
  | .l n =>
    if d.1 = ("fresh" : Str) then ({ b with lists := b.lists ++ [b.lists.getD n []] } : Bn).setSlot j (spot fs d.2) (.l b.lists.length)
    else { b with lists := b.lists.set n (if d.1 = ("add" : Str) then b.lists.getD n [] ++ [wd] else if d.1 = ("strike" : Str) then (b.lists.getD n []).filter (fun z => !decide (z = wd)) else []) }
def Bn.push (b : Bn) (h : Option Nat) (e : Option (List Ct)) : Bn := { b with hand := b.hand ++ [h], early := b.early ++ [e] }
/-- the object that a row's call works on -/
def pre (av : Bool) (fs : List FD) (c : CD) (b : Bn) (j m : Nat) : Bn × Nat :=
  if av = true then (b.newOb (some m) (cp [] fs (b.ob j).held b.lists), b.obs.length)
  else if c.hand = ("new" : Str) then (b.newOb (some m) (cp c.same fs (b.ob j).held b.lists), b.obs.length)
  else (b, j)
def mid (fs : List FD) (c : CD) (b : Bn) (j m : Nat) (wd : Str) : Bn := c.deeds.foldl (deStep fs wd j) (b.setMode j m)
def fin (fs : List FD) (c : CD) (b : Bn) (j : Nat) : Bn :=
  if c.hand = ("last" : Str) then
    let b1 := b.newOb none (cp c.same fs (b.ob j).held b.lists)
    b1.push (some b.obs.length) (some ((b1.ob b.obs.length).held.map (ctOf b1.lists)))
  else b.push (some j) none
def doCall (av : Bool) (fs : List FD) (c : CD) (b : Bn) (j m : Nat) (wd : Str) : Bn :=
  let p := pre av fs c b j m
  fin fs c (mid fs c p.1 p.2 m wd) p.2
def callOf (cs : List CD) (nm : Str) : Option CD := cs.find? fun c => decide (c.nm = nm)
/-- the mode to which the maker comes, none if it is refused -/
def nextM (c : CD) (b : Bn) (k : Nat) : Option (Nat × Nat) :=
  match b.hand.getD k none with
  | none => none
  | some j => match (b.ob j).mode with
    | none => none
    | some m => match c.moves.getD m (-1) with
      | .ofNat n => some (j, n)
      | .negSucc _ => none
def doRow (av : Bool) (fs : List FD) (cs : List CD) (b : Bn) : Rw → Bn
  | .mk => let p := blank fs b.lists; (b.newOb (some 0) p).push (some b.obs.length) none
  | .call nm k wd => match callOf cs nm with
    | none => b.push none none
    | some c => match nextM c b k with
      | none => b.push none none
      | some (j, m) => doCall av fs c b j m (wd.getD Str.empty)
def CD.takes (c : CD) : Bool := c.deeds.any fun d => decide (d.1 = ("set" : Str)) || (decide (d.1 = ("add" : Str)) || decide (d.1 = ("strike" : Str)))
def isLast (cs : List CD) : Rw → Bool
  | .mk => false
  | .call nm _ _ => match callOf cs nm with
    | some c => decide (c.hand = ("last" : Str))
    | none => false
/-- a row that can stand behind these -/
def RwOk (cs : List CD) (ahead : List Rw) : Rw → Prop
  | .mk => True
  | .call nm k wd => ∃ c, callOf cs nm = some c ∧ (∃ r, ahead[k]? = some r ∧ isLast cs r = false) ∧ (wd.isSome = c.takes) ∧ ∀ z, wd = some z → wordB z = true
def RwsOk (cs : List CD) (rs : List Rw) : Prop := ∀ (i : Nat) r, rs[i]? = some r → RwOk cs (rs.take i) r
def SlOk (n : Nat) (f : FD) : Sl → Prop
  | .w _ => f.many = false
  | .l k => f.many = true ∧ k < n
def HeldOk (n : Nat) (fs : List FD) (held : List Sl) : Prop := held.length = fs.length ∧ ∀ (i : Nat) s f, held[i]? = some s → fs[i]? = some f → SlOk n f s
/-- of the lists and the things -/
structure W0 (fs : List FD) (n A B C : Nat) (b : Bn) : Prop where
  held : ∀ o ∈ b.obs, HeldOk b.lists.length fs o.held
  mode : ∀ o ∈ b.obs, ∀ m, o.mode = some m → m < n
  ll : b.lists.length ≤ A
  ol : b.obs.length ≤ B
  wl : ∀ ws ∈ b.lists, ws.length ≤ C
  ws : ∀ ws ∈ b.lists, ∀ z ∈ ws, wordB z = true
  hw : ∀ o ∈ b.obs, ∀ z, Sl.w (some z) ∈ o.held → wordB z = true
structure Wf (fs : List FD) (n : Nat) (cs : List CD) (rs : List Rw) (b : Bn) : Prop where
  w : W0 fs n (10 * rs.length) (2 * rs.length) (4 * rs.length) b
  hl : b.hand.length = rs.length
  el : b.early.length = rs.length
  hand : ∀ (k : Nat) j, b.hand[k]? = some (some j) → j < b.obs.length
  /-- what a row hands has a mode just if it is none of a last -/
  mkr : ∀ (k : Nat) r j, rs[k]? = some r → b.hand[k]? = some (some j) → (b.ob j).mode.isSome = !isLast cs r
theorem HeldOk.mono {n n' : Nat} {fs : List FD} {held : List Sl} (h : HeldOk n fs held) (l : n ≤ n') : HeldOk n' fs held := ⟨h.1, fun i s f hs hf => by
  have := h.2 i s f hs hf
  cases s with
  | w o => exact this
  | l k => exact ⟨this.1, Nat.lt_of_lt_of_le this.2 l⟩⟩
theorem W0.mono {fs : List FD} {n A B C A' B' C' : Nat} {b : Bn} (h : W0 fs n A B C b) (a : A ≤ A') (bb : B ≤ B') (c : C ≤ C') : W0 fs n A' B' C' b :=
  ⟨h.held, h.mode, Nat.le_trans h.ll a, Nat.le_trans h.ol bb, fun ws m => Nat.le_trans (h.wl ws m) c, h.ws, h.hw⟩
theorem getD_mem {α : Type} {l : List α} {i : Nat} {d : α} (h : i < l.length) : l.getD i d ∈ l := by
  rw [List.getD_eq_getElem?_getD, List.getElem?_eq_getElem h]
  exact List.getElem_mem h
theorem ob_mem {b : Bn} {j : Nat} (h : j < b.obs.length) : b.ob j ∈ b.obs := getD_mem h
theorem ob_get {b : Bn} {j : Nat} (h : j < b.obs.length) : b.obs[j]? = some (b.ob j) := by
  rw [List.getElem?_eq_getElem h]
  unfold Bn.ob
  rw [List.getD_eq_getElem?_getD, List.getElem?_eq_getElem h]
  rfl
/-- a copy, or a blank one: the lists grow, what is held is as it should be -/
structure Grown (fs : List FD) (k C : Nat) (ls : List (List Str)) (p : List (List Str) × List Sl) : Prop where
  pre : ls <+: p.1
  ll : p.1.length ≤ ls.length + k
  held : p.2.length = k ∧ ∀ (i : Nat) s f, p.2[i]? = some s → fs[i]? = some f → SlOk p.1.length f s
  wl : ∀ ws ∈ p.1, ws.length ≤ C
  ws : ∀ ws ∈ p.1, ∀ z ∈ ws, wordB z = true
  hw : ∀ z, Sl.w (some z) ∈ p.2 → wordB z = true
theorem Grown.step {fs : List FD} {k C : Nat} {ls : List (List Str)} {p p' : List (List Str) × List Sl} {f : FD} (h : Grown fs k C ls p) (hf : fs[k]? = some f)
    (hp : (∃ ws, p' = (p.1 ++ [ws], p.2 ++ [.l p.1.length]) ∧ f.many = true ∧ ws.length ≤ C ∧ ∀ z ∈ ws, wordB z = true) ∨ (∃ s, p' = (p.1, p.2 ++ [s]) ∧ SlOk p.1.length f s ∧ ∀ z, s = .w (some z) → wordB z = true)) : Grown fs (k + 1) C ls p' := by
  have at_ : ∀ {s : Sl} {i : Nat} {s' : Sl}, (p.2 ++ [s])[i]? = some s' → (i < p.2.length ∧ p.2[i]? = some s') ∨ (i = k ∧ s' = s) := fun {s i s'} e => by
    by_cases q : i < p.2.length
    · rw [List.getElem?_append_left q] at e
      exact .inl ⟨q, e⟩
    · rw [List.getElem?_append_right (by omega)] at e
      have : i - p.2.length = 0 := by
        have := (List.getElem?_eq_some_iff.mp e).1
        simp only [List.length_cons, List.length_nil] at this
        omega
      rw [this] at e
      cases e
      exact .inr ⟨by have := h.held.1; omega, rfl⟩
  rcases hp with ⟨ws, rfl, hm, hl, hw⟩ | ⟨s, rfl, hs, hw⟩
  · refine ⟨h.pre.trans (List.prefix_append _ _), ?_, ⟨?_, fun i s f' e ef => ?_⟩, fun x m => ?_, fun x m => ?_, fun z m => ?_⟩
    · rw [List.length_append]
      have := h.ll
      show p.1.length + 1 ≤ _
      omega
    · rw [List.length_append, h.held.1]
      rfl
    · rcases at_ e with ⟨_, e⟩ | ⟨rfl, rfl⟩
      · have := h.held.2 i s f' e ef
        cases s with
        | w o => exact this
        | l k => exact ⟨this.1, by rw [List.length_append]; exact Nat.lt_of_lt_of_le this.2 (Nat.le_add_right ..)⟩
      · rw [hf] at ef
        cases ef
        exact ⟨hm, by rw [List.length_append]; exact Nat.lt_succ_self _⟩
    · rcases List.mem_append.mp m with m | m
      · exact h.wl x m
      · rw [List.mem_singleton.mp m]
        exact hl
    · rcases List.mem_append.mp m with m | m
      · exact h.ws x m
      · rw [List.mem_singleton.mp m]
        exact hw
    · rcases List.mem_append.mp m with m | m
      · exact h.hw z m
      · cases List.mem_singleton.mp m
  · refine ⟨h.pre, ?_, ⟨?_, fun i s' f' e ef => ?_⟩, h.wl, h.ws, fun z m => ?_⟩
    · have := h.ll
      show p.1.length ≤ _
      omega
    · rw [List.length_append, h.held.1]
      rfl
    · rcases at_ e with ⟨_, e⟩ | ⟨rfl, rfl⟩
      · exact h.held.2 i s' f' e ef
      · rw [hf] at ef
        cases ef
        exact hs
    · rcases List.mem_append.mp m with m | m
      · exact h.hw z m
      · exact hw z (List.mem_singleton.mp m).symm
theorem grown0 {fs : List FD} {C : Nat} {ls : List (List Str)} (wl : ∀ ws ∈ ls, ws.length ≤ C) (ws : ∀ ws ∈ ls, ∀ z ∈ ws, wordB z = true) : Grown fs 0 C ls (ls, []) := ⟨List.prefix_refl _, Nat.le_refl _, ⟨rfl, fun i s f h => by simp at h⟩, wl, ws, nofun⟩
theorem fold_take {α β : Type} (g : β → α → β) (z : β) {xs : List α} {i : Nat} {x : α} (h : xs[i]? = some x) : (xs.take (i + 1)).foldl g z = g ((xs.take i).foldl g z) x := by
  rw [List.take_succ, h, List.foldl_append]
  rfl
theorem bl_grown {fs : List FD} {C : Nat} {ls : List (List Str)} (wl : ∀ ws ∈ ls, ws.length ≤ C) (ws : ∀ ws ∈ ls, ∀ z ∈ ws, wordB z = true) : ∀ i, i ≤ fs.length → Grown fs i C ls ((fs.take i).foldl blStep (ls, []))
  | 0, _ => grown0 wl ws
  | i + 1, h => by
    have hf : fs[i]? = some fs[i] := List.getElem?_eq_getElem (by omega)
    rw [fold_take _ _ hf]
    refine (bl_grown wl ws i (by omega)).step hf ?_
    unfold blStep
    split
    · rename_i m
      exact .inl ⟨[], rfl, m, Nat.zero_le _, nofun⟩
    · rename_i m
      exact .inr ⟨.w none, rfl, by rw [Bool.not_eq_true] at m; exact m, nofun⟩
theorem cp_grown {same : List Str} {fs : List FD} {held : List Sl} {C : Nat} {ls : List (List Str)} (ho : HeldOk ls.length fs held) (hw : ∀ z, Sl.w (some z) ∈ held → wordB z = true) (wl : ∀ ws ∈ ls, ws.length ≤ C) (ws : ∀ ws ∈ ls, ∀ z ∈ ws, wordB z = true) :
    ∀ i, i ≤ fs.length → Grown fs i C ls (((held.zip fs).take i).foldl (cpStep same) (ls, []))
  | 0, _ => by rw [List.take_zero]; exact grown0 wl ws
  | i + 1, h => by
    have hf : fs[i]? = some fs[i] := List.getElem?_eq_getElem (by omega)
    have hh : held[i]? = some (held[i]'(by rw [ho.1]; omega)) := List.getElem?_eq_getElem (by rw [ho.1]; omega)
    have hz : (held.zip fs)[i]? = some (held[i]'(by rw [ho.1]; omega), fs[i]) := by rw [List.getElem?_zip_eq_some]; exact ⟨hh, hf⟩
    rw [fold_take _ _ hz]
    have ih := cp_grown (same := same) ho hw wl ws i (by omega)
    refine ih.step hf ?_
    have so := ho.2 i _ _ hh hf
    have mem := List.mem_of_getElem? hh
    revert so mem
    generalize held[i]'(by rw [ho.1]; omega) = s
    intro so mem
    unfold cpStep
    have hle : ls.length ≤ (((held.zip fs).take i).foldl (cpStep same) (ls, [])).1.length := ih.pre.length_le
    split
    · rename_i m
      refine .inl ⟨_, rfl, m.1, ?_, ?_⟩
      · cases s with
        | w o => exact Nat.zero_le _
        | l k => exact ih.wl _ (getD_mem (Nat.lt_of_lt_of_le so.2 hle))
      · cases s with
        | w o => exact nofun
        | l k => exact ih.ws _ (getD_mem (Nat.lt_of_lt_of_le so.2 hle))
    · refine .inr ⟨s, rfl, ?_, fun z e => hw z (e ▸ mem)⟩
      cases s with
      | w o => exact so
      | l k => exact ⟨so.1, Nat.lt_of_lt_of_le so.2 hle⟩
theorem blank_ok {fs : List FD} {C : Nat} {ls : List (List Str)} (wl : ∀ ws ∈ ls, ws.length ≤ C) (ws : ∀ ws ∈ ls, ∀ z ∈ ws, wordB z = true) : Grown fs fs.length C ls (blank fs ls) := by
  have := bl_grown wl ws fs.length (Nat.le_refl _)
  rw [List.take_length] at this
  exact this
theorem cp_ok {same : List Str} {fs : List FD} {held : List Sl} {C : Nat} {ls : List (List Str)} (ho : HeldOk ls.length fs held) (hw : ∀ z, Sl.w (some z) ∈ held → wordB z = true) (wl : ∀ ws ∈ ls, ws.length ≤ C) (ws : ∀ ws ∈ ls, ∀ z ∈ ws, wordB z = true) : Grown fs fs.length C ls (cp same fs held ls) := by
  have := cp_grown (same := same) ho hw wl ws fs.length (Nat.le_refl _)
  rw [List.take_of_length_le (by rw [List.length_zip, ho.1]; omega)] at this
  exact this
/-- a new thing -/
theorem W0.new {fs : List FD} {n A B C : Nat} {b : Bn} {m : Option Nat} {p : List (List Str) × List Sl} (h : W0 fs n A B C b) (g : Grown fs fs.length C b.lists p) (hm : ∀ m', m = some m' → m' < n) : W0 fs n (A + fs.length) (B + 1) C (b.newOb m p) where
  held := fun o mo => by
    rcases List.mem_append.mp mo with mo | mo
    · exact (h.held o mo).mono g.pre.length_le
    · rw [List.mem_singleton.mp mo]
      exact ⟨g.held.1, g.held.2⟩
  mode := fun o mo => by
    rcases List.mem_append.mp mo with mo | mo
    · exact h.mode o mo
    · rw [List.mem_singleton.mp mo]
      exact hm
  ll := by
    have h1 := g.ll
    have h2 := h.ll
    show p.1.length ≤ _
    omega
  ol := by
    show (b.obs ++ [_]).length ≤ _
    rw [List.length_append]
    have := h.ol
    show b.obs.length + 1 ≤ _
    omega
  wl := g.wl
  ws := g.ws
  hw := fun o mo => by
    rcases List.mem_append.mp mo with mo | mo
    · exact h.hw o mo
    · rw [List.mem_singleton.mp mo]
      exact g.hw
theorem W0.set {fs : List FD} {n A B C : Nat} {b : Bn} {j : Nat} {o : Ob} (h : W0 fs n A B C b) (hh : HeldOk b.lists.length fs o.held) (hm : ∀ m, o.mode = some m → m < n) (hw : ∀ z, Sl.w (some z) ∈ o.held → wordB z = true) : W0 fs n A B C (b.setOb j o) where
  held := fun o' mo => by
    rcases List.mem_or_eq_of_mem_set mo with mo | rfl
    · exact h.held o' mo
    · exact hh
  mode := fun o' mo => by
    rcases List.mem_or_eq_of_mem_set mo with mo | rfl
    · exact h.mode o' mo
    · exact hm
  ll := h.ll
  ol := by
    show (b.obs.set j o).length ≤ B
    rw [List.length_set]
    exact h.ol
  wl := h.wl
  ws := h.ws
  hw := fun o' mo => by
    rcases List.mem_or_eq_of_mem_set mo with mo | rfl
    · exact h.hw o' mo
    · exact hw
theorem HeldOk.set {n : Nat} {fs : List FD} {held : List Sl} {i : Nat} {s : Sl} (h : HeldOk n fs held) (hs : ∀ f, fs[i]? = some f → SlOk n f s) : HeldOk n fs (held.set i s) := by
  refine ⟨by rw [List.length_set]; exact h.1, fun k s' f e ef => ?_⟩
  rw [List.getElem?_set] at e
  split at e
  · split at e
    · cases e
      rename_i q _
      subst q
      exact hs f ef
    · cases e
  · exact h.2 k s' f e ef
theorem set_w {held : List Sl} {i : Nat} {s : Sl} {z : Str} (h : Sl.w (some z) ∈ held.set i s) : Sl.w (some z) ∈ held ∨ s = .w (some z) := by
  rcases List.mem_or_eq_of_mem_set h with h | h
  · exact .inl h
  · exact .inr h.symm
theorem spot_at {fs : List FD} {f : FD} (nd : (fs.map (·.nm)).Nodup) (m : f ∈ fs) : fs[spot fs f.nm]? = some f := by
  induction fs with
  | nil => cases m
  | cons g gs ih =>
    rw [List.map_cons, List.nodup_cons] at nd
    unfold spot
    rw [List.findIdx_cons]
    by_cases e : g.nm = f.nm
    · rw [decide_eq_true e]
      rcases List.mem_cons.mp m with rfl | m
      · rfl
      · exact absurd (List.mem_map.mpr ⟨f, m, e.symm⟩) nd.1
    · rw [decide_eq_false e]
      rcases List.mem_cons.mp m with rfl | m
      · exact absurd rfl e
      · exact ih nd.2 m
/-- what a deed's field holds -/
theorem deed_slot {fs : List FD} {n A B C : Nat} {b : Bn} {j : Nat} {d : Str × Str} (h : W0 fs n A B C b) (hj : j < b.obs.length) (nd : (fs.map (·.nm)).Nodup) (hd : DeOk fs d) :
    ∃ f s, f ∈ fs ∧ f.nm = d.2 ∧ f.many ∈ deedSorts d.1 ∧ fs[spot fs d.2]? = some f ∧ (b.ob j).held[spot fs d.2]? = some s ∧ SlOk b.lists.length f s := by
  obtain ⟨f, m, e, hm⟩ := hd
  have hf := spot_at nd m
  rw [e] at hf
  have ho := h.held _ (ob_mem hj)
  have l : spot fs d.2 < (b.ob j).held.length := by
    rw [ho.1]
    exact (List.getElem?_eq_some_iff.mp hf).1
  exact ⟨f, _, m, e, hm, hf, List.getElem?_eq_getElem l, ho.2 _ _ _ (List.getElem?_eq_getElem l) hf⟩
theorem deStep_ok {fs : List FD} {n A B C : Nat} {b : Bn} {j : Nat} {d : Str × Str} {wd : Str} (h : W0 fs n A B C b) (hj : j < b.obs.length) (nd : (fs.map (·.nm)).Nodup) (hd : DeOk fs d) (hw : d.1 = ("set" : Str) ∨ d.1 = ("add" : Str) → wordB wd = true) :
    W0 fs n (A + 1) B (C + 1) (deStep fs wd j b d) ∧ (deStep fs wd j b d).obs.length = b.obs.length := by
  obtain ⟨f, s, m, e, hm, hf, hs, so⟩ := deed_slot h hj nd hd
  have om := ob_mem hj
  have ho := h.held _ om
  unfold deStep
  rw [List.getD_eq_getElem?_getD, hs]
  cases s with
  | w o =>
    refine ⟨(h.set (j := j) (o := ⟨(b.ob j).mode, _⟩) (ho.set fun f' ef => ?_) (fun m e => h.mode (b.ob j) om m e) fun z mz => ?_).mono (Nat.le_succ _) (Nat.le_refl _) (Nat.le_succ _), by show (b.obs.set _ _).length = _; rw [List.length_set]⟩
    · rw [hf] at ef
      cases ef
      exact so
    · rcases set_w mz with q | q
      · exact h.hw _ om z q
      · split at q
        · rename_i ds
          cases q
          exact hw (.inl ds)
        · cases q
  | l k =>
    dsimp only [Option.getD_some]
    split
    · have gl : b.lists.getD k [] ∈ b.lists := getD_mem so.2
      have h1 : W0 fs n (A + 1) B C { b with lists := b.lists ++ [b.lists.getD k []] } := ⟨fun o mo => (h.held o mo).mono (by rw [List.length_append]; exact Nat.le_add_right ..), h.mode, by
          rw [List.length_append]
          have := h.ll
          show b.lists.length + 1 ≤ _
          omega, h.ol, fun ws m => by
          rcases List.mem_append.mp m with m | m
          · exact h.wl ws m
          · rw [List.mem_singleton.mp m]
            exact h.wl _ gl, fun ws m => by
          rcases List.mem_append.mp m with m | m
          · exact h.ws ws m
          · rw [List.mem_singleton.mp m]
            exact h.ws _ gl, h.hw⟩
      refine ⟨(h1.set (j := j) (o := ⟨(b.ob j).mode, _⟩) ((h1.held _ om).set fun f' ef => ?_) (fun m e => h.mode (b.ob j) om m e) fun z mz => ?_).mono (Nat.le_refl _) (Nat.le_refl _) (Nat.le_succ _), by show (b.obs.set _ _).length = _; rw [List.length_set]⟩
      · rw [hf] at ef
        cases ef
        exact ⟨so.1, by rw [List.length_append]; exact Nat.lt_succ_self _⟩
      · rcases set_w mz with q | q
        · exact h.hw _ om z q
        · cases q
    · refine ⟨⟨fun o mo => by rw [List.length_set]; exact h.held o mo, h.mode, by rw [List.length_set]; exact Nat.le_succ_of_le h.ll, h.ol, fun ws m => ?_, fun ws m => ?_, h.hw⟩, rfl⟩
      · rcases List.mem_or_eq_of_mem_set m with m | rfl
        · exact Nat.le_succ_of_le (h.wl ws m)
        · have := h.wl _ (getD_mem so.2 (d := []))
          split
          · rw [List.length_append]
            exact Nat.succ_le_succ this
          split
          · exact Nat.le_succ_of_le (Nat.le_trans (List.length_filter_le ..) this)
          · exact Nat.zero_le _
      · rcases List.mem_or_eq_of_mem_set m with m | rfl
        · exact h.ws ws m
        · have := h.ws _ (getD_mem so.2 (d := []))
          split
          · rename_i da
            intro z mz
            rcases List.mem_append.mp mz with mz | mz
            · exact this z mz
            · rw [List.mem_singleton.mp mz]
              exact hw (.inr da)
          split
          · exact fun z mz => this z (List.mem_filter.mp mz).1
          · exact nofun
theorem deeds_ok {fs : List FD} {n A B C : Nat} {b : Bn} {j : Nat} {ds : List (Str × Str)} {wd : Str} (h : W0 fs n A B C b) (hj : j < b.obs.length) (nd : (fs.map (·.nm)).Nodup) (hd : ∀ d ∈ ds, DeOk fs d) (hw : ∀ d ∈ ds, d.1 = ("set" : Str) ∨ d.1 = ("add" : Str) → wordB wd = true) :
    ∀ i, i ≤ ds.length → W0 fs n (A + i) B (C + i) ((ds.take i).foldl (deStep fs wd j) b) ∧ ((ds.take i).foldl (deStep fs wd j) b).obs.length = b.obs.length
  | 0, _ => ⟨h, rfl⟩
  | i + 1, l => by
    have hi : ds[i]? = some ds[i] := List.getElem?_eq_getElem (by omega)
    obtain ⟨ih, io⟩ := deeds_ok h hj nd hd hw i (by omega)
    rw [fold_take _ _ hi]
    have m := List.mem_of_getElem? hi
    obtain ⟨q1, q2⟩ := deStep_ok (wd := wd) ih (by rw [io]; exact hj) nd (hd _ m) (hw _ m)
    exact ⟨q1, q2.trans io⟩
end MK
set_option Elab.async false
set_option linter.all false
set_option autoImplicit false
set_option maxRecDepth 100000
set_option maxHeartbeats 1000000
namespace MK
open PySem PySem.Spec PyProof.Rows L2
/-- makers stay makers, products stay products -/
structure Md (b b' : Bn) : Prop where
  len : b.obs.length ≤ b'.obs.length
  md : ∀ i, i < b.obs.length → (b'.ob i).mode.isSome = (b.ob i).mode.isSome
theorem Md.refl (b : Bn) : Md b b := ⟨Nat.le_refl _, fun _ _ => rfl⟩
theorem Md.trans {b b1 b2 : Bn} (h : Md b b1) (g : Md b1 b2) : Md b b2 := ⟨Nat.le_trans h.len g.len, fun i hi => (g.md i (Nat.lt_of_lt_of_le hi h.len)).trans (h.md i hi)⟩
theorem ob_push (b : Bn) (h : Option Nat) (e : Option (List Ct)) (i : Nat) : (b.push h e).ob i = b.ob i := rfl
theorem ob_new_lt {b : Bn} {m : Option Nat} {p : List (List Str) × List Sl} {i : Nat} (hi : i < b.obs.length) : (b.newOb m p).ob i = b.ob i := by
  unfold Bn.ob
  show (b.obs ++ [_]).getD i default = _
  rw [List.getD_eq_getElem?_getD, List.getD_eq_getElem?_getD, List.getElem?_append_left hi]
theorem ob_new {b : Bn} {m : Option Nat} {p : List (List Str) × List Sl} : (b.newOb m p).ob b.obs.length = ⟨m, p.2⟩ := by
  unfold Bn.ob
  show (b.obs ++ [_]).getD _ default = _
  rw [List.getD_eq_getElem?_getD, List.getElem?_append_right (Nat.le_refl _), Nat.sub_self]
  rfl
theorem len_new {b : Bn} {m : Option Nat} {p : List (List Str) × List Sl} : (b.newOb m p).obs.length = b.obs.length + 1 := by
  show (b.obs ++ [_]).length = _
  rw [List.length_append]
  rfl
theorem len_setOb {b : Bn} {j : Nat} {o : Ob} : (b.setOb j o).obs.length = b.obs.length := List.length_set ..
theorem ob_set {b : Bn} {j i : Nat} {o : Ob} (hj : j < b.obs.length) : (b.setOb j o).ob i = if i = j then o else b.ob i := by
  unfold Bn.ob
  show (b.obs.set j o).getD i default = _
  rw [List.getD_eq_getElem?_getD, List.getElem?_set]
  by_cases e : j = i
  · subst e
    rw [if_pos rfl, if_pos hj, if_pos rfl]
    rfl
  · rw [if_neg e, if_neg (Ne.symm e), List.getD_eq_getElem?_getD]
theorem md_new {b : Bn} {m : Option Nat} {p : List (List Str) × List Sl} : Md b (b.newOb m p) := ⟨by rw [len_new]; omega, fun i hi => by rw [ob_new_lt hi]⟩
theorem md_set {b : Bn} {j : Nat} {o : Ob} (hj : j < b.obs.length) (h : o.mode.isSome = (b.ob j).mode.isSome) : Md b (b.setOb j o) := ⟨by rw [len_setOb]; exact Nat.le_refl _, fun i hi => by
  rw [ob_set hj]
  split
  · rename_i e
    rw [e, h]
  · rfl⟩
theorem md_lists {b : Bn} {ls : List (List Str)} : Md b { b with lists := ls } := ⟨Nat.le_refl _, fun _ _ => rfl⟩
theorem md_deed {fs : List FD} {wd : Str} {j : Nat} {b : Bn} {d : Str × Str} (hj : j < b.obs.length) : Md b (deStep fs wd j b d) := by
  unfold deStep
  split
  · exact md_set hj rfl
  · split
    · exact md_lists.trans (md_set (b := { b with lists := _ }) hj rfl)
    · exact md_lists
theorem md_deeds {fs : List FD} {wd : Str} {j : Nat} : ∀ {ds : List (Str × Str)} {b : Bn}, j < b.obs.length → Md b (ds.foldl (deStep fs wd j) b)
  | [], b, _ => Md.refl b
  | d :: ds, b, hj => by
    have h1 := md_deed (fs := fs) (wd := wd) (d := d) hj
    exact h1.trans (md_deeds (Nat.lt_of_lt_of_le hj h1.len))
/-- the rows handed stay as they are noted -/
theorem hand_deed {fs : List FD} {wd : Str} {j : Nat} {b : Bn} {d : Str × Str} : (deStep fs wd j b d).hand = b.hand ∧ (deStep fs wd j b d).early = b.early := by
  unfold deStep
  split
  · exact ⟨rfl, rfl⟩
  · split <;> exact ⟨rfl, rfl⟩
theorem hand_deeds {fs : List FD} {wd : Str} {j : Nat} : ∀ {ds : List (Str × Str)} {b : Bn}, (ds.foldl (deStep fs wd j) b).hand = b.hand ∧ (ds.foldl (deStep fs wd j) b).early = b.early
  | [], b => ⟨rfl, rfl⟩
  | d :: ds, b => by
    have h1 := hand_deed (fs := fs) (wd := wd) (j := j) (b := b) (d := d)
    have h2 := hand_deeds (fs := fs) (wd := wd) (j := j) (ds := ds) (b := deStep fs wd j b d)
    exact ⟨h2.1.trans h1.1, h2.2.trans h1.2⟩
theorem pre_hand {av : Bool} {fs : List FD} {c : CD} {b : Bn} {j m : Nat} : (pre av fs c b j m).1.hand = b.hand ∧ (pre av fs c b j m).1.early = b.early := by
  unfold pre
  split
  · exact ⟨rfl, rfl⟩
  · split <;> exact ⟨rfl, rfl⟩
theorem pre_md {av : Bool} {fs : List FD} {c : CD} {b : Bn} {j m : Nat} : Md b (pre av fs c b j m).1 := by
  unfold pre
  split
  · exact md_new
  · split
    · exact md_new
    · exact Md.refl b
theorem pre_lt {av : Bool} {fs : List FD} {c : CD} {b : Bn} {j m : Nat} (hj : j < b.obs.length) : (pre av fs c b j m).2 < (pre av fs c b j m).1.obs.length ∧ ((b.ob j).mode.isSome = true → ((pre av fs c b j m).1.ob (pre av fs c b j m).2).mode.isSome = true) := by
  unfold pre
  split
  · exact ⟨by rw [len_new]; exact Nat.lt_succ_self _, fun _ => by rw [ob_new]; rfl⟩
  · split
    · exact ⟨by rw [len_new]; exact Nat.lt_succ_self _, fun _ => by rw [ob_new]; rfl⟩
    · exact ⟨hj, fun h => h⟩
theorem pre_w {av : Bool} {fs : List FD} {n A B C : Nat} {c : CD} {b : Bn} {j m : Nat} (h : W0 fs n A B C b) (hj : j < b.obs.length) (hm : m < n) : W0 fs n (A + fs.length) (B + 1) C (pre av fs c b j m).1 := by
  have om := ob_mem hj
  have g : ∀ same, Grown fs fs.length C b.lists (cp same fs (b.ob j).held b.lists) := fun same => cp_ok (h.held _ om) (h.hw _ om) h.wl h.ws
  have hm' : ∀ m', some m = some m' → m' < n := fun m' e => by cases e; exact hm
  unfold pre
  split
  · exact h.new (g _) hm'
  · split
    · exact h.new (g _) hm'
    · exact h.mono (Nat.le_add_right ..) (Nat.le_succ _) (Nat.le_refl _)
theorem mid_w {fs : List FD} {n A B C : Nat} {c : CD} {b : Bn} {j m : Nat} {wd : Str} (h : W0 fs n A B C b) (hj : j < b.obs.length) (hm : m < n) (nd : (fs.map (·.nm)).Nodup) (hd : ∀ d ∈ c.deeds, DeOk fs d) (hw : ∀ d ∈ c.deeds, d.1 = ("set" : Str) ∨ d.1 = ("add" : Str) → wordB wd = true) :
    W0 fs n (A + c.deeds.length) B (C + c.deeds.length) (mid fs c b j m wd) ∧ (mid fs c b j m wd).obs.length = b.obs.length := by
  have om := ob_mem hj
  have h1 : W0 fs n A B C (b.setMode j m) := h.set (h.held (b.ob j) om) (fun m' e => by cases e; exact hm) (h.hw (b.ob j) om)
  have := deeds_ok h1 (j := j) (by rw [show (b.setMode j m).obs.length = _ from len_setOb]; exact hj) nd hd hw c.deeds.length (Nat.le_refl _)
  rw [List.take_length] at this
  exact ⟨this.1, this.2.trans len_setOb⟩
theorem mid_md {fs : List FD} {c : CD} {b : Bn} {j m : Nat} {wd : Str} (hj : j < b.obs.length) (hm : (b.ob j).mode.isSome = true) : Md b (mid fs c b j m wd) :=
  (md_set (o := ⟨some m, (b.ob j).held⟩) hj (by rw [hm]; rfl)).trans (md_deeds (b := b.setMode j m) (by rw [show (b.setMode j m).obs.length = _ from len_setOb]; exact hj))
theorem mid_hand {fs : List FD} {c : CD} {b : Bn} {j m : Nat} {wd : Str} : (mid fs c b j m wd).hand = b.hand ∧ (mid fs c b j m wd).early = b.early := hand_deeds (b := b.setMode j m)
theorem fin_w {fs : List FD} {n A B C : Nat} {c : CD} {b : Bn} {j : Nat} (h : W0 fs n A B C b) (hj : j < b.obs.length) : W0 fs n (A + fs.length) (B + 1) C (fin fs c b j) := by
  have om := ob_mem hj
  have pu : ∀ {A B : Nat} {b : Bn} {x e}, W0 fs n A B C b → W0 fs n A B C (b.push x e) := fun h => ⟨h.held, h.mode, h.ll, h.ol, h.wl, h.ws, h.hw⟩
  unfold fin
  split
  · exact pu (h.new (cp_ok (h.held _ om) (h.hw _ om) h.wl h.ws) nofun)
  · exact pu (h.mono (Nat.le_add_right ..) (Nat.le_succ _) (Nat.le_refl _))
theorem fin_md {fs : List FD} {c : CD} {b : Bn} {j : Nat} : Md b (fin fs c b j) := by
  unfold fin
  split
  · exact ⟨md_new.len, md_new.md⟩
  · exact ⟨Nat.le_refl _, fun _ _ => rfl⟩
/-- what the row hands, and whether that is a maker -/
theorem fin_hand {fs : List FD} {c : CD} {b : Bn} {j : Nat} (hj : j < b.obs.length) (hm : (b.ob j).mode.isSome = true) : ∃ h e, (fin fs c b j).hand = b.hand ++ [some h] ∧ (fin fs c b j).early = b.early ++ [e] ∧ h < (fin fs c b j).obs.length ∧ ((fin fs c b j).ob h).mode.isSome = !decide (c.hand = ("last" : Str)) := by
  unfold fin
  split
  · rename_i q
    refine ⟨_, _, rfl, rfl, ?_, ?_⟩
    · show _ < (b.newOb none _).obs.length
      rw [len_new]
      exact Nat.lt_succ_self _
    · rw [ob_push, ob_new, decide_eq_true q]
      rfl
  · rename_i q
    refine ⟨j, none, rfl, rfl, hj, ?_⟩
    rw [ob_push, hm, decide_eq_false q]
    rfl
theorem callOf_mem {cs : List CD} {nm : Str} {c : CD} (h : callOf cs nm = some c) : c ∈ cs ∧ c.nm = nm := ⟨List.mem_of_find?_eq_some h, by
  have := List.find?_some h
  exact of_decide_eq_true this⟩
theorem takes_w {c : CD} {d : Str × Str} (m : d ∈ c.deeds) (h : d.1 = ("set" : Str) ∨ d.1 = ("add" : Str) ∨ d.1 = ("strike" : Str)) : c.takes = true := by
  unfold CD.takes
  rw [List.any_eq_true]
  refine ⟨d, m, ?_⟩
  rcases h with h | h | h
  · rw [h]; rfl
  · rw [h]; rfl
  · rw [h]; rfl
/-- a row's word, where its call takes one -/
theorem row_word {c : CD} {wd : Option Str} (h1 : wd.isSome = c.takes) (h2 : ∀ z, wd = some z → wordB z = true) : ∀ d ∈ c.deeds, d.1 = ("set" : Str) ∨ d.1 = ("add" : Str) → wordB (wd.getD Str.empty) = true := fun d m h => by
  have t := takes_w m (h.imp id Or.inl)
  rw [t] at h1
  cases wd with
  | none => cases h1
  | some z => exact h2 z rfl
theorem nextM_some {c : CD} {b : Bn} {k j m : Nat} (h : nextM c b k = some (j, m)) : b.hand[k]? = some (some j) ∧ (b.ob j).mode.isSome = true ∧ ∃ m0, (b.ob j).mode = some m0 ∧ c.moves.getD m0 (-1) = (m : Int) := by
  unfold nextM at h
  split at h
  · cases h
  · rename_i j' e
    split at h
    · cases h
    · rename_i m0 e2
      split at h
      · rename_i n e3
        cases h
        refine ⟨?_, by rw [e2]; rfl, m0, e2, e3⟩
        rw [List.getD_eq_getElem?_getD] at e
        cases q : b.hand[k]? with
        | none => rw [q] at e; cases e
        | some x => rw [q] at e; exact congrArg some e
      · cases h
theorem snoc_at {α : Type} {xs : List α} {x : α} {k : Nat} {y : α} (h : (xs ++ [x])[k]? = some y) : (k < xs.length ∧ xs[k]? = some y) ∨ (k = xs.length ∧ y = x) := by
  by_cases q : k < xs.length
  · rw [List.getElem?_append_left q] at h
    exact .inl ⟨q, h⟩
  · rw [List.getElem?_append_right (by omega)] at h
    have : k - xs.length = 0 := by
      have := (List.getElem?_eq_some_iff.mp h).1
      simp only [List.length_cons, List.length_nil] at this
      omega
    rw [this] at h
    cases h
    exact .inr ⟨by omega, rfl⟩
/-- one row more -/
theorem Wf.step {fs : List FD} {n : Nat} {cs : List CD} {rs : List Rw} {r : Rw} {b b' : Bn} {x : Option Nat} {e : Option (List Ct)} (h : Wf fs n cs rs b) (w : W0 fs n (10 * rs.length + 10) (2 * rs.length + 2) (4 * rs.length + 4) b') (md : Md b b') (hh : b'.hand = b.hand ++ [x]) (he : b'.early = b.early ++ [e])
    (hx : ∀ j, x = some j → j < b'.obs.length ∧ (b'.ob j).mode.isSome = !isLast cs r) : Wf fs n cs (rs ++ [r]) b' := by
  have l : (rs ++ [r]).length = rs.length + 1 := by rw [List.length_append]; rfl
  refine ⟨?_, ?_, ?_, fun k j hk => ?_, fun k r' j hr hk => ?_⟩
  · rw [l]
    exact w.mono (by omega) (by omega) (by omega)
  · rw [hh, l, List.length_append, h.hl]
    rfl
  · rw [he, l, List.length_append, h.el]
    rfl
  · rw [hh] at hk
    rcases snoc_at hk with ⟨_, hk⟩ | ⟨_, e⟩
    · exact Nat.lt_of_lt_of_le (h.hand k j hk) md.len
    · exact (hx j e.symm).1
  · rw [hh] at hk
    rcases snoc_at hk with ⟨q, hk⟩ | ⟨q, e⟩
    · rw [h.hl] at q
      rw [List.getElem?_append_left q] at hr
      rw [md.md j (h.hand k j hk)]
      exact h.mkr k r' j hr hk
    · rw [h.hl] at q
      rw [q, List.getElem?_append_right (Nat.le_refl _), Nat.sub_self] at hr
      cases hr
      exact (hx j e.symm).2
theorem W0.push {fs : List FD} {n A B C : Nat} {b : Bn} {x : Option Nat} {e : Option (List Ct)} (h : W0 fs n A B C b) : W0 fs n A B C (b.push x e) := ⟨h.held, h.mode, h.ll, h.ol, h.wl, h.ws, h.hw⟩
theorem move_lt {fs : List FD} {n : Nat} {c : CD} {m0 m : Nat} (h : CdOk fs n c) (e : c.moves.getD m0 (-1) = (m : Int)) : m < n := by
  rw [List.getD_eq_getElem?_getD] at e
  cases q : c.moves[m0]? with
  | none => rw [q] at e; cases e
  | some i =>
    rw [q] at e
    have e : i = (m : Int) := e
    have := h.move i (List.mem_of_getElem? q)
    omega
theorem Wf.row {av : Bool} {fs : List FD} {n : Nat} {cs : List CD} {rs : List Rw} {r : Rw} {b : Bn} (h : Wf fs n cs rs b) (ok : KdOk fs n cs) (hr : RwOk cs rs r) : Wf fs n cs (rs ++ [r]) (doRow av fs cs b r) := by
  have f3 := ok.fields.le
  have none_ : Wf fs n cs (rs ++ [r]) (b.push none none) := h.step (h.w.push.mono (by omega) (by omega) (by omega)) ⟨Nat.le_refl _, fun _ _ => rfl⟩ rfl rfl nofun
  cases r with
  | mk =>
    show Wf fs n cs _ ((b.newOb (some 0) (blank fs b.lists)).push (some b.obs.length) none)
    refine h.step (x := some b.obs.length) (e := none) ((h.w.new (blank_ok h.w.wl h.w.ws) fun m' e => by cases e; exact ok.pos).push.mono (by omega) (by omega) (by omega)) ⟨md_new.len, md_new.md⟩ rfl rfl fun j e => ?_
    cases e
    refine ⟨?_, ?_⟩
    · show _ < (b.newOb _ _).obs.length
      rw [len_new]
      exact Nat.lt_succ_self _
    · rw [ob_push, ob_new]
      rfl
  | call nm k wd =>
    obtain ⟨c, hc, ⟨r0, hr0, hl⟩, hw1, hw2⟩ := hr
    obtain ⟨cm, rfl⟩ := callOf_mem hc
    have cok := ok.calls c cm
    show Wf fs n cs _ (match callOf cs c.nm with | none => b.push none none | some c => (match nextM c b k with | none => b.push none none | some (j, m) => doCall av fs c b j m (wd.getD Str.empty)))
    rw [hc]
    dsimp only
    cases hn : nextM c b k with
    | none => exact none_
    | some jm =>
      obtain ⟨j, m⟩ := jm
      obtain ⟨hk, hs, m0, hm0, hmv⟩ := nextM_some hn
      have hj := h.hand k j hk
      have hm : m < n := move_lt cok hmv
      have p1 := pre_w (av := av) (c := c) h.w hj hm
      obtain ⟨p2, p3⟩ := pre_lt (av := av) (fs := fs) (c := c) (m := m) hj
      have p4 := pre_hand (av := av) (fs := fs) (c := c) (b := b) (j := j) (m := m)
      have p5 := pre_md (av := av) (fs := fs) (c := c) (b := b) (j := j) (m := m)
      show Wf fs n cs _ (fin fs c (mid fs c (pre av fs c b j m).1 (pre av fs c b j m).2 m (wd.getD Str.empty)) (pre av fs c b j m).2)
      generalize (pre av fs c b j m).1 = b1 at p1 p2 p3 p4 p5
      generalize (pre av fs c b j m).2 = j1 at p2 p3
      obtain ⟨q1, q2⟩ := mid_w (wd := wd.getD Str.empty) (c := c) p1 p2 hm ok.fields.nd cok.deed (row_word hw1 hw2)
      have q3 := mid_md (fs := fs) (c := c) (m := m) (wd := wd.getD Str.empty) p2 (p3 hs)
      have q4 := mid_hand (fs := fs) (c := c) (b := b1) (j := j1) (m := m) (wd := wd.getD Str.empty)
      generalize mid fs c b1 j1 m (wd.getD Str.empty) = b2 at q1 q2 q3 q4
      have hj2 : j1 < b2.obs.length := by rw [q2]; exact p2
      have hs2 : (b2.ob j1).mode.isSome = true := by rw [q3.md j1 p2]; exact p3 hs
      obtain ⟨x, e, r1, r2, r3, r4⟩ := fin_hand (fs := fs) (c := c) hj2 hs2
      have d4 := cok.deeds
      refine h.step (x := some x) (e := e) ((fin_w q1 hj2).mono (by omega) (by omega) (by omega)) (p5.trans (q3.trans fin_md)) ?_ ?_ fun j' e' => ?_
      · rw [r1, q4.1, p4.1]
      · rw [r2, q4.2, p4.2]
      · cases e'
        refine ⟨r3, ?_⟩
        rw [r4]
        show _ = !(match callOf cs c.nm with | some c => decide (c.hand = ("last" : Str)) | none => false)
        rw [hc]
end MK
set_option Elab.async false
set_option linter.all false
set_option autoImplicit false
set_option maxRecDepth 100000
set_option maxHeartbeats 1000000
namespace MK
open PySem PySem.Spec PyProof.Rows L2
inductive Ro where
  | la
  | ha
  | ea
  | ls (i : Nat)
  | ox (j : Nat)
  | os (j : Nat)
abbrev Rl := Addr → Option Ro
def Rl.put (rl : Rl) (p : Addr) (r : Ro) : Rl := fun a => if a = p then some r else rl a
def Sl.v : Sl → V
  | .w none => .non
  | .w (some z) => .str z
  | .l n => .int (n : Nat)
abbrev Rep := Option Nat → Addr → Addr → HO
abbrev Os := List (Addr × Addr × Addr)
def handV (os : Os) : Option Nat → V
  | none => .non
  | some j => .ref (os.getD j (0, 0, 0)).1
structure BnI (rep : Rep) (rl : Rl) (H : Hp) (la ha ea : Addr) (eo : HO) (ls : List Addr) (os : Os) (b : Bn) : Prop where
  live : ∀ a, rl a ≠ none → H a ≠ none
  lar : rl la = some .la
  har : rl ha = some .ha
  ear : rl ea = some .ea
  lah : H la = some (.lst (ls.map V.ref))
  hah : H ha = some (.lst (b.hand.map (handV os)))
  eah : H ea = some eo
  ll : ls.length = b.lists.length
  lsr : ∀ (i : Nat) a, ls[i]? = some a → rl a = some (.ls i)
  lsh : ∀ (i : Nat) a ws, ls[i]? = some a → b.lists[i]? = some ws → H a = some (.lst (ws.map V.str))
  ol : os.length = b.obs.length
  oxr : ∀ (j : Nat) x, os[j]? = some x → rl x.1 = some (.ox j)
  osr : ∀ (j : Nat) x, os[j]? = some x → rl x.2.1 = some (.os j)
  oxh : ∀ (j : Nat) x o, os[j]? = some x → b.obs[j]? = some o → H x.1 = some (rep o.mode x.2.1 x.2.2)
  osh : ∀ (j : Nat) x o, os[j]? = some x → b.obs[j]? = some o → H x.2.1 = some (.lst (o.held.map Sl.v))
  hj : ∀ j, some j ∈ b.hand → j < os.length
section
variable {rep : Rep} {rl : Rl} {H H1 : Hp} {la ha ea : Addr} {eo : HO} {ls : List Addr} {os : Os} {b : Bn}
theorem BnI.keep (h : BnI rep rl H la ha ea eo ls os b) (e : Same H H1) : BnI rep rl H1 la ha ea eo ls os b := { h with
  live := fun a n z => by
    cases q : H a with
    | none => exact h.live a n q
    | some o =>
      rw [e _ _ q] at z
      cases z
  lah := e _ _ h.lah
  hah := e _ _ h.hah
  eah := e _ _ h.eah
  lsh := fun i a ws h1 h2 => e _ _ (h.lsh i a ws h1 h2)
  oxh := fun j x o h1 h2 => e _ _ (h.oxh j x o h1 h2)
  osh := fun j x o h1 h2 => e _ _ (h.osh j x o h1 h2) }
theorem BnI.fresh (h : BnI rep rl H la ha ea eo ls os b) {p : Addr} (hp : H p = none) : rl p = none := by
  cases q : rl p with
  | none => rfl
  | some r => exact absurd hp (h.live p (by rw [q]; exact nofun))
theorem BnI.x {j : Nat} (h : BnI rep rl H la ha ea eo ls os b) (hj : j < b.obs.length) : ∃ x, os[j]? = some x ∧ H x.1 = some (rep (b.ob j).mode x.2.1 x.2.2) ∧ H x.2.1 = some (.lst ((b.ob j).held.map Sl.v)) ∧ handV os (some j) = .ref x.1 := by
  have hx : os[j]? = some (os[j]'(by rw [h.ol]; exact hj)) := List.getElem?_eq_getElem (by rw [h.ol]; exact hj)
  refine ⟨_, hx, h.oxh j _ _ hx (ob_get hj), h.osh j _ _ hx (ob_get hj), ?_⟩
  show V.ref (os.getD j _).1 = _
  rw [List.getD_eq_getElem?_getD, hx]
  rfl
theorem BnI.l {n : Nat} (h : BnI rep rl H la ha ea eo ls os b) (hn : n < b.lists.length) : ∃ a, ls[n]? = some a ∧ (ls.map V.ref)[n]? = some (.ref a) ∧ H a = some (.lst ((b.lists.getD n []).map V.str)) := by
  have hx : ls[n]? = some (ls[n]'(by rw [h.ll]; exact hn)) := List.getElem?_eq_getElem (by rw [h.ll]; exact hn)
  refine ⟨_, hx, by rw [List.getElem?_map, hx]; rfl, ?_⟩
  rw [List.getD_eq_getElem?_getD, List.getElem?_eq_getElem hn]
  exact h.lsh n _ _ hx (List.getElem?_eq_getElem hn)
end
end MK
set_option Elab.async false
set_option linter.all false
set_option autoImplicit false
set_option maxRecDepth 100000
set_option maxHeartbeats 1000000
namespace MK
open PySem PySem.Spec PyProof.Rows L2
theorem apartLT (I l1 l2 : Nat) (h1 : l1 < I) (h2 : l2 < I) : ZipSep2 (I + 4) (I + 2) (I + 3) I (I + 1) [I, l1] [I + 1, l2] := by
  have ne : ∀ {x y : Nat}, x ≠ y → (show Addr from x) ≠ y := fun h => h
  have no : ∀ {x y z : Nat}, x ≠ y → x ≠ z → (show Addr from x) ∉ ([y, z] : List Addr) := fun h g m => by
    rcases List.mem_cons.mp m with e | m
    · exact h e
    · exact g (List.mem_singleton.mp m)
  exact ⟨ne (by omega), ne (by omega), ne (by omega), ne (by omega), List.mem_cons_self, no (by omega) (by omega), no (by omega) (by omega), ne (by omega), List.mem_cons_self, no (by omega) (by omega), no (by omega) (by omega), no (by omega) (by omega), no (by omega) (by omega)⟩
end MK
set_option Elab.async false
set_option linter.all false
set_option autoImplicit false
set_option maxRecDepth 100000
set_option maxHeartbeats 1000000
namespace MK
open PySem PySem.Spec PyProof.Rows L2
theorem upd_upd {H : Hp} {a : Addr} {x y : HO} : upd (upd H a x) a y = upd H a y := funext fun c => by
  by_cases q : c = a
  · rw [q, upd_same, upd_same]
  · rw [upd_ne q, upd_ne q, upd_ne q]
end MK
set_option Elab.async false
set_option linter.all false
set_option autoImplicit false
set_option maxRecDepth 100000
set_option maxHeartbeats 1000000
namespace MK
open PySem PySem.Spec PyProof.Rows L2
/-- lists by their addresses: L holds those of the items of xs, item by item -/
def AlL {α : Type} (R : V → α → List Addr → Prop) : List V → List α → List Addr → Prop
  | [], [], L => L = []
  | x :: xs, y :: ys, L => ∃ L1 L2, L = L1 ++ L2 ∧ R x y L1 ∧ AlL R xs ys L2
  | _, _, _ => False
theorem AlL.snoc {α : Type} {R : V → α → List Addr → Prop} : ∀ {xs : List V} {ys : List α} {L : List Addr} {x : V} {y : α} {L1 : List Addr}, AlL R xs ys L → R x y L1 → AlL R (xs ++ [x]) (ys ++ [y]) (L ++ L1)
  | [], [], L, x, y, L1, h, r => ⟨L1, [], by rw [show L = [] from h]; simp, r, rfl⟩
  | a :: xs, b :: ys, L, x, y, L1, ⟨M1, M2, e, r1, h⟩, r => ⟨M1, M2 ++ L1, by rw [e, List.append_assoc], r1, h.snoc r⟩
  | [], _ :: _, _, _, _, _, h, _ => h.elim
  | _ :: _, [], _, _, _, _, h, _ => h.elim
theorem AlL.mono {α : Type} {R S : V → α → List Addr → Prop} (f : ∀ x y L, R x y L → S x y L) : ∀ {xs : List V} {ys : List α} {L : List Addr}, AlL R xs ys L → AlL S xs ys L
  | [], [], _, h => h
  | _ :: _, _ :: _, _, ⟨M1, M2, e, r, h⟩ => ⟨M1, M2, e, f _ _ _ r, h.mono f⟩
  | [], _ :: _, _, h => h.elim
  | _ :: _, [], _, h => h.elim
theorem AlL.len {α : Type} {R : V → α → List Addr → Prop} : ∀ {xs : List V} {ys : List α} {L : List Addr}, AlL R xs ys L → xs.length = ys.length
  | [], [], _, _ => rfl
  | _ :: _, _ :: _, _, ⟨_, _, _, _, h⟩ => congrArg Nat.succ h.len
  | [], _ :: _, _, h => h.elim
  | _ :: _, [], _, h => h.elim
/-- what is told of a slot: a word or nothing, or a list of its own -/
def CtW (H : Hp) (v : V) (c : Ct) (L : List Addr) : Prop := match c with
  | .w o => v = (Sl.w o).v ∧ L = []
  | .l ws => ∃ a, v = .ref a ∧ H a = some (.lst (ws.map V.str)) ∧ L = [a]
theorem CtW.keep {H H' : Hp} {v : V} {c : Ct} {L : List Addr} (e : Same H H') (h : CtW H v c L) : CtW H' v c L := by
  cases c with
  | w o => exact h
  | l ws =>
    obtain ⟨a, h1, h2, h3⟩ := h
    exact ⟨a, h1, e _ _ h2, h3⟩
/-- a list of what is told: its addresses -/
def CsW (H : Hp) (p : Addr) (cts : List Ct) (L : List Addr) : Prop := ∃ (cvs : List V) (M : List Addr), H p = some (.lst cvs) ∧ AlL (CtW H) cvs cts M ∧ L = p :: M ∧ (p :: M).Nodup
theorem CsW.keep {H H' : Hp} {p : Addr} {cts : List Ct} {L : List Addr} (e : Same H H') (h : CsW H p cts L) : CsW H' p cts L := by
  obtain ⟨cvs, M, h1, h2, h3⟩ := h
  exact ⟨cvs, M, e _ _ h1, h2.mono fun _ _ _ h => h.keep e, h3⟩
theorem sl_sqA {X : Cx} {K : PySem.W.Frag} (h : X.K = K) : SlR X (fun x lo hi H Q => rSlL K x lo hi H Q ∨ rSlA K x lo hi H Q) := by
  subst h
  exact fun pins s σ H x v vl vu lo hi sl Q I r hs h1 h2 h => h.elim (sl_list pins s σ H x v vl vu lo hi sl Q I r hs h1 h2) (sl_tupA pins s σ H x v vl vu lo hi sl Q I r hs h1 h2)
end MK
set_option Elab.async false
set_option linter.all false
set_option autoImplicit false
set_option maxRecDepth 100000
set_option maxHeartbeats 1000000
set_option Elab.async false
set_option linter.all false
set_option autoImplicit false
set_option maxRecDepth 100000
set_option maxHeartbeats 1000000
namespace MK
open PySem PySem.Spec PyProof.Rows L2
structure FunU (K : PySem.W.Frag) (x qual : Str) (st : Stmt) (f : Addr) (fd : FuncData) : Prop where
  ex : ∃ (oc : Value) (od : Option Addr) (dV kV doc pm : Value) (an : Option Addr) (cdv ct : Value) (osl : Array (Option Value)),
    fd = PySem.W.fnOf x qual (defArgs st) (defBody st) (defScope st) dV kV doc pm an cdv ct ∧ K.lookup f = some ⟨oc, od, .func fd, osl⟩ ∧ PySem.W.codeIn K cdv qual = true
theorem FunU.of {K : PySem.W.Frag} {x qual : Str} {st : Stmt} {f : Addr} {fd : FuncData} {dvs : List V} {kws : List (Str × V)} (F : FunD K x qual (defArgs st) (defBody st) (defScope st) dvs kws f fd) : FunU K x qual st f fd := by
  obtain ⟨oc, od, dV, kV, doc, pm, an, cdv, ct, osl, e, l, c, _, _⟩ := F.ex
  exact ⟨oc, od, dV, kV, doc, pm, an, cdv, ct, osl, e, l, c⟩
section
variable {P : Program} {w : World} {K : PySem.W.Frag} {mg : Str → Option Value} {base : Heap}
theorem FunU.ok {x qual : Str} {st : Stmt} {f : Addr} {fd : FuncData} {N ps : List Str} {k : Nat} {sp : Sp} (F : FunU K x qual st f fd) (S : FnScope N ps (defScope st)) (len : ∀ vs H Q E, sp vs H Q E → vs.length = ps.length)
    (hbody : ∀ (cdv : Value) (A : Around) (outer : List Env) (s : Shared) (H : Hp) (vs : List V) (Q : VK) (E : XK), Room k (A.deeper (envOfC qual (defScope st) s.heap.objs.size f cdv)) → sp vs H Q E →
      ∃ t, PSs (cxOf CX0 P w K mg base N qual (defScope st) f cdv A outer s H E).nox (defBody st) t ∧ t { nx := fun _ H' => Q .non H', rt := Q } (start N vs) H) : FnOk P w K mg base CX0 (k + 1) f fd ps sp := by
  obtain ⟨oc, od, dV, kV, doc, pm, an, cdv, ct, osl, rfl, lk, hcd⟩ := F.ex
  refine fn_of lk hcd S len fun A outer s H vs Q E hr hsp => ?_
  obtain ⟨t, h, q⟩ := hbody cdv A outer s H vs Q E hr hsp
  exact ⟨t, h.nox, q⟩
end
/-- all is written: none of the defaults -/
theorem mak_all {P : Program} {w : World} {K : PySem.W.Frag} {mg : Str → Option Value} {base : Heap} {k : Nat} {x : Str} {C f : Addr} {fd : FuncData} {ps : List Str} {sp : Sp} (M : Mk K C f) (F : FnOk P w K mg base CX0 k f fd ps sp) (g : mg x = some (.ref C)) (b : ∃ ds, Vals [] ds ∧ Binds K fd ps ds) : C8.Mak P w K mg base k x C sp [] := by
  obtain ⟨ds, r, b⟩ := b
  exact ⟨f, fd, ps, ds, M, F, g, b, r⟩
end MK
set_option Elab.async false
set_option linter.all false
set_option autoImplicit false
set_option maxRecDepth 100000
set_option maxHeartbeats 1000000
namespace MK
open PySem PySem.Spec PyProof.Rows L2
/-- what an object names: a code's fields are left out (the law's table of codes is not to be held) -/
def refsM (o : Obj) : List Addr := He.refV o.cls ++ match o.data with
  | .seq its _ => its.toList.flatMap He.refV
  | .dict es _ => es.toList.flatMap fun e => He.refV e.val
  | .func fd => He.refV fd.code ++ He.refV fd.defaults
  | .cls cd => cd.ns :: cd.mro.flatMap He.refV
  | .fields vs => (match o.cls with
    | .type "staticmethod" => vs.toList.flatMap He.refV
    | _ => [])
  | _ => []
/-- m: a set of addresses as bits -/
def newM (m : Nat) : List Addr → List Addr → (Nat → List Addr → List Addr) → List Addr
  | [], acc, k => k m acc
  | a :: r, acc, k => match Nat.beq (Nat.land (Nat.shiftRight m a) 1) 1 with
    | true => newM m r acc k
    | false => HandSHeadRun.frNat (Nat.lor m (Nat.shiftLeft 1 a)) fun m2 => newM m2 r (a :: acc) k
def growM (g : Addr → Option Obj) : Nat → Nat → List Addr → List Addr → List Addr
  | 0, _, _, all => all
  | n + 1, m, fr, all => newM m (fr.flatMap fun a => match g a with
    | some o => refsM o
    | none => []) [] fun m2 nw => growM g n m2 nw (all ++ nw)
def asM (g : Addr → Option Obj) (n : Nat) : List Addr := growM g n (Nat.shiftLeft 1 mainGlobals) [mainGlobals] [mainGlobals] ++ [cStatics]
abbrev BsM : Type := List (List (PySem.W.Frag → Bool))
abbrev DsM : Type := List (List He5.DefA)
abbrev AlM : Type := Bool × List (List He.FnW) × List (Option (List (Option (Str × Int))))
def obsM (bs : BsM) (fn : DsM) (ts : List He.Tab) (K : PySem.W.Frag) : AlM := ((bs.all fun l => l.all fun f => f K) && fn.all fun l => l.all fun d => d.ok K, fn.map fun l => l.map fun d => He5.fnA K (d.at_ K), ts.map fun t => He.dicW K (t.1 K))
def valM (fn : DsM) (ts : List He.Tab) (w : World) : AlM := (true, fn.map fun l => l.map He5.DefA.val, ts.map fun t => some (He.keysIn w.params t.2))
def SaysM (bs : BsM) (fn : DsM) (ts : List He.Tab) (w : World) (K : PySem.W.Frag) : Prop := obsM bs fn ts K = valM fn ts w
def obsMG (n : Nat) (bs : BsM) (fn : DsM) (ts : List He.Tab) (g : Addr → Option Obj) : AlM := obsM bs fn ts (He.frG g (asM g n))
def hookM (n : Nat) (bs : BsM) (fn : DsM) (ts : List He.Tab) : PySem.W.Hook where
  α := AlM
  obs := fun s => obsMG n bs fn ts s.heap.get?
  val := fun w => valM fn ts w
  says := fun w h => ∃ K : PySem.W.Frag, K.In h ∧ SaysM bs fn ts w K
  of := fun _ _ e => ⟨_, He.frG_in, e⟩
  keeps := fun _ _ _ ⟨K, hK, c⟩ k => ⟨K, PySem.W.Frag.In.keeps hK k, c⟩
theorem obsMG_eq {n : Nat} {bs : BsM} {fn : DsM} {ts : List He.Tab} {g : Addr → Option Obj} {s : Shared} (h : ∀ a, g a = s.heap.get? a) : obsMG n bs fn ts g = (hookM n bs fn ts).obs s := by
  have e : g = s.heap.get? := funext h
  rw [e] <;> rfl
section
variable {bs : BsM} {fn : DsM} {ts : List He.Tab} {w : World} {K : PySem.W.Frag}
theorem SaysM.f (c : SaysM bs fn ts w K) (j i : Nat) {l : List (PySem.W.Frag → Bool)} {f : PySem.W.Frag → Bool} (h : bs[j]? = some l) (h2 : l[i]? = some f) : f K = true := by
  have c1 := (He.ba (show ((bs.all fun l => l.all fun f => f K) && fn.all fun l => l.all fun d => d.ok K) = true from congrArg (fun z : AlM => z.1) c)).1
  exact List.all_eq_true.mp (List.all_eq_true.mp c1 l (List.mem_of_getElem? h)) f (List.mem_of_getElem? h2)
theorem SaysM.d (c : SaysM bs fn ts w K) (j i : Nat) {l : List He5.DefA} {d : He5.DefA} (h : fn[j]? = some l) (h2 : l[i]? = some d) : ∃ fd, FunD K d.name d.qual d.params d.body d.scope (d.dvs K) (d.kws K) (d.at_ K) fd := by
  have c2 := (He.ba (show ((bs.all fun l => l.all fun f => f K) && fn.all fun l => l.all fun d => d.ok K) = true from congrArg (fun z : AlM => z.1) c)).2
  have e : (fn.map fun l => l.map fun d => He5.fnA K (d.at_ K)) = fn.map fun l => l.map He5.DefA.val := congrArg (fun z : AlM => z.2.1) c
  have e2 : (fn.map fun l => l.map fun d => He5.fnA K (d.at_ K))[j]? = (fn.map fun l => l.map He5.DefA.val)[j]? := by rw [e]
  rw [List.getElem?_map, List.getElem?_map, h] at e2
  have e3 : l.map (fun d => He5.fnA K (d.at_ K)) = l.map He5.DefA.val := Option.some.inj e2
  have e4 : (l.map fun d => He5.fnA K (d.at_ K))[i]? = (l.map He5.DefA.val)[i]? := by rw [e3]
  rw [List.getElem?_map, List.getElem?_map, h2] at e4
  exact He5.DefA.funD (Option.some.inj e4) (List.all_eq_true.mp (List.all_eq_true.mp c2 l (List.mem_of_getElem? h)) d (List.mem_of_getElem? h2))
theorem SaysM.t (c : SaysM bs fn ts w K) (i : Nat) {t : He.Tab} (h : ts[i]? = some t) : He.dicW K (t.1 K) = some (He.keysIn w.params t.2) := by
  have e : ts.map (fun t => He.dicW K (t.1 K)) = ts.map fun t => some (He.keysIn w.params t.2) := congrArg (fun z : AlM => z.2.2) c
  have e2 : (ts.map fun t => He.dicW K (t.1 K))[i]? = (ts.map fun t => some (He.keysIn w.params t.2))[i]? := by rw [e]
  rw [List.getElem?_map, List.getElem?_map, h] at e2
  exact Option.some.inj e2
end
/-- the object that a dict's text key stands for -/
def da (K : PySem.W.Frag) (a : Addr) (z : Str) : Addr := match PySem.W.nsIn K a z with
  | some (some (.ref b)) => b
  | _ => 0
def tabB (K : PySem.W.Frag) (x : Str) : Bool := match PySem.W.tabIn K x with
  | some (_, P) => (K.lookup P).isNone
  | none => false
theorem tabB_ok {K : PySem.W.Frag} {x : Str} (h : tabB K x = true) : ∃ c P, PySem.W.tabIn K x = some (c, P) ∧ K.lookup P = none := by
  unfold tabB at h
  cases e : PySem.W.tabIn K x with
  | none =>
    rw [e] at h
    cases h
  | some p =>
    obtain ⟨c, P⟩ := p
    rw [e] at h
    exact ⟨c, P, rfl, Option.isNone_iff_eq_none.mp h⟩
def intB (K : PySem.W.Frag) (x : Str) (n : Int) : Bool := match PySem.W.nsIn K mainGlobals x with
  | some (some (.int j _)) => decide (j = n)
  | _ => false
theorem intB_ok {K : PySem.W.Frag} {x : Str} {n : Int} (h : intB K x n = true) : ∃ t, PySem.W.nsIn K mainGlobals x = some (some (.int n t)) := by
  unfold intB at h
  cases e : PySem.W.nsIn K mainGlobals x with
  | none =>
    rw [e] at h
    cases h
  | some o =>
    rw [e] at h
    cases o with
    | none => cases h
    | some v => cases v with
      | int j t => exact ⟨t, by rw [of_decide_eq_true (show decide (j = n) = true from h)]⟩
      | _ => cases h
theorem def_mkE {K : PySem.W.Frag} {h : Heap} {mg : Str → Option Value} {x : Str} {st : Stmt} {ps : List Str} {f : Addr} {fd : FuncData} (X : K.In h) (G : h.Ns mainGlobals mg) (a : PySem.W.nsIn K mainGlobals x = some (some (.ref f)))
    (D : FunD K x x (defArgs st) (defBody st) (defScope st) [] [] f fd)
    (b : ∀ (kV doc pm : Value) (an : Option Addr) (cdv ct : Value) (us : List Value), us.length = ps.length → bindArgs (PySem.W.fnOf x x (defArgs st) (defBody st) (defScope st) .none kV doc pm an cdv ct) ⟨us, []⟩ = pure (ps.zip us)) : DefX K mg x st ps f fd :=
  ⟨He5.fun_of D, PySem.W.mg_of X G a, D.bindsN b⟩
theorem tab_def {K : PySem.W.Frag} {x qual : Str} {params : Arguments} {body : List Stmt} {scope : Scope} {f c P : Addr} {fd : FuncData} (a : PySem.W.nsIn K mainGlobals x = some (some (.ref f))) (D : FunD K x qual params body scope [] [] f fd) (h : PySem.W.tabIn K x = some (c, P)) :
    ∃ (oc : Value) (od : Option Addr) (kV doc pm : Value) (an : Option Addr) (ct : Value) (osl : Array (Option Value)), fd = PySem.W.fnOf x qual params body scope .none kV doc pm an (.ref c) ct ∧ K.lookup f = some ⟨oc, od, .func fd, osl⟩ ∧ PySem.W.codeIn K (.ref c) qual = true := by
  obtain ⟨oc, od, dV, kV, doc, pm, an, cdv, ct, osl, e, l, cc, hd, _⟩ := D.ex
  have e2 : dV = .none := by
    rcases hd with ⟨_, e2⟩ | ⟨e2, _⟩
    · exact e2
    · exact absurd rfl e2
  subst e2
  have ec : cdv = .ref c := by
    unfold PySem.W.tabIn at h
    rw [a] at h
    have h2 : (match K.lookup f with
      | some ⟨_, _, .func fd, _⟩ => (match fd.code with
        | .ref c => (match K.lookup c with
          | some ⟨_, _, .fields vs, _⟩ => (match (vs[11]? : Option Value) with
            | some (.ref P) => some (c, P)
            | _ => none)
          | _ => none)
        | _ => none)
      | _ => none) = some (c, P) := h
    rw [l] at h2
    have h3 : (match fd.code with
        | .ref c => (match K.lookup c with
          | some ⟨_, _, .fields vs, _⟩ => (match (vs[11]? : Option Value) with
            | some (.ref P) => some (c, P)
            | _ => none)
          | _ => none)
        | _ => none) = some (c, P) := h2
    rw [e] at h3
    cases cdv with
    | ref b =>
      have h5 : (match K.lookup b with
          | some ⟨_, _, .fields vs, _⟩ => (match (vs[11]? : Option Value) with
            | some (.ref P) => some (b, P)
            | _ => none)
          | _ => none) = some (c, P) := h3
      split at h5
      · split at h5
        · rw [(Prod.mk.inj (Option.some.inj h5)).1]
        · cases h5
      · cases h5
    | _ => cases h3
  subst ec
  exact ⟨oc, od, kV, doc, pm, an, ct, osl, e, l, cc⟩
theorem fn_isD {K : PySem.W.Frag} {x qual : Str} {params : Arguments} {body : List Stmt} {scope : Scope} {f : Addr} {fd : FuncData} (D : FunD K x qual params body scope [] [] f fd) :
    ∃ (kV doc pm : Value) (an : Option Addr) (cdv ct : Value), fd = PySem.W.fnOf x qual params body scope .none kV doc pm an cdv ct := by
  obtain ⟨oc, od, dV, kV, doc, pm, an, cdv, ct, osl, e, l, cc, hd, _⟩ := D.ex
  rcases hd with ⟨_, e2⟩ | ⟨e2, _⟩
  · subst e2
    exact ⟨kV, doc, pm, an, cdv, ct, e⟩
  · exact absurd rfl e2
/-- a law with codes of its own (lambdas), over a K that the Hook finds -/
theorem walk_tabE {l : PySem.W.OpenLaw} {k : Nat} {q : Program} {loose : List Str} {XP : (Str → Option Value) → Heap → Prop} {YP : World → Heap → Prop} {d : DefRec} {x : Str}
    (hn : l.most = some 63) (hdf : d.params.defaults = []) (hr : Room k callerA) (hrec : ((recsOf q).any fun e => e.name == d.name) = true) (hd : d.name = ("law" : Str))
    (F : ∀ (w : World) (mg : Str → Option Value) (fa : Addr) (h : Heap), YP w h → h.Ns mainGlobals mg → mg ("law" : Str) = some (.ref fa) → ∃ K : PySem.W.Frag, K.In h ∧
      ∃ (fd : FuncData) (c P : Addr) (sp : Sp), PySem.W.tabIn K "law" = some (c, P) ∧ K.lookup P = none ∧ (∀ (s : Shared) (u : Value), BindsTo s fd ⟨[u], []⟩ [(x, u)]) ∧
        (∀ (H : Hp) (a : Addr) (ns : List Int), ns.length ≤ 63 → H P = some (.tbl #[]) → SqL K H a (ns.map V.int) → sp [.ref a] H (fun v _ => v = .bl true) fun _ _ _ => False) ∧
        ∀ base : Heap, K.In base → base.Ns mainGlobals mg → LamX.TabB base mg c P → FnOk l.prog w K mg base CX0 k fa fd [x] sp) :
    PySem.W.WalkO q loose XP YP l.row.toRowW d [] (fun f vs => PySem.call f vs) := by
  refine Att.attach_callB hn hdf fun w s₀ s₁ mg mb fa o pm cd doc a vs ns G Y ho hd1 hcd hmg hobj hints hlen hbits hg => ?_
  rw [hd] at hmg
  obtain ⟨K, KX, fd, c, P, sp, hT, nT, hb, hsp, hF⟩ := F w mg fa _ Y G.T.g hmg
  obtain ⟨dL, hr2⟩ : ∃ dL, (recsOf q).find? (fun e => e.name == ("law" : Str)) = some dL := by
    have : ((recsOf q).find? (fun e => e.name == ("law" : Str))).isSome = true := by
      rw [List.find?_isSome, ← hd]
      exact List.any_eq_true.mp hrec
    exact Option.isSome_iff_exists.mp this
  obtain ⟨C, hP⟩ := PySem.W.tab_of G.T KX hr2 hT
  have one : ∀ {Pr : Addr × Addr → Prop}, Pr (c, P) → ∀ p ∈ [(c, P)], Pr p := fun h p hp => by
    rw [List.mem_singleton.mp hp]
    exact h
  exact LamX.law_callTs (cs := [(c, P)]) KX G.T.g G.T.b G.T.builtins G.T.nolimit hg (one hP) (one nT) (one C) G.T.bmain hobj hints (Nat.le_trans hlen (by decide)) hr
    (fun base h1 h2 h3 => hF base h1 h2 (h3 _ List.mem_cons_self)) hb (fun H hH hS => hsp H a ns hlen (hH _ List.mem_cons_self) hS) fun H e s' h => h.elim
end MK
set_option Elab.async false
set_option linter.all false
set_option autoImplicit false
set_option maxRecDepth 100000
set_option maxHeartbeats 1000000
namespace MK
open PySem PySem.Spec PyProof.Rows L2
def Trk (la ha ea : Addr) (ls : List Addr) (os : Os) (a : Addr) : Prop := a = la ∨ a = ha ∨ a = ea ∨ a ∈ ls ∨ ∃ x ∈ os, a = x.1 ∨ a = x.2.1
open Classical in
noncomputable def Rl.trim (rl : Rl) (la ha ea : Addr) (ls : List Addr) (os : Os) : Rl := fun a => if Trk la ha ea ls os a then rl a else none
end MK
set_option Elab.async false
set_option linter.all false
set_option autoImplicit false
set_option maxRecDepth 100000
set_option maxHeartbeats 1000000
namespace MK
open PySem PySem.Spec PyProof.Rows L2
def nameC (cs : List CD) : Dt → Option CD
  | .str nm => callOf cs nm
  | _ => none
/-- whether a row stands at k that one may call on -/
def okAt (cs : List CD) (rs : List Rw) (k : Nat) : Bool := match rs[k]? with
  | some r => !isLast cs r
  | none => false
def numK (cs : List CD) (rs : List Rw) : Dt → Option Nat
  | .int i => if 0 ≤ i ∧ okAt cs rs i.toNat = true then some i.toNat else none
  | _ => none
def wordR (c : CD) (nm : Str) (k : Nat) : List Dt → Option Rw
  | [] => if c.takes = true then none else some (.call nm k none)
  | [.str z] => if c.takes = true ∧ wordB z = true then some (.call nm k (some z)) else none
  | _ => none
def makeR : Dt → Option Rw
  | .str z => if z = "make" then some .mk else none
  | _ => none
def strOf : Dt → Str
  | .str z => z
  | _ => ""
def rwLx (cs : List CD) (rs : List Rw) : List Dt → Option Rw
  | [] => none
  | [x] => makeR x
  | x :: y :: rest => match nameC cs x with
    | none => none
    | some c => match numK cs rs y with
      | none => none
      | some k => wordR c (strOf x) k rest
/-- the row that data is, behind these -/
def rwD (cs : List CD) (rs : List Rw) (d : Dt) : Option Rw := match sqD d with
  | some xs => rwLx cs rs xs
  | none => none
theorem numK_at {cs : List CD} {rs : List Rw} {d : Dt} {k : Nat} (h : numK cs rs d = some k) : d = .int (k : Nat) ∧ ∃ r, rs[k]? = some r ∧ isLast cs r = false := by
  cases d with
  | int i =>
    simp only [numK] at h
    split at h
    · rename_i g
      cases h
      refine ⟨congrArg Dt.int (Int.toNat_of_nonneg g.1).symm, ?_⟩
      have g2 := g.2
      unfold okAt at g2
      split at g2
      · rename_i r e
        exact ⟨r, e, by simpa using g2⟩
      · cases g2
    · cases h
  | _ => cases h
theorem nameC_at {cs : List CD} {d : Dt} {c : CD} (h : nameC cs d = some c) : d = .str (strOf d) ∧ callOf cs (strOf d) = some c := by
  cases d with
  | str z => exact ⟨rfl, h⟩
  | _ => cases h
theorem makeR_at {d : Dt} {r : Rw} (h : makeR d = some r) : d = .str "make" ∧ r = .mk := by
  cases d with
  | str z =>
    simp only [makeR] at h
    split at h
    · rename_i g
      cases h
      exact ⟨by rw [g], rfl⟩
    · cases h
  | _ => cases h
theorem wordR_at {c : CD} {nm : Str} {k : Nat} {xs : List Dt} {r : Rw} (h : wordR c nm k xs = some r) : ∃ wd : Option Str, r = .call nm k wd ∧ wd.isSome = c.takes ∧ (∀ z, wd = some z → wordB z = true) ∧ xs = match wd with
    | none => []
    | some z => [.str z] := by
  match xs, h with
  | [], h =>
    simp only [wordR] at h
    split at h
    · cases h
    · rename_i g
      cases h
      exact ⟨none, rfl, by rw [Bool.not_eq_true] at g; rw [g]; rfl, nofun, rfl⟩
  | [.str z], h =>
    simp only [wordR] at h
    split at h
    · rename_i g
      cases h
      exact ⟨some z, rfl, by rw [g.1]; rfl, fun y e => by cases e; exact g.2, rfl⟩
    · cases h
  | [.non], h => cases h
  | [.bl _], h => cases h
  | [.int _], h => cases h
  | [.lst _], h => cases h
  | [.tup _], h => cases h
  | [.dic], h => cases h
  | _ :: _ :: _, h => simp [wordR] at h
def RwDs : Rw → List Dt
  | .mk => [.str "make"]
  | .call nm k none => [.str nm, .int (k : Nat)]
  | .call nm k (some z) => [.str nm, .int (k : Nat), .str z]
theorem rwD_at {cs : List CD} {rs : List Rw} {d : Dt} {r : Rw} (h : rwD cs rs d = some r) : RwOk cs rs r ∧ sqD d = some (RwDs r) := by
  unfold rwD at h
  cases hq : sqD d with
  | none => rw [hq] at h; cases h
  | some xs =>
    rw [hq] at h
    match xs, h with
    | [], h => cases h
    | [x], h =>
      obtain ⟨rfl, rfl⟩ := makeR_at h
      exact ⟨trivial, rfl⟩
    | x :: y :: rest, h =>
      simp only [rwLx] at h
      cases hn : nameC cs x with
      | none => rw [hn] at h; cases h
      | some c =>
        rw [hn] at h
        cases hk : numK cs rs y with
        | none => rw [hk] at h; cases h
        | some k =>
          rw [hk] at h
          obtain ⟨wd, rfl, tk, wok, e⟩ := wordR_at h
          obtain ⟨rfl, r', hr', hl⟩ := numK_at hk
          obtain ⟨ex, hc⟩ := nameC_at hn
          refine ⟨⟨c, hc, ⟨r', hr', hl⟩, tk, wok⟩, congrArg some ?_⟩
          cases wd with
          | none =>
            show x :: _ :: rest = _
            rw [e]
            exact congrArg (· :: _) ex
          | some z =>
            show x :: _ :: rest = _
            rw [e]
            exact congrArg (· :: _) ex
/-- the first of ds are these rows -/
structure PreR (cs : List CD) (ds : List Dt) (rs : List Rw) : Prop where
  le : rs.length ≤ ds.length
  all : ∀ (j : Nat) r, rs[j]? = some r → ∃ d, ds[j]? = some d ∧ rwD cs (rs.take j) d = some r
theorem PreR.ok {cs : List CD} {ds : List Dt} {rs : List Rw} (h : PreR cs ds rs) : RwsOk cs rs := fun j r hr => by
  obtain ⟨d, _, hd⟩ := h.all j r hr
  exact (rwD_at hd).1
end MK
set_option Elab.async false
set_option linter.all false
set_option autoImplicit false
set_option maxRecDepth 100000
set_option maxHeartbeats 1000000
namespace L2
open PySem PySem.Spec PyProof.Rows
end L2
set_option Elab.async false
set_option linter.all false
set_option autoImplicit false
set_option maxRecDepth 100000
set_option maxHeartbeats 1000000
namespace MK
open PySem PySem.Spec PyProof.Rows L2
section
variable {X : Cx} {a : Addr} {oe : Obj} {cls : Value}
def rIsP0 (K : PySem.W.Frag) (a : Addr) (cls : Value) : List V → Hp → VK → Prop := fun xs H Q => ∃ (C : Addr) (c : V) (cv : Value) (b : Bool), xs = [.ref a, c] ∧ cls = .ref C ∧ ErrI K C ∧ ClsV c cv ∧ PySem.W.kitOne K (.ref C) cv = some b ∧ Q (.bl b) H
theorem call_isP0 (hp : (a, oe) ∈ X.pn) (hz : Zc cls none oe) (hf : ∃ vs, oe.data = .fields vs) : CallR X (.builtin "isinstance") (rIsP0 X.K a cls) := by
  intro pins s σ H xs us Q I r h
  obtain ⟨C, c, cv, b, rfl, ec, T, k, e, q⟩ := h
  subst ec
  obtain ⟨u1, u2, rfl, r1, r2⟩ := vals2 r
  have e2 := k.eq r2
  subst e2
  obtain rfl : u1 = Value.ref a := r1
  have hget := (I.pin (a, oe) (List.mem_append_left _ hp)).1
  obtain ⟨vs, hd⟩ := hf
  have J : PySem.W.InstAt s.heap a oe C none := ⟨hget, hz.1, by unfold PySem.W.notCls; rw [hd] <;> rfl, by rw [hz.2]; trivial⟩
  exact PySem.W.kia_one (PySem.W.kitx_exc (od := none) T.cl T.ga T.gg T.ex T.ca T.sp T.tk T.ob) I.kIn J e (fun z => nomatch z) fun tk => ⟨.bl b, H, I.tok tk, rfl, q⟩
end
end MK
set_option Elab.async false
set_option linter.all false
set_option autoImplicit false
set_option maxRecDepth 100000
set_option maxHeartbeats 2000000
namespace MK
open PySem PySem.Spec PyProof.Rows L2
/-- the table at B; none of the codes it tells of lies in Z -/
def TabZ (Z : Addr → Prop) (H : Hp) (B : Addr) (q : Str) : Prop := ∃ tb : Array Value, H B = some (.tbl tb) ∧ TriplesOk tb.toList ∧ ∀ (at_ : Pos) (v : Value), codeAmong at_ tb.toList = some v → ∃ k, v = .ref k ∧ H k = some (LamX.CodeO k q) ∧ ¬ Z k
theorem TabZ.tabs {Z : Addr → Prop} {H : Hp} {B : Addr} {q : Str} (h : TabZ Z H B q) : LamX.Tabs [(B, q)] H := fun x hx => by
  obtain ⟨tb, h1, h2, h3⟩ := h
  rw [List.mem_singleton.mp hx]
  refine ⟨tb, h1, h2, fun at_ v hv => ?_⟩
  obtain ⟨k, e1, e2, _⟩ := h3 at_ v hv
  exact ⟨k, e1, e2⟩
theorem TabZ.nil {Z : Addr → Prop} {H : Hp} {B : Addr} {q : Str} (h : H B = some (.tbl #[])) : TabZ Z H B q := ⟨#[], h, True.intro, fun at_ v hv => by
  have z : codeAmong at_ [] = some v := hv
  simp [codeAmong] at z⟩
/-- what is no table, and lies not in Z, is as it was -/
theorem TabZ.step {Z Z' : Addr → Prop} {H H' : Hp} {B : Addr} {q : Str} (h : TabZ Z H B q) (hB : H' B = H B) (e : ∀ b, H b = some (LamX.CodeO b q) → ¬ Z b → H' b = some (LamX.CodeO b q) ∧ ¬ Z' b) : TabZ Z' H' B q := by
  obtain ⟨tb, h1, h2, h3⟩ := h
  refine ⟨tb, hB.trans h1, h2, fun at_ v hv => ?_⟩
  obtain ⟨k, e1, e2, e3⟩ := h3 at_ v hv
  obtain ⟨g1, g2⟩ := e k e2 e3
  exact ⟨k, e1, g1, g2⟩
end MK
set_option Elab.async false
set_option linter.all false
set_option autoImplicit false
set_option maxRecDepth 100000
set_option maxHeartbeats 2000000
namespace MK
open PySem PySem.Spec PyProof.Rows L2
abbrev NRaw := List (NestedKey × Addr × Value)
/-- the object of such a dict -/
structure GoodN (P : Program) (w : World) (o : Obj) (xs : NRaw) : Prop where
  ex : o.ExactDict
  ent : ∃ es ep, o.data = .dict es ep ∧ es.toList = xs.map (entryOfKey (nestedKind P w))
  nd : (xs.map (·.1)).Nodup
  sz : xs.length ≤ sizeLine
def DnO (P : Program) (w : World) (a : Addr) (o : Obj) (xs : NRaw) : HO := .ext fun h => h.get? a = some o ∧ GoodN P w o xs ∧ (a == sysModules) = false
/-- the value is the key -/
inductive Nk (K : PySem.W.Frag) (H : Hp) : NestedKey → V → Prop
  | non : Nk K H .none .non
  | int (i : Int) : Nk K H (.num i) (.int i)
  | str (z : Str) : Nk K H (.text z) (.str z)
  | tup {a : Addr} {xs : List V} {ks : List NestedKey} : SqT K H a xs → xs.length = ks.length → (∀ (i : Nat) k x, ks[i]? = some k → xs[i]? = some x → Nk K H k x) → Nk K H (.tup ks) (.ref a)
theorem Nk.keep {K : PySem.W.Frag} {H H' : Hp} (e : Same H H') {k : NestedKey} {v : V} (h : Nk K H k v) : Nk K H' k v := by
  induction h with
  | non => exact .non
  | int i => exact .int i
  | str z => exact .str z
  | tup ha hl _ ih => exact .tup (same_t e ha) hl ih
theorem nestedAll_of {h : Heap} : ∀ {ks : List NestedKey} {xs : List V} {us : List Value}, Vals xs us → xs.length = ks.length → (∀ (i : Nat) k x u, ks[i]? = some k → xs[i]? = some x → RelV x u → NestedIs h k u) → NestedAll h ks us
  | [], [], _, .nil, _, _ => .nil
  | k :: ks, x :: xs, _, .cons r t, hl, f => .cons (f 0 k x _ rfl rfl r) (nestedAll_of t (Nat.succ.inj hl) fun i k x u h1 h2 r => f (i + 1) k x u h1 h2 r)
section
variable {X : Cx} {pins : List (Addr × Obj)} {σ : L2.St} {H : Hp} {s : Shared}
theorem Nk.is (I : Inv X pins σ H s) {k : NestedKey} {v : V} (h : Nk X.K H k v) : ∀ {u : Value}, RelV v u → NestedIs s.heap k u := by
  induction h with
  | non => intro u r; cases r; exact .none
  | int i => intro u r; obtain ⟨t, rfl⟩ := r; exact .int _ _
  | str z => intro u r; obtain ⟨t, rfl⟩ := r; exact .text _ _
  | @tup a xs ks ha hl _ ih =>
    intro u r
    obtain rfl : u = Value.ref a := r
    obtain ⟨its, r2, ⟨o, e1, e2, n, e3⟩, _⟩ := I.tuple ha
    exact .tup e1 e2 e3 (nestedAll_of r2 hl fun i k x u h1 h2 r => ih i k x h1 h2 r)
end
/-- one of its entries -/
def EnN (K : PySem.W.Frag) (H : Hp) (p : NestedKey × V) (x : NestedKey × Addr × Value) : Prop := p.1 = x.1 ∧ p.1.depth ≤ 8 ∧ Nk K H p.1 (.ref x.2.1) ∧ RelV p.2 x.2.2
/-- at d stands such a dict, as the object o -/
structure DNo (P : Program) (w : World) (K : PySem.W.Frag) (H : Hp) (d : Addr) (o : Obj) (xs : NRaw) (kvs : List (NestedKey × V)) : Prop where
  at_ : H d = some (DnO P w d o xs)
  len : kvs.length = xs.length
  ent : ∀ (i : Nat) p x, kvs[i]? = some p → xs[i]? = some x → EnN K H p x
def DN (P : Program) (w : World) (K : PySem.W.Frag) (H : Hp) (d : Addr) (kvs : List (NestedKey × V)) : Prop := ∃ o xs, DNo P w K H d o xs kvs
theorem DNo.keep {P : Program} {w : World} {K : PySem.W.Frag} {H H' : Hp} {d : Addr} {o : Obj} {xs : NRaw} {kvs : List (NestedKey × V)} (e : Same H H') (h : DNo P w K H d o xs kvs) : DNo P w K H' d o xs kvs :=
  ⟨e _ _ h.at_, h.len, fun i p x h1 h2 => let ⟨a, b, c, d⟩ := h.ent i p x h1 h2; ⟨a, b, c.keep e, d⟩⟩
theorem DN.keep {P : Program} {w : World} {K : PySem.W.Frag} {H H' : Hp} {d : Addr} {kvs : List (NestedKey × V)} (e : Same H H') (h : DN P w K H d kvs) : DN P w K H' d kvs := let ⟨o, xs, g⟩ := h; ⟨o, xs, g.keep e⟩
def valN (kvs : List (NestedKey × V)) (k : NestedKey) : Option V := (kvs.find? fun p => decide (p.1 = k)).map (·.2)
def putN (kvs : List (NestedKey × V)) (k : NestedKey) (v : V) : List (NestedKey × V) := if (valN kvs k).isSome then kvs.map fun p => if p.1 = k then (p.1, v) else p else kvs ++ [(k, v)]
section
variable {P : Program} {w : World} {K : PySem.W.Frag} {H : Hp}
theorem valN_rel : ∀ {kvs : List (NestedKey × V)} {xs : NRaw} {k : NestedKey}, kvs.length = xs.length → (∀ (i : Nat) p x, kvs[i]? = some p → xs[i]? = some x → EnN K H p x) → RelO (valN kvs k) ((atKey xs k).map (·.2))
  | [], [], _, _, _ => trivial
  | p :: kvs, x :: xs, k, hl, f => by
    obtain ⟨e1, _, _, r⟩ := f 0 p x rfl rfl
    unfold valN atKey
    by_cases q : p.1 = k
    · rw [List.find?_cons_of_pos (by exact decide_eq_true q), List.find?_cons_of_pos (by exact decide_eq_true (e1 ▸ q))]
      exact r
    · rw [List.find?_cons_of_neg (by simpa using q), List.find?_cons_of_neg (by simpa [← e1] using q)]
      exact valN_rel (Nat.succ.inj hl) fun i p x h1 h2 => f (i + 1) p x h1 h2
theorem DNo.ok {X : Cx} {pins : List (Addr × Obj)} {σ : L2.St} {s : Shared} {d : Addr} {o : Obj} {xs : NRaw} {kvs : List (NestedKey × V)} (I : Inv X pins σ H s) (h : DNo X.prog X.w X.K H d o xs kvs) :
    s.heap.get? d = some o ∧ (d == sysModules) = false ∧ s.heap.DictOfH (nestedKind X.prog X.w) d xs ∧ xs.length ≤ sizeLine := by
  obtain ⟨⟨e1, g, e2⟩, _, _⟩ := (show ObjOk X.prog X.w H s.heap d (DnO X.prog X.w d o xs) from I.hok d _ h.at_)
  obtain ⟨es, ep, q1, q2⟩ := g.ent
  refine ⟨e1, e2, ⟨o, es, ep, e1, g.ex, q1, q2, fun x hx => ?_, g.nd⟩, g.sz⟩
  obtain ⟨i, hi⟩ := List.mem_iff_getElem?.mp hx
  have hp : kvs[i]? = some (kvs[i]'(by rw [h.len]; exact (List.getElem?_eq_some_iff.mp hi).1)) := List.getElem?_eq_getElem _
  obtain ⟨a1, a2, a3, _⟩ := h.ent i _ _ hp hi
  rw [a1] at a2 a3
  exact ⟨Nk.is I a3 rfl, a2⟩
end
/-- the heap behind d[k] = v: whatever object stands there now -/
theorem dn_obj {P : Program} {w : World} {H : Hp} {h : Heap} {d : Addr} {o : Obj} {xs : NRaw} (e : h.get? d = some o) (g : GoodN P w o xs) (hd : (d == sysModules) = false) : ObjOk P w H h d (DnO P w d o xs) :=
  ⟨⟨e, g, hd⟩, ⟨o, e⟩, fun h1 h2 q st => ⟨st _ q.1, q.2⟩⟩
section
variable {X : Cx} {pos : Pos}
/-- {} whose keys will be such tuples -/
def tDNewN (P : Program) (w : World) : TE := fun _ H Q => ∀ p o, H p = none → GoodN P w o [] → Q (.ref p) (upd H p (DnO P w p o []))
theorem pe_dnewN : PE X (.Dict [] [] pos) (tDNewN X.prog X.w) := ⟨fun pins s σ H Q I h => by
  have g : GoodN X.prog X.w { cls := .type "dict", data := .dict #[] } [] := ⟨⟨rfl, rfl, rfl⟩, ⟨#[], 0, rfl, rfl⟩, List.nodup_nil, Nat.zero_le _⟩
  have hd : (s.heap.objs.size == sysModules) = false := beq_eq_false_iff_ne.mpr (Ne.symm (Nat.ne_of_lt I.big))
  exact wpAny_Dict_empty ⟨.ref s.heap.objs.size, _, I.laid (a := s.heap.objs.size) (o := DnO X.prog X.w s.heap.objs.size _ []) (t' := s.toks) (fun _ _ q => Heap.get?_push_of_some _ q) (Nat.le_refl _) (dn_obj (Heap.get?_push_size _ rfl) g hd), rfl, h _ _ (I.hok.fresh (Nat.le_refl _)) g⟩⟩
/-- k in d, k not in d -/
def rInN (P : Program) (w : World) (K : PySem.W.Frag) : R2 := fun x y H Q => ∃ (d b : Addr) (kvs : List (NestedKey × V)) (k : NestedKey), x = .ref b ∧ y = .ref d ∧ DN P w K H d kvs ∧ Nk K H k (.ref b) ∧ k.depth ≤ 8 ∧ Q (.bl (valN kvs k).isSome) H
def rNotInN (P : Program) (w : World) (K : PySem.W.Frag) : R2 := fun x y H Q => ∃ (d b : Addr) (kvs : List (NestedKey × V)) (k : NestedKey), x = .ref b ∧ y = .ref d ∧ DN P w K H d kvs ∧ Nk K H k (.ref b) ∧ k.depth ≤ 8 ∧ Q (.bl (!(valN kvs k).isSome)) H
theorem op_inN (hu : X.A.units + 9 < cLine) : OpR X (compareOp .In) (rInN X.prog X.w X.K) := by
  intro pins s σ H x y v u Q I rx ry ⟨d, b, kvs, k, ex, ey, ⟨o, xs, g⟩, hk, hdp, q⟩
  subst ex ey
  obtain rfl : v = Value.ref b := rx
  obtain rfl : u = Value.ref d := ry
  obtain ⟨e1, e2, e3, e4⟩ := g.ok I
  have rel := (valN_rel (k := k) g.len g.ent).isSome_eq
  rw [Option.isSome_map] at rel
  refine wpAny_in_heap (knd := nestedKind X.prog X.w) (by show X.A.units + 1 + 8 < cLine; omega) ⟨hk.is I rfl, hdp⟩ e2 e3 ⟨.bl _, H, I.tok _, ?_, q⟩
  rw [rel]
  rfl
theorem op_notInN (hu : X.A.units + 9 < cLine) : OpR X (compareOp .NotIn) (rNotInN X.prog X.w X.K) := by
  intro pins s σ H x y v u Q I rx ry ⟨d, b, kvs, k, ex, ey, ⟨o, xs, g⟩, hk, hdp, q⟩
  subst ex ey
  obtain rfl : v = Value.ref b := rx
  obtain rfl : u = Value.ref d := ry
  obtain ⟨e1, e2, e3, e4⟩ := g.ok I
  have rel := (valN_rel (k := k) g.len g.ent).isSome_eq
  rw [Option.isSome_map] at rel
  refine wpAny_notIn_heap (knd := nestedKind X.prog X.w) (by show X.A.units + 1 + 8 < cLine; omega) ⟨hk.is I rfl, hdp⟩ e2 e3 ⟨.bl _, H, I.tok _, ?_, q⟩
  rw [rel]
  rfl
/-- d[k], there -/
def rIxN (P : Program) (w : World) (K : PySem.W.Frag) : R2 := fun x y H Q => ∃ (d b : Addr) (kvs : List (NestedKey × V)) (k : NestedKey) (v : V), x = .ref d ∧ y = .ref b ∧ DN P w K H d kvs ∧ Nk K H k (.ref b) ∧ k.depth ≤ 8 ∧ valN kvs k = some v ∧ Q v H
theorem pe_ixN {a b : Expr} {ta tb : TE} (hu : X.A.units + 9 < cLine) (ha : PE X a ta) (hb : PE X b tb) (hs : PlainIx b) : PE X (.Subscript a b pos) (tOp (rIxN X.prog X.w X.K) ta tb) := by
  refine ⟨fun pins s σ H Q I h => ?_⟩
  refine Subscript_ (binT ha hb I h fun v u s2 x y H2 I2 rx ry ⟨d, c, kvs, k, vv, ex, ey, ⟨o, xs, g⟩, hk, hdp, hv, q⟩ => ?_)
  subst ex ey
  obtain rfl : v = Value.ref d := rx
  obtain rfl : u = Value.ref c := ry
  obtain ⟨e1, e2, e3, e4⟩ := g.ok I2
  have rel := valN_rel (k := k) g.len g.ent
  rw [hv] at rel
  obtain ⟨w', hw, rw'⟩ := RelO.some_of rel
  obtain ⟨pr, hp, hp2⟩ := Option.map_eq_some_iff.mp hw
  refine subscriptTail_builtinR (x := w') e3.typeIs PySem.F.slot_dict_getitem.lookup (wpAny_getItem_heap (knd := nestedKind X.prog X.w) (Q := fun r s' => r = w' ∧ EP X pins σ Q r s') (by show X.A.units + 1 + 8 < cLine; omega) ⟨hk.is I2 rfl, hdp⟩ e3 hp ?_) (hs _ _)
  rw [hp2]
  exact ⟨rfl, vv, H2, I2.tok _, rw', q⟩
theorem sqt_upd {K : PySem.W.Frag} {H : Hp} {a d : Addr} {xs : List V} {φ : Heap → Prop} {o : HO} (hd : H d = some (.ext φ)) (h : SqT K H a xs) : SqT K (upd H d o) a xs := by
  have ne : ∀ {u : HO}, H a = some u → (∀ ψ, u ≠ .ext ψ) → a ≠ d := fun e n z => by
    rw [z, hd] at e
    exact n φ (Option.some.inj e).symm
  rcases h with (h | ⟨ob, h⟩) | h
  · exact .inl (.inl ((upd_ne (ne h nofun)).trans h))
  · exact .inl (.inr ⟨ob, (upd_ne (ne h nofun)).trans h⟩)
  · exact .inr h
theorem Nk.upd {K : PySem.W.Frag} {H : Hp} {d : Addr} {φ : Heap → Prop} {o : HO} (hd : H d = some (.ext φ)) {k : NestedKey} {v : V} (h : Nk K H k v) : Nk K (upd H d o) k v := by
  induction h with
  | non => exact .non
  | int i => exact .int i
  | str z => exact .str z
  | tup ha hl _ ih => exact .tup (sqt_upd hd ha) hl ih
theorem en_stored {K : PySem.W.Frag} {H H' : Hp} {kvs : List (NestedKey × V)} {xs : NRaw} {k : NestedKey} {b : Addr} {v : V} {u : Value} (hl : kvs.length = xs.length) (f : ∀ (i : Nat) p x, kvs[i]? = some p → xs[i]? = some x → EnN K H p x)
    (e : ∀ k v, Nk K H k v → Nk K H' k v) (hk : Nk K H k (.ref b)) (hdp : k.depth ≤ 8) (r : RelV v u) : (putN kvs k v).length = (storedH xs k b u).length ∧ ∀ (i : Nat) p x, (putN kvs k v)[i]? = some p → (storedH xs k b u)[i]? = some x → EnN K H' p x := by
  have g : ∀ (i : Nat) p x, kvs[i]? = some p → xs[i]? = some x → EnN K H' p x := fun i p x h1 h2 => let ⟨a, b, c, d⟩ := f i p x h1 h2; ⟨a, b, e _ _ c, d⟩
  have rel := (valN_rel (k := k) hl f).isSome_eq
  rw [Option.isSome_map] at rel
  unfold putN storedH
  rw [rel]
  split
  · refine ⟨by rw [List.length_map, List.length_map, hl], fun i p x h1 h2 => ?_⟩
    rw [List.getElem?_map] at h1 h2
    obtain ⟨p0, hp0, rfl⟩ := Option.map_eq_some_iff.mp h1
    obtain ⟨x0, hx0, rfl⟩ := Option.map_eq_some_iff.mp h2
    obtain ⟨e1, e2, e3, e4⟩ := g i p0 x0 hp0 hx0
    unfold putAt
    by_cases q : p0.1 = k
    · rw [if_pos q, if_pos (e1 ▸ q)]
      exact ⟨e1, e2, e3, r⟩
    · rw [if_neg q, if_neg (fun z => q (e1.trans z))]
      exact ⟨e1, e2, e3, e4⟩
  · refine ⟨by rw [List.length_append, List.length_append, hl]; rfl, fun i p x h1 h2 => ?_⟩
    by_cases q : i < kvs.length
    · rw [List.getElem?_append_left q] at h1
      rw [List.getElem?_append_left (by omega)] at h2
      exact g i p x h1 h2
    · rw [List.getElem?_append_right (by omega)] at h1
      rw [List.getElem?_append_right (by omega), ← hl] at h2
      have z : i - kvs.length = 0 := by
        have := (List.getElem?_eq_some_iff.mp h1).1
        simp only [List.length_cons, List.length_nil] at this
        omega
      rw [z] at h1 h2
      cases h1
      cases h2
      exact ⟨rfl, hdp, e _ _ hk, r⟩
def rSetN (P : Program) (w : World) (K : PySem.W.Frag) : TSet := fun o i v H Q => ∃ (d b : Addr) (kvs : List (NestedKey × V)) (k : NestedKey), o = .ref d ∧ i = .ref b ∧ DN P w K H d kvs ∧ Nk K H k (.ref b) ∧ k.depth ≤ 8 ∧ kvs.length < sizeLine ∧
  ∀ φ, DN P w K (upd H d (.ext φ)) d (putN kvs k v) → Q (upd H d (.ext φ))
theorem dn_set {X : Cx} {pins : List (Addr × Obj)} {σ : L2.St} {H : Hp} {s : Shared} {d b : Addr} {o : Obj} {xs : NRaw} {kvs : List (NestedKey × V)} {k : NestedKey} {v : V} {u : Value} {h' : Heap} (t : Nat) (I : Inv X pins σ H s) (g : DNo X.prog X.w X.K H d o xs kvs) (hk : Nk X.K H k (.ref b)) (hdp : k.depth ≤ 8) (hz : kvs.length < sizeLine) (r : RelV v u)
    (hm : h'.DictOfH (nestedKind X.prog X.w) d (storedH xs k b u)) (hs : Heap.SameBut d s.heap h') : ∃ o', Inv X pins σ (upd H d (DnO X.prog X.w d o' (storedH xs k b u))) { s with heap := h', toks := t } ∧ DNo X.prog X.w X.K (upd H d (DnO X.prog X.w d o' (storedH xs k b u))) d o' (storedH xs k b u) (putN kvs k v) := by
  obtain ⟨e1, e2, e3, e4⟩ := g.ok I
  obtain ⟨o', es, ep, q1, q2, q3, q4, _, q6⟩ := hm
  have en := en_stored (H' := upd H d (DnO X.prog X.w d o' (storedH xs k b u))) g.len g.ent (fun _ _ h => h.upd g.at_) hk hdp r
  have sz : (storedH xs k b u).length ≤ sizeLine := by
    rw [← en.1]
    unfold putN
    split
    · rw [List.length_map]
      omega
    · rw [List.length_append]
      exact hz
  refine ⟨o', I.write (x := d) (e := d) (by rw [g.at_]; exact True.intro) (.inl rfl) (fun c q hc z => (hs.2 c hc).trans z) ⟨o', q1⟩ (dn_obj q1 ⟨q2, ⟨es, ep, q3, q4⟩, q6, sz⟩ e2), upd_same, en.1, en.2⟩
theorem set_dn {X : Cx} (hu : X.A.units + 9 < cLine) : PSet X (rSetN X.prog X.w X.K) := by
  intro pins s σ H o i v ov iv u Q I ro ri rv ⟨d, b, kvs, k, eo, ei, ⟨ob, xs, g⟩, hk, hdp, hz, q⟩
  subst eo ei
  obtain rfl : ov = Value.ref d := ro
  obtain rfl : iv = Value.ref b := ri
  obtain ⟨e1, e2, e3, e4⟩ := g.ok I
  refine wpAny_setItem_heap (hsz := e4) (knd := nestedKind X.prog X.w) (by show X.A.units + 1 + 8 < cLine; omega) ⟨hk.is I rfl, hdp⟩ e3 fun h' hm hs => ?_
  obtain ⟨o', J, g'⟩ := dn_set (s.toks + (nestedKind X.prog X.w).draws k) I g hk hdp hz rv hm hs
  exact ⟨_, J, q _ ⟨o', _, g'⟩⟩
end
end MK
set_option Elab.async false
set_option linter.all false
set_option autoImplicit false
set_option maxRecDepth 100000
set_option maxHeartbeats 2000000
namespace MK
open PySem PySem.Spec PyProof.Rows L2
theorem DNo.raw {X : Cx} {pins : List (Addr × Obj)} {σ : L2.St} {H : Hp} {s : Shared} {d : Addr} {o : Obj} {xs : NRaw} (I : Inv X pins σ H s) (h : H d = some (DnO X.prog X.w d o xs)) :
    s.heap.get? d = some o ∧ (d == sysModules) = false ∧ o.ExactDict ∧ xs.length ≤ sizeLine ∧ ∃ es ep, o.data = .dict es ep ∧ es.size = xs.length ∧ es.toList = xs.map (entryOfKey (nestedKind X.prog X.w)) := by
  obtain ⟨⟨e1, g, e2⟩, _, _⟩ := (show ObjOk X.prog X.w H s.heap d (DnO X.prog X.w d o xs) from I.hok d _ h)
  obtain ⟨es, ep, q1, q2⟩ := g.ent
  exact ⟨e1, e2, g.ex, g.sz, es, ep, q1, size_of_entries q2, q2⟩
/-- the keys of such a dict: the tuples themselves -/
def ItN (P : Program) (w : World) (d : Addr) (o : Obj) (xs : NRaw) : It :=
  ⟨fun i H => H d = some (DnO P w d o xs) ∧ i < xs.length, fun i H x H' => H' = H ∧ ∃ z, xs[i]? = some z ∧ x = .ref z.2.1, fun i H => H d = some (DnO P w d o xs) ∧ xs.length ≤ i⟩
theorem turnN {P : Program} {w : World} {K : PySem.W.Frag} {tg : Expr} {d : Addr} {o : Obj} {es : Array DictEntry} {ep : Nat} {xs : NRaw} (it : Addr) (hod : o.data = .dict es ep) : Turn P w K tg (ItN P w d o xs) [it] it (fun i h => h.IsKeyIter it d i xs.length ep) where
  mem := List.mem_singleton_self it
  obj := fun i h st b hb => by
    obtain rfl : b = it := List.mem_singleton.mp hb
    obtain ⟨oi, e, c, dd⟩ := st
    exact ⟨oi, e, fun v z => nomatch dd.symm.trans z⟩
  keep := fun i h h' st k => st.at fun oi e => k it (List.mem_singleton_self it) oi e
  item := by
    intro X hP hw hK hc i pins s σ H E I hf st ⟨hd, hi⟩
    subst hP hw hK
    obtain ⟨f0, f1, f2, f3, f4, f5⟩ := hf it (List.mem_singleton_self it)
    obtain ⟨hgd, hs, hx, _, es', ep', hdt, hsz, ent⟩ := DNo.raw I hd
    obtain ⟨rfl, rfl⟩ := dict_ep hod hdt
    have hz : xs[i]? = some xs[i] := List.getElem?_eq_getElem hi
    have hen : es'[i]? = some (entryOfKey (nestedKind X.prog X.w) xs[i]) := by rw [entry_at ent, hz]; rfl
    refine next_key_item st hgd hdt hsz hen fun h' st' sb => ?_
    have I1 : Inv X pins σ H { s with heap := h' } := I.turned (t' := s.toks) (fun b ob hb e => (sb.2 b hb).trans e) f0 f1 f3 f4 f5
    obtain ⟨oi, e, c, dd⟩ := id st'
    exact ⟨_, rfl, go_of (s := { s with heap := h' }) e c dd (by decide) ⟨.ref xs[i].2.1, H, I1, rfl, ⟨rfl, xs[i], hz, rfl⟩, st', fun b hb => (hf b hb).1⟩⟩
  done := by
    intro X hP hw hK hc i pins s σ H E I hf st ⟨hd, hi⟩
    subst hP hw hK
    obtain ⟨f0, f1, f2, f3, f4, f5⟩ := hf it (List.mem_singleton_self it)
    obtain ⟨hgd, hs, hx, _, es', ep', hdt, hsz, ent⟩ := DNo.raw I hd
    obtain ⟨rfl, rfl⟩ := dict_ep hod hdt
    exact next_key_end (I.ok.hd hc) st hgd hdt hsz hi fun h' eb => ⟨rfl, I.turned (t' := s.toks) (fun b ob hb e => eb b ob hb e) f0 f1 f3 f4 f5⟩
  self := fun A i s Q E st h => wpAny_pyIter_keyiter st h
def iKeysN (P : Program) (w : World) (td : TE) : TI := fun σ H R => td σ H fun x H1 => ∃ d o xs, x = .ref d ∧ H1 d = some (DnO P w d o xs) ∧ R (ItN P w d o xs) H1
theorem pi_keysN {X : Cx} {tg e : Expr} {td : TE} (he : PE X e td) : PI X tg e (iKeysN X.prog X.w td) := by
  refine ⟨fun pins s σ H R I h => thn (he.run pins s σ H _ I h) fun u s1 ⟨x, H1, I1, rx, d, o, xs, ex, hd, q⟩ => ?_⟩
  subst ex
  obtain rfl : u = Value.ref d := rx
  obtain ⟨hgd, hs, hx, _, es, ep, hdt, hsz, ent⟩ := DNo.raw I1 hd
  refine iter_keys hs hgd hx hdt (pi_one (tk := s1.toks) I1 _ (turnN _ hdt) ⟨_, Heap.get?_push_size _ rfl, rfl, ?_⟩ q)
  rw [hsz] <;> rfl
theorem acc_ents {P : Program} {w : World} {es : Array DictEntry} {xs : NRaw} {acc : Array Value} {f : DictEntry → Value} (he : es.toList = xs.map (entryOfKey (nestedKind P w))) (hl : acc.size = es.size) (h : ∀ (i : Nat) v, acc[i]? = some v → ∃ hi : i < es.size, v = f es[i]) :
    acc.toList = xs.map fun x => f (entryOfKey (nestedKind P w) x) := by
  have hs := size_of_entries he
  apply List.ext_getElem?
  intro j
  rw [List.getElem?_map, Array.getElem?_toList]
  cases hj : acc[j]? with
  | none =>
    have := Array.getElem?_eq_none_iff.mp hj
    rw [List.getElem?_eq_none (by omega)]
    rfl
  | some v =>
    obtain ⟨hi, ev⟩ := h j v hj
    have qe := entry_at he j
    have hlt : j < xs.length := by omega
    rw [List.getElem?_eq_getElem hlt] at qe ⊢
    rw [Array.getElem?_eq_getElem hi] at qe
    have e2 : es[j] = entryOfKey (nestedKind P w) xs[j] := Option.some.inj qe
    rw [ev, e2]
    rfl
def VwO (v d : Addr) : HO := .ext fun h => h.IsValuesView v d
def tValsN (P : Program) (w : World) (td : TE) : TE := fun σ H Q => td σ H fun x H1 => ∃ d o xs, x = .ref d ∧ H1 d = some (DnO P w d o xs) ∧ ∀ p, H1 p = none → Q (.ref p) (upd H1 p (VwO p d))
theorem pe_valsN {X : Cx} {e : Expr} {td : TE} {apos cpos : Pos} (he : PE X e td) (hbase : attributeBase e "values" X.env (eval e X.env) = eval e X.env := by rfl) (hline : (apos.endLine == cpos.line) = true := by rfl) : PE X (.Call (.Attribute e "values" apos) [] [] cpos) (tValsN X.prog X.w td) := by
  refine ⟨fun pins s σ H Q I h => ?_⟩
  refine wpAny_Call_method (T := "dict") (id := "dict.values") hbase rfl hline F.plainAttrs_dict F.slot_dict_values F.type_dict_values ?_
  refine thn (he.run pins s σ H _ I h) fun u s1 ⟨x, H1, I1, rx, d, o, xs, ex, hd, q⟩ => ?_
  subst ex
  obtain rfl : u = Value.ref d := rx
  obtain ⟨hgd, hs, hx, hz, es, ep, hdt, hsz, ent⟩ := DNo.raw I1 hd
  refine ⟨⟨o, hgd, hx.1⟩, fun a e => by cases e; exact ⟨o, hgd, hx.2.1⟩, ?_⟩
  have new : ObjOk X.prog X.w (upd H1 s1.heap.objs.size (VwO s1.heap.objs.size d)) (s1.heap.push { cls := .type "dict_values", data := .fields #[.ref d] }) s1.heap.objs.size (VwO s1.heap.objs.size d) :=
    ⟨⟨_, Heap.get?_push_size _ rfl, rfl, rfl⟩, ⟨_, Heap.get?_push_size _ rfl⟩, fun h1 h2 ⟨ob, e, r⟩ k => ⟨ob, k _ e, r⟩⟩
  show wpAny _ _ (callWith cpos (.builtin "dict.values") [.ref d] [] []) _ X.xe s1
  exact method_meetsIn F.slot_dict_values F.entry_dict_values rfl (PySem.evalArgs_none ⟨rfl, ⟨o, hgd, hx.1⟩, F.args_dict_values_1 _, _, meets_dict_values_raw d hs, ⟨es, ep, o, hgd, hx, hdt⟩,
    .ref s1.heap.objs.size, _, I1.laid (t' := s1.toks) (fun b u e => Heap.get?_push_of_some _ e) (Nat.le_refl _) new, rfl, q _ (I1.hok.fresh (Nat.le_refl _))⟩)
/-- the values, by their places -/
def rListVN (P : Program) (w : World) (K : PySem.W.Frag) : List V → Hp → VK → Prop := fun vs H Q => ∃ v d o xs kvs, vs = [V.ref v] ∧ H v = some (VwO v d) ∧ DNo P w K H d o xs kvs ∧ ∀ p, H p = none → Q (.ref p) (upd H p (.lst (kvs.map (·.2))))
theorem call_listVN {X : Cx} (hc : X.calm = true) : CallR X (.type "list") (rListVN X.prog X.w X.K) := by
  intro pins s σ H vs us Q I r ⟨v, d, o, xs, kvs, e, hv, g, q⟩
  subst e
  obtain ⟨u, rfl, rx⟩ := r.one
  obtain rfl : u = Value.ref v := rx
  obtain ⟨hgd, hs, hx, hz, es, ep, hdt, hsz, ent⟩ := DNo.raw I g.at_
  have hvw : s.heap.IsValuesView v d := (show ObjOk X.prog X.w H s.heap v (VwO v d) from I.hok v _ hv).1
  refine PySem.W.kdl_call PySem.KdlSrc.rawValues (I.ok.hd hc) ⟨hvw, o, hgd, hx, hdt⟩ (by omega) fun h' tk acc c' kp e it => ?_
  have ea := acc_ents (f := fun e => e.val) ent it.1 it.2
  have rv : Vals (kvs.map (·.2)) acc.toList := by
    rw [ea]
    refine vals_of_at (by rw [List.length_map, List.length_map, g.len]) fun j x y h1 h2 => ?_
    rw [List.getElem?_map] at h1 h2
    obtain ⟨p0, hp0, rfl⟩ := Option.map_eq_some_iff.mp h1
    obtain ⟨x0, hx0, rfl⟩ := Option.map_eq_some_iff.mp h2
    exact (g.ent j p0 x0 hp0 hx0).2.2.2
  refine ⟨.ref s.heap.objs.size, _, I.laid (t' := tk) (o := .lst (kvs.map (·.2))) kp (Nat.le_refl _) ⟨by rw [List.length_map, g.len]; exact hz, acc.toList, c', rv, by rw [Array.toArray_toList]; exact e⟩, rfl, q _ (I.hok.fresh (Nat.le_refl _))⟩
def tDSetdN (P : Program) (w : World) (K : PySem.W.Frag) (td ty tx : TE) : TE := fun σ H Q => td σ H fun x H1 => ∃ d o xs, x = .ref d ∧ H1 d = some (DnO P w d o xs) ∧ ty σ H1 fun y H2 => tx σ H2 fun z H3 => ∃ (b : Addr) (kvs : List (NestedKey × V)) (k : NestedKey), y = .ref b ∧ DN P w K H3 d kvs ∧ Nk K H3 k (.ref b) ∧ k.depth ≤ 8 ∧ kvs.length < sizeLine ∧
  (∀ v, valN kvs k = some v → Q v H3) ∧ (valN kvs k = none → ∀ φ, DN P w K (upd H3 d (.ext φ)) d (putN kvs k z) → Q z (upd H3 d (.ext φ)))
theorem pe_setdN {X : Cx} {o e f : Expr} {td ty tx : TE} {apos cpos : Pos} (hu : X.A.units + 10 < cLine) (ho : PE X o td) (he : PE X e ty) (hf : PE X f tx) (m : M2 X o "setdefault" apos e f cpos) : PE X (.Call (.Attribute o "setdefault" apos) [e, f] [] cpos) (tDSetdN X.prog X.w X.K td ty tx) := by
  refine ⟨fun pins s σ H Q I h => ?_⟩
  refine wpAny_Call_method m.base m.few m.line F.plainAttrs_dict F.slot_dict_setdefault F.type_dict_setdefault ?_
  refine thn (ho.run pins s σ H _ I h) fun u s1 ⟨x, H1, I1, rx, d, ob, xs, ex, hd, q1⟩ => ?_
  subst ex
  obtain rfl : u = Value.ref d := rx
  obtain ⟨hgd, hs, hx, _⟩ := DNo.raw I1 hd
  refine ⟨⟨ob, hgd, hx.1⟩, fun a e => by cases e; exact ⟨ob, hgd, hx.2.1⟩, ?_⟩
  rw [m.trees]
  refine Calls.callWith_builtin rfl (Calls.evalArgs_plain (Calls.spliced_cons (thn (he.run pins s1 σ H1 _ I1 q1) fun iv s2 ⟨y, H2, I2, ry, q2⟩ => Calls.spliced_cons ?_)))
  refine thn (hf.run pins s2 σ H2 _ I2 q2) fun fv s3 ⟨z, H3, I3, rz, b, kvs, k, ey, ⟨o3, xs3, g⟩, hk, hdp, hz, qh, qn⟩ => Calls.spliced_nil ?_
  subst ey
  obtain rfl : iv = Value.ref b := ry
  obtain ⟨e1, e2, e3, e4⟩ := g.ok I3
  have rel := valN_rel (k := k) g.len g.ent
  refine call_setdefault_heap (knd := nestedKind X.prog X.w) (hsz := e4) (by show X.A.units + 1 + 8 < cLine; omega) ⟨hk.is I3 rfl, hdp⟩ e2 e3 (fun p hp => ?_) fun hn h' hm hsb => ?_
  · rw [hp] at rel
    cases hv : valN kvs k with
    | none => rw [hv] at rel; exact (show False from rel).elim
    | some v => rw [hv] at rel; exact ⟨v, H3, I3.tok _, rel, qh v hv⟩
  · have hv : valN kvs k = none := by
      cases hv : valN kvs k with
      | none => rfl
      | some v => rw [hv, hn] at rel; exact (show False from rel).elim
    obtain ⟨o', J, g'⟩ := dn_set (s3.toks + (nestedKind X.prog X.w).draws k) I3 g hk hdp hz rz hm hsb
    exact ⟨z, _, J, rz, qn hv _ ⟨o', _, g'⟩⟩
end MK
set_option Elab.async false
set_option linter.all false
set_option autoImplicit false
set_option maxRecDepth 100000
set_option maxHeartbeats 2000000
namespace MK
open PySem PySem.Spec PyProof.Rows L2
/-- D the new dict; each turn's store as rSetN tells it -/
def tDcN (P : Program) (w : World) (K : PySem.W.Frag) (wi : TI) (g : TG) (tt : TT) (tk tv : TE) (vs : List Nat) : TE := fun σ H Q => wi σ H fun J H1 => ∀ D o, H1 D = none → GoodN P w o [] → ∃ W : Nat → Nat → Hp → Prop, (∃ m, W 0 m (upd H1 D (DnO P w D o []))) ∧ ∀ i m H, W i m H →
  (J.stop i H ∧ Q (.ref D) H) ∨ (J.go i H ∧ ∃ Nx : Hp → Prop, (∀ H', Nx H' → ∃ m', m' < m ∧ W (i + 1) m' H') ∧ ∀ x H', J.yld i H x H' → g x (wipe σ vs) H' fun σ2 H2 => wipe σ2 vs = wipe σ vs ∧ tt σ2 H2 fun b H3 =>
    if b = true then tk σ2 H3 fun y H4 => tv σ2 H4 fun z H5 => rSetN P w K (.ref D) y z H5 Nx else Nx H3)
theorem store_dn {X : Cx} {pins : List (Addr × Obj)} {σ : L2.St} {H : Hp} {s : Shared} {E : Value → Shared → Prop} {D : Addr} {y z : V} {u r : Value} {Nx : Hp → Prop} {Q : Unit → Shared → Prop} (hu : X.A.units + 9 < cLine) (I : Inv X pins σ H s) (ry : RelV y u) (rv : RelV z r) (st : rSetN X.prog X.w X.K (.ref D) y z H Nx)
    (h : ∀ H' s', Inv X pins σ H' s' → Nx H' → Q () s') : wpAny (model X.prog X.w) X.A (dictSet D u r) Q E s := by
  obtain ⟨d, b, kvs, k, eo, ei, ⟨ob, xs, g⟩, hk, hdp, hz, q⟩ := st
  cases eo
  subst ei
  obtain rfl : u = Value.ref b := ry
  obtain ⟨e1, e2, e3, e4⟩ := g.ok I
  refine wpAny_dictSet_heap (hsz := e4) (knd := nestedKind X.prog X.w) (by show X.A.units + 8 < cLine; omega) ⟨hk.is I rfl, hdp⟩ e3 fun h' hm hs => ?_
  obtain ⟨o', J, g'⟩ := dn_set (s.toks + (nestedKind X.prog X.w).draws k) I g hk hdp hz rv hm hs
  exact h _ _ J (q _ ⟨o', _, g'⟩)
section
variable {X : Cx}
theorem dcn_core {pins : List (Addr × Obj)} {s : Shared} {σ : L2.St} {H : Hp} {Q : VK} {kx vx tg iter : Expr} {ifs : List Expr} {scope : Scope} {own : List (Str × Nat)} {pos pos' : Pos} {wi : TI} {g : TG} {tt : TT} {tk tv : TE} {use : Option (Value → Sem Unit)} {Qf : Value → Shared → Prop}
    (hu : X.A.units + 9 < cLine) (hc : X.calm = true) (hN : X.N.Nodup) (I : Inv X pins σ H s) (hi : PI X tg iter wi) (ok : BlkOk X.N X.env.scope scope own)
    (hg : ∀ t G C cl fp, PG (X.blk t G scope (compEnvC scope cl C X.env) fp) tg g) (ht : ∀ t G C cl fp, PTs (X.blk t G scope (compEnvC scope cl C X.env) fp) ifs tt)
    (hk : ∀ t G C cl fp, PE (X.blk t G scope (compEnvC scope cl C X.env) fp) kx tk)
    (he : ∀ t G C cl fp, PE (X.blk t G scope (compEnvC scope cl C X.env) fp) vx tv) (hs : ∀ x, foldedSetIterable iter X.env x = pure x)
    (h : tDcN X.prog X.w X.K wi g tt tk tv (own.map (·.2)) σ H Q)
    (fin : ∀ D C s' m H', Inv X pins σ H' s' → Q (.ref D) H' → s'.heap.Ns C m → FpOk X pins H' C → compPost (model X.prog X.w) X.A X.xe use Qf (.ref D) C (.ok .next) s') :
    wpAny (model X.prog X.w) X.A (comprehension (.DictComp kx vx [⟨tg, iter, ifs, 0⟩] scope pos) scope X.env pos' newDict false (eval iter X.env) use) Qf X.xe s := by
  have free : ∀ y ∈ scope.names, y.2 = .free → ∃ c, X.env.cells.lookup y.1 = some c := fun y hy e => (ok.free y hy e).elim (fun k => I.ok.has _ (.inl k)) fun k => I.ok.has _ (.inr k)
  refine wpAny_comprehension_free (use := use) rfl hs (closure_ok free) ok.kind (fun y hy e => by rw [ok.uniq y hy, e]) ?_
  refine thn (hi.run pins s σ H _ I h) fun xv sa ha => thn ha fun itv sb hb => ?_
  obtain ⟨it, fp, tn, J, Hb, eit, Ib, T, stb, fb, q⟩ := hb
  subst eit
  refine wpAny_newObj_type (newEnv_comp ?_)
  generalize hD : sb.heap.objs.size = D
  have hDn : Hb D = none := Ib.hok.fresh (Nat.le_of_eq hD)
  have g0 : GoodN X.prog X.w { cls := .type "dict", data := .dict #[] } [] := ⟨⟨rfl, rfl, rfl⟩, ⟨#[], 0, rfl, rfl⟩, List.nodup_nil, Nat.zero_le _⟩
  obtain ⟨W, ⟨m0, w0⟩, turn⟩ := q D _ hDn g0
  have hsys : (D == sysModules) = false := beq_eq_false_iff_ne.mpr fun z => Nat.ne_of_lt Ib.big (z.symm.trans hD.symm)
  generalize hdo : ({ cls := .type "dict", data := .dict #[] } : Obj) = dob at g0 w0 ⊢
  have fz : dob.isFreed = false := by subst hdo; rfl
  -- the new dict is laid
  generalize hsc : ({ sb with heap := sb.heap.push dob } : Shared) = sc
  have hc1 : sc.heap = sb.heap.push dob := by subst hsc; rfl
  have Ic : Inv X pins σ (upd Hb D (DnO X.prog X.w D dob [])) sc := by
    subst hsc
    refine Ib.laid (t' := sb.toks) (fun b o e => Heap.get?_push_of_some _ e) (Nat.le_of_eq hD) (dn_obj ?_ g0 hsys)
    rw [← hD]
    exact Heap.get?_push_size _ fz
  have low : ∀ b ∈ fp, b < sb.heap.objs.size := fun b hb => let ⟨o, e, _⟩ := T.obj _ _ stb b hb; Heap.lt_size e
  have fc : ∀ b ∈ fp, FpOk X pins (upd Hb D (DnO X.prog X.w D dob [])) b ∧ b < sc.heap.objs.size := fun b hb =>
    ⟨⟨(upd_ne fun z => Nat.lt_irrefl _ (by have := low b hb; rwa [z, hD] at this)).trans (fb b hb).1, (fb b hb).2⟩, by rw [hc1, Heap.size_push]; exact Nat.lt_succ_of_lt (low b hb)⟩
  have stc : tn 0 sc.heap := T.keep _ _ _ stb fun b _ o e => by rw [hc1]; exact Heap.get?_push_of_some _ e
  have Id := block_start Ic ok hN fc
  generalize hHc : upd Hb D (DnO X.prog X.w D dob []) = Hc at Ic Id w0 fc
  generalize hcl : cellsFrom (sc.heap.objs.size + 1) scope.names (cloFrom X.env.cells scope.names []) = cl at Id
  generalize hce : compEnvC scope cl sc.heap.objs.size X.env = ce at Id
  have pg := hg sc Hc sc.heap.objs.size cl fp
  have pt := ht sc Hc sc.heap.objs.size cl fp
  have pk := hk sc Hc sc.heap.objs.size cl fp
  have pv := he sc Hc sc.heap.objs.size cl fp
  rw [hce] at pg pt pk pv
  have cloc : ce.locals = sc.heap.objs.size := by subst hce; rfl
  have nfp : ∀ b ∈ fp, Hc b = none := fun b hb => (fc b hb).1.1
  show codeAny _ _ (.compStart (.DictComp kx vx [⟨tg, iter, ifs, 0⟩] scope pos) 0 (.ref it) (.ref D) (compEnvC scope cl sc.heap.objs.size X.env)) (compPost (model X.prog X.w) X.A X.xe use Qf (.ref D) sc.heap.objs.size) { sc with heap := pushCells (sc.heap.push dob) scope.names }
  rw [hce]
  have Ie : Inv (X.blk sc Hc scope ce fp) [] (wipe σ (own.map (·.2))) Hc ({ sc with heap := pushCells (sc.heap.push dob) scope.names } : Shared) := by subst hdo; exact Id
  generalize hse : ({ sc with heap := pushCells (sc.heap.push dob) scope.names } : Shared) = se at Ie ⊢
  have ste : tn 0 se.heap := T.keep _ _ _ stc fun b _ o e => by rw [← hse]; exact pushCells_keeps _ _ _ _ (Heap.get?_push_of_some _ e)
  have stat : ∀ {σ' : L2.St} {H' : Hp} {s' : Shared}, Inv (X.blk sc Hc scope ce fp) [] σ' H' s' → (∀ b ∈ fp, H' b = none) → ∀ b ∈ fp, FpOk (X.blk sc Hc scope ce fp) [] H' b := fun {σ' H' s'} I' hn b hb =>
    ⟨hn b hb, (I'.ok.exf b hb).1, I'.ok.exfs b hb, .inl hb, fun x c e => (I'.ok.exf b hb).2 x c e, fun p hp => absurd (show p ∈ ([] : List (Addr × Obj)) ++ [] from hp) (List.not_mem_nil)⟩
  have loop : codeAny (model X.prog X.w) X.A (.compLoop (.DictComp kx vx [⟨tg, iter, ifs, 0⟩] scope pos) 0 (.ref it) (.ref D) ce) (compPost (model X.prog X.w) X.A X.xe use Qf (.ref D) sc.heap.objs.size) se := by
    refine compLoop_anyD (fun n s' => ∃ i H', Inv (X.blk sc Hc scope ce fp) [] (wipe σ (own.map (·.2))) H' s' ∧ tn i s'.heap ∧ (∀ b ∈ fp, H' b = none) ∧ W i n H') ?_ m0 ⟨0, Hc, Ie, ste, nfp, w0⟩
    rintro n sf ⟨i, Hf, If, stf, nf, wf⟩
    rcases turn i n Hf wf with ⟨stop, qq⟩ | ⟨go, Nx, hNx, step⟩
    · refine thnF (T.done (X.blk sc Hc scope ce fp) rfl rfl rfl hc i [] sf _ Hf (fun _ _ => False) If (stat If nf) stf stop) fun r sg ⟨hr, Ig⟩ => ?_
      subst hr
      have Ih : Inv X pins σ Hf sg := Ic.call' (ch := fp) Ig.os Ig.base Ig.hok Ig.bare fun b hb => ⟨(fc b hb).1.2.2.2.1, (fc b hb).1.2.1, (fc b hb).1.2.2.2.2.1, (fc b hb).1.2.2.2.2.2⟩
      have nC : Hf sc.heap.objs.size = none := cloc ▸ (show Hf ce.locals = none from Ig.free)
      obtain ⟨m, hn, _⟩ := Ig.loc
      exact fin D sc.heap.objs.size sg m Hf Ih qq (cloc ▸ (show sg.heap.Ns ce.locals m from hn)) (Ic.fpOk (Nat.le_refl _) nC)
    · refine thnF (T.item (X.blk sc Hc scope ce fp) rfl rfl rfl hc i [] sf _ Hf (fun _ _ => False) If (stat If nf) stf go) fun r sg ⟨u, hr, hg1⟩ => ?_
      subst hr
      refine thnF hg1 fun _ sh ⟨x, Hh, Ih, rh, yh, sth, nh⟩ => ?_
      have Ip := Ih.pinned (stat Ih nh) (T.obj _ _ sth)
      refine thnF (pg.run _ sh _ Hh x u _ Ip rh (step x Hh yh)) fun _ si ⟨σi, Hi, Ii, hwi, qi⟩ => ?_
      refine thnF (pt.run _ si σi Hi _ Ii qi) fun b sj ⟨Hj, Ij, qj⟩ => ?_
      have next : ∀ (H' : Hp) (s' : Shared), Inv (X.blk sc Hc scope ce fp) ([] ++ pinsAt fp sh.heap) σi H' s' → Nx H' → ∃ m, m < n ∧ ∃ i H', Inv (X.blk sc Hc scope ce fp) [] (wipe σ (own.map (·.2))) H' s' ∧ tn i s'.heap ∧ (∀ b ∈ fp, H' b = none) ∧ W i m H' := fun H' s' I' nx => by
        obtain ⟨m', hm, w'⟩ := hNx H' nx
        have pin' : ∀ b ∈ fp, ∀ o, sh.heap.get? b = some o → s'.heap.get? b = some o ∧ H' b = none := fun b hb o e =>
          have z := I'.pin (b, o) (List.mem_append_right _ (List.mem_append_right _ (mem_pinsAt hb e)))
          ⟨z.1, z.2.1⟩
        have hl : (wipe σ (own.map (·.2))).length = σi.length := by rw [← hwi, wipe_length]
        refine ⟨m', hm, i + 1, H', (I'.unpinned (pins := [])).weak hl fun j v e => ?_, T.keep _ _ _ sth fun b hb o e => (pin' b hb o e).1, fun b hb => ?_, w'⟩
        · rw [← hwi] at e
          exact (wipe_some e).1
        · obtain ⟨o, e, _⟩ := T.obj _ _ sth b hb
          exact (pin' b hb o e).2
      cases b with
      | false =>
        simp only [Bool.false_eq_true, if_false] at qj ⊢
        exact next _ _ Ij qj
      | true =>
        simp only [if_true] at qj ⊢
        refine thnF (pk.run _ sj σi Hj _ Ij qj) fun kv sk ⟨yk, Hk, Ik, rk, qk⟩ => ?_
        refine thnF (pv.run _ sk σi Hk _ Ik qk) fun vv sl ⟨yv, Hl, Il, rl, ql⟩ => ?_
        exact store_dn (X := X.blk sc Hc scope ce fp) hu Il rk rl ql fun H' s' I' nx => next _ _ I' nx
  exact codeAny_compStart_dict loop (T.self X.A 0 _ _ _ ste loop)
theorem pe_dcn {kx vx tg iter : Expr} {ifs : List Expr} {scope : Scope} {own : List (Str × Nat)} {pos : Pos} {wi : TI} {g : TG} {tt : TT} {tk tv : TE} (hu : X.A.units + 9 < cLine) (hc : X.calm = true) (hN : X.N.Nodup) (hi : PI X tg iter wi) (ok : BlkOk X.N X.env.scope scope own)
    (hg : ∀ t G C cl fp, PG (X.blk t G scope (compEnvC scope cl C X.env) fp) tg g) (ht : ∀ t G C cl fp, PTs (X.blk t G scope (compEnvC scope cl C X.env) fp) ifs tt)
    (hk : ∀ t G C cl fp, PE (X.blk t G scope (compEnvC scope cl C X.env) fp) kx tk)
    (he : ∀ t G C cl fp, PE (X.blk t G scope (compEnvC scope cl C X.env) fp) vx tv) (hs : ∀ x, foldedSetIterable iter X.env x = pure x := by intro _; rfl) :
    PE X (.DictComp kx vx [⟨tg, iter, ifs, 0⟩] scope pos) (tDcN X.prog X.w X.K wi g tt tk tv (own.map (·.2))) := by
  refine ⟨fun pins s σ H Q I h => ?_⟩
  rw [arm_eval_DictComp]
  refine dcn_core hu hc hN I hi ok hg ht hk he hs h fun D C s' m H' I' q hn f => ⟨m, hn, fun h2 sb => ?_⟩
  obtain ⟨f0, f1, f2, f3, f4, f5⟩ := f
  exact ⟨.ref D, H', I'.turned (t' := s'.toks) (fun b o hb e => (sb.2 b hb).trans e) f0 f1 f3 f4 f5, rfl, q⟩
theorem swap_true {kx vx : Expr} {gs : List Comprehension} {scope : Scope} {pos py : Pos} {y : Str} {l : Nat} {env : Env} (hk : env.scope.kind = .function) (hy : env.scope.names.lookup y = some .local) (hl : (py.line == pos.line) = true)
    (ha : (scope.names.any fun (n, k) => n == y && (k == .local || k == .cell)) = false) : swapsWith (.DictComp kx vx gs scope pos) (some (.Name y py)) l env = pure true := by
  have k1 : env.kindOf y = some .local := hy
  have k2 : env.blockKind = .function := by unfold Env.blockKind; rw [hk]; rfl
  unfold swapsWith
  simp only [k2, k1, ha, Expr.pos, hl]
  rfl
/-- as what a name is set to -/
theorem ps_setDcn {i : Nat} {y : Str} {py : Pos} {kx vx tg iter : Expr} {ifs : List Expr} {scope : Scope} {own : List (Str × Nat)} {pos spos : Pos} {wi : TI} {g : TG} {tt : TT} {tk tv : TE} (hu : X.A.units + 9 < cLine) (hc : X.calm = true) (hN : X.N.Nodup) (hy : X.N[i]? = some y) (hyl : X.env.scope.names.lookup y = some .local)
    (hsw : swapsWith (.DictComp kx vx [⟨tg, iter, ifs, 0⟩] scope pos) (some (.Name y py)) spos.line X.env = pure true) (hi : PI X tg iter wi) (ok : BlkOk X.N X.env.scope scope own)
    (hg : ∀ t G C cl fp, PG (X.blk t G scope (compEnvC scope cl C X.env) fp) tg g) (ht : ∀ t G C cl fp, PTs (X.blk t G scope (compEnvC scope cl C X.env) fp) ifs tt)
    (hk : ∀ t G C cl fp, PE (X.blk t G scope (compEnvC scope cl C X.env) fp) kx tk)
    (he : ∀ t G C cl fp, PE (X.blk t G scope (compEnvC scope cl C X.env) fp) vx tv) (hs : ∀ x, foldedSetIterable iter X.env x = pure x := by intro _; rfl) :
    PS X (.Assign [.Name y py] (.DictComp kx vx [⟨tg, iter, ifs, 0⟩] scope pos) spos) (tAsg (tDcN X.prog X.w X.K wi g tt tk tv (own.map (·.2))) (gName i)) := by
  refine ⟨fun pins s σ H D I h => ?_⟩
  rw [exec_Assign_Name_used _ _ _ _ hsw]
  refine wpAny_bind (wpAny_standAt (wpAny_bind ?_))
  show wpAny _ X.A (do let _ ← comprehension (.DictComp kx vx [⟨tg, iter, ifs, 0⟩] scope pos) scope X.env (firstIterPos [⟨tg, iter, ifs, 0⟩] pos) newDict false (eval iter X.env) (some (assign (.Name y py) X.env))) _ _ s
  have h' : tDcN X.prog X.w X.K wi g tt tk tv (own.map (·.2)) σ H (fun x H1 => gName i x σ H1 D.nx) := h
  refine wpAny_bind (thn (dcn_core (Qf := fun _ t => SP X pins D .next t) hu hc hN I hi ok hg ht hk he hs h' fun L C t m G J q hn f => ?_) fun _ t hq => wpAny_pure (wpAny_pure hq))
  show wpAny _ _ (assign (.Name y py) X.env (.ref L)) _ _ _
  refine wpAny_assign_Name (store_ok2 (v := V.ref L) J hN hy (.inl hyl) rfl (fun t2 J2 ⟨c, sb, hc⟩ => ?_) (.inr hyl))
  obtain ⟨f0, f1, f2, f3, f4, f5⟩ := f
  have apart : C ≠ c := hc.elim (fun z => by rw [z]; exact f1) fun z e => f4 y c z e.symm
  exact ⟨m, hn.sameBut sb apart, fun h3 sb3 => ⟨_, G, J2.turned (t' := t2.toks) (fun b o hb e => (sb3.2 b hb).trans e) f0 f1 f3 f4 f5, q⟩⟩
/-- over the keys of a dict that stays -/
theorem dcn_keys {P : Program} {w : World} {K : PySem.W.Frag} {d : Addr} {o ob : Obj} {xs : NRaw} {g : TG} {tt : TT} {tk tv : TE} {vs : List Nat} {σ : L2.St} {H1 : Hp} {D : Addr} {Qd : Hp → Prop} (Pv : Nat → Hp → Prop) (h0 : Pv 0 (upd H1 D (DnO P w D ob []))) (hl : ∀ i H, i ≤ xs.length → Pv i H → H d = some (DnO P w d o xs))
    (hs : ∀ i z H, xs[i]? = some z → Pv i H → g (.ref z.2.1) (wipe σ vs) H fun σ2 H2 => wipe σ2 vs = wipe σ vs ∧ tt σ2 H2 fun b H3 =>
      if b = true then tk σ2 H3 fun y H4 => tv σ2 H4 fun z H5 => rSetN P w K (.ref D) y z H5 (Pv (i + 1)) else Pv (i + 1) H3) (hd : ∀ H, Pv xs.length H → Qd H) :
    ∃ W : Nat → Nat → Hp → Prop, (∃ m, W 0 m (upd H1 D (DnO P w D ob []))) ∧ ∀ i m H, W i m H →
      ((ItN P w d o xs).stop i H ∧ Qd H) ∨ ((ItN P w d o xs).go i H ∧ ∃ Nx : Hp → Prop, (∀ H', Nx H' → ∃ m', m' < m ∧ W (i + 1) m' H') ∧ ∀ x H', (ItN P w d o xs).yld i H x H' → g x (wipe σ vs) H' fun σ2 H2 => wipe σ2 vs = wipe σ vs ∧ tt σ2 H2 fun b H3 =>
        if b = true then tk σ2 H3 fun y H4 => tv σ2 H4 fun z H5 => rSetN P w K (.ref D) y z H5 Nx else Nx H3) := by
  refine ⟨fun i m H => m = xs.length - i ∧ i ≤ xs.length ∧ Pv i H, ⟨xs.length, (Nat.sub_zero _).symm, Nat.zero_le _, h0⟩, ?_⟩
  rintro i m H ⟨rfl, hi, p⟩
  have q := hl i H hi p
  by_cases lt : i < xs.length
  · exact .inr ⟨⟨q, lt⟩, Pv (i + 1), fun H' p' => ⟨xs.length - (i + 1), by omega, rfl, lt, p'⟩, fun x H' ⟨e, z, hz, ez⟩ => by subst e ez; exact hs i z _ hz p⟩
  · obtain rfl : i = xs.length := by omega
    exact .inl ⟨⟨q, Nat.le_refl _⟩, hd H p⟩
end
end MK
set_option Elab.async false
set_option linter.all false
set_option autoImplicit false
set_option maxRecDepth 100000
set_option maxHeartbeats 2000000
namespace MK
open PySem PySem.Spec PyProof.Rows L2
section
variable {α : Type}
def getA (ks : List (NestedKey × α)) (k : NestedKey) : Option α := (ks.find? fun p => decide (p.1 = k)).map (·.2)
def putA (ks : List (NestedKey × α)) (k : NestedKey) (a : α) : List (NestedKey × α) := if (getA ks k).isSome then ks.map fun p => if p.1 = k then (p.1, a) else p else ks ++ [(k, a)]
theorem getA_cons (p : NestedKey × α) (ks : List (NestedKey × α)) (k : NestedKey) : getA (p :: ks) k = if p.1 = k then some p.2 else getA ks k := by
  unfold getA
  by_cases e : p.1 = k
  · rw [List.find?_cons_of_pos (by exact decide_eq_true e), if_pos e]
    rfl
  · rw [List.find?_cons_of_neg (by simpa using e), if_neg e]
theorem getA_isSome {ks : List (NestedKey × α)} {k : NestedKey} : (getA ks k).isSome = decide (k ∈ ks.map (·.1)) := by
  induction ks with
  | nil => rfl
  | cons p ks ih =>
    rw [getA_cons]
    by_cases e : p.1 = k
    · rw [if_pos e, List.map_cons, decide_eq_true (e ▸ List.mem_cons_self)]
      rfl
    · rw [if_neg e, ih, List.map_cons, Bool.eq_iff_iff, decide_eq_true_iff, decide_eq_true_iff, List.mem_cons]
      exact ⟨.inr, fun h => h.resolve_left fun q => e q.symm⟩
theorem getA_of {ks : List (NestedKey × α)} (nd : (ks.map (·.1)).Nodup) {k : NestedKey} {a : α} (h : (k, a) ∈ ks) : getA ks k = some a := by
  induction ks with
  | nil => cases h
  | cons p ks ih =>
    rw [getA_cons]
    rw [List.map_cons, List.nodup_cons] at nd
    rcases List.mem_cons.mp h with e | h
    · subst e
      rw [if_pos rfl]
    · rw [if_neg (fun q : p.1 = k => nd.1 (by rw [q]; exact List.mem_map_of_mem (f := (·.1)) h))]
      exact ih nd.2 h
theorem putA_keys {ks : List (NestedKey × α)} {k : NestedKey} {a : α} : (putA ks k a).map (·.1) = if k ∈ ks.map (·.1) then ks.map (·.1) else ks.map (·.1) ++ [k] := by
  unfold putA
  rw [getA_isSome]
  by_cases h : k ∈ ks.map (·.1)
  · rw [if_pos (decide_eq_true h), if_pos h, List.map_map]
    apply List.map_congr_left
    intro p _
    show (if p.1 = k then (p.1, a) else p).1 = p.1
    split <;> rfl
  · rw [if_neg (by simpa using h), if_neg h, List.map_append]
    rfl
theorem putA_new {ks : List (NestedKey × α)} {k : NestedKey} {a : α} (h : k ∉ ks.map (·.1)) : putA ks k a = ks ++ [(k, a)] := by
  unfold putA
  rw [getA_isSome, if_neg (by simpa using h)]
end
/-- entry by entry -/
def Pr {α β : Type} (R : α → β → Prop) (xs : List (NestedKey × α)) (ys : List (NestedKey × β)) : Prop := xs.length = ys.length ∧ ∀ (i : Nat) p q, xs[i]? = some p → ys[i]? = some q → p.1 = q.1 ∧ R p.2 q.2
section
variable {α β : Type} {R S : α → β → Prop} {xs : List (NestedKey × α)} {ys : List (NestedKey × β)}
theorem Pr.nil : Pr R ([] : List (NestedKey × α)) ([] : List (NestedKey × β)) := ⟨rfl, fun i p q h => by simp at h⟩
theorem Pr.mono (h : Pr R xs ys) (f : ∀ a b, R a b → S a b) : Pr S xs ys := ⟨h.1, fun i p q h1 h2 => let ⟨e, r⟩ := h.2 i p q h1 h2; ⟨e, f _ _ r⟩⟩
theorem Pr.tail {p : NestedKey × α} {q : NestedKey × β} (h : Pr R (p :: xs) (q :: ys)) : (p.1 = q.1 ∧ R p.2 q.2) ∧ Pr R xs ys := ⟨h.2 0 p q rfl rfl, Nat.succ.inj h.1, fun i a b h1 h2 => h.2 (i + 1) a b h1 h2⟩
theorem Pr.get (h : Pr R xs ys) (k : NestedKey) : (getA xs k = none ∧ getA ys k = none) ∨ ∃ a b, getA xs k = some a ∧ getA ys k = some b ∧ R a b := by
  induction xs generalizing ys with
  | nil =>
    cases ys with
    | nil => exact .inl ⟨rfl, rfl⟩
    | cons q ys => exact absurd h.1 (by simp)
  | cons p xs ih =>
    cases ys with
    | nil => exact absurd h.1 (by simp)
    | cons q ys =>
      obtain ⟨⟨e, r⟩, t⟩ := h.tail
      rw [getA_cons, getA_cons, ← e]
      by_cases z : p.1 = k
      · rw [if_pos z, if_pos z]
        exact .inr ⟨_, _, rfl, rfl, r⟩
      · rw [if_neg z, if_neg z]
        exact ih t
theorem Pr.some (h : Pr R xs ys) {k : NestedKey} {b : β} (e : getA ys k = .some b) : ∃ a, getA xs k = .some a ∧ R a b := by
  rcases h.get k with ⟨_, q⟩ | ⟨a, b', q1, q2, r⟩
  · rw [q] at e
    cases e
  · rw [q2] at e
    cases e
    exact ⟨a, q1, r⟩
theorem Pr.isSome (h : Pr R xs ys) (k : NestedKey) : (getA xs k).isSome = (getA ys k).isSome := by
  rcases h.get k with ⟨q1, q2⟩ | ⟨a, b, q1, q2, _⟩ <;> rw [q1, q2] <;> rfl
theorem Pr.put (h : Pr R xs ys) {k : NestedKey} {a : α} {b : β} (r : R a b) : Pr R (putA xs k a) (putA ys k b) := by
  unfold putA
  rw [h.isSome k]
  split
  · refine ⟨by rw [List.length_map, List.length_map, h.1], fun i p q h1 h2 => ?_⟩
    rw [List.getElem?_map] at h1 h2
    obtain ⟨p0, hp, rfl⟩ := Option.map_eq_some_iff.mp h1
    obtain ⟨q0, hq, rfl⟩ := Option.map_eq_some_iff.mp h2
    obtain ⟨e, r0⟩ := h.2 i p0 q0 hp hq
    by_cases z : p0.1 = k
    · rw [if_pos z, if_pos (e ▸ z)]
      exact ⟨e, r⟩
    · rw [if_neg z, if_neg (fun q => z (e.trans q))]
      exact ⟨e, r0⟩
  · refine ⟨by rw [List.length_append, List.length_append, h.1]; rfl, fun i p q h1 h2 => ?_⟩
    by_cases z : i < xs.length
    · rw [List.getElem?_append_left z] at h1
      rw [List.getElem?_append_left (h.1 ▸ z)] at h2
      exact h.2 i p q h1 h2
    · rw [List.getElem?_append_right (by omega)] at h1
      rw [List.getElem?_append_right (by have := h.1; omega), ← h.1] at h2
      have z0 : i - xs.length = 0 := by
        have := (List.getElem?_eq_some_iff.mp h1).1
        simp only [List.length_cons, List.length_nil] at this
        omega
      rw [z0] at h1 h2
      cases h1
      cases h2
      exact ⟨rfl, r⟩
end
theorem valN_getA (kvs : List (NestedKey × V)) (k : NestedKey) : valN kvs k = getA kvs k := rfl
theorem putN_putA (kvs : List (NestedKey × V)) (k : NestedKey) (v : V) : putN kvs k v = putA kvs k v := rfl
/-- every tuple stays -/
def Tk (H H' : Hp) : Prop := ∀ a xs, L2.Rd H a (.tup xs) → L2.Rd H' a (.tup xs)
theorem Tk.refl (H : Hp) : Tk H H := fun _ _ h => h
theorem Tk.trans {H H1 H2 : Hp} (a : Tk H H1) (b : Tk H1 H2) : Tk H H2 := fun _ _ h => b _ _ (a _ _ h)
theorem Tk.of {H H' : Hp} (e : Same H H') : Tk H H' := fun a xs h => by
  rcases h with h | ⟨o, h⟩
  · exact .inl (e _ _ h)
  · exact .inr ⟨o, e _ _ h⟩
/-- what may be written: no tuple -/
def NoT (H : Hp) (d : Addr) : Prop := ∀ xs, ¬ L2.Rd H d (.tup xs)
theorem NoT.lst {H : Hp} {d : Addr} {xs : List V} (h : H d = some (.lst xs)) : NoT H d := fun ys r => by
  rcases r with r | ⟨o, r⟩ <;> rw [h] at r <;> cases r
theorem NoT.ext {H : Hp} {d : Addr} {φ : Heap → Prop} (h : H d = some (.ext φ)) : NoT H d := fun ys r => by
  rcases r with r | ⟨o, r⟩ <;> rw [h] at r <;> exact HO.noConfusion (Option.some.inj r)
theorem NoT.non {H : Hp} {d : Addr} (h : H d = none) : NoT H d := fun ys r => by
  rcases r with r | ⟨o, r⟩ <;> rw [h] at r <;> cases r
theorem Tk.upd {H : Hp} {d : Addr} {o : HO} (n : NoT H d) : Tk H (upd H d o) := fun a xs h => by
  have ne : a ≠ d := fun z => n xs (z ▸ h)
  rcases h with h | ⟨ob, h⟩
  · exact .inl ((upd_ne ne).trans h)
  · exact .inr ⟨ob, (upd_ne ne).trans h⟩
section
variable {K : PySem.W.Frag} {H H' : Hp}
theorem Tk.sqt (t : Tk H H') {a : Addr} {xs : List V} (h : SqT K H a xs) : SqT K H' a xs := h.imp (t a xs) id
theorem Nk.tk (t : Tk H H') {k : NestedKey} {v : V} (h : Nk K H k v) : Nk K H' k v := by
  induction h with
  | non => exact .non
  | int i => exact .int i
  | str z => exact .str z
  | tup ha hl _ ih => exact .tup (t.sqt ha) hl ih
theorem EnN.tk (t : Tk H H') {p : NestedKey × V} {x : NestedKey × Addr × Value} (h : EnN K H p x) : EnN K H' p x := ⟨h.1, h.2.1, h.2.2.1.tk t, h.2.2.2⟩
theorem DNo.tk {P : Program} {w : World} {d : Addr} {o : Obj} {xs : NRaw} {kvs : List (NestedKey × V)} (t : Tk H H') (e : H' d = H d) (h : DNo P w K H d o xs kvs) : DNo P w K H' d o xs kvs :=
  ⟨e.trans h.at_, h.len, fun i p x h1 h2 => (h.ent i p x h1 h2).tk t⟩
theorem DN.tk {P : Program} {w : World} {d : Addr} {kvs : List (NestedKey × V)} (t : Tk H H') (e : H' d = H d) (h : DN P w K H d kvs) : DN P w K H' d kvs := let ⟨o, xs, g⟩ := h; ⟨o, xs, g.tk t e⟩
end
def rEqI (K : PySem.W.Frag) : R2 := fun x y H Q => ∃ j : Int, y = .int j ∧ ((∃ i : Int, x = .int i ∧ Q (.bl (decide (i = j))) H) ∨ ∃ a xs, x = .ref a ∧ SqT K H a xs ∧ Q (.bl false) H)
def rNeI (K : PySem.W.Frag) : R2 := fun x y H Q => ∃ j : Int, y = .int j ∧ ((∃ i : Int, x = .int i ∧ Q (.bl (!decide (i = j))) H) ∨ ∃ a xs, x = .ref a ∧ SqT K H a xs ∧ Q (.bl true) H)
section
variable {X : Cx}
theorem op_eqI {K : PySem.W.Frag} (hK : X.K = K) (hu : X.A.units < cLine) : OpR X (compareOp .Eq) (rEqI K) := by
  subst hK
  intro pins s σ H x y v u Q I rx ry ⟨j, ey, h⟩
  subst ey
  obtain ⟨t, rfl⟩ := ry
  rcases h with ⟨i, rfl, q⟩ | ⟨a, xs, rfl, ha, q⟩
  · obtain ⟨t1, rfl⟩ := rx
    refine SeqAt.RcAt.int_int i t1 j t _ _ _ _ ⟨.bl _, H, I, rfl, ?_⟩
    have e : (i == j) = decide (i = j) := rfl
    rw [e]
    exact q
  · obtain rfl : v = Value.ref a := rx
    obtain ⟨its, r, p, _⟩ := I.tuple ha
    exact SeqAt.RcAt.tuple_int j t p hu _ _ _ _ ⟨.bl false, H, I, rfl, q⟩
theorem op_neI {K : PySem.W.Frag} (hK : X.K = K) (hu : X.A.units < cLine) : OpR X (compareOp .NotEq) (rNeI K) := by
  subst hK
  intro pins s σ H x y v u Q I rx ry ⟨j, ey, h⟩
  subst ey
  obtain ⟨t, rfl⟩ := ry
  rcases h with ⟨i, rfl, q⟩ | ⟨a, xs, rfl, ha, q⟩
  · obtain ⟨t1, rfl⟩ := rx
    refine SeqAt.RcNeAt.int_int i t1 j t _ _ _ _ ⟨.bl _, H, I, rfl, ?_⟩
    have e : (i == j) = decide (i = j) := rfl
    rw [e]
    exact q
  · obtain rfl : v = Value.ref a := rx
    obtain ⟨its, r, p, _⟩ := I.tuple ha
    exact SeqAt.RcNeAt.tuple_int j t p hu _ _ _ _ ⟨.bl true, H, I, rfl, q⟩
variable {P : Program} {w : World} {K : PySem.W.Frag}
theorem op_inNK (hP : X.prog = P) (hw : X.w = w) (hK : X.K = K) (hu : X.A.units + 9 < cLine) : OpR X (compareOp .In) (rInN P w K) := by subst hP hw hK; exact op_inN hu
theorem op_notInNK (hP : X.prog = P) (hw : X.w = w) (hK : X.K = K) (hu : X.A.units + 9 < cLine) : OpR X (compareOp .NotIn) (rNotInN P w K) := by subst hP hw hK; exact op_notInN hu
theorem pe_ixNK {pos : Pos} {a b : Expr} {ta tb : TE} (hP : X.prog = P) (hw : X.w = w) (hK : X.K = K) (hu : X.A.units + 9 < cLine) (ha : PE X a ta) (hb : PE X b tb) (hs : PlainIx b) : PE X (.Subscript a b pos) (tOp (rIxN P w K) ta tb) := by subst hP hw hK; exact pe_ixN hu ha hb hs
theorem pi_keysNK {tg e : Expr} {td : TE} (hP : X.prog = P) (hw : X.w = w) (he : PE X e td) : PI X tg e (iKeysN P w td) := by subst hP hw; exact pi_keysN he
theorem u9 {k : Nat} {A : Around} (r : Room k A) : A.units + 9 < cLine := by have := r.un; omega
theorem u10 {k : Nat} {A : Around} (r : Room k A) : A.units + 10 < cLine := by have := r.un; omega
end
end MK
set_option Elab.async false
set_option linter.all false
set_option autoImplicit false
set_option maxRecDepth 100000
set_option maxHeartbeats 2000000
namespace MK
open PySem PySem.Spec PyProof.Rows L2
abbrev Pl := NestedKey
abbrev Way := Str × Pl
/-- the end of a row -/
def dn : Pl := .num (-1)
/-- a place that is no end -/
def IsPl (k : Pl) : Prop := (∃ ks, k = .tup ks) ∧ k.depth ≤ 5
theorem IsPl.ne {k : Pl} (h : IsPl k) : k ≠ dn := fun e => by
  obtain ⟨⟨ks, rfl⟩, _⟩ := h
  cases e
theorem Nk.ref {K : PySem.W.Frag} {H : Hp} {k : Pl} {v : V} (h : Nk K H k v) (p : IsPl k) : ∃ b xs, v = .ref b ∧ SqT K H b xs := by
  obtain ⟨⟨ks, rfl⟩, _⟩ := p
  cases h with
  | tup ha _ _ => exact ⟨_, _, rfl, ha⟩
theorem Nk.dn {K : PySem.W.Frag} {H : Hp} {v : V} (h : Nk K H dn v) : v = .int (-1) := by
  unfold MK.dn at h
  cases h
  rfl
section
variable {K : PySem.W.Frag} {H H' : Hp}
/-- a pair (name, place) -/
def WyV (K : PySem.W.Frag) (H : Hp) (v : V) (p : Way) : Prop := ∃ t x, v = .ref t ∧ SqT K H t [.str p.1, x] ∧ Nk K H p.2 x
theorem WyV.tk (t : Tk H H') {v : V} {p : Way} (h : WyV K H v p) : WyV K H' v p := let ⟨a, x, e, h1, h2⟩ := h; ⟨a, x, e, t.sqt h1, h2.tk t⟩
end
/-- the walk: each way of a place of U ends or leads to one of U -/
structure WkOk (st : Pl) (W : Pl → List Way) (U : List Pl) : Prop where
  st : st ∈ U
  cl : ∀ k ∈ U, ∀ p ∈ W k, p.2 = dn ∨ p.2 ∈ U
  pl : ∀ k ∈ U, IsPl k
  few : U.length ≤ 300
  ws : ∀ k ∈ U, (W k).length ≤ 10
/-- what can be reached -/
inductive Rch (st : Pl) (W : Pl → List Way) : Pl → Prop
  | st : Rch st W st
  | on {k : Pl} {p : Way} : Rch st W k → p ∈ W k → p.2 ≠ dn → Rch st W p.2
/-- from where a row can end -/
inductive Ends (W : Pl → List Way) : Pl → Prop
  | fin {k : Pl} {p : Way} : p ∈ W k → p.2 = dn → Ends W k
  | on {k : Pl} {p : Way} : p ∈ W k → p.2 ≠ dn → Ends W p.2 → Ends W k
/-- the ways of these places: all that leads on from them is among them -/
structure TbOk (W : Pl → List Way) (ks : List Pl) : Prop where
  nd : ks.Nodup
  pl : ∀ k ∈ ks, IsPl k
  cl : ∀ k ∈ ks, ∀ p ∈ W k, p.2 = dn ∨ p.2 ∈ ks
  few : ks.length ≤ 300
  ws : ∀ k ∈ ks, (W k).length ≤ 10
/-- a list of ways, at an address that is not changed -/
def WsV (K : PySem.W.Frag) (G H : Hp) (v : V) (ws : List Way) : Prop := ∃ l xs, v = .ref l ∧ G l = some (.lst xs) ∧ Al (WyV K H) xs ws
theorem WsV.tk {K : PySem.W.Frag} {G G' H H' : Hp} (e : Same G G') (t : Tk H H') {v : V} {ws : List Way} (h : WsV K G H v ws) : WsV K G' H' v ws := let ⟨l, xs, e1, h1, h2⟩ := h; ⟨l, xs, e1, e _ _ h1, h2.mono fun _ _ r => r.tk t⟩
def pairsOf (W : Pl → List Way) (ks : List Pl) : List (NestedKey × List Way) := ks.map fun k => (k, W k)
theorem pairsOf_keys (W : Pl → List Way) (ks : List Pl) : (pairsOf W ks).map (·.1) = ks := by
  unfold pairsOf
  rw [List.map_map]
  exact List.map_id ks
theorem pairsOf_get {W : Pl → List Way} {ks : List Pl} {k : Pl} (h : k ∈ ks) : getA (pairsOf W ks) k = some (W k) := by
  induction ks with
  | nil => cases h
  | cons a ks ih =>
    show getA ((a, W a) :: pairsOf W ks) k = _
    rw [getA_cons]
    by_cases e : a = k
    · subst e
      rw [if_pos rfl]
    · rw [if_neg e]
      exact ih ((List.mem_cons.mp h).resolve_left fun q => e q.symm)
theorem pairsOf_put {W : Pl → List Way} {ks : List Pl} {k : Pl} (h : k ∉ ks) : putA (pairsOf W ks) k (W k) = pairsOf W (ks ++ [k]) := by
  rw [putA_new (by rw [pairsOf_keys]; exact h)]
  unfold pairsOf
  rw [List.map_append]
  rfl
/-- without the objects at M -/
def Wt (M : List Addr) (H : Hp) : Hp := fun a => if a ∈ M then none else H a
theorem wt_get {M : List Addr} {H : Hp} {a : Addr} (n : a ∉ M) : Wt M H a = H a := if_neg n
theorem wt_some {M : List Addr} {H : Hp} {a : Addr} {o : HO} (h : Wt M H a = some o) : a ∉ M ∧ H a = some o := by
  unfold Wt at h
  split at h
  · cases h
  · exact ⟨by assumption, h⟩
theorem wt_keep {M : List Addr} {H H' : Hp} (e : Same H H') : Same (Wt M H) (Wt M H') := fun a o h => by
  obtain ⟨n, h⟩ := wt_some h
  rw [wt_get n]
  exact e _ _ h
theorem wt_upd {M : List Addr} {H : Hp} {d : Addr} {o : HO} (h : d ∈ M) : Wt M (upd H d o) = Wt M H := by
  funext a
  unfold Wt
  by_cases n : a ∈ M
  · rw [if_pos n, if_pos n]
  · rw [if_neg n, if_neg n, upd_ne (fun e : a = d => n (by rw [e]; exact h))]
theorem wt_sub {M N : List Addr} {H : Hp} (h : ∀ a ∈ M, a ∈ N) : Same (Wt N H) (Wt M H) := fun a o e => by
  obtain ⟨n, e⟩ := wt_some e
  rw [wt_get fun m => n (h a m)]
  exact e
/-- a table of ways at d; its lists stand in G -/
def TbI (P : Program) (w : World) (K : PySem.W.Frag) (G H : Hp) (d : Addr) (T : List (NestedKey × List Way)) : Prop := ∃ kvs, DN P w K H d kvs ∧ Pr (WsV K G H) kvs T
theorem TbI.tk {P : Program} {w : World} {K : PySem.W.Frag} {G G' H H' : Hp} {d : Addr} {T : List (NestedKey × List Way)} (e : Same G G') (t : Tk H H') (ed : H' d = H d) (h : TbI P w K G H d T) : TbI P w K G' H' d T :=
  let ⟨kvs, h1, h2⟩ := h; ⟨kvs, h1.tk t ed, h2.mono fun _ _ r => r.tk e t⟩
/-- walks of some class: their data, what they look like, their ways -/
structure WalkT where
  D : Type
  I : D → Hp → Addr → Prop
  W : D → Pl → List Way
  st : D → Pl
  U : D → List Pl
structure WalkG (T : WalkT) (OC : Addr) : Prop where
  keep : ∀ (d : T.D) (H H' : Hp) (a : Addr), Same H H' → T.I d H a → T.I d H' a
  cls : ∀ (d : T.D) (H : Hp) (a : Addr), T.I d H a → ∃ dx fs, H a = some (.ins OC dx fs) ∧ fs.lookup (Str.ofString "start") = none ∧ fs.lookup (Str.ofString "ways") = none
  ok : ∀ (d : T.D) (H : Hp) (a : Addr), T.I d H a → WkOk (T.st d) (T.W d) (T.U d)
def spWays (K : PySem.W.Frag) (T : WalkT) : Sp := fun vs H Q _ => ∃ (d : T.D) (a b : Addr) (k : Pl), vs = [.ref a, .ref b] ∧ T.I d H a ∧ k ∈ T.U d ∧ Nk K H k (.ref b) ∧ ∀ H' l xs, Same H H' → H l = none → H' l = some (.lst xs) → Al (WyV K H') xs (T.W d k) → Q (.ref l) H'
def spStart (K : PySem.W.Frag) (T : WalkT) : Sp := fun vs H Q _ => ∃ (d : T.D) (a : Addr), vs = [.ref a] ∧ T.I d H a ∧ ∀ H' b, Same H H' → Nk K H' (T.st d) (.ref b) → Q (.ref b) H'
/-- the constants of the machines -/
structure MCst (mg : Str → Option Value) : Prop where
  DONE : ∃ u, mg "DONE" = some u ∧ RelV (.int (-1)) u
  THE_WORD : ∃ u, mg "THE_WORD" = some u ∧ RelV (.int 1) u
theorem nodup_le {α : Type} [DecidableEq α] : ∀ {xs ys : List α}, xs.Nodup → (∀ x ∈ xs, x ∈ ys) → xs.length ≤ ys.length
  | [], _, _, _ => Nat.zero_le _
  | x :: xs, ys, nd, h => by
    rw [List.nodup_cons] at nd
    have hx := h x List.mem_cons_self
    have := nodup_le (ys := ys.erase x) nd.2 fun z hz => (List.mem_erase_of_ne (fun e : z = x => nd.1 (by rw [← e]; exact hz))).mpr (h z (List.mem_cons_of_mem _ hz))
    rw [List.length_erase_of_mem hx] at this
    have l := List.length_pos_of_mem hx
    rw [List.length_cons]
    omega
theorem al_dropLast {α : Type} {R : V → α → Prop} {xs : List V} {ys : List α} (h : Al R xs ys) : Al R xs.dropLast ys.dropLast := by
  refine ⟨by rw [List.length_dropLast, List.length_dropLast, h.1], fun i x y h1 h2 => ?_⟩
  rw [List.getElem?_dropLast] at h1 h2
  split at h1
  · split at h2
    · exact h.2 i x y h1 h2
    · cases h2
  · cases h1
theorem last_split {α : Type} {xs : List α} {x : α} (h : xs[xs.length - 1]? = some x) : xs = xs.dropLast ++ [x] := by
  have hn : xs ≠ [] := fun e => by rw [e] at h; cases h
  have := List.dropLast_concat_getLast hn
  rw [← List.getLast?_eq_getElem?, List.getLast?_eq_some_getLast hn] at h
  rw [← Option.some.inj h]
  exact this.symm
theorem al_append {α : Type} {R : V → α → Prop} {xs xs' : List V} {ys ys' : List α} (h : Al R xs ys) (h' : Al R xs' ys') : Al R (xs ++ xs') (ys ++ ys') := by
  refine ⟨by rw [List.length_append, List.length_append, h.1, h'.1], fun i x y h1 h2 => ?_⟩
  by_cases q : i < xs.length
  · rw [List.getElem?_append_left q] at h1
    rw [List.getElem?_append_left (h.1 ▸ q)] at h2
    exact h.2 i x y h1 h2
  · rw [List.getElem?_append_right (by omega)] at h1
    rw [List.getElem?_append_right (by have := h.1; omega), ← h.1] at h2
    exact h'.2 _ x y h1 h2
theorem getA_put {α : Type} (ks : List (NestedKey × α)) (k : NestedKey) (a : α) : getA (putA ks k a) k = some a := by
  unfold putA
  rw [getA_isSome]
  by_cases h : k ∈ ks.map (·.1)
  · rw [if_pos (decide_eq_true h)]
    induction ks with
    | nil => cases h
    | cons p ks ih =>
      rw [List.map_cons, getA_cons]
      by_cases e : p.1 = k
      · rw [if_pos e, if_pos e]
      · rw [if_neg e, if_neg e]
        exact ih ((List.mem_cons.mp h).resolve_left fun q => e q.symm)
  · rw [if_neg (by simpa using h)]
    have e := getA_isSome (ks := ks) (k := k)
    rw [decide_eq_false h] at e
    induction ks with
    | nil => rw [List.nil_append, getA_cons, if_pos rfl]
    | cons p ks ih =>
      rw [List.map_cons, List.mem_cons] at h
      have ne : p.1 ≠ k := fun q => h (.inl q.symm)
      rw [List.cons_append, getA_cons, if_neg ne]
      rw [getA_cons, if_neg ne] at e
      exact ih (fun q => h (.inr q)) e
/-- the places to which ways go on -/
def onOf (ws : List Way) : List Pl := (ws.filter fun p => decide (p.2 ≠ dn)).map (·.2)
theorem mem_onOf {ws : List Way} {k : Pl} : k ∈ onOf ws ↔ ∃ p ∈ ws, p.2 = k ∧ p.2 ≠ dn := by
  unfold onOf
  rw [List.mem_map]
  constructor
  · rintro ⟨p, hp, e⟩
    rw [List.mem_filter] at hp
    exact ⟨p, hp.1, e, of_decide_eq_true hp.2⟩
  · rintro ⟨p, hp, e, n⟩
    exact ⟨p, List.mem_filter.mpr ⟨hp, decide_eq_true n⟩, e⟩
theorem onOf_le (ws : List Way) : (onOf ws).length ≤ ws.length := by
  unfold onOf
  rw [List.length_map]
  exact List.length_filter_le _ _
theorem onOf_dn {ws : List Way} {i : Nat} {p : Way} (h : ws[i]? = some p) (e : p.2 = dn) : onOf (ws.take (i + 1)) = onOf (ws.take i) := by
  unfold onOf
  rw [List.take_succ, h, List.filter_append]
  have : ([p].filter fun p => decide (p.2 ≠ dn)) = [] := by rw [List.filter_cons_of_neg (by simpa using e)]; rfl
  show List.map _ (_ ++ ([p].filter fun p => decide (p.2 ≠ dn))) = _
  rw [this, List.append_nil]
theorem onOf_on {ws : List Way} {i : Nat} {p : Way} (h : ws[i]? = some p) (e : p.2 ≠ dn) : onOf (ws.take (i + 1)) = onOf (ws.take i) ++ [p.2] := by
  unfold onOf
  rw [List.take_succ, h, List.filter_append]
  have : ([p].filter fun p => decide (p.2 ≠ dn)) = [p] := by rw [List.filter_cons_of_pos (by simpa using e)]; rfl
  show List.map _ (_ ++ ([p].filter fun p => decide (p.2 ≠ dn))) = _
  rw [this, List.map_append]
  rfl
theorem TbI.keep {P : Program} {w : World} {K : PySem.W.Frag} {G H H' : Hp} {d : Addr} {T : List (NestedKey × List Way)} (e : Same H H') (h : TbI P w K G H d T) : TbI P w K G H' d T :=
  let ⟨kvs, h1, h2⟩ := h; ⟨kvs, h1.keep e, h2.mono fun _ _ r => r.tk (Same.refl G) (Tk.of e)⟩
theorem tWhile_of {c : TT} {tb : TS} {D : L2.Ends} {σ : L2.St} {H : Hp} (Pv : Nat → L2.St → Hp → Prop) (m0 : Nat) (h0 : Pv m0 σ H)
    (hs : ∀ m σ H, Pv m σ H → c σ H fun b H1 => if b = true then ∃ N : L2.St → Hp → Prop, (∀ σ' H', N σ' H' → ∃ m', m' < m ∧ Pv m' σ' H') ∧ tb { D with nx := N, ct := N, bk := D.nx } σ H1 else D.nx σ H1) : tWhile c tb D σ H := ⟨Pv, ⟨m0, h0⟩, hs⟩
end MK
set_option Elab.async false
set_option linter.all false
set_option autoImplicit false
set_option maxRecDepth 100000
set_option maxHeartbeats 2000000
namespace MK
open PySem PySem.Spec PyProof.Rows L2
abbrev Edge := Pl × Way
/-- from where one comes to u -/
def SE (E : List Edge) (u : Pl) : List Pl := (E.filter fun e => decide (e.2.2 = u)).map (·.1)
theorem mem_SE {E : List Edge} {u k : Pl} : k ∈ SE E u ↔ ∃ p, (k, p) ∈ E ∧ p.2 = u := by
  unfold SE
  rw [List.mem_map]
  constructor
  · rintro ⟨⟨k', p⟩, hp, rfl⟩
    rw [List.mem_filter] at hp
    exact ⟨p, hp.1, of_decide_eq_true hp.2⟩
  · rintro ⟨p, hp, e⟩
    exact ⟨(k, p), List.mem_filter.mpr ⟨hp, decide_eq_true e⟩, rfl⟩
theorem SE_le (E : List Edge) (u : Pl) : (SE E u).length ≤ E.length := by
  unfold SE
  rw [List.length_map]
  exact List.length_filter_le _ _
theorem SE_snoc (E : List Edge) (k : Pl) (p : Way) (u : Pl) : SE (E ++ [(k, p)]) u = if p.2 = u then SE E u ++ [k] else SE E u := by
  unfold SE
  rw [List.filter_append]
  by_cases h : p.2 = u
  · rw [if_pos h, List.filter_cons_of_pos (by exact decide_eq_true h), List.map_append]
    rfl
  · rw [if_neg h, List.filter_cons_of_neg (by simpa using h), List.filter_nil, List.append_nil]
/-- all edges of these places -/
def edges (W : Pl → List Way) (ks : List Pl) : List Edge := ks.flatMap fun k => (W k).map fun p => (k, p)
theorem mem_edges {W : Pl → List Way} {ks : List Pl} {k : Pl} {p : Way} : (k, p) ∈ edges W ks ↔ k ∈ ks ∧ p ∈ W k := by
  unfold edges
  rw [List.mem_flatMap]
  constructor
  · rintro ⟨k', hk, h⟩
    obtain ⟨p', hp, e⟩ := List.mem_map.mp h
    cases e
    exact ⟨hk, hp⟩
  · rintro ⟨hk, hp⟩
    exact ⟨k, hk, List.mem_map_of_mem hp⟩
theorem edges_snoc (W : Pl → List Way) (ks : List Pl) (k : Pl) : edges W (ks ++ [k]) = edges W ks ++ (W k).map fun p => (k, p) := by
  unfold edges
  rw [List.flatMap_append, List.flatMap_cons, List.flatMap_nil, List.append_nil]
theorem edges_le {W : Pl → List Way} : ∀ {ks : List Pl}, (∀ k ∈ ks, (W k).length ≤ 10) → (edges W ks).length ≤ 10 * ks.length
  | [], _ => Nat.le_refl _
  | k :: ks, h => by
    have h1 := h k List.mem_cons_self
    have h2 := edges_le (ks := ks) fun k' hk => h k' (List.mem_cons_of_mem _ hk)
    show ((W k).map (fun p => (k, p)) ++ edges W ks).length ≤ _
    rw [List.length_append, List.length_map, List.length_cons]
    omega
/-- at D, under each place, its own list, at L -/
structure SrcI (P : Program) (w : World) (K : PySem.W.Frag) (H : Hp) (D : Addr) (L : List Addr) (ks : List Pl) (S : Pl → List Pl) : Prop where
  dn : DN P w K H D (ks.zip (L.map V.ref))
  len : L.length = ks.length
  nd : L.Nodup
  off : D ∉ L
  at_ : ∀ (i : Nat) k p, ks[i]? = some k → L[i]? = some p → ∃ xs, H p = some (.lst xs) ∧ Al (fun v x => Nk K H x v) xs (S k)
section
variable {P : Program} {w : World} {K : PySem.W.Frag} {H H' : Hp} {D : Addr} {L : List Addr} {ks : List Pl} {S : Pl → List Pl}
theorem SrcI.keep (h : SrcI P w K H D L ks S) (e : Same H H') : SrcI P w K H' D L ks S := ⟨h.dn.keep e, h.len, h.nd, h.off, fun i k p h1 h2 => let ⟨xs, a, b⟩ := h.at_ i k p h1 h2; ⟨xs, e _ _ a, b.mono fun _ _ h => h.keep e⟩⟩
theorem SrcI.put {q : Addr} {o : HO} (h : SrcI P w K H D L ks S) (n1 : q ∉ L) (n2 : q ≠ D) (nt : NoT H q) : SrcI P w K (upd H q o) D L ks S := ⟨h.dn.tk (Tk.upd nt) (upd_ne n2.symm), h.len, h.nd, h.off, fun i k p h1 h2 => let ⟨xs, a, b⟩ := h.at_ i k p h1 h2;
  ⟨xs, (upd_ne fun e => n1 (by rw [← e]; exact List.mem_of_getElem? h2)).trans a, b.mono fun _ _ h => h.tk (Tk.upd nt)⟩⟩
theorem SrcI.congr {S' : Pl → List Pl} (h : SrcI P w K H D L ks S) (e : ∀ k ∈ ks, S' k = S k) : SrcI P w K H D L ks S' := ⟨h.dn, h.len, h.nd, h.off, fun i k p h1 h2 => by
  rw [e k (List.mem_of_getElem? h1)]
  exact h.at_ i k p h1 h2⟩
theorem zip_fst {α β : Type} : ∀ {xs : List α} {ys : List β}, ys.length = xs.length → (xs.zip ys).map (·.1) = xs
  | [], [], _ => rfl
  | x :: xs, y :: ys, h => by
    show x :: (xs.zip ys).map (·.1) = x :: xs
    rw [zip_fst (Nat.succ.inj h)]
  | [], _ :: _, h => by cases h
  | _ :: _, [], h => by cases h
theorem SrcI.get (h : SrcI P w K H D L ks S) (nd : ks.Nodup) {k : Pl} (hk : k ∈ ks) : ∃ (i : Nat) (p : Addr) (xs : List V), ks[i]? = some k ∧ L[i]? = some p ∧ valN (ks.zip (L.map V.ref)) k = some (.ref p) ∧ H p = some (.lst xs) ∧ Al (fun v x => Nk K H x v) xs (S k) := by
  obtain ⟨i, hi⟩ := List.mem_iff_getElem?.mp hk
  have lt := (List.getElem?_eq_some_iff.mp hi).1
  have hp : L[i]? = some (L[i]'(by rw [h.len]; exact lt)) := List.getElem?_eq_getElem _
  obtain ⟨xs, a, b⟩ := h.at_ i k _ hi hp
  refine ⟨i, _, xs, hi, hp, ?_, a, b⟩
  rw [valN_getA]
  refine getA_of (by rw [zip_fst (by rw [List.length_map]; exact h.len)]; exact nd) (List.mem_of_getElem? (i := i) ?_)
  rw [List.getElem?_zip_eq_some]
  exact ⟨hi, by rw [List.getElem?_map, hp]; rfl⟩
theorem SrcI.app (h : SrcI P w K H D L ks S) (nd : ks.Nodup) {i : Nat} {k x : Pl} {p : Addr} {xs : List V} {v : V} (hi : ks[i]? = some k) (hp : L[i]? = some p) (hx : H p = some (.lst xs)) (al : Al (fun v x => Nk K H x v) xs (S k)) (hv : Nk K H x v) :
    SrcI P w K (upd H p (.lst (xs ++ [v]))) D L ks fun u => if u = k then S u ++ [x] else S u := by
  have nt : NoT H p := NoT.lst hx
  have mp := List.mem_of_getElem? hp
  refine ⟨h.dn.tk (Tk.upd nt) (upd_ne fun e => h.off (by rw [e]; exact mp)), h.len, h.nd, h.off, fun j k' p' h1 h2 => ?_⟩
  by_cases e : j = i
  · subst e
    rw [hi] at h1
    rw [hp] at h2
    cases h1
    cases h2
    rw [if_pos rfl]
    exact ⟨_, upd_same, (al.mono fun _ _ h => h.tk (Tk.upd nt)).snoc (hv.tk (Tk.upd nt))⟩
  · have ne : k' ≠ k := fun z => by
      subst z
      exact e ((List.getElem?_inj (List.getElem?_eq_some_iff.mp h1).1 nd).mp (h1.trans hi.symm))
    have np : p' ≠ p := fun z => by
      subst z
      exact e ((List.getElem?_inj (List.getElem?_eq_some_iff.mp h2).1 h.nd).mp (h2.trans hp.symm))
    rw [if_neg ne]
    obtain ⟨ys, a, b⟩ := h.at_ j k' p' h1 h2
    exact ⟨ys, (upd_ne np).trans a, b.mono fun _ _ h => h.tk (Tk.upd nt)⟩
/-- a dict of keys -/
def UsI (P : Program) (w : World) (K : PySem.W.Frag) (H : Hp) (d : Addr) (us : List Pl) : Prop := ∃ kvs, DN P w K H d kvs ∧ kvs.map (·.1) = us
theorem UsI.tk (t : Tk H H') (e : H' D = H D) {us : List Pl} (h : UsI P w K H D us) : UsI P w K H' D us := let ⟨kvs, a, b⟩ := h; ⟨kvs, a.tk t e, b⟩
theorem UsI.keep (e : Same H H') {us : List Pl} (h : UsI P w K H D us) : UsI P w K H' D us := let ⟨kvs, a, b⟩ := h; ⟨kvs, a.keep e, b⟩
theorem UsI.has {kvs : List (NestedKey × V)} {us : List Pl} (b : kvs.map (·.1) = us) (k : Pl) : (valN kvs k).isSome = decide (k ∈ us) := by rw [valN_getA, getA_isSome, b]
end
theorem walk_keysN {P : Program} {w : World} {d : Addr} {o : Obj} {xs : NRaw} : Walk (ItN P w d o xs) xs.length (fun H => H d = some (DnO P w d o xs)) (fun i H x H' => H' = H ∧ ∃ z, xs[i]? = some z ∧ x = .ref z.2.1) :=
  ⟨fun _ _ hi q => ⟨q, hi⟩, fun _ q => ⟨q, Nat.le_refl _⟩, fun _ _ _ _ _ _ y => y⟩
theorem take_next' {α : Type} {xs : List α} {i : Nat} {x : α} (h : xs[i]? = some x) : xs.take (i + 1) = xs.take i ++ [x] := by rw [List.take_succ, h]; rfl
/-- what is known of a table's key as it is walked -/
theorem TbI.walk {P : Program} {w : World} {K : PySem.W.Frag} {G H : Hp} {d : Addr} {W : Pl → List Way} {ks : List Pl} (h : TbI P w K G H d (pairsOf W ks)) : ∃ o xs kvs, DNo P w K H d o xs kvs ∧ Pr (WsV K G H) kvs (pairsOf W ks) ∧ xs.length = ks.length ∧
    ∀ (i : Nat) z, xs[i]? = some z → ∃ k, ks[i]? = some k ∧ Nk K H k (.ref z.2.1) ∧ k.depth ≤ 8 := by
  obtain ⟨kvs, ⟨o, xs, g⟩, pr⟩ := h
  have l1 := pr.1
  unfold pairsOf at l1
  rw [List.length_map] at l1
  have l2 := g.len
  refine ⟨o, xs, kvs, g, pr, by omega, fun i z hz => ?_⟩
  have lt := (List.getElem?_eq_some_iff.mp hz).1
  have hk : kvs[i]? = some (kvs[i]'(by omega)) := List.getElem?_eq_getElem _
  have hks : ks[i]? = some (ks[i]'(by omega)) := List.getElem?_eq_getElem _
  have hp : (pairsOf W ks)[i]? = some (ks[i]'(by omega), W (ks[i]'(by omega))) := by
    unfold pairsOf
    rw [List.getElem?_map, hks]
    rfl
  obtain ⟨e, _⟩ := pr.2 i _ _ hk hp
  obtain ⟨e1, e2, e3, _⟩ := g.ent i _ z hk hz
  rw [e] at e2 e3
  exact ⟨_, hks, e3, e2⟩
/-- the ways that lead to an end or to one of us -/
def trimB (us : List Pl) (p : Way) : Bool := decide (p.2 = dn) || decide (p.2 ∈ us)
def trimW (W : Pl → List Way) (us : List Pl) (k : Pl) : List Way := (W k).filter (trimB us)
def trimK (ks us : List Pl) : List Pl := ks.filter fun k => decide (k ∈ us)
theorem TbOk.trim {W : Pl → List Way} {ks us : List Pl} (h : TbOk W ks) (hu : ∀ k ∈ us, k ∈ ks) : TbOk (trimW W us) (trimK ks us) := by
  have sub : ∀ k ∈ trimK ks us, k ∈ ks := fun k hk => (List.mem_filter.mp hk).1
  refine ⟨h.nd.filter _, fun k hk => h.pl k (sub k hk), fun k hk p hp => ?_, Nat.le_trans (List.length_filter_le _ _) h.few, fun k hk => Nat.le_trans (List.length_filter_le _ _) (h.ws k (sub k hk))⟩
  have hb := (List.mem_filter.mp hp).2
  unfold trimB at hb
  rw [Bool.or_eq_true, decide_eq_true_iff, decide_eq_true_iff] at hb
  exact hb.imp id fun m => List.mem_filter.mpr ⟨hu _ m, decide_eq_true m⟩
theorem filter_next {α : Type} {f : α → Bool} {xs : List α} {i : Nat} {x : α} (h : xs[i]? = some x) : (xs.take (i + 1)).filter f = (xs.take i).filter f ++ if f x = true then [x] else [] := by
  rw [take_next' h, List.filter_append]
  by_cases e : f x = true
  · rw [if_pos e, List.filter_cons_of_pos e]
    rfl
  · rw [if_neg e, List.filter_cons_of_neg e]
    rfl
end MK
set_option Elab.async false
set_option linter.all false
set_option autoImplicit false
set_option maxRecDepth 100000
set_option maxHeartbeats 4000000
namespace MK
open PySem PySem.Spec PyProof.Rows L2
/-- how many there are, each counted once -/
def dcount : List Int → Nat
  | [] => 0
  | x :: xs => (if x ∈ xs then 0 else 1) + dcount xs
theorem dcount_le : ∀ xs : List Int, dcount xs ≤ xs.length
  | [] => Nat.le_refl _
  | x :: xs => by
    have := dcount_le xs
    show (if x ∈ xs then 0 else 1) + dcount xs ≤ xs.length + 1
    split <;> omega
theorem dcount_snoc (y : Int) : ∀ xs : List Int, dcount (xs ++ [y]) = if y ∈ xs then dcount xs else dcount xs + 1
  | [] => rfl
  | x :: xs => by
    have ih := dcount_snoc y xs
    show (if x ∈ xs ++ [y] then 0 else 1) + dcount (xs ++ [y]) = if y ∈ x :: xs then (if x ∈ xs then 0 else 1) + dcount xs else (if x ∈ xs then 0 else 1) + dcount xs + 1
    rw [ih]
    by_cases e : y = x
    · subst e
      rw [if_pos (List.mem_append_right _ (List.mem_singleton.mpr rfl)), if_pos List.mem_cons_self]
      by_cases m : y ∈ xs
      · rw [if_pos m, if_pos m]
      · rw [if_neg m, if_neg m]
        omega
    · have m1 : x ∈ xs ++ [y] ↔ x ∈ xs := by
        rw [List.mem_append, List.mem_singleton]
        exact ⟨fun h => h.resolve_right fun q => e q.symm, .inl⟩
      have m2 : y ∈ x :: xs ↔ y ∈ xs := by
        rw [List.mem_cons]
        exact ⟨fun h => h.resolve_left e, .inr⟩
      simp only [m1, m2]
      by_cases m : y ∈ xs
      · rw [if_pos m, if_pos m]
      · rw [if_neg m, if_neg m]
        omega
theorem getDI {zs : List Int} {i : Nat} (hi : i < zs.length) : zs.take (i + 1) = zs.take i ++ [zs.getD i 0] := by
  rw [List.take_add_one, List.getElem?_eq_getElem hi, List.getD_eq_getElem?_getD, List.getElem?_eq_getElem hi]
  rfl
theorem dcount_next {zs : List Int} {i : Nat} (hi : i < zs.length) : dcount (zs.take (i + 1)) = if zs.getD i 0 ∈ zs.take i then dcount (zs.take i) else dcount (zs.take i) + 1 := by
  rw [getDI hi, dcount_snoc]
theorem take_nextI {zs : List Int} {i : Nat} (hi : i < zs.length) (y : Int) : decide (y ∈ zs.take (i + 1)) = (decide (y ∈ zs.take i) || decide (y = zs.getD i 0)) := by
  rw [getDI hi, Bool.eq_iff_iff]
  simp
theorem ints_at : ∀ {us : List Value} {xs : List Int}, IntsAre us xs → ∀ (i : Nat) (v : Value), us[i]? = some v → ∃ t, v = .int (xs.getD i 0) t
  | _, _, .nil, i, v, h => by simp at h
  | _, _, .cons n t r, 0, v, h => ⟨t, (Option.some.inj h).symm⟩
  | _, _, .cons n t r, i + 1, v, h => ints_at r i v h
section
variable {prog : Program} {w : World} {A : Around} {R : Result → Shared → Prop} {I S : Addr} {fp wr : List Addr} {G : Array GenState → Array GenState → Prop} {n : Nat} {P : Nat → Value → Prop} {St : Nat → Shared → Prop} {zs : List Int}
theorem all_addedI (W : WalksS prog w A.in1 I fp wr G n P St) (off : S ∉ fp) (len : zs.length = n) (few : n < 1000) (at_ : ∀ i v, P i v → ∃ t, v = .int (zs.getD i 0) t) :
    ∀ (left i : Nat) (s : Shared), i + left = n → St i s → s.heap.SetOf (intKind prog w) S (fun y => decide (y ∈ zs.take i)) (dcount (zs.take i)) →
      (∀ s1, Moved (S :: wr) G s s1 → s1.heap.SetOf (intKind prog w) S (fun y => decide (y ∈ zs)) (dcount zs) → R (.ok (.ret .none)) s1) → codeAny (model prog w) A (.builtin "set.update.loop" ⟨[.ref S, .ref I], []⟩) R s := by
  intro left
  have off2 : S ∉ wr := fun m => off (W.sub _ m)
  induction left with
  | zero =>
    intro i s e st so k
    obtain rfl : i = n := e
    refine codeAny_builtin PyProof.Rows.F.entry_set_update_loop ?_
    rw [Around.under_plainId PyProof.Rows.F.plain_set_update_loop _]
    refine wpAny_bind (W.done s _ _ st fun s1 mv => wpAny_pure (k s1 (mv.mono fun b m => List.mem_cons_of_mem _ m) ?_))
    obtain ⟨o, es, ep, t, g, more⟩ := so
    have so1 : s1.heap.SetOf (intKind prog w) S (fun y => decide (y ∈ zs.take i)) (dcount (zs.take i)) := ⟨o, es, ep, t, mv.heap S _ off2 g, more⟩
    rw [← len, List.take_length] at so1
    exact so1
  | succ left ih =>
    intro i s e st so k
    have lt : i < n := by omega
    have ltz : i < zs.length := by omega
    refine codeAny_builtin PyProof.Rows.F.entry_set_update_loop ?_
    rw [Around.under_plainId PyProof.Rows.F.plain_set_update_loop _]
    refine wpAny_bind (W.item i s _ _ lt st fun v s1 pv st1 mv => ?_)
    obtain ⟨t, rfl⟩ := at_ i v pv
    have so1 : s1.heap.SetOf (intKind prog w) S (fun y => decide (y ∈ zs.take i)) (dcount (zs.take i)) := by
      obtain ⟨o, es, ep, tb, g, more⟩ := so
      exact ⟨o, es, ep, tb, mv.heap S _ off2 g, more⟩
    refine wpAny_bind (wpAny_holding ?_)
    unfold setAdd
    refine wpAny_holding (wpAny_bind ((intKind prog w).pyHash (k := zs.getD i 0) (intKind_is _ _ _ _) ?_))
    refine wpAny_setAddHashed_of (knd := intKind prog w) (s := { s1 with toks := s1.toks + 1 }) (intKind_is _ _ _ _) rfl so1 (by have := dcount_le (zs.take i); rw [List.length_take] at this; unfold scanBound; omega) fun h2 only so2 => ?_
    have so3 : h2.SetOf (intKind prog w) S (fun y => decide (y ∈ zs.take (i + 1))) (dcount (zs.take (i + 1))) := by
      refine SetOf_congr so2 (fun y => (take_nextI ltz y).symm) ?_
      rw [dcount_next ltz]
      by_cases q : zs.getD i 0 ∈ zs.take i
      · rw [if_pos q, decide_eq_true q]
        rfl
      · rw [if_neg q, decide_eq_false q]
        rfl
    have keep : ∀ b, b ≠ S → ∀ o, s1.heap.get? b = some o → h2.get? b = some o := fun b ne o g => by
      rw [only.2 b ne]
      exact g
    refine wpAny_pure ⟨plainId_quiet PyProof.Rows.F.plain_set_update_loop _, ih (i + 1) _ (by omega) (W.frame _ s1 _ _ st1 (Nat.le_succ _) fun b m o g => keep b (fun q => off (q ▸ m)) o g) so3 fun s3 mv3 so4 => ?_⟩
    exact k s3 (Moved.trans W.gtrans ((mv.mono fun b m => List.mem_cons_of_mem _ m).then_heap (Nat.le_succ _) fun b o m g => keep b (fun q => m (by rw [q]; exact List.mem_cons_self)) o g) mv3) so4
end
section
variable {prog : Program} {w : World} {A : Around} {E : Value → Shared → Prop} {s : Shared} {l : Addr} {its : Array Value} {zs : List Int}
/-- what set(texts) leaves -/
def LaidI (prog : Program) (w : World) (s : Shared) (zs : List Int) (h : Heap) : Prop := h.SetOf (intKind prog w) s.heap.objs.size (fun y => decide (y ∈ zs)) (dcount zs) ∧ ∀ b o, b < s.heap.objs.size → s.heap.get? b = some o → h.get? b = some o
theorem set_ints {Q : Value → Shared → Prop} (calm : A.handled = none) (hl : s.heap.IsList l its) (hz : IntsAre its.toList zs) (few : zs.length < 1000)
    (k : ∀ (h : Heap) (tk : Nat), LaidI prog w s zs h → Q (.ref s.heap.objs.size) { s with heap := h, toks := tk }) : wpAny (model prog w) A (call (.type "set") [.ref l]) Q E s := by
  obtain ⟨c, tl, hmro⟩ := PySem.F.called_set.mro
  have m1 := PySem.F.called_set.made
  have m2 := PySem.F.called_set.sub
  refine wpAny_call (codeAny_of_tree (show wpAny _ _ (callAny (.type "set") _) _ _ _ from ?_))
  refine wpAny_pure ⟨Code.quiet_builtin _ (by decide +kernel), codeAny_builtin PySem.F.entry_type_call ?_⟩
  rw [Around.under_plain (weight_type_call_type "set" [.ref l] []) rfl]
  have m3 := PySem.F.called_set.notType
  have m4 := PySem.F.called_set.canCreate
  have m5 := PySem.F.typeCall_set_1 (.ref l)
  repeat (any_goals (first | assumption | wp_step))
  refine codeAny_mono (code_set_new_1 (.ref l) (E := E) (Q₁ := fun v s1 => ∃ led : Bool, v = .ref s.heap.objs.size ∧ s1 = newS s led) fun led => ⟨led, rfl, rfl⟩) fun r s1 hr => ?_
  cases r with
  | error e => exact hr
  | ok fl =>
    cases fl with
    | next => exact hr.elim
    | brk => exact hr.elim
    | cont => exact hr.elim
    | ret v =>
      obtain ⟨led, rfl, rfl⟩ := hr
      have at0 : (s.heap.push (set0 led)).get? s.heap.objs.size = some (set0 led) := Heap.get?_push_size _ rfl
      have ty0 : Shared.TypeIs (newS s led) (.ref s.heap.objs.size) "set" := ⟨_, at0, rfl⟩
      have m6 := PySem.F.called_set.init.lookup
      have m7 := PySem.F.called_set.init.bind (.ref s.heap.objs.size)
      unfold newS at ty0 ⊢
      repeat (any_goals (first | assumption | wp_step))
      refine codeAny_mono (codeAny_call_builtin (R := wants (fun v s2 => v = .none ∧ ∃ h tk, s2 = { s with heap := h, toks := tk } ∧ LaidI prog w s zs h) E) PySem.F.called_set.init.plain PySem.F.entry_set_init (check_set_init_1 ty0 ?_)) fun r2 s2 h2 => ?_
      · obtain ⟨⟨cl, di, da, sl⟩, g, rfl, nl, rfl⟩ := hl
        have g0 : (s.heap.push (set0 led)).get? l = some { cls := .type "list", dict := di, data := .seq its nl, slots := sl } := Heap.get?_push_of_some _ g
        have n1 := PySem.F.sub_list_set
        have n2 := PySem.F.sub_list_frozenset
        have n3 : (Value.type "list" == Value.type "dict") = false := by decide
        have l0 : (s.heap.push (set0 led)).IsList l its := ⟨_, g0, rfl, nl, rfl⟩
        unfold Builtin.«set.__init__» noKeywords Builtin.Frozenset.updateFrom
        generalize hit : pyIter = it
        wp_walk
        subst hit
        refine wpAny_pyIter_list l0 (wpAny_bind (wpAny_runValue ?_))
        have below : l < s.heap.objs.size := Heap.lt_size g
        have sz : (s.heap.push (set0 led)).objs.size = s.heap.objs.size + 1 := Heap.size_push ..
        have d1 : l ≠ (s.heap.push (set0 led)).objs.size := Nat.ne_of_lt (by rw [sz]; exact Nat.lt_succ_of_lt below)
        have d2 : s.heap.objs.size ∉ [(s.heap.push (set0 led)).objs.size, l] := by
          rw [sz]
          intro m
          rcases List.mem_cons.mp m with e | m
          · omega
          · exact absurd (List.mem_singleton.mp m) (Nat.ne_of_gt below)
        have lz : zs.length = its.size := by rw [← IntsAre.length hz, Array.length_toList]
        refine all_addedI (S := s.heap.objs.size) ((Walks.list (by simp [calm]) _ l d1 its).toS) d2 lz (by omega) (fun i v e => ints_at hz i v (by rw [Array.getElem?_toList]; exact e)) its.size 0 _ (Nat.zero_add _)
          ⟨⟨_, Heap.get?_push_size _ rfl, rfl, rfl⟩, l0.push _⟩ ?_ ?_
        · have g1 := Heap.get?_push_of_some { cls := .type "list_iterator", data := .fields #[.ref l, .int 0 0] } at0
          exact SetOf_congr ((setObjOf_fresh (knd := intKind prog w) led).setOf g1 (by unfold scanBound; omega)) (fun _ => rfl) rfl
        · rintro ⟨h, g', d', tk, os'⟩ mv so
          obtain rfl : g' = s.gens := mv.gens
          obtain rfl : d' = s.drawn := mv.drawn
          obtain rfl : os' = s.os := mv.os
          refine wpAny_pure (wpAny_pure ⟨rfl, h, tk, rfl, so, fun b o lt e => ?_⟩)
          refine mv.heap b o (fun m => ?_) (Heap.get?_push_of_some _ (Heap.get?_push_of_some _ e))
          rcases List.mem_cons.mp m with q | m
          · exact Nat.ne_of_lt lt q
          · rcases List.mem_cons.mp m with q | m
            · rw [sz] at q
              exact Nat.ne_of_lt (Nat.lt_succ_of_lt lt) q
            · cases m
      · cases r2 with
        | error e => exact h2
        | ok fl =>
          cases fl with
          | next => exact h2.elim
          | brk => exact h2.elim
          | cont => exact h2.elim
          | ret v =>
            obtain ⟨rfl, h, tk, rfl, laid⟩ := h2
            repeat (any_goals (first | assumption | wp_step))
            exact k h _ laid
end
/-- len(set(xs)), xs a list of numbers -/
def tLenSI (K : PySem.W.Frag) (ta : TE) : TE := fun σ H Q => ta σ H fun x H1 => ∃ (l : Addr) (zs : List Int), x = .ref l ∧ SqL K H1 l (zs.map V.int) ∧ zs.length < 1000 ∧ Q (.int (dcount zs)) H1
theorem pe_lenSI {X : Cx} {a : Expr} {ta : TE} {p p2 q pos : Pos} (hc : X.calm = true) (hg : Gl X "len") (hm : X.mg "len" = none) (hg2 : Gl X "set") (hm2 : X.mg "set" = none) (ha : PE X a ta)
    (na : starEach [a] X.env = (false, eval a X.env) :: starEach [] X.env := by rfl) : PE X (.Call (.Name "len" p) [.Call (.Name "set" p2) [a] [] q] [] pos) (tLenSI X.K ta) := by
  refine ⟨fun pins s σ H Q I h => Call_ (ld_blt I hg hm boot_len (callWith_builtin1 (args_cons (Call_ (ld_blt I hg2 hm2 boot_set ?_)) rfl) rfl rfl))⟩
  refine callWith_type1 (args_cons (thn (ha.run pins s σ H _ I h) fun v s1 ⟨x, H1, I1, r1, l, zs, e, sq, few, q⟩ => args_nil ?_) na) na rfl
  subst e
  cases r1
  have fin : ∀ (h : Heap) (tk : Nat), LaidI X.prog X.w s1 zs h → wpAny (model X.prog X.w) X.A (spliced (backTo pos (starEach [] X.env)))
      (fun vs s2 => wpAny (model X.prog X.w) X.A (call (.builtin "len") (Value.ref s1.heap.objs.size :: vs)) (EP X pins σ Q) X.xe s2) X.xe { s1 with heap := h, toks := tk } := fun h tk ⟨so, kp⟩ => by
    obtain ⟨o, es, ep, t, g, ex, hd, _, _, _, fits, cnt⟩ := so
    have I2 : Inv X pins σ H1 { s1 with heap := h, toks := tk } := I1.kept fun b o e => kp b o (Heap.lt_size e) e
    exact args_nil (call_len_set g ex hd fits (by have := dcount_le zs; rw [cnt] <;> omega) ⟨.int (dcount zs), H1, I2.tok _, ⟨_, by rw [cnt]⟩, q⟩)
  obtain ⟨us, r, pl, _⟩ := I1.list sq
  exact set_ints (I1.ok.hd hc) pl.isList (by simpa using intsAre_of r) few fin
end MK
set_option Elab.async false
set_option linter.all false
set_option autoImplicit false
set_option maxRecDepth 100000
set_option maxHeartbeats 2000000
namespace MK
open PySem PySem.Spec PyProof.Rows L2
theorem call_lenN {X : Cx} {P : Program} {w : World} {K : PySem.W.Frag} (hP : X.prog = P) (hw : X.w = w) (hK : X.K = K) : CallR X (.builtin "len") (fun xs H Q => ∃ d kvs, xs = [V.ref d] ∧ DN P w K H d kvs ∧ Q (.int kvs.length) H) := by
  subst hP hw hK
  intro pins s σ H vs us Q I r ⟨d, kvs, e, ⟨o, xs, g⟩, q⟩
  subst e
  obtain ⟨u, rfl, rx⟩ := r.one
  obtain rfl : u = Value.ref d := rx
  obtain ⟨hgd, hs, hx, hz, es, ep, hdt, hsz, ent⟩ := DNo.raw I g.at_
  have le : es.size = kvs.length := by rw [hsz, g.len]
  have hl := line63
  have hb : sizeLine = 16777216 := sizeLine_eq
  refine Calls.call_function_entry kind_len plain_len entry_len (args_len1 _) ?_
  unfold Builtin.«len»
  refine wpAny_bind (m := oneArg "len" _) (wpAny_pure ?_)
  refine wpAny_bind (m := callSpecial? (.ref d) (Str.ofString "__len__")) (wpAny_callSpecial?_slot (name := Str.ofString "__len__") ⟨o, hgd, hx.1⟩ F.slot_dict_len (call_len_raw hs ⟨o, hgd, hx, hdt⟩ ?_))
  refine wpAny_bind (wpAny_holding (wpAny_pure ?_))
  refine wpAny_bind (wpAny_letGo ?_)
  show wpAny _ _ (if ((es.size : Nat) : Int) < 0 then _ else _) _ _ _
  rw [if_neg (by omega)]
  show wpAny _ _ (if ((es.size : Nat) : Int) ≥ 2 ^ 63 then _ else _) _ _ _
  rw [if_neg (by omega)]
  refine wpAny_bind (wpAny_mkInt (wpAny_pure ⟨_, rfl, .int kvs.length, H, I.tok _, ⟨_, by rw [le]⟩, q⟩))
def dd (xs : List NestedKey) : List NestedKey := xs.foldl (fun a x => if x ∈ a then a else a ++ [x]) []
theorem dd_snoc (xs : List NestedKey) (x : NestedKey) : dd (xs ++ [x]) = if x ∈ dd xs then dd xs else dd xs ++ [x] := by
  unfold dd
  rw [List.foldl_append]
  rfl
theorem dd_take {xs : List NestedKey} {i : Nat} {x : NestedKey} (h : xs[i]? = some x) : dd (xs.take (i + 1)) = if x ∈ dd (xs.take i) then dd (xs.take i) else dd (xs.take i) ++ [x] := by
  rw [take_next' h, dd_snoc]
theorem dd_pre (xs : List NestedKey) : ∀ ys : List NestedKey, ∃ zs, dd (xs ++ ys) = dd xs ++ zs := by
  intro ys
  induction ys generalizing xs with
  | nil => exact ⟨[], by rw [List.append_nil, List.append_nil]⟩
  | cons y ys ih =>
    obtain ⟨zs, e⟩ := ih (xs ++ [y])
    rw [List.append_assoc] at e
    rw [show xs ++ y :: ys = xs ++ ([y] ++ ys) from rfl, e, dd_snoc]
    split
    · exact ⟨zs, rfl⟩
    · exact ⟨y :: zs, by rw [List.append_assoc]; rfl⟩
theorem mem_dd {x : NestedKey} : ∀ {xs : List NestedKey}, x ∈ xs → x ∈ dd xs := by
  intro xs m
  obtain ⟨a, b, rfl⟩ := List.append_of_mem m
  obtain ⟨zs, e⟩ := dd_pre (a ++ [x]) b
  rw [show a ++ x :: b = (a ++ [x]) ++ b by rw [List.append_assoc]; rfl, e, dd_snoc]
  split
  · exact List.mem_append_left _ (by assumption)
  · exact List.mem_append_left _ (List.mem_append_right _ (List.mem_singleton.mpr rfl))
theorem dd_len (xs : List NestedKey) : (dd xs).length ≤ xs.length := by
  have : ∀ n, n ≤ xs.length → (dd (xs.take n)).length ≤ n := by
    intro n
    induction n with
    | zero => exact fun _ => Nat.le_refl _
    | succ n ih =>
      intro h
      have h1 := ih (by omega)
      have hx : xs[n]? = some (xs[n]'(by omega)) := List.getElem?_eq_getElem _
      rw [dd_take hx]
      split
      · omega
      · rw [List.length_append, List.length_singleton]
        omega
  have h := this xs.length (Nat.le_refl _)
  rwa [List.take_length] at h
theorem dd_idx {xs : List NestedKey} {x : NestedKey} {i : Nat} (m : x ∈ dd (xs.take i)) : (dd (xs.take i)).idxOf x = (dd xs).idxOf x := by
  obtain ⟨zs, e⟩ := dd_pre (xs.take i) (xs.drop i)
  rw [List.take_append_drop] at e
  rw [e, List.idxOf_append, if_pos m]
theorem idx_inj {xs : List NestedKey} {x y : NestedKey} (hx : x ∈ xs) (hy : y ∈ xs) (e : xs.idxOf x = xs.idxOf y) : x = y := by
  have h1 := List.getElem_idxOf (List.idxOf_lt_length_of_mem hx)
  have h2 := List.getElem_idxOf (List.idxOf_lt_length_of_mem hy)
  rw [← h1, ← h2]
  congr 1
/-- what a way is worth, by the classes so far -/
def sigW (c : Pl → Nat) (p : Way) : NestedKey := .tup [.text p.1, .num (if p.2 = dn then -1 else (c p.2 : Int))]
def sig (W : Pl → List Way) (c : Pl → Nat) (k : Pl) : NestedKey := .tup [.num (c k : Int), .tup ((W k).map (sigW c))]
def refine' (W : Pl → List Way) (ks : List Pl) (c : Pl → Nat) (k : Pl) : Nat := (dd (ks.map (sig W c))).idxOf (sig W c k)
def noc (ks : List Pl) (c : Pl → Nat) : Nat := dcount (ks.map fun k => (c k : Int))
theorem noc_le (ks : List Pl) (c : Pl → Nat) : noc ks c ≤ ks.length := by
  have := dcount_le (ks.map fun k => (c k : Int))
  rwa [List.length_map] at this
theorem refine_sig {W : Pl → List Way} {ks : List Pl} {c : Pl → Nat} {k k' : Pl} (hk : k ∈ ks) (hk' : k' ∈ ks) (e : refine' W ks c k = refine' W ks c k') : sig W c k = sig W c k' :=
  idx_inj (mem_dd (List.mem_map_of_mem hk)) (mem_dd (List.mem_map_of_mem hk')) e
theorem sig_class {W : Pl → List Way} {c : Pl → Nat} {k k' : Pl} (e : sig W c k = sig W c k') : c k = c k' := by
  unfold sig at e
  injection e with e
  injection e with e1 e2
  injection e1 with e1
  exact Int.ofNat.inj e1
/-- as many behind as ahead: nothing was parted -/
theorem dcount_map {α : Type} (f g : α → Int) (L : List α) (h : ∀ a ∈ L, ∀ b ∈ L, f a = f b → g a = g b) : dcount (L.map g) ≤ dcount (L.map f) ∧ (dcount (L.map f) ≤ dcount (L.map g) → ∀ a ∈ L, ∀ b ∈ L, g a = g b → f a = f b) := by
  induction L with
  | nil => exact ⟨Nat.le_refl _, fun _ a ha => by cases ha⟩
  | cons x L ih =>
    obtain ⟨i1, i2⟩ := ih fun a ha b hb => h a (List.mem_cons_of_mem _ ha) b (List.mem_cons_of_mem _ hb)
    show (if g x ∈ L.map g then 0 else 1) + dcount (L.map g) ≤ (if f x ∈ L.map f then 0 else 1) + dcount (L.map f) ∧ ((if f x ∈ L.map f then 0 else 1) + dcount (L.map f) ≤ (if g x ∈ L.map g then 0 else 1) + dcount (L.map g) → _)
    by_cases m : f x ∈ L.map f
    · obtain ⟨y, hy, e⟩ := List.mem_map.mp m
      have mg : g x ∈ L.map g := List.mem_map.mpr ⟨y, hy, h y (List.mem_cons_of_mem _ hy) x List.mem_cons_self e⟩
      rw [if_pos m, if_pos mg]
      refine ⟨by omega, fun le a ha b hb q => ?_⟩
      have inj := i2 (by omega)
      have gy : g y = g x := h y (List.mem_cons_of_mem _ hy) x List.mem_cons_self e
      have rep : ∀ a ∈ x :: L, ∃ a' ∈ L, f a = f a' ∧ g a = g a' := fun a ha => (List.mem_cons.mp ha).elim (fun z => ⟨y, hy, by rw [z, e], by rw [z, gy]⟩) fun z => ⟨a, z, rfl, rfl⟩
      obtain ⟨a', ha', fa, ga⟩ := rep a ha
      obtain ⟨b', hb', fb, gb⟩ := rep b hb
      rw [fa, fb]
      exact inj a' ha' b' hb' (by rw [← ga, ← gb, q])
    · rw [if_neg m]
      by_cases mg : g x ∈ L.map g
      · rw [if_pos mg]
        exact ⟨by omega, fun le => by omega⟩
      · rw [if_neg mg]
        refine ⟨by omega, fun le a ha b hb q => ?_⟩
        have inj := i2 (by omega)
        rcases List.mem_cons.mp ha with e1 | ha1 <;> rcases List.mem_cons.mp hb with e2 | hb1
        · rw [e1, e2]
        · exact absurd (List.mem_map.mpr ⟨b, hb1, by rw [← q, e1]⟩) mg
        · exact absurd (List.mem_map.mpr ⟨a, ha1, by rw [q, e2]⟩) mg
        · exact inj a ha1 b hb1 q
/-- classes that a round doesn't part -/
def Stable (W : Pl → List Way) (ks : List Pl) (c : Pl → Nat) : Prop := ∀ k ∈ ks, ∀ k' ∈ ks, c k = c k' → sig W c k = sig W c k'
/-- what no round may part is in one class -/
def Pres (W : Pl → List Way) (ks : List Pl) (R : Pl → Pl → Prop) : Prop := ∀ c : Pl → Nat, (∀ k ∈ ks, ∀ k' ∈ ks, R k k' → c k = c k') → ∀ k ∈ ks, ∀ k' ∈ ks, R k k' → sig W c k = sig W c k'
def Coarse (W : Pl → List Way) (ks : List Pl) (c : Pl → Nat) : Prop := ∀ R, Pres W ks R → ∀ k ∈ ks, ∀ k' ∈ ks, R k k' → c k = c k'
theorem Coarse.zero (W : Pl → List Way) (ks : List Pl) : Coarse W ks fun _ => 0 := fun _ _ _ _ _ _ _ => rfl
theorem Coarse.next {W : Pl → List Way} {ks : List Pl} {c : Pl → Nat} (h : Coarse W ks c) : Coarse W ks (refine' W ks c) := fun R p k hk k' hk' r => by
  unfold refine'
  rw [p c (h R p) k hk k' hk' r]
theorem sig_mono {W : Pl → List Way} {ks : List Pl} {c c' : Pl → Nat} (cl : ∀ k ∈ ks, ∀ p ∈ W k, p.2 = dn ∨ p.2 ∈ ks) (h : ∀ k ∈ ks, ∀ k' ∈ ks, c k = c k' → c' k = c' k') {k k' : Pl} (hk : k ∈ ks) (hk' : k' ∈ ks) (e : sig W c k = sig W c k') : sig W c' k = sig W c' k' := by
  have e0 := h k hk k' hk' (sig_class e)
  unfold sig at e ⊢
  injection e with e
  injection e with _ e
  injection e with e _
  injection e with e
  have e1 : (W k).map (sigW c') = (W k').map (sigW c') := by
    apply List.ext_getElem?
    intro i
    have ei : ((W k).map (sigW c))[i]? = ((W k').map (sigW c))[i]? := by rw [e]
    rw [List.getElem?_map, List.getElem?_map] at ei ⊢
    cases h1 : (W k)[i]? with
    | none =>
      rw [h1] at ei
      cases h2 : (W k')[i]? with
      | none => rfl
      | some q =>
        rw [h2] at ei
        cases ei
    | some p =>
      rw [h1] at ei
      cases h2 : (W k')[i]? with
      | none =>
        rw [h2] at ei
        cases ei
      | some q =>
        rw [h2] at ei
        have ew : sigW c p = sigW c q := Option.some.inj ei
        show some (sigW c' p) = some (sigW c' q)
        unfold sigW at ew ⊢
        injection ew with ew
        injection ew with a1 ew
        injection a1 with a1
        injection ew with a2 _
        injection a2 with a2
        have cp := cl k hk p (List.mem_of_getElem? h1)
        have cq := cl k' hk' q (List.mem_of_getElem? h2)
        by_cases z1 : p.2 = dn
        · by_cases z2 : q.2 = dn
          · rw [a1, if_pos z1, if_pos z2]
          · rw [if_pos z1, if_neg z2] at a2
            omega
        · by_cases z2 : q.2 = dn
          · rw [if_neg z1, if_pos z2] at a2
            omega
          · rw [if_neg z1, if_neg z2] at a2
            rw [a1, if_neg z1, if_neg z2, h p.2 (cp.resolve_left z1) q.2 (cq.resolve_left z2) (by omega)]
  rw [e0, e1]
theorem Stable.of {W : Pl → List Way} {ks : List Pl} {c : Pl → Nat} (cl : ∀ k ∈ ks, ∀ p ∈ W k, p.2 = dn ∨ p.2 ∈ ks) (h : noc ks (refine' W ks c) ≤ noc ks c) : Stable W ks (refine' W ks c) := by
  have r1 : ∀ k ∈ ks, ∀ k' ∈ ks, refine' W ks c k = refine' W ks c k' → c k = c k' := fun k hk k' hk' e => sig_class (refine_sig hk hk' e)
  have r2 := (dcount_map (fun k => (refine' W ks c k : Int)) (fun k => (c k : Int)) ks fun a ha b hb e => by rw [r1 a ha b hb (Int.ofNat.inj e)]).2 h
  exact fun k hk k' hk' e => sig_mono cl (fun a ha b hb q => Int.ofNat.inj (r2 a ha b hb (by show (c a : Int) = c b; rw [q]))) hk hk' (refine_sig hk hk' e)
theorem dcount_pos : ∀ {xs : List Int}, xs ≠ [] → 0 < dcount xs
  | [], h => absurd rfl h
  | [x], _ => Nat.lt_succ_self 0
  | x :: y :: xs, _ => by
    have := dcount_pos (xs := y :: xs) (List.cons_ne_nil _ _)
    show 0 < _ + dcount (y :: xs)
    omega
theorem refine_lt {W : Pl → List Way} {ks : List Pl} {c : Pl → Nat} {k : Pl} (hk : k ∈ ks) : refine' W ks c k < ks.length := by
  have h1 := List.idxOf_lt_length_of_mem (mem_dd (List.mem_map_of_mem (f := sig W c) hk))
  have h2 := dd_len (ks.map (sig W c))
  rw [List.length_map] at h2
  exact Nat.lt_of_lt_of_le h1 h2
def numF (ss : List NestedKey) (n : Nat) : List (NestedKey × V) := (ss.zipIdx n).map fun p => (p.1, V.int (p.2 : Nat))
def numL (ss : List NestedKey) : List (NestedKey × V) := numF ss 0
theorem numF_get {s : NestedKey} : ∀ (ss : List NestedKey) (n : Nat), getA (numF ss n) s = if s ∈ ss then some (.int (n + ss.idxOf s : Nat)) else none
  | [], n => rfl
  | x :: ss, n => by
    show getA ((x, V.int (n : Nat)) :: numF ss (n + 1)) s = _
    rw [getA_cons, numF_get ss (n + 1)]
    by_cases e : x = s
    · rw [if_pos e, if_pos (e ▸ List.mem_cons_self), List.idxOf_cons, e, beq_self_eq_true]
      rfl
    · rw [if_neg e]
      have b : (x == s) = false := by simpa using e
      by_cases m : s ∈ ss
      · rw [if_pos m, if_pos (List.mem_cons_of_mem _ m), List.idxOf_cons, b]
        show some (V.int ((n + 1 + ss.idxOf s : Nat) : Int)) = some (V.int ((n + (ss.idxOf s + 1) : Nat) : Int))
        congr 2
        omega
      · rw [if_neg m, if_neg fun h => (List.mem_cons.mp h).elim (fun q => e q.symm) m]
theorem numL_get (ss : List NestedKey) (s : NestedKey) : valN (numL ss) s = if s ∈ ss then some (.int (ss.idxOf s : Nat)) else none := by
  rw [valN_getA]
  unfold numL
  rw [numF_get, Nat.zero_add]
theorem numL_len (ss : List NestedKey) : (numL ss).length = ss.length := by
  unfold numL numF
  rw [List.length_map, List.length_zipIdx]
theorem numL_put {ss : List NestedKey} {s : NestedKey} (h : s ∉ ss) : putN (numL ss) s (.int (ss.length : Nat)) = numL (ss ++ [s]) := by
  rw [putN_putA]
  unfold putA
  have e : getA (numL ss) s = none := by
    have := numL_get ss s
    rw [if_neg h, valN_getA] at this
    exact this
  rw [e]
  unfold numL numF
  rw [List.zipIdx_append, List.map_append, Nat.zero_add]
  rfl
def clL (ks : List Pl) (c : Pl → Nat) : List (NestedKey × V) := ks.map fun k => (k, V.int (c k : Nat))
theorem clL_get {ks : List Pl} {c : Pl → Nat} {k : Pl} (h : k ∈ ks) : valN (clL ks c) k = some (.int (c k : Nat)) := by
  rw [valN_getA]
  induction ks with
  | nil => cases h
  | cons a ks ih =>
    show getA ((a, V.int (c a : Nat)) :: clL ks c) k = _
    rw [getA_cons]
    by_cases e : a = k
    · rw [if_pos e, e]
    · rw [if_neg e]
      exact ih ((List.mem_cons.mp h).resolve_left fun q => e q.symm)
theorem clL_put {ks : List Pl} {c : Pl → Nat} {k : Pl} (h : k ∉ ks) : putN (clL ks c) k (.int (c k : Nat)) = clL (ks ++ [k]) c := by
  rw [putN_putA, putA_new]
  · unfold clL
    rw [List.map_append]
    rfl
  · unfold clL
    rw [List.map_map]
    exact fun m => h (by simpa using m)
theorem clL_len (ks : List Pl) (c : Pl → Nat) : (clL ks c).length = ks.length := by
  unfold clL
  rw [List.length_map]
theorem take_nin {ks : List Pl} (nd : ks.Nodup) {i : Nat} {k : Pl} (h : ks[i]? = some k) : k ∉ ks.take i := fun m => by
  obtain ⟨j, hj⟩ := List.mem_iff_getElem?.mp m
  rw [List.getElem?_take] at hj
  split at hj
  · rename_i lt
    exact Nat.lt_irrefl i ((List.getElem?_inj (List.getElem?_eq_some_iff.mp hj).1 nd).mp (hj.trans h.symm) ▸ lt)
  · cases hj
theorem depth_allN {α : Type} {f : α → NestedKey} {n : Nat} : ∀ {xs : List α}, (∀ x ∈ xs, (f x).depth ≤ n) → NestedKey.depthAll (xs.map f) ≤ n
  | [], _ => Nat.zero_le _
  | x :: xs, h => by
    show NestedKey.depthAll (f x :: xs.map f) ≤ n
    have h1 := h x List.mem_cons_self
    have h2 := depth_allN (f := f) (n := n) (xs := xs) fun y hy => h y (List.mem_cons_of_mem _ hy)
    simp only [NestedKey.depthAll]
    omega
theorem sig_depth (W : Pl → List Way) (c : Pl → Nat) (k : Pl) : (sig W c k).depth ≤ 8 := by
  have h := depth_allN (f := sigW c) (n := 2) (xs := W k) fun p _ => by
    unfold sigW
    simp [NestedKey.depth, NestedKey.depthAll]
  unfold sig
  simp only [NestedKey.depth, NestedKey.depthAll]
  omega
end MK
set_option Elab.async false
set_option linter.all false
set_option autoImplicit false
set_option maxRecDepth 100000
set_option maxHeartbeats 2000000
namespace MK
open PySem PySem.Spec PyProof.Rows L2
def numDKF (cs : List Int) (n : Nat) : List (L2.Key × V) := (cs.zipIdx n).map fun p => (Sum.inl p.1, V.int (p.2 : Nat))
def numDK (cs : List Int) : List (L2.Key × V) := numDKF cs 0
theorem valV_cons {κ : Type} [DecidableEq κ] (p : κ × V) (ks : List (κ × V)) (k : κ) : valV (p :: ks) k = if p.1 = k then some p.2 else valV ks k := by
  unfold valV
  by_cases e : p.1 = k
  · rw [List.find?_cons_of_pos (by exact decide_eq_true e), if_pos e]
    rfl
  · rw [List.find?_cons_of_neg (by simpa using e), if_neg e]
theorem numDKF_get {x : Int} : ∀ (cs : List Int) (n : Nat), valV (numDKF cs n) (.inl x) = if x ∈ cs then some (.int (n + cs.idxOf x : Nat)) else none
  | [], n => rfl
  | c :: cs, n => by
    show valV ((Sum.inl c, V.int (n : Nat)) :: numDKF cs (n + 1)) (.inl x) = _
    rw [valV_cons, numDKF_get cs (n + 1)]
    by_cases e : c = x
    · rw [if_pos (congrArg Sum.inl e), if_pos (e ▸ List.mem_cons_self), List.idxOf_cons, e, beq_self_eq_true]
      rfl
    · rw [if_neg fun q => e (Sum.inl.inj q)]
      have b : (c == x) = false := by simpa using e
      by_cases m : x ∈ cs
      · rw [if_pos m, if_pos (List.mem_cons_of_mem _ m), List.idxOf_cons, b]
        show some (V.int ((n + 1 + cs.idxOf x : Nat) : Int)) = some (V.int ((n + (cs.idxOf x + 1) : Nat) : Int))
        congr 2
        omega
      · rw [if_neg m, if_neg fun h => (List.mem_cons.mp h).elim (fun q => e q.symm) m]
theorem numDK_get (cs : List Int) (x : Int) : valV (numDK cs) (.inl x) = if x ∈ cs then some (.int (cs.idxOf x : Nat)) else none := by
  unfold numDK
  rw [numDKF_get, Nat.zero_add]
theorem numDK_len (cs : List Int) : (numDK cs).length = cs.length := by
  unfold numDK numDKF
  rw [List.length_map, List.length_zipIdx]
theorem numDK_put {cs : List Int} {x : Int} (h : x ∉ cs) : putK (numDK cs) (.inl x) (.int (cs.length : Nat)) = numDK (cs ++ [x]) := by
  have e := numDK_get cs x
  rw [if_neg h] at e
  have a : ((numDK cs).any fun kv => decide (kv.1 = Sum.inl x)) = false := by
    rw [valV_any, e]
    rfl
  unfold putK
  rw [a]
  unfold numDK numDKF
  rw [List.zipIdx_append, List.map_append, Nat.zero_add]
  rfl
theorem NoT.dk {H : Hp} {d : Addr} {kvs : List (L2.Key × V)} (h : H d = some (.dK kvs)) : NoT H d := fun ys r => by
  rcases r with r | ⟨o, r⟩ <;> rw [h] at r <;> cases r
/-- a place that is named, if its class has no number yet -/
def addW (c : Pl → Nat) (pls : List Pl) (p : Way) : List Pl := if p.2 = dn ∨ (c p.2 : Int) ∈ pls.map (fun k => (c k : Int)) then pls else pls ++ [p.2]
def grow (W : Pl → List Way) (c : Pl → Nat) (st : Pl) : Nat → List Pl
  | 0 => [st]
  | i + 1 => match (grow W c st i)[i]? with
    | some k => (W k).foldl (addW c) (grow W c st i)
    | none => grow W c st i
def numOf (c : Pl → Nat) (pls : List Pl) (p : Way) : Str × Int := (p.1, if p.2 = dn then -1 else ((pls.map fun k => (c k : Int)).idxOf (c p.2 : Int) : Nat))
def rowOf (W : Pl → List Way) (c : Pl → Nat) (pls : List Pl) (k : Pl) : List (Str × Int) := (W k).map (numOf c pls)
/-- the way has its number -/
def Has (c : Pl → Nat) (pls : List Pl) (p : Way) : Prop := p.2 = dn ∨ (c p.2 : Int) ∈ pls.map fun k => (c k : Int)
section
variable {W : Pl → List Way} {c : Pl → Nat} {pls : List Pl} {p : Way}
theorem addW_pre (c : Pl → Nat) (pls : List Pl) (p : Way) : ∃ zs, addW c pls p = pls ++ zs := by
  unfold addW
  split
  · exact ⟨[], (List.append_nil _).symm⟩
  · exact ⟨_, rfl⟩
theorem fold_pre (c : Pl → Nat) : ∀ (ws : List Way) (pls : List Pl), ∃ zs, ws.foldl (addW c) pls = pls ++ zs
  | [], pls => ⟨[], (List.append_nil _).symm⟩
  | p :: ws, pls => by
    obtain ⟨a, ea⟩ := addW_pre c pls p
    obtain ⟨b, eb⟩ := fold_pre c ws (addW c pls p)
    exact ⟨a ++ b, by show ws.foldl (addW c) (addW c pls p) = _; rw [eb, ea, List.append_assoc]⟩
theorem addW_has : Has c (addW c pls p) p := by
  unfold addW Has
  by_cases h : p.2 = dn ∨ (c p.2 : Int) ∈ pls.map (fun k => (c k : Int))
  · rw [if_pos h]
    exact h
  · rw [if_neg h]
    exact .inr (by rw [List.map_append]; exact List.mem_append_right _ (List.mem_singleton.mpr rfl))
theorem Has.pre (h : Has c pls p) (zs : List Pl) : Has c (pls ++ zs) p := h.imp id fun m => by rw [List.map_append]; exact List.mem_append_left _ m
theorem numOf_pre (h : Has c pls p) (zs : List Pl) : numOf c (pls ++ zs) p = numOf c pls p := by
  unfold numOf
  by_cases e : p.2 = dn
  · rw [if_pos e, if_pos e]
  · rw [if_neg e, if_neg e, List.map_append, List.idxOf_append, if_pos (h.resolve_left e)]
theorem rowOf_pre {k : Pl} (h : ∀ p ∈ W k, Has c pls p) (zs : List Pl) : rowOf W c (pls ++ zs) k = rowOf W c pls k := List.map_congr_left fun p hp => numOf_pre (h p hp) zs
/-- places of ks with distinct classes -/
def PlsOk (c : Pl → Nat) (ks pls : List Pl) : Prop := (pls.map fun k => (c k : Int)).Nodup ∧ ∀ k ∈ pls, k ∈ ks
theorem nodup_of_map {α β : Type} {f : α → β} : ∀ {xs : List α}, (xs.map f).Nodup → xs.Nodup
  | [], _ => List.nodup_nil
  | x :: xs, h => by
    rw [List.map_cons, List.nodup_cons] at h
    exact List.nodup_cons.mpr ⟨fun m => h.1 (List.mem_map_of_mem m), nodup_of_map h.2⟩
theorem PlsOk.le {ks : List Pl} (h : PlsOk c ks pls) : pls.length ≤ ks.length := nodup_le (nodup_of_map h.1) h.2
end
/-- the machine -/
structure Mach (W : Pl → List Way) (c : Pl → Nat) (st : Pl) (n : Nat) (m : List (List (Str × Int))) : Prop where
  len : m.length = n
  all : (grow W c st n).length = n
  row : ∀ (i : Nat) k, (grow W c st n)[i]? = some k → m[i]? = some (rowOf W c (grow W c st n) k)
section
variable {B B' : Hp} {K : PySem.W.Frag}
def PairV (K : PySem.W.Frag) (B : Hp) (x : V) (q : Str × Int) : Prop := ∃ t, x = .ref t ∧ SqT K B t [.str q.1, .int q.2]
def RowV (K : PySem.W.Frag) (B : Hp) (v : V) (row : List (Str × Int)) : Prop := ∃ l ps, v = .ref l ∧ B l = some (.lst ps) ∧ Al (PairV K B) ps row
theorem PairV.keep (e : Same B B') {x : V} {q : Str × Int} (h : PairV K B x q) : PairV K B' x q := let ⟨t, a, b⟩ := h; ⟨t, a, same_t e b⟩
theorem RowV.keep (e : Same B B') {v : V} {row : List (Str × Int)} (h : RowV K B v row) : RowV K B' v row := let ⟨l, ps, a, b, d⟩ := h; ⟨l, ps, a, e _ _ b, d.mono fun _ _ h => h.keep e⟩
end
end MK
set_option Elab.async false
set_option linter.all false
set_option autoImplicit false
set_option maxRecDepth 100000
set_option maxHeartbeats 2000000
namespace MK
open PySem PySem.Spec PyProof.Rows L2
def oV : Option Int → V
  | none => .non
  | some i => .int i
def markOf (deed : Str) (word : Int) : Option Int := if deed = "clear" then some 0 else if deed = "set" then some word else if deed = "add" ∧ word = 1 then some 1 else if deed = "strike" ∧ word = 1 then some 0 else none
structure Mk3 where
  very : Option Int
  held : Option Int
  isv : Bool
def mkStep (field : Str) (word : Int) (m : Mk3) (d : Str × Str) : Mk3 :=
  if d.2 ≠ field then m else
    let v := if d.1 = "fresh" then false else m.isv
    match markOf d.1 word with
    | none => ⟨m.very, m.held, v⟩
    | some x => ⟨if v then some x else m.very, some x, v⟩
def marksOf (ds : List (Str × Str)) (field : Str) (word : Int) : Mk3 := ds.foldl (mkStep field word) ⟨none, none, true⟩
def markedI (c : Int) : Option Int → Int
  | none => c
  | some m => m
def Bit (i : Int) : Prop := i = 0 ∨ i = 1
theorem mark_bit {deed : Str} {m : Int} (h : markOf deed 1 = some m) : Bit m := by
  unfold markOf at h
  split at h
  · exact .inl (Option.some.inj h).symm
  split at h
  · exact .inr (Option.some.inj h).symm
  split at h
  · exact .inr (Option.some.inj h).symm
  split at h
  · exact .inl (Option.some.inj h).symm
  · cases h
theorem step_bit {field : Str} {m : Mk3} {d : Str × Str} (h : ∀ x, m.held = some x → Bit x) : ∀ x, (mkStep field 1 m d).held = some x → Bit x := by
  intro x hx
  unfold mkStep at hx
  split at hx
  · exact h x hx
  · dsimp only at hx
    split at hx
    · exact h x hx
    · rename_i y hy
      cases hx
      exact mark_bit hy
theorem marks_bit (field : Str) : ∀ (ds : List (Str × Str)) (m : Mk3), (∀ x, m.held = some x → Bit x) → ∀ x, (ds.foldl (mkStep field 1) m).held = some x → Bit x
  | [], m, h => h
  | d :: ds, m, h => marks_bit field ds (mkStep field 1 m d) (step_bit h)
theorem marked_bit {c : Int} (hc : Bit c) (ds : List (Str × Str)) (field : Str) : Bit (markedI c (marksOf ds field 1).held) := by
  have h := marks_bit field ds ⟨none, none, true⟩ (fun x e => by cases e)
  cases q : (marksOf ds field 1).held with
  | none => exact hc
  | some m => exact h m q
structure RU where
  tag : Str
  a : Str
  b : Str
deriving DecidableEq
structure OD where
  fs : List FD
  n : Nat
  cs : List CD
  rs : List RU
def wantL (rs : List RU) (z : Str) : List Str := (rs.filter fun r => decide (r.tag = Str.ofString "ahead") && decide (r.b = z)).map (·.a)
def barL (rs : List RU) (z : Str) : List Str := (rs.filter fun r => !decide (r.tag = Str.ofString "ahead") && decide (r.b = z)).map (·.a)
def countL (cs : List CD) (rs : List RU) : List Str := (cs.map (·.nm)).filter fun z => decide (z ∈ rs.map (·.a))
def keepsB (rs : List RU) (z : Str) (seen : List Str) : Bool := (wantL rs z).all (fun x => decide (x ∈ seen)) && !(barL rs z).any (fun x => decide (x ∈ seen))
def contB (fs : List FD) (cd : CD) (cts : List Int) : List Int := (cts.zip fs).map fun p => if p.2.need then markedI p.1 (marksOf cd.deeds p.2.nm 1).held else 0
def plK (m : Int) (cts : List Int) (seen : List Str) : Pl := .tup [.num m, .tup (cts.map NestedKey.num), .tup (seen.map NestedKey.text)]
def lacksC (fs : List FD) (cts : List Int) : Bool := (cts.zip (fs.map (·.need))).any fun p => p.2 && decide (p.1 = 0)
def placeB (D : OD) (mode : Nat) (cts : List Int) (seen : List Str) (cd : CD) : Option Pl :=
  if (cd.moves.getD mode (-1)) = -1 ∨ keepsB D.rs cd.nm seen = false then none
  else if cd.hand = Str.ofString "last" then (if lacksC D.fs (contB D.fs cd cts) then none else some dn)
  else some (plK (cd.moves.getD mode (-1)) (contB D.fs cd cts) ((countL D.cs D.rs).filter fun o => decide (o = cd.nm) || decide (o ∈ seen)))
def intN : NestedKey → Int
  | .num i => i
  | _ => 0
def textN : NestedKey → Str
  | .text z => z
  | _ => Str.empty
/-- the ways from a place -/
def waysO (D : OD) : Pl → List Way
  | .tup [.num m, .tup cts, .tup seen] => D.cs.filterMap fun cd => (placeB D m.toNat (cts.map intN) (seen.map textN) cd).map fun p => (cd.nm, p)
  | _ => []
theorem waysO_pl (D : OD) (m : Nat) (cts : List Int) (seen : List Str) : waysO D (plK m cts seen) = D.cs.filterMap fun cd => (placeB D m cts seen cd).map fun p => (cd.nm, p) := by
  have e1 : (cts.map NestedKey.num).map intN = cts := by
    rw [List.map_map]
    exact List.map_id cts
  have e2 : (seen.map NestedKey.text).map textN = seen := by
    rw [List.map_map]
    exact List.map_id seen
  show (D.cs.filterMap fun cd => (placeB D (m : Int).toNat ((cts.map NestedKey.num).map intN) ((seen.map NestedKey.text).map textN) cd).map fun p => (cd.nm, p)) = _
  rw [e1, e2, Int.toNat_natCast]
def startO (D : OD) : Pl := plK 0 (D.fs.map fun _ => 0) []
def bitsL : Nat → List (List Int)
  | 0 => [[]]
  | n + 1 => (bitsL n).map (0 :: ·) ++ (bitsL n).map (1 :: ·)
def subsL : List Str → List (List Str)
  | [] => [[]]
  | x :: xs => subsL xs ++ (subsL xs).map (x :: ·)
theorem bits_mem : ∀ {cts : List Int} {n : Nat}, cts.length = n → (∀ c ∈ cts, Bit c) → cts ∈ bitsL n
  | [], 0, _, _ => List.mem_singleton.mpr rfl
  | c :: cts, n + 1, e, h => by
    have ih := bits_mem (cts := cts) (n := n) (Nat.succ.inj e) fun x hx => h x (List.mem_cons_of_mem _ hx)
    show c :: cts ∈ (bitsL n).map (0 :: ·) ++ (bitsL n).map (1 :: ·)
    rw [List.mem_append]
    rcases h c List.mem_cons_self with rfl | rfl
    · exact .inl (List.mem_map_of_mem ih)
    · exact .inr (List.mem_map_of_mem ih)
  | [], _ + 1, e, _ => by cases e
  | _ :: _, 0, e, _ => by cases e
theorem bits_of : ∀ {n : Nat} {cts : List Int}, cts ∈ bitsL n → cts.length = n ∧ ∀ c ∈ cts, Bit c
  | 0, cts, h => by
    rw [List.mem_singleton.mp h]
    exact ⟨rfl, nofun⟩
  | n + 1, cts, h => by
    rcases List.mem_append.mp (show cts ∈ (bitsL n).map (0 :: ·) ++ (bitsL n).map (1 :: ·) from h) with h | h <;> obtain ⟨t, ht, rfl⟩ := List.mem_map.mp h <;> obtain ⟨l, b⟩ := bits_of ht
    · exact ⟨by rw [List.length_cons, l], fun c hc => (List.mem_cons.mp hc).elim (fun e => .inl e) (b c)⟩
    · exact ⟨by rw [List.length_cons, l], fun c hc => (List.mem_cons.mp hc).elim (fun e => .inr e) (b c)⟩
theorem bits_len : ∀ n : Nat, (bitsL n).length = 2 ^ n
  | 0 => rfl
  | n + 1 => by
    show ((bitsL n).map (0 :: ·) ++ (bitsL n).map (1 :: ·)).length = _
    rw [List.length_append, List.length_map, List.length_map, bits_len n, Nat.pow_succ]
    omega
theorem subs_mem (f : Str → Bool) : ∀ xs : List Str, xs.filter f ∈ subsL xs
  | [] => List.mem_singleton.mpr rfl
  | x :: xs => by
    show _ ∈ subsL xs ++ (subsL xs).map (x :: ·)
    rw [List.mem_append]
    by_cases h : f x = true
    · rw [List.filter_cons_of_pos h]
      exact .inr (List.mem_map_of_mem (subs_mem f xs))
    · rw [List.filter_cons_of_neg h]
      exact .inl (subs_mem f xs)
theorem subs_nil : ∀ xs : List Str, [] ∈ subsL xs
  | [] => List.mem_singleton.mpr rfl
  | _ :: xs => List.mem_append_left _ (subs_nil xs)
theorem subs_len : ∀ xs : List Str, (subsL xs).length = 2 ^ xs.length
  | [] => rfl
  | x :: xs => by
    show (subsL xs ++ (subsL xs).map (x :: ·)).length = _
    rw [List.length_append, List.length_map, subs_len xs, List.length_cons, Nat.pow_succ]
    omega
theorem subs_le : ∀ {xs ys : List Str}, ys ∈ subsL xs → ys.length ≤ xs.length
  | [], ys, h => by
    rw [List.mem_singleton.mp h]
    exact Nat.le_refl _
  | x :: xs, ys, h => by
    rcases List.mem_append.mp (show ys ∈ subsL xs ++ (subsL xs).map (x :: ·) from h) with h | h
    · exact Nat.le_succ_of_le (subs_le h)
    · obtain ⟨t, ht, rfl⟩ := List.mem_map.mp h
      exact Nat.succ_le_succ (subs_le ht)
def allO (D : OD) : List Pl := (List.range D.n).flatMap fun m => (bitsL D.fs.length).flatMap fun cts => (subsL (countL D.cs D.rs)).map fun seen => plK (m : Nat) cts seen
theorem mem_allO {D : OD} {k : Pl} : k ∈ allO D ↔ ∃ (m : Nat) (cts : List Int) (seen : List Str), m < D.n ∧ cts ∈ bitsL D.fs.length ∧ seen ∈ subsL (countL D.cs D.rs) ∧ k = plK m cts seen := by
  unfold allO
  rw [List.mem_flatMap]
  constructor
  · rintro ⟨m, hm, h⟩
    obtain ⟨cts, hc, h⟩ := List.mem_flatMap.mp h
    obtain ⟨seen, hs, rfl⟩ := List.mem_map.mp h
    exact ⟨m, cts, seen, List.mem_range.mp hm, hc, hs, rfl⟩
  · rintro ⟨m, cts, seen, hm, hc, hs, rfl⟩
    exact ⟨m, List.mem_range.mpr hm, List.mem_flatMap.mpr ⟨cts, hc, List.mem_map_of_mem hs⟩⟩
theorem flat_lenN {α β : Type} {f : α → List β} {n : Nat} : ∀ {xs : List α}, (∀ x ∈ xs, (f x).length = n) → (xs.flatMap f).length = xs.length * n
  | [], _ => by simp
  | x :: xs, h => by
    rw [List.flatMap_cons, List.length_append, h x List.mem_cons_self, flat_lenN fun y hy => h y (List.mem_cons_of_mem _ hy), List.length_cons, Nat.succ_mul]
    omega
theorem allO_len (D : OD) : (allO D).length = D.n * (2 ^ D.fs.length * 2 ^ (countL D.cs D.rs).length) := by
  unfold allO
  rw [flat_lenN (n := 2 ^ D.fs.length * 2 ^ (countL D.cs D.rs).length) fun m _ => ?_, List.length_range]
  rw [flat_lenN (n := 2 ^ (countL D.cs D.rs).length) fun c _ => by rw [List.length_map, subs_len], bits_len]
structure ODOk (D : OD) : Prop where
  kd : KdOk D.fs D.n D.cs
  few : D.n * (2 ^ D.fs.length * 2 ^ (countL D.cs D.rs).length) ≤ 300
  rs : D.rs.length ≤ 10
theorem contB_len {fs : List FD} {cd : CD} {cts : List Int} (h : cts.length = fs.length) : (contB fs cd cts).length = fs.length := by
  unfold contB
  rw [List.length_map, List.length_zip, h, Nat.min_self]
theorem contB_bit {fs : List FD} {cd : CD} {cts : List Int} (h : ∀ c ∈ cts, Bit c) : ∀ c ∈ contB fs cd cts, Bit c := by
  intro c hc
  obtain ⟨⟨x, f⟩, hp, rfl⟩ := List.mem_map.mp hc
  have hx := (List.of_mem_zip hp).1
  dsimp only
  split
  · exact marked_bit (h x hx) _ _
  · exact .inl rfl
theorem place_in {D : OD} (ok : ODOk D) {m : Nat} {cts : List Int} {seen : List Str} {cd : CD} {p : Pl} (hm : m < D.n) (hc : cts ∈ bitsL D.fs.length) (hcd : cd ∈ D.cs) (h : placeB D m cts seen cd = some p) : p = dn ∨ p ∈ allO D := by
  unfold placeB at h
  obtain ⟨lc, bc⟩ := bits_of hc
  split at h
  · cases h
  rename_i g
  split at h
  · split at h
    · cases h
    · exact .inl (Option.some.inj h).symm
  · obtain rfl := Option.some.inj h
    have co := ok.kd.calls cd hcd
    have lm : m < cd.moves.length := by rw [co.len]; exact hm
    have em : cd.moves.getD m (-1) = cd.moves[m] := by rw [List.getD_eq_getElem?_getD, List.getElem?_eq_getElem lm]; rfl
    obtain ⟨h1, h2⟩ := co.move _ (List.getElem_mem lm)
    have h3 : cd.moves.getD m (-1) ≠ -1 := fun e => g (.inl e)
    rw [em] at h3
    refine .inr (mem_allO.mpr ⟨(cd.moves[m]).toNat, contB D.fs cd cts, (countL D.cs D.rs).filter fun o => decide (o = cd.nm) || decide (o ∈ seen), by omega, bits_mem (contB_len lc) (contB_bit bc), subs_mem _ _, ?_⟩)
    rw [em, Int.toNat_of_nonneg (by omega)]
theorem plK_ok (m : Int) (cts : List Int) (seen : List Str) : IsPl (plK m cts seen) := by
  refine ⟨⟨_, rfl⟩, ?_⟩
  have h1 := depth_allN (f := NestedKey.num) (n := 0) (xs := cts) fun _ _ => Nat.le_refl _
  have h2 := depth_allN (f := NestedKey.text) (n := 0) (xs := seen) fun _ _ => Nat.le_refl _
  unfold plK
  simp only [NestedKey.depth, NestedKey.depthAll]
  omega
theorem walkO {D : OD} (ok : ODOk D) : WkOk (startO D) (waysO D) (allO D) := by
  refine ⟨mem_allO.mpr ⟨0, _, [], ok.kd.pos, bits_mem (by rw [List.length_map]) (fun c hc => ?_), subs_nil _, rfl⟩, fun k hk p hp => ?_, fun k hk => ?_, by rw [allO_len]; exact ok.few, fun k hk => ?_⟩
  · obtain ⟨f, _, rfl⟩ := List.mem_map.mp hc
    exact .inl rfl
  · obtain ⟨m, cts, seen, hm, hc, hs, rfl⟩ := mem_allO.mp hk
    rw [waysO_pl, List.mem_filterMap] at hp
    obtain ⟨cd, hcd, e⟩ := hp
    obtain ⟨q, hq, rfl⟩ := Option.map_eq_some_iff.mp e
    exact place_in ok hm hc hcd hq
  · obtain ⟨m, cts, seen, hm, hc, hs, rfl⟩ := mem_allO.mp hk
    exact plK_ok _ _ _
  · obtain ⟨m, cts, seen, hm, hc, hs, rfl⟩ := mem_allO.mp hk
    rw [waysO_pl]
    have := List.length_filterMap_le (fun cd => (placeB D m cts seen cd).map fun p => (cd.nm, p)) D.cs
    have := ok.kd.cle
    omega
section
variable {K : PySem.W.Frag} {H : Hp}
theorem nk_nums {cts : List Int} {v : V} (h : Nk K H (.tup (cts.map NestedKey.num)) v) : ∃ p, v = .ref p ∧ SqT K H p (cts.map V.int) := by
  cases h with
  | @tup a xs _ ha hl f =>
    refine ⟨a, rfl, ?_⟩
    have e : xs = cts.map V.int := by
      rw [List.length_map] at hl
      apply List.ext_getElem (by rw [List.length_map]; exact hl)
      intro i h1 h2
      have := f i (.num (cts[i]'(by rw [List.length_map] at h2; exact h2))) xs[i] (by rw [List.getElem?_map, List.getElem?_eq_getElem]; rfl) (List.getElem?_eq_getElem h1)
      rw [List.getElem_map]
      generalize xs[i] = y at this
      cases this
      rfl
    rw [← e]
    exact ha
theorem nk_texts {seen : List Str} {v : V} (h : Nk K H (.tup (seen.map NestedKey.text)) v) : ∃ p, v = .ref p ∧ SqT K H p (seen.map V.str) := by
  cases h with
  | @tup a xs _ ha hl f =>
    refine ⟨a, rfl, ?_⟩
    have e : xs = seen.map V.str := by
      rw [List.length_map] at hl
      apply List.ext_getElem (by rw [List.length_map]; exact hl)
      intro i h1 h2
      have := f i (.text (seen[i]'(by rw [List.length_map] at h2; exact h2))) xs[i] (by rw [List.getElem?_map, List.getElem?_eq_getElem]; rfl) (List.getElem?_eq_getElem h1)
      rw [List.getElem_map]
      generalize xs[i] = y at this
      cases this
      rfl
    rw [← e]
    exact ha
theorem nums_nk {cts : List Int} {p : Addr} (h : SqT K H p (cts.map V.int)) : Nk K H (.tup (cts.map NestedKey.num)) (.ref p) := .tup h (by rw [List.length_map, List.length_map]) fun i k x h1 h2 => by
  rw [List.getElem?_map] at h1 h2
  obtain ⟨a, ha, rfl⟩ := Option.map_eq_some_iff.mp h1
  rw [ha] at h2
  cases h2
  exact .int _
theorem texts_nk {seen : List Str} {p : Addr} (h : SqT K H p (seen.map V.str)) : Nk K H (.tup (seen.map NestedKey.text)) (.ref p) := .tup h (by rw [List.length_map, List.length_map]) fun i k x h1 h2 => by
  rw [List.getElem?_map] at h1 h2
  obtain ⟨a, ha, rfl⟩ := Option.map_eq_some_iff.mp h1
  rw [ha] at h2
  cases h2
  exact .str _
theorem nk_pl {m : Int} {cts : List Int} {seen : List Str} {v : V} (h : Nk K H (plK m cts seen) v) : ∃ b p q, v = .ref b ∧ SqT K H b [.int m, .ref p, .ref q] ∧ SqT K H p (cts.map V.int) ∧ SqT K H q (seen.map V.str) := by
  unfold plK at h
  cases h with
  | @tup a xs _ ha hl f =>
    match xs, hl, ha, f with
    | [x, y, z], _, ha, f =>
      have f0 := f 0 _ _ rfl rfl
      have f1 := f 1 _ _ rfl rfl
      have f2 := f 2 _ _ rfl rfl
      obtain ⟨p, rfl, hp⟩ := nk_nums f1
      obtain ⟨q, rfl, hq⟩ := nk_texts f2
      cases f0
      exact ⟨a, p, q, rfl, ha, hp, hq⟩
theorem pl_nk {m : Int} {cts : List Int} {seen : List Str} {b p q : Addr} (h : SqT K H b [.int m, .ref p, .ref q]) (hp : SqT K H p (cts.map V.int)) (hq : SqT K H q (seen.map V.str)) : Nk K H (plK m cts seen) (.ref b) := .tup h rfl fun i k x h1 h2 => by
  match i, h1, h2 with
  | 0, h1, h2 =>
    cases h1
    cases h2
    exact .int _
  | 1, h1, h2 =>
    cases h1
    cases h2
    exact nums_nk hp
  | 2, h1, h2 =>
    cases h1
    cases h2
    exact texts_nk hq
  | n + 3, h1, h2 => simp at h1
end
end MK
set_option Elab.async false
set_option linter.all false
set_option autoImplicit false
set_option maxRecDepth 100000
set_option maxHeartbeats 1000000
namespace MK
open PySem PySem.Spec PyProof.Rows L2
def ItzTL (K : PySem.W.Frag) (a b : Addr) : It :=
  ⟨fun i H => ∃ (xs ys : List V) (x y : V), SqT K H a xs ∧ SqL K H b ys ∧ xs[i]? = some x ∧ ys[i]? = some y,
    fun i H v H' => ∃ T x y, v = .ref T ∧ H T = none ∧ H' = upd H T (.tup [x, y]) ∧ (∀ xs, SqT K H a xs → xs[i]? = some x) ∧ ∀ ys, SqL K H b ys → ys[i]? = some y,
    fun i H => ∃ xs ys : List V, SqT K H a xs ∧ SqL K H b ys ∧ i ≤ xs.length ∧ i ≤ ys.length ∧ (xs.length = i ∨ ys.length = i)⟩
theorem turn_zipTL {P : Program} {w : World} {K : PySem.W.Frag} {elts : List Expr} {kk : Nat} {tpos : Pos} {a b z TI TO i1 i2 : Addr} (S : ZipSep2 z TI TO i1 i2 [i1, a] [i2, b]) (na : a ≠ i1) (nb : b ≠ i2) :
    Turn P w K (.Tuple elts kk tpos) (ItzTL K a b) [z, TI, TO, i1, i2] z (fun i h => IsZip h z TI TO .none ∧ IsTupOf2 h TI (.ref i1) (.ref i2) ∧ (∃ x y, IsTupOf2 h TO x y) ∧ h.IsTupleIter i1 a i ∧ h.IsListIter i2 b i) where
  mem := by simp
  obj := fun i h st c hc => by
    obtain ⟨hz, hTI, ⟨x, y, hTO⟩, ⟨o1, e1, _, d1⟩, ⟨o2, e2, _, d2⟩⟩ := st
    have e' : c = z ∨ c = TI ∨ c = TO ∨ c = i1 ∨ c = i2 := by simpa using hc
    rcases e' with q | q | q | q | q
    · rw [q]; exact ⟨_, hz, fun v q => nomatch q⟩
    · rw [q]; exact ⟨_, hTI, fun v q => nomatch q⟩
    · rw [q]; exact ⟨_, hTO, fun v q => nomatch q⟩
    · rw [q]; exact ⟨o1, e1, fun v q => by rw [d1] at q; cases q⟩
    · rw [q]; exact ⟨o2, e2, fun v q => by rw [d2] at q; cases q⟩
  keep := fun i h h' st k => by
    obtain ⟨hz, hTI, ⟨x, y, hTO⟩, h1, h2⟩ := st
    exact ⟨k z (by simp) _ hz, k TI (by simp) _ hTI, ⟨x, y, k TO (by simp) _ hTO⟩, h1.at fun o q => k i1 (by simp) o q, h2.at fun o q => k i2 (by simp) o q⟩
  item := by
    intro X hP hw hK hc i pins s σ H E I hf st hg
    subst hP hw hK
    obtain ⟨hz, hTI, ⟨x0, y0, hTO⟩, h1, h2⟩ := st
    obtain ⟨xs, ys, x, y, hqx, hqy, hx, hy⟩ := hg
    obtain ⟨its, rv, p, _⟩ := I.tuple hqx
    obtain ⟨its2, rv2, p2, _⟩ := I.list hqy
    obtain ⟨u, hu, ru⟩ := rv.get hx
    obtain ⟨u2, hu2, ru2⟩ := rv2.get hy
    have hh : X.A.in1.handled = none := I.ok.hd hc
    have D1 := Draws.tuple (prog := X.prog) (w := X.w) hh i1 a na its.toArray
    have D2 := Draws.list (prog := X.prog) (w := X.w) hh i2 b nb its2.toArray
    have hzl : z < s.heap.objs.size := Heap.lt_size hz
    have hu' : its.toArray[i]? = some u := by simpa using hu
    have hu2' : its2.toArray[i]? = some u2 := by simpa using hu2
    refine wpAny_pyNext_zipD2_item S D1 D2 hz hTI hTO ⟨h1, p⟩ ⟨h2, p2.isList⟩ (Array.getElem?_eq_some_iff.mp hu').1 (Array.getElem?_eq_some_iff.mp hu2').1 fun v1 v2 h' tk hv1 hv2 z' TO' h1' h2' hT hsz hk => ?_
    obtain rfl : v1 = u := Option.some.inj ((show its.toArray[i]? = some v1 from hv1).symm.trans hu')
    obtain rfl : v2 = u2 := Option.some.inj ((show its2.toArray[i]? = some v2 from hv2).symm.trans hu2')
    refine ⟨_, rfl, wpAny_letOwnedTupleGo_zip (s := { s with heap := h', toks := tk }) z' fun h'' z'' sb => ?_⟩
    have hT2 : h''.get? s.heap.objs.size = some { cls := .type "tuple", data := .seq #[v1, v2] } := (sb.2 _ (Nat.ne_of_gt hzl)).trans hT
    have new : ObjOk X.prog X.w (upd H s.heap.objs.size (.tup [x, y])) h'' s.heap.objs.size (.tup [x, y]) :=
      ⟨by show 2 ≤ sizeLine; decide, [v1, v2], .cons ru (.cons ru2 .nil), ⟨_, hT2, rfl, _, rfl⟩⟩
    have I1 : Inv X pins σ (upd H s.heap.objs.size (.tup [x, y])) { s with heap := h'', toks := tk } :=
      I.turnedNew (t' := tk) (ch := [z, TI, TO, i1, i2]) (fun c o hb q => (sb.2 c (fun q' => hb (by simp [q']))).trans (hk c o (fun q' => hb (by simp [q'])) (fun q' => hb (by simp [q'])) (fun q' => hb (by simp [q'])) (fun q' => hb (by simp [q'])) q)) hf (Nat.le_refl _) new
    refine ⟨.ref s.heap.objs.size, _, I1, rfl, ⟨_, x, y, rfl, I.hok.fresh (Nat.le_refl _), rfl, fun l hl => by rw [I.tuple_inj hl hqx]; exact hx, fun l hl => by rw [I.list_inj hl hqy]; exact hy⟩, ⟨z'', ?_, ⟨v1, v2, ?_⟩, ?_, ?_⟩, fun c hcm => ?_⟩
    · exact (sb.2 _ S.TIz).trans (hk _ _ S.TIz S.TITO S.TIi1 S.TIi2 hTI)
    · exact (sb.2 _ S.TOz).trans TO'
    · exact h1'.1.at fun o q => (sb.2 _ (Ne.symm S.zi1)).trans q
    · exact h2'.1.at fun o q => (sb.2 _ (Ne.symm S.zi2)).trans q
    · have hlt : c < s.heap.objs.size := by
        have e' : c = z ∨ c = TI ∨ c = TO ∨ c = i1 ∨ c = i2 := by simpa using hcm
        rcases e' with q | q | q | q | q
        · rw [q]; exact hzl
        · rw [q]; exact Heap.lt_size hTI
        · rw [q]; exact Heap.lt_size hTO
        · rw [q]; obtain ⟨_, e1, _⟩ := h1; exact Heap.lt_size e1
        · rw [q]; obtain ⟨_, e2, _⟩ := h2; exact Heap.lt_size e2
      rw [upd_ne (Nat.ne_of_lt hlt)]
      exact (hf c hcm).1
  done := by
    intro X hP hw hK hc i pins s σ H E I hf st hg
    subst hP hw hK
    obtain ⟨hz, hTI, ⟨x0, y0, hTO⟩, h1, h2⟩ := st
    obtain ⟨xs, ys, hqx, hqy, l1, l2, hend⟩ := hg
    obtain ⟨its, rv, p, _⟩ := I.tuple hqx
    obtain ⟨its2, rv2, p2, _⟩ := I.list hqy
    have e1 := rv.length
    have e2 := rv2.length
    have hh : X.A.in1.handled = none := I.ok.hd hc
    have D1 := Draws.tuple (prog := X.prog) (w := X.w) hh i1 a na its.toArray
    have D2 := Draws.list (prog := X.prog) (w := X.w) hh i2 b nb its2.toArray
    exact wpAny_pyNext_zipD2_end S D1 D2 hz hTI hTO ⟨h1, p⟩ ⟨h2, p2.isList⟩ (by simp; omega) (by simp; omega) (by simp; omega) fun h' tk hk => ⟨rfl, I.turnedL (t' := tk) (ch := [z, TI, TO, i1, i2]) (fun c o hb q =>
      hk c o (fun q' => hb (by simp [q'])) (fun q' => hb (by simp [q'])) (fun q' => hb (by simp [q'])) (fun q' => hb (by simp [q'])) q) hf⟩
  self := fun A i s Q E st h => wpAny_pyIter_zip st.1 h
def iZipTL (K : PySem.W.Frag) (ta : TA) : TI := fun σ H R => ta σ H fun vs H1 => ∃ a b xs ys, vs = [.ref a, .ref b] ∧ SqT K H1 a xs ∧ SqL K H1 b ys ∧ R (ItzTL K a b) H1
theorem pi_zipTL {X : Cx} {e e2 : Expr} {ta : TA} {p pos tpos : Pos} {elts : List Expr} {kk : Nat} (hg : Gl X "zip") (hm : X.mg "zip" = none) (ha : PA X [e, e2] ta)
    (hs : starEach [e, e2] X.env = (false, eval e X.env) :: starEach [e2] X.env := by rfl) (hpl : (backTo pos (starEach [e2] X.env)).any (·.1) = false := by rfl) :
    PI X (.Tuple elts kk tpos) (.Call (.Name "zip" p) [e, e2] [] pos) (iZipTL X.K ta) := by
  refine ⟨fun pins s σ H R I h => ?_⟩
  refine Call_ (ld_blt I hg hm PyProof.Rows.boot_zip (PyProof.Rows.callWith_type1 (thn (ha.run pos pins s σ H _ I h) fun us s1 ⟨vs, H1, I1, r1, q1⟩ => ?_) hs hpl))
  obtain ⟨a, b, xs, ys, ex, hqx, hqy, q⟩ := q1
  subst ex
  cases r1 with
  | cons r rr =>
    cases rr with
    | cons r' rr =>
      cases rr
      cases r
      cases r'
      have fresh5 : ∀ c, c ∈ [s1.heap.objs.size + 4, s1.heap.objs.size + 2, s1.heap.objs.size + 3, s1.heap.objs.size, s1.heap.objs.size + 1] → FpOk X pins H1 c := fun c hcm => by
        have e' : c = s1.heap.objs.size + 4 ∨ c = s1.heap.objs.size + 2 ∨ c = s1.heap.objs.size + 3 ∨ c = s1.heap.objs.size ∨ c = s1.heap.objs.size + 1 := by simpa using hcm
        have hle : s1.heap.objs.size ≤ c := by
          rcases e' with z | z | z | z | z
          · rw [z]; exact Nat.le_add_right _ _
          · rw [z]; exact Nat.le_add_right _ _
          · rw [z]; exact Nat.le_add_right _ _
          · rw [z]; exact Nat.le_refl _
          · rw [z]; exact Nat.le_add_right _ _
        exact I1.fpOk hle (I1.hok.fresh hle)
      obtain ⟨its, rv, p1, _⟩ := I1.tuple hqx
      obtain ⟨its2, rv2, p2, _⟩ := I1.list hqy
      obtain ⟨o2, ho2, _⟩ := id p1
      have la : a < s1.heap.objs.size := Heap.lt_size ho2
      have lb : b < s1.heap.objs.size := p2.lt
      refine zip_begins2 (begins_tuple a its.toArray) (begins_list b its2.toArray) p1 p2.isList fun h' hz hTI hTO h1 h2 hsz hk => wpAny_pyIter_zip hz ?_
      have I2 : Inv X pins σ H1 { s1 with heap := h' } := I1.kept (t' := s1.toks) hk
      exact ⟨s1.heap.objs.size + 4, [s1.heap.objs.size + 4, s1.heap.objs.size + 2, s1.heap.objs.size + 3, s1.heap.objs.size, s1.heap.objs.size + 1], _, _, H1, rfl, I2, turn_zipTL (a := a) (b := b) (apartLT s1.heap.objs.size a b la lb) (Nat.ne_of_lt la) (Nat.ne_of_lt (Nat.lt_succ_of_lt lb)), ⟨hz, hTI, ⟨_, _, hTO⟩, ⟨_, h1, rfl, rfl⟩, ⟨_, h2, rfl, rfl⟩⟩, fresh5, q⟩
theorem walk_zipTL {K : PySem.W.Frag} {a b : Addr} {xs ys : List V} {n : Nat} (h1 : xs.length = n) (h2 : ys.length = n) : Walk (ItzTL K a b) n (fun H => SqT K H a xs ∧ SqL K H b ys) (YPair (fun i => xs[i]?) (fun i => ys[i]?)) := by
  refine ⟨fun i _ hi q => ⟨xs, ys, _, _, q.1, q.2, List.getElem?_eq_getElem (by omega), List.getElem?_eq_getElem (by omega)⟩, fun _ q => ⟨xs, ys, q.1, q.2, by omega, by omega, .inl h1⟩, fun i H v H' _ q y => ?_⟩
  obtain ⟨T, x, y, e1, e2, e3, e4, e5⟩ := y
  exact ⟨T, x, y, e1, e2, e3, e4 _ q.1, e5 _ q.2⟩
end MK
set_option Elab.async false
set_option linter.all false
set_option autoImplicit false
set_option maxRecDepth 100000
set_option maxHeartbeats 4000000
namespace MK
open PySem PySem.Spec PyProof.Rows L2
local macro_rules | `(tactic| walk_at "x") => `(tactic| dsimp only [tSeq, tAsg, tRet, tDrop, tLst, tTup, tCons, tOp, tUn, tIfS])
def topS (i : Nat) : Stmt := PySem.Challenge.pw_makerlines_k32_rules_refused.main.body.getD i (.Pass ⟨0, 0, 0, 0⟩)
structure Txt (K : PySem.W.Frag) (mg : Str → Option Value) : Prop where
  len : mg "len" = none
  int : mg "int" = none
  enumerate : mg "enumerate" = none
  list : mg "list" = none
  tuple : mg "tuple" = none
  isinstance : mg "isinstance" = none
  range : mg "range" = none
  all : mg "all" = none
  zip : mg "zip" = none
  ValueError : mg "ValueError" = none
  bool : mg "bool" = none
  str : mg "str" = none
  set : mg "set" = none
  any : mg "any" = none
/-- what stands at the names of the program's own constants -/
structure Cst where
  sorts : Addr
  hands : Addr
  sod : Addr
  wd : Addr
  lwd : Addr
def sodOf (z : Str) : Option (List Str) :=
  if z = "set" then some ["one"] else if z = "add" then some ["many"] else if z = "strike" then some ["many"] else if z = "fresh" then some ["many"] else if z = "clear" then some ["one", "many"] else none
structure Csts (K : PySem.W.Frag) (w : World) (mg : Str → Option Value) (C : Cst) : Prop where
  MOST_LETTERS : ∃ u, mg "MOST_LETTERS" = some u ∧ RelV (.int 8) u
  MOST_FIELDS : ∃ u, mg "MOST_FIELDS" = some u ∧ RelV (.int 3) u
  MOST_MODES : ∃ u, mg "MOST_MODES" = some u ∧ RelV (.int 4) u
  MOST_CALLS : ∃ u, mg "MOST_CALLS" = some u ∧ RelV (.int 6) u
  MOST_DEEDS : ∃ u, mg "MOST_DEEDS" = some u ∧ RelV (.int 4) u
  SORTS : ∃ u, mg "SORTS" = some u ∧ RelV (.ref C.sorts) u
  HANDS : ∃ u, mg "HANDS" = some u ∧ RelV (.ref C.hands) u
  SORTS_OF_DEEDS : ∃ u, mg "SORTS_OF_DEEDS" = some u ∧ RelV (.ref C.sod) u
  WORD_DEEDS : ∃ u, mg "WORD_DEEDS" = some u ∧ RelV (.ref C.wd) u
  LIST_WORD_DEEDS : ∃ u, mg "LIST_WORD_DEEDS" = some u ∧ RelV (.ref C.lwd) u
  t_sorts : ∀ H, SqT K H C.sorts [.str "one", .str "many"]
  t_hands : ∀ H, SqT K H C.hands [.str "self", .str "new", .str "last"]
  t_wd : ∀ H, SqT K H C.wd [.str "set", .str "add", .str "strike"]
  t_lwd : ∀ H, SqT K H C.lwd [.str "add", .str "strike"]
  sodD : ∃ es n, KDict K w C.sod es n
  sodN : ∀ z : Str, (PySem.W.nsIn K C.sod z = some none ∧ sodOf z = none) ∨ ∃ a l, PySem.W.nsIn K C.sod z = some (some (.ref a)) ∧ sodOf z = some l ∧ ∀ H, SqT K H a (l.map V.str)
abbrev s_fresh : Stmt := topS 70
abbrev s_fill : Stmt := topS 71
abbrev s_take : Stmt := topS 72
abbrev s_one : Stmt := topS 73
abbrev s_is_word : Stmt := topS 33
abbrev s_is_integer : Stmt := topS 34
abbrev s_is_list : Stmt := topS 35
abbrev s_is_modes : Stmt := topS 53
abbrev s_is_field : Stmt := topS 52
abbrev s_kept_fields : Stmt := topS 51
abbrev s_is_many : Stmt := topS 61
abbrev s_is_deed : Stmt := topS 59
abbrev s_are_moves : Stmt := topS 57
abbrev s_has_call_form : Stmt := topS 56
abbrev s_are_deeds : Stmt := topS 58
abbrev s_is_same : Stmt := topS 60
abbrev s_kept_call : Stmt := topS 62
abbrev s_wrong_part : Stmt := topS 55
abbrev s_kept_calls : Stmt := topS 54
abbrev s_Kind_init : Stmt := inClass (topS 68) 0
abbrev s_mix : Stmt := topS 74
abbrev s_deeds : Stmt := topS 80
abbrev s_call : Stmt := topS 81
abbrev s_plan : Stmt := topS 79
abbrev s_kind : Stmt := topS 82
abbrev s_same : Stmt := topS 75
abbrev s_mark_of : Stmt := topS 29
abbrev s_marks_of : Stmt := topS 28
abbrev s_marked : Stmt := topS 30
abbrev s_Orders_keeps_rules : Stmt := inClass (topS 40) 4
abbrev s_Orders_start : Stmt := inClass (topS 40) 1
abbrev s_Orders_contents_behind : Stmt := inClass (topS 40) 3
abbrev s_Orders_place_behind : Stmt := inClass (topS 40) 2
abbrev s_Orders_ways : Stmt := inClass (topS 40) 5
abbrev s_Kind_contains : Stmt := inClass (topS 68) 4
abbrev s_is_rule : Stmt := topS 39
abbrev s_rules : Stmt := topS 83
abbrev s_l_is_rule : Stmt := topS 84
abbrev s_error : Stmt := topS 77
abbrev s_other_error : Stmt := topS 78
abbrev s_tried : Stmt := topS 76
abbrev s_Orders_init : Stmt := inClass (topS 40) 0
abbrev s_all_ways : Stmt := topS 21
abbrev s_useful_places : Stmt := topS 23
abbrev s_useful_ways : Stmt := topS 22
abbrev s_number_of_classes : Stmt := topS 25
abbrev s_told_apart : Stmt := topS 24
abbrev s_least_machine : Stmt := topS 20
abbrev s_freest : Stmt := topS 37
abbrev s_is_good : Stmt := topS 38
abbrev s_law : Stmt := topS 85
abbrev s_BadRule_init : Stmt := inClass (topS 17) 0
abbrev s_Kind_iter : Stmt := inClass (topS 68) 3
section
open TL ClX
def fs0 : List (PySem.W.Frag → Bool) := [fun K => decide (PySem.W.nsIn K mainGlobals "_law_fresh" = some (some (.ref (He.ga K "_law_fresh")))),
  fun K => decide (PySem.W.nsIn K mainGlobals "_law_fill" = some (some (.ref (He.ga K "_law_fill")))),
  fun K => decide (PySem.W.nsIn K mainGlobals "_law_take" = some (some (.ref (He.ga K "_law_take")))),
  fun K => decide (PySem.W.nsIn K mainGlobals "_law_one" = some (some (.ref (He.ga K "_law_one")))),
  fun K => decide (PySem.W.nsIn K mainGlobals "_law_mix" = some (some (.ref (He.ga K "_law_mix")))),
  fun K => decide (PySem.W.nsIn K mainGlobals "_law_same" = some (some (.ref (He.ga K "_law_same")))),
  fun K => decide (PySem.W.nsIn K mainGlobals "_law_tried" = some (some (.ref (He.ga K "_law_tried")))),
  fun K => decide (PySem.W.nsIn K mainGlobals "_law_error" = some (some (.ref (He.ga K "_law_error")))),
  fun K => decide (PySem.W.nsIn K mainGlobals "_law_other_error" = some (some (.ref (He.ga K "_law_other_error")))),
  fun K => decide (PySem.W.nsIn K mainGlobals "_law_plan" = some (some (.ref (He.ga K "_law_plan")))),
  fun K => decide (PySem.W.nsIn K mainGlobals "_law_deeds" = some (some (.ref (He.ga K "_law_deeds")))),
  fun K => decide (PySem.W.nsIn K mainGlobals "_law_call" = some (some (.ref (He.ga K "_law_call")))),
  fun K => decide (PySem.W.nsIn K mainGlobals "_law_kind" = some (some (.ref (He.ga K "_law_kind")))),
  fun K => decide (PySem.W.nsIn K mainGlobals "_law_rules" = some (some (.ref (He.ga K "_law_rules")))),
  fun K => decide (PySem.W.nsIn K mainGlobals "_law_is_rule" = some (some (.ref (He.ga K "_law_is_rule")))),
  fun K => decide (PySem.W.nsIn K mainGlobals "is_word" = some (some (.ref (He.ga K "is_word")))),
  fun K => decide (PySem.W.nsIn K mainGlobals "is_integer" = some (some (.ref (He.ga K "is_integer")))),
  fun K => decide (PySem.W.nsIn K mainGlobals "is_list" = some (some (.ref (He.ga K "is_list")))),
  fun K => decide (PySem.W.nsIn K mainGlobals "is_modes" = some (some (.ref (He.ga K "is_modes")))),
  fun K => decide (PySem.W.nsIn K mainGlobals "is_field" = some (some (.ref (He.ga K "is_field"))))]
def fs1 : List (PySem.W.Frag → Bool) := [fun K => decide (PySem.W.nsIn K mainGlobals "kept_fields" = some (some (.ref (He.ga K "kept_fields")))),
  fun K => decide (PySem.W.nsIn K mainGlobals "is_many" = some (some (.ref (He.ga K "is_many")))),
  fun K => decide (PySem.W.nsIn K mainGlobals "is_deed" = some (some (.ref (He.ga K "is_deed")))),
  fun K => decide (PySem.W.nsIn K mainGlobals "are_moves" = some (some (.ref (He.ga K "are_moves")))),
  fun K => decide (PySem.W.nsIn K mainGlobals "has_call_form" = some (some (.ref (He.ga K "has_call_form")))),
  fun K => decide (PySem.W.nsIn K mainGlobals "are_deeds" = some (some (.ref (He.ga K "are_deeds")))),
  fun K => decide (PySem.W.nsIn K mainGlobals "is_same" = some (some (.ref (He.ga K "is_same")))),
  fun K => decide (PySem.W.nsIn K mainGlobals "kept_call" = some (some (.ref (He.ga K "kept_call")))),
  fun K => decide (PySem.W.nsIn K mainGlobals "wrong_part" = some (some (.ref (He.ga K "wrong_part")))),
  fun K => decide (PySem.W.nsIn K mainGlobals "kept_calls" = some (some (.ref (He.ga K "kept_calls")))),
  fun K => decide (PySem.W.nsIn K mainGlobals "all_ways" = some (some (.ref (He.ga K "all_ways")))),
  fun K => decide (PySem.W.nsIn K mainGlobals "useful_ways" = some (some (.ref (He.ga K "useful_ways")))),
  fun K => decide (PySem.W.nsIn K mainGlobals "useful_places" = some (some (.ref (He.ga K "useful_places")))),
  fun K => decide (PySem.W.nsIn K mainGlobals "told_apart" = some (some (.ref (He.ga K "told_apart")))),
  fun K => decide (PySem.W.nsIn K mainGlobals "number_of_classes" = some (some (.ref (He.ga K "number_of_classes")))),
  fun K => decide (PySem.W.nsIn K mainGlobals "least_machine" = some (some (.ref (He.ga K "least_machine")))),
  fun K => decide (PySem.W.nsIn K mainGlobals "mark_of" = some (some (.ref (He.ga K "mark_of")))),
  fun K => decide (PySem.W.nsIn K mainGlobals "marks_of" = some (some (.ref (He.ga K "marks_of")))),
  fun K => decide (PySem.W.nsIn K mainGlobals "marked" = some (some (.ref (He.ga K "marked")))),
  fun K => decide (PySem.W.nsIn K mainGlobals "is_rule" = some (some (.ref (He.ga K "is_rule"))))]
def fs2 : List (PySem.W.Frag → Bool) := [fun K => decide (PySem.W.nsIn K mainGlobals "is_good" = some (some (.ref (He.ga K "is_good")))),
  fun K => decide (PySem.W.nsIn K mainGlobals "freest" = some (some (.ref (He.ga K "freest")))),
  fun K => decide (PySem.W.nsIn K mainGlobals "law" = some (some (.ref (He.ga K "law")))),
  fun K => tabB K "law",
  fun K => decide (PySem.W.nsIn K mainGlobals "Kind" = some (some (.ref (He.ga K "Kind")))),
  fun K => decide (PySem.W.nsIn K mainGlobals "Orders" = some (some (.ref (He.ga K "Orders")))),
  fun K => decide (PySem.W.nsIn K mainGlobals "BadField" = some (some (.ref (He.ga K "BadField")))),
  fun K => decide (PySem.W.nsIn K mainGlobals "BadModes" = some (some (.ref (He.ga K "BadModes")))),
  fun K => decide (PySem.W.nsIn K mainGlobals "BadCall" = some (some (.ref (He.ga K "BadCall")))),
  fun K => decide (PySem.W.nsIn K mainGlobals "UnknownCall" = some (some (.ref (He.ga K "UnknownCall")))),
  fun K => decide (PySem.W.nsIn K mainGlobals "BadPlace" = some (some (.ref (He.ga K "BadPlace")))),
  fun K => decide (PySem.W.nsIn K mainGlobals "BadText" = some (some (.ref (He.ga K "BadText")))),
  fun K => decide (PySem.W.nsIn K mainGlobals "BadRow" = some (some (.ref (He.ga K "BadRow")))),
  fun K => decide (PySem.W.nsIn K mainGlobals "BadWord" = some (some (.ref (He.ga K "BadWord")))),
  fun K => decide (PySem.W.nsIn K mainGlobals "BadWish" = some (some (.ref (He.ga K "BadWish")))),
  fun K => decide (PySem.W.nsIn K mainGlobals "BadRun" = some (some (.ref (He.ga K "BadRun")))),
  fun K => decide (PySem.W.nsIn K mainGlobals "BadCallers" = some (some (.ref (He.ga K "BadCallers")))),
  fun K => decide (PySem.W.nsIn K mainGlobals "BadKind" = some (some (.ref (He.ga K "BadKind")))),
  fun K => decide (PySem.W.nsIn K mainGlobals "BadRule" = some (some (.ref (He.ga K "BadRule")))),
  fun K => decide (PySem.W.nsIn K mainGlobals "Refused" = some (some (.ref (He.ga K "Refused"))))]
def fs3 : List (PySem.W.Frag → Bool) := [fun K => decide (PySem.W.nsIn K mainGlobals "BadThing" = some (some (.ref (He.ga K "BadThing")))),
  fun K => decide (PySem.W.nsIn K mainGlobals "MakerError" = some (some (.ref (He.ga K "MakerError")))),
  fun K => decide (PySem.W.findIn K (.ref (He.ga K "Kind")) "__init__" = some (some (.ref (He.ma K (He.ga K "Kind") "__init__")))),
  fun K => PySem.W.isFn K (.ref (He.ma K (He.ga K "Kind") "__init__")),
  fun K => decide (PySem.W.findIn K (.ref (He.ga K "Kind")) "__contains__" = some (some (.ref (He.ma K (He.ga K "Kind") "__contains__")))),
  fun K => PySem.W.isFn K (.ref (He.ma K (He.ga K "Kind") "__contains__")),
  fun K => decide (PySem.W.findIn K (.ref (He.ga K "Kind")) "__iter__" = some (some (.ref (He.ma K (He.ga K "Kind") "__iter__")))),
  fun K => PySem.W.isFn K (.ref (He.ma K (He.ga K "Kind") "__iter__")),
  fun K => decide (PySem.W.nsIn K mainGlobals "iter" = some none),
  fun K => decide (PySem.W.findIn K (.ref (He.ga K "Orders")) "__init__" = some (some (.ref (He.ma K (He.ga K "Orders") "__init__")))),
  fun K => PySem.W.isFn K (.ref (He.ma K (He.ga K "Orders") "__init__")),
  fun K => decide (PySem.W.findIn K (.ref (He.ga K "Orders")) "start" = some (some (.ref (He.ma K (He.ga K "Orders") "start")))),
  fun K => PySem.W.isFn K (.ref (He.ma K (He.ga K "Orders") "start")),
  fun K => decide (PySem.W.findIn K (.ref (He.ga K "Orders")) "place_behind" = some (some (.ref (He.ma K (He.ga K "Orders") "place_behind")))),
  fun K => PySem.W.isFn K (.ref (He.ma K (He.ga K "Orders") "place_behind")),
  fun K => decide (PySem.W.findIn K (.ref (He.ga K "Orders")) "contents_behind" = some (some (.ref (He.ma K (He.ga K "Orders") "contents_behind")))),
  fun K => PySem.W.isFn K (.ref (He.ma K (He.ga K "Orders") "contents_behind")),
  fun K => decide (PySem.W.findIn K (.ref (He.ga K "Orders")) "keeps_rules" = some (some (.ref (He.ma K (He.ga K "Orders") "keeps_rules")))),
  fun K => PySem.W.isFn K (.ref (He.ma K (He.ga K "Orders") "keeps_rules")),
  fun K => decide (PySem.W.findIn K (.ref (He.ga K "Orders")) "ways" = some (some (.ref (He.ma K (He.ga K "Orders") "ways"))))]
def fs4 : List (PySem.W.Frag → Bool) := [fun K => PySem.W.isFn K (.ref (He.ma K (He.ga K "Orders") "ways")),
  fun K => decide (PySem.W.findIn K (.ref (He.ga K "BadRule")) "__init__" = some (some (.ref (He.ma K (He.ga K "BadRule") "__init__")))),
  fun K => PySem.W.isFn K (.ref (He.ma K (He.ga K "BadRule") "__init__")),
  fun K => decide (PySem.W.typeIn K (.ref (He.ma K (He.ga K "BadRule") "__init__")) = some (.type "function")),
  fun K => decide (PySem.W.findIn K (.ref (He.ga K "BadRule")) "index" = some none),
  fun K => oexB K (He.ga K "BadRule"),
  fun K => errB K (He.ga K "BadRule"),
  fun K => PySem.W.makesIn K (He.ga K "Kind"),
  fun K => PySem.W.keepIn K (.ref (He.ga K "Kind")),
  fun K => PySem.W.plainGet K (He.ga K "Kind") Str.empty,
  fun K => PySem.W.hasDictIn K (He.ga K "Kind"),
  fun K => PySem.W.plainOver K (He.ga K "Kind"),
  fun K => decide (PySem.W.findIn K (.ref (He.ga K "Kind")) "__setattr__" = some (some (.builtin "object.__setattr__"))),
  fun K => decide (PySem.W.findIn K (.ref (He.ga K "Kind")) "triples" = some none),
  fun K => decide (PySem.W.findIn K (.ref (He.ga K "Kind")) "sorts" = some none),
  fun K => decide (PySem.W.findIn K (.ref (He.ga K "Kind")) "spots" = some none),
  fun K => decide (PySem.W.findIn K (.ref (He.ga K "Kind")) "modes" = some none),
  fun K => decide (PySem.W.findIn K (.ref (He.ga K "Kind")) "steps" = some none),
  fun K => decide (PySem.W.findIn K (.ref (He.ga K "Kind")) "table" = some none),
  fun K => PySem.W.makesIn K (He.ga K "Orders")]
def fs5 : List (PySem.W.Frag → Bool) := [fun K => PySem.W.keepIn K (.ref (He.ga K "Orders")),
  fun K => PySem.W.plainGet K (He.ga K "Orders") Str.empty,
  fun K => PySem.W.hasDictIn K (He.ga K "Orders"),
  fun K => PySem.W.plainOver K (He.ga K "Orders"),
  fun K => decide (PySem.W.findIn K (.ref (He.ga K "Orders")) "__setattr__" = some (some (.builtin "object.__setattr__"))),
  fun K => decide (PySem.W.findIn K (.ref (He.ga K "Orders")) "kind" = some none),
  fun K => decide (PySem.W.findIn K (.ref (He.ga K "Orders")) "needed" = some none),
  fun K => decide (PySem.W.findIn K (.ref (He.ga K "Orders")) "wanted" = some none),
  fun K => decide (PySem.W.findIn K (.ref (He.ga K "Orders")) "barred" = some none),
  fun K => decide (PySem.W.findIn K (.ref (He.ga K "Orders")) "counted" = some none),
  fun K => decide (PySem.W.nsIn K mainGlobals "len" = some none),
  fun K => decide (PySem.W.nsIn K mainGlobals "int" = some none),
  fun K => decide (PySem.W.nsIn K mainGlobals "enumerate" = some none),
  fun K => decide (PySem.W.nsIn K mainGlobals "list" = some none),
  fun K => decide (PySem.W.nsIn K mainGlobals "tuple" = some none),
  fun K => decide (PySem.W.nsIn K mainGlobals "isinstance" = some none),
  fun K => decide (PySem.W.nsIn K mainGlobals "range" = some none),
  fun K => decide (PySem.W.nsIn K mainGlobals "all" = some none),
  fun K => decide (PySem.W.nsIn K mainGlobals "zip" = some none),
  fun K => decide (PySem.W.nsIn K mainGlobals "ValueError" = some none)]
def fs6 : List (PySem.W.Frag → Bool) := [fun K => decide (PySem.W.nsIn K mainGlobals "bool" = some none),
  fun K => decide (PySem.W.nsIn K mainGlobals "str" = some none),
  fun K => decide (PySem.W.nsIn K mainGlobals "set" = some none),
  fun K => decide (PySem.W.nsIn K mainGlobals "any" = some none),
  fun K => intB K "MOST_LETTERS" (8),
  fun K => intB K "MOST_FIELDS" (3),
  fun K => intB K "MOST_MODES" (4),
  fun K => intB K "MOST_CALLS" (6),
  fun K => intB K "MOST_DEEDS" (4),
  fun K => intB K "DONE" (-1),
  fun K => intB K "THE_WORD" (1),
  fun K => decide (PySem.W.nsIn K mainGlobals "SORTS" = some (some (.ref (He.ga K "SORTS")))),
  fun K => tupB K (He.ga K "SORTS") ["one", "many"],
  fun K => decide (PySem.W.nsIn K mainGlobals "HANDS" = some (some (.ref (He.ga K "HANDS")))),
  fun K => tupB K (He.ga K "HANDS") ["self", "new", "last"],
  fun K => decide (PySem.W.nsIn K mainGlobals "WORD_DEEDS" = some (some (.ref (He.ga K "WORD_DEEDS")))),
  fun K => tupB K (He.ga K "WORD_DEEDS") ["set", "add", "strike"],
  fun K => decide (PySem.W.nsIn K mainGlobals "LIST_WORD_DEEDS" = some (some (.ref (He.ga K "LIST_WORD_DEEDS")))),
  fun K => tupB K (He.ga K "LIST_WORD_DEEDS") ["add", "strike"],
  fun K => decide (PySem.W.nsIn K mainGlobals "SORTS_OF_DEEDS" = some (some (.ref (He.ga K "SORTS_OF_DEEDS"))))]
def fs7 : List (PySem.W.Frag → Bool) := [fun K => decide (PySem.W.nsIn K (He.ga K "SORTS_OF_DEEDS") "set" = some (some (.ref (da K (He.ga K "SORTS_OF_DEEDS") "set")))),
  fun K => tupB K (da K (He.ga K "SORTS_OF_DEEDS") "set") ["one"],
  fun K => decide (PySem.W.nsIn K (He.ga K "SORTS_OF_DEEDS") "add" = some (some (.ref (da K (He.ga K "SORTS_OF_DEEDS") "add")))),
  fun K => tupB K (da K (He.ga K "SORTS_OF_DEEDS") "add") ["many"],
  fun K => decide (PySem.W.nsIn K (He.ga K "SORTS_OF_DEEDS") "strike" = some (some (.ref (da K (He.ga K "SORTS_OF_DEEDS") "strike")))),
  fun K => tupB K (da K (He.ga K "SORTS_OF_DEEDS") "strike") ["many"],
  fun K => decide (PySem.W.nsIn K (He.ga K "SORTS_OF_DEEDS") "fresh" = some (some (.ref (da K (He.ga K "SORTS_OF_DEEDS") "fresh")))),
  fun K => tupB K (da K (He.ga K "SORTS_OF_DEEDS") "fresh") ["many"],
  fun K => decide (PySem.W.nsIn K (He.ga K "SORTS_OF_DEEDS") "clear" = some (some (.ref (da K (He.ga K "SORTS_OF_DEEDS") "clear")))),
  fun K => tupB K (da K (He.ga K "SORTS_OF_DEEDS") "clear") ["one", "many"],
  fun K => decide (PySem.W.kitOne K (.ref (He.ga K "BadRule")) (.ref (He.ga K "BadField")) = some false),
  fun K => decide (PySem.W.kitOne K (.ref (He.ga K "BadRule")) (.ref (He.ga K "BadModes")) = some false),
  fun K => decide (PySem.W.kitOne K (.ref (He.ga K "BadRule")) (.ref (He.ga K "BadCall")) = some false),
  fun K => decide (PySem.W.kitOne K (.ref (He.ga K "BadRule")) (.ref (He.ga K "UnknownCall")) = some false),
  fun K => decide (PySem.W.kitOne K (.ref (He.ga K "BadRule")) (.ref (He.ga K "BadPlace")) = some false),
  fun K => decide (PySem.W.kitOne K (.ref (He.ga K "BadRule")) (.ref (He.ga K "BadText")) = some false),
  fun K => decide (PySem.W.kitOne K (.ref (He.ga K "BadRule")) (.ref (He.ga K "BadRow")) = some false),
  fun K => decide (PySem.W.kitOne K (.ref (He.ga K "BadRule")) (.ref (He.ga K "BadWord")) = some false),
  fun K => decide (PySem.W.kitOne K (.ref (He.ga K "BadRule")) (.ref (He.ga K "BadWish")) = some false),
  fun K => decide (PySem.W.kitOne K (.ref (He.ga K "BadRule")) (.ref (He.ga K "BadRun")) = some false)]
def fs8 : List (PySem.W.Frag → Bool) := [fun K => decide (PySem.W.kitOne K (.ref (He.ga K "BadRule")) (.ref (He.ga K "BadCallers")) = some false),
  fun K => decide (PySem.W.kitOne K (.ref (He.ga K "BadRule")) (.ref (He.ga K "BadKind")) = some false),
  fun K => decide (PySem.W.kitOne K (.ref (He.ga K "BadRule")) (.ref (He.ga K "BadRule")) = some true),
  fun K => decide (PySem.W.exmOne K (.ref (He.ga K "BadRule")) (.ref (He.ga K "MakerError")) = some true)]
def fsAll : BsM := [fs0, fs1, fs2, fs3, fs4, fs5, fs6, fs7, fs8]
def dA_fresh : He5.DefA := ⟨fun K => (He.ga K "_law_fresh"), "_law_fresh", "_law_fresh", defArgs s_fresh, defBody s_fresh, defScope s_fresh, [], []⟩
def dA_fill : He5.DefA := ⟨fun K => (He.ga K "_law_fill"), "_law_fill", "_law_fill", defArgs s_fill, defBody s_fill, defScope s_fill, [], []⟩
def dA_take : He5.DefA := ⟨fun K => (He.ga K "_law_take"), "_law_take", "_law_take", defArgs s_take, defBody s_take, defScope s_take, [], []⟩
def dA_one : He5.DefA := ⟨fun K => (He.ga K "_law_one"), "_law_one", "_law_one", defArgs s_one, defBody s_one, defScope s_one, [], []⟩
def dA_mix : He5.DefA := ⟨fun K => (He.ga K "_law_mix"), "_law_mix", "_law_mix", defArgs s_mix, defBody s_mix, defScope s_mix, [], []⟩
def dA_same : He5.DefA := ⟨fun K => (He.ga K "_law_same"), "_law_same", "_law_same", defArgs s_same, defBody s_same, defScope s_same, [], []⟩
def dA_tried : He5.DefA := ⟨fun K => (He.ga K "_law_tried"), "_law_tried", "_law_tried", defArgs s_tried, defBody s_tried, defScope s_tried, [], []⟩
def dA_error : He5.DefA := ⟨fun K => (He.ga K "_law_error"), "_law_error", "_law_error", defArgs s_error, defBody s_error, defScope s_error, [], []⟩
def dA_other_error : He5.DefA := ⟨fun K => (He.ga K "_law_other_error"), "_law_other_error", "_law_other_error", defArgs s_other_error, defBody s_other_error, defScope s_other_error, [], []⟩
def dA_plan : He5.DefA := ⟨fun K => (He.ga K "_law_plan"), "_law_plan", "_law_plan", defArgs s_plan, defBody s_plan, defScope s_plan, [], []⟩
def dA_deeds : He5.DefA := ⟨fun K => (He.ga K "_law_deeds"), "_law_deeds", "_law_deeds", defArgs s_deeds, defBody s_deeds, defScope s_deeds, [], []⟩
def dA_call : He5.DefA := ⟨fun K => (He.ga K "_law_call"), "_law_call", "_law_call", defArgs s_call, defBody s_call, defScope s_call, [], []⟩
def dA_kind : He5.DefA := ⟨fun K => (He.ga K "_law_kind"), "_law_kind", "_law_kind", defArgs s_kind, defBody s_kind, defScope s_kind, [], []⟩
def dA_rules : He5.DefA := ⟨fun K => (He.ga K "_law_rules"), "_law_rules", "_law_rules", defArgs s_rules, defBody s_rules, defScope s_rules, [], []⟩
def dA_l_is_rule : He5.DefA := ⟨fun K => (He.ga K "_law_is_rule"), "_law_is_rule", "_law_is_rule", defArgs s_l_is_rule, defBody s_l_is_rule, defScope s_l_is_rule, [], []⟩
def dA_is_word : He5.DefA := ⟨fun K => (He.ga K "is_word"), "is_word", "is_word", defArgs s_is_word, defBody s_is_word, defScope s_is_word, [], []⟩
def dA_is_integer : He5.DefA := ⟨fun K => (He.ga K "is_integer"), "is_integer", "is_integer", defArgs s_is_integer, defBody s_is_integer, defScope s_is_integer, [], []⟩
def dA_is_list : He5.DefA := ⟨fun K => (He.ga K "is_list"), "is_list", "is_list", defArgs s_is_list, defBody s_is_list, defScope s_is_list, [], []⟩
def dA_is_modes : He5.DefA := ⟨fun K => (He.ga K "is_modes"), "is_modes", "is_modes", defArgs s_is_modes, defBody s_is_modes, defScope s_is_modes, [], []⟩
def dA_is_field : He5.DefA := ⟨fun K => (He.ga K "is_field"), "is_field", "is_field", defArgs s_is_field, defBody s_is_field, defScope s_is_field, [], []⟩
def dA_kept_fields : He5.DefA := ⟨fun K => (He.ga K "kept_fields"), "kept_fields", "kept_fields", defArgs s_kept_fields, defBody s_kept_fields, defScope s_kept_fields, [], []⟩
def dA_is_many : He5.DefA := ⟨fun K => (He.ga K "is_many"), "is_many", "is_many", defArgs s_is_many, defBody s_is_many, defScope s_is_many, [], []⟩
def dA_is_deed : He5.DefA := ⟨fun K => (He.ga K "is_deed"), "is_deed", "is_deed", defArgs s_is_deed, defBody s_is_deed, defScope s_is_deed, [], []⟩
def dA_are_moves : He5.DefA := ⟨fun K => (He.ga K "are_moves"), "are_moves", "are_moves", defArgs s_are_moves, defBody s_are_moves, defScope s_are_moves, [], []⟩
def dA_has_call_form : He5.DefA := ⟨fun K => (He.ga K "has_call_form"), "has_call_form", "has_call_form", defArgs s_has_call_form, defBody s_has_call_form, defScope s_has_call_form, [], []⟩
def dA_are_deeds : He5.DefA := ⟨fun K => (He.ga K "are_deeds"), "are_deeds", "are_deeds", defArgs s_are_deeds, defBody s_are_deeds, defScope s_are_deeds, [], []⟩
def dA_is_same : He5.DefA := ⟨fun K => (He.ga K "is_same"), "is_same", "is_same", defArgs s_is_same, defBody s_is_same, defScope s_is_same, [], []⟩
def dA_kept_call : He5.DefA := ⟨fun K => (He.ga K "kept_call"), "kept_call", "kept_call", defArgs s_kept_call, defBody s_kept_call, defScope s_kept_call, [], []⟩
def dA_wrong_part : He5.DefA := ⟨fun K => (He.ga K "wrong_part"), "wrong_part", "wrong_part", defArgs s_wrong_part, defBody s_wrong_part, defScope s_wrong_part, [], []⟩
def dA_kept_calls : He5.DefA := ⟨fun K => (He.ga K "kept_calls"), "kept_calls", "kept_calls", defArgs s_kept_calls, defBody s_kept_calls, defScope s_kept_calls, [], []⟩
def dA_all_ways : He5.DefA := ⟨fun K => (He.ga K "all_ways"), "all_ways", "all_ways", defArgs s_all_ways, defBody s_all_ways, defScope s_all_ways, [], []⟩
def dA_useful_ways : He5.DefA := ⟨fun K => (He.ga K "useful_ways"), "useful_ways", "useful_ways", defArgs s_useful_ways, defBody s_useful_ways, defScope s_useful_ways, [], []⟩
def dA_useful_places : He5.DefA := ⟨fun K => (He.ga K "useful_places"), "useful_places", "useful_places", defArgs s_useful_places, defBody s_useful_places, defScope s_useful_places, [], []⟩
def dA_told_apart : He5.DefA := ⟨fun K => (He.ga K "told_apart"), "told_apart", "told_apart", defArgs s_told_apart, defBody s_told_apart, defScope s_told_apart, [], []⟩
def dA_number_of_classes : He5.DefA := ⟨fun K => (He.ga K "number_of_classes"), "number_of_classes", "number_of_classes", defArgs s_number_of_classes, defBody s_number_of_classes, defScope s_number_of_classes, [], []⟩
def dA_least_machine : He5.DefA := ⟨fun K => (He.ga K "least_machine"), "least_machine", "least_machine", defArgs s_least_machine, defBody s_least_machine, defScope s_least_machine, [], []⟩
def dA_mark_of : He5.DefA := ⟨fun K => (He.ga K "mark_of"), "mark_of", "mark_of", defArgs s_mark_of, defBody s_mark_of, defScope s_mark_of, [], []⟩
def dA_marks_of : He5.DefA := ⟨fun K => (He.ga K "marks_of"), "marks_of", "marks_of", defArgs s_marks_of, defBody s_marks_of, defScope s_marks_of, [], []⟩
def dA_marked : He5.DefA := ⟨fun K => (He.ga K "marked"), "marked", "marked", defArgs s_marked, defBody s_marked, defScope s_marked, [], []⟩
def dA_is_rule : He5.DefA := ⟨fun K => (He.ga K "is_rule"), "is_rule", "is_rule", defArgs s_is_rule, defBody s_is_rule, defScope s_is_rule, [], []⟩
def dA_is_good : He5.DefA := ⟨fun K => (He.ga K "is_good"), "is_good", "is_good", defArgs s_is_good, defBody s_is_good, defScope s_is_good, [], []⟩
def dA_freest : He5.DefA := ⟨fun K => (He.ga K "freest"), "freest", "freest", defArgs s_freest, defBody s_freest, defScope s_freest, [.adr (He.dflAt ("freest", none) 0)], []⟩
def dA_law : He5.DefA := ⟨fun K => (He.ga K "law"), "law", "law", defArgs s_law, defBody s_law, defScope s_law, [], []⟩
def dA_kinit : He5.DefA := ⟨fun K => (He.ma K (He.ga K "Kind") "__init__"), "__init__", "Kind.__init__", defArgs s_Kind_init, defBody s_Kind_init, defScope s_Kind_init, [], []⟩
def dA_khas : He5.DefA := ⟨fun K => (He.ma K (He.ga K "Kind") "__contains__"), "__contains__", "Kind.__contains__", defArgs s_Kind_contains, defBody s_Kind_contains, defScope s_Kind_contains, [], []⟩
def dA_kiter : He5.DefA := ⟨fun K => (He.ma K (He.ga K "Kind") "__iter__"), "__iter__", "Kind.__iter__", defArgs s_Kind_iter, defBody s_Kind_iter, defScope s_Kind_iter, [], []⟩
def dA_oinit : He5.DefA := ⟨fun K => (He.ma K (He.ga K "Orders") "__init__"), "__init__", "Orders.__init__", defArgs s_Orders_init, defBody s_Orders_init, defScope s_Orders_init, [], []⟩
def dA_o_start : He5.DefA := ⟨fun K => (He.ma K (He.ga K "Orders") "start"), "start", "Orders.start", defArgs s_Orders_start, defBody s_Orders_start, defScope s_Orders_start, [], []⟩
def dA_o_place_behind : He5.DefA := ⟨fun K => (He.ma K (He.ga K "Orders") "place_behind"), "place_behind", "Orders.place_behind", defArgs s_Orders_place_behind, defBody s_Orders_place_behind, defScope s_Orders_place_behind, [], []⟩
def dA_o_contents_behind : He5.DefA := ⟨fun K => (He.ma K (He.ga K "Orders") "contents_behind"), "contents_behind", "Orders.contents_behind", defArgs s_Orders_contents_behind, defBody s_Orders_contents_behind, defScope s_Orders_contents_behind, [], []⟩
def dA_o_keeps_rules : He5.DefA := ⟨fun K => (He.ma K (He.ga K "Orders") "keeps_rules"), "keeps_rules", "Orders.keeps_rules", defArgs s_Orders_keeps_rules, defBody s_Orders_keeps_rules, defScope s_Orders_keeps_rules, [], []⟩
def dA_o_ways : He5.DefA := ⟨fun K => (He.ma K (He.ga K "Orders") "ways"), "ways", "Orders.ways", defArgs s_Orders_ways, defBody s_Orders_ways, defScope s_Orders_ways, [], []⟩
def dA_iRL : He5.DefA := ⟨fun K => (He.ma K (He.ga K "BadRule") "__init__"), "__init__", "BadRule.__init__", defArgs s_BadRule_init, defBody s_BadRule_init, defScope s_BadRule_init, [], []⟩
def ds0 : List He5.DefA := [dA_fresh, dA_fill, dA_take, dA_one, dA_mix, dA_same, dA_tried, dA_error, dA_other_error, dA_plan, dA_deeds, dA_call, dA_kind, dA_rules, dA_l_is_rule, dA_is_word, dA_is_integer, dA_is_list, dA_is_modes, dA_is_field]
def ds1 : List He5.DefA := [dA_kept_fields, dA_is_many, dA_is_deed, dA_are_moves, dA_has_call_form, dA_are_deeds, dA_is_same, dA_kept_call, dA_wrong_part, dA_kept_calls, dA_all_ways, dA_useful_ways, dA_useful_places, dA_told_apart, dA_number_of_classes, dA_least_machine, dA_mark_of, dA_marks_of, dA_marked, dA_is_rule]
def ds2 : List He5.DefA := [dA_is_good, dA_freest, dA_law, dA_kinit, dA_khas, dA_kiter, dA_oinit, dA_o_start, dA_o_place_behind, dA_o_contents_behind, dA_o_keeps_rules, dA_o_ways, dA_iRL]
def dsAll : DsM := [ds0, ds1, ds2]
def tsAll : List He.Tab := [(fun K => (He.ga K "SORTS_OF_DEEDS"), ["set", "add", "strike", "fresh", "clear"])]
set_option maxRecDepth 100000 in
def nm0 : List Str := ["_wall", "__name__", "MakerError", "BadField", "BadModes", "BadCall", "UnknownCall", "BadPlace", "BadText", "BadRow", "BadWord", "Refused", "BadThing", "BadWish", "BadRun", "BadCallers"]
def nm1 : List Str := ["BadKind", "BadRule", "DONE", "least_machine", "all_ways", "useful_ways", "useful_places", "told_apart", "number_of_classes", "THE_WORD", "marks_of", "mark_of", "marked", "MOST_LETTERS", "is_word", "is_integer"]
def nm2 : List Str := ["is_list", "freest", "is_good", "is_rule", "Orders", "MOST_FIELDS", "MOST_MODES", "MOST_CALLS", "MOST_DEEDS", "SORTS", "HANDS", "SORTS_OF_DEEDS", "WORD_DEEDS", "LIST_WORD_DEEDS", "kept_fields", "is_field"]
def nm3 : List Str := ["is_modes", "kept_calls", "wrong_part", "has_call_form", "are_moves", "are_deeds", "is_deed", "is_same", "is_many", "kept_call", "told_call", "written", "call_lines", "Kind", "_law_fresh", "_law_fill"]
def nm4 : List Str := ["_law_take", "_law_one", "_law_mix", "_law_same", "_law_tried", "_law_error", "_law_other_error", "_law_plan", "_law_deeds", "_law_call", "_law_kind", "_law_rules", "_law_is_rule"]
def names : List Str := nm0 ++ nm1 ++ nm2 ++ nm3 ++ nm4
abbrev R : PySem.W.OpenRow := PySem.W.OpenLaw.row PySem.Challenge.rw_makerlines_k32_rules_refused
abbrev hk : PySem.W.Hook := hookM 6 fsAll dsAll tsAll
def ob (s : PySem.W.SharedT) : AlM := obsMG 6 fsAll dsAll tsAll (HandSHeadRun.getT s)
theorem ob_eq (s : PySem.W.SharedT) : ob s = hk.obs s.abs := obsMG_eq (HandSHeadRun.getT_eq s)
theorem runF (w : World) : HandSHeadRun.RunEq R (PySem.W.view R.prog [85]) hk ob 15000 names (w.withFollow "special-get-raises" false) := by
  intro os
  kernel_rfl
theorem runT (w : World) : HandSHeadRun.RunEq R (PySem.W.view R.prog [85]) hk ob 15000 names (w.withFollow "special-get-raises" true) := by
  intro os
  kernel_rfl
theorem run (w : World) : HandSHeadRun.RunEq R (PySem.W.view R.prog [85]) hk ob 15000 names w := PySem.W.byRow2 "special-get-raises" (P := fun w => HandSHeadRun.RunEq R (PySem.W.view R.prog [85]) hk ob 15000 names w) runF runT w
end
theorem sc_fresh : FnScope ["_law_script"] ["_law_script"] (defScope s_fresh) := ⟨rfl, rfl, rfl, by decide +kernel, rfl, by decide +kernel, by decide +kernel⟩
theorem sc_fill : FnScope ["_law_state", "_law_cells", "_law_nth", "_law_seed", "_law_k", "_law_prime", "_law_far"] ["_law_state"] (defScope s_fill) := ⟨rfl, rfl, rfl, by decide +kernel, rfl, by decide +kernel, by decide +kernel⟩
theorem sc_take : FnScope ["_law_state", "_law_many", "_law_laps", "_law_digit"] ["_law_state", "_law_many"] (defScope s_take) := ⟨rfl, rfl, rfl, by decide +kernel, rfl, by decide +kernel, by decide +kernel⟩
theorem sc_one : FnScope ["_law_state", "_law_things"] ["_law_state", "_law_things"] (defScope s_one) := ⟨rfl, rfl, rfl, by decide +kernel, rfl, by decide +kernel, by decide +kernel⟩
/-- the state of the draws: at s, its cells ns at c -/
def StA (H : Hp) (s c : Addr) (ns : List Int) : Prop := c ≠ s ∧ H c = some (.lst (ns.map V.int)) ∧ ∃ (a b : Int) (m : Bool), H s = some (.lst [.ref c, .int a, .int b, .bl m])
theorem StA.keep {H H' : Hp} {s c : Addr} {ns : List Int} (x : StA H s c ns) (e : Same H H') : StA H' s c ns := by
  obtain ⟨n, h1, a, b, m, h2⟩ := x
  exact ⟨n, e _ _ h1, a, b, m, e _ _ h2⟩
theorem cut63 (ns : List Int) (h : ns.length ≤ 63) : cutV (ns.map V.int) none (some 63) = ns.map V.int := by
  have e : HT.sIx (ns.map V.int).length (ns.map V.int).length (some 63) = min 63 (ns.map V.int).length := HT.sIx_nat _ _ 63
  unfold cutV
  rw [HT.sIx_none, e, List.drop_zero, Nat.sub_zero]
  exact List.take_of_length_le (by rw [List.length_map]; omega)
def primes : List V := [.int 2147483647, .int 2147483629, .int 2147483587, .int 2147483579, .int 2147483563]
theorem primes_ok {i : Nat} {y : V} (h : primes[i]? = some y) : ∃ p : Int, y = .int p ∧ 0 < p ∧ p < 4294967296 := by
  have m := List.mem_of_getElem? h
  simp only [primes, List.mem_cons, List.not_mem_nil, or_false] at m
  rcases m with rfl | rfl | rfl | rfl | rfl <;> exact ⟨_, rfl, by decide, by decide⟩
def spFresh (K : PySem.W.Frag) : Sp := fun vs H Q _ => ∃ (a : Addr) (ns : List Int), vs = [.ref a] ∧ SqL K H a (ns.map V.int) ∧ ns.length ≤ 63 ∧
  ∀ s c H', Same H H' → H s = none → H c = none → StA H' s c ns → Q (.ref s) H'
def spFill : Sp := fun vs H Q _ => ∃ (s c : Addr) (ns : List Int), vs = [.ref s] ∧ StA H s c ns ∧ ns.length ≤ 63 ∧ ∀ H', SameX s H H' → StA H' s c ns → Q .non H'
def spTake : Sp := fun vs H Q _ => ∃ (s c : Addr) (ns : List Int) (n : Int), vs = [.ref s, .int n] ∧ StA H s c ns ∧ ns.length ≤ 63 ∧ 0 < n ∧ n < 1000000 ∧
  ∀ (d : Nat) H', (d : Int) < n → SameX s H H' → StA H' s c ns → Q (.int d) H'
def spOne (K : PySem.W.Frag) : Sp := fun vs H Q _ => ∃ (s c l : Addr) (ns : List Int) (xs : List V), vs = [.ref s, .ref l] ∧ StA H s c ns ∧ ns.length ≤ 63 ∧ l ≠ s ∧ (SqL K H l xs ∨ SqT K H l xs) ∧ 0 < xs.length ∧ xs.length < 1000000 ∧
  ∀ (d : Nat) (x : V) H', xs[d]? = some x → SameX s H H' → StA H' s c ns → Q x H'
section
variable {P : Program} {w : World} {K : PySem.W.Frag} {mg : Str → Option Value} {base : Heap}
theorem ok_fresh {f : Addr} {fd : FuncData} (F : DefX K mg "_law_fresh" s_fresh ["_law_script"] f fd) (T : Txt K mg) : Cal P w K mg base CX0 1 "_law_fresh" (spFresh K) := by
  refine cal_mk F sc_fresh (fun vs H Q E h => ?_) (fun cdv A outer s H vs Q E hr h => ?_)
  · obtain ⟨a, ns, rfl, _⟩ := h
    rfl
  · obtain ⟨a, ns, rfl, hs, hl, k⟩ := h
    refine ⟨_, (pss_one (ps_ret (pe_lst (pa_cons (pe_slice sl_list (pv 0) po_none (po_some pe_int)) (pa_cons pe_int (pa_cons pe_int (pa_cons pe_bl pa_nil))))))), ?_⟩
    refine ⟨_, rfl, _, rfl, a, _, rfl, hs, fun c hc => ⟨(by show 4 ≤ sizeLine; decide), fun t ht => ?_⟩⟩
    rw [cut63 ns hl] at ht ⊢
    obtain ⟨tc, htn⟩ := upd_none ht
    refine k t c _ (same_new (same_new (Same.refl H) hc) ht) htn hc ⟨tc.symm, ?_, 0, 0, false, upd_same⟩
    rw [upd_ne tc.symm, upd_same]
theorem ok_fill {f : Addr} {fd : FuncData} (F : DefX K mg "_law_fill" s_fill ["_law_state"] f fd) (T : Txt K mg) : Cal P w K mg base CX0 1 "_law_fill" spFill := by
  refine cal_mk F sc_fill (fun vs H Q E h => ?_) (fun cdv A outer s H vs Q E hr h => ?_)
  · obtain ⟨s, c, ns, rfl, _⟩ := h
    rfl
  · obtain ⟨s, c, ns, rfl, ⟨cs, hc, a, b, m, hs⟩, hl, k⟩ := h
    refine ⟨_, (pss_cons (ps_par (i := 1) (j := 2) (by rfl) sc_fill.nd rfl rfl (by decide) rfl rfl (pa_cons (pe_ix ix_list (pv 0) pe_int (fun _ _ => rfl)) (pa_cons (pe_ix ix_list (pv 0) pe_int (fun _ _ => rfl)) pa_nil)) (by rfl))
(pss_cons (ps_set (i := 3) sc_fill.nd rfl (Or.inl rfl) (pe_op op_add (pe_op op_mul pe_int (pv 2)) pe_int))
(pss_cut (ps_if (pt_cmpR op_gt (pe_callB call_len_seq (by rfl) T.len (by decide +kernel) (pa_cons (pv 1) pa_nil)) pe_int (nomark _))
(pss_one (ps_set (i := 3) sc_fill.nd rfl (Or.inl rfl) (pe_op op_add (pe_op op_mul pe_int (pe_op op_fdivN (pv 2) (pe_callB call_len_seq (by rfl) T.len (by decide +kernel) (pa_cons (pv 1) pa_nil)))) (pe_ix ix_list (pv 1) (pe_op op_modN (pe_callTy call_int1 (by rfl) T.int (by decide +kernel) (pa_cons (pv 2) pa_nil)) (pe_callB call_len_seq (by rfl) T.len (by decide +kernel) (pa_cons (pv 1) pa_nil))) (fun _ _ => rfl)))))
pss_nil)
(pss_cons (ps_asg (pe_op op_add (pv 2) pe_int) (pg_sub (pv 0) pe_int set_list))
(pss_cons (ps_asg (pe_cut (pe_or (pe_cmpR op_ge (pv 2) (pe_callB call_len_seq (by rfl) T.len (by decide +kernel) (pa_cons (pv 1) pa_nil)) (nomark _)) (pe_one (pe_cmpR op_lt (pv 3) (pe_op op_pow pe_int pe_int) (nomark _))))) (pg_sub (pv 0) pe_int set_list))
(pss_cons (ps_asg (pe_op op_sub (pv 3) (pe_op op_pow pe_int pe_int)) (pg_sub (pv 0) pe_int set_list))
(pss_one (ps_if (pt_val (pe_ix ix_list (pv 0) pe_int (fun _ _ => rfl)))
(pss_cons (ps_asg pe_int (pg_sub (pv 0) pe_int set_list))
(pss_one (ps_for PassesOwn.never rfl (pi_enumT (by rfl) T.enumerate (pa_cons (pe_tup (pa_cons pe_int (pa_cons pe_int (pa_cons pe_int (pa_cons pe_int (pa_cons pe_int pa_nil)))))) pa_nil)) (pg_tup (by rfl) (pgs_cons (pg_name (i := 4) sc_fill.nd rfl (Or.inl rfl)) (pgs_cons (pg_name (i := 5) sc_fill.nd rfl (Or.inl rfl)) pgs_nil)))
(pss_cons (ps_set (i := 6) sc_fill.nd rfl (Or.inl rfl) (pe_op op_modN (pe_callTy call_int1 (by rfl) T.int (by decide +kernel) (pa_cons (pe_op op_mul (pe_op op_add (pe_op op_add (pv 3) (pe_op op_mul (pe_op op_mul pe_int (pv 4)) (pv 4))) (pe_op op_mul pe_int (pv 4))) (pe_op op_add pe_int (pe_op op_mul pe_int (pv 4)))) pa_nil)) (pv 5)))
(pss_one (ps_asg (pe_op op_add (pe_op op_mul (pe_ix ix_list (pv 0) pe_int (fun _ _ => rfl)) (pv 5)) (pe_op op_modN (pe_callTy call_int1 (by rfl) T.int (by decide +kernel) (pa_cons (pe_op op_pow (pv 6) pe_int) pa_nil)) (pv 5))) (pg_sub (pv 0) pe_int set_list)))))))
pss_nil)))))))), ?_⟩
    have sq : ∀ {H' : Hp}, SameX s H H' → SqL K H' c (ns.map V.int) := fun e => .inl (.inl (e _ _ hc cs))
    have kd : ∀ (H' : Hp) (b' : Int) (m' : Bool) (a' : Int), SameX s H H' → H' s = some (.lst [.ref c, .int a', .int b', .bl m']) → Q .non H' := fun H' b' m' a' e h => k H' e ⟨cs, e _ _ hc cs, a', b', m', h⟩
    -- cells, nth = state[0], state[1]
    refine ⟨_, rfl, s, _, 0, .ref c, rfl, rfl, SqL.of hs, rfl, _, rfl, s, _, 1, .int a, rfl, rfl, SqL.of hs, rfl, _, _, rfl, ?_⟩
    refine ⟨_, rfl, _, _, rfl, rfl, .inl (by decide), _, _, rfl, rfl, ?_⟩
    -- the seed is some int
    refine ⟨fun σ' H' => H' = H ∧ ∃ z : Int, σ' = [some (.ref s), some (.ref c), some (.int a), some (.int z), none, none, none], ?_, ?_⟩
    · refine ⟨_, rfl, c, _, rfl, .inl (sq (SameX.refl s H)), _, _, rfl, rfl, _, rfl, ?_⟩
      refine ite2 (fun hp => ?_) (fun hn => ?_)
      · have hpos : 0 < ns.length := by
          have q : (0 : Int) < ((ns.map V.int).length : Int) := of_decide_eq_true hp
          rw [List.length_map] at q
          omega
        have hne : ((ns.map V.int).length : Int) ≠ 0 := by rw [List.length_map]; omega
        have hsm : ((ns.map V.int).length : Int).natAbs < 1073741824 := by rw [List.length_map]; omega
        have sq0 := sq (SameX.refl s H)
        obtain ⟨v, hv⟩ : ∃ v, atI (ns.map V.int) (a.fmod ((ns.map V.int).length : Int)) = some (V.int v) := by
          have h0 := Int.fmod_nonneg_of_pos a (b := ((ns.map V.int).length : Int)) (by rw [List.length_map]; omega)
          have h1 := Int.fmod_lt_of_pos a (b := ((ns.map V.int).length : Int)) (by rw [List.length_map]; omega)
          obtain ⟨j, hj⟩ := Int.eq_ofNat_of_zero_le h0
          rw [hj] at h1 ⊢
          rw [List.length_map] at h1
          have hjl : j < ns.length := by omega
          exact ⟨ns[j], atI_nat (by rw [List.getElem?_map, List.getElem?_eq_getElem hjl]; rfl)⟩
        refine ⟨_, rfl, _, rfl, c, _, rfl, .inl sq0, _, _, rfl, rfl, ⟨hne, hsm⟩, _, _, rfl, rfl, .inl (by decide), ?_⟩
        refine ⟨_, rfl, _, rfl, .inl ⟨_, rfl, _, rfl, c, _, rfl, .inl sq0, _, _, rfl, rfl, hne, ?_⟩⟩
        exact ⟨c, _, _, _, rfl, rfl, sq0, hv, _, _, rfl, rfl, rfl, _, rfl⟩
      · exact ⟨rfl, _, rfl⟩
    · rintro σ' H' ⟨rfl, z, rfl⟩
      have e1 : SameX s H' (upd H' s (.lst [.ref c, .int (a + 1), .int b, .bl m])) := (SameX.refl s H').put
      -- state[1] = nth + 1; state[3] = ..
      refine ⟨_, rfl, _, _, rfl, rfl, _, rfl, s, _, 1, 1, rfl, rfl, hs, rfl, ?_⟩
      refine ⟨fun v H2 => H2 = _ ∧ ∃ d : Bool, v = .bl d, ⟨_, rfl, _, rfl, c, _, rfl, .inl (sq e1), _, _, rfl, rfl, _, rfl, ite2 (fun _ => ⟨rfl, _, rfl⟩) (fun _ => ?_)⟩, ?_⟩
      · exact ⟨_, rfl, _, _, rfl, rfl, ⟨by decide, by decide, by decide⟩, _, _, rfl, rfl, rfl, _, rfl⟩
      rintro _ _ ⟨rfl, d, rfl⟩
      refine ⟨_, rfl, s, _, 3, 3, rfl, rfl, upd_same, rfl, ?_⟩
      rw [upd_upd]
      -- state[2] = seed - 10 ** 18
      refine ⟨_, rfl, _, _, rfl, rfl, ⟨by decide, by decide, by decide⟩, _, _, rfl, rfl, _, rfl, s, _, 2, 2, rfl, rfl, upd_same, rfl, ?_⟩
      rw [upd_upd]
      refine ⟨_, rfl, s, _, 3, .bl d, rfl, rfl, SqL.of upd_same, rfl, d, rfl, ite2 (fun _ => ?_) (fun _ => ?_)⟩
      · -- mixed
        refine ⟨_, rfl, s, _, 2, 2, rfl, rfl, upd_same, rfl, ?_⟩
        rw [upd_upd]
        refine ⟨by show 5 ≤ sizeLine; decide, fun t ht => ⟨t, _, rfl, SqT.of upd_same, ?_⟩⟩
        obtain ⟨ts, ht'⟩ := upd_none ht
        refine for_it walk_enumT (fun i σ H2 => SameX s H' H2 ∧ H2 t = some (.tup primes) ∧ (∃ b2 : Int, H2 s = some (.lst [.ref c, .int (a + 1), .int b2, .bl d])) ∧ ∃ x4 x5 x6, σ = [some (.ref s), some (.ref c), some (.int a), some (.int z), x4, x5, x6])
          ⟨((SameX.refl s H').put).new ht, upd_same, ⟨0, (upd_ne ts.symm).trans upd_same⟩, none, none, none, rfl⟩ (fun i σ H2 _ q => SqT.of q.2.1) ?_ ?_
        · rintro i x σ H2 H3 hi ⟨e2, e3, ⟨b2, e4⟩, x4, x5, x6, rfl⟩ ⟨U, _, y, rfl, hU, rfl, h1, hy⟩
          obtain rfl := Option.some.inj h1
          obtain ⟨p, rfl, p0, p1⟩ := primes_ok (i := i) hy
          have us : s ≠ U := fun q => by rw [q, hU] at e4; cases e4
          refine ⟨U, _, rfl, SqT.of upd_same, rfl, _, _, rfl, _, _, rfl, rfl, ?_⟩
          have hf0 : p ≠ 0 := by omega
          have hi5 : i < 5 := hi
          -- far
          refine ⟨_, rfl, _, rfl, _, _, rfl, rfl, .inl (by decide), _, rfl, _, _, rfl, rfl, .inr (by omega), _, _, rfl, rfl, _, rfl, _, _, rfl, rfl, .inl (by decide), _, _, rfl, rfl, ?_⟩
          refine ⟨_, rfl, _, _, rfl, rfl, .inl (by decide), _, _, rfl, rfl, _, _, rfl, rfl, .inr (by omega), .inl ⟨_, rfl, _, rfl, _, _, rfl, rfl, hf0, ?_⟩⟩
          have f0 := Int.fmod_nonneg_of_pos ((z + 10007 * (i : Int) * (i : Int) + 101 * (i : Int)) * (48271 + 2 * (i : Int))) (b := p) (by omega)
          have f1 := Int.fmod_lt_of_pos ((z + 10007 * (i : Int) * (i : Int) + 101 * (i : Int)) * (48271 + 2 * (i : Int))) (b := p) (by omega)
          have e5 : upd H2 U (.tup [.int (i : Nat), .int p]) s = some (.lst [.ref c, .int (a + 1), .int b2, .bl d]) := by rw [upd_ne us]; exact e4
          refine ⟨_, rfl, s, _, 2, .int b2, rfl, rfl, SqL.of e5, rfl, _, rfl, _, _, rfl, rfl, .inr (by omega), ?_⟩
          refine ⟨_, rfl, _, _, rfl, rfl, ⟨by decide, by decide, by omega⟩, .inl ⟨_, rfl, _, rfl, _, _, rfl, rfl, hf0, _, _, rfl, rfl, _, rfl, s, _, 2, 2, rfl, rfl, e5, rfl, ?_⟩⟩
          have tU : t ≠ U := fun q => by rw [q, hU] at e3; cases e3
          exact ⟨(e2.new hU).put, by rw [upd_ne ts, upd_ne tU]; exact e3, ⟨_, upd_same⟩, _, _, _, rfl⟩
        · rintro σ H2 ⟨e2, _, ⟨b2, e4⟩, _⟩
          exact kd _ _ _ _ e2 e4
      · exact kd _ _ _ _ (SameX.refl s H').put upd_same
def lapsOf (σ : L2.St) (_ : Hp) : Nat := match (σ[2]? : Option (Option V)) with
  | some (some (V.int l)) => (64 - l).toNat
  | _ => 0
theorem ok_take {f : Addr} {fd : FuncData} (F : DefX K mg "_law_take" s_take ["_law_state", "_law_many"] f fd) (T : Txt K mg) (c_fill : Cal P w K mg base CX0 1 "_law_fill" spFill) : Cal P w K mg base CX0 2 "_law_take" spTake := by
  refine cal_mk F sc_take (fun vs H Q E h => ?_) (fun cdv A outer s H vs Q E hr h => ?_)
  · obtain ⟨s, c, ns, n, rfl, _⟩ := h
    rfl
  · obtain ⟨s, c, ns, n, rfl, h0, hl, n0, n1, k⟩ := h
    refine ⟨_, (pss_cons (ps_set (i := 2) sc_take.nd rfl (Or.inl rfl) pe_int)
(pss_cons (ps_while PassesOwn.never (pt_cut (PW.pt (pw_and (pt_cmpR op_lt (pv 2) pe_int (nomark _)) (pw_and1 (pt_cut (PW.pt (pw_or (pt_cmpR op_eq (pe_ix ix_list (pv 0) pe_int (fun _ _ => rfl)) pe_int (nomark _)) (pw_or1 (pt_cut (PW.pt (pw_and (pt_val (pe_ix ix_list (pv 0) pe_int (fun _ _ => rfl))) (pw_and1 (pt_cmpR op_lt (pe_ix ix_list (pv 0) pe_int (fun _ _ => rfl)) (pe_op op_mul (pv 1) pe_int) (nomark _))))))))))))))
(pss_cons (ps_expr (pe_c c_fill hr (by first | decide | assumption) rfl (pa_cons (pv 0) pa_nil)))
(pss_cons (ps_aug (i := 2) sc_take.nd rfl (Or.inl rfl) pe_int ip_add)
(pss_one (ps_if (pt_cut (PW.pt (pw_and (pt_val (pe_ix ix_list (pv 0) pe_int (fun _ _ => rfl))) (pw_and1 (pt_cmpR op_lt (pe_ix ix_list (pv 0) pe_int (fun _ _ => rfl)) (pe_op op_mul (pv 1) pe_int) (nomark _))))))
(pss_one (ps_asg (pe_op op_add (pe_ix ix_list (pv 0) pe_int (fun _ _ => rfl)) (pe_op op_mul (pe_op op_mul (pv 1) pe_int) (pe_op op_add pe_int (pe_op op_modN (pe_callTy call_int1 (by rfl) T.int (by decide +kernel) (pa_cons (pe_ix ix_list (pv 0) pe_int (fun _ _ => rfl)) pa_nil)) pe_int)))) (pg_sub (pv 0) pe_int set_list)))
pss_nil)))))
(pss_cons (ps_set (i := 3) sc_take.nd rfl (Or.inl rfl) (pe_op op_modN (pe_callTy call_int1 (by rfl) T.int (by decide +kernel) (pa_cons (pe_ix ix_list (pv 0) pe_int (fun _ _ => rfl)) pa_nil)) (pv 1)))
(pss_cons (ps_asg (pe_op op_fdivN (pe_ix ix_list (pv 0) pe_int (fun _ _ => rfl)) (pv 1)) (pg_sub (pv 0) pe_int set_list))
(pss_one (ps_ret (pv 3))))))), ?_⟩
    show tWhile _ _ _ [some (.ref s), some (.int n), some (.int 0), none] H
    refine while_by (fun σ H2 => SameX s H H2 ∧ StA H2 s c ns ∧ ∃ l : Int, σ = [some (.ref s), some (.int n), some (.int l), none]) lapsOf ⟨SameX.refl s H, h0, 0, rfl⟩ ?_ (fun σ H Q Q' h x => ?_)
    · rintro σ H2 ⟨e2, ⟨cs, hc, a, b, m, hs⟩, l, rfl⟩
      refine ⟨fun t H3 => H3 = H2 ∧ (t = true → l < 64), ?_, ?_⟩
      · refine ⟨_, rfl, _, _, rfl, rfl, _, rfl, ite2 (fun h1 => ?_) (fun h1 => ⟨rfl, fun h => nomatch h⟩)⟩
        have hl64 : l < 64 := of_decide_eq_true h1
        refine ⟨fun t H3 => H3 = H2, ⟨_, rfl, s, _, 2, _, rfl, rfl, SqL.of hs, rfl, rfl, _, rfl, ite2 (fun _ => rfl) (fun _ => ?_)⟩, fun t H3 e => ⟨e, fun _ => hl64⟩⟩
        refine ⟨fun t H3 => H3 = H2, ⟨_, rfl, s, _, 3, _, rfl, rfl, SqL.of hs, rfl, m, rfl, ite2 (fun _ => ?_) (fun _ => rfl)⟩, fun t H3 e => e⟩
        exact ⟨_, rfl, s, _, 2, _, rfl, rfl, SqL.of hs, rfl, _, rfl, _, _, rfl, rfl, .inr (by decide), _, _, rfl, rfl, _, rfl, rfl⟩
      · rintro t H3 ⟨rfl, ht⟩
        refine ite2 (fun h1 => ?_) (fun h1 => ?_)
        · have hl64 := ht h1
          have dec : ∀ x : Option V, lapsOf [some (.ref s), some (.int n), some (.int (l + 1)), x] H3 < lapsOf [some (.ref s), some (.int n), some (.int l), none] H3 := fun x => by
            show (64 - (l + 1)).toNat < (64 - l).toNat
            omega
          refine ⟨_, rfl, s, c, ns, rfl, ⟨cs, hc, a, b, m, hs⟩, hl, fun H4 e4 h4 => ?_⟩
          obtain ⟨_, hc4, a4, b4, m4, hs4⟩ := id h4
          refine ⟨_, rfl, _, _, rfl, rfl, ?_⟩
          refine ⟨fun t H5 => H5 = H4, ⟨_, rfl, s, _, 3, _, rfl, rfl, SqL.of hs4, rfl, m4, rfl, ite2 (fun _ => ?_) (fun _ => rfl)⟩, ?_⟩
          · exact ⟨_, rfl, s, _, 2, _, rfl, rfl, SqL.of hs4, rfl, _, rfl, _, _, rfl, rfl, .inr (by decide), _, _, rfl, rfl, _, rfl, rfl⟩
          rintro t5 H5 rfl
          refine ite2 (fun _ => ?_) (fun _ => ?_)
          · refine ⟨_, rfl, s, _, 2, _, rfl, rfl, SqL.of hs4, rfl, _, rfl, _, _, rfl, rfl, .inr (by decide), ?_⟩
            refine ⟨_, rfl, s, _, 2, _, rfl, rfl, SqL.of hs4, rfl, .inl ⟨_, rfl, _, _, rfl, rfl, (by show (4093 : Int) ≠ 0; decide), _, _, rfl, rfl, _, _, rfl, rfl, .inl ?_, _, _, rfl, rfl, ?_⟩⟩
            · show -(2 ^ 64) < n * 4096 ∧ n * 4096 < 2 ^ 64
              omega
            refine ⟨_, rfl, s, _, 2, 2, rfl, rfl, hs4, rfl, ⟨(e2.trans e4).put, ⟨cs, ?_, _, _, _, upd_same⟩, _, rfl⟩, dec none⟩
            rw [upd_ne cs]
            exact hc4
          · exact ⟨⟨e2.trans e4, h4, _, rfl⟩, dec none⟩
        · refine ⟨_, rfl, s, _, 2, _, rfl, rfl, SqL.of hs, rfl, .inl ⟨_, rfl, _, rfl, _, _, rfl, rfl, by omega, ?_⟩⟩
          refine ⟨_, rfl, s, _, 2, _, rfl, rfl, SqL.of hs, rfl, _, rfl, _, _, rfl, rfl, ⟨by omega, by omega⟩, _, rfl, s, _, 2, 2, rfl, rfl, hs, rfl, _, rfl, ?_⟩
          have d0 := Int.fmod_nonneg_of_pos b (b := n) n0
          have d1 := Int.fmod_lt_of_pos b (b := n) n0
          obtain ⟨d, hd⟩ := Int.eq_ofNat_of_zero_le d0
          show Q (.int (b.fmod n)) _
          rw [hd]
          refine k d _ (by omega) e2.put ⟨cs, ?_, _, _, _, upd_same⟩
          rw [upd_ne cs]
          exact hc
    · obtain ⟨M, a, b⟩ := x
      exact ⟨M, a, fun b' H' m => h _ _ (b b' H' m)⟩
theorem ok_one {f : Addr} {fd : FuncData} (F : DefX K mg "_law_one" s_one ["_law_state", "_law_things"] f fd) (T : Txt K mg) (c_take : Cal P w K mg base CX0 2 "_law_take" spTake) : Cal P w K mg base CX0 3 "_law_one" (spOne K) := by
  refine cal_mk F sc_one (fun vs H Q E h => ?_) (fun cdv A outer s H vs Q E hr h => ?_)
  · obtain ⟨s, c, l, ns, xs, rfl, _⟩ := h
    rfl
  · obtain ⟨s, c, l, ns, xs, rfl, h0, hl, ls, hx, x0, x1, k⟩ := h
    refine ⟨_, (pss_one (ps_ret (pe_ix ix_seq (pv 1) (pe_c c_take hr (by first | decide | assumption) rfl (pa_cons (pv 0) (pa_cons (pe_callB call_len_seq (by rfl) T.len (by decide +kernel) (pa_cons (pv 1) pa_nil)) pa_nil))) (fun _ _ => rfl)))), ?_⟩
    refine ⟨_, rfl, _, rfl, _, rfl, l, xs, rfl, hx, s, c, ns, _, rfl, h0, hl, by omega, by omega, fun d H2 hd e2 h2 => ?_⟩
    have hdl : d < xs.length := by omega
    have hv : xs[d]? = some xs[d] := List.getElem?_eq_getElem hdl
    rcases hx with hx | hx
    · exact .inl ⟨l, xs, _, _, rfl, rfl, e2.l ls hx, atI_nat hv, k d _ H2 hv e2 h2⟩
    · exact .inr (.inl ⟨l, xs, _, _, rfl, rfl, e2.t ls hx, atI_nat hv, k d _ H2 hv e2 h2⟩)
end
end MK
set_option Elab.async false
set_option linter.all false
set_option autoImplicit false
set_option maxRecDepth 100000
set_option maxHeartbeats 4000000
namespace MK
open PySem PySem.Spec PyProof.Rows L2
local macro_rules | `(tactic| walk_at "x") => `(tactic| dsimp only [tSeq, tAsg, tRet, tDrop, tLst, tTup, tCons, tOp, tUn, tIfS])
theorem sc_is_word : FnScope ["thing", "letter"] ["thing"] (defScope s_is_word) := ⟨rfl, rfl, rfl, by decide +kernel, rfl, by decide +kernel, by decide +kernel⟩
theorem sc_is_integer : FnScope ["thing"] ["thing"] (defScope s_is_integer) := ⟨rfl, rfl, rfl, by decide +kernel, rfl, by decide +kernel, by decide +kernel⟩
theorem sc_is_list : FnScope ["thing"] ["thing"] (defScope s_is_list) := ⟨rfl, rfl, rfl, by decide +kernel, rfl, by decide +kernel, by decide +kernel⟩
theorem sc_is_modes : FnScope ["modes"] ["modes"] (defScope s_is_modes) := ⟨rfl, rfl, rfl, by decide +kernel, rfl, by decide +kernel, by decide +kernel⟩
def NoStr (K : PySem.W.Frag) (H : Hp) (x : V) : Prop := ∃ t, TyX K H x (.type t) ∧ kitB t "str" = some false
def spWord (K : PySem.W.Frag) : Sp := fun vs H Q _ => ∃ x, vs = [x] ∧ ((∃ z, x = .str z ∧ z.length ≤ sizeLine ∧ ∀ H', Same H H' → Q (.bl (wordB z)) H') ∨ (NoStr K H x ∧ Q (.bl false) H))
def spInt : Sp := fun vs H Q _ => ∃ i, vs = [.int i] ∧ Q (.bl true) H
def spList (K : PySem.W.Frag) : Sp := fun vs H Q _ => ∃ x xs, vs = [x] ∧ Sq K H x xs ∧ ∀ H', Same H H' → Q (.bl true) H'
def spModes : Sp := fun vs H Q _ => ∃ i : Int, vs = [.int i] ∧ Q (.bl (decide (1 ≤ i) && decide (i ≤ 4))) H
section
variable {P : Program} {w : World} {K : PySem.W.Frag} {mg : Str → Option Value} {base : Heap} {C : Cst}
theorem ok_word {f : Addr} {fd : FuncData} (F : DefX K mg "is_word" s_is_word ["thing"] f fd) (T : Txt K mg) (Cs : Csts K w mg C) : Cal P w K mg base CX0 1 "is_word" (spWord K) := by
  refine cal_mk F sc_is_word (fun vs H Q E h => ?_) (fun cdv A outer sh H vs Q E hr h => ?_)
  · obtain ⟨x, rfl, _⟩ := h
    rfl
  · obtain ⟨x, rfl, h⟩ := h
    refine ⟨_, (pss_cons (ps_if (pt_cut (PW.pt (pw_or (pt_not (pt_val (pe_callB call_isi (by rfl) T.isinstance (by decide +kernel) (pa_cons (pv 0) (pa_cons (pe_tyv (n := "str") (by rfl) T.str (by decide +kernel)) pa_nil))))) (pw_or1 (pt_not (pt_chain op_le op_le pe_int (pe_callB call_len_str (by rfl) T.len (by decide +kernel) (pa_cons (pv 0) pa_nil)) (pe_cst rfl Cs.MOST_LETTERS)))))))
(pss_one (ps_ret pe_bl))
pss_nil)
(pss_one (ps_ret (pe_callB (cr_all rfl) (by rfl) T.all (by decide +kernel) (pa_cons (pe_lc (own := [("letter", 1)]) (g := (gName 1)) (tt := tYes) rfl sc_is_word.nd (pi_str (pv 0)) (blkOk_by (own := [("letter", 1)]) (N := ["thing", "letter"]) (sc := defScope s_is_word) (by decide +kernel)) (fun _ _ _ _ _ => (pg_name (i := 1) sc_is_word.nd rfl (Or.inl rfl))) (fun _ _ _ _ _ => pts_nil) (fun _ _ _ _ _ => (pe_chain op_le_str op_le_str pe_str (pv 1) pe_str))) pa_nil))))), ?_⟩
    rcases h with ⟨z, rfl, hz, q⟩ | ⟨⟨t, ty, kt⟩, q⟩
    · refine ⟨fun t H' => H' = H ∧ t = !(decide (1 ≤ z.cps.size) && decide (z.cps.size ≤ 8)), ?_, ?_⟩
      · refine ⟨_, rfl, _, _, _, _, true, rfl, .ty _, .base (.str z), kit_ty (by decide +kernel), true, rfl, iteF ?_⟩
        refine ⟨_, rfl, z, rfl, hz, _, _, rfl, rfl, _, rfl, ?_⟩
        have e1 : decide ((1 : Int) ≤ (z.length : Int)) = decide (1 ≤ z.cps.size) := decide_eq_decide.mpr (by show ((1 : Int) ≤ (z.cps.size : Int)) ↔ _; omega)
        have e2 : decide ((z.length : Int) ≤ 8) = decide (z.cps.size ≤ 8) := decide_eq_decide.mpr (by show (((z.cps.size : Nat) : Int) ≤ 8) ↔ _; omega)
        rw [e1]
        refine ite2 (fun h1 => ?_) (fun h1 => ?_)
        · refine ⟨_, _, rfl, rfl, _, rfl, rfl, ?_⟩
          rw [e2, h1, Bool.true_and]
        · refine ⟨_, rfl, rfl, ?_⟩
          rw [Bool.not_eq_true] at h1
          rw [h1, Bool.false_and]
      · rintro t H' ⟨rfl, rfl⟩
        refine ite2 (fun h1 => ?_) (fun h1 => ?_)
        · have e : wordB z = false := by
            rw [Bool.not_eq_true'] at h1
            unfold wordB
            rw [h1, Bool.false_and]
          have := q _ (Same.refl H')
          rw [e] at this
          exact this
        · rw [Bool.not_eq_true', Bool.not_eq_false] at h1
          have hs : z.cps.toList.length < 9 := by
            have := of_decide_eq_true (Bool.and_eq_true_iff.mp h1).2
            rw [Array.length_toList]
            omega
          refine ⟨_, rfl, z, rfl, fun D hD => ?_⟩
          refine lc_it walk_str (fun i H2 => Same H' H2 ∧ H2 D = some (.lst (((z.cps.toList.take i).map letterB).map V.bl))) ⟨same_new (Same.refl H') hD, by rw [upd_same]; rfl⟩ (fun _ _ _ _ => trivial) ?_ ?_
          · rintro i x H3 H2 hi ⟨e2, d2⟩ ⟨rfl, c, hc, rfl⟩
            refine ⟨rfl, ?_⟩
            refine ⟨_, rfl, _, _, rfl, rfl, _, rfl, ?_⟩
            rw [letter_le]
            have step : Same H' (upd H2 D (.lst (((z.cps.toList.take i).map letterB).map V.bl ++ [V.bl (letterB c)]))) ∧ upd H2 D (.lst (((z.cps.toList.take i).map letterB).map V.bl ++ [V.bl (letterB c)])) D = some (.lst (((z.cps.toList.take (i + 1)).map letterB).map V.bl)) := by
              refine ⟨fun b o hb => ?_, ?_⟩
              · rw [upd_ne (ne_of_none hb hD)]
                exact e2 _ _ hb
              · rw [upd_same, letters_take _ i c (by rw [Array.getElem?_toList]; exact hc), List.map_append]
                rfl
            have short : (((z.cps.toList.take i).map letterB).map V.bl).length < sizeLine := by
              rw [List.length_map, List.length_map]
              exact Nat.lt_of_le_of_lt (List.length_take_le' ..) (Nat.lt_trans hs (by decide))
            refine ite2 (fun h2 => ?_) (fun h2 => ?_)
            · refine ⟨_, _, rfl, rfl, _, d2, short, ?_⟩
              rw [letter_ge, show decide (c ≤ 122) = letterB c by unfold letterB; rw [h2, Bool.true_and]]
              exact step
            · refine ⟨_, d2, short, ?_⟩
              rw [Bool.not_eq_true] at h2
              rw [show false = letterB c by unfold letterB; rw [h2, Bool.false_and]]
              exact step
          · rintro H2 ⟨e2, d2⟩
            refine ⟨D, _, rfl, SqL.of d2, ?_⟩
            have := q _ e2
            unfold wordB at this
            rw [h1, Bool.true_and] at this
            have ev : ((z.cps.toList.take z.cps.size).map letterB).all id = z.cps.toList.all letterB := by
              rw [← Array.length_toList, List.take_length, List.all_map]
              rfl
            rw [ev]
            exact this
    · refine ⟨fun t H' => H' = H ∧ t = true, ?_, ?_⟩
      · refine ⟨_, rfl, _, _, _, _, false, rfl, .ty _, ty, kit_ty kt, false, rfl, iteT ⟨rfl, rfl⟩⟩
      · rintro _ _ ⟨rfl, rfl⟩
        exact iteT q
theorem ok_integer {f : Addr} {fd : FuncData} (F : DefX K mg "is_integer" s_is_integer ["thing"] f fd) (T : Txt K mg) : Cal P w K mg base CX0 1 "is_integer" spInt := by
  refine cal_mk F sc_is_integer (fun vs H Q E h => ?_) (fun cdv A outer sh H vs Q E hr h => ?_)
  · obtain ⟨i, rfl, _⟩ := h
    rfl
  · obtain ⟨i, rfl, q⟩ := h
    refine ⟨_, (pss_one (ps_ret (pe_cut (pe_and (pe_callB call_isi (by rfl) T.isinstance (by decide +kernel) (pa_cons (pv 0) (pa_cons (pe_tyv (n := "int") (by rfl) T.int (by decide +kernel)) pa_nil))) (pe_one (pe_not (pe_callB call_isi (by rfl) T.isinstance (by decide +kernel) (pa_cons (pv 0) (pa_cons (pe_tyv (n := "bool") (by rfl) T.bool (by decide +kernel)) pa_nil))))))))), ?_⟩
    refine ⟨fun v H2 => v = .bl true ∧ H2 = H, ?_, fun v H2 e => by rw [e.1, e.2]; exact q⟩
    refine ⟨_, rfl, _, _, _, _, true, rfl, .ty _, .base (.int i), kit_ty (by decide +kernel), true, rfl, iteT ?_⟩
    exact ⟨_, rfl, _, _, _, _, false, rfl, .ty _, .base (.int i), kit_ty (by decide +kernel), _, rfl, rfl, rfl⟩
theorem ok_list {f : Addr} {fd : FuncData} (F : DefX K mg "is_list" s_is_list ["thing"] f fd) (T : Txt K mg) : Cal P w K mg base CX0 1 "is_list" (spList K) := by
  refine cal_mk F sc_is_list (fun vs H Q E h => ?_) (fun cdv A outer sh H vs Q E hr h => ?_)
  · obtain ⟨x, xs, rfl, _⟩ := h
    rfl
  · obtain ⟨x, xs, rfl, ⟨a, rfl, sq⟩, q⟩ := h
    refine ⟨_, (pss_one (ps_ret (pe_callB call_isiT (by rfl) T.isinstance (by decide +kernel) (pa_cons (pv 0) (pa_cons (pe_tup (pa_cons (pe_tyv (n := "list") (by rfl) T.list (by decide +kernel)) (pa_cons (pe_tyv (n := "tuple") (by rfl) T.tuple (by decide +kernel)) pa_nil))) pa_nil))))), ?_⟩
    obtain ⟨t, ty, kt⟩ := sq_ty sq
    refine ⟨_, rfl, by show 2 ≤ sizeLine; decide, fun p hp => ?_⟩
    have e1 : Same H (upd H p (.tup [.ty "list", .ty "tuple"])) := same_new (Same.refl H) hp
    exact ⟨_, p, _, _, _, true, rfl, upd_same, .cons (.ty _) (.cons (.ty _) .nil), tyx_keep e1 ty, kt, q _ e1⟩
theorem ok_modes {f : Addr} {fd : FuncData} (F : DefX K mg "is_modes" s_is_modes ["modes"] f fd) (T : Txt K mg) (Cs : Csts K w mg C) (c_is_integer : Cal P w K mg base CX0 1 "is_integer" spInt) : Cal P w K mg base CX0 2 "is_modes" spModes := by
  refine cal_mk F sc_is_modes (fun vs H Q E h => ?_) (fun cdv A outer sh H vs Q E hr h => ?_)
  · obtain ⟨i, rfl, _⟩ := h
    rfl
  · obtain ⟨i, rfl, q⟩ := h
    refine ⟨_, (pss_one (ps_ret (pe_cut (pe_and (pe_c c_is_integer hr (by first | decide | assumption) rfl (pa_cons (pv 0) pa_nil)) (pe_one (pe_chain op_le op_le pe_int (pv 0) (pe_cst rfl Cs.MOST_MODES))))))), ?_⟩
    refine ⟨fun v H2 => v = .bl (decide (1 ≤ i) && decide (i ≤ 4)) ∧ H2 = H, ?_, fun v H2 e => by rw [e.1, e.2]; exact q⟩
    refine ⟨_, rfl, i, rfl, true, rfl, iteT ?_⟩
    refine ⟨_, rfl, _, _, rfl, rfl, _, rfl, ite2 (fun h1 => ?_) (fun h1 => ?_)⟩
    · refine ⟨_, _, rfl, rfl, ?_, rfl⟩
      rw [h1, Bool.true_and]
    · refine ⟨?_, rfl⟩
      rw [Bool.not_eq_true] at h1
      rw [h1, Bool.false_and]
end
end MK
set_option Elab.async false
set_option linter.all false
set_option autoImplicit false
set_option maxRecDepth 100000
set_option maxHeartbeats 4000000
namespace MK
open PySem PySem.Spec PyProof.Rows L2
local macro_rules | `(tactic| walk_at "x") => `(tactic| dsimp only [tSeq, tAsg, tRet, tDrop, tLst, tTup, tCons, tOp, tUn, tIfS])
theorem sc_is_field : FnScope ["item", "earlier", "name", "sort", "need"] ["item", "earlier"] (defScope s_is_field) := ⟨rfl, rfl, rfl, by decide +kernel, rfl, by decide +kernel, by decide +kernel⟩
theorem sc_kept_fields : FnScope ["fields", "kept", "index", "item", "field", "earlier"] ["fields"] (defScope s_kept_fields) := ⟨rfl, rfl, rfl, by decide +kernel, rfl, by decide +kernel, by decide +kernel⟩
/-- a field -/
def spField (K : PySem.W.Frag) : Sp := fun vs H Q _ => ∃ (v : V) (e : Addr) (fd : FD) (ys : List Str), vs = [v, .ref e] ∧ FdA K H v fd ∧ SqL K H e (ys.map V.str) ∧ wordB fd.nm = true ∧ fd.nm ∉ ys ∧ ∀ H', Same H H' → Q (.bl true) H'
def spFields (K : PySem.W.Frag) : Sp := fun vs H Q _ => ∃ (s : Addr) (v : V) (fvs : List V) (fs : List FD), vs = [v] ∧ H s ≠ none ∧ Sq K (Off s H) v fvs ∧ Al (FdA K (Off s H)) fvs fs ∧ FsOk fs ∧
  ∀ r rvs H', Same H H' → Tu K (Off s H') r rvs → Al (FdT K (Off s H')) rvs fs → Q r H'
theorem word_len {z : Str} (h : wordB z = true) : z.length ≤ sizeLine := by
  unfold wordB at h
  have h1 := (Bool.and_eq_true_iff.mp h).1
  have h2 := of_decide_eq_true (Bool.and_eq_true_iff.mp h1).2
  exact Nat.le_trans (show z.cps.size ≤ 8 from h2) (by decide)
theorem nm_new {zs : List Str} {i : Nat} {z : Str} (nd : zs.Nodup) (h : zs[i]? = some z) : z ∉ zs.take i := by
  have hi := (List.getElem?_eq_some_iff.mp h).1
  have := not_ahead nd hi
  rw [List.getD_eq_getElem?_getD, h] at this
  exact this
section
variable {P : Program} {w : World} {K : PySem.W.Frag} {mg : Str → Option Value} {base : Heap} {C : Cst}
theorem ok_field {f : Addr} {fd : FuncData} (F : DefX K mg "is_field" s_is_field ["item", "earlier"] f fd) (T : Txt K mg) (Cs : Csts K w mg C) (c_is_list : Cal P w K mg base CX0 1 "is_list" (spList K)) (c_is_word : Cal P w K mg base CX0 1 "is_word" (spWord K)) : Cal P w K mg base CX0 2 "is_field" (spField K) := by
  refine cal_mk F sc_is_field (fun vs H Q E h => ?_) (fun cdv A outer sh H vs Q E hr h => ?_)
  · obtain ⟨v, e, fd, ys, rfl, _⟩ := h
    rfl
  · obtain ⟨v, e, fd, ys, rfl, ⟨a, rfl, hf⟩, he, hw, hn, q⟩ := h
    refine ⟨_, (pss_cons (ps_if (pt_cut (PW.pt (pw_or (pt_not (pt_val (pe_c c_is_list hr (by first | decide | assumption) rfl (pa_cons (pv 0) pa_nil)))) (pw_or1 (pt_cmpR op_ne (pe_callB call_len_seq (by rfl) T.len (by decide +kernel) (pa_cons (pv 0) pa_nil)) pe_int (nomark _))))))
(pss_one (ps_ret pe_bl))
pss_nil)
(pss_cons (ps_asg (pv 0) (pg_sq (by rfl) (pgs_cons (pg_name (i := 2) sc_is_field.nd rfl (Or.inl rfl)) (pgs_cons (pg_name (i := 3) sc_is_field.nd rfl (Or.inl rfl)) (pgs_cons (pg_name (i := 4) sc_is_field.nd rfl (Or.inl rfl)) pgs_nil)))))
(pss_one (ps_ret (pe_cut (pe_and (pe_c c_is_word hr (by first | decide | assumption) rfl (pa_cons (pv 2) pa_nil)) (pe_and (pe_cmpR op_notIn_seq (pv 2) (pv 1) (by rfl)) (pe_and (pe_cmpR op_in_seq (pv 3) (pe_cst rfl Cs.SORTS) (by rfl)) (pe_one (pe_callB call_isi (by rfl) T.isinstance (by decide +kernel) (pa_cons (pv 4) (pa_cons (pe_tyv (n := "bool") (by rfl) T.bool (by decide +kernel)) pa_nil)))))))))))), ?_⟩
    refine ⟨fun t H' => t = false ∧ Same H H', ⟨_, rfl, .ref a, _, rfl, ⟨a, rfl, hf⟩, fun H1 e1 => ⟨true, rfl, iteF ?_⟩⟩, ?_⟩
    · exact ⟨_, rfl, a, _, rfl, hf.elim (fun h => .inl (e1.seq h)) (fun h => .inr (same_t e1 h)), rfl, _, rfl, rfl, e1⟩
    rintro _ H1 ⟨rfl, e1⟩
    refine iteF ?_
    have hf1 : SqL K H1 a (FdV fd) ∨ SqT K H1 a (FdV fd) := hf.elim (fun h => .inl (e1.seq h)) (fun h => .inr (same_t e1 h))
    refine ⟨_, rfl, _, ⟨a, rfl, hf1⟩, rfl, _, _, rfl, _, _, rfl, _, _, rfl, rfl, ?_⟩
    refine ⟨fun v H2 => v = .bl true ∧ Same H H2, ?_, fun v H2 e => by rw [e.1]; exact q _ e.2⟩
    refine ⟨_, rfl, _, rfl, .inl ⟨_, rfl, word_len hw, fun H2 e2 => ?_⟩⟩
    rw [hw]
    refine ⟨_, rfl, iteT ?_⟩
    have e02 := e1.trans e2
    refine ⟨_, rfl, _, rfl, e, _, rfl, .inl (e02.seq he), rfl, flat_strs _, ?_⟩
    rw [inV_strs, decide_eq_false hn]
    refine ⟨_, rfl, iteT ?_⟩
    refine ⟨_, rfl, C.sorts, _, rfl, .inr (Cs.t_sorts _), rfl, rfl, true, ?_, iteT ?_⟩
    · cases fd.many <;> decide
    · exact ⟨_, rfl, _, _, _, _, true, rfl, .ty _, .base (.bl _), kit_ty (by decide +kernel), rfl, e02⟩
theorem ok_fields {f : Addr} {fd : FuncData} (F : DefX K mg "kept_fields" s_kept_fields ["fields"] f fd) (T : Txt K mg) (Cs : Csts K w mg C) (c_is_list : Cal P w K mg base CX0 1 "is_list" (spList K)) (c_is_field : Cal P w K mg base CX0 2 "is_field" (spField K)) : Cal P w K mg base CX0 3 "kept_fields" (spFields K) := by
  refine cal_mk F sc_kept_fields (fun vs H Q E h => ?_) (fun cdv A outer sh H vs Q E hr h => ?_)
  · obtain ⟨s, v, fvs, fs, rfl, _⟩ := h
    rfl
  · obtain ⟨s, v, fvs, fs, rfl, hs, ⟨a, rfl, hv⟩, hal, hok, k⟩ := h
    refine ⟨_, (pss_cons (ps_if (pt_cut (PW.pt (pw_or (pt_not (pt_val (pe_c c_is_list hr (by first | decide | assumption) rfl (pa_cons (pv 0) pa_nil)))) (pw_or1 (pt_cmpR op_eq (pe_callB call_len_seq (by rfl) T.len (by decide +kernel) (pa_cons (pv 0) pa_nil)) pe_int (nomark _))))))
(pss_one (ps_never))
pss_nil)
(pss_cons (ps_set (i := 1) sc_kept_fields.nd rfl (Or.inl rfl) (pe_lst pa_nil))
(pss_cons (ps_for PassesOwn.never rfl (pi_enV (by rfl) T.enumerate (pa_cons (pv 0) pa_nil)) (pg_tup (by rfl) (pgs_cons (pg_name (i := 2) sc_kept_fields.nd rfl (Or.inl rfl)) (pgs_cons (pg_name (i := 3) sc_kept_fields.nd rfl (Or.inl rfl)) pgs_nil)))
(pss_cons (ps_setLc (i := 5) (own := [("field", 4)]) (g := (gName 4)) (tt := tYes) rfl sc_kept_fields.nd rfl rfl (sw_true rfl rfl rfl (by decide +kernel)) (pi_list (pv 1)) (blkOk_by (own := [("field", 4)]) (N := ["fields", "kept", "index", "item", "field", "earlier"]) (sc := defScope s_kept_fields) (by decide +kernel)) (fun _ _ _ _ _ => (pg_name (i := 4) sc_kept_fields.nd rfl (Or.inl rfl))) (fun _ _ _ _ _ => pts_nil) (fun _ _ _ _ _ => (pe_ix (ix_tupK (K := K) rfl) (pv 4) pe_int (fun _ _ => rfl))))
(pss_cons (ps_if (pt_cut (PW.pt (pw_or (pt_cmpR op_ge (pv 2) (pe_cst rfl Cs.MOST_FIELDS) (nomark _)) (pw_or1 (pt_not (pt_val (pe_c c_is_field hr (by first | decide | assumption) rfl (pa_cons (pv 3) (pa_cons (pv 5) pa_nil)))))))))
(pss_one (ps_never))
pss_nil)
(pss_one (ps_expr (pe_bm PySem.F.plainAttrs_list PySem.F.slot_list_append PySem.F.type_list_append mt_append (pv 1) (pa_cons (pe_callTy call_tuple_of (by rfl) T.tuple (by decide +kernel) (pa_cons (pv 3) pa_nil)) pa_nil)))))))
(pss_one (ps_ret (pe_callTy call_tuple_of (by rfl) T.tuple (by decide +kernel) (pa_cons (pv 1) pa_nil))))))), ?_⟩
    have hv0 : SqL K H a fvs ∨ SqT K H a fvs := hv.elim (fun h => .inl (off_same.seq h)) (fun h => .inr (same_t off_same h))
    have len3 : fvs.length = fs.length := hal.1
    have l1 := hok.pos
    have l3 := hok.le
    refine ⟨fun t H' => t = false ∧ Same H H', ⟨_, rfl, .ref a, _, rfl, ⟨a, rfl, hv0⟩, fun H1 e1 => ⟨true, rfl, iteF ?_⟩⟩, ?_⟩
    · exact ⟨_, rfl, a, _, rfl, hv0.elim (fun h => .inl (e1.seq h)) (fun h => .inr (same_t e1 h)), rfl, _, rfl, decide_eq_false (fun e => by have := V.int.inj e; omega), e1⟩
    rintro _ H1 ⟨rfl, e1⟩
    refine iteF ?_
    refine ⟨by show 0 ≤ sizeLine; decide, fun D hD => ?_⟩
    have hsD : D ≠ s := fun e => by
      cases q : H s with
      | none => exact hs q
      | some o => rw [e, e1 _ _ q] at hD; cases hD
    have hD0 := none_of e1 hD
    refine ⟨_, rfl, a, fvs, Off s H, rfl, hv, off_same.trans (same_new e1 hD), fun J G wk hG => ?_⟩
    refine for_it wk (fun i σ H2 => Same H H2 ∧ ∃ kvs : List V, H2 D = some (.lst kvs) ∧ Al (FdT K (Off D (Off s H2))) kvs (fs.take i) ∧ ∃ x2 x3 x4 x5, σ = [some (.ref a), some (.ref D), x2, x3, x4, x5])
      ⟨same_new e1 hD, [], upd_same, Al.nil, none, none, none, none, rfl⟩ (fun i σ H2 _ h => hG _ (off_same.trans h.1)) ?_ ?_
    · rintro i x σ H2 H3 hi ⟨e2, kvs, d2, al, x2, x3, x4, x5, rfl⟩ ⟨U, _, y, rfl, hU, rfl, h1, hy⟩
      obtain rfl := Option.some.inj h1
      obtain ⟨f, hf, hfa⟩ := hal.get hy
      have hfm := List.mem_of_getElem? hf
      have e3 : Same H2 (upd H2 U (.tup [.int (i : Nat), y])) := same_new (Same.refl H2) hU
      refine ⟨U, _, rfl, SqT.of upd_same, rfl, _, _, rfl, _, _, rfl, rfl, ?_⟩
      refine ⟨_, rfl, D, rfl, ⟨_, SqL.of (e3 _ _ d2)⟩, fun D2 hD2 => ?_⟩
      refine lc_list (K := K) (a := D) (xs := kvs) (fun j H4 => Same H2 H4 ∧ H4 D2 = some (.lst ((((fs.take i).take j).map (·.nm)).map V.str))) ⟨same_new e3 hD2, upd_same⟩ (fun j H4 _ h => SqL.of (h.1 _ _ d2)) ?_ ?_
      · rintro j v H4 hv4 ⟨e4, d4⟩
        obtain ⟨g, hg, u, rfl, hu⟩ := al.get hv4
        have hu4 : SqT K H4 u (FdV g) := same_t (off_same.trans (off_same.trans e4)) hu
        refine ⟨rfl, ?_⟩
        refine ⟨_, rfl, u, _, 0, .str g.nm, rfl, rfl, hu4, rfl, _, d4, ?_, fun b o hb => ?_, ?_⟩
        · rw [List.length_map, List.length_map, List.length_take, List.length_take]
          exact Nat.lt_of_le_of_lt (by omega : _ ≤ 3) (by decide)
        · rw [upd_ne (ne_of_none (e3 _ _ hb) hD2)]
          exact e4 _ _ hb
        · rw [upd_same, List.take_succ (i := j), hg]
          simp
      rintro H4 ⟨e4, d4⟩
      rw [show kvs.length = (fs.take i).length from al.1, List.take_length] at d4
      have hi3 : i < fs.length := by
        have : i < fvs.length := hi
        omega
      have e24 := e2.trans e4
      refine ⟨fun t H' => t = false ∧ Same H4 H', ⟨_, rfl, _, _, rfl, rfl, _, rfl, iteB (decide_eq_false (by omega)) ?_⟩, ?_⟩
      · refine ⟨_, rfl, _, rfl, y, D2, f, _, rfl, FdA.keep (off_same.trans e24) hfa, SqL.of d4, hok.word f hfm, ?_, fun H5 e5 => ⟨true, rfl, rfl, e5⟩⟩
        rw [List.map_take]
        exact nm_new hok.nd (by rw [List.getElem?_map, hf]; rfl)
      rintro _ H5 ⟨rfl, e5⟩
      refine iteF ?_
      have e25 := e24.trans e5
      have d5 := (e4.trans e5) _ _ d2
      have kl : kvs.length < sizeLine := by
        rw [al.1, List.length_take]
        exact Nat.lt_of_le_of_lt (by omega : _ ≤ 3) (by decide)
      have tk : fs.take (i + 1) = fs.take i ++ [f] := by
        rw [List.take_succ, hf]
        rfl
      have fin : ∀ v H6, Same H5 H6 → FdT K (Off D (Off s H6)) v f → Same H (upd H6 D (.lst (kvs ++ [v]))) ∧ upd H6 D (.lst (kvs ++ [v])) D = some (.lst (kvs ++ [v])) ∧ Al (FdT K (Off D (Off s (upd H6 D (.lst (kvs ++ [v])))))) (kvs ++ [v]) (fs.take (i + 1)) := fun v H6 e6 hf6 => by
        refine ⟨fun b o hb => ?_, upd_same, ?_⟩
        · rw [upd_ne (ne_of_none hb hD0)]
          exact e6 _ _ (e25 _ _ hb)
        · rw [off_upd hsD, off_put, tk]
          exact (al.mono fun _ _ h => FdT.keep (same_off (same_off (e4.trans (e5.trans e6)))) h).snoc hf6
      refine ⟨_, rfl, .inl ⟨rfl, _, SqL.of d5⟩, _, rfl, ?_⟩
      obtain ⟨b, rfl, hb⟩ := hfa
      rcases hb with hb | hb
      · refine ⟨b, _, rfl, .inl ⟨(off_same.trans e25).seq hb, fun l hl => ?_⟩⟩
        have ls : l ≠ s := fun e => by
          cases q : H s with
          | none => exact hs q
          | some o => rw [e, e25 _ _ q] at hl; cases hl
        have lD : l ≠ D := fun e => by rw [e, d5] at hl; cases hl
        obtain ⟨p1, p2, p3⟩ := fin (.ref l) (upd H5 l (.tup (FdV f))) (same_new (Same.refl H5) hl) (Tu.tup (by rw [off_ne lD, off_ne ls, upd_same]))
        exact ⟨D, kvs, _, rfl, rfl, (upd_ne (Ne.symm lD)).trans d5, kl, p1, _, p2, p3, _, _, _, _, rfl⟩
      · obtain ⟨p1, p2, p3⟩ := fin (.ref b) H5 (Same.refl H5) ⟨b, rfl, same_t (same_offN (same_off e25) (off_none hD0)) hb⟩
        exact ⟨b, _, rfl, .inr ⟨same_t (off_same.trans e25) hb, ⟨D, kvs, _, rfl, rfl, d5, kl, p1, _, p2, p3, _, _, _, _, rfl⟩⟩⟩
    · rintro σ H2 ⟨e2, kvs, d2, al, x2, x3, x4, x5, rfl⟩
      refine ⟨_, rfl, D, kvs, rfl, .inl ⟨SqL.of d2, fun p hp => ?_⟩⟩
      have ps : p ≠ s := fun e => by
        cases q : H s with
        | none => exact hs q
        | some o => rw [e, e2 _ _ q] at hp; cases hp
      rw [len3, List.take_length] at al
      have e3 : Same H2 (upd H2 p (.tup kvs)) := same_new (Same.refl H2) hp
      refine k _ kvs _ (e2.trans e3) (Tu.tup (by rw [off_ne ps, upd_same])) (al.mono fun _ _ h => FdT.keep (off_same.trans (same_off e3)) h)
end
end MK
set_option Elab.async false
set_option linter.all false
set_option autoImplicit false
set_option maxRecDepth 100000
set_option maxHeartbeats 4000000
namespace MK
open PySem PySem.Spec PyProof.Rows L2
local macro_rules | `(tactic| walk_at "x") => `(tactic| dsimp only [tSeq, tAsg, tRet, tDrop, tLst, tTup, tCons, tOp, tUn, tIfS])
theorem sc_is_many : FnScope ["field", "sorts"] ["field", "sorts"] (defScope s_is_many) := ⟨rfl, rfl, rfl, by decide +kernel, rfl, by decide +kernel, by decide +kernel⟩
theorem sc_is_deed : FnScope ["pair", "sorts", "deed", "field"] ["pair", "sorts"] (defScope s_is_deed) := ⟨rfl, rfl, rfl, by decide +kernel, rfl, by decide +kernel, by decide +kernel⟩
theorem sc_are_moves : FnScope ["moves", "modes", "move"] ["moves", "modes"] (defScope s_are_moves) := ⟨rfl, rfl, rfl, by decide +kernel, rfl, by decide +kernel, by decide +kernel⟩
theorem sc_has_call_form : FnScope ["item", "name", "hand", "moves", "deeds", "same"] ["item"] (defScope s_has_call_form) := ⟨rfl, rfl, rfl, by decide +kernel, rfl, by decide +kernel, by decide +kernel⟩
def spMany : Sp := fun vs H Q _ => ∃ (z : Str) (so : Addr) (fs : List FD), vs = [.str z, .ref so] ∧ H so = some (.dK (sortsV fs)) ∧ (fs.map (·.nm)).Nodup ∧ (∃ f ∈ fs, f.nm = z ∧ f.many = true) ∧ Q (.bl true) H
def spDeed (K : PySem.W.Frag) : Sp := fun vs H Q _ => ∃ (v : V) (so : Addr) (fs : List FD) (d : Str × Str), vs = [v, .ref so] ∧ DeA K H v d ∧ H so = some (.dK (sortsV fs)) ∧ (fs.map (·.nm)).Nodup ∧ DeOk fs d ∧ ∀ H', Same H H' → Q (.bl true) H'
def spMoves (K : PySem.W.Frag) : Sp := fun vs H Q _ => ∃ (v : V) (n : Nat) (ms : List Int), vs = [v, .int n] ∧ Sq K H v (ms.map V.int) ∧ ms.length = n ∧ n ≤ 4 ∧ (∀ m ∈ ms, -1 ≤ m ∧ m < n) ∧ ∀ H', Same H H' → Q (.bl true) H'
def spCallForm (K : PySem.W.Frag) : Sp := fun vs H Q _ => ∃ (v : V) (cd : CD), vs = [v] ∧ CdA K H v cd ∧ ∀ H', Same H H' → Q (.bl true) H'
theorem sod_deed {z : Str} {b : Bool} (h : b ∈ deedSorts z) : ∃ l, sodOf z = some l ∧ sortS b ∈ l := by
  unfold deedSorts at h
  unfold sodOf
  split at h
  · rw [if_pos (by assumption)]
    exact ⟨_, rfl, by rw [List.mem_singleton.mp h]; decide⟩
  rw [if_neg (by assumption)]
  split at h
  · rw [if_pos (by assumption)]
    exact ⟨_, rfl, by rw [List.mem_singleton.mp h]; decide⟩
  rw [if_neg (by assumption)]
  split at h
  · rw [if_pos (by assumption)]
    exact ⟨_, rfl, by rw [List.mem_singleton.mp h]; decide⟩
  rw [if_neg (by assumption)]
  split at h
  · rw [if_pos (by assumption)]
    exact ⟨_, rfl, by rw [List.mem_singleton.mp h]; decide⟩
  rw [if_neg (by assumption)]
  split at h
  · rw [if_pos (by assumption)]
    exact ⟨_, rfl, by cases b <;> decide⟩
  · cases h
theorem sq_at {K : PySem.W.Frag} {H H' : Hp} {a : Addr} {xs : List V} (e : Same H H') (h : SqL K H a xs ∨ SqT K H a xs) : SqL K H' a xs ∨ SqT K H' a xs := h.elim (fun h => .inl (e.seq h)) (fun h => .inr (same_t e h))
section
variable {P : Program} {w : World} {K : PySem.W.Frag} {mg : Str → Option Value} {base : Heap} {C : Cst}
theorem ok_many {f : Addr} {fd : FuncData} (F : DefX K mg "is_many" s_is_many ["field", "sorts"] f fd) (T : Txt K mg) : Cal P w K mg base CX0 1 "is_many" spMany := by
  refine cal_mk F sc_is_many (fun vs H Q E h => ?_) (fun cdv A outer sh H vs Q E hr h => ?_)
  · obtain ⟨z, so, fs, rfl, _⟩ := h
    rfl
  · obtain ⟨z, so, fs, rfl, hso, nd, ⟨g, gm, rfl, gt⟩, q⟩ := h
    refine ⟨_, (pss_one (ps_ret (pe_cut (pe_and (pe_callB call_isi (by rfl) T.isinstance (by decide +kernel) (pa_cons (pv 0) (pa_cons (pe_tyv (n := "str") (by rfl) T.str (by decide +kernel)) pa_nil))) (pe_and (pe_cmp (pc_din (hu_of hr) (pv 0) (pv 1)) rfl) (pe_one (pe_cmpR op_eq (pe_dget (hu_of hr) (pv 1) (pv 0) (fun _ _ => rfl)) pe_str (nomark _)))))))), ?_⟩
    refine ⟨fun v H2 => v = .bl true ∧ H2 = H, ?_, fun v H2 e => by rw [e.1, e.2]; exact q⟩
    have hg : DGet H so (.str g.nm) (some (.str (sortS g.many))) := by
      have := DGet.k (k := .inr g.nm) hso
      rw [sorts_get nd gm] at this
      exact this
    refine ⟨_, rfl, _, _, _, _, true, rfl, .ty _, .base (.str _), kit_ty (by decide +kernel), true, rfl, iteT ?_⟩
    refine ⟨_, rfl, _, rfl, so, _, rfl, hg, true, rfl, iteT ?_⟩
    refine ⟨_, rfl, _, rfl, so, _, rfl, hg, rfl, ?_, rfl⟩
    rw [gt]
    rfl
theorem ok_deed {f : Addr} {fd : FuncData} (F : DefX K mg "is_deed" s_is_deed ["pair", "sorts"] f fd) (T : Txt K mg) (Cs : Csts K w mg C) (c_is_list : Cal P w K mg base CX0 1 "is_list" (spList K)) : Cal P w K mg base CX0 2 "is_deed" (spDeed K) := by
  obtain ⟨es, n, KD⟩ := Cs.sodD
  refine cal_mk F sc_is_deed (fun vs H Q E h => ?_) (fun cdv A outer sh H vs Q E hr h => ?_)
  · obtain ⟨v, so, fs, d, rfl, _⟩ := h
    rfl
  · obtain ⟨v, so, fs, d, rfl, ⟨a, rfl, hd⟩, hso, nd, ⟨g, gm, ge, gd⟩, q⟩ := h
    refine ⟨_, (pss_cons (ps_if (pt_cut (PW.pt (pw_or (pt_not (pt_val (pe_c c_is_list hr (by first | decide | assumption) rfl (pa_cons (pv 0) pa_nil)))) (pw_or1 (pt_cmpR op_ne (pe_callB call_len_seq (by rfl) T.len (by decide +kernel) (pa_cons (pv 0) pa_nil)) pe_int (nomark _))))))
(pss_one (ps_ret pe_bl))
pss_nil)
(pss_cons (ps_asg (pv 0) (pg_sq (by rfl) (pgs_cons (pg_name (i := 2) sc_is_deed.nd rfl (Or.inl rfl)) (pgs_cons (pg_name (i := 3) sc_is_deed.nd rfl (Or.inl rfl)) pgs_nil))))
(pss_cons (ps_if (pt_cut (PW.pt (pw_or (pt_not (pt_val (pe_callB call_isi (by rfl) T.isinstance (by decide +kernel) (pa_cons (pv 2) (pa_cons (pe_tyv (n := "str") (by rfl) T.str (by decide +kernel)) pa_nil))))) (pw_or1 (pt_cmpR (op_notIn_kd KD) (pv 2) (pe_cst rfl Cs.SORTS_OF_DEEDS) (by rfl))))))
(pss_one (ps_ret pe_bl))
pss_nil)
(pss_one (ps_ret (pe_cut (pe_and (pe_callB call_isi (by rfl) T.isinstance (by decide +kernel) (pa_cons (pv 3) (pa_cons (pe_tyv (n := "str") (by rfl) T.str (by decide +kernel)) pa_nil))) (pe_and (pe_cmp (pc_din (hu_of hr) (pv 3) (pv 1)) rfl) (pe_one (pe_cmpR op_in_seq (pe_dget (hu_of hr) (pv 1) (pv 3) (fun _ _ => rfl)) (pe_kget KD (pe_cst rfl Cs.SORTS_OF_DEEDS) (pv 2) (fun _ _ => rfl)) (by rfl))))))))))), ?_⟩
    refine ⟨fun t H' => t = false ∧ Same H H', ⟨_, rfl, .ref a, _, rfl, ⟨a, rfl, hd⟩, fun H1 e1 => ⟨true, rfl, iteF ⟨_, rfl, a, _, rfl, sq_at e1 hd, rfl, _, rfl, rfl, e1⟩⟩⟩, ?_⟩
    rintro _ H1 ⟨rfl, e1⟩
    refine iteF ?_
    refine ⟨_, rfl, _, ⟨a, rfl, sq_at e1 hd⟩, rfl, _, _, rfl, _, _, rfl, rfl, ?_⟩
    obtain ⟨l, hl, hml⟩ := sod_deed gd
    obtain ⟨sa, l', hns, hl', hsa⟩ := (Cs.sodN d.1).resolve_left fun q => by rw [q.2] at hl; cases hl
    obtain rfl : l' = l := by rw [hl'] at hl; exact Option.some.inj hl
    refine ⟨fun t H' => t = false ∧ H' = H1, ⟨_, rfl, _, _, _, _, true, rfl, .ty _, .base (.str _), kit_ty (by decide +kernel), true, rfl, iteF ⟨_, rfl, _, _, rfl, rfl, hns, _, rfl, rfl, rfl⟩⟩, ?_⟩
    rintro _ H1 ⟨rfl, rfl⟩
    refine iteF ?_
    have hg : DGet H1 so (.str d.2) (some (.str (sortS g.many))) := by
      have := DGet.k (k := .inr g.nm) (e1 _ _ hso)
      rw [sorts_get nd gm] at this
      rw [← ge]
      exact this
    refine ⟨fun v H2 => v = .bl true ∧ H2 = H1, ?_, fun v H2 e => by rw [e.1, e.2]; exact q _ e1⟩
    refine ⟨_, rfl, _, _, _, _, true, rfl, .ty _, .base (.str _), kit_ty (by decide +kernel), true, rfl, iteT ?_⟩
    refine ⟨_, rfl, _, rfl, so, _, rfl, hg, true, rfl, iteT ?_⟩
    refine ⟨_, rfl, _, rfl, so, _, rfl, hg, _, rfl, _, _, .ref sa, rfl, rfl, hns, rfl, ?_⟩
    refine ⟨sa, _, rfl, .inr (hsa _), rfl, flat_strs _, ?_, rfl⟩
    rw [inV_strs, decide_eq_true hml]
    rfl
theorem ok_moves {f : Addr} {fd : FuncData} (F : DefX K mg "are_moves" s_are_moves ["moves", "modes"] f fd) (T : Txt K mg) (c_is_integer : Cal P w K mg base CX0 1 "is_integer" spInt) : Cal P w K mg base CX0 2 "are_moves" (spMoves K) := by
  refine cal_mk F sc_are_moves (fun vs H Q E h => ?_) (fun cdv A outer sh H vs Q E hr h => ?_)
  · obtain ⟨v, n, ms, rfl, _⟩ := h
    rfl
  · obtain ⟨v, n, ms, rfl, ⟨a, rfl, hm⟩, rfl, n4, hz, q⟩ := h
    refine ⟨_, (pss_cons (ps_if (pt_cmpR op_ne (pe_callB call_len_seq (by rfl) T.len (by decide +kernel) (pa_cons (pv 0) pa_nil)) (pv 1) (nomark _))
(pss_one (ps_ret pe_bl))
pss_nil)
(pss_one (ps_ret (pe_callB (cr_all rfl) (by rfl) T.all (by decide +kernel) (pa_cons (pe_lc (own := [("move", 2)]) (g := (gName 2)) (tt := tYes) rfl sc_are_moves.nd (pi_sqV (pv 0)) (blkOk_by (own := [("move", 2)]) (N := ["moves", "modes", "move"]) (sc := defScope s_are_moves) (by decide +kernel)) (fun _ _ _ _ _ => (pg_name (i := 2) sc_are_moves.nd rfl (Or.inl rfl))) (fun _ _ _ _ _ => pts_nil) (fun _ _ _ _ _ => (pe_cut (pe_and (pe_c c_is_integer hr (by first | decide | assumption) rfl (pa_cons (pv 2) pa_nil)) (pe_one (pe_chain op_le op_lt (pe_un un_neg pe_int) (pv 2) (pv 1))))))) pa_nil))))), ?_⟩
    refine ⟨_, rfl, a, _, rfl, hm, _, rfl, rfl, _, rfl, iteB ?_ ?_⟩
    · rw [List.length_map, decide_eq_true rfl]
      rfl
    refine ⟨_, rfl, a, _, H, rfl, hm, Same.refl H, fun J G wk hG D hD => ?_⟩
    refine lc_it wk (fun i H2 => Same H H2 ∧ H2 D = some (.lst ((List.replicate i true).map V.bl))) ⟨same_new (Same.refl H) hD, upd_same⟩ (fun i H2 _ h => hG _ h.1) ?_ ?_
    · rintro i x H3 H2 hi ⟨e2, d2⟩ ⟨rfl, hx⟩
      rw [List.getElem?_map] at hx
      obtain ⟨m, hm2, rfl⟩ := Option.map_eq_some_iff.mp hx
      have hmz := hz m (List.mem_of_getElem? hm2)
      have hi4 : i < 4 := by
        have : i < (ms.map V.int).length := hi
        rw [List.length_map] at this
        omega
      refine ⟨rfl, ?_⟩
      refine ⟨fun v H4 => v = .bl true ∧ H4 = H2, ?_, ?_⟩
      · refine ⟨_, rfl, m, rfl, true, rfl, iteT ?_⟩
        refine ⟨_, rfl, _, rfl, _, _, rfl, rfl, _, rfl, iteA (decide_eq_true (by omega)) ⟨_, rfl, _, _, rfl, rfl, ?_, rfl⟩⟩
        exact congrArg V.bl (decide_eq_true hmz.2)
      · rintro _ _ ⟨rfl, rfl⟩
        refine ⟨_, d2, ?_, fun b o hb => ?_, ?_⟩
        · rw [List.length_map, List.length_replicate]
          exact Nat.lt_trans hi4 (by decide)
        · rw [upd_ne (ne_of_none hb hD)]
          exact e2 _ _ hb
        · rw [upd_same, List.replicate_succ', List.map_append]
          rfl
    · rintro H2 ⟨e2, d2⟩
      refine ⟨D, _, rfl, SqL.of d2, ?_⟩
      rw [show (List.replicate (ms.map V.int).length true).all id = true by simp]
      exact q _ e2
theorem ok_callForm {f : Addr} {fd : FuncData} (F : DefX K mg "has_call_form" s_has_call_form ["item"] f fd) (T : Txt K mg) (c_is_list : Cal P w K mg base CX0 1 "is_list" (spList K)) : Cal P w K mg base CX0 2 "has_call_form" (spCallForm K) := by
  refine cal_mk F sc_has_call_form (fun vs H Q E h => ?_) (fun cdv A outer sh H vs Q E hr h => ?_)
  · obtain ⟨v, cd, rfl, _⟩ := h
    rfl
  · obtain ⟨v, cd, rfl, ⟨m, d, s, ds, ⟨a, rfl, h1⟩, h2, h3, h4, h5⟩, q⟩ := h
    refine ⟨_, (pss_cons (ps_if (pt_cut (PW.pt (pw_or (pt_not (pt_val (pe_c c_is_list hr (by first | decide | assumption) rfl (pa_cons (pv 0) pa_nil)))) (pw_or1 (pt_cmpR op_ne (pe_callB call_len_seq (by rfl) T.len (by decide +kernel) (pa_cons (pv 0) pa_nil)) pe_int (nomark _))))))
(pss_one (ps_ret pe_bl))
pss_nil)
(pss_cons (ps_asg (pv 0) (pg_sq (by rfl) (pgs_cons (pg_name (i := 1) sc_has_call_form.nd rfl (Or.inl rfl)) (pgs_cons (pg_name (i := 2) sc_has_call_form.nd rfl (Or.inl rfl)) (pgs_cons (pg_name (i := 3) sc_has_call_form.nd rfl (Or.inl rfl)) (pgs_cons (pg_name (i := 4) sc_has_call_form.nd rfl (Or.inl rfl)) (pgs_cons (pg_name (i := 5) sc_has_call_form.nd rfl (Or.inl rfl)) pgs_nil)))))))
(pss_cons (ps_if (pt_cut (PW.pt (pw_or (pt_not (pt_val (pe_callB call_isi (by rfl) T.isinstance (by decide +kernel) (pa_cons (pv 1) (pa_cons (pe_tyv (n := "str") (by rfl) T.str (by decide +kernel)) pa_nil))))) (pw_or1 (pt_not (pt_val (pe_callB call_isi (by rfl) T.isinstance (by decide +kernel) (pa_cons (pv 2) (pa_cons (pe_tyv (n := "str") (by rfl) T.str (by decide +kernel)) pa_nil)))))))))
(pss_one (ps_ret pe_bl))
pss_nil)
(pss_one (ps_ret (pe_cut (pe_and (pe_c c_is_list hr (by first | decide | assumption) rfl (pa_cons (pv 3) pa_nil)) (pe_and (pe_c c_is_list hr (by first | decide | assumption) rfl (pa_cons (pv 4) pa_nil)) (pe_one (pe_c c_is_list hr (by first | decide | assumption) rfl (pa_cons (pv 5) pa_nil))))))))))), ?_⟩
    obtain ⟨ma, rfl, h2⟩ := h2
    obtain ⟨da, rfl, h3⟩ := h3
    obtain ⟨sa, rfl, h5⟩ := h5
    refine ⟨fun t H' => t = false ∧ Same H H', ⟨_, rfl, .ref a, _, rfl, ⟨a, rfl, h1⟩, fun H1 e1 => ⟨true, rfl, iteF ⟨_, rfl, a, _, rfl, sq_at e1 h1, rfl, _, rfl, rfl, e1⟩⟩⟩, ?_⟩
    rintro _ H1 ⟨rfl, e1⟩
    refine iteF ?_
    refine ⟨_, rfl, _, ⟨a, rfl, sq_at e1 h1⟩, rfl, _, _, rfl, _, _, rfl, _, _, rfl, _, _, rfl, _, _, rfl, rfl, ?_⟩
    refine ⟨fun t H' => t = false ∧ H' = H1, ⟨_, rfl, _, _, _, _, true, rfl, .ty _, .base (.str _), kit_ty (by decide +kernel), true, rfl, iteF ⟨_, rfl, _, _, _, _, true, rfl, .ty _, .base (.str _), kit_ty (by decide +kernel), true, rfl, rfl, rfl⟩⟩, ?_⟩
    rintro _ H1 ⟨rfl, rfl⟩
    refine iteF ?_
    refine ⟨fun v H2 => v = .bl true ∧ Same H H2, ?_, fun v H2 e => by rw [e.1]; exact q _ e.2⟩
    refine ⟨_, rfl, .ref ma, _, rfl, ⟨ma, rfl, sq_at e1 h2⟩, fun H2 e2 => ⟨true, rfl, iteT ?_⟩⟩
    refine ⟨_, rfl, .ref da, _, rfl, ⟨da, rfl, sq_at (e1.trans e2) h3⟩, fun H3 e3 => ⟨true, rfl, iteT ?_⟩⟩
    exact ⟨_, rfl, .ref sa, _, rfl, ⟨sa, rfl, sq_at ((e1.trans e2).trans e3) h5⟩, fun H4 e4 => ⟨rfl, ((e1.trans e2).trans e3).trans e4⟩⟩
end
end MK
set_option Elab.async false
set_option linter.all false
set_option autoImplicit false
set_option maxRecDepth 100000
set_option maxHeartbeats 4000000
namespace MK
open PySem PySem.Spec PyProof.Rows L2
local macro_rules | `(tactic| walk_at "x") => `(tactic| dsimp only [tSeq, tAsg, tRet, tDrop, tLst, tTup, tCons, tOp, tUn, tIfS])
theorem sc_are_deeds : FnScope ["deeds", "sorts", "pair", "deed", "field", "worded"] ["deeds", "sorts"] (defScope s_are_deeds) := ⟨rfl, rfl, rfl, by decide +kernel, rfl, by decide +kernel, by decide +kernel⟩
theorem sc_is_same : FnScope ["same", "hand", "sorts", "field"] ["same", "hand", "sorts"] (defScope s_is_same) := ⟨rfl, rfl, rfl, by decide +kernel, rfl, by decide +kernel, by decide +kernel⟩
theorem sc_kept_call : FnScope ["call", "name", "hand", "moves", "deeds", "same", "pair"] ["call"] (defScope s_kept_call) := ⟨rfl, rfl, rfl, by decide +kernel, rfl, by decide +kernel, by decide +kernel⟩
theorem sc_wrong_part : FnScope ["item", "earlier", "sorts", "modes", "name", "hand", "moves", "deeds", "same"] ["item", "earlier", "sorts", "modes"] (defScope s_wrong_part) := ⟨rfl, rfl, rfl, by decide +kernel, rfl, by decide +kernel, by decide +kernel⟩
def spDeedsOk (K : PySem.W.Frag) : Sp := fun vs H Q _ => ∃ (v : V) (so : Addr) (fs : List FD) (dvs : List V) (ds : List (Str × Str)), vs = [v, .ref so] ∧ Sq K H v dvs ∧ Al (DeA K H) dvs ds ∧ H so = some (.dK (sortsV fs)) ∧ (fs.map (·.nm)).Nodup ∧ (∀ d ∈ ds, DeOk fs d) ∧ ds.length ≤ 4 ∧ (worded ds).Nodup ∧ ∀ H', Same H H' → Q (.bl true) H'
def spSameOk (K : PySem.W.Frag) : Sp := fun vs H Q _ => ∃ (v : V) (so : Addr) (fs : List FD) (hd : Str) (zs : List Str), vs = [v, .str hd, .ref so] ∧ Sq K H v (zs.map V.str) ∧ H so = some (.dK (sortsV fs)) ∧ (fs.map (·.nm)).Nodup ∧ (∀ z ∈ zs, ∃ f ∈ fs, f.nm = z ∧ f.many = true) ∧ zs.length < 100 ∧ (hd = "self" → zs = []) ∧ zs.Nodup ∧ ∀ H', Same H H' → Q (.bl true) H'
def spKeptCall (K : PySem.W.Frag) : Sp := fun vs H Q _ => ∃ (s : Addr) (v : V) (cd : CD), vs = [v] ∧ H s ≠ none ∧ CdA K (Off s H) v cd ∧ cd.deeds.length ≤ 4 ∧ ∀ r H', Same H H' → CdT K (Off s H') r cd → Q r H'
def spWrong (K : PySem.W.Frag) : Sp := fun vs H Q _ => ∃ (v : V) (e so : Addr) (n : Nat) (fs : List FD) (ys : List Str) (cd : CD), vs = [v, .ref e, .ref so, .int n] ∧ CdA K H v cd ∧ SqL K H e (ys.map V.str) ∧ H so = some (.dK (sortsV fs)) ∧ FsOk fs ∧ n ≤ 4 ∧ CdOk fs n cd ∧ cd.nm ∉ ys ∧ ∀ H', Same H H' → Q .non H'
section
variable {P : Program} {w : World} {K : PySem.W.Frag} {mg : Str → Option Value} {base : Heap} {C : Cst}
theorem ok_deedsOk {f : Addr} {fd : FuncData} (F : DefX K mg "are_deeds" s_are_deeds ["deeds", "sorts"] f fd) (T : Txt K mg) (Cs : Csts K w mg C) (c_is_deed : Cal P w K mg base CX0 2 "is_deed" (spDeed K)) : Cal P w K mg base CX0 3 "are_deeds" (spDeedsOk K) := by
  refine cal_mk F sc_are_deeds (fun vs H Q E h => ?_) (fun cdv A outer sh H vs Q E hr h => ?_)
  · obtain ⟨v, so, fs, dvs, ds, rfl, _⟩ := h
    rfl
  · obtain ⟨v, so, fs, dvs, ds, rfl, ⟨a, rfl, hd⟩, hal, hso, nd, hok, d4, wnd, q⟩ := h
    refine ⟨_, (pss_cons (ps_if (pt_cut (PW.pt (pw_or (pt_cmpR op_gt (pe_callB call_len_seq (by rfl) T.len (by decide +kernel) (pa_cons (pv 0) pa_nil)) (pe_cst rfl Cs.MOST_DEEDS) (nomark _)) (pw_or1 (pt_not (pt_val (pe_callB (cr_all rfl) (by rfl) T.all (by decide +kernel) (pa_cons (pe_lc (own := [("pair", 2)]) (g := (gName 2)) (tt := tYes) rfl sc_are_deeds.nd (pi_sqV (pv 0)) (blkOk_by (own := [("pair", 2)]) (N := ["deeds", "sorts", "pair", "deed", "field", "worded"]) (sc := defScope s_are_deeds) (by decide +kernel)) (fun _ _ _ _ _ => (pg_name (i := 2) sc_are_deeds.nd rfl (Or.inl rfl))) (fun _ _ _ _ _ => pts_nil) (fun _ _ _ _ _ => (pe_c c_is_deed hr (by first | decide | assumption) rfl (pa_cons (pv 2) (pa_cons (pv 1) pa_nil))))) pa_nil))))))))
(pss_one (ps_ret pe_bl))
pss_nil)
(pss_cons (ps_setLc (i := 5) (own := [("deed", 3), ("field", 4)]) (g := (gSq K 2 (gCons (gName 3) (gCons (gName 4) gNil)))) rfl sc_are_deeds.nd rfl rfl (sw_true rfl rfl rfl (by decide +kernel)) (pi_sqV (pv 0)) (blkOk_by (own := [("deed", 3), ("field", 4)]) (N := ["deeds", "sorts", "pair", "deed", "field", "worded"]) (sc := defScope s_are_deeds) (by decide +kernel)) (fun _ _ _ _ _ => (pg_sq (by rfl) (pgs_cons (pg_name (i := 3) sc_are_deeds.nd rfl (Or.inl rfl)) (pgs_cons (pg_name (i := 4) sc_are_deeds.nd rfl (Or.inl rfl)) pgs_nil)))) (fun _ _ _ _ _ => (pts_one (pt_cmpR (op_in_seqK (K := K) rfl) (pv 3) (pe_cst rfl Cs.LIST_WORD_DEEDS) (by rfl)))) (fun _ _ _ _ _ => (pv 4)))
(pss_one (ps_ret (pe_cmpR op_eq (pe_lenS rfl (by rfl) T.len (by rfl) T.set (pv 5)) (pe_callB call_len_seq (by rfl) T.len (by decide +kernel) (pa_cons (pv 5) pa_nil)) (nomark _)))))), ?_⟩
    have dl : dvs.length ≤ 4 := by rw [hal.1]; exact d4
    refine ⟨fun t H' => t = false ∧ Same H H', ⟨_, rfl, a, _, rfl, hd, _, _, rfl, rfl, _, rfl, iteB (decide_eq_false (by omega)) ?_⟩, ?_⟩
    · refine ⟨_, rfl, a, _, H, rfl, hd, Same.refl H, fun J G wk hG D hD => ?_⟩
      refine lc_it wk (fun i H2 => Same H H2 ∧ H2 D = some (.lst ((List.replicate i true).map V.bl))) ⟨same_new (Same.refl H) hD, upd_same⟩ (fun i H2 _ h => hG _ h.1) ?_ ?_
      · rintro i x H3 H2 hi ⟨e2, d2⟩ ⟨rfl, hx⟩
        obtain ⟨dd, hdd, hda⟩ := hal.get hx
        refine ⟨rfl, ?_⟩
        refine ⟨_, rfl, _, rfl, x, so, fs, dd, rfl, DeA.keep e2 hda, e2 _ _ hso, nd, hok dd (List.mem_of_getElem? hdd), fun H4 e4 => ⟨_, e4 _ _ d2, ?_, fun b o hb => ?_, ?_⟩⟩
        · rw [List.length_map, List.length_replicate]
          exact Nat.lt_trans (Nat.lt_of_lt_of_le hi dl) (by decide)
        · rw [upd_ne (ne_of_none hb hD)]
          exact e4 _ _ (e2 _ _ hb)
        · rw [upd_same, List.replicate_succ', List.map_append]
          rfl
      · rintro H2 ⟨e2, d2⟩
        refine ⟨D, _, rfl, SqL.of d2, true, ?_, rfl, e2⟩
        simp
    rintro _ H1 ⟨rfl, e1⟩
    refine iteF ?_
    refine ⟨_, rfl, a, _, H, rfl, hd, e1, fun J G wk hG D hD => ?_⟩
    refine lc_it wk (fun i H2 => Same H H2 ∧ H2 D = some (.lst ((worded (ds.take i)).map V.str))) ⟨same_new e1 hD, upd_same⟩ (fun i H2 _ h => hG _ h.1) ?_ ?_
    · rintro i x H3 H2 hi ⟨e2, d2⟩ ⟨rfl, hx⟩
      obtain ⟨dd, hdd, hda⟩ := hal.get hx
      have tk : worded (ds.take (i + 1)) = worded (ds.take i) ++ (if dd.1 = ("add" : Str) ∨ dd.1 = ("strike" : Str) then [dd.2] else []) := by
        rw [List.take_succ, hdd]
        exact worded_snoc _ _
      refine ⟨DeV dd, DeA.keep e2 hda, rfl, _, _, rfl, _, _, rfl, rfl, rfl, ?_⟩
      refine ⟨_, rfl, C.lwd, _, rfl, .inr (Cs.t_lwd _), rfl, rfl, _, rfl, ?_⟩
      rw [show ([.str "add", .str "strike"] : List V) = (["add", "strike"] : List Str).map V.str from rfl, inV_strs]
      refine ite2 (fun h1 => ?_) (fun h1 => ?_)
      · have hm : dd.1 = ("add" : Str) ∨ dd.1 = ("strike" : Str) := by
          have := of_decide_eq_true h1
          simpa using this
        refine ⟨_, rfl, _, d2, ?_, fun b o hb => ?_, ?_⟩
        · rw [List.length_map]
          have : (worded (ds.take i)).length ≤ (ds.take i).length := by unfold worded; rw [List.length_map]; exact List.length_filter_le ..
          have h2 : (ds.take i).length ≤ ds.length := List.length_take_le' ..
          exact Nat.lt_of_le_of_lt (by omega : _ ≤ 4) (by decide)
        · rw [upd_ne (ne_of_none hb (none_of e1 hD))]
          exact e2 _ _ hb
        · rw [upd_same, tk, if_pos hm, List.map_append]
          rfl
      · have hm : ¬ (dd.1 = ("add" : Str) ∨ dd.1 = ("strike" : Str)) := fun q => h1 (decide_eq_true (by simpa using q))
        refine ⟨e2, ?_⟩
        rw [tk, if_neg hm, List.append_nil]
        exact d2
    · rintro H2 ⟨e2, d2⟩
      rw [hal.1, List.take_length] at d2
      have wl : (worded ds).length < 1000 := by
        have : (worded ds).length ≤ ds.length := by unfold worded; rw [List.length_map]; exact List.length_filter_le ..
        omega
      refine ⟨_, rfl, worded ds, Sq.lst d2, wnd, wl, _, rfl, D, _, rfl, .inl (SqL.of d2), rfl, ?_⟩
      rw [List.length_map, decide_eq_true rfl]
      exact q _ e2
theorem ok_sameOk {f : Addr} {fd : FuncData} (F : DefX K mg "is_same" s_is_same ["same", "hand", "sorts"] f fd) (T : Txt K mg) (c_is_many : Cal P w K mg base CX0 1 "is_many" spMany) : Cal P w K mg base CX0 2 "is_same" (spSameOk K) := by
  refine cal_mk F sc_is_same (fun vs H Q E h => ?_) (fun cdv A outer sh H vs Q E hr h => ?_)
  · obtain ⟨v, so, fs, hd, zs, rfl, _⟩ := h
    rfl
  · obtain ⟨v, so, fs, hd, zs, rfl, ⟨a, rfl, hz⟩, hso, nd, hok, z9, hself, znd, q⟩ := h
    refine ⟨_, (pss_cons (ps_if (pt_not (pt_val (pe_callB (cr_all rfl) (by rfl) T.all (by decide +kernel) (pa_cons (pe_lc (own := [("field", 3)]) (g := (gName 3)) (tt := tYes) rfl sc_is_same.nd (pi_sqV (pv 0)) (blkOk_by (own := [("field", 3)]) (N := ["same", "hand", "sorts", "field"]) (sc := defScope s_is_same) (by decide +kernel)) (fun _ _ _ _ _ => (pg_name (i := 3) sc_is_same.nd rfl (Or.inl rfl))) (fun _ _ _ _ _ => pts_nil) (fun _ _ _ _ _ => (pe_c c_is_many hr (by first | decide | assumption) rfl (pa_cons (pv 3) (pa_cons (pv 2) pa_nil))))) pa_nil))))
(pss_one (ps_ret pe_bl))
pss_nil)
(pss_cons (ps_if (pt_cut (PW.pt (pw_and (pt_cmpR op_eq (pv 1) pe_str (nomark _)) (pw_and1 (pt_cmpR op_gt (pe_callB call_len_seq (by rfl) T.len (by decide +kernel) (pa_cons (pv 0) pa_nil)) pe_int (nomark _))))))
(pss_one (ps_ret pe_bl))
pss_nil)
(pss_one (ps_ret (pe_cmpR op_eq (pe_lenS rfl (by rfl) T.len (by rfl) T.set (pv 0)) (pe_callB call_len_seq (by rfl) T.len (by decide +kernel) (pa_cons (pv 0) pa_nil)) (nomark _)))))), ?_⟩
    refine ⟨_, rfl, a, _, H, rfl, hz, Same.refl H, fun J G wk hG D hD => ?_⟩
    refine lc_it wk (fun i H2 => Same H H2 ∧ H2 D = some (.lst ((List.replicate i true).map V.bl))) ⟨same_new (Same.refl H) hD, upd_same⟩ (fun i H2 _ h => hG _ h.1) ?_ ?_
    · rintro i x H3 H2 hi ⟨e2, d2⟩ ⟨rfl, hx⟩
      rw [List.getElem?_map] at hx
      obtain ⟨z, hz2, rfl⟩ := Option.map_eq_some_iff.mp hx
      have hi9 : i < 100 := by
        have : i < (zs.map V.str).length := hi
        rw [List.length_map] at this
        omega
      refine ⟨rfl, ?_⟩
      refine ⟨_, rfl, _, rfl, z, so, fs, rfl, e2 _ _ hso, nd, hok z (List.mem_of_getElem? hz2), _, d2, ?_, fun b o hb => ?_, ?_⟩
      · rw [List.length_map, List.length_replicate]
        exact Nat.lt_trans hi9 (by decide)
      · rw [upd_ne (ne_of_none hb hD)]
        exact e2 _ _ hb
      · rw [upd_same, List.replicate_succ', List.map_append]
        rfl
    · rintro H2 ⟨e2, d2⟩
      refine ⟨D, _, rfl, SqL.of d2, true, by simp, iteF ?_⟩
      refine ⟨fun t H' => t = false ∧ H' = H2, ⟨_, rfl, rfl, _, rfl, ite2 (fun h1 => ?_) (fun h1 => ⟨rfl, rfl⟩)⟩, ?_⟩
      · obtain rfl := hself (V.str.inj (of_decide_eq_true h1))
        exact ⟨_, rfl, a, _, rfl, sq_at e2 hz, _, _, rfl, rfl, _, rfl, rfl, rfl⟩
      rintro _ H2 ⟨rfl, rfl⟩
      refine iteF ?_
      refine ⟨_, rfl, zs, ⟨a, rfl, sq_at e2 hz⟩, znd, by omega, _, rfl, a, _, rfl, sq_at e2 hz, rfl, ?_⟩
      rw [List.length_map, decide_eq_true rfl]
      exact q _ e2
theorem ok_keptCall {f : Addr} {fd : FuncData} (F : DefX K mg "kept_call" s_kept_call ["call"] f fd) (T : Txt K mg) : Cal P w K mg base CX0 1 "kept_call" (spKeptCall K) := by
  refine cal_mk F sc_kept_call (fun vs H Q E h => ?_) (fun cdv A outer sh H vs Q E hr h => ?_)
  · obtain ⟨s, v, cd, rfl, _⟩ := h
    rfl
  · obtain ⟨s, v, cd, rfl, hs, ⟨m, d, sm, ds, ⟨a, rfl, h1⟩, h2, h3, h4, h5⟩, d4, k⟩ := h
    refine ⟨_, (pss_cons (ps_asg (pv 0) (pg_sq (by rfl) (pgs_cons (pg_name (i := 1) sc_kept_call.nd rfl (Or.inl rfl)) (pgs_cons (pg_name (i := 2) sc_kept_call.nd rfl (Or.inl rfl)) (pgs_cons (pg_name (i := 3) sc_kept_call.nd rfl (Or.inl rfl)) (pgs_cons (pg_name (i := 4) sc_kept_call.nd rfl (Or.inl rfl)) (pgs_cons (pg_name (i := 5) sc_kept_call.nd rfl (Or.inl rfl)) pgs_nil)))))))
(pss_one (ps_ret (pe_tup (pa_cons (pv 1) (pa_cons (pv 2) (pa_cons (pe_cut (pe_callTy call_tuple_of (by rfl) T.tuple (by decide +kernel) (pa_cons (pv 3) pa_nil))) (pa_cons (pe_cut (pe_callTy call_tuple_of (by rfl) T.tuple (by decide +kernel) (pa_cons (pe_lc (own := [("pair", 6)]) (g := (gName 6)) (tt := tYes) rfl sc_kept_call.nd (pi_sqV (pv 4)) (blkOk_by (own := [("pair", 6)]) (N := ["call", "name", "hand", "moves", "deeds", "same", "pair"]) (sc := defScope s_kept_call) (by decide +kernel)) (fun _ _ _ _ _ => (pg_name (i := 6) sc_kept_call.nd rfl (Or.inl rfl))) (fun _ _ _ _ _ => pts_nil) (fun _ _ _ _ _ => (pe_cut (pe_callTy (call_tuple_ofK (K := K) rfl) (by rfl) T.tuple (by decide +kernel) (pa_cons (pv 6) pa_nil))))) pa_nil))) (pa_cons (pe_cut (pe_callTy call_tuple_of (by rfl) T.tuple (by decide +kernel) (pa_cons (pv 5) pa_nil))) pa_nil))))))))), ?_⟩
    have h10 : SqL K H a [.str cd.nm, .str cd.hand, m, d, sm] ∨ SqT K H a [.str cd.nm, .str cd.hand, m, d, sm] := sq_at off_same h1
    obtain ⟨da, rfl, h3⟩ := h3
    obtain ⟨ma, rfl, h2⟩ := h2
    obtain ⟨sa, rfl, h5⟩ := h5
    refine ⟨_, rfl, _, ⟨a, rfl, h10⟩, rfl, _, _, rfl, _, _, rfl, _, _, rfl, _, _, rfl, _, _, rfl, rfl, ?_⟩
    refine ⟨_, rfl, _, rfl, fun v H1 => Same H H1 ∧ Tu K (Off s H1) v (cd.moves.map V.int), ⟨_, rfl, rd_tupM (K := K) hs ⟨ma, rfl, h2⟩⟩, ?_⟩
    rintro mv H1 ⟨e1, tm⟩
    refine ⟨fun v H4 => Same H1 H4 ∧ ∃ tvs, Tu K (Off s H4) v tvs ∧ Al (DeT K (Off s H4)) tvs cd.deeds, ?_, ?_⟩
    · refine ⟨_, rfl, da, ds, Off s H, rfl, h3, off_same.trans e1, fun J G wk hG D hD => ?_⟩
      have Ds := ne_s hs e1 hD
      refine lc_it wk (fun i H2 => Same H1 H2 ∧ ∃ tvs : List V, H2 D = some (.lst tvs) ∧ Al (DeT K (Off D (Off s H2))) tvs (cd.deeds.take i)) ⟨same_new (Same.refl H1) hD, [], upd_same, Al.nil⟩ (fun i H2 _ h => hG _ ((off_same.trans e1).trans h.1)) ?_ ?_
      · rintro i x H3 H2 hi ⟨e2, tvs, d2, al⟩ ⟨rfl, hx⟩
        obtain ⟨dd, hdd, hda⟩ := h4.get hx
        have e12 := e1.trans e2
        refine ⟨rfl, ?_⟩
        refine ⟨fun v H4 => Same H2 H4 ∧ DeT K (Off s H4) v dd, ⟨_, rfl, rd_tupM (K := K) (kept_s hs e12) (DeA.keep (same_off e12) hda)⟩, ?_⟩
        rintro v H4 ⟨e4, tv⟩
        have d4' := e4 _ _ d2
        refine ⟨_, d4', ?_, fun b o hb => ?_, tvs ++ [v], upd_same, ?_⟩
        · rw [al.1]
          have : (cd.deeds.take i).length ≤ cd.deeds.length := List.length_take_le' ..
          exact Nat.lt_of_le_of_lt (by omega : _ ≤ 4) (by decide)
        · rw [upd_ne (ne_of_none hb hD)]
          exact e4 _ _ (e2 _ _ hb)
        · rw [off_upd Ds, off_put, List.take_succ, hdd]
          exact (al.mono fun _ _ h => DeT.keep (same_off (same_off e4)) h).snoc (Tu.offL tv ((off_ne Ds).trans d4'))
      · rintro H2 ⟨e2, tvs, d2, al⟩
        have e12 := e1.trans e2
        have al : Al (DeT K (Off D (Off s H2))) tvs cd.deeds := by
          have h := al
          rw [h4.1, List.take_length] at h
          exact h
        refine ⟨D, _, rfl, .inl ⟨SqL.of d2, fun l hl => ?_⟩⟩
        have e3 := same_new (Same.refl H2) hl (o := .tup tvs)
        refine ⟨e2.trans e3, tvs, Tu.tup ?_, al.mono fun _ _ h => DeT.keep (off_same.trans (same_off e3)) h⟩
        rw [off_ne (ne_s hs e12 hl), upd_same]
    rintro dv H2 ⟨e2, tvs, td, al⟩
    have e12 := e1.trans e2
    refine ⟨fun v H4 => Same H2 H4 ∧ Tu K (Off s H4) v (cd.same.map V.str), ⟨_, rfl, rd_tupM (K := K) (kept_s hs e12) (Sq.keep (same_off e12) ⟨sa, rfl, h5⟩)⟩, ?_⟩
    rintro sv H4 ⟨e4, ts⟩
    refine ⟨by show 5 ≤ sizeLine; decide, fun p hp => ?_⟩
    have e14 := e12.trans e4
    have e5 := same_new (Same.refl H4) hp (o := .tup [.str cd.nm, .str cd.hand, mv, dv, sv])
    refine k (.ref p) _ (e14.trans e5) ⟨mv, dv, sv, tvs, Tu.tup ?_, tm.keep (same_off (e2.trans (e4.trans e5))), td.keep (same_off (e4.trans e5)), al.mono fun _ _ h => DeT.keep (same_off (e4.trans e5)) h, ts.keep (same_off e5)⟩
    rw [off_ne (ne_s hs e14 hp), upd_same]
theorem ok_wrong {f : Addr} {fd : FuncData} (F : DefX K mg "wrong_part" s_wrong_part ["item", "earlier", "sorts", "modes"] f fd) (T : Txt K mg) (Cs : Csts K w mg C) (c_has_call_form : Cal P w K mg base CX0 2 "has_call_form" (spCallForm K)) (c_is_word : Cal P w K mg base CX0 1 "is_word" (spWord K))
    (c_are_moves : Cal P w K mg base CX0 2 "are_moves" (spMoves K)) (c_are_deeds : Cal P w K mg base CX0 3 "are_deeds" (spDeedsOk K)) (c_is_same : Cal P w K mg base CX0 2 "is_same" (spSameOk K)) : Cal P w K mg base CX0 4 "wrong_part" (spWrong K) := by
  refine cal_mk F sc_wrong_part (fun vs H Q E h => ?_) (fun cdv A outer sh H vs Q E hr h => ?_)
  · obtain ⟨v, e, so, n, fs, ys, cd, rfl, _⟩ := h
    rfl
  · obtain ⟨v, e, so, n, fs, ys, cd, rfl, ⟨m, d, sm, ds, ⟨a, rfl, h1⟩, ⟨ma, rfl, h2⟩, ⟨da, rfl, h3⟩, h4, ⟨sa, rfl, h5⟩⟩, he, hso, fok, n4, ok, hn, q⟩ := h
    refine ⟨_, (pss_cons (ps_if (pt_not (pt_val (pe_c c_has_call_form hr (by first | decide | assumption) rfl (pa_cons (pv 0) pa_nil))))
(pss_one (ps_ret pe_str))
pss_nil)
(pss_cons (ps_asg (pv 0) (pg_sq (by rfl) (pgs_cons (pg_name (i := 4) sc_wrong_part.nd rfl (Or.inl rfl)) (pgs_cons (pg_name (i := 5) sc_wrong_part.nd rfl (Or.inl rfl)) (pgs_cons (pg_name (i := 6) sc_wrong_part.nd rfl (Or.inl rfl)) (pgs_cons (pg_name (i := 7) sc_wrong_part.nd rfl (Or.inl rfl)) (pgs_cons (pg_name (i := 8) sc_wrong_part.nd rfl (Or.inl rfl)) pgs_nil)))))))
(pss_cons (ps_if (pt_cut (PW.pt (pw_or (pt_not (pt_val (pe_c c_is_word hr (by first | decide | assumption) rfl (pa_cons (pv 4) pa_nil)))) (pw_or1 (pt_cmpR op_in_seq (pv 4) (pv 1) (by rfl))))))
(pss_one (ps_ret pe_str))
pss_nil)
(pss_cons (ps_if (pt_cmpR op_notIn_seq (pv 5) (pe_cst rfl Cs.HANDS) (by rfl))
(pss_one (ps_ret pe_str))
pss_nil)
(pss_cons (ps_if (pt_not (pt_val (pe_c c_are_moves hr (by first | decide | assumption) rfl (pa_cons (pv 6) (pa_cons (pv 3) pa_nil)))))
(pss_one (ps_ret pe_str))
pss_nil)
(pss_cons (ps_if (pt_not (pt_val (pe_c c_are_deeds hr (by first | decide | assumption) rfl (pa_cons (pv 7) (pa_cons (pv 2) pa_nil)))))
(pss_one (ps_ret pe_str))
pss_nil)
(pss_cons (ps_if (pt_not (pt_val (pe_c c_is_same hr (by first | decide | assumption) rfl (pa_cons (pv 8) (pa_cons (pv 5) (pa_cons (pv 2) pa_nil))))))
(pss_one (ps_ret pe_str))
pss_nil)
(pss_one (ps_ret pe_non))))))))), ?_⟩
    have hcd : CdA K H (.ref a) cd := ⟨_, _, _, ds, ⟨a, rfl, h1⟩, ⟨ma, rfl, h2⟩, ⟨da, rfl, h3⟩, h4, ⟨sa, rfl, h5⟩⟩
    refine ⟨_, rfl, .ref a, cd, rfl, hcd, fun H1 e1 => ⟨true, rfl, iteF ?_⟩⟩
    refine ⟨_, rfl, _, ⟨a, rfl, sq_at e1 h1⟩, rfl, _, _, rfl, _, _, rfl, _, _, rfl, _, _, rfl, _, _, rfl, rfl, ?_⟩
    refine ⟨fun t H' => t = false ∧ Same H H', ⟨_, rfl, _, rfl, .inl ⟨_, rfl, word_len ok.word, fun H2 e2 => ?_⟩⟩, ?_⟩
    · rw [ok.word]
      refine ⟨true, rfl, iteF ⟨_, rfl, _, rfl, e, _, rfl, .inl ((e1.trans e2).seq he), rfl, flat_strs _, ?_⟩⟩
      rw [inV_strs, decide_eq_false hn]
      exact ⟨_, rfl, rfl, e1.trans e2⟩
    rintro _ H2 ⟨rfl, e2⟩
    refine iteF ?_
    refine ⟨_, rfl, C.hands, _, rfl, .inr (Cs.t_hands _), rfl, rfl, false, ?_, iteF ?_⟩
    · rcases ok.hand with h | h | h <;> rw [h] <;> decide
    refine ⟨_, rfl, _, rfl, .ref ma, n, cd.moves, rfl, ⟨ma, rfl, sq_at e2 h2⟩, ok.len, n4, ok.move, fun H3 e3 => ⟨true, rfl, iteF ?_⟩⟩
    have e23 := e2.trans e3
    refine ⟨_, rfl, _, rfl, .ref da, so, fs, ds, cd.deeds, rfl, ⟨da, rfl, sq_at e23 h3⟩, h4.mono fun _ _ h => DeA.keep e23 h, e23 _ _ hso, fok.nd, ok.deed, ok.deeds, ok.once, fun H4 e4 => ⟨true, rfl, iteF ?_⟩⟩
    have e24 := e23.trans e4
    have sl : cd.same.length < 100 := by
      have : cd.same.length ≤ (fs.map (·.nm)).length := len_sub ok.nd fun z hz => by
        obtain ⟨g, gm, rfl, _⟩ := ok.same z hz
        exact List.mem_map_of_mem gm
      rw [List.length_map] at this
      have := fok.le
      omega
    refine ⟨_, rfl, _, rfl, _, rfl, .ref sa, so, fs, cd.hand, cd.same, rfl, ⟨sa, rfl, sq_at e24 h5⟩, e24 _ _ hso, fok.nd, ok.same, sl, ok.self, ok.nd, fun H5 e5 => ⟨true, rfl, iteF ?_⟩⟩
    exact q _ (e24.trans e5)
end
end MK
set_option Elab.async false
set_option linter.all false
set_option autoImplicit false
set_option maxRecDepth 100000
set_option maxHeartbeats 4000000
namespace MK
open PySem PySem.Spec PyProof.Rows L2
local macro_rules | `(tactic| walk_at "x") => `(tactic| dsimp only [tSeq, tAsg, tRet, tDrop, tLst, tTup, tCons, tOp, tUn, tIfS])
theorem sc_kept_calls : FnScope ["calls", "sorts", "modes", "kept", "index", "item", "call", "reason"] ["calls", "sorts", "modes"] (defScope s_kept_calls) := ⟨rfl, rfl, rfl, by decide +kernel, rfl, by decide +kernel, by decide +kernel⟩
def spCalls (K : PySem.W.Frag) : Sp := fun vs H Q _ => ∃ (s : Addr) (v : V) (so : Addr) (n : Nat) (fs : List FD) (cvs : List V) (cs : List CD), vs = [v, .ref so, .int n] ∧ H s ≠ none ∧ Sq K (Off s H) v cvs ∧ Al (CdA K (Off s H)) cvs cs ∧ H so = some (.dK (sortsV fs)) ∧ FsOk fs ∧ n ≤ 4 ∧
  1 ≤ cs.length ∧ cs.length ≤ 6 ∧ (∀ c ∈ cs, CdOk fs n c) ∧ (cs.map (·.nm)).Nodup ∧ ∀ r rvs H', Same H H' → Tu K (Off s H') r rvs → Al (CdT K (Off s H')) rvs cs → Q r H'
section
variable {P : Program} {w : World} {K : PySem.W.Frag} {mg : Str → Option Value} {base : Heap} {C : Cst}
theorem ok_calls {f : Addr} {fd : FuncData} (F : DefX K mg "kept_calls" s_kept_calls ["calls", "sorts", "modes"] f fd) (T : Txt K mg) (Cs : Csts K w mg C) (c_is_list : Cal P w K mg base CX0 1 "is_list" (spList K)) (c_wrong_part : Cal P w K mg base CX0 4 "wrong_part" (spWrong K)) (c_kept_call : Cal P w K mg base CX0 1 "kept_call" (spKeptCall K)) :
    Cal P w K mg base CX0 5 "kept_calls" (spCalls K) := by
  refine cal_mk F sc_kept_calls (fun vs H Q E h => ?_) (fun cdv A outer sh H vs Q E hr h => ?_)
  · obtain ⟨s, v, so, n, fs, cvs, cs, rfl, _⟩ := h
    rfl
  · obtain ⟨s, v, so, n, fs, cvs, cs, rfl, hs, ⟨a, rfl, hv⟩, hal, hso, fok, n4, c1, c6, cok, cnd, k⟩ := h
    refine ⟨_, (pss_cons (ps_if (pt_cut (PW.pt (pw_or (pt_not (pt_val (pe_c c_is_list hr (by first | decide | assumption) rfl (pa_cons (pv 0) pa_nil)))) (pw_or1 (pt_cmpR op_eq (pe_callB call_len_seq (by rfl) T.len (by decide +kernel) (pa_cons (pv 0) pa_nil)) pe_int (nomark _))))))
(pss_one (ps_never))
pss_nil)
(pss_cons (ps_set (i := 3) sc_kept_calls.nd rfl (Or.inl rfl) (pe_lst pa_nil))
(pss_cons (ps_for PassesOwn.never rfl (pi_enV (by rfl) T.enumerate (pa_cons (pv 0) pa_nil)) (pg_tup (by rfl) (pgs_cons (pg_name (i := 4) sc_kept_calls.nd rfl (Or.inl rfl)) (pgs_cons (pg_name (i := 5) sc_kept_calls.nd rfl (Or.inl rfl)) pgs_nil)))
(pss_cons (ps_if (pt_cmpR op_ge (pv 4) (pe_cst rfl Cs.MOST_CALLS) (nomark _))
(pss_one (ps_never))
pss_nil)
(pss_cons (ps_set (i := 7) sc_kept_calls.nd rfl (Or.inl rfl) (pe_c c_wrong_part hr (by first | decide | assumption) rfl (pa_cons (pv 5) (pa_cons (pe_lc (own := [("call", 6)]) (g := (gName 6)) (tt := tYes) rfl sc_kept_calls.nd (pi_list (pv 3)) (blkOk_by (own := [("call", 6)]) (N := ["calls", "sorts", "modes", "kept", "index", "item", "call", "reason"]) (sc := defScope s_kept_calls) (by decide +kernel)) (fun _ _ _ _ _ => (pg_name (i := 6) sc_kept_calls.nd rfl (Or.inl rfl))) (fun _ _ _ _ _ => pts_nil) (fun _ _ _ _ _ => (pe_ix (ix_tupK (K := K) rfl) (pv 6) pe_int (fun _ _ => rfl)))) (pa_cons (pv 1) (pa_cons (pv 2) pa_nil))))))
(pss_cons (ps_if (pt_cmpR op_notN (pv 7) pe_non (nomark _))
(pss_one (ps_never))
pss_nil)
(pss_one (ps_expr (pe_bm PySem.F.plainAttrs_list PySem.F.slot_list_append PySem.F.type_list_append mt_append (pv 3) (pa_cons (pe_c c_kept_call hr (by first | decide | assumption) rfl (pa_cons (pv 5) pa_nil)) pa_nil))))))))
(pss_one (ps_ret (pe_callTy call_tuple_of (by rfl) T.tuple (by decide +kernel) (pa_cons (pv 3) pa_nil))))))), ?_⟩
    have hv0 : SqL K H a cvs ∨ SqT K H a cvs := sq_at off_same hv
    have len3 : cvs.length = cs.length := hal.1
    refine ⟨fun t H' => t = false ∧ Same H H', ⟨_, rfl, .ref a, _, rfl, ⟨a, rfl, hv0⟩, fun H1 e1 => ⟨true, rfl, iteF ?_⟩⟩, ?_⟩
    · exact ⟨_, rfl, a, _, rfl, sq_at e1 hv0, rfl, _, rfl, decide_eq_false (fun e => by have := V.int.inj e; omega), e1⟩
    rintro _ H1 ⟨rfl, e1⟩
    refine iteF ?_
    refine ⟨by show 0 ≤ sizeLine; decide, fun D hD => ?_⟩
    have hsD : D ≠ s := ne_s hs e1 hD
    have hD0 := none_of e1 hD
    refine ⟨_, rfl, a, cvs, Off s H, rfl, hv, off_same.trans (same_new e1 hD), fun J G wk hG => ?_⟩
    refine for_it wk (fun i σ H2 => Same H H2 ∧ ∃ kvs : List V, H2 D = some (.lst kvs) ∧ Al (CdT K (Off D (Off s H2))) kvs (cs.take i) ∧ ∃ x4 x5 x6 x7, σ = [some (.ref a), some (.ref so), some (.int n), some (.ref D), x4, x5, x6, x7])
      ⟨same_new e1 hD, [], upd_same, Al.nil, none, none, none, none, rfl⟩ (fun i σ H2 _ h => hG _ (off_same.trans h.1)) ?_ ?_
    · rintro i x σ H2 H3 hi ⟨e2, kvs, d2, al, x4, x5, x6, x7, rfl⟩ ⟨U, _, y, rfl, hU, rfl, h1, hy⟩
      obtain rfl := Option.some.inj h1
      obtain ⟨c, hc, hca⟩ := hal.get hy
      have hcm := List.mem_of_getElem? hc
      have hi6 : i < cs.length := by
        have : i < cvs.length := hi
        omega
      have e3 : Same H2 (upd H2 U (.tup [.int (i : Nat), y])) := same_new (Same.refl H2) hU
      refine ⟨U, _, rfl, SqT.of upd_same, rfl, _, _, rfl, _, _, rfl, rfl, ?_⟩
      refine ⟨_, rfl, _, _, rfl, rfl, _, rfl, iteB (decide_eq_false (by omega)) ?_⟩
      refine ⟨_, rfl, _, rfl, D, rfl, ⟨_, SqL.of (e3 _ _ d2)⟩, fun D2 hD2 => ?_⟩
      refine lc_list (K := K) (a := D) (xs := kvs) (fun j H4 => Same H2 H4 ∧ H4 D2 = some (.lst ((((cs.take i).take j).map (·.nm)).map V.str))) ⟨same_new e3 hD2, upd_same⟩ (fun j H4 _ h => SqL.of (h.1 _ _ d2)) ?_ ?_
      · rintro j v H4 hv4 ⟨e4, d4⟩
        obtain ⟨g, hg, m', d', s', ds', ⟨u, rfl, hu⟩, _⟩ := al.get hv4
        have hu4 := same_t (off_same.trans (off_same.trans e4)) hu
        refine ⟨rfl, ?_⟩
        refine ⟨_, rfl, u, _, 0, .str g.nm, rfl, rfl, hu4, rfl, _, d4, ?_, fun b o hb => ?_, ?_⟩
        · rw [List.length_map, List.length_map, List.length_take, List.length_take]
          exact Nat.lt_of_le_of_lt (by omega : _ ≤ 6) (by decide)
        · rw [upd_ne (ne_of_none (e3 _ _ hb) hD2)]
          exact e4 _ _ hb
        · rw [upd_same, List.take_succ (i := j), hg]
          simp
      rintro H4 ⟨e4, d4⟩
      rw [show kvs.length = (cs.take i).length from al.1, List.take_length] at d4
      have e24 := e2.trans e4
      refine ⟨_, rfl, _, rfl, y, D2, so, n, fs, _, c, rfl, CdA.keep (off_same.trans e24) hca, SqL.of d4, e24 _ _ hso, fok, n4, cok c hcm, ?_, fun H5 e5 => ?_⟩
      · rw [List.map_take]
        exact nm_new cnd (by rw [List.getElem?_map, hc]; rfl)
      refine ⟨_, rfl, rfl, _, rfl, iteF ?_⟩
      have e25 := e24.trans e5
      have d5 := (e4.trans e5) _ _ d2
      refine ⟨_, rfl, .inl ⟨rfl, _, SqL.of d5⟩, _, rfl, s, y, c, rfl, kept_s hs e25, CdA.keep (same_off e25) hca, (cok c hcm).deeds, fun r H6 e6 hr6 => ?_⟩
      have kl : kvs.length < sizeLine := by
        rw [al.1, List.length_take]
        exact Nat.lt_of_le_of_lt (by omega : _ ≤ 6) (by decide)
      have d6 := e6 _ _ d5
      refine ⟨D, kvs, _, rfl, rfl, d6, kl, fun b o hb => ?_, _, upd_same, ?_, _, _, _, _, rfl⟩
      · rw [upd_ne (ne_of_none hb hD0)]
        exact e6 _ _ (e25 _ _ hb)
      · rw [off_upd hsD, off_put, List.take_succ, hc]
        exact (al.mono fun _ _ h => CdT.keep (same_off (same_off (e4.trans (e5.trans e6)))) h).snoc (CdT.off hr6 ((off_ne hsD).trans d6) no_lst)
    · rintro σ H2 ⟨e2, kvs, d2, al, x4, x5, x6, x7, rfl⟩
      refine ⟨_, rfl, D, kvs, rfl, .inl ⟨SqL.of d2, fun p hp => ?_⟩⟩
      have ps : p ≠ s := ne_s hs e2 hp
      rw [len3, List.take_length] at al
      have e3 : Same H2 (upd H2 p (.tup kvs)) := same_new (Same.refl H2) hp
      refine k _ kvs _ (e2.trans e3) (Tu.tup (by rw [off_ne ps, upd_same])) (al.mono fun _ _ h => CdT.keep (off_same.trans (same_off e3)) h)
end
end MK
set_option Elab.async false
set_option linter.all false
set_option autoImplicit false
set_option maxRecDepth 100000
set_option maxHeartbeats 4000000
namespace MK
open PySem PySem.Spec PyProof.Rows L2
local macro_rules | `(tactic| walk_at "x") => `(tactic| dsimp only [tSeq, tAsg, tRet, tDrop, tLst, tTup, tCons, tOp, tUn, tIfS])
theorem sc_Kind_init : FnScope ["self", "fields", "calls", "modes", "name", "sort", "need", "at", "field", "call"] ["self", "fields", "calls", "modes"] (defScope s_Kind_init) := ⟨rfl, rfl, rfl, by decide +kernel, rfl, by decide +kernel, by decide +kernel⟩
/-- the class of kinds -/
structure KCls (K : PySem.W.Frag) (KC : Addr) : Prop where
  cls : Cls K KC
  triples : NoAttr K KC "triples"
  sorts : NoAttr K KC "sorts"
  spots : NoAttr K KC "spots"
  modes : NoAttr K KC "modes"
  steps : NoAttr K KC "steps"
  table : NoAttr K KC "table"
def spKInit (K : PySem.W.Frag) (KC : Addr) : Sp := fun vs H Q _ => ∃ (s x dx : Addr) (fv cv : V) (n : Nat) (fvs cvs : List V) (fs : List FD) (cs : List CD), vs = [.ref x, fv, cv, .int n] ∧ x ≠ s ∧ H s ≠ none ∧ H x = some (.ins KC dx []) ∧
  Sq K (Off x (Off s H)) fv fvs ∧ Al (FdA K (Off x (Off s H))) fvs fs ∧ Sq K (Off x (Off s H)) cv cvs ∧ Al (CdA K (Off x (Off s H))) cvs cs ∧ KdOk fs n cs ∧ ∀ H', SameX x H H' → KdA K KC (Off s H') (.ref x) fs n cs → Q .non H'
section
variable {P : Program} {w : World} {K : PySem.W.Frag} {mg : Str → Option Value} {base : Heap} {C : Cst} {KC : Addr}
theorem run_kinit (T : Txt K mg) (Z : KCls K KC) (c_kept_fields : Cal P w K mg base CX0 3 "kept_fields" (spFields K)) (c_is_modes : Cal P w K mg base CX0 2 "is_modes" spModes) (c_kept_calls : Cal P w K mg base CX0 5 "kept_calls" (spCalls K))
    {f : Addr} {cdv : Value} {A : Around} {outer : List Env} {sh : Shared} {H : Hp} {vs : List V} {Q : VK} {E : XK} (hr : Room 5 (A.deeper (envOfC "Kind.__init__" (defScope s_Kind_init) sh.heap.objs.size f cdv))) (h : spKInit K KC vs H Q E) :
    ∃ t, PSs (cxOf CX0 P w K mg base ["self", "fields", "calls", "modes", "name", "sort", "need", "at", "field", "call"] "Kind.__init__" (defScope s_Kind_init) f cdv A outer sh H E).nox (defBody s_Kind_init) t ∧ t { nx := fun _ H' => Q .non H', rt := Q } (start ["self", "fields", "calls", "modes", "name", "sort", "need", "at", "field", "call"] vs) H := by
  obtain ⟨s, x, dx, fv, cv, n, fvs, cvs, fs, cs, rfl, xs, hs, hx, hf, hfs, hc, hcs, ok, k⟩ := h
  refine ⟨_, (pss_cons (ps_fld (pv 0) (pe_c c_kept_fields hr (by first | decide | assumption) rfl (pa_cons (pv 1) pa_nil)) rfl)
(pss_cons (ps_fld (pv 0) (pe_dc (own := [("name", 4), ("sort", 5), ("need", 6)]) (g := (gTup K 3 (gCons (gName 4) (gCons (gName 5) (gCons (gName 6) gNil))))) (tt := tYes) rfl sc_Kind_init.nd (pi_tup (pe_fld (pv 0) rfl)) (blkOk_by (own := [("name", 4), ("sort", 5), ("need", 6)]) (N := ["self", "fields", "calls", "modes", "name", "sort", "need", "at", "field", "call"]) (sc := defScope s_Kind_init) (by decide +kernel)) (fun _ _ _ _ _ => (pg_tup (by rfl) (pgs_cons (pg_name (i := 4) sc_Kind_init.nd rfl (Or.inl rfl)) (pgs_cons (pg_name (i := 5) sc_Kind_init.nd rfl (Or.inl rfl)) (pgs_cons (pg_name (i := 6) sc_Kind_init.nd rfl (Or.inl rfl)) pgs_nil))))) (fun _ _ _ _ _ => pts_nil) (fun _ _ _ _ _ => (pv 4)) (fun _ _ _ _ _ => (pv 5))) rfl)
(pss_cons (ps_fld (pv 0) (pe_dc (own := [("at", 7), ("field", 8)]) (g := (gTup K 2 (gCons (gName 7) (gCons (gName 8) gNil)))) (tt := tYes) rfl sc_Kind_init.nd (pi_enumT (by rfl) T.enumerate (pa_cons (pe_fld (pv 0) rfl) pa_nil)) (blkOk_by (own := [("at", 7), ("field", 8)]) (N := ["self", "fields", "calls", "modes", "name", "sort", "need", "at", "field", "call"]) (sc := defScope s_Kind_init) (by decide +kernel)) (fun _ _ _ _ _ => (pg_tup (by rfl) (pgs_cons (pg_name (i := 7) sc_Kind_init.nd rfl (Or.inl rfl)) (pgs_cons (pg_name (i := 8) sc_Kind_init.nd rfl (Or.inl rfl)) pgs_nil)))) (fun _ _ _ _ _ => pts_nil) (fun _ _ _ _ _ => (pe_ix (ix_tupK (K := K) rfl) (pv 8) pe_int (fun _ _ => rfl))) (fun _ _ _ _ _ => (pv 7))) rfl)
(pss_cons (ps_if (pt_not (pt_val (pe_c c_is_modes hr (by first | decide | assumption) rfl (pa_cons (pv 3) pa_nil))))
(pss_one (ps_never))
pss_nil)
(pss_cons (ps_fld (pv 0) (pv 3) rfl)
(pss_cons (ps_fld (pv 0) (pe_c c_kept_calls hr (by first | decide | assumption) rfl (pa_cons (pv 2) (pa_cons (pe_fld (pv 0) rfl) (pa_cons (pv 3) pa_nil)))) rfl)
(pss_one (ps_fld (pv 0) (pe_dc (own := [("call", 9)]) (g := (gName 9)) (tt := tYes) rfl sc_Kind_init.nd (pi_tup (pe_fld (pv 0) rfl)) (blkOk_by (own := [("call", 9)]) (N := ["self", "fields", "calls", "modes", "name", "sort", "need", "at", "field", "call"]) (sc := defScope s_Kind_init) (by decide +kernel)) (fun _ _ _ _ _ => (pg_name (i := 9) sc_Kind_init.nd rfl (Or.inl rfl))) (fun _ _ _ _ _ => pts_nil) (fun _ _ _ _ _ => (pe_ix (ix_tupK (K := K) rfl) (pv 9) pe_int (fun _ _ => rfl))) (fun _ _ _ _ _ => (pv 9))) rfl)))))))), ?_⟩
  have n1 := ok.pos
  have n4 := ok.le
  -- triples
  refine ⟨_, rfl, s, fv, fvs, fs, rfl, hs, hf.keep off_same, hfs.mono fun _ _ h => FdA.keep off_same h, ok.fields, fun r rvs H1 e1 tr al => ?_⟩
  have x1 := e1 _ _ hx
  refine ⟨_, rfl, x, KC, dx, [], rfl, x1, Z.cls, Z.triples, by decide, ?_⟩
  have hB1 : Off s H1 x = some (.ins KC dx []) := (off_ne xs).trans x1
  have tr1 : Tu K (Off x (Off s H1)) r rvs := tr.off hB1 no_ins
  have al1 : Al (FdT K (Off x (Off s H1))) rvs fs := al.mono fun _ _ h => Tu.off h hB1 no_ins
  obtain ⟨ra, rfl, tra⟩ := tr1
  have e01 : SameX x H (upd H1 x (.ins KC dx [("triples", .ref ra)])) := (same_sx e1).put
  have hB : ∀ {H' : Hp} {o : HO}, Off x (Off s (upd H' x o)) = Off x (Off s H') := by
    intro H' o
    rw [off_upd xs, off_put]
  have hs2 : upd H1 x (.ins KC dx [("triples", .ref ra)]) s ≠ none := by
    rw [upd_ne (Ne.symm xs)]
    exact kept_s hs e1
  have F2 : SqT K (Off x (Off s (upd H1 x (.ins KC dx [("triples", .ref ra)])))) ra rvs ∧ Al (FdT K (Off x (Off s (upd H1 x (.ins KC dx [("triples", .ref ra)]))))) rvs fs := by
    rw [hB]
    exact ⟨tra, al1⟩
  have C2 : Sq K (Off x (Off s (upd H1 x (.ins KC dx [("triples", .ref ra)])))) cv cvs ∧ Al (CdA K (Off x (Off s (upd H1 x (.ins KC dx [("triples", .ref ra)]))))) cvs cs := by
    rw [hB]
    exact ⟨hc.keep (same_off (same_off e1)), hcs.mono fun _ _ h => CdA.keep (same_off (same_off e1)) h⟩
  have x2 : upd H1 x (.ins KC dx [("triples", .ref ra)]) x = some (.ins KC dx [("triples", .ref ra)]) := upd_same
  show tSeq _ _ _ _ (upd H1 x (.ins KC dx [("triples", .ref ra)]))
  generalize upd H1 x (.ins KC dx [("triples", .ref ra)]) = H2 at e01 hs2 F2 C2 x2
  have rl : rvs.length ≤ 3 := by rw [al.1]; exact ok.fields.le
  -- sorts
  refine ⟨_, rfl, x, KC, dx, _, .ref ra, rfl, x2, Z.cls, Z.triples, rfl, ra, rfl, ⟨rvs, same_t (off_same.trans off_same) F2.1⟩, fun D hD => ?_⟩
  refine dc_it (walk_tup (K := K) (a := ra) (xs := rvs)) (fun i H' => Same H2 H' ∧ H' D = some (.dK ((sortsV fs).take i))) ⟨same_new (Same.refl H2) hD, upd_same⟩ (fun i H' _ h => same_t ((off_same.trans off_same).trans h.1) F2.1) ?_ ?_
  · rintro i v H3' H3 hi ⟨e3, d3⟩ ⟨rfl, hv⟩
    obtain ⟨f', hf', u, rfl, hu⟩ := F2.2.get hv
    refine ⟨u, FdV f', rfl, same_t ((off_same.trans off_same).trans e3) hu, rfl, _, _, rfl, _, _, rfl, _, _, rfl, rfl, rfl, ?_⟩
    refine ⟨_, rfl, _, rfl, _, .inr f'.nm, rfl, d3, ?_, fun b o hb => ?_, ?_⟩
    · exact Nat.lt_of_le_of_lt (Nat.le_trans (List.length_take_le' ..) (by rw [sorts_len]; exact ok.fields.le)) (by decide)
    · rw [upd_ne (ne_of_none hb hD)]
      exact e3 _ _ hb
    · rw [upd_same, put_take (sorts_nd ok.fields.nd) (sorts_at hf')]
  rintro H3 ⟨e3, d3⟩
  rw [show rvs.length = (sortsV fs).length by rw [sorts_len]; exact F2.2.1, List.take_length] at d3
  have x3 := e3 _ _ x2
  refine ⟨_, rfl, x, KC, dx, _, rfl, x3, Z.cls, Z.sorts, by simp, ?_⟩
  show tSeq _ _ _ _ (upd H3 x (.ins KC dx [("triples", .ref ra), ("sorts", .ref D)]))
  have Dx : D ≠ x := fun e => by rw [e, x3] at d3; cases d3
  have Ds : D ≠ s := ne_s hs2 (Same.refl H2) hD
  have e04 : SameX x H (upd H3 x (.ins KC dx [("triples", .ref ra), ("sorts", .ref D)])) := (e01.trans (same_sx e3)).put
  have b24 : Same (Off x (Off s H2)) (Off x (Off s (upd H3 x (.ins KC dx [("triples", .ref ra), ("sorts", .ref D)])))) := by
    rw [hB]
    exact same_off (same_off e3)
  have hs4 : upd H3 x (.ins KC dx [("triples", .ref ra), ("sorts", .ref D)]) s ≠ none := by
    rw [upd_ne (Ne.symm xs)]
    exact kept_s hs2 e3
  have d4 : Off x (Off s (upd H3 x (.ins KC dx [("triples", .ref ra), ("sorts", .ref D)]))) D = some (.dK (sortsV fs)) := by
    rw [hB, off_ne Dx, off_ne Ds]
    exact d3
  have x4 : upd H3 x (.ins KC dx [("triples", .ref ra), ("sorts", .ref D)]) x = some (.ins KC dx [("triples", .ref ra), ("sorts", .ref D)]) := upd_same
  generalize upd H3 x (.ins KC dx [("triples", .ref ra), ("sorts", .ref D)]) = H4 at e04 b24 hs4 d4 x4
  -- spots
  refine ⟨_, rfl, x, KC, dx, _, .ref ra, rfl, x4, Z.cls, Z.triples, rfl, ra, rvs, rfl, same_t (b24.trans (off_same.trans off_same)) F2.1, fun D2 hD2 => ?_⟩
  refine dc_it (walk_enumT (K := K) (a := ra) (xs := rvs)) (fun i H' => Same H4 H' ∧ H' D2 = some (.dK ((spotsV fs).take i))) ⟨same_new (Same.refl H4) hD2, upd_same⟩ (fun i H' _ h => same_t ((b24.trans (off_same.trans off_same)).trans h.1) F2.1) ?_ ?_
  · rintro i v H5 H5' hi ⟨e5, d5⟩ ⟨U, _, y, rfl, hU, rfl, h1, hy⟩
    obtain rfl := Option.some.inj h1
    obtain ⟨f', hf', u, rfl, hu⟩ := F2.2.get hy
    have e6 : Same H5 (upd H5 U (.tup [.int (i : Nat), .ref u])) := same_new (Same.refl H5) hU
    have hu6 : SqT K (upd H5 U (.tup [.int (i : Nat), .ref u])) u (FdV f') := same_t ((b24.trans (off_same.trans off_same)).trans (e5.trans e6)) hu
    refine ⟨U, _, rfl, SqT.of upd_same, rfl, _, _, rfl, _, _, rfl, rfl, rfl, ?_⟩
    refine ⟨_, rfl, u, _, 0, .str f'.nm, rfl, rfl, hu6, rfl, _, rfl, _, .inr f'.nm, rfl, e6 _ _ d5, ?_, fun b o hb => ?_, ?_⟩
    · exact Nat.lt_of_le_of_lt (Nat.le_trans (List.length_take_le' ..) (by rw [spots_len]; exact ok.fields.le)) (by decide)
    · rw [upd_ne (ne_of_none hb hD2)]
      exact e6 _ _ (e5 _ _ hb)
    · rw [upd_same, put_take (spots_nd ok.fields.nd) (spots_at hf')]
  rintro H5 ⟨e5, d5⟩
  rw [show rvs.length = (spotsV fs).length by rw [spots_len]; exact F2.2.1, List.take_length] at d5
  have x5 := e5 _ _ x4
  refine ⟨_, rfl, x, KC, dx, _, rfl, x5, Z.cls, Z.spots, by simp, ?_⟩
  show tSeq _ _ _ _ (upd H5 x (.ins KC dx [("triples", .ref ra), ("sorts", .ref D), ("spots", .ref D2)]))
  have D2x : D2 ≠ x := fun e => by rw [e, x5] at d5; cases d5
  have D2s : D2 ≠ s := ne_s hs4 (Same.refl H4) hD2
  have e06 : SameX x H (upd H5 x (.ins KC dx [("triples", .ref ra), ("sorts", .ref D), ("spots", .ref D2)])) := (e04.trans (same_sx e5)).put
  have b26 : Same (Off x (Off s H4)) (Off x (Off s (upd H5 x (.ins KC dx [("triples", .ref ra), ("sorts", .ref D), ("spots", .ref D2)])))) := by
    rw [hB]
    exact same_off (same_off e5)
  have hs6 : upd H5 x (.ins KC dx [("triples", .ref ra), ("sorts", .ref D), ("spots", .ref D2)]) s ≠ none := by
    rw [upd_ne (Ne.symm xs)]
    exact kept_s hs4 e5
  have d6 : Off x (Off s (upd H5 x (.ins KC dx [("triples", .ref ra), ("sorts", .ref D), ("spots", .ref D2)]))) D2 = some (.dK (spotsV fs)) := by
    rw [hB, off_ne D2x, off_ne D2s]
    exact d5
  have x6 : upd H5 x (.ins KC dx [("triples", .ref ra), ("sorts", .ref D), ("spots", .ref D2)]) x = some (.ins KC dx [("triples", .ref ra), ("sorts", .ref D), ("spots", .ref D2)]) := upd_same
  generalize upd H5 x (.ins KC dx [("triples", .ref ra), ("sorts", .ref D), ("spots", .ref D2)]) = H6 at e06 b26 hs6 d6 x6
  -- modes
  refine ⟨_, rfl, (n : Int), rfl, ?_⟩
  rw [decide_eq_true (by omega : (1 : Int) ≤ n), decide_eq_true (by omega : (n : Int) ≤ 4)]
  refine ⟨true, rfl, iteF ?_⟩
  refine ⟨_, rfl, _, rfl, x, KC, dx, _, rfl, x6, Z.cls, Z.modes, by simp, ?_⟩
  show tSeq _ _ _ _ (upd H6 x (.ins KC dx [("triples", .ref ra), ("sorts", .ref D), ("spots", .ref D2), ("modes", .int n)]))
  have e07 : SameX x H (upd H6 x (.ins KC dx [("triples", .ref ra), ("sorts", .ref D), ("spots", .ref D2), ("modes", .int n)])) := e06.put
  have b67 : Off x (Off s (upd H6 x (.ins KC dx [("triples", .ref ra), ("sorts", .ref D), ("spots", .ref D2), ("modes", .int n)]))) = Off x (Off s H6) := hB
  have hs7 : upd H6 x (.ins KC dx [("triples", .ref ra), ("sorts", .ref D), ("spots", .ref D2), ("modes", .int n)]) s ≠ none := by
    rw [upd_ne (Ne.symm xs)]
    exact hs6
  have x7 : upd H6 x (.ins KC dx [("triples", .ref ra), ("sorts", .ref D), ("spots", .ref D2), ("modes", .int n)]) x = some (.ins KC dx [("triples", .ref ra), ("sorts", .ref D), ("spots", .ref D2), ("modes", .int n)]) := upd_same
  generalize upd H6 x (.ins KC dx [("triples", .ref ra), ("sorts", .ref D), ("spots", .ref D2), ("modes", .int n)]) = H7 at e07 b67 hs7 x7
  have b47 : Same (Off x (Off s H4)) (Off x (Off s H7)) := by
    rw [b67]
    exact b26
  have b27 := b24.trans b47
  rw [← b67] at d6
  -- steps
  refine ⟨_, rfl, _, rfl, x, KC, dx, _, .ref D, rfl, x7, Z.cls, Z.sorts, rfl, _, rfl, s, cv, D, n, fs, cvs, cs, rfl, hs7, C2.1.keep (b27.trans off_same), C2.2.mono fun _ _ h => CdA.keep (b27.trans off_same) h, (b47.trans (off_same.trans off_same)) _ _ d4, ok.fields, n4, ok.cpos, ok.cle, ok.calls, ok.nd, fun r8 svs H8 e8 tr8 al8 => ?_⟩
  have x8 := e8 _ _ x7
  refine ⟨_, rfl, x, KC, dx, _, rfl, x8, Z.cls, Z.steps, by simp, ?_⟩
  have hB8 : Off s H8 x = some (.ins KC dx [("triples", .ref ra), ("sorts", .ref D), ("spots", .ref D2), ("modes", .int n)]) := (off_ne xs).trans x8
  have tr9 : Tu K (Off x (Off s H8)) r8 svs := tr8.off hB8 no_ins
  have al9 : Al (CdT K (Off x (Off s H8))) svs cs := al8.mono fun _ _ h => CdT.off h hB8 no_ins
  obtain ⟨rb, rfl, trb⟩ := tr9
  rw [show putF ("steps" : Str) (V.ref rb) ([("triples", .ref ra), ("sorts", .ref D), ("spots", .ref D2), ("modes", .int n)] : List (Str × V)) = ([("triples", .ref ra), ("sorts", .ref D), ("spots", .ref D2), ("modes", .int n), ("steps", .ref rb)] : List (Str × V)) from rfl]
  have e09 : SameX x H (upd H8 x (.ins KC dx [("triples", .ref ra), ("sorts", .ref D), ("spots", .ref D2), ("modes", .int n), ("steps", .ref rb)])) := (e07.trans (same_sx e8)).put
  have b89 : Off x (Off s (upd H8 x (.ins KC dx [("triples", .ref ra), ("sorts", .ref D), ("spots", .ref D2), ("modes", .int n), ("steps", .ref rb)]))) = Off x (Off s H8) := hB
  have hs9 : upd H8 x (.ins KC dx [("triples", .ref ra), ("sorts", .ref D), ("spots", .ref D2), ("modes", .int n), ("steps", .ref rb)]) s ≠ none := by
    rw [upd_ne (Ne.symm xs)]
    exact kept_s hs7 e8
  have x9 : upd H8 x (.ins KC dx [("triples", .ref ra), ("sorts", .ref D), ("spots", .ref D2), ("modes", .int n), ("steps", .ref rb)]) x = some (.ins KC dx [("triples", .ref ra), ("sorts", .ref D), ("spots", .ref D2), ("modes", .int n), ("steps", .ref rb)]) := upd_same
  generalize upd H8 x (.ins KC dx [("triples", .ref ra), ("sorts", .ref D), ("spots", .ref D2), ("modes", .int n), ("steps", .ref rb)]) = H9 at e09 b89 hs9 x9
  have b79 : Same (Off x (Off s H7)) (Off x (Off s H9)) := by
    rw [b89]
    exact same_off (same_off e8)
  rw [← b89] at trb al9
  have sl : svs.length ≤ 6 := by rw [al9.1]; exact ok.cle
  -- table
  refine ⟨_, rfl, x, KC, dx, _, .ref rb, rfl, x9, Z.cls, Z.steps, rfl, rb, rfl, ⟨svs, same_t (off_same.trans off_same) trb⟩, fun D3 hD3 => ?_⟩
  refine dc_it (walk_tup (K := K) (a := rb) (xs := svs)) (fun i H' => Same H9 H' ∧ H' D3 = some (.dK ((tableV cs svs).take i))) ⟨same_new (Same.refl H9) hD3, upd_same⟩ (fun i H' _ h => same_t ((off_same.trans off_same).trans h.1) trb) ?_ ?_
  · rintro i v Ha' Ha hi ⟨ea, da⟩ ⟨rfl, hv⟩
    obtain ⟨c', hc', m', d', s', ds', ⟨u, rfl, hu⟩, _⟩ := al9.get hv
    refine ⟨rfl, ?_⟩
    refine ⟨_, rfl, u, _, 0, .str c'.nm, rfl, rfl, same_t ((off_same.trans off_same).trans ea) hu, rfl, _, rfl, _, .inr c'.nm, rfl, da, ?_, fun b o hb => ?_, ?_⟩
    · exact Nat.lt_of_le_of_lt (Nat.le_trans (List.length_take_le' ..) (by rw [table_len al9.1]; exact ok.cle)) (by decide)
    · rw [upd_ne (ne_of_none hb hD3)]
      exact ea _ _ hb
    · rw [upd_same, put_take (table_nd ok.nd al9.1) (table_at hc' hv)]
  rintro Ha ⟨ea, da⟩
  rw [show svs.length = (tableV cs svs).length by rw [table_len al9.1]; exact al9.1, List.take_length] at da
  have xa := ea _ _ x9
  refine ⟨_, rfl, x, KC, dx, _, rfl, xa, Z.cls, Z.table, by simp, ?_⟩
  have D3x : D3 ≠ x := fun e => by rw [e, xa] at da; cases da
  have D3s : D3 ≠ s := ne_s hs9 (Same.refl H9) hD3
  show Q .non (upd Ha x (.ins KC dx [("triples", .ref ra), ("sorts", .ref D), ("spots", .ref D2), ("modes", .int n), ("steps", .ref rb), ("table", .ref D3)]))
  have b9a : Same (Off x (Off s H9)) (Off s (upd Ha x (.ins KC dx [("triples", .ref ra), ("sorts", .ref D), ("spots", .ref D2), ("modes", .int n), ("steps", .ref rb), ("table", .ref D3)]))) := by
    refine Same.trans (H1 := Off x (Off s (upd Ha x (.ins KC dx [("triples", .ref ra), ("sorts", .ref D), ("spots", .ref D2), ("modes", .int n), ("steps", .ref rb), ("table", .ref D3)])))) ?_ off_same
    rw [hB]
    exact same_off (same_off ea)
  refine k _ ((e09.trans (same_sx ea)).put) ⟨x, dx, D, D2, D3, .ref ra, .ref rb, rvs, svs, rfl, ?_, ⟨ra, rfl, same_t ((b27.trans b79).trans b9a) F2.1⟩, F2.2.mono fun _ _ h => FdT.keep ((b27.trans b79).trans b9a) h, ((b47.trans b79).trans b9a) _ _ d4, (b79.trans b9a) _ _ d6, ⟨rb, rfl, same_t b9a trb⟩, al9.mono fun _ _ h => CdT.keep b9a h, ?_⟩
  · rw [off_ne xs, upd_same]
  · rw [off_ne D3s, upd_ne D3x]
    exact da
end
end MK
set_option Elab.async false
set_option linter.all false
set_option autoImplicit false
set_option maxRecDepth 100000
set_option maxHeartbeats 4000000
namespace MK
open PySem PySem.Spec PyProof.Rows L2
local macro_rules | `(tactic| walk_at "x") => `(tactic| dsimp only [tSeq, tAsg, tRet, tDrop, tLst, tTup, tCons, tOp, tUn, tIfS])
theorem sc_mix : FnScope ["_law_state", "_law_things", "_law_left", "_law_found"] ["_law_state", "_law_things"] (defScope s_mix) := ⟨rfl, rfl, rfl, by decide +kernel, rfl, by decide +kernel, by decide +kernel⟩
def spMix (K : PySem.W.Frag) : Sp := fun vs H Q _ => ∃ (s c l : Addr) (ns : List Int) (zs : List Str), vs = [.ref s, .ref l] ∧ StA H s c ns ∧ ns.length ≤ 63 ∧ SqL K H l (zs.map V.str) ∧ zs.length < 1000 ∧ (∀ z ∈ zs, PyData.strOk z = true) ∧
  ∀ (a : Addr) (ys : List Str) H', ys.Perm zs → H a = none → H' a = some (.lst (ys.map V.str)) → SameX s H H' → StA H' s c ns → Q (.ref a) H'
section
variable {P : Program} {w : World} {K : PySem.W.Frag} {mg : Str → Option Value} {base : Heap}
def lenAt (a : Addr) (H : Hp) : Nat := match H a with
  | some (.lst xs) => xs.length
  | _ => 0
theorem StA.put {H : Hp} {s c a : Addr} {ns : List Int} {o : HO} (x : StA H s c ns) (h1 : a ≠ s) (h2 : a ≠ c) : StA (upd H a o) s c ns := by
  obtain ⟨n, e1, p, q, m, e2⟩ := x
  exact ⟨n, (upd_ne (Ne.symm h2)).trans e1, p, q, m, (upd_ne (Ne.symm h1)).trans e2⟩
theorem StA.ne {H : Hp} {s c a : Addr} {ns : List Int} (x : StA H s c ns) (h : H a = none) : a ≠ s ∧ a ≠ c := by
  obtain ⟨n, e1, p, q, m, e2⟩ := x
  exact ⟨fun e => (by rw [e, e2] at h; cases h), fun e => (by rw [e, e1] at h; cases h)⟩
theorem ok_mix {f : Addr} {fd : FuncData} (F : DefX K mg "_law_mix" s_mix ["_law_state", "_law_things"] f fd) (T : Txt K mg) (c_take : Cal P w K mg base CX0 2 "_law_take" spTake) : Cal P w K mg base CX0 3 "_law_mix" (spMix K) := by
  refine cal_mk F sc_mix (fun vs H Q E h => ?_) (fun cdv A outer sh H vs Q E hr h => ?_)
  · obtain ⟨s, c, l, ns, zs, rfl, _⟩ := h
    rfl
  · obtain ⟨s, c, l, ns, zs, rfl, h0, hl, hx, hz, hok, k⟩ := h
    refine ⟨_, (pss_cons (ps_par (i := 2) (j := 3) (by rfl) sc_mix.nd rfl rfl (by decide) rfl rfl (pa_cons (pe_callTy call_list_of (by rfl) T.list (by decide +kernel) (pa_cons (pv 1) pa_nil)) (pa_cons (pe_lst pa_nil) pa_nil)) (by rfl))
(pss_cons (ps_while PassesOwn.never (pt_cmpR (op_neD hr.units) (pv 2) (pe_lst pa_nil) (nomark _))
(pss_one (ps_expr (pe_bm PySem.F.plainAttrs_list PySem.F.slot_list_append PySem.F.type_list_append mt_append (pv 3) (pa_cons (pe_bm PySem.F.plainAttrs_list PySem.F.slot_list_pop PySem.F.type_list_pop mt_popAt (pv 2) (pa_cons (pe_c c_take hr (by first | decide | assumption) rfl (pa_cons (pv 0) (pa_cons (pe_callB call_len_seq (by rfl) T.len (by decide +kernel) (pa_cons (pv 2) pa_nil)) pa_nil))) pa_nil)) pa_nil)))))
(pss_one (ps_ret (pv 3))))), ?_⟩
    refine ⟨_, rfl, l, _, rfl, .inl hx, fun a ha => ?_⟩
    refine ⟨by show 0 ≤ sizeLine; decide, fun b hb => ?_⟩
    obtain ⟨ba, hb0⟩ := upd_none hb
    have hs0 : H s ≠ none := by
      obtain ⟨_, _, _, _, _, e⟩ := h0
      rw [e]
      exact nofun
    have sa : a ≠ s := fun e => hs0 (e ▸ ha)
    have sb : b ≠ s := fun e => hs0 (e ▸ hb0)
    have hb1 : upd (upd H a (.lst (zs.map V.str))) b (.lst []) a = some (.lst (zs.map V.str)) := by rw [upd_ne (Ne.symm ba), upd_same]
    refine ⟨_, _, rfl, ?_⟩
    refine while_by (fun σ H2 => SameX s H H2 ∧ StA H2 s c ns ∧ ∃ ls fs : List Str, (fs ++ ls).Perm zs ∧ H2 a = some (.lst (ls.map V.str)) ∧ H2 b = some (.lst (fs.map V.str)) ∧ σ = [some (.ref s), some (.ref l), some (.ref a), some (.ref b)]) (fun _ H2 => lenAt a H2) ?_ ?_ (fun σ H Q Q' h x => ?_)
    · refine ⟨((SameX.refl s H).putN ha).putN hb0, h0.keep (same_new (same_new (Same.refl H) ha) hb), zs, [], by simp, hb1, upd_same, rfl⟩
    · rintro σ H2 ⟨e2, h2, ls, fs, hp, ea, eb, rfl⟩
      have okl : ∀ z ∈ ls, PyData.strOk z = true := fun z m => hok z (hp.mem_iff.mp (List.mem_append_right _ m))
      refine ⟨_, rfl, by show 0 ≤ sizeLine; decide, fun p hp2 => ?_⟩
      have e3 : Same H2 (upd H2 p (.lst [])) := same_new (Same.refl H2) hp2
      refine ⟨_, _, .lst (SqL.of (e3 _ _ ea)) (dp_strs ls), .lst (SqL.of upd_same) .nil, strs_shaped ls okl, strs_shaped [] nofun, _, rfl, ?_⟩
      rw [eqv_nil]
      refine ite2 (fun h1 => ?_) (fun h1 => ?_)
      · cases ls with
        | nil => cases h1
        | cons z0 ls =>
        have lz : (z0 :: ls).length < 1000 := by
          have := hp.length_eq
          rw [List.length_append] at this
          omega
        refine ⟨_, rfl, (.inl ⟨rfl, _, SqL.of (e3 _ _ eb)⟩), _, rfl, (.inl ⟨rfl, _, SqL.of (e3 _ _ ea)⟩), _, rfl, _, rfl, a, _, rfl, .inl (SqL.of (e3 _ _ ea)), s, c, ns, _, rfl, h2.keep e3, hl, by rw [List.length_map, List.length_cons]; omega, by rw [List.length_map]; omega, fun d H4 hd e4 h4 => ?_⟩
        rw [List.length_map] at hd
        have hdl : d < (z0 :: ls).length := by omega
        have a4 := e4 _ _ (e3 _ _ ea) sa
        have b4 := e4 _ _ (e3 _ _ eb) sb
        refine ⟨a, _, _, d, .str (z0 :: ls)[d], rfl, rfl, a4, by omega, by omega, seqIndex_nat (by rw [List.length_map]; exact hdl), by rw [List.getElem?_map, List.getElem?_eq_getElem hdl]; rfl, ?_⟩
        have fl : fs.length < 1000 := by
          have := hp.length_eq
          rw [List.length_append] at this
          omega
        refine ⟨b, _, _, rfl, rfl, (upd_ne ba).trans b4, by rw [List.length_map]; exact Nat.lt_of_lt_of_le fl (by decide), ?_⟩
        refine ⟨⟨(((e2.trans (same_sx e3)).trans e4).putN ha).putN hb0, ?_, (z0 :: ls).eraseIdx d, fs ++ [(z0 :: ls)[d]], ?_, ?_, ?_, rfl⟩, ?_⟩
        · exact (h4.put (h0.ne ha).1 (h0.ne ha).2).put (h0.ne hb0).1 (h0.ne hb0).2
        · rw [List.append_assoc]
          exact ((perm_erase (z0 :: ls) d hdl).append_left fs).trans hp
        · rw [upd_ne (Ne.symm ba), upd_same, eraseIdx_mapV]
        · rw [upd_same, List.map_append]
          rfl
        · show lenAt a _ < lenAt a _
          unfold lenAt
          rw [upd_ne (Ne.symm ba), upd_same, ea]
          show (List.eraseIdx _ _).length < (List.map V.str (z0 :: ls)).length
          rw [List.length_eraseIdx, List.length_map, if_pos hdl]
          omega
      · cases ls with
        | cons z0 ls => exact absurd rfl h1
        | nil =>
        refine ⟨_, rfl, ?_⟩
        exact k b fs _ (by simpa using hp) hb0 (e3 _ _ eb) (e2.trans (same_sx e3)) (h2.keep e3)
    · obtain ⟨v, h1, h2, h3⟩ := x
      exact ⟨v, h1, h2, fun p hp => by
        obtain ⟨d, e, a1, a2, a3, a4, k, a5, a6⟩ := h3 p hp
        exact ⟨d, e, a1, a2, a3, a4, k, a5, h _ _ a6⟩⟩
end
end MK
set_option Elab.async false
set_option linter.all false
set_option autoImplicit false
set_option maxRecDepth 100000
set_option maxHeartbeats 4000000
namespace MK
open PySem PySem.Spec PyProof.Rows L2
local macro_rules | `(tactic| walk_at "x") => `(tactic| dsimp only [tSeq, tAsg, tRet, tDrop, tLst, tTup, tCons, tOp, tUn, tIfS])
theorem sc_deeds : FnScope ["_law_state", "_law_fields", "_law_many", "_law_found", "_law_busy", "_law_k", "_law_name", "_law_sort", "_law_need", "_law_some", "_law_deed"] ["_law_state", "_law_fields", "_law_many"] (defScope s_deeds) := ⟨rfl, rfl, rfl, by decide +kernel, rfl, by decide +kernel, by decide +kernel⟩
def spDeeds (K : PySem.W.Frag) : Sp := fun vs H Q _ => ∃ (s c l : Addr) (ns : List Int) (n : Int) (fvs : List V) (fs : List FD), vs = [.ref s, .ref l, .int n] ∧ StA H s c ns ∧ ns.length ≤ 63 ∧ Off s H l = some (.lst fvs) ∧ Al (FdT K (Off s H)) fvs fs ∧ 0 < fs.length ∧ fs.length < 10 ∧ 0 ≤ n ∧ n < 10 ∧
  ∀ (a : Addr) (ds : List (Str × Str)) (dvs : List V) H', H a = none → Off s H' a = some (.lst dvs) → Al (DeT K (Off s H')) dvs ds → (ds.length : Int) ≤ n → (∀ d ∈ ds, DeOk fs d) → (worded ds).Nodup → SameX s H H' → StA H' s c ns → Q (.ref a) H'
section
variable {P : Program} {w : World} {K : PySem.W.Frag} {mg : Str → Option Value} {base : Heap}
theorem ok_deeds {f : Addr} {fd : FuncData} (F : DefX K mg "_law_deeds" s_deeds ["_law_state", "_law_fields", "_law_many"] f fd) (T : Txt K mg) (c_take : Cal P w K mg base CX0 2 "_law_take" spTake) (c_one : Cal P w K mg base CX0 3 "_law_one" (spOne K)) : Cal P w K mg base CX0 4 "_law_deeds" (spDeeds K) := by
  refine cal_mk F sc_deeds (fun vs H Q E h => ?_) (fun cdv A outer sh H vs Q E hr h => ?_)
  · obtain ⟨s, c, l, ns, n, fvs, fs, rfl, _⟩ := h
    rfl
  · obtain ⟨s, c, l, ns, n, fvs, fs, rfl, h0, hl, hx, hfs, f0, f1, n0, n1, k⟩ := h
    refine ⟨_, (pss_cons (ps_par (i := 3) (j := 4) (by rfl) sc_deeds.nd rfl rfl (by decide) rfl rfl (pa_cons (pe_lst pa_nil) (pa_cons (pe_lst pa_nil) pa_nil)) (by rfl))
(pss_cons (ps_for PassesOwn.never rfl (pi_range1 (by rfl) T.range (pa_cons (pe_c c_take hr (by first | decide | assumption) rfl (pa_cons (pv 0) (pa_cons (pe_op op_add (pv 2) pe_int) pa_nil))) pa_nil)) (pg_name (i := 5) sc_deeds.nd rfl (Or.inl rfl))
(pss_cons (ps_asg (pe_c c_one hr (by first | decide | assumption) rfl (pa_cons (pv 0) (pa_cons (pv 1) pa_nil))) (pg_tup (by rfl) (pgs_cons (pg_name (i := 6) sc_deeds.nd rfl (Or.inl rfl)) (pgs_cons (pg_name (i := 7) sc_deeds.nd rfl (Or.inl rfl)) (pgs_cons (pg_name (i := 8) sc_deeds.nd rfl (Or.inl rfl)) pgs_nil)))))
(pss_cons (ps_set (i := 9) sc_deeds.nd rfl (Or.inl rfl) (pe_cut (pe_ifExp (pt_cmpR op_eq (pv 7) pe_str (nomark _)) (pe_lst (pa_cons pe_str (pa_cons pe_str pa_nil))) (pe_lst (pa_cons pe_str (pa_cons pe_str (pa_cons pe_str (pa_cons pe_str (pa_cons pe_str pa_nil)))))))))
(pss_cons (ps_set (i := 10) sc_deeds.nd rfl (Or.inl rfl) (pe_c c_one hr (by first | decide | assumption) rfl (pa_cons (pv 0) (pa_cons (pv 9) pa_nil))))
(pss_one (ps_if (pt_cut (PW.pt (pw_or (pt_cmpR op_notIn_seq (pv 10) (pe_tup (pa_cons pe_str (pa_cons pe_str pa_nil))) (by rfl)) (pw_or1 (pt_cmpR op_notIn_seq (pv 6) (pv 4) (by rfl))))))
(pss_cons (ps_set (i := 4) sc_deeds.nd rfl (Or.inl rfl) (pe_op op_cat (pv 4) (pe_op op_rep (pe_lst (pa_cons (pv 6) pa_nil)) (pe_callTy call_int1 (by rfl) T.int (by decide +kernel) (pa_cons (pe_cmpR op_in_seq (pv 10) (pe_tup (pa_cons pe_str (pa_cons pe_str pa_nil))) (by rfl)) pa_nil)))))
(pss_one (ps_expr (pe_bm PySem.F.plainAttrs_list PySem.F.slot_list_append PySem.F.type_list_append mt_append (pv 3) (pa_cons (pe_tup (pa_cons (pv 10) (pa_cons (pv 6) pa_nil))) pa_nil)))))
pss_nil))))))
(pss_one (ps_ret (pv 3))))), ?_⟩
    have ls : l ≠ s := fun e => by rw [e, off_s] at hx; cases hx
    refine ⟨by show 0 ≤ sizeLine; decide, fun a ha => ⟨by show 0 ≤ sizeLine; decide, fun b hb => ⟨_, _, rfl, ?_⟩⟩⟩
    obtain ⟨ba, hb0⟩ := upd_none hb
    obtain ⟨as, ac⟩ := h0.ne ha
    obtain ⟨bs, bc⟩ := h0.ne hb0
    have e1 : SameX s H (upd (upd H a (.lst [])) b (.lst [])) := ((SameX.refl s H).putN ha).putN hb0
    refine ⟨_, rfl, _, rfl, _, _, rfl, rfl, s, c, ns, n + 1, rfl, (h0.put as ac).put bs bc, hl, by omega, by omega, fun d H2 hd e2 h2 => ?_⟩
    have a2 := e2 _ _ ((upd_ne (Ne.symm ba)).trans upd_same) as
    have b2 := e2 _ _ upd_same bs
    refine ⟨(d : Int), rfl, by omega, by omega, ?_⟩
    refine for_it walk_range (fun i σ H2 => SameX s H H2 ∧ StA H2 s c ns ∧ ∃ (ds : List (Str × Str)) (dvs : List V) (b : Addr), H2 a = some (.lst dvs) ∧ H2 b = some (.lst ((worded ds).map V.str)) ∧ b ≠ s ∧ b ≠ a ∧
      Al (DeT K (Off a (Off s H2))) dvs ds ∧ ds.length ≤ i ∧ (∀ d ∈ ds, DeOk fs d) ∧ (worded ds).Nodup ∧ ∃ x5 x6 x7 x8 x9 x10, σ = [some (.ref s), some (.ref l), some (.int n), some (.ref a), some (.ref b), x5, x6, x7, x8, x9, x10])
      ⟨e1.trans e2, h2, [], [], b, a2, b2, bs, ba, Al.nil, Nat.le_refl _, nofun, List.nodup_nil, none, none, none, none, none, none, rfl⟩ (fun _ _ _ _ _ => trivial) ?_ ?_
    · rintro i x σ H3' H3 hi ⟨e3, h3, ds, dvs, b, ea, eb, bs, ba, hal, hln, hok, hnd, x5, x6, x7, x8, x9, x10, rfl⟩ ⟨rfl, rfl⟩
      have hi10 : i < 10 := by
        have : i < d := hi
        omega
      have fl : fvs.length < 10 := by rw [hfs.1]; exact f1
      refine ⟨_, rfl, _, rfl, s, c, l, ns, fvs, rfl, h3, hl, ls, .inl (SqL.of (e3 _ _ (off_get hx) ls)), by rw [hfs.1]; exact f0, by omega, fun j v H4 hj e4 h4 => ?_⟩
      obtain ⟨f, hfj, hft⟩ := hfs.get hj
      have e04 := e3.trans e4
      obtain ⟨u, rfl, hu⟩ := (FdT.keep e04.off hft)
      have hu : SqT K H4 u (FdV f) := same_t off_same hu
      refine ⟨u, _, rfl, hu, rfl, _, _, rfl, _, _, rfl, _, _, rfl, rfl, ?_⟩
      refine ⟨fun v H5 => ∃ (q : Addr) (zs : List Str), v = .ref q ∧ H4 q = none ∧ H5 = upd H4 q (.lst (zs.map V.str)) ∧ 0 < zs.length ∧ zs.length < 10 ∧ ∀ z ∈ zs, f.many ∈ deedSorts z, ?_, ?_⟩
      · refine ⟨_, rfl, rfl, _, rfl, ?_⟩
        refine ite2 (fun h1 => ⟨by show 2 ≤ sizeLine; decide, fun q hq => ⟨q, ["set", "clear"], rfl, hq, rfl, by decide, by decide, ?_⟩⟩) (fun h1 => ⟨by show 5 ≤ sizeLine; decide, fun q hq => ⟨q, ["add", "add", "strike", "clear", "fresh"], rfl, hq, rfl, by decide, by decide, ?_⟩⟩)
        · have h2 : sortS f.many = "one" := by
            have := of_decide_eq_true h1
            exact V.str.inj this
          have : f.many = false := by
            cases e : f.many with
            | false => rfl
            | true =>
              rw [e] at h2
              exact absurd h2 (by decide)
          rw [this]
          decide
        · have : f.many = true := by
            cases e : f.many with
            | true => rfl
            | false =>
              rw [e] at h1
              exact absurd rfl (fun h => h1 (decide_eq_true h))
          rw [this]
          decide
      rintro _ _ ⟨q, zs, rfl, hq, rfl, z0, z1, hz⟩
      have e5 : Same H4 (upd H4 q (.lst (zs.map V.str))) := same_new (Same.refl H4) hq
      have qs := (h4.ne hq).1
      -- the deed
      refine ⟨_, rfl, _, rfl, s, c, q, ns, _, rfl, h4.keep e5, hl, qs, .inl (SqL.of upd_same), by rw [List.length_map]; exact z0, by rw [List.length_map]; omega, fun j2 v H6 hj2 e6 h6 => ?_⟩
      rw [List.getElem?_map] at hj2
      obtain ⟨z, hz2, rfl⟩ := Option.map_eq_some_iff.mp hj2
      have hzm := hz z (List.mem_of_getElem? hz2)
      have e46 : SameX s H3 H6 := (e4.trans (same_sx e5)).trans e6
      have a6 := e46 _ _ ea as
      have b6 := e46 _ _ eb bs
      have hal6 : Al (DeT K (Off a (Off s H6))) dvs ds := hal.mono fun _ _ h => DeT.keep (same_off e46.off) h
      have kp : ∀ {H' : Hp}, Same H6 H' → SameX s H H' ∧ StA H' s c ns ∧ Al (DeT K (Off a (Off s H'))) dvs ds := fun e => ⟨(e3.trans e46).trans (same_sx e), h6.keep e, hal6.mono fun _ _ h => DeT.keep (same_off (same_off e)) h⟩
      have dl : dvs.length < 1000 := by rw [hal.1]; omega
      have wl : (worded ds).length < 1000 := by
        have : (worded ds).length ≤ ds.length := by unfold worded; rw [List.length_map]; exact List.length_filter_le ..
        omega
      -- the test
      refine ⟨fun t H7 => Same H6 H7 ∧ (t = true → (z = "add" ∨ z = "strike") → f.nm ∉ worded ds), ?_, ?_⟩
      · refine ⟨_, rfl, by show 2 ≤ sizeLine; decide, fun p hp => ?_⟩
        have e7 : Same H6 (upd H6 p (.tup [.str "add", .str "strike"])) := same_new (Same.refl H6) hp
        refine ⟨p, _, rfl, .inr (SqT.of upd_same), rfl, rfl, _, rfl, ?_⟩
        rw [show ([.str "add", .str "strike"] : List V) = (["add", "strike"] : List Str).map V.str from rfl, inV_strs]
        refine ite2 (fun h1 => ⟨e7, fun _ h2 => ?_⟩) (fun h1 => ?_)
        · have hm : z ∈ (["add", "strike"] : List Str) := by rcases h2 with rfl | rfl <;> decide
          rw [decide_eq_true hm] at h1
          cases h1
        · refine ⟨_, rfl, _, rfl, b, _, rfl, .inl (SqL.of (e7 _ _ b6)), rfl, flat_strs _, ?_⟩
          rw [inV_strs]
          refine ⟨_, rfl, e7, fun h2 _ hm => ?_⟩
          rw [decide_eq_true hm] at h2
          cases h2
      rintro t H7 ⟨e7, ht⟩
      refine ite2 (fun h1 => ?_) (fun h1 => ?_)
      · refine ⟨_, rfl, _, rfl, by show 1 ≤ sizeLine; decide, fun p hp => ?_⟩
        refine ⟨_, rfl, by show 2 ≤ sizeLine; decide, fun p2 hp2 => ⟨p2, _, rfl, .inr (SqT.of upd_same), rfl, rfl, .inr ⟨_, rfl, ?_⟩⟩⟩
        rw [show ([.str "add", .str "strike"] : List V) = (["add", "strike"] : List Str).map V.str from rfl, inV_strs]
        have e8 : Same H6 (upd (upd H7 p (.lst [.str f.nm])) p2 (.tup ((["add", "strike"] : List Str).map V.str))) := same_new (same_new e7 hp) hp2
        have p8 : upd (upd H7 p (.lst [.str f.nm])) p2 (.tup ((["add", "strike"] : List Str).map V.str)) p = some (.lst [.str f.nm]) := by
          rw [upd_ne (Ne.symm (upd_none hp2).1), upd_same]
        obtain ⟨m, hm, m1, hw⟩ : ∃ m : Nat, (if (if false = true then !decide (z ∈ (["add", "strike"] : List Str)) else decide (z ∈ (["add", "strike"] : List Str))) = true then (1 : Int) else 0) = (m : Int) ∧ m ≤ 1 ∧ worded (ds ++ [(z, f.nm)]) = worded ds ++ List.replicate m f.nm := by
          rw [worded_snoc]
          by_cases q : z ∈ (["add", "strike"] : List Str)
          · refine ⟨1, by rw [decide_eq_true q]; rfl, Nat.le_refl _, ?_⟩
            rw [if_pos (by simpa using q)]
            rfl
          · refine ⟨0, by rw [decide_eq_false q]; rfl, by decide, ?_⟩
            rw [if_neg (by simpa using q)]
            rfl
        refine ⟨p, m, _, rfl, congrArg V.int hm, p8, by omega, by omega, ?_, fun p3 hp3 => ?_⟩
        · rw [Int.toNat_natCast]
          show 1 * m ≤ sizeLine
          exact Nat.le_trans (by omega : 1 * m ≤ 1) (by decide)
        rw [Int.toNat_natCast, rep_flat]
        have e9 := same_new e8 hp3 (o := .lst ((List.replicate m f.nm).map V.str))
        refine ⟨b, p3, _, _, rfl, rfl, e9 _ _ b6, upd_same, ?_, fun p4 hp4 => ?_⟩
        · rw [List.length_map, List.length_map, List.length_replicate]
          exact Nat.le_trans (by omega : (worded ds).length + m ≤ 1001) (by decide)
        rw [← List.map_append, ← hw]
        have e10 := same_new e9 hp4 (o := .lst ((worded (ds ++ [(z, f.nm)])).map V.str))
        refine ⟨_, rfl, .inl ⟨rfl, _, SqL.of (e10 _ _ a6)⟩, _, rfl, _, rfl, by show 2 ≤ sizeLine; decide, fun p5 hp5 => ?_⟩
        have e11 := same_new e10 hp5 (o := .tup [.str z, .str f.nm])
        refine ⟨a, _, _, rfl, rfl, e11 _ _ a6, Nat.lt_of_lt_of_le dl (by decide), ?_⟩
        obtain ⟨k1, k2, k3⟩ := kp e11
        have n4 := (h6.keep e9).ne hp4
        have n4a : p4 ≠ a := fun e => by rw [e, e9 _ _ a6] at hp4; cases hp4
        have n5 := (h6.keep e10).ne hp5
        have n5a : p5 ≠ a := fun e => by rw [e, e10 _ _ a6] at hp5; cases hp5
        refine ⟨k1.putN ha, k2.put as ac, ds ++ [(z, f.nm)], dvs ++ [.ref p5], p4, upd_same, ?_, n4.1, n4a, ?_, ?_, ?_, ?_, _, _, _, _, _, _, rfl⟩
        · rw [upd_ne n4a, upd_ne (fun e => by rw [← e, upd_same] at hp5; cases hp5), upd_same]
        · rw [off_upd as, off_put]
          exact k3.snoc (Tu.tup (by rw [off_ne n5a, off_ne n5.1, upd_same]; rfl))
        · rw [List.length_append]
          exact Nat.succ_le_succ hln
        · intro d' hd'
          rcases List.mem_append.mp hd' with h | h
          · exact hok d' h
          · obtain rfl := List.mem_singleton.mp h
            exact ⟨f, List.mem_of_getElem? hfj, rfl, hzm⟩
        · rw [worded_snoc]
          by_cases q : z = ("add" : Str) ∨ z = ("strike" : Str)
          · rw [if_pos q]
            exact List.nodup_append.mpr ⟨hnd, by simp, fun x hx y hy e => ht h1 q (by have e2 : y = f.nm := List.mem_singleton.mp hy; rw [← e2, ← e]; exact hx)⟩
          · rw [if_neg q, List.append_nil]
            exact hnd
      · obtain ⟨k1, k2, k3⟩ := kp e7
        exact ⟨k1, k2, ds, dvs, b, e7 _ _ a6, e7 _ _ b6, bs, ba, k3, Nat.le_succ_of_le hln, hok, hnd, _, _, _, _, _, _, rfl⟩
    · rintro σ H3 ⟨e3, h3, ds, dvs, b, ea, eb, bs, ba, hal, hln, hok, hnd, x5, x6, x7, x8, x9, x10, rfl⟩
      refine ⟨_, rfl, ?_⟩
      have hd' : ds.length ≤ d := hln
      exact k a ds dvs H3 ha ((off_ne as).trans ea) (hal.mono fun _ _ h => DeT.keep off_same h) (by omega) hok hnd e3 h3
end
end MK
set_option Elab.async false
set_option linter.all false
set_option autoImplicit false
set_option maxRecDepth 100000
set_option maxHeartbeats 4000000
namespace MK
open PySem PySem.Spec PyProof.Rows L2
local macro_rules | `(tactic| walk_at "x") => `(tactic| dsimp only [tSeq, tAsg, tRet, tDrop, tLst, tTup, tCons, tOp, tUn, tIfS])
theorem sc_call : FnScope ["_law_state", "_law_name", "_law_hand", "_law_fields", "_law_far", "_law_some", "_law_k", "_law_moves", "_law_x", "_law_lists", "_law_deeds_here"] ["_law_state", "_law_name", "_law_hand", "_law_fields", "_law_far"] (defScope s_call) := ⟨rfl, rfl, rfl, by decide +kernel, rfl, by decide +kernel, by decide +kernel⟩
def spCall (K : PySem.W.Frag) : Sp := fun vs H Q _ => ∃ (s c l : Addr) (ns : List Int) (nm hd : Str) (far : Nat) (fvs : List V) (fs : List FD), vs = [.ref s, .str nm, .str hd, .ref l, .int far] ∧ StA H s c ns ∧ ns.length ≤ 63 ∧ Off s H l = some (.lst fvs) ∧ Al (FdT K (Off s H)) fvs fs ∧ 0 < fs.length ∧ fs.length < 10 ∧
  (fs.map (·.nm)).Nodup ∧ 1 ≤ far ∧ far ≤ 4 ∧ wordB nm = true ∧ (hd = "self" ∨ hd = "new" ∨ hd = "last") ∧
  ∀ (v : V) (cd : CD) H', cd.nm = nm → cd.hand = hd → CdN K H (Off s H') v cd → CdOk fs far cd → SameX s H H' → StA H' s c ns → Q v H'
section
variable {P : Program} {w : World} {K : PySem.W.Frag} {mg : Str → Option Value} {base : Heap}
theorem ok_call {f : Addr} {fd : FuncData} (F : DefX K mg "_law_call" s_call ["_law_state", "_law_name", "_law_hand", "_law_fields", "_law_far"] f fd) (T : Txt K mg) (c_take : Cal P w K mg base CX0 2 "_law_take" spTake) (c_one : Cal P w K mg base CX0 3 "_law_one" (spOne K)) (c_deeds : Cal P w K mg base CX0 4 "_law_deeds" (spDeeds K)) : Cal P w K mg base CX0 5 "_law_call" (spCall K) := by
  refine cal_mk F sc_call (fun vs H Q E h => ?_) (fun cdv A outer sh H vs Q E hr h => ?_)
  · obtain ⟨s, c, l, ns, nm, hd, far, fvs, fs, rfl, _⟩ := h
    rfl
  · obtain ⟨s, c, l, ns, nm, hd, far, fvs, fs, rfl, h0, hl, hx, hfs, f0, f1, fnd, far0, far1, hw, hh, k⟩ := h
    refine ⟨_, (pss_cut (ps_set (i := 5) sc_call.nd rfl (Or.inr rfl) (pe_op op_cat (pe_op op_rep (pe_listRg rfl (by rfl) T.list (prg_1 (by rfl) T.range (pv 4))) pe_int) (pe_op op_rep (pe_lst (pa_cons (pe_un un_neg pe_int) pa_nil)) (pe_callTy call_int1 (by rfl) T.int (by decide +kernel) (pa_cons (pe_cmpR op_gt (pv 4) pe_int (nomark _)) pa_nil)))))
(pss_cut (ps_setLc (i := 7) (own := [("_law_k", 6)]) (g := (gName 6)) (tt := tYes) rfl sc_call.nd rfl rfl (sw_true rfl rfl rfl (by decide +kernel)) (pi_range1 (by rfl) T.range (pa_cons (pv 4) pa_nil)) (blkOk_by (own := [("_law_k", 6)]) (N := ["_law_state", "_law_name", "_law_hand", "_law_fields", "_law_far", "_law_some", "_law_k", "_law_moves", "_law_x", "_law_lists", "_law_deeds_here"]) (sc := defScope s_call) (by decide +kernel)) (fun _ _ _ _ _ => (pg_name (i := 6) sc_call.nd rfl (Or.inl rfl))) (fun _ _ _ _ _ => pts_nil) (fun _ _ _ _ _ => (pe_c c_one hr (by first | decide | assumption) rfl (pa_cons (pv 0) (pa_cons (pv 5) pa_nil)))))
(pss_cut (ps_setLc (i := 9) (own := [("_law_x", 8)]) (g := (gName 8)) rfl sc_call.nd rfl rfl (sw_true rfl rfl rfl (by decide +kernel)) (pi_list (pv 3)) (blkOk_by (own := [("_law_x", 8)]) (N := ["_law_state", "_law_name", "_law_hand", "_law_fields", "_law_far", "_law_some", "_law_k", "_law_moves", "_law_x", "_law_lists", "_law_deeds_here"]) (sc := defScope s_call) (by decide +kernel)) (fun _ _ _ _ _ => (pg_name (i := 8) sc_call.nd rfl (Or.inl rfl))) (fun _ _ _ _ _ => (pts_one (pt_cut (PW.pt (pw_and (pt_cmpR op_eq (pe_ix (ix_tupK (K := K) rfl) (pv 8) pe_int (fun _ _ => rfl)) pe_str (nomark _)) (pw_and1 (pt_cmpR op_eq (pe_c c_take hr (by first | decide | assumption) rfl (pa_cons (pv 0) (pa_cons pe_int pa_nil))) pe_int (nomark _)))))))) (fun _ _ _ _ _ => (pe_ix (ix_tupK (K := K) rfl) (pv 8) pe_int (fun _ _ => rfl))))
(pss_cons (ps_set (i := 10) sc_call.nd rfl (Or.inl rfl) (pe_c c_deeds hr (by first | decide | assumption) rfl (pa_cons (pv 0) (pa_cons (pv 3) (pa_cons (pe_c c_one hr (by first | decide | assumption) rfl (pa_cons (pv 0) (pa_cons (pe_lst (pa_cons pe_int (pa_cons pe_int (pa_cons pe_int (pa_cons pe_int pa_nil))))) pa_nil))) pa_nil)))))
(pss_one (ps_ret (pe_tup (pa_cons (pv 1) (pa_cons (pv 2) (pa_cons (pv 7) (pa_cons (pv 10) (pa_cons (pe_cut (pe_ifExp (pt_cmpR op_ne (pv 2) pe_str (nomark _)) (pv 9) (pe_lst pa_nil))) pa_nil)))))))))))), ?_⟩
    have ls : l ≠ s := fun e => by rw [e, off_s] at hx; cases hx
    have fl : fvs.length < 10 := by rw [hfs.1]; exact f1
    refine ⟨fun σ H5 => ∃ q5 x6 x7 x8 x9 x10, ∃ m : Nat, m ≤ 1 ∧ Same H H5 ∧ q5 ≠ s ∧ H5 q5 = some (.lst (smV (far : Int) m)) ∧ σ = [some (.ref s), some (.str nm), some (.str hd), some (.ref l), some (.int far), some (.ref q5), x6, x7, x8, x9, x10], ?_, ?_⟩
    · refine ⟨_, rfl, (far : Int), rfl, RgOk.of_le (by omega) (by omega) (by omega) (by omega), fun q hq => ?_⟩
      have e1 := same_new (Same.refl H) hq (o := .lst (rgV 0 (far : Int)))
      have rl : (rgV 0 (far : Int)).length = far := by rw [rgV_length, Int.sub_zero, Int.toNat_natCast]
      refine ⟨q, 3, _, rfl, rfl, upd_same, by decide, by decide, ?_, fun q2 hq2 => ?_⟩
      · rw [rl]
        exact Nat.le_trans (by show far * 3 ≤ 12; omega) (by decide)
      have e2 := same_new e1 hq2 (o := .lst (List.replicate 3 (rgV 0 (far : Int))).flatten)
      refine ⟨_, rfl, by show 1 ≤ sizeLine; decide, fun q3 hq3 => ?_⟩
      have e3 := same_new e2 hq3 (o := .lst [V.int (-1)])
      refine ⟨_, rfl, _, _, rfl, rfl, .inr ⟨_, rfl, ?_⟩⟩
      obtain ⟨m, hm, m1⟩ : ∃ m : Nat, (if decide ((far : Int) > 1) = true then (1 : Int) else 0) = (m : Int) ∧ m ≤ 1 := by
        by_cases q : (far : Int) > 1
        · exact ⟨1, by rw [decide_eq_true q]; rfl, Nat.le_refl _⟩
        · exact ⟨0, by rw [decide_eq_false q]; rfl, by decide⟩
      refine ⟨q3, m, _, rfl, congrArg V.int hm, upd_same, by omega, by omega, ?_, fun q4 hq4 => ?_⟩
      · rw [Int.toNat_natCast]
        exact Nat.le_trans (by show 1 * m ≤ 1; omega) (by decide)
      rw [Int.toNat_natCast]
      have e4 := same_new e3 hq4 (o := .lst (List.replicate m [V.int (-1)]).flatten)
      have z3 : q2 ≠ q3 := fun e => by rw [← e, upd_same] at hq3; cases hq3
      have z4 : q2 ≠ q4 := fun e => by rw [← e, upd_ne z3, upd_same] at hq4; cases hq4
      have sml := smV_len (far := (far : Int)) (m := m) (by omega)
      refine ⟨q2, q4, _, _, rfl, rfl, by rw [upd_ne z4, upd_ne z3, upd_same], upd_same, ?_, fun q5 hq5 => ?_⟩
      · have : (smV (far : Int) m).length ≤ sizeLine := Nat.le_trans (by omega : _ ≤ 13) (by decide)
        unfold smV at this
        rw [List.length_append] at this
        exact this
      exact ⟨q5, _, _, _, _, _, m, m1, same_new e4 hq5, ((h0.keep e4).ne hq5).1, upd_same, rfl⟩
    rintro _ H5 ⟨q5, x6, x7, x8, x9, x10, m, m1, e5, q5s, s5, rfl⟩
    have h5 := h0.keep e5
    have sml := smV_len (far := (far : Int)) (m := m) (by omega)
    have smm : ∀ x ∈ smV (far : Int) m, ∃ z : Int, x = .int z ∧ -1 ≤ z ∧ z < far := fun x h => smV_mem (by omega) h
    -- the moves
    refine ⟨fun σ H6 => ∃ (D : Addr) (ms : List Int) (x6 x8 x9 x10 : Option V), SameX s H H6 ∧ StA H6 s c ns ∧ D ≠ s ∧ H D = none ∧ H6 D = some (.lst (ms.map V.int)) ∧ ms.length = far ∧ (∀ z ∈ ms, -1 ≤ z ∧ z < far) ∧
      σ = [some (.ref s), some (.str nm), some (.str hd), some (.ref l), some (.int far), some (.ref q5), x6, some (.ref D), x8, x9, x10], ?_, ?_⟩
    · refine ⟨_, rfl, (far : Int), rfl, by omega, by omega, fun D hD => ?_⟩
      obtain ⟨Ds, Dc⟩ := h5.ne hD
      refine lc_it walk_range (fun i H6 => SameX s H H6 ∧ StA H6 s c ns ∧ H6 q5 = some (.lst (smV (far : Int) m)) ∧ ∃ ms : List Int, H6 D = some (.lst (ms.map V.int)) ∧ ms.length = i ∧ ∀ z ∈ ms, -1 ≤ z ∧ z < far)
        ⟨same_sx (same_new e5 hD), h5.put Ds Dc, same_new (Same.refl H5) hD _ _ s5, [], upd_same, rfl, nofun⟩ (fun _ _ _ _ => trivial) ?_ ?_
      · rintro i x H6' H6 hi ⟨e6, h6, s6, ms, hms, hlen, hz⟩ ⟨rfl, rfl⟩
        have hi4 : i < far := by
          have : i < (far : Int).toNat := hi
          omega
        refine ⟨rfl, ?_⟩
        refine ⟨_, rfl, _, rfl, s, c, q5, ns, _, rfl, h6, hl, q5s, .inl (SqL.of s6), by rw [sml]; omega, by rw [sml]; omega, fun d v H7 hd7 e7 h7 => ?_⟩
        obtain ⟨z, rfl, z0, z1⟩ := smm v (List.mem_of_getElem? hd7)
        refine ⟨_, e7 _ _ hms Ds, by rw [List.length_map]; exact Nat.lt_of_lt_of_le (by omega : ms.length < 4) (by decide), ?_⟩
        have q5D : q5 ≠ D := fun e => by rw [e, hD] at s5; cases s5
        refine ⟨(e6.trans e7).putN (none_of e5 hD), h7.put Ds Dc, (upd_ne q5D).trans (e7 _ _ s6 q5s), ms ++ [z], ?_, by rw [List.length_append, hlen]; rfl, ?_⟩
        · rw [upd_same, List.map_append]
          rfl
        · intro y hy
          rcases List.mem_append.mp hy with hy | hy
          · exact hz y hy
          · rw [List.mem_singleton.mp hy]
            exact ⟨z0, z1⟩
      · rintro H6 ⟨e6, h6, _, ms, hms, hlen, hz⟩
        exact ⟨D, ms, _, _, _, _, e6, h6, Ds, none_of e5 hD, hms, by rw [hlen]; exact Int.toNat_natCast far, hz, rfl⟩
    rintro _ H6 ⟨D, ms, x6, x8, x9, x10, e6, h6, Ds, Dn, hms, hml, hmz, rfl⟩
    -- the lists in common
    refine ⟨fun σ H7 => ∃ (D2 : Addr) (zs : List Str) (x6 x8 x10 : Option V), SameX s H H7 ∧ StA H7 s c ns ∧ D2 ≠ s ∧ H D2 = none ∧ H7 D = some (.lst (ms.map V.int)) ∧ H7 D2 = some (.lst (zs.map V.str)) ∧ zs.Nodup ∧ (∀ z ∈ zs, ∃ f ∈ fs, f.nm = z ∧ f.many = true) ∧
      σ = [some (.ref s), some (.str nm), some (.str hd), some (.ref l), some (.int far), some (.ref q5), x6, some (.ref D), x8, some (.ref D2), x10], ?_, ?_⟩
    · refine ⟨_, rfl, l, rfl, ⟨_, SqL.of (e6 _ _ (off_get hx) ls)⟩, fun D2 hD2 => ?_⟩
      obtain ⟨D2s, D2c⟩ := h6.ne hD2
      have D2D : D ≠ D2 := fun e => by rw [← e, hms] at hD2; cases hD2
      refine lc_list (K := K) (a := l) (xs := fvs) (fun i H7 => SameX s H6 H7 ∧ StA H7 s c ns ∧ ∃ zs : List Str, H7 D2 = some (.lst (zs.map V.str)) ∧ zs.length ≤ i ∧ zs.Sublist ((fs.take i).map (·.nm)) ∧ ∀ z ∈ zs, ∃ f ∈ fs, f.nm = z ∧ f.many = true)
        ⟨same_sx (same_new (Same.refl H6) hD2), h6.put D2s D2c, [], upd_same, Nat.le_refl _, List.nil_sublist _, nofun⟩ (fun i H7 _ h => SqL.of (h.1 _ _ (e6 _ _ (off_get hx) ls) ls)) ?_ ?_
      · rintro i v H7 hv7 ⟨e7, h7, zs, hzs, hzl, hsub, hzm⟩
        obtain ⟨f, hfi, hft⟩ := hfs.get hv7
        have il : i < fvs.length := (List.getElem?_eq_some_iff.mp hv7).1
        obtain ⟨u, rfl, hu0⟩ := FdT.keep (e6.trans e7).off hft
        have hu : SqT K H7 u (FdV f) := same_t off_same hu0
        refine ⟨rfl, ?_⟩
        refine ⟨fun t H8 => SameX s H7 H8 ∧ StA H8 s c ns ∧ (t = true → f.many = true), ?_, ?_⟩
        · refine ⟨_, rfl, u, _, 1, .str (sortS f.many), rfl, rfl, hu, rfl, rfl, _, rfl, ite2 (fun h1 => ?_) (fun h1 => ⟨SameX.refl s H7, h7, nofun⟩)⟩
          refine ⟨_, rfl, s, c, ns, 2, rfl, h7, hl, by decide, by decide, fun d H8 hd e8 h8 => ⟨rfl, _, rfl, e8, h8, fun _ => ?_⟩⟩
          cases e : f.many with
          | true => rfl
          | false =>
            rw [e] at h1
            exact absurd (V.str.inj (of_decide_eq_true h1)) (by decide)
        rintro t H8 ⟨e8, h8, ht⟩
        have fi : (fs.take (i + 1)).map (·.nm) = (fs.take i).map (·.nm) ++ [f.nm] := by
          rw [List.take_succ, hfi]
          simp
        refine ite2 (fun h1 => ?_) (fun h1 => ?_)
        · refine ⟨_, rfl, u, _, 0, .str f.nm, rfl, rfl, same_t off_same (same_t e8.off hu0), rfl, ?_⟩
          refine ⟨_, e8 _ _ hzs D2s, by rw [List.length_map]; exact Nat.lt_of_lt_of_le (by omega : zs.length < 10) (by decide), ?_⟩
          refine ⟨(e7.trans e8).putN hD2, h8.put D2s D2c, zs ++ [f.nm], ?_, by rw [List.length_append]; exact Nat.succ_le_succ hzl, ?_, ?_⟩
          · rw [upd_same, List.map_append]
            rfl
          · rw [fi]
            exact hsub.append (List.Sublist.refl _)
          · intro y hy
            rcases List.mem_append.mp hy with hy | hy
            · exact hzm y hy
            · rw [List.mem_singleton.mp hy]
              exact ⟨f, List.mem_of_getElem? hfi, rfl, ht h1⟩
        · refine ⟨e7.trans e8, h8, zs, e8 _ _ hzs D2s, Nat.le_succ_of_le hzl, ?_, hzm⟩
          rw [fi]
          exact hsub.trans (List.sublist_append_left _ _)
      · rintro H7 ⟨e7, h7, zs, hzs, hzl, hsub, hzm⟩
        refine ⟨D2, zs, _, _, _, e6.trans e7, h7, D2s, noneX e6 D2s hD2, e7 _ _ hms Ds, hzs, ?_, hzm, rfl⟩
        refine hsub.nodup (List.Nodup.sublist ?_ fnd)
        exact (List.take_sublist _ _).map _
    rintro _ H7 ⟨D2, zs, x6, x8, x10, e7, h7, D2s, D2n, hms7, hzs, hznd, hzm, rfl⟩
    -- the deeds
    refine ⟨_, rfl, _, rfl, _, rfl, by show 4 ≤ sizeLine; decide, fun b hb => ?_⟩
    have e8 := same_new (Same.refl H7) hb (o := .lst [.int 1, .int 2, .int 2, .int 4])
    refine ⟨s, c, b, ns, _, rfl, h7.keep e8, hl, (h7.ne hb).1, .inl (SqL.of upd_same), by decide, by decide, fun d v H8 hd8 e9 h8 => ?_⟩
    obtain ⟨n, rfl, n0, n1⟩ : ∃ n : Int, v = .int n ∧ 0 ≤ n ∧ n ≤ 4 := by
      have m := List.mem_of_getElem? hd8
      simp only [List.mem_cons, List.not_mem_nil, or_false] at m
      rcases m with rfl | rfl | rfl | rfl <;> exact ⟨_, rfl, by decide, by decide⟩
    have e78 := (same_sx (s := s) e8).trans e9
    have e08 := e7.trans e78
    refine ⟨s, c, l, ns, n, fvs, fs, rfl, h8, hl, ?_, hfs.mono fun _ _ h => FdT.keep e08.off h, f0, f1, n0, by omega, fun a ds dvs H9 ha hda hal hdl hdok hdnd e10 h9 => ?_⟩
    · rw [off_ne ls]
      exact e08 _ _ (off_get hx) ls
    have e79 := e78.trans e10
    -- what is handed
    refine ⟨_, rfl, _, rfl, _, rfl, _, rfl, ?_⟩
    refine ⟨fun v H10 => Same H9 H10 ∧ ∃ ys : List Str, LsN H (Off s H10) v (ys.map V.str) ∧ ys.Nodup ∧ (∀ z ∈ ys, ∃ f ∈ fs, f.nm = z ∧ f.many = true) ∧ (hd = "self" → ys = []), ?_, ?_⟩
    · refine ⟨_, rfl, rfl, _, rfl, ite2 (fun h1 => ?_) (fun h1 => ?_)⟩
      · refine ⟨_, rfl, Same.refl H9, zs, ⟨D2, rfl, D2n, ?_⟩, hznd, hzm, fun e => ?_⟩
        · rw [off_ne D2s]
          exact e79 _ _ hzs D2s
        · subst e
          exact absurd h1 (by decide)
      · refine ⟨by show 0 ≤ sizeLine; decide, fun p hp => ⟨same_new (Same.refl H9) hp, [], ⟨p, rfl, noneX (e08.trans e10) (h9.ne hp).1 hp, ?_⟩, List.nodup_nil, nofun, fun _ => rfl⟩⟩
        rw [off_ne (h9.ne hp).1, upd_same]
        rfl
    rintro v H10 ⟨e11, ys, hys, ynd, hym, hself⟩
    refine ⟨by show 5 ≤ sizeLine; decide, fun p hp => ?_⟩
    have e12 := same_new e11 hp (o := .tup [.str nm, .str hd, .ref D, .ref a, v])
    have ps := ((h9.keep e11).ne hp).1
    have e13 : Same (Off s H10) (Off s (upd H10 p (.tup [.str nm, .str hd, .ref D, .ref a, v]))) := same_off (same_new (Same.refl H10) hp)
    refine k (.ref p) ⟨nm, hd, ms, ds, ys⟩ _ rfl rfl ⟨.ref D, .ref a, v, dvs, Tu.tup ?_, ⟨D, rfl, Dn, ?_⟩, ⟨a, rfl, noneX e08 (h8.ne ha).1 ha, same_off e12 _ _ hda⟩, hal.mono fun _ _ h => DeT.keep (same_off e12) h, hys.keep e13⟩ ?_ (((e08.trans e10).trans (same_sx e12))) (h9.keep e12)
    · rw [off_ne ps, upd_same]
    · rw [off_ne Ds]
      exact e12 _ _ (e79 _ _ hms7 Ds)
    · exact ⟨hw, hh, hml, hmz, (by have : (ds.length : Int) ≤ 4 := Int.le_trans hdl n1; exact Int.ofNat_le.mp this), hdok, hdnd, hym, hself, ynd⟩
end
end MK
set_option Elab.async false
set_option linter.all false
set_option autoImplicit false
set_option maxRecDepth 100000
set_option maxHeartbeats 4000000
namespace MK
open PySem PySem.Spec PyProof.Rows L2
local macro_rules | `(tactic| walk_at "x") => `(tactic| dsimp only [tSeq, tAsg, tRet, tDrop, tLst, tTup, tCons, tOp, tUn, tIfS])
theorem sc_plan : FnScope ["_law_fields", "_law_calls", "_law_far"] ["_law_fields", "_law_calls", "_law_far"] (defScope s_plan) := ⟨rfl, rfl, rfl, by decide +kernel, rfl, by decide +kernel, by decide +kernel⟩
structure KMk (P : Program) (w : World) (K : PySem.W.Frag) (mg : Str → Option Value) (base : Heap) (KC : Addr) : Prop where
  ex : ∃ (f : Addr) (fd : FuncData), Mk K KC f ∧ FnOk P w K mg base CX0 6 f fd ["self", "fields", "calls", "modes"] (spKInit K KC) ∧ KBn K fd ["self", "fields", "calls", "modes"] 3 ["modes"] (fun us ws => us ++ ws) (fun vs zs => vs ++ zs)
  g : mg "Kind" = some (.ref KC)
theorem pe_kind {X : Cx} {KC : Addr} {j : Nat} {p pos : Pos} {e : Expr} {es : List Expr} {kws : List Keyword} {t tk : TA} (c : KMk X.prog X.w X.K X.mg X.base KC) (hr : Room j X.A) (hk : 7 ≤ j) (hg : Gl X "Kind") (ha : PA X (e :: es) t) (hkw : PK X kws tk)
    (hall : (backToKw pos (keywordEach kws X.env)).all (·.1.isSome) = true := by rfl) (hks : (backToKw pos (keywordEach kws X.env)).filterMap (·.1) = (["modes"] : List Str) := by rfl)
    (he : starEach (e :: es) X.env = (false, eval e X.env) :: starEach es X.env := by rfl) (hpl : ((backTo pos (starEach (e :: es) X.env)).any (·.1) || (backToKw pos (keywordEach kws X.env)).any (·.1.isNone)) = false := by rfl) :
    PE X (.Call (.Name "Kind" p) (e :: es) kws pos) (tCutE (tMakeK KC 2 1 (spKInit X.K KC) (fun vs zs => vs ++ zs) E0 t tk)) := by
  obtain ⟨f, fd, M, F, hb⟩ := c.ex
  exact pe_cut <| pe_makeK (n := 2) M F (hr.mono hk) hg c.g hb pass0 ha hkw hall hks (by decide) he hpl
theorem rd_kind {K : PySem.W.Frag} {KC s : Addr} {H : Hp} {fv cv : V} {n : Nat} {fvs cvs : List V} {fs : List FD} {cs : List CD} {Q : VK} {E : XK} (hs : H s ≠ none) (hf : Sq K (Off s H) fv fvs) (hfs : Al (FdA K (Off s H)) fvs fs) (hc : Sq K (Off s H) cv cvs) (hcs : Al (CdA K (Off s H)) cvs cs) (ok : KdOk fs n cs)
    (q : ∀ v H', Same H H' → KdA K KC (Off s H') v fs n cs → Q v H') : ∀ x dx, H x = none → H dx = none → dx ≠ x → spKInit K KC (.ref x :: ([fv, cv] ++ [.int n])) (upd (upd H dx (.own x)) x (.ins KC dx [])) (fun v H3 => v = .non ∧ Q (.ref x) H3) E := by
  intro x dx hx hd ne
  have xs : x ≠ s := fun e => hs (e ▸ hx)
  have ds : dx ≠ s := fun e => hs (e ▸ hd)
  have b : Same (Off s H) (Off x (Off s (upd (upd H dx (.own x)) x (.ins KC dx [])))) := by
    rw [off_upd xs, off_put]
    exact same_offN (same_off (same_new (Same.refl H) hd)) (off_none hx)
  refine ⟨s, x, dx, fv, cv, n, fvs, cvs, fs, cs, rfl, xs, ?_, upd_same, hf.keep b, hfs.mono fun _ _ h => FdA.keep b h, hc.keep b, hcs.mono fun _ _ h => CdA.keep b h, ok, fun H' e kd => ⟨rfl, q _ _ (fun a o ha => ?_) kd⟩⟩
  · rw [upd_ne (Ne.symm xs), upd_ne (Ne.symm ds)]
    exact hs
  · refine e a o ?_ (fun z => by rw [z, hx] at ha; cases ha)
    rw [upd_ne (fun z => by rw [z, hx] at ha; cases ha), upd_ne (fun z => by rw [z, hd] at ha; cases ha)]
    exact ha
theorem rd_kindM {K : PySem.W.Frag} {KC s : Addr} {H : Hp} {fv cv : V} {n : Nat} {fvs cvs : List V} {fs : List FD} {cs : List CD} {E : XK} (hs : H s ≠ none) (hf : Sq K (Off s H) fv fvs) (hfs : Al (FdA K (Off s H)) fvs fs) (hc : Sq K (Off s H) cv cvs) (hcs : Al (CdA K (Off s H)) cvs cs) (ok : KdOk fs n cs) :
    ∀ x dx, H x = none → H dx = none → dx ≠ x → spKInit K KC (.ref x :: ([fv, cv] ++ [.int n])) (upd (upd H dx (.own x)) x (.ins KC dx [])) (fun v H3 => v = .non ∧ Same H H3 ∧ KdA K KC (Off s H3) (.ref x) fs n cs) E :=
  rd_kind (Q := fun v H' => Same H H' ∧ KdA K KC (Off s H') v fs n cs) hs hf hfs hc hcs ok fun _ _ e k => ⟨e, k⟩
theorem KdA.off {K : PySem.W.Frag} {KC p : Addr} {H : Hp} {v : V} {fs : List FD} {n : Nat} {cs : List CD} (h : KdA K KC H v fs n cs) (hp : H p = some (.dK [])) (f0 : 0 < fs.length) (c0 : 0 < cs.length) : KdA K KC (Off p H) v fs n cs := by
  obtain ⟨x, dx, so, sp, tb, t, st, tv, sv, h0, h1, h2, h3, h4, h5, h6, h7, h8⟩ := h
  have full : ∀ {a : Addr} {kvs : List (Key × V)}, H a = some (.dK kvs) → 0 < kvs.length → Off p H a = some (.dK kvs) := fun {a kvs} ha hl => by
    rw [off_ne (fun e => by
      rw [e, hp] at ha
      have := HO.dK.inj (Option.some.inj ha)
      rw [← this] at hl
      cases hl)]
    exact ha
  refine ⟨x, dx, so, sp, tb, t, st, tv, sv, h0, ?_, h2.off hp no_dK, h3.mono fun _ _ h => Tu.off h hp no_dK, full h4 (by rw [sorts_len]; exact f0), full h5 (by rw [spots_len]; exact f0), h6.off hp no_dK, h7.mono fun _ _ h => CdT.off h hp no_dK, full h8 (by rw [table_len h7.1]; exact c0)⟩
  rw [off_ne (fun e => by rw [e, hp] at h1; cases h1)]
  exact h1
/-- what the law holds of a kind -/
def planV (l1 l2 : Addr) (n : Nat) (kv : V) : List (Key × V) := [(.inr "fields", .ref l1), (.inr "calls", .ref l2), (.inr "modes", .int n), (.inr "known", kv)]
def PlanA (K : PySem.W.Frag) (KC : Addr) (H : Hp) (v : V) (fs : List FD) (n : Nat) (cs : List CD) : Prop := ∃ (p l1 l2 : Addr) (kv : V) (fvs cvs : List V), v = .ref p ∧ H p = some (.dK (planV l1 l2 n kv)) ∧ H l1 = some (.lst fvs) ∧ Al (FdT K H) fvs fs ∧ H l2 = some (.lst cvs) ∧ Al (CdL K H) cvs cs ∧
  KdA K KC H kv fs n cs
theorem PlanA.keep {K : PySem.W.Frag} {KC : Addr} {H H' : Hp} {v : V} {fs : List FD} {n : Nat} {cs : List CD} (e : Same H H') (h : PlanA K KC H v fs n cs) : PlanA K KC H' v fs n cs := by
  obtain ⟨p, l1, l2, kv, fvs, cvs, h0, h1, h2, h3, h4, h5, h6⟩ := h
  exact ⟨p, l1, l2, kv, fvs, cvs, h0, e _ _ h1, e _ _ h2, h3.mono fun _ _ h => FdT.keep e h, e _ _ h4, h5.mono fun _ _ h => CdL.keep e h, h6.keep e⟩
def spPlan (K : PySem.W.Frag) (KC : Addr) : Sp := fun vs H Q _ => ∃ (s l1 l2 : Addr) (n : Nat) (fvs cvs : List V) (fs : List FD) (cs : List CD), vs = [.ref l1, .ref l2, .int n] ∧ H s ≠ none ∧ Off s H l1 = some (.lst fvs) ∧ Al (FdT K (Off s H)) fvs fs ∧ Off s H l2 = some (.lst cvs) ∧ Al (CdL K (Off s H)) cvs cs ∧ KdOk fs n cs ∧
  ∀ v H', Same H H' → PlanA K KC (Off s H') v fs n cs → Q v H'
section
variable {P : Program} {w : World} {K : PySem.W.Frag} {mg : Str → Option Value} {base : Heap} {C : Cst} {KC : Addr}
theorem ok_plan {f : Addr} {fd : FuncData} (F : DefX K mg "_law_plan" s_plan ["_law_fields", "_law_calls", "_law_far"] f fd) (T : Txt K mg) (c_Kind : KMk P w K mg base KC) : Cal P w K mg base CX0 8 "_law_plan" (spPlan K KC) := by
  refine cal_mk F sc_plan (fun vs H Q E h => ?_) (fun cdv A outer sh H vs Q E hr h => ?_)
  · obtain ⟨s, l1, l2, n, fvs, cvs, fs, cs, rfl, _⟩ := h
    rfl
  · obtain ⟨s, l1, l2, n, fvs, cvs, fs, cs, rfl, hs, h1, hfs, h2, hcs, ok, k⟩ := h
    refine ⟨_, (pss_one (ps_ret (pe_disp (pps_cons pe_str (pv 0) (pps_cons pe_str (pv 1) (pps_cons pe_str (pv 2) (pps_cons pe_str (pe_kind c_Kind hr (by first | decide | assumption) rfl (pa_cons (pv 0) (pa_cons (pv 1) pa_nil)) (pk_cons (pv 2) pk_nil)) pps_nil)))) (by rfl) (by rfl) (fun z => by cases z) (by decide)))), ?_⟩
    intro p hp
    have e1 : Same H (upd H p (.dK [])) := same_new (Same.refl H) hp
    have ps : p ≠ s := ne_s hs (Same.refl H) hp
    have b1 := same_off (s := s) e1
    refine ⟨_, rfl, _, rfl, _, rfl, fun v H3 => Same (upd H p (.dK [])) H3 ∧ KdA K KC (Off s H3) v fs n cs, ⟨_, rfl, _, rfl, _, rfl, rfl, rfl, rd_kindM (s := s) (kept_s hs e1) (Ls.sq ⟨l1, rfl, b1 _ _ h1⟩) (hfs.mono fun _ _ h => FdT.a (FdT.keep b1 h)) (Ls.sq ⟨l2, rfl, b1 _ _ h2⟩) (hcs.mono fun _ _ h => CdL.a (CdL.keep b1 h)) ok⟩, ?_⟩
    rintro v H3 ⟨e3, kd⟩
    refine ⟨e3 _ _ upd_same, planV l1 l2 n v, rfl, by show 4 ≤ 15; decide, ?_⟩
    rw [show mergeK [] (planV l1 l2 n v) = planV l1 l2 n v from rfl]
    have pv := off_ne (s := s) (H := H3) ps
    have kd2 : KdA K KC (Off p (Off s H3)) v fs n cs := kd.off (pv.trans (e3 _ _ upd_same)) ok.fields.pos ok.cpos
    have b2 : Same (Off p (Off s H3)) (Off s (upd H3 p (.dK (planV l1 l2 n v)))) := by
      refine Same.trans (H1 := Off p (Off s (upd H3 p (.dK (planV l1 l2 n v))))) ?_ off_same
      rw [off_upd ps, off_put]
      exact fun _ _ h => h
    have b3 : Same (Off s H) (Off s (upd H3 p (.dK (planV l1 l2 n v)))) := by
      refine Same.trans (H1 := Off p (Off s H3)) (same_offN (same_off (e1.trans e3)) (off_none hp)) b2
    refine k _ _ (fun a o ha => ?_) ⟨p, l1, l2, v, fvs, cvs, rfl, ?_, b3 _ _ h1, hfs.mono fun _ _ h => FdT.keep b3 h, b3 _ _ h2, hcs.mono fun _ _ h => CdL.keep b3 h, kd2.keep b2⟩
    · rw [upd_ne (ne_of_none ha hp)]
      exact e3 _ _ (e1 _ _ ha)
    · rw [off_ne ps, upd_same]
end
end MK
set_option Elab.async false
set_option linter.all false
set_option autoImplicit false
set_option maxRecDepth 100000
set_option maxHeartbeats 4000000
namespace MK
open PySem PySem.Spec PyProof.Rows L2
local macro_rules | `(tactic| walk_at "x") => `(tactic| dsimp only [tSeq, tAsg, tRet, tDrop, tLst, tTup, tCons, tOp, tUn, tIfS])
theorem sc_kind : FnScope ["_law_state", "_law_wide", "_law_many", "_law_far", "_law_fields", "_law_names", "_law_k", "_law_top", "_law_calls", "_law_name"] ["_law_state", "_law_wide", "_law_many", "_law_far"] (defScope s_kind) := ⟨rfl, rfl, rfl, by decide +kernel, rfl, by decide +kernel, by decide +kernel⟩
def fieldNames : List Str := ["a", "need", "many", "do", "quantity"]
def callNames : List Str := ["add", "put", "cut", "make", "jqzxvkgw"]
def spLawKind (K : PySem.W.Frag) (KC : Addr) : Sp := fun vs H Q _ => ∃ (s c : Addr) (ns : List Int) (wide many far : Nat), vs = [.ref s, .int wide, .int many, .int far] ∧ StA H s c ns ∧ ns.length ≤ 63 ∧ 1 ≤ wide ∧ wide ≤ 3 ∧ 2 ≤ many ∧ many ≤ 6 ∧ 1 ≤ far ∧ far ≤ 3 ∧
  ∀ v H' fs n cs, SameX s H H' → StA H' s c ns → KdOk fs n cs → fs.length ≤ wide → (∀ f ∈ fs, f.nm ∈ fieldNames) → n ≤ far → (∃ j, j < many ∧ cs.map (·.nm) = callNames.take j ++ (["build"] : List Str)) → (∃ cs' b, cs = cs' ++ [b] ∧ b.hand = ("last" : Str)) → PlanA K KC (Off s H') v fs n cs → Q v H'
section
variable {P : Program} {w : World} {K : PySem.W.Frag} {mg : Str → Option Value} {base : Heap} {C : Cst} {KC : Addr}
theorem ok_kind {f : Addr} {fd : FuncData} (F : DefX K mg "_law_kind" s_kind ["_law_state", "_law_wide", "_law_many", "_law_far"] f fd) (T : Txt K mg) (c_take : Cal P w K mg base CX0 2 "_law_take" spTake) (c_one : Cal P w K mg base CX0 3 "_law_one" (spOne K)) (c_mix : Cal P w K mg base CX0 3 "_law_mix" (spMix K))
    (c_call : Cal P w K mg base CX0 5 "_law_call" (spCall K)) (c_plan : Cal P w K mg base CX0 8 "_law_plan" (spPlan K KC)) : Cal P w K mg base CX0 9 "_law_kind" (spLawKind K KC) := by
  refine cal_mk F sc_kind (fun vs H Q E h => ?_) (fun cdv A outer sh H vs Q E hr h => ?_)
  · obtain ⟨s, c, ns, wide, many, far, rfl, _⟩ := h
    rfl
  · obtain ⟨s, c, ns, wide, many, far, rfl, h0, hl, w1, w3, m2, m6, f1, f3, k⟩ := h
    refine ⟨_, (pss_cons (ps_par (i := 4) (j := 5) (by rfl) sc_kind.nd rfl rfl (by decide) rfl rfl (pa_cons (pe_lst pa_nil) (pa_cons (pe_c c_mix hr (by first | decide | assumption) rfl (pa_cons (pv 0) (pa_cons (pe_lst (pa_cons pe_str (pa_cons pe_str (pa_cons pe_str (pa_cons pe_str (pa_cons pe_str pa_nil)))))) pa_nil))) pa_nil)) (by rfl))
(pss_cons (ps_for PassesOwn.never rfl (pi_range1 (by rfl) T.range (pa_cons (pe_op op_add pe_int (pe_c c_take hr (by first | decide | assumption) rfl (pa_cons (pv 0) (pa_cons (pv 1) pa_nil)))) pa_nil)) (pg_name (i := 6) sc_kind.nd rfl (Or.inl rfl))
(pss_one (ps_expr (pe_bm PySem.F.plainAttrs_list PySem.F.slot_list_append PySem.F.type_list_append mt_append (pv 4) (pa_cons (pe_tup (pa_cons (pe_ix ix_list (pv 5) (pv 6) (fun _ _ => rfl)) (pa_cons (pe_c c_one hr (by first | decide | assumption) rfl (pa_cons (pv 0) (pa_cons (pe_lst (pa_cons pe_str (pa_cons pe_str (pa_cons pe_str pa_nil)))) pa_nil))) (pa_cons (pe_cmpR op_eq (pe_c c_take hr (by first | decide | assumption) rfl (pa_cons (pv 0) (pa_cons pe_int pa_nil))) pe_int (nomark _)) pa_nil)))) pa_nil)))))
(pss_cons (ps_par (i := 7) (j := 8) (by rfl) sc_kind.nd rfl rfl (by decide) rfl rfl (pa_cons (pe_op op_add pe_int (pe_c c_take hr (by first | decide | assumption) rfl (pa_cons (pv 0) (pa_cons (pv 3) pa_nil)))) (pa_cons (pe_lst pa_nil) pa_nil)) (by rfl))
(pss_cons (ps_for PassesOwn.never rfl (pi_list (pe_slice sl_list (pe_lst (pa_cons pe_str (pa_cons pe_str (pa_cons pe_str (pa_cons pe_str (pa_cons pe_str pa_nil)))))) po_none (po_some (pe_op op_add pe_int (pe_c c_take hr (by first | decide | assumption) rfl (pa_cons (pv 0) (pa_cons (pe_op op_sub (pv 2) pe_int) pa_nil))))))) (pg_name (i := 9) sc_kind.nd rfl (Or.inl rfl))
(pss_one (ps_expr (pe_bm PySem.F.plainAttrs_list PySem.F.slot_list_append PySem.F.type_list_append mt_append (pv 8) (pa_cons (pe_c c_call hr (by first | decide | assumption) rfl (pa_cons (pv 0) (pa_cons (pv 9) (pa_cons (pe_c c_one hr (by first | decide | assumption) rfl (pa_cons (pv 0) (pa_cons (pe_lst (pa_cons pe_str (pa_cons pe_str (pa_cons pe_str (pa_cons pe_str (pa_cons pe_str pa_nil)))))) pa_nil))) (pa_cons (pv 4) (pa_cons (pv 7) pa_nil)))))) pa_nil)))))
(pss_cons (ps_expr (pe_bm PySem.F.plainAttrs_list PySem.F.slot_list_append PySem.F.type_list_append mt_append (pv 8) (pa_cons (pe_c c_call hr (by first | decide | assumption) rfl (pa_cons (pv 0) (pa_cons pe_str (pa_cons pe_str (pa_cons (pv 4) (pa_cons (pv 7) pa_nil)))))) pa_nil)))
(pss_one (ps_ret (pe_c c_plan hr (by first | decide | assumption) rfl (pa_cons (pv 4) (pa_cons (pv 8) (pa_cons (pv 7) pa_nil))))))))))), ?_⟩
    refine ⟨by show 0 ≤ sizeLine; decide, fun fa hfa => ?_⟩
    have e1 := same_new (Same.refl H) hfa (o := .lst [])
    have h1 := h0.keep e1
    obtain ⟨fas, fac⟩ := h0.ne hfa
    refine ⟨_, rfl, by show 5 ≤ sizeLine; decide, fun q hq => ?_⟩
    have e2 := same_new e1 hq (o := .lst (fieldNames.map V.str))
    have h2 := h0.keep e2
    refine ⟨s, c, q, ns, fieldNames, rfl, h2, hl, SqL.of upd_same, by decide, by decide +kernel, fun an ys H3 hp han hys e3 h3 => ⟨_, _, rfl, ?_⟩⟩
    have e03 : SameX s H H3 := (same_sx e2).trans e3
    have fq : fa ≠ q := fun e => by rw [← e, upd_same] at hq; cases hq
    have fan : fa ≠ an := fun e => by rw [← e, upd_ne fq, upd_same] at han; cases han
    have ans : an ≠ s := (h2.ne han).1
    have fa3 : H3 fa = some (.lst []) := e3 _ _ ((upd_ne fq).trans upd_same) fas
    -- the fields
    refine ⟨_, rfl, _, rfl, s, c, ns, wide, rfl, h3, hl, by omega, by omega, fun d H4 hd e4 h4 => ?_⟩
    refine ⟨_, _, rfl, rfl, _, rfl, by omega, by omega, ?_⟩
    refine for_it walk_range (fun i σ H2 => SameX s H H2 ∧ StA H2 s c ns ∧ H2 an = some (.lst (ys.map V.str)) ∧ ∃ (fs : List FD) (fvs : List V), H2 fa = some (.lst fvs) ∧ Al (FdT K (Off fa (Off s H2))) fvs fs ∧ fs.map (·.nm) = ys.take i ∧
      ∃ x6 x7 x8 x9, σ = [some (.ref s), some (.int wide), some (.int many), some (.int far), some (.ref fa), some (.ref an), x6, x7, x8, x9])
      ⟨e03.trans e4, h4, e4 _ _ hys ans, [], [], e4 _ _ fa3 fas, Al.nil, rfl, none, none, none, none, rfl⟩ (fun _ _ _ _ _ => trivial) ?_ ?_
    · rintro i x σ H5' H5 hi ⟨e5, h5, an5, fs, fvs, fa5, al, hnm, x6, x7, x8, x9, rfl⟩ ⟨rfl, rfl⟩
      have yl : ys.length = 5 := hp.length_eq
      have hi5 : i < 5 := by
        have : i < (1 + (d : Int)).toNat := hi
        omega
      have hiy : i < ys.length := by omega
      have fl : fs.length ≤ 5 := by
        have := congrArg List.length hnm
        rw [List.length_map, List.length_take] at this
        omega
      refine ⟨_, rfl, .inl ⟨rfl, _, SqL.of fa5⟩, _, rfl, _, rfl, an, _, _, .str ys[i], rfl, rfl, SqL.of an5, ?_, ?_⟩
      · rw [Int.zero_add]
        exact atI_nat (by rw [List.getElem?_map, List.getElem?_eq_getElem hiy]; rfl)
      refine ⟨_, rfl, by show 3 ≤ sizeLine; decide, fun q2 hq2 => ?_⟩
      have e6 := same_new (Same.refl H5) hq2 (o := .lst [.str "many", .str "many", .str "one"])
      refine ⟨s, c, q2, ns, _, rfl, h5.keep e6, hl, (h5.ne hq2).1, .inl (SqL.of upd_same), by decide, by decide, fun d2 v H7 hd7 e7 h7 => ?_⟩
      obtain ⟨b, rfl⟩ : ∃ b : Bool, v = .str (sortS b) := by
        have m := List.mem_of_getElem? hd7
        simp only [List.mem_cons, List.not_mem_nil, or_false] at m
        rcases m with rfl | rfl | rfl
        · exact ⟨true, rfl⟩
        · exact ⟨true, rfl⟩
        · exact ⟨false, rfl⟩
      refine ⟨_, rfl, s, c, ns, 2, rfl, h7, hl, by decide, by decide, fun d3 H8 _ e8 h8 => ⟨rfl, ?_⟩⟩
      refine ⟨by show 3 ≤ sizeLine; decide, fun p hp8 => ?_⟩
      have e58 : SameX s H5 H8 := ((same_sx e6).trans e7).trans e8
      have fa8 := e58 _ _ fa5 fas
      have ps := (h8.ne hp8).1
      have pfa : p ≠ fa := fun e => by rw [e, fa8] at hp8; cases hp8
      have pan : p ≠ an := fun e => by rw [e, e58 _ _ an5 ans] at hp8; cases hp8
      refine ⟨fa, _, _, rfl, rfl, (upd_ne (Ne.symm pfa)).trans fa8, by rw [al.1]; exact Nat.lt_of_le_of_lt fl (by decide), ?_⟩
      refine ⟨((e5.trans e58).trans (same_sx (same_new (Same.refl H8) hp8))).putN hfa, (h8.keep (same_new (Same.refl H8) hp8)).put fas fac, ?_, fs ++ [⟨ys[i], b, decide (V.int d3 = V.int 0)⟩], _, upd_same, ?_, ?_, _, _, _, _, rfl⟩
      · rw [upd_ne (Ne.symm fan), upd_ne (Ne.symm pan)]
        exact e58 _ _ an5 ans
      · rw [off_upd fas, off_put]
        have e9 : Same (Off fa (Off s H5)) (Off fa (Off s (upd H8 p (.tup [.str ys[i], .str (sortS b), .bl (decide (V.int d3 = V.int 0))])))) := same_off ((e58.trans (same_sx (same_new (Same.refl H8) hp8))).off)
        exact (al.mono fun _ _ h => FdT.keep e9 h).snoc (Tu.tup (by rw [off_ne pfa, off_ne ps, upd_same]; rfl))
      · rw [List.map_append, hnm, List.take_succ, List.getElem?_eq_getElem hiy]
        rfl
    rintro σ H5 ⟨e5, h5, _, fs, fvs, fa5, al, hnm, x6, x7, x8, x9, rfl⟩
    have yl : ys.length = 5 := hp.length_eq
    have dl : d < 3 := by omega
    have fsl : fs.length = d + 1 := by
      have := congrArg List.length hnm
      rw [List.length_map, List.length_take] at this
      omega
    have ynd : ys.Nodup := hp.nodup_iff.mpr (by decide +kernel)
    have hfn : ∀ f ∈ fs, f.nm ∈ fieldNames := fun f hf => by
      have m : f.nm ∈ fs.map (·.nm) := List.mem_map_of_mem hf
      rw [hnm] at m
      exact hp.mem_iff.mp (List.mem_of_mem_take m)
    have fok : FsOk fs := ⟨by omega, by omega, fun f hf => (by decide +kernel : ∀ z ∈ fieldNames, wordB z = true) _ (hfn f hf), by rw [hnm]; exact ynd.sublist (List.take_sublist _ _)⟩
    have al5 : Al (FdT K (Off s H5)) fvs fs := al.mono fun _ _ h => FdT.keep off_same h
    refine ⟨_, rfl, _, rfl, s, c, ns, far, rfl, h5, hl, by omega, by omega, fun d2 H6 hd2 e6 h6 => ⟨_, _, rfl, rfl, by show 0 ≤ sizeLine; decide, fun ca hca => ⟨_, _, rfl, ?_⟩⟩⟩
    obtain ⟨cas, cac⟩ := h6.ne hca
    have e7 := same_new (Same.refl H6) hca (o := .lst [])
    -- the calls
    refine ⟨by show 5 ≤ sizeLine; decide, fun q3 hq3 => ?_⟩
    have e8 := same_new e7 hq3 (o := .lst (callNames.map V.str))
    refine ⟨_, rfl, _, rfl, _, _, rfl, rfl, s, c, ns, (many : Int) - 1, rfl, h6.keep e8, hl, by omega, by omega, fun d4 H9 hd4 e9 h9 => ?_⟩
    have e79 : SameX s H6 H9 := (same_sx e8).trans e9
    have caq : ca ≠ q3 := fun e => by rw [← e, upd_same] at hq3; cases hq3
    have ca9 : H9 ca = some (.lst []) := e9 _ _ ((upd_ne caq).trans upd_same) cas
    have qs : q3 ≠ s := ((h6.keep e7).ne hq3).1
    refine ⟨_, _, rfl, rfl, _, rfl, q3, _, rfl, SqL.of (e9 _ _ upd_same qs), fun q4 hq4 => ?_⟩
    obtain ⟨q4s, q4c⟩ := h9.ne hq4
    have ca4 : ca ≠ q4 := fun e => by rw [← e, ca9] at hq4; cases hq4
    have cut : cutV (callNames.map V.str) none (some (1 + (d4 : Int))) = (callNames.take (d4 + 1)).map V.str := by
      have e : HT.sIx (callNames.map V.str).length (callNames.map V.str).length (some (1 + (d4 : Int))) = min (1 + d4) (callNames.map V.str).length := by
        rw [show (1 + (d4 : Int)) = ((1 + d4 : Nat) : Int) by omega]
        exact HT.sIx_nat _ _ _
      unfold cutV
      rw [HT.sIx_none, e, List.drop_zero, Nat.sub_zero, show min (1 + d4) (callNames.map V.str).length = d4 + 1 from (by show min (1 + d4) 5 = d4 + 1; omega), List.map_take]
    have e10 : Same H9 (upd H9 q4 (.lst (cutV (callNames.map V.str) none (some (1 + (d4 : Int)))))) := same_new (Same.refl H9) hq4
    have e610 := e79.trans (same_sx e10)
    have e510 := e6.trans e610
    refine ⟨q4, rfl, ⟨_, SqL.of upd_same⟩, ?_⟩
    refine for_list (K := K) (a := q4) (xs := (callNames.take (d4 + 1)).map V.str) (fun i σ H2 => SameX s H5 H2 ∧ StA H2 s c ns ∧ H2 q4 = some (.lst ((callNames.take (d4 + 1)).map V.str)) ∧ ∃ (cs : List CD) (cvs : List V), H2 ca = some (.lst cvs) ∧
      Al (CdL K (Off ca (Off s H2))) cvs cs ∧ (∀ c ∈ cs, CdOk fs (d2 + 1) c) ∧ cs.map (·.nm) = (callNames.take (d4 + 1)).take i ∧ ∃ x6 x9, σ = [some (.ref s), some (.int wide), some (.int many), some (.int far), some (.ref fa), some (.ref an), x6, some (.int ((d2 + 1 : Nat) : Int)), some (.ref ca), x9])
      ⟨e510, h9.keep e10, (by rw [upd_same]; exact congrArg (fun l => some (HO.lst l)) cut), [], [], (upd_ne ca4).trans ca9, Al.nil, nofun, rfl, _, _, (by rw [show ((d2 + 1 : Nat) : Int) = 1 + (d2 : Int) by omega]; rfl)⟩ (fun i σ H2 _ h => SqL.of h.2.2.1) ?_ ?_
    · rintro i x σ H2 hx' ⟨e2, h2, q42, cs, cvs, ca2, al, cok, hnm, x6, x9, rfl⟩
      rw [List.getElem?_map] at hx'
      obtain ⟨z, hz, rfl⟩ := Option.map_eq_some_iff.mp hx'
      have zm : z ∈ callNames := List.mem_of_mem_take (List.mem_of_getElem? hz)
      have cl : cs.length ≤ 5 := by
        have := congrArg List.length hnm
        rw [List.length_map, List.length_take, List.length_take] at this
        have : callNames.length = 5 := rfl
        omega
      refine ⟨_, rfl, .inl ⟨rfl, _, SqL.of ca2⟩, _, rfl, _, rfl, _, rfl, by show 5 ≤ sizeLine; decide, fun q5 hq5 => ?_⟩
      have e3 := same_new (Same.refl H2) hq5 (o := .lst [.str "self", .str "new", .str "self", .str "new", .str "last"])
      refine ⟨s, c, q5, ns, _, rfl, h2.keep e3, hl, (h2.ne hq5).1, .inl (SqL.of upd_same), by decide, by decide, fun d5 v Ha hda ea ha => ?_⟩
      obtain ⟨hd, rfl, hhd⟩ : ∃ hd : Str, v = .str hd ∧ (hd = "self" ∨ hd = "new" ∨ hd = "last") := by
        have m := List.mem_of_getElem? hda
        simp only [List.mem_cons, List.not_mem_nil, or_false] at m
        rcases m with rfl | rfl | rfl | rfl | rfl
        · exact ⟨_, rfl, .inl rfl⟩
        · exact ⟨_, rfl, .inr (.inl rfl)⟩
        · exact ⟨_, rfl, .inl rfl⟩
        · exact ⟨_, rfl, .inr (.inl rfl)⟩
        · exact ⟨_, rfl, .inr (.inr rfl)⟩
      have e2a : SameX s H2 Ha := (same_sx e3).trans ea
      have e5a := e2.trans e2a
      have caa := e2a _ _ ca2 cas
      refine ⟨_, rfl, _, rfl, s, c, fa, ns, z, hd, d2 + 1, fvs, fs, rfl, ha, hl, ?_, al5.mono fun _ _ h => FdT.keep e5a.off h, by omega, by omega, fok.nd, by omega, by omega, (by decide +kernel : ∀ z ∈ callNames, wordB z = true) z zm, hhd, fun v cd Hb cn ch cdn cdok eb hb => ?_⟩
      · rw [off_ne fas]
        exact e5a _ _ fa5 fas
      have cab := eb _ _ caa cas
      have e2b := e2a.trans eb
      refine ⟨ca, cvs, v, rfl, rfl, cab, by rw [al.1]; exact Nat.lt_of_le_of_lt cl (by decide), ?_⟩
      have q4ca : q4 ≠ ca := Ne.symm ca4
      refine ⟨(e2.trans e2b).putN (noneX e6 cas hca), hb.put cas cac, (upd_ne q4ca).trans (e2b _ _ q42 q4s), cs ++ [cd], cvs ++ [v], upd_same, ?_, ?_, ?_, _, _, rfl⟩
      · rw [off_upd cas, off_put]
        exact (al.mono fun _ _ h => CdL.keep (same_off e2b.off) h).snoc (cdn.off (caa) ((off_ne cas).trans cab)).l
      · intro c' hc'
        rcases List.mem_append.mp hc' with h | h
        · exact cok c' h
        · rw [List.mem_singleton.mp h]
          exact cdok
      · rw [List.map_append, hnm, List.take_succ (i := i), hz, ← cn]
        rfl
    · rintro σ H2 ⟨e2, h2, q42, cs, cvs, ca2, al, cok, hnm, x6, x9, rfl⟩
      rw [List.length_map, List.take_length] at hnm
      have jl : (callNames.take (d4 + 1)).length = d4 + 1 := by
        rw [List.length_take]
        show min (d4 + 1) 5 = d4 + 1
        omega
      have cl : cs.length = d4 + 1 := by
        have := congrArg List.length hnm
        rw [List.length_map, jl] at this
        exact this
      refine ⟨_, rfl, .inl ⟨rfl, _, SqL.of ca2⟩, _, rfl, _, rfl, _, rfl, s, c, fa, ns, "build", "last", d2 + 1, fvs, fs, rfl, h2, hl, ?_, al5.mono fun _ _ h => FdT.keep e2.off h, by omega, by omega, fok.nd, by omega, by omega, by decide +kernel, .inr (.inr rfl), fun v cd Hb cn ch cdn cdok eb hb => ?_⟩
      · rw [off_ne fas]
        exact e2 _ _ fa5 fas
      have cab := eb _ _ ca2 cas
      refine ⟨ca, cvs, v, rfl, rfl, cab, by rw [al.1, cl]; exact Nat.lt_of_le_of_lt (by omega : _ ≤ 6) (by decide), ?_⟩
      have faca : fa ≠ ca := fun e => by
        have := noneX e6 cas hca
        rw [← e, fa5] at this
        cases this
      have e5b := e2.trans eb
      have e5c : SameX s H5 (upd Hb ca (.lst (cvs ++ [v]))) := e5b.putN (noneX e6 cas hca)
      have hc := hb.put (o := .lst (cvs ++ [v])) cas cac
      have hsc : upd Hb ca (.lst (cvs ++ [v])) s ≠ none := by
        obtain ⟨_, _, _, _, _, e⟩ := hc
        rw [e]
        exact nofun
      have alc : Al (CdL K (Off s (upd Hb ca (.lst (cvs ++ [v]))))) (cvs ++ [v]) (cs ++ [cd]) := by
        have : Al (CdL K (Off ca (Off s (upd Hb ca (.lst (cvs ++ [v])))))) (cvs ++ [v]) (cs ++ [cd]) := by
          rw [off_upd cas, off_put]
          exact (al.mono fun _ _ h => CdL.keep (same_off eb.off) h).snoc (cdn.off ca2 ((off_ne cas).trans cab)).l
        exact this.mono fun _ _ h => CdL.keep off_same h
      have nms : (cs ++ [cd]).map (·.nm) = callNames.take (d4 + 1) ++ (["build"] : List Str) := by
        rw [List.map_append, hnm, ← cn]
        rfl
      have kok : KdOk fs (d2 + 1) (cs ++ [cd]) := by
        refine ⟨fok, by omega, by omega, by rw [List.length_append]; exact Nat.le_add_left .., by rw [List.length_append, cl]; show d4 + 1 + 1 ≤ 6; omega, fun c' hc' => ?_, ?_⟩
        · rcases List.mem_append.mp hc' with h | h
          · exact cok c' h
          · rw [List.mem_singleton.mp h]
            exact cdok
        · rw [nms]
          exact ((by decide +kernel : (callNames ++ (["build"] : List Str)).Nodup)).sublist ((List.take_sublist _ _).append (List.Sublist.refl _))
      refine ⟨_, rfl, _, rfl, _, rfl, s, fa, ca, d2 + 1, fvs, cvs ++ [v], fs, cs ++ [cd], rfl, hsc, ?_, al5.mono fun _ _ h => FdT.keep e5c.off h, ?_, alc, kok, fun v' H' e' pa => ?_⟩
      · rw [off_ne fas]
        exact e5c _ _ fa5 fas
      · rw [off_ne cas, upd_same]
      · exact k v' H' fs (d2 + 1) (cs ++ [cd]) ((e5.trans e5c).trans (same_sx e')) (hc.keep e') kok (by omega) hfn (by omega) ⟨d4 + 1, by omega, nms⟩ ⟨cs, cd, rfl, ch⟩ pa
end
end MK
set_option Elab.async false
set_option linter.all false
set_option autoImplicit false
set_option maxRecDepth 100000
set_option maxHeartbeats 4000000
namespace MK
open PySem PySem.Spec PyProof.Rows L2
local macro_rules | `(tactic| walk_at "x") => `(tactic| dsimp only [tSeq, tAsg, tRet, tDrop, tLst, tTup, tCons, tOp, tUn, tIfS])
theorem sc_same : FnScope ["_law_found", "_law_due", "_law_a", "_law_b"] ["_law_found", "_law_due"] (defScope s_same) := ⟨rfl, rfl, rfl, by decide +kernel, rfl, by decide +kernel, by decide +kernel⟩
def spSame (K : PySem.W.Frag) (n : Nat) : Sp := fun vs H Q _ => ∃ x y, vs = [x, y] ∧ Sm K H n x y ∧ ∀ H', Same H H' → Q (.bl true) H'
section
variable {P : Program} {w : World} {K : PySem.W.Frag} {mg : Str → Option Value} {base : Heap}
theorem ty2 {P1 P2 : Prop} (a : P1) (b : P2) : P1 ∧ P2 := ⟨a, b⟩
theorem any2 {t a b : String} {r1 r2 : Bool} (h1 : kitB t a = some r1) (h2 : kitB t b = some r2) : PySem.W.kitAny K (.type t) [.type a, .type b] = some (r1 || r2) := by
  refine kitAny_cons (kit_ty h1) (fun e => ?_) (fun e => by rw [e]; rfl)
  refine kitAny_cons (kit_ty h2) (fun e2 => ?_) (fun e2 => by rw [e2, Bool.or_true])
  rw [e, e2]
  rfl
theorem any4 {t a b c d : String} (h1 : kitB t a = some false) (h2 : kitB t b = some false) (h3 : kitB t c = some false) (h4 : kitB t d = some false) : PySem.W.kitAny K (.type t) [.type a, .type b, .type c, .type d] = some false :=
  kitAny_cons (kit_ty h1) (fun _ => kitAny_cons (kit_ty h2) (fun _ => kitAny_cons (kit_ty h3) (fun _ => kitAny_cons (kit_ty h4) (fun _ => rfl) nofun) nofun) nofun) nofun
/-- what the last rows of it see of flat things -/
structure FlatT (K : PySem.W.Frag) (H : Hp) (x y : V) (t : String) : Prop where
  tx : TyX K H x (.type t)
  ty : TyX K H y (.type t)
  l : kitB t "list" = some false
  u : kitB t "tuple" = some false
  i : (kitB t "int" = some false ∧ kitB t "bool" = some false) ∨ (kitB t "int" = some true ∧ ∃ b, kitB t "bool" = some b)
  eq : ∀ H', Same H H' → ∀ Q : VK, Q (.bl true) H' → (rEq x y H' Q ∨ ∃ a b kvs, x = .ref a ∧ y = .ref b ∧ H' a = some (.dK kvs) ∧ H' b = some (.dK kvs) ∧ (kvs.map (·.1)).Nodup ∧ (∀ p ∈ kvs, flatB p.2 = true) ∧ Q (.bl true) H')
theorem eq_refl {x : V} {H : Hp} {Q : VK} (h : scal x x = true) (q : Q (.bl true) H) : rEq x x H Q := ⟨h, by rw [decide_eq_true rfl]; exact q⟩
theorem flat_t {H : Hp} {x y : V} (h : Flat H x y) : ∃ t, FlatT K H x y t := by
  rcases h with ⟨rfl, h⟩ | ⟨a, b, kvs, rfl, rfl, ha, hb, hd, hv⟩
  · rcases h with rfl | ⟨b, rfl⟩ | ⟨i, rfl⟩ | ⟨z, rfl⟩
    · exact ⟨"NoneType", .base .non, .base .non, by decide +kernel, by decide +kernel, .inl ⟨by decide +kernel, by decide +kernel⟩, fun H' _ Q q => .inl (eq_refl rfl q)⟩
    · exact ⟨"bool", .base (.bl b), .base (.bl b), by decide +kernel, by decide +kernel, .inr ⟨by decide +kernel, true, by decide +kernel⟩, fun H' _ Q q => .inl (eq_refl rfl q)⟩
    · exact ⟨"int", .base (.int i), .base (.int i), by decide +kernel, by decide +kernel, .inr ⟨by decide +kernel, false, by decide +kernel⟩, fun H' _ Q q => .inl (eq_refl rfl q)⟩
    · exact ⟨"str", .base (.str z), .base (.str z), by decide +kernel, by decide +kernel, .inl ⟨by decide +kernel, by decide +kernel⟩, fun H' _ Q q => .inl (eq_refl rfl q)⟩
  · exact ⟨"dict", .base (.dK ha), .base (.dK hb), by decide +kernel, by decide +kernel, .inl ⟨by decide +kernel, by decide +kernel⟩, fun H' e Q q => .inr ⟨a, b, kvs, rfl, rfl, e _ _ ha, e _ _ hb, hd, hv, q⟩⟩
theorem ok_same0 {f : Addr} {fd : FuncData} (F : DefX K mg "_law_same" s_same ["_law_found", "_law_due"] f fd) (T : Txt K mg) (n k : Nat) (sp' : Sp) (c_same : Cal P w K mg base CX0 k "_law_same" sp') (hk : k ≤ n) (hsp : ∀ m, n = m + 1 → sp' = spSame K m) :
    Cal P w K mg base CX0 (n + 1) "_law_same" (spSame K n) := by
  refine cal_mk F sc_same (fun vs H Q E h => ?_) (fun cdv A outer s H vs Q E hr h => ?_)
  · obtain ⟨x, y, rfl, _⟩ := h
    rfl
  · obtain ⟨x, y, rfl, h, q⟩ := h
    refine ⟨_, (pss_cons (ps_if (pt_val (pe_callB call_isiT (by rfl) T.isinstance (by decide +kernel) (pa_cons (pv 1) (pa_cons (pe_tup (pa_cons (pe_tyv (n := "list") (by rfl) T.list (by decide +kernel)) (pa_cons (pe_tyv (n := "tuple") (by rfl) T.tuple (by decide +kernel)) pa_nil))) pa_nil))))
(pss_cons (ps_if (pt_cut (PW.pt (pw_or (pt_cmpR op_ne (pe_callB call_isi (by rfl) T.isinstance (by decide +kernel) (pa_cons (pv 0) (pa_cons (pe_tyv (n := "list") (by rfl) T.list (by decide +kernel)) pa_nil))) (pe_callB call_isi (by rfl) T.isinstance (by decide +kernel) (pa_cons (pv 1) (pa_cons (pe_tyv (n := "list") (by rfl) T.list (by decide +kernel)) pa_nil))) (nomark _)) (pw_or1 (pt_cmpR op_ne (pe_callB call_isi (by rfl) T.isinstance (by decide +kernel) (pa_cons (pv 0) (pa_cons (pe_tyv (n := "tuple") (by rfl) T.tuple (by decide +kernel)) pa_nil))) (pe_callB call_isi (by rfl) T.isinstance (by decide +kernel) (pa_cons (pv 1) (pa_cons (pe_tyv (n := "tuple") (by rfl) T.tuple (by decide +kernel)) pa_nil))) (nomark _))))))
(pss_one (ps_ret pe_bl))
pss_nil)
(pss_one (ps_ret (pe_cut (pe_and (pe_cmpR op_eq (pe_callB call_len_seq (by rfl) T.len (by decide +kernel) (pa_cons (pv 0) pa_nil)) (pe_callB call_len_seq (by rfl) T.len (by decide +kernel) (pa_cons (pv 1) pa_nil)) (nomark _)) (pe_one (pe_callB (cr_all rfl) (by rfl) T.all (by decide +kernel) (pa_cons (pe_lc (own := [("_law_a", 2), ("_law_b", 3)]) (g := (gTup K 2 (gCons (gName 2) (gCons (gName 3) gNil)))) (tt := tYes) rfl sc_same.nd (RZ.pi_zipA (by rfl) T.zip (pa_cons (pv 0) (pa_cons (pv 1) pa_nil))) (blkOk_by (own := [("_law_a", 2), ("_law_b", 3)]) (N := ["_law_found", "_law_due", "_law_a", "_law_b"]) (sc := defScope s_same) (by decide +kernel)) (fun _ _ _ _ _ => (pg_tup (by rfl) (pgs_cons (pg_name (i := 2) sc_same.nd rfl (Or.inl rfl)) (pgs_cons (pg_name (i := 3) sc_same.nd rfl (Or.inl rfl)) pgs_nil)))) (fun _ _ _ _ _ => pts_nil) (fun _ _ _ _ _ => (pe_c c_same hr (by first | decide | assumption) rfl (pa_cons (pv 2) (pa_cons (pv 3) pa_nil))))) pa_nil))))))))
pss_nil)
(pss_cons (ps_if (pt_val (pe_callB call_isi (by rfl) T.isinstance (by decide +kernel) (pa_cons (pv 1) (pa_cons (pe_tyv (n := "int") (by rfl) T.int (by decide +kernel)) pa_nil))))
(pss_one (ps_ret (pe_cut (pe_and (pe_callB call_isi (by rfl) T.isinstance (by decide +kernel) (pa_cons (pv 0) (pa_cons (pe_tyv (n := "int") (by rfl) T.int (by decide +kernel)) pa_nil))) (pe_and (pe_cmpR op_eq (pe_callB call_isi (by rfl) T.isinstance (by decide +kernel) (pa_cons (pv 0) (pa_cons (pe_tyv (n := "bool") (by rfl) T.bool (by decide +kernel)) pa_nil))) (pe_callB call_isi (by rfl) T.isinstance (by decide +kernel) (pa_cons (pv 1) (pa_cons (pe_tyv (n := "bool") (by rfl) T.bool (by decide +kernel)) pa_nil))) (nomark _)) (pe_one (pe_cmpR (OpR.or op_eq (op_eq_dict hr.units0)) (pv 0) (pv 1) (nomark _))))))))
pss_nil)
(pss_one (ps_ret (pe_cut (pe_and (pe_cmpR op_is_bl (pe_callB call_isiT (by rfl) T.isinstance (by decide +kernel) (pa_cons (pv 0) (pa_cons (pe_tup (pa_cons (pe_tyv (n := "bool") (by rfl) T.bool (by decide +kernel)) (pa_cons (pe_tyv (n := "int") (by rfl) T.int (by decide +kernel)) (pa_cons (pe_tyv (n := "list") (by rfl) T.list (by decide +kernel)) (pa_cons (pe_tyv (n := "tuple") (by rfl) T.tuple (by decide +kernel)) pa_nil))))) pa_nil))) pe_bl (nomark _)) (pe_one (pe_cmpR (OpR.or op_eq (op_eq_dict hr.units0)) (pv 0) (pv 1) (nomark _))))))))), ?_⟩
    have spl : Flat H x y ∨ ∃ m, n = m + 1 ∧ ∃ a b xs ys, x = V.ref a ∧ y = V.ref b ∧ ((SqL K H a xs ∧ SqL K H b ys) ∨ (SqT K H a xs ∧ SqT K H b ys)) ∧ xs.length = ys.length ∧ xs.length < 100000 ∧ ∀ (i : Nat) x y, xs[i]? = some x → ys[i]? = some y → Sm K H m x y := by
      cases n with
      | zero => exact .inl h
      | succ m =>
        rcases h with h | h
        · exact .inl h
        · exact .inr ⟨m, rfl, h⟩
    refine ⟨_, rfl, by show 2 ≤ sizeLine; decide, fun p hp => ?_⟩
    have e1 : Same H (upd H p (.tup [.ty "list", .ty "tuple"])) := same_new (Same.refl H) hp
    rcases spl with hf | ⟨m, hn, a, b, xs, ys, rfl, rfl, hs, hl, hz, hi⟩
    · obtain ⟨t, ft⟩ := flat_t (K := K) hf
      refine ⟨_, p, _, _, _, false, rfl, upd_same, .cons (.ty _) (.cons (.ty _) .nil), tyx_keep e1 ft.ty, any2 ft.l ft.u, false, rfl, iteF ?_⟩
      rcases ft.i with ⟨hi, hb⟩ | ⟨hi, bb, hb⟩
      · refine ⟨_, rfl, _, _, _, _, false, rfl, .ty _, tyx_keep e1 ft.ty, kit_ty hi, false, rfl, iteF ?_⟩
        refine ⟨fun v H2 => v = .bl true ∧ Same H H2, ?_, fun v H2 e => by rw [e.1]; exact q _ e.2⟩
        refine ⟨_, rfl, by show 4 ≤ sizeLine; decide, fun p2 hp2 => ?_⟩
        have e2 := same_new e1 hp2 (o := .tup [.ty "bool", .ty "int", .ty "list", .ty "tuple"])
        refine ⟨_, p2, _, _, _, false, rfl, upd_same, .cons (.ty _) (.cons (.ty _) (.cons (.ty _) (.cons (.ty _) .nil))), tyx_keep e2 ft.tx, any4 hb hi ft.l ft.u, _, _, rfl, rfl, _, rfl, iteT ?_⟩
        exact ⟨_, rfl, _, rfl, ft.eq _ e2 _ ⟨rfl, e2⟩⟩
      · refine ⟨_, rfl, _, _, _, _, true, rfl, .ty _, tyx_keep e1 ft.ty, kit_ty hi, true, rfl, iteT ?_⟩
        refine ⟨fun v H2 => v = .bl true ∧ Same H H2, ?_, fun v H2 e => by rw [e.1]; exact q _ e.2⟩
        refine ⟨_, rfl, _, _, _, _, true, rfl, .ty _, tyx_keep e1 ft.tx, kit_ty hi, true, rfl, iteT ?_⟩
        refine ⟨_, rfl, _, _, _, _, bb, rfl, .ty _, tyx_keep e1 ft.tx, kit_ty hb, _, rfl, _, _, _, _, bb, rfl, .ty _, tyx_keep e1 ft.ty, kit_ty hb, rfl, _, rfl, ?_⟩
        rw [decide_eq_true rfl]
        exact iteT ⟨_, rfl, _, rfl, ft.eq _ e1 _ ⟨rfl, e1⟩⟩
    · have hsp := hsp m hn
      subst hsp
      obtain ⟨t, tx, ty, h1, bl, bu⟩ : ∃ t, TyX K H (.ref a) (.type t) ∧ TyX K H (.ref b) (.type t) ∧ (∀ r1 r2, kitB t "list" = some r1 → kitB t "tuple" = some r2 → (r1 || r2) = true) ∧ (∃ r1, kitB t "list" = some r1) ∧ ∃ r2, kitB t "tuple" = some r2 := by
        rcases hs with ⟨h1, h2⟩ | ⟨h1, h2⟩
        · refine ⟨"list", tyx_l h1, tyx_l h2, fun r1 r2 q1 q2 => ?_, ⟨true, by decide +kernel⟩, ⟨false, by decide +kernel⟩⟩
          have z : kitB "list" "list" = some true := by decide +kernel
          rw [z] at q1
          cases q1
          rfl
        · refine ⟨"tuple", tyx_t h1, tyx_t h2, fun r1 r2 q1 q2 => ?_, ⟨false, by decide +kernel⟩, ⟨true, by decide +kernel⟩⟩
          have z : kitB "tuple" "tuple" = some true := by decide +kernel
          rw [z] at q2
          cases q2
          rw [Bool.or_true]
      obtain ⟨r1, b1⟩ := bl
      obtain ⟨r2, b2⟩ := bu
      refine ⟨_, p, _, _, _, true, rfl, upd_same, .cons (.ty _) (.cons (.ty _) .nil), tyx_keep e1 ty, by rw [← h1 r1 r2 b1 b2]; exact any2 b1 b2, true, rfl, iteT ?_⟩
      -- of the same kinds
      refine ⟨fun t H2 => t = false ∧ H2 = upd H p (.tup [.ty "list", .ty "tuple"]), ?_, ?_⟩
      · refine ⟨_, rfl, _, _, _, _, r1, rfl, .ty _, tyx_keep e1 tx, kit_ty b1, _, rfl, _, _, _, _, r1, rfl, .ty _, tyx_keep e1 ty, kit_ty b1, rfl, _, rfl, ?_⟩
        rw [decide_eq_true rfl]
        refine iteF ?_
        refine ⟨_, rfl, _, _, _, _, r2, rfl, .ty _, tyx_keep e1 tx, kit_ty b2, _, rfl, _, _, _, _, r2, rfl, .ty _, tyx_keep e1 ty, kit_ty b2, rfl, _, rfl, ?_⟩
        rw [decide_eq_true rfl]
        exact ⟨rfl, rfl⟩
      rintro _ _ ⟨rfl, rfl⟩
      refine iteF ?_
      have hs1 : (SqL K (upd H p (.tup [.ty "list", .ty "tuple"])) a xs ∧ SqL K (upd H p (.tup [.ty "list", .ty "tuple"])) b ys) ∨ (SqT K (upd H p (.tup [.ty "list", .ty "tuple"])) a xs ∧ SqT K (upd H p (.tup [.ty "list", .ty "tuple"])) b ys) := by
        rcases hs with ⟨q1, q2⟩ | ⟨q1, q2⟩
        · exact .inl ⟨e1.seq q1, e1.seq q2⟩
        · exact .inr ⟨same_t e1 q1, same_t e1 q2⟩
      refine ⟨fun v H2 => v = .bl true ∧ Same H H2, ?_, fun v H2 e => by rw [e.1]; exact q _ e.2⟩
      refine ⟨_, rfl, a, xs, rfl, hs1.imp (·.1) (·.1), _, rfl, b, ys, rfl, hs1.imp (·.2) (·.2), rfl, _, rfl, ?_⟩
      rw [hl, decide_eq_true rfl]
      refine iteT ?_
      have kp : ∀ H2 : Hp, Same H H2 → (SqL K H2 a xs ∧ SqL K H2 b ys) ∨ (SqT K H2 a xs ∧ SqT K H2 b ys) := fun H2 e => by
        rcases hs with ⟨q1, q2⟩ | ⟨q1, q2⟩
        · exact .inl ⟨e.seq q1, e.seq q2⟩
        · exact .inr ⟨same_t e q1, same_t e q2⟩
      rcases hs with ⟨q1, q2⟩ | ⟨q1, q2⟩
      all_goals
        refine ⟨_, rfl, _, rfl, a, b, xs, ys, rfl, ?_⟩
        first
          | refine .inl ⟨e1.seq q1, e1.seq q2, fun D hD => lc_it (walk_zip (n := xs.length) (by omega)) (fun i H2 => Same H H2 ∧ H D = none ∧ H2 D = some (.lst (List.replicate i (.bl true)))) ⟨same_new e1 hD, (upd_none hD).2, upd_same⟩ (fun i H2 _ e => ⟨e.1.seq q1, e.1.seq q2⟩) ?_ ?_⟩
          | refine .inr ⟨same_t e1 q1, same_t e1 q2, fun D hD => lc_it (walk_zipT (n := xs.length) (by omega)) (fun i H2 => Same H H2 ∧ H D = none ∧ H2 D = some (.lst (List.replicate i (.bl true)))) ⟨same_new e1 hD, (upd_none hD).2, upd_same⟩ (fun i H2 _ e => ⟨same_t e.1 q1, same_t e.1 q2⟩) ?_ ?_⟩
        · rintro i v H2 H3 hlt ⟨e2, d0, d2⟩ ⟨U, x', y', rfl, hU, rfl, hx, hy⟩
          refine ⟨U, _, rfl, SqT.of upd_same, rfl, _, _, rfl, _, _, rfl, rfl, rfl, ?_⟩
          have e3 := same_new e2 hU (o := .tup [x', y'])
          have ud : U ≠ D := fun z => by rw [z, d2] at hU; cases hU
          refine ⟨_, rfl, _, rfl, x', y', rfl, (hi i x' y' hx hy).keep e3, fun H4 e4 => ⟨List.replicate i (.bl true), e4 _ _ ((upd_ne ud.symm).trans d2), by rw [List.length_replicate, sizeLine_eq]; omega, fun c o hc => ?_, d0, ?_⟩⟩
          · have dc : c ≠ D := fun z => by rw [z, d0] at hc; cases hc
            rw [upd_ne dc]
            exact e4 _ _ (e3 _ _ hc)
          · rw [upd_same, List.replicate_succ']
        · rintro H2 ⟨e2, d0, d2⟩
          refine ⟨D, List.replicate xs.length true, rfl, ?_, ?_, e2⟩
          · rw [List.map_replicate]
            exact SqL.of d2
          · simp
theorem ok_same {f : Addr} {fd : FuncData} (F : DefX K mg "_law_same" s_same ["_law_found", "_law_due"] f fd) (T : Txt K mg) : ∀ n : Nat, Cal P w K mg base CX0 (n + 1) "_law_same" (spSame K n)
  | 0 => ok_same0 F T 0 0 _ (cal_bot F) (Nat.le_refl _) (fun _ h => nomatch h)
  | n + 1 => ok_same0 F T (n + 1) (n + 1) _ (ok_same F T n) (Nat.le_refl _) (fun m h => by cases h; rfl)
end
end MK
set_option Elab.async false
set_option linter.all false
set_option autoImplicit false
set_option maxRecDepth 100000
set_option maxHeartbeats 4000000
namespace MK
open PySem PySem.Spec PyProof.Rows L2
local macro_rules | `(tactic| walk_at "x") => `(tactic| dsimp only [tSeq, tAsg, tRet, tDrop, tLst, tTup, tCons, tOp, tUn, tIfS])
def spListX (K : PySem.W.Frag) : Sp := fun vs H Q _ => ∃ v d, vs = [v] ∧ Sh K H v d ∧ ∀ H', Same H H' → Q (.bl (isSq d)) H'
theorem len3 {α : Type} {vs : List α} (h : vs.length = 3) : ∃ a b c, vs = [a, b, c] := by
  match vs, h with
  | [a, b, c], _ => exact ⟨a, b, c, rfl⟩
theorem len2 {α : Type} {vs : List α} (h : vs.length = 2) : ∃ a b, vs = [a, b] := by
  match vs, h with
  | [a, b], _ => exact ⟨a, b, rfl⟩
section
variable {P : Program} {w : World} {K : PySem.W.Frag} {mg : Str → Option Value} {base : Heap} {C : Cst}
theorem ok_listX {f : Addr} {fd : FuncData} (F : DefX K mg "is_list" s_is_list ["thing"] f fd) (T : Txt K mg) : Cal P w K mg base CX0 1 "is_list" (spListX K) := by
  refine cal_mk F sc_is_list (fun vs H Q E h => ?_) (fun cdv A outer sh H vs Q E hr h => ?_)
  · obtain ⟨v, d, rfl, _⟩ := h
    rfl
  · obtain ⟨v, d, rfl, s, q⟩ := h
    refine ⟨_, (pss_one (ps_ret (pe_callB call_isiT (by rfl) T.isinstance (by decide +kernel) (pa_cons (pv 0) (pa_cons (pe_tup (pa_cons (pe_tyv (n := "list") (by rfl) T.list (by decide +kernel)) (pa_cons (pe_tyv (n := "tuple") (by rfl) T.tuple (by decide +kernel)) pa_nil))) pa_nil))))), ?_⟩
    obtain ⟨t, ty, _, _, _, kl, kt⟩ := s.ty
    refine ⟨_, rfl, by show 2 ≤ sizeLine; decide, fun p hp => ?_⟩
    have e1 : Same H (upd H p (.tup [.ty "list", .ty "tuple"])) := same_new (Same.refl H) hp
    exact ⟨_, p, _, _, _, isSq d, rfl, upd_same, .cons (.ty _) (.cons (.ty _) .nil), tyx_keep e1 ty, any2 kl kt, q _ e1⟩
end
end MK
set_option Elab.async false
set_option linter.all false
set_option autoImplicit false
set_option maxRecDepth 100000
set_option maxHeartbeats 4000000
namespace MK
open PySem PySem.Spec PyProof.Rows L2
open C8 (Met pe_mt pe_mt0 Mak pe_mk)
local macro_rules | `(tactic| walk_at "x") => `(tactic| dsimp only [tSeq, tAsg, tRet, tDrop, tLst, tTup, tCons, tOp, tUn, tIfS])
theorem sc_mark_of : FnScope ["deed", "word"] ["deed", "word"] (defScope s_mark_of) := ⟨rfl, rfl, rfl, by decide +kernel, rfl, by decide +kernel, by decide +kernel⟩
theorem sc_marks_of : FnScope ["deeds", "field", "word", "very", "held", "is_very", "deed", "name", "mark"] ["deeds", "field", "word"] (defScope s_marks_of) := ⟨rfl, rfl, rfl, by decide +kernel, rfl, by decide +kernel, by decide +kernel⟩
theorem sc_marked : FnScope ["content", "mark"] ["content", "mark"] (defScope s_marked) := ⟨rfl, rfl, rfl, by decide +kernel, rfl, by decide +kernel, by decide +kernel⟩
def spMark : Sp := fun vs H Q _ => ∃ (deed : Str) (word : Int), vs = [.str deed, .int word] ∧ Q (oV (markOf deed word)) H
def spMarks (K : PySem.W.Frag) : Sp := fun vs H Q _ => ∃ (dv : V) (ds : List V) (deeds : List (Str × Str)) (field : Str) (word : Int), vs = [dv, .str field, .int word] ∧ Tu K H dv ds ∧ Al (DeT K H) ds deeds ∧
  ∀ T, H T = none → Q (.ref T) (upd H T (.tup [oV (marksOf deeds field word).very, oV (marksOf deeds field word).held]))
def spMarked : Sp := fun vs H Q _ => ∃ (c : Int) (m : Option Int), vs = [.int c, oV m] ∧ Q (.int (markedI c m)) H
section
variable {P : Program} {w : World} {K : PySem.W.Frag} {mg : Str → Option Value} {base : Heap}
theorem ok_mark {f : Addr} {fd : FuncData} (F : DefX K mg "mark_of" s_mark_of ["deed", "word"] f fd) (T : Txt K mg) (Cs : MCst mg) : Cal P w K mg base CX0 1 "mark_of" spMark := by
  refine cal_mk F sc_mark_of (fun vs H Q E h => ?_) (fun cdv A outer s H vs Q E hr h => ?_)
  · obtain ⟨d, w, rfl, _⟩ := h
    rfl
  · obtain ⟨d, w, rfl, q⟩ := h
    refine ⟨_, (pss_cons (ps_if (pt_cmpR op_eq (pv 0) pe_str (nomark _))
(pss_one (ps_ret pe_int))
pss_nil)
(pss_cons (ps_if (pt_cmpR op_eq (pv 0) pe_str (nomark _))
(pss_one (ps_ret (pv 1)))
pss_nil)
(pss_cons (ps_if (pt_cut (PW.pt (pw_and (pt_cmpR op_eq (pv 0) pe_str (nomark _)) (pw_and1 (pt_cmpR op_eq (pv 1) (pe_cst rfl Cs.THE_WORD) (nomark _))))))
(pss_one (ps_ret pe_int))
pss_nil)
(pss_cons (ps_if (pt_cut (PW.pt (pw_and (pt_cmpR op_eq (pv 0) pe_str (nomark _)) (pw_and1 (pt_cmpR op_eq (pv 1) (pe_cst rfl Cs.THE_WORD) (nomark _))))))
(pss_one (ps_ret pe_int))
pss_nil)
(pss_one (ps_ret pe_non)))))), ?_⟩
    unfold markOf at q
    refine ⟨_, rfl, rfl, _, rfl, ite2 (fun g => ?_) (fun g => ?_)⟩
    · rw [if_pos (by simpa using g)] at q
      exact q
    rw [if_neg (by simpa using g)] at q
    refine ⟨_, rfl, rfl, _, rfl, ite2 (fun g => ?_) (fun g => ?_)⟩
    · rw [if_pos (by simpa using g)] at q
      exact ⟨_, rfl, q⟩
    rw [if_neg (by simpa using g)] at q
    refine ⟨fun b H' => b = decide (d = "add" ∧ w = 1) ∧ H' = H, ?_, ?_⟩
    · refine ⟨_, rfl, rfl, _, rfl, ite2 (fun g => ?_) (fun g => ?_)⟩
      · have g' : d = "add" := by simpa using g
        refine ⟨_, rfl, rfl, _, rfl, ?_, rfl⟩
        simp [g']
      · have g' : d ≠ "add" := by simpa using g
        exact ⟨by simp [g'], rfl⟩
    rintro _ H ⟨rfl, rfl⟩
    refine ite2 (fun g => ?_) (fun g => ?_)
    · rw [if_pos (of_decide_eq_true g)] at q
      exact q
    rw [if_neg (fun z => g (decide_eq_true z))] at q
    refine ⟨fun b H' => b = decide (d = "strike" ∧ w = 1) ∧ H' = H, ?_, ?_⟩
    · refine ⟨_, rfl, rfl, _, rfl, ite2 (fun g => ?_) (fun g => ?_)⟩
      · have g' : d = "strike" := by simpa using g
        refine ⟨_, rfl, rfl, _, rfl, ?_, rfl⟩
        simp [g']
      · have g' : d ≠ "strike" := by simpa using g
        exact ⟨by simp [g'], rfl⟩
    rintro _ H ⟨rfl, rfl⟩
    refine ite2 (fun g => ?_) (fun g => ?_)
    · rw [if_pos (of_decide_eq_true g)] at q
      exact q
    rw [if_neg (fun z => g (decide_eq_true z))] at q
    exact q
theorem ok_marked {f : Addr} {fd : FuncData} (F : DefX K mg "marked" s_marked ["content", "mark"] f fd) (T : Txt K mg) : Cal P w K mg base CX0 1 "marked" spMarked := by
  refine cal_mk F sc_marked (fun vs H Q E h => ?_) (fun cdv A outer s H vs Q E hr h => ?_)
  · obtain ⟨d, w, rfl, _⟩ := h
    rfl
  · obtain ⟨d, m, rfl, q⟩ := h
    refine ⟨_, (pss_one (ps_ret (pe_cut (pe_ifExp (pt_cmpR op_isN (pv 1) pe_non (nomark _)) (pv 0) (pv 1))))), ?_⟩
    refine ⟨fun v H' => v = .int (markedI d m) ∧ H' = H, ?_, fun v H' e => by rw [e.1, e.2]; exact q⟩
    cases m with
    | none => exact ⟨_, rfl, rfl, _, rfl, ite2 (fun _ => ⟨_, rfl, rfl, rfl⟩) (fun g => absurd (decide_eq_true rfl) g)⟩
    | some i => exact ⟨_, rfl, rfl, _, rfl, ite2 (fun g => absurd (of_decide_eq_true g) nofun) (fun _ => ⟨_, rfl, rfl, rfl⟩)⟩
theorem ok_marks {f : Addr} {fd : FuncData} (F : DefX K mg "marks_of" s_marks_of ["deeds", "field", "word"] f fd) (T : Txt K mg) (c_mark_of : Cal P w K mg base CX0 1 "mark_of" spMark) : Cal P w K mg base CX0 2 "marks_of" (spMarks K) := by
  refine cal_mk F sc_marks_of (fun vs H Q E h => ?_) (fun cdv A outer s H vs Q E hr h => ?_)
  · obtain ⟨dv, ds, deeds, field, word, rfl, _⟩ := h
    rfl
  · obtain ⟨dv, ds, deeds, field, word, rfl, ⟨da, rfl, hd⟩, al, q⟩ := h
    refine ⟨_, (pss_cons (ps_asg2 pe_non (pg_name (i := 3) sc_marks_of.nd rfl (Or.inl rfl)) (pg_name (i := 4) sc_marks_of.nd rfl (Or.inl rfl)))
(pss_cons (ps_set (i := 5) sc_marks_of.nd rfl (Or.inl rfl) pe_bl)
(pss_cons (ps_for PassesOwn.never rfl (pi_tup (pv 0)) (pg_tup (by rfl) (pgs_cons (pg_name (i := 6) sc_marks_of.nd rfl (Or.inl rfl)) (pgs_cons (pg_name (i := 7) sc_marks_of.nd rfl (Or.inl rfl)) pgs_nil)))
(pss_cons (ps_if (pt_cmpR op_ne (pv 7) (pv 1) (nomark _))
(pss_one ps_continue)
pss_nil)
(pss_cut (ps_if (pt_cmpR op_eq (pv 6) pe_str (nomark _))
(pss_one (ps_set (i := 5) sc_marks_of.nd rfl (Or.inl rfl) pe_bl))
pss_nil)
(pss_cons (ps_set (i := 8) sc_marks_of.nd rfl (Or.inl rfl) (pe_c c_mark_of hr (by first | decide | assumption) rfl (pa_cons (pv 6) (pa_cons (pv 2) pa_nil))))
(pss_one (ps_if (pt_cmpR op_notN (pv 8) pe_non (nomark _))
(pss_cons (ps_set (i := 4) sc_marks_of.nd rfl (Or.inl rfl) (pv 8))
(pss_one (ps_set (i := 3) sc_marks_of.nd rfl (Or.inl rfl) (pe_cut (pe_ifExp (pt_val (pv 5)) (pv 8) (pv 3))))))
pss_nil))))))
(pss_one (ps_ret (pe_tup (pa_cons (pv 3) (pa_cons (pv 4) pa_nil)))))))), ?_⟩
    refine ⟨_, rfl, da, rfl, ⟨ds, hd⟩, ?_⟩
    refine for_it (walk_tup (K := K) (a := da) (xs := ds)) (fun j σ H2 => H2 = H ∧ ∃ x6 x7 x8, σ = [some (.ref da), some (.str field), some (.int word), some (oV ((deeds.take j).foldl (mkStep field word) ⟨none, none, true⟩).very), some (oV ((deeds.take j).foldl (mkStep field word) ⟨none, none, true⟩).held), some (.bl ((deeds.take j).foldl (mkStep field word) ⟨none, none, true⟩).isv), x6, x7, x8])
      ⟨rfl, none, none, none, rfl⟩ (fun j σ H2 _ h => by rw [h.1]; exact hd) ?_ ?_
    · rintro j x σ H2 H3 hj ⟨rfl, x6, x7, x8, rfl⟩ ⟨rfl, hx⟩
      obtain ⟨⟨deed, name⟩, hp, tt, rfl, hT⟩ := al.get hx
      have ef : (deeds.take (j + 1)).foldl (mkStep field word) ⟨none, none, true⟩ = mkStep field word ((deeds.take j).foldl (mkStep field word) ⟨none, none, true⟩) (deed, name) := by
        rw [List.take_succ, hp, List.foldl_append]
        rfl
      rw [ef]
      generalize (deeds.take j).foldl (mkStep field word) ⟨none, none, true⟩ = m
      refine ⟨tt, _, rfl, hT, rfl, _, _, rfl, _, _, rfl, rfl, ?_⟩
      refine ⟨_, rfl, _, rfl, rfl, _, rfl, ite2 (fun g => ?_) (fun g => ?_)⟩
      · have ne : name ≠ field := by simpa using g
        have e : mkStep field word m (deed, name) = m := if_pos ne
        rw [e]
        exact ⟨rfl, _, _, _, rfl⟩
      · have ne : ¬ name ≠ field := by simpa using g
        have e : mkStep field word m (deed, name) = (match markOf deed word with | none => ⟨m.very, m.held, if deed = "fresh" then false else m.isv⟩ | some x => ⟨if (if deed = "fresh" then false else m.isv) then some x else m.very, some x, if deed = "fresh" then false else m.isv⟩) := if_neg ne
        rw [e]
        refine ⟨fun σ' H' => H' = H3 ∧ σ' = [some (.ref da), some (.str field), some (.int word), some (oV m.very), some (oV m.held), some (.bl (if deed = "fresh" then false else m.isv)), some (.str deed), some (.str name), x8], ?_, ?_⟩
        · refine ⟨_, rfl, rfl, _, rfl, ite2 (fun g => ?_) (fun g => ?_)⟩
          · rw [if_pos (by simpa using g)]
            exact ⟨rfl, rfl⟩
          · rw [if_neg (by simpa using g)]
            exact ⟨rfl, rfl⟩
        · rintro _ H6 ⟨rfl, rfl⟩
          generalize (if deed = "fresh" then false else m.isv) = v
          refine ⟨_, rfl, _, rfl, deed, word, rfl, _, rfl, rfl, _, rfl, ?_⟩
          cases hm : markOf deed word with
          | none => exact ite2 (fun g => by simp [oV] at g) (fun _ => ⟨rfl, _, _, _, rfl⟩)
          | some y =>
            refine ite2 (fun _ => ?_) (fun g => absurd (by simp [oV]) g)
            refine ⟨_, rfl, fun u H' => u = oV (if v then some y else m.very) ∧ H' = H6, ?_, ?_⟩
            · refine ⟨_, rfl, v, rfl, ?_⟩
              cases v with
              | true => exact ⟨_, rfl, rfl, rfl⟩
              | false => exact ⟨_, rfl, rfl, rfl⟩
            · rintro _ _ ⟨rfl, rfl⟩
              exact ⟨rfl, _, _, _, rfl⟩
    · rintro σ H2 ⟨rfl, x6, x7, x8, rfl⟩
      rw [al.1, List.take_length]
      exact ⟨_, rfl, _, rfl, by show 2 ≤ sizeLine; decide, fun T hT => q T hT⟩
end
end MK
set_option Elab.async false
set_option linter.all false
set_option autoImplicit false
set_option maxRecDepth 100000
set_option maxHeartbeats 4000000
namespace MK
open PySem PySem.Spec PyProof.Rows L2
open C8 (Met pe_mt pe_mt0 Mak pe_mk)
local macro_rules | `(tactic| walk_at "x") => `(tactic| dsimp only [tSeq, tAsg, tRet, tDrop, tLst, tTup, tCons, tOp, tUn, tIfS])
theorem sc_Orders_keeps_rules : FnScope ["self", "name", "seen", "other"] ["self", "name", "seen"] (defScope s_Orders_keeps_rules) := ⟨rfl, rfl, rfl, by decide +kernel, rfl, by decide +kernel, by decide +kernel⟩
theorem sc_Orders_start : FnScope ["self", "need"] ["self"] (defScope s_Orders_start) := ⟨rfl, rfl, rfl, by decide +kernel, rfl, by decide +kernel, by decide +kernel⟩
theorem sc_Orders_contents_behind : FnScope ["self", "call", "contents", "behind", "content", "field", "sort", "need", "very", "held"] ["self", "call", "contents"] (defScope s_Orders_contents_behind) := ⟨rfl, rfl, rfl, by decide +kernel, rfl, by decide +kernel, by decide +kernel⟩
structure OCls (K : PySem.W.Frag) (OC : Addr) : Prop where
  cls : Cls K OC
  kind : NoAttr K OC "kind"
  needed : NoAttr K OC "needed"
  wanted : NoAttr K OC "wanted"
  barred : NoAttr K OC "barred"
  counted : NoAttr K OC "counted"
/-- what stays, though a dict is locked -/
def Km (H H' : Hp) : Prop := (∀ x u, L2.Rd H x u → L2.Rd H' x u) ∧ ∀ x C dx fs, H x = some (.ins C dx fs) → H' x = some (.ins C dx fs)
theorem Km.of {H H' : Hp} (e : Same H H') : Km H H' := ⟨fun x u h => h.elim (fun h => .inl (e _ _ h)) fun ⟨o, h⟩ => .inr ⟨o, e _ _ h⟩, fun _ _ _ _ h => e _ _ h⟩
theorem Km.lock {H : Hp} {d : Addr} {o : Obj} {kvs : List (L2.Key × V)} (h : H d = some (.dK kvs)) : Km H (upd H d (.frz o (.dK kvs))) := by
  refine ⟨fun x u r => ?_, fun x C dx fs r => ?_⟩
  · by_cases e : x = d
    · subst e
      rcases r with r | ⟨o', r⟩
      · rw [h] at r
        cases r
        exact .inr ⟨o, upd_same⟩
      · rw [h] at r
        cases r
    · rcases r with r | ⟨o', r⟩
      · exact .inl ((upd_ne e).trans r)
      · exact .inr ⟨o', (upd_ne e).trans r⟩
  · exact (upd_ne fun e => by rw [e, h] at r; cases r).trans r
section
variable {K : PySem.W.Frag} {H H' : Hp}
theorem Km.sqt (m : Km H H') {a : Addr} {xs : List V} (h : SqT K H a xs) : SqT K H' a xs := h.imp (m.1 _ _) id
theorem Km.sql (m : Km H H') {a : Addr} {xs : List V} (h : SqL K H a xs) : SqL K H' a xs := h.imp (m.1 _ _) id
theorem Km.tu (m : Km H H') {v : V} {xs : List V} (h : Tu K H v xs) : Tu K H' v xs := let ⟨a, e, h⟩ := h; ⟨a, e, m.sqt h⟩
theorem Km.cdt (m : Km H H') {v : V} {c : CD} (h : CdT K H v c) : CdT K H' v c := let ⟨a, d, s, ds, h1, h2, h3, h4, h5⟩ := h; ⟨a, d, s, ds, m.tu h1, m.tu h2, m.tu h3, h4.mono fun _ _ h => m.tu h, m.tu h5⟩
end
theorem DGet.rk {H : Hp} {a : Addr} {kvs : List (L2.Key × V)} {k : L2.Key} (e : L2.Rd H a (.dK kvs)) : DGet H a (kV k) (valV kvs k) := .inl ⟨kvs, k, e, rfl, rfl⟩
/-- a kind that is read, its table locked or not -/
def KdR (K : PySem.W.Frag) (KC : Addr) (H : Hp) (kv : V) (tb : Addr) (fs : List FD) (cs : List CD) : Prop := ∃ (x dx : Addr) (fl : List (Str × V)) (t : V) (tv sv : List V), kv = .ref x ∧ H x = some (.ins KC dx fl) ∧ fl.lookup (Str.ofString "triples") = some t ∧ fl.lookup (Str.ofString "table") = some (.ref tb) ∧ Tu K H t tv ∧ Al (FdT K H) tv fs ∧ Al (CdT K H) sv cs ∧ L2.Rd H tb (.dK (tableV cs sv))
/-- lists under names -/
def LsI (H : Hp) (d : Addr) (zs : List Str) (f : Str → List Str) : Prop := ∃ kvs, L2.Rd H d (.dK kvs) ∧ ∀ z ∈ zs, ∃ l, valV kvs (.inr z) = some (.ref l) ∧ L2.Rd H l (.lst ((f z).map V.str))
def OrR (K : PySem.W.Frag) (OC KC : Addr) (H : Hp) (a : Addr) (kv : V) (tb : Addr) (D : OD) : Prop := ∃ (dx nd wa ba co : Addr), H a = some (.ins OC dx [("kind", kv), ("needed", .ref nd), ("wanted", .ref wa), ("barred", .ref ba), ("counted", .ref co)]) ∧ KdR K KC H kv tb D.fs D.cs ∧ L2.Rd H nd (.lst (D.fs.map fun f => .bl f.need)) ∧
  LsI H wa (D.cs.map (·.nm)) (wantL D.rs) ∧ LsI H ba (D.cs.map (·.nm)) (barL D.rs) ∧ L2.Rd H co (.lst ((countL D.cs D.rs).map V.str))
theorem OrR.km {K : PySem.W.Frag} {OC KC : Addr} {H H' : Hp} {a : Addr} {kv : V} {tb : Addr} {D : OD} (m : Km H H') (h : OrR K OC KC H a kv tb D) : OrR K OC KC H' a kv tb D := by
  obtain ⟨dx, nd, wa, ba, co, h1, ⟨x, kx, fl, t, tv, sv, k1, k2, k3, k4, k5, k6, k7, k8⟩, h3, ⟨wk, w1, w2⟩, ⟨bk, b1, b2⟩, h6⟩ := h
  exact ⟨dx, nd, wa, ba, co, m.2 _ _ _ _ h1, ⟨x, kx, fl, t, tv, sv, k1, m.2 _ _ _ _ k2, k3, k4, m.tu k5, k6.mono fun _ _ h => m.tu h, k7.mono fun _ _ h => m.cdt h, m.1 _ _ k8⟩, m.1 _ _ h3,
    ⟨wk, m.1 _ _ w1, fun z hz => let ⟨l, q1, q2⟩ := w2 z hz; ⟨l, q1, m.1 _ _ q2⟩⟩, ⟨bk, m.1 _ _ b1, fun z hz => let ⟨l, q1, q2⟩ := b2 z hz; ⟨l, q1, m.1 _ _ q2⟩⟩, m.1 _ _ h6⟩
def spKeeps (K : PySem.W.Frag) (OC KC : Addr) : Sp := fun vs H Q _ => ∃ (a tb sa : Addr) (kv : V) (D : OD) (z : Str) (seen : List Str), vs = [.ref a, .str z, .ref sa] ∧ OrR K OC KC H a kv tb D ∧ D.rs.length ≤ 10 ∧ z ∈ D.cs.map (·.nm) ∧ SqT K H sa (seen.map V.str) ∧ ∀ H', Same H H' → Q (.bl (keepsB D.rs z seen)) H'
def spStartO (K : PySem.W.Frag) (OC KC : Addr) : Sp := fun vs H Q _ => ∃ (a tb : Addr) (kv : V) (D : OD), vs = [.ref a] ∧ OrR K OC KC H a kv tb D ∧ D.fs.length ≤ 3 ∧ ∀ H' b, Same H H' → Nk K H' (startO D) (.ref b) → Q (.ref b) H'
def spCont32 (K : PySem.W.Frag) (OC KC : Addr) : Sp := fun vs H Q _ => ∃ (a tb ca : Addr) (kv cv : V) (D : OD) (cd : CD) (cts : List Int), vs = [.ref a, cv, .ref ca] ∧ OrR K OC KC H a kv tb D ∧ D.fs.length ≤ 3 ∧ CdT K H cv cd ∧ SqT K H ca (cts.map V.int) ∧ cts.length = D.fs.length ∧
  ∀ H' r, Same H H' → SqT K H' r ((contB D.fs cd cts).map V.int) → Q (.ref r) H'
theorem want_le (rs : List RU) (z : Str) : (wantL rs z).length ≤ rs.length := by
  unfold wantL
  rw [List.length_map]
  exact List.length_filter_le _ _
theorem bar_le (rs : List RU) (z : Str) : (barL rs z).length ≤ rs.length := by
  unfold barL
  rw [List.length_map]
  exact List.length_filter_le _ _
section
variable {P : Program} {w : World} {K : PySem.W.Frag} {mg : Str → Option Value} {base : Heap} {OC KC : Addr}
theorem ok_keeps {f : Addr} {fd : FuncData} (F : Fun K "keeps_rules" "Orders.keeps_rules" s_Orders_keeps_rules f fd) (T : Txt K mg) (Z : OCls K OC) : FnOk P w K mg base CX0 1 f fd ["self", "name", "seen"] (spKeeps K OC KC) := by
  refine F.ok sc_Orders_keeps_rules (fun vs H Q E h => ?_) (fun cdv A outer sh H vs Q E hr h => ?_)
  · obtain ⟨a, tb, sa, kv, D, z, seen, rfl, _⟩ := h
    rfl
  · obtain ⟨a, tb, sa, kv, D, z, seen, rfl, ⟨dx, nd, wa, ba, co, h1, h2, h3, ⟨wk, w1, w2⟩, ⟨bk, b1, b2⟩, h6⟩, lr, hz, hs, k⟩ := h
    refine ⟨_, (pss_cons (ps_if (pt_not (pt_val (pe_callB (cr_all rfl) (by rfl) T.all (by decide +kernel) (pa_cons (pe_lc (own := [("other", 3)]) (g := (gName 3)) (tt := tYes) rfl sc_Orders_keeps_rules.nd (pi_list (pe_dget (hu_of hr) (pe_fld (pv 0) rfl) (pv 1) (fun _ _ => rfl))) (blkOk_by (own := [("other", 3)]) (N := ["self", "name", "seen", "other"]) (sc := defScope s_Orders_keeps_rules) (by decide +kernel)) (fun _ _ _ _ _ => (pg_name (i := 3) sc_Orders_keeps_rules.nd rfl (Or.inl rfl))) (fun _ _ _ _ _ => pts_nil) (fun _ _ _ _ _ => (pe_cmpR (op_in_seqK (K := K) rfl) (pv 3) (pv 2) (by rfl)))) pa_nil))))
(pss_one (ps_ret pe_bl))
pss_nil)
(pss_one (ps_ret (pe_not (pe_callB (cr_any rfl) (by rfl) T.any (by decide +kernel) (pa_cons (pe_lc (own := [("other", 3)]) (g := (gName 3)) (tt := tYes) rfl sc_Orders_keeps_rules.nd (pi_list (pe_dget (hu_of hr) (pe_fld (pv 0) rfl) (pv 1) (fun _ _ => rfl))) (blkOk_by (own := [("other", 3)]) (N := ["self", "name", "seen", "other"]) (sc := defScope s_Orders_keeps_rules) (by decide +kernel)) (fun _ _ _ _ _ => (pg_name (i := 3) sc_Orders_keeps_rules.nd rfl (Or.inl rfl))) (fun _ _ _ _ _ => pts_nil) (fun _ _ _ _ _ => (pe_cmpR (op_in_seqK (K := K) rfl) (pv 3) (pv 2) (by rfl)))) pa_nil)))))), ?_⟩
    obtain ⟨wl, q1, q2⟩ := w2 z hz
    obtain ⟨bl, q3, q4⟩ := b2 z hz
    have lw := want_le D.rs z
    have lb := bar_le D.rs z
    refine ⟨_, rfl, a, OC, dx, _, .ref wa, rfl, h1, Z.cls, Z.wanted, rfl, _, rfl, wa, .ref wl, rfl, q1 ▸ DGet.rk (k := .inr z) w1, wl, rfl, ⟨_, .inl q2⟩, fun L hL => ?_⟩
    refine lc_it (walk_list (K := K) (a := wl) (xs := (wantL D.rs z).map V.str)) (fun i H2 => Same H H2 ∧ H2 L = some (.lst (((wantL D.rs z).take i).map fun x => V.bl (decide (x ∈ seen))))) ⟨same_new (Same.refl H) hL, upd_same⟩ (fun i H2 _ h => .inl ((Km.of h.1).1 _ _ q2)) ?_ ?_
    · rintro i x H2 H3 hi ⟨e2, l2⟩ ⟨rfl, hx⟩
      rw [List.getElem?_map] at hx
      obtain ⟨y, hy, rfl⟩ := Option.map_eq_some_iff.mp hx
      refine ⟨rfl, _, rfl, _, rfl, sa, _, rfl, .inr (same_t e2 hs), rfl, flat_strs seen, ?_⟩
      refine ⟨_, l2, ?_, fun c o hc => (upd_ne (fun z => by rw [z, hL] at hc; cases hc)).trans (e2 _ _ hc), ?_⟩
      · rw [List.length_map, List.length_take]
        show _ < 2 ^ 24
        omega
      · rw [upd_same, List.take_succ, hy, List.map_append]
        show some (HO.lst (_ ++ [V.bl (inV (.str y) (seen.map V.str))])) = _
        rw [inV_strs]
        rfl
    · rintro H2 ⟨e2, l2⟩
      rw [List.length_map, List.take_length] at l2
      refine ⟨L, (wantL D.rs z).map fun x => decide (x ∈ seen), rfl, SqL.of (by rw [List.map_map]; exact l2), _, rfl, ?_⟩
      rw [List.all_map]
      refine ite2 (fun g => ?_) (fun g => ?_)
      · have e : keepsB D.rs z seen = false := by
          unfold keepsB
          rw [show (wantL D.rs z).all (fun x => decide (x ∈ seen)) = false by simpa using g]
          rfl
        rw [← e]
        exact k _ e2
      · have e : keepsB D.rs z seen = !(barL D.rs z).any (fun x => decide (x ∈ seen)) := by
          unfold keepsB
          rw [show (wantL D.rs z).all (fun x => decide (x ∈ seen)) = true by simpa using g]
          rfl
        have m2 := Km.of e2
        refine ⟨_, rfl, a, OC, dx, _, .ref ba, rfl, e2 _ _ h1, Z.cls, Z.barred, rfl, _, rfl, ba, .ref bl, rfl, q3 ▸ DGet.rk (k := .inr z) (m2.1 _ _ b1), bl, rfl, ⟨_, .inl (m2.1 _ _ q4)⟩, fun L2 hL2 => ?_⟩
        refine lc_it (walk_list (K := K) (a := bl) (xs := (barL D.rs z).map V.str)) (fun i H3 => Same H2 H3 ∧ H3 L2 = some (.lst (((barL D.rs z).take i).map fun x => V.bl (decide (x ∈ seen))))) ⟨same_new (Same.refl H2) hL2, upd_same⟩ (fun i H3 _ h => .inl ((Km.of (e2.trans h.1)).1 _ _ q4)) ?_ ?_
        · rintro i x H3 H4 hi ⟨e3, l3⟩ ⟨rfl, hx⟩
          rw [List.getElem?_map] at hx
          obtain ⟨y, hy, rfl⟩ := Option.map_eq_some_iff.mp hx
          refine ⟨rfl, _, rfl, _, rfl, sa, _, rfl, .inr (same_t (e2.trans e3) hs), rfl, flat_strs seen, ?_⟩
          refine ⟨_, l3, ?_, fun c o hc => (upd_ne (fun z => by rw [z, hL2] at hc; cases hc)).trans (e3 _ _ hc), ?_⟩
          · rw [List.length_map, List.length_take]
            show _ < 2 ^ 24
            omega
          · rw [upd_same, List.take_succ, hy, List.map_append]
            show some (HO.lst (_ ++ [V.bl (inV (.str y) (seen.map V.str))])) = _
            rw [inV_strs]
            rfl
        · rintro H3 ⟨e3, l3⟩
          rw [List.length_map, List.take_length] at l3
          refine ⟨L2, (barL D.rs z).map fun x => decide (x ∈ seen), rfl, SqL.of (by rw [List.map_map]; exact l3), ?_⟩
          rw [List.any_map]
          have := k H3 (e2.trans e3)
          rw [e] at this
          exact ⟨_, rfl, this⟩
theorem ok_start {f : Addr} {fd : FuncData} (F : Fun K "start" "Orders.start" s_Orders_start f fd) (T : Txt K mg) (Z : OCls K OC) : FnOk P w K mg base CX0 1 f fd ["self"] (spStartO K OC KC) := by
  refine F.ok sc_Orders_start (fun vs H Q E h => ?_) (fun cdv A outer sh H vs Q E hr h => ?_)
  · obtain ⟨a, tb, kv, D, rfl, _⟩ := h
    rfl
  · obtain ⟨a, tb, kv, D, rfl, ⟨dx, nd, wa, ba, co, h1, h2, h3, h4, h5, h6⟩, lf, k⟩ := h
    refine ⟨_, (pss_one (ps_ret (pe_tup (pa_cons pe_int (pa_cons (pe_callTy call_tuple_of (by rfl) T.tuple (by decide +kernel) (pa_cons (pe_lc (own := [("need", 1)]) (g := (gName 1)) (tt := tYes) rfl sc_Orders_start.nd (pi_list (pe_fld (pv 0) rfl)) (blkOk_by (own := [("need", 1)]) (N := ["self", "need"]) (sc := defScope s_Orders_start) (by decide +kernel)) (fun _ _ _ _ _ => (pg_name (i := 1) sc_Orders_start.nd rfl (Or.inl rfl))) (fun _ _ _ _ _ => pts_nil) (fun _ _ _ _ _ => pe_int)) pa_nil)) (pa_cons (pe_tup pa_nil) pa_nil)))))), ?_⟩
    refine ⟨_, rfl, a, OC, dx, _, .ref nd, rfl, h1, Z.cls, Z.needed, rfl, nd, rfl, ⟨_, .inl h3⟩, fun L hL => ?_⟩
    refine lc_it (walk_list (K := K) (a := nd) (xs := D.fs.map fun f => V.bl f.need)) (fun i H2 => Same H H2 ∧ H2 L = some (.lst ((D.fs.take i).map fun _ => V.int 0))) ⟨same_new (Same.refl H) hL, upd_same⟩ (fun i H2 _ h => .inl ((Km.of h.1).1 _ _ h3)) ?_ ?_
    · rintro i x H2 H3 hi ⟨e2, l2⟩ ⟨rfl, hx⟩
      rw [List.length_map] at hi
      refine ⟨rfl, _, l2, ?_, fun c o hc => (upd_ne (fun z => by rw [z, hL] at hc; cases hc)).trans (e2 _ _ hc), ?_⟩
      · rw [List.length_map, List.length_take]
        show _ < 2 ^ 24
        omega
      · rw [upd_same, List.take_succ, List.getElem?_eq_getElem hi, List.map_append]
        rfl
    · rintro H2 ⟨e2, l2⟩
      rw [List.length_map, List.take_length] at l2
      refine ⟨L, _, rfl, .inl ⟨SqL.of l2, fun r hr => ?_⟩⟩
      have e3 := same_new (o := .tup (D.fs.map fun _ => V.int 0)) e2 hr
      refine ⟨by show 0 ≤ sizeLine; decide, fun q hq => ⟨by show 3 ≤ sizeLine; decide, fun T hT => ?_⟩⟩
      have e4 := same_new (o := .tup []) e3 hq
      have e5 := same_new (o := .tup [.int 0, .ref r, .ref q]) e4 hT
      obtain ⟨qr, hq0⟩ := upd_none hq
      refine k _ T e5 (pl_nk (p := r) (q := q) (SqT.of upd_same) ?_ ?_)
      · have : upd H2 r (.tup (D.fs.map fun _ => V.int 0)) r = some (.tup (D.fs.map fun _ => V.int 0)) := upd_same
        rw [List.map_map]
        exact SqT.of ((same_new (same_new (Same.refl _) hq) hT) _ _ this)
      · have : upd (upd H2 r (.tup (D.fs.map fun _ => V.int 0))) q (.tup []) q = some (.tup []) := upd_same
        exact SqT.of ((same_new (Same.refl _) hT) _ _ this)
theorem ok_cont32 {f : Addr} {fd : FuncData} (F : Fun K "contents_behind" "Orders.contents_behind" s_Orders_contents_behind f fd) (T : Txt K mg) (Cs : MCst mg) (Z : OCls K OC) (ZK : KCls K KC) (c_marks_of : Cal P w K mg base CX0 2 "marks_of" (spMarks K)) (c_marked : Cal P w K mg base CX0 1 "marked" spMarked) : FnOk P w K mg base CX0 3 f fd ["self", "call", "contents"] (spCont32 K OC KC) := by
  refine F.ok sc_Orders_contents_behind (fun vs H Q E h => ?_) (fun cdv A outer sh H vs Q E hr h => ?_)
  · obtain ⟨a, tb, ca, kv, cv, D, cd, cts, rfl, _⟩ := h
    rfl
  · obtain ⟨a, tb, ca, kv, cv, D, cd, cts, rfl, ⟨dx, nd, wa, ba, co, h1, ⟨x, kx, fl, t, tv, sv, rfl, k2, k3, k4, ⟨ta, rfl, k5⟩, k6, k7, k8⟩, h3, h4, h5, h6⟩, lf, hc, hca, lc, k⟩ := h
    refine ⟨_, (pss_cons (ps_set (i := 3) sc_Orders_contents_behind.nd rfl (Or.inl rfl) (pe_lst pa_nil))
(pss_cons (ps_for PassesOwn.never rfl (RZ.pi_zipA (by rfl) T.zip (pa_cons (pv 2) (pa_cons (pe_fld (pe_fld (pv 0) rfl) rfl) pa_nil))) (pg_tup (by rfl) (pgs_cons (pg_name (i := 4) sc_Orders_contents_behind.nd rfl (Or.inl rfl)) (pgs_cons (pg_tup (by rfl) (pgs_cons (pg_name (i := 5) sc_Orders_contents_behind.nd rfl (Or.inl rfl)) (pgs_cons (pg_name (i := 6) sc_Orders_contents_behind.nd rfl (Or.inl rfl)) (pgs_cons (pg_name (i := 7) sc_Orders_contents_behind.nd rfl (Or.inl rfl)) pgs_nil)))) pgs_nil)))
(pss_cons (ps_asg (pe_c c_marks_of hr (by first | decide | assumption) rfl (pa_cons (pe_ix ix_tup (pv 1) pe_int (fun _ _ => rfl)) (pa_cons (pv 5) (pa_cons (pe_cst rfl Cs.THE_WORD) pa_nil)))) (pg_tup (by rfl) (pgs_cons (pg_name (i := 8) sc_Orders_contents_behind.nd rfl (Or.inl rfl)) (pgs_cons (pg_name (i := 9) sc_Orders_contents_behind.nd rfl (Or.inl rfl)) pgs_nil))))
(pss_one (ps_expr (pe_bm PySem.F.plainAttrs_list PySem.F.slot_list_append PySem.F.type_list_append mt_append (pv 3) (pa_cons (pe_cut (pe_ifExp (pt_val (pv 7)) (pe_c c_marked hr (by first | decide | assumption) rfl (pa_cons (pv 4) (pa_cons (pv 9) pa_nil))) pe_int)) pa_nil))))))
(pss_one (ps_ret (pe_callTy call_tuple_of (by rfl) T.tuple (by decide +kernel) (pa_cons (pv 3) pa_nil)))))), ?_⟩
    refine ⟨by show 0 ≤ sizeLine; decide, fun bl hbl => ?_⟩
    have e1 := same_new (o := .lst []) (Same.refl H) hbl
    have lt2 := k6.1
    have lcb := contB_len (cd := cd) lc
    refine ⟨_, rfl, _, rfl, a, OC, dx, _, .ref x, rfl, e1 _ _ h1, Z.cls, Z.kind, rfl, x, KC, kx, fl, .ref ta, rfl, e1 _ _ k2, ZK.cls, ZK.triples, k3, ca, ta, _, _, rfl, .inr ⟨same_t e1 hca, same_t e1 k5, ?_⟩⟩
    refine for_it (walk_zipT (K := K) (a := ca) (b := ta) (xs := cts.map V.int) (ys := tv) (n := D.fs.length) (by rw [List.length_map]; omega)) (fun j σ H2 => Same H H2 ∧ H2 bl = some (.lst (((contB D.fs cd cts).take j).map V.int)) ∧ ∃ x4 x5 x6 x7 x8 x9, σ = [some (.ref a), some cv, some (.ref ca), some (.ref bl), x4, x5, x6, x7, x8, x9]) ⟨e1, upd_same, none, none, none, none, none, none, rfl⟩ (fun j σ H2 _ h => ⟨same_t h.1 hca, same_t h.1 k5⟩) ?_ ?_
    · rintro j _ σ H2 _ hj ⟨e2, b2, x4, x5, x6, x7, x8, x9, rfl⟩ ⟨T, u, v, rfl, hT, rfl, hu, hv⟩
      obtain ⟨fd0, hfd, ft, rfl, hft⟩ := k6.get hv
      have hu : (cts.map V.int)[j]? = some u := hu
      rw [List.getElem?_map] at hu
      obtain ⟨c, hc0, rfl⟩ := Option.map_eq_some_iff.mp hu
      have e3 := same_new (o := .tup [.int c, .ref ft]) e2 hT
      have b3 : upd H2 T (.tup [.int c, .ref ft]) bl = some (.lst (((contB D.fs cd cts).take j).map V.int)) := (same_new (Same.refl H2) hT) _ _ b2
      have t3 : SqT K (upd H2 T (.tup [.int c, .ref ft])) T [.int c, .ref ft] := SqT.of upd_same
      have hcb : (contB D.fs cd cts)[j]? = some (if fd0.need then markedI c (marksOf cd.deeds fd0.nm 1).held else 0) := by
        unfold contB
        rw [List.getElem?_map, List.getElem?_zip_eq_some.mpr (show cts[j]? = some (c, fd0).1 ∧ D.fs[j]? = some (c, fd0).2 from ⟨hc0, hfd⟩)]
        rfl
      generalize upd H2 T (.tup [.int c, .ref ft]) = H3 at e3 b3 t3 ⊢
      obtain ⟨mv, dv, sv5, ds, ⟨t5, rfl, c1⟩, c2, c3, c4, c5⟩ := hc
      refine ⟨T, _, rfl, t3, rfl, _, _, rfl, _, _, rfl, ft, _, rfl, same_t e3 hft, rfl, _, _, rfl, _, _, rfl, _, _, rfl, rfl, rfl, ?_⟩
      refine ⟨_, rfl, t5, _, 3, dv, rfl, rfl, same_t e3 c1, rfl, _, rfl, dv, ds, cd.deeds, fd0.nm, 1, rfl, c3.keep e3, c4.mono fun _ _ h => DeT.keep e3 h, fun T2 hT2 => ?_⟩
      have e4 := same_new (o := .tup [oV (marksOf cd.deeds fd0.nm 1).very, oV (marksOf cd.deeds fd0.nm 1).held]) e3 hT2
      have b4 : upd H3 T2 (.tup [oV (marksOf cd.deeds fd0.nm 1).very, oV (marksOf cd.deeds fd0.nm 1).held]) bl = some (.lst (((contB D.fs cd cts).take j).map V.int)) := (same_new (Same.refl H3) hT2) _ _ b3
      have t4 : SqT K (upd H3 T2 (.tup [oV (marksOf cd.deeds fd0.nm 1).very, oV (marksOf cd.deeds fd0.nm 1).held])) T2 [oV (marksOf cd.deeds fd0.nm 1).very, oV (marksOf cd.deeds fd0.nm 1).held] := SqT.of upd_same
      generalize upd H3 T2 (.tup [oV (marksOf cd.deeds fd0.nm 1).very, oV (marksOf cd.deeds fd0.nm 1).held]) = H4 at e4 b4 t4 ⊢
      refine ⟨T2, _, rfl, t4, rfl, _, _, rfl, _, _, rfl, rfl, ?_⟩
      refine ⟨_, rfl, .inl ⟨rfl, _, SqL.of b4⟩, fun v H' => v = .int (if fd0.need then markedI c (marksOf cd.deeds fd0.nm 1).held else 0) ∧ H' = H4, ?_, ?_⟩
      · refine ⟨_, rfl, fd0.need, rfl, ?_⟩
        cases fd0.need with
        | true => exact ⟨_, rfl, _, rfl, c, _, rfl, rfl, rfl⟩
        | false => exact ⟨rfl, rfl⟩
      · rintro _ _ ⟨rfl, rfl⟩
        refine ⟨bl, _, _, rfl, rfl, b4, ?_, fun c o hc => (upd_ne (fun z => by rw [z, hbl] at hc; cases hc)).trans (e4 _ _ hc), ?_, _, _, _, _, _, _, rfl⟩
        · rw [List.length_map, List.length_take]
          show _ < 2 ^ 24
          omega
        · rw [upd_same, List.take_succ, hcb, List.map_append]
          rfl
    · rintro σ H2 ⟨e2, b2, x4, x5, x6, x7, x8, x9, rfl⟩
      rw [← lcb, List.take_length] at b2
      exact ⟨_, rfl, bl, _, rfl, .inl ⟨SqL.of b2, fun r hr => k _ r (same_new e2 hr) (SqT.of upd_same)⟩⟩
end
end MK
set_option Elab.async false
set_option linter.all false
set_option autoImplicit false
set_option maxRecDepth 100000
set_option maxHeartbeats 4000000
namespace MK
open PySem PySem.Spec PyProof.Rows L2
open C8 (Met pe_mt pe_mt0 Mak pe_mk)
local macro_rules | `(tactic| walk_at "x") => `(tactic| dsimp only [tSeq, tAsg, tRet, tDrop, tLst, tTup, tCons, tOp, tUn, tIfS])
theorem sc_Orders_place_behind : FnScope ["self", "place", "name", "mode", "contents", "seen", "call", "content", "need", "lacks", "other"] ["self", "place", "name"] (defScope s_Orders_place_behind) := ⟨rfl, rfl, rfl, by decide +kernel, rfl, by decide +kernel, by decide +kernel⟩
theorem table_valO {fs : List FD} {n : Nat} {cs : List CD} {sv : List V} (ok : KdOk fs n cs) {R : V → CD → Prop} (al : Al R sv cs) {i : Nat} {cd : CD} {c : V} (hi : cs[i]? = some cd) (hc : sv[i]? = some c) : valV (tableV cs sv) (.inr cd.nm) = some c := by
  have keys : (tableV cs sv).map (·.1) = (cs.map (·.nm)).map (Sum.inr : Str → L2.Key) := by
    unfold tableV
    rw [zip_keys2 _ (fun c => Sum.inr c.nm) (fun _ _ => rfl) _ _ al.1.symm, List.map_map]
    rfl
  exact val_nodup (by rw [keys]; exact List.Pairwise.map Sum.inr (fun _ _ h1 h2 => h1 (Sum.inr.inj h2)) ok.nd) (Sum.inr cd.nm, c) (List.mem_of_getElem? (table_at hi hc))
/-- a place, an end, or None -/
def PbV (K : PySem.W.Frag) (H : Hp) (r : Option Pl) (v : V) : Prop := match r with
  | none => v = .non
  | some p => Nk K H p v
def spPlB (K : PySem.W.Frag) (OC KC : Addr) : Sp := fun vs H Q _ => ∃ (a tb b : Addr) (kv : V) (D : OD) (m : Nat) (cts : List Int) (seen : List Str) (i : Nat) (cd : CD), vs = [.ref a, .ref b, .str cd.nm] ∧ OrR K OC KC H a kv tb D ∧ ODOk D ∧ m < D.n ∧ cts.length = D.fs.length ∧ seen.length ≤ 6 ∧ Nk K H (plK m cts seen) (.ref b) ∧ D.cs[i]? = some cd ∧
  ∀ H' v, Same H H' → PbV K H' (placeB D m cts seen cd) v → Q v H'
section
variable {P : Program} {w : World} {K : PySem.W.Frag} {mg : Str → Option Value} {base : Heap} {OC KC : Addr}
theorem ok_plb {f : Addr} {fd : FuncData} (F : Fun K "place_behind" "Orders.place_behind" s_Orders_place_behind f fd) (T : Txt K mg) (Cs : MCst mg) (Z : OCls K OC) (ZK : KCls K KC) (m_keeps_rules : Met P w K mg base 1 OC "keeps_rules" (spKeeps K OC KC) []) (m_contents_behind : Met P w K mg base 3 OC "contents_behind" (spCont32 K OC KC) []) : FnOk P w K mg base CX0 4 f fd ["self", "place", "name"] (spPlB K OC KC) := by
  refine F.ok sc_Orders_place_behind (fun vs H Q E h => ?_) (fun cdv A outer sh H vs Q E hr h => ?_)
  · obtain ⟨a, tb, b, kv, D, m, cts, seen, i, cd, rfl, _⟩ := h
    rfl
  · obtain ⟨a, tb, b, kv, D, m, cts, seen, i, cd, rfl, R, ok, hm, lc, ls, nk, hcd, k⟩ := h
    refine ⟨_, (pss_cons (ps_asg (pv 1) (pg_tup (by rfl) (pgs_cons (pg_name (i := 3) sc_Orders_place_behind.nd rfl (Or.inl rfl)) (pgs_cons (pg_name (i := 4) sc_Orders_place_behind.nd rfl (Or.inl rfl)) (pgs_cons (pg_name (i := 5) sc_Orders_place_behind.nd rfl (Or.inr rfl)) pgs_nil)))))
(pss_cons (ps_set (i := 6) sc_Orders_place_behind.nd rfl (Or.inl rfl) (pe_dget (hu_of hr) (pe_fld (pe_fld (pv 0) rfl) rfl) (pv 2) (fun _ _ => rfl)))
(pss_cons (ps_set (i := 3) sc_Orders_place_behind.nd rfl (Or.inl rfl) (pe_ix ix_tup (pe_ix ix_tup (pv 6) pe_int (fun _ _ => rfl)) (pv 3) (fun _ _ => rfl)))
(pss_cons (ps_if (pt_cut (PW.pt (pw_or (pt_cmpR op_eq (pv 3) (pe_un un_neg pe_int) (nomark _)) (pw_or1 (pt_not (pt_val (pe_mt m_keeps_rules hr (by decide) (pv 0) (pa_cons (pv 2) (pa_cons (pv 5) pa_nil)))))))))
(pss_one (ps_ret pe_non))
pss_nil)
(pss_cons (ps_set (i := 4) sc_Orders_place_behind.nd rfl (Or.inl rfl) (pe_mt m_contents_behind hr (by decide) (pv 0) (pa_cons (pv 6) (pa_cons (pv 4) pa_nil))))
(pss_cons (ps_if (pt_cmpR op_eq (pe_ix ix_tup (pv 6) pe_int (fun _ _ => rfl)) pe_str (nomark _))
(pss_cons (ps_set (i := 9) sc_Orders_place_behind.nd rfl (Or.inl rfl) (pe_callB (cr_any rfl) (by rfl) T.any (by decide +kernel) (pa_cons (pe_lc (own := [("content", 7), ("need", 8)]) (g := (gTup K 2 (gCons (gName 7) (gCons (gName 8) gNil)))) (tt := tYes) rfl sc_Orders_place_behind.nd (pi_zipTL (by rfl) T.zip (pa_cons (pv 4) (pa_cons (pe_fld (pv 0) rfl) pa_nil))) (blkOk_by (own := [("content", 7), ("need", 8)]) (N := ["self", "place", "name", "mode", "contents", "seen", "call", "content", "need", "lacks", "other"]) (sc := defScope s_Orders_place_behind) (by decide +kernel)) (fun _ _ _ _ _ => (pg_tup (by rfl) (pgs_cons (pg_name (i := 7) sc_Orders_place_behind.nd rfl (Or.inl rfl)) (pgs_cons (pg_name (i := 8) sc_Orders_place_behind.nd rfl (Or.inl rfl)) pgs_nil)))) (fun _ _ _ _ _ => pts_nil) (fun _ _ _ _ _ => (pe_cut (pe_and (pv 8) (pe_one (pe_cmpR op_eq (pv 7) pe_int (nomark _))))))) pa_nil)))
(pss_one (ps_ret (pe_cut (pe_ifExp (pt_val (pv 9)) pe_non (pe_cst rfl Cs.DONE))))))
pss_nil)
(pss_one (ps_ret (pe_tup (pa_cons (pv 3) (pa_cons (pv 4) (pa_cons (pe_callTy call_tuple_of (by rfl) T.tuple (by decide +kernel) (pa_cons (pe_lc (own := [("other", 10)]) (g := (gName 10)) rfl sc_Orders_place_behind.nd (pi_list (pe_fld (pv 0) rfl)) (blkOk_by (own := [("other", 10)]) (N := ["self", "place", "name", "mode", "contents", "seen", "call", "content", "need", "lacks", "other"]) (sc := defScope s_Orders_place_behind) (by decide +kernel)) (fun _ _ _ _ _ => (pg_name (i := 10) sc_Orders_place_behind.nd rfl (Or.inl rfl))) (fun _ _ _ _ _ => (pts_one (pt_cut (PW.pt (pw_or (pt_cmpR op_eq (pv 10) (pv 2) (nomark _)) (pw_or1 (pt_cmpR (op_in_seqK (K := K) rfl) (pv 10) (pv 5) (by rfl)))))))) (fun _ _ _ _ _ => (pv 10))) pa_nil)) pa_nil)))))))))))), ?_⟩
    obtain ⟨b', p, q, eb, t1, t2, t3⟩ := nk_pl nk
    cases eb
    obtain ⟨dx, nd, wa, ba, co, h1, ⟨x, kx, fl, t, tv, sv, rfl, k2, k3, k4, k5, k6, k7, k8⟩, h3, h4, h5, h6⟩ := id R
    obtain ⟨cv, hcv, hcT⟩ := k7.get' hcd
    obtain ⟨mv, dv, sv5, ds, ⟨t5, rfl, c1⟩, ⟨tm, rfl, c2⟩, c3, c4, c5⟩ := id hcT
    have mcd := List.mem_of_getElem? hcd
    have co1 := ok.kd.calls cd mcd
    have lm : m < cd.moves.length := by rw [co1.len]; exact hm
    have em : cd.moves.getD m (-1) = cd.moves[m] := by rw [List.getD_eq_getElem?_getD, List.getElem?_eq_getElem lm]; rfl
    have hat : atI (cd.moves.map V.int) ((m : Nat) : Int) = some (.int (cd.moves.getD m (-1))) := atI_nat (by rw [List.getElem?_map, List.getElem?_eq_getElem lm, em]; rfl)
    have fl3 : D.fs.length ≤ 3 := ok.kd.fields.le
    refine ⟨_, rfl, b, _, rfl, t1, rfl, _, _, rfl, _, _, rfl, _, _, rfl, rfl, ?_⟩
    refine ⟨_, rfl, a, OC, dx, _, .ref x, rfl, h1, Z.cls, Z.kind, rfl, x, KC, kx, fl, .ref tb, rfl, k2, ZK.cls, ZK.table, k4, _, rfl, tb, .ref t5, rfl, table_valO ok.kd k7 hcd hcv ▸ DGet.rk (k := .inr cd.nm) k8, ?_⟩
    refine ⟨_, rfl, t5, _, 2, .ref tm, rfl, rfl, c1, rfl, _, rfl, tm, _, (m : Int), .int (cd.moves.getD m (-1)), rfl, rfl, c2, hat, ?_⟩
    generalize hM : cd.moves.getD m (-1) = M
    refine ⟨fun bb H' => bb = (decide (M = -1) || !keepsB D.rs cd.nm seen) ∧ Same H H', ?_, ?_⟩
    · refine ⟨_, rfl, 1, rfl, rfl, _, rfl, ite2 (fun g => ?_) (fun g => ?_)⟩
      · have : M = -1 := by simpa using g
        exact ⟨by rw [decide_eq_true this]; rfl, Same.refl H⟩
      · have : M ≠ -1 := by simpa using g
        rw [decide_eq_false this, Bool.false_or]
        exact ⟨_, rfl, a, dx, _, rfl, h1, rfl, _, rfl, _, rfl, a, tb, q, .ref x, D, cd.nm, seen, rfl, R, ok.rs, List.mem_map_of_mem mcd, t3, fun H2 e2 => ⟨_, rfl, rfl, e2⟩⟩
    rintro _ H2 ⟨rfl, e2⟩
    have R2 := R.km (Km.of e2)
    have m2 := Km.of e2
    refine ite2 (fun g => ?_) (fun g => ?_)
    · have e : placeB D m cts seen cd = none := by
        unfold placeB
        rw [if_pos]
        rw [hM]
        rw [Bool.or_eq_true, decide_eq_true_iff] at g
        exact g.imp id fun z => by simpa using z
      refine k H2 .non e2 ?_
      rw [e]
      exact rfl
    · have ng : ¬ (cd.moves.getD m (-1) = -1 ∨ keepsB D.rs cd.nm seen = false) := fun z => g (by
        rw [hM] at z
        rcases z with z | z
        · rw [decide_eq_true z]
          rfl
        · rw [z, Bool.or_eq_true]
          exact .inr rfl)
      refine ⟨_, rfl, a, dx, _, rfl, m2.2 _ _ _ _ h1, rfl, _, rfl, _, rfl, a, tb, p, .ref x, .ref t5, D, cd, cts, rfl, R2, fl3, hcT.keep e2, same_t e2 t2, lc, fun H3 r e3 hr3 => ?_⟩
      have e03 := e2.trans e3
      have m3 := Km.of e03
      have lcb := contB_len (cd := cd) lc
      refine ⟨_, rfl, t5, _, 1, .str cd.hand, rfl, rfl, same_t e03 c1, rfl, rfl, _, rfl, ite2 (fun g2 => ?_) (fun g2 => ?_)⟩
      · have hl : cd.hand = Str.ofString "last" := by simpa using g2
        have lz : ((contB D.fs cd cts).map V.int).length = D.fs.length := by rw [List.length_map]; exact lcb
        refine ⟨_, rfl, _, rfl, a, OC, dx, _, .ref nd, rfl, m3.2 _ _ _ _ h1, Z.cls, Z.needed, rfl, r, nd, _, _, rfl, hr3, .inl (m3.1 _ _ h3), fun L hL => ?_⟩
        refine lc_it (walk_zipTL (K := K) (a := r) (b := nd) (n := D.fs.length) lz (List.length_map ..)) (fun j H4 => Same H3 H4 ∧ H4 L = some (.lst ((((contB D.fs cd cts).zip (D.fs.map (·.need))).take j).map fun p => V.bl (p.2 && decide (p.1 = 0))))) ⟨same_new (Same.refl H3) hL, upd_same⟩ (fun j H4 _ h => ⟨same_t h.1 hr3, .inl ((Km.of (e03.trans h.1)).1 _ _ h3)⟩) ?_ ?_
        · rintro j _ H4 _ hj ⟨e4, l4⟩ ⟨T, u, v, rfl, hT, rfl, hu, hv⟩
          have hu : ((contB D.fs cd cts).map V.int)[j]? = some u := hu
          have hv : (D.fs.map fun f => V.bl f.need)[j]? = some v := hv
          rw [List.getElem?_map] at hu hv
          obtain ⟨c, hc0, rfl⟩ := Option.map_eq_some_iff.mp hu
          obtain ⟨fd0, hf0, rfl⟩ := Option.map_eq_some_iff.mp hv
          have eT := same_new (o := .tup [.int c, .bl fd0.need]) (Same.refl H4) hT
          have l5 := eT _ _ l4
          have tT : SqT K (upd H4 T (.tup [.int c, .bl fd0.need])) T [.int c, .bl fd0.need] := SqT.of upd_same
          generalize upd H4 T (.tup [.int c, .bl fd0.need]) = H5 at eT l5 tT ⊢
          refine ⟨T, _, rfl, tT, rfl, _, _, rfl, _, _, rfl, rfl, rfl, ?_⟩
          refine ⟨fun v H' => v = .bl (fd0.need && decide (c = 0)) ∧ H' = H5, ?_, ?_⟩
          · refine ⟨_, rfl, fd0.need, rfl, ?_⟩
            cases fd0.need with
            | true => exact ⟨_, rfl, rfl, by rw [Bool.true_and]; exact congrArg V.bl (decide_eq_decide.mpr ⟨fun e => V.int.inj e, fun e => by rw [e]⟩), rfl⟩
            | false => exact ⟨rfl, rfl⟩
          · rintro _ _ ⟨rfl, rfl⟩
            refine ⟨_, l5, ?_, fun c o hc => (upd_ne (fun z => by rw [z, hL] at hc; cases hc)).trans (eT _ _ (e4 _ _ hc)), ?_⟩
            · rw [List.length_map, List.length_take, List.length_zip, List.length_map]
              show _ < 2 ^ 24
              omega
            · rw [upd_same, List.take_succ, List.getElem?_zip_eq_some.mpr (show (contB D.fs cd cts)[j]? = some (c, fd0.need).1 ∧ (D.fs.map (·.need))[j]? = some (c, fd0.need).2 from ⟨hc0, by rw [List.getElem?_map, hf0]; rfl⟩), List.map_append]
              rfl
        · rintro H4 ⟨e4, l4⟩
          have lzz : D.fs.length = ((contB D.fs cd cts).zip (D.fs.map (·.need))).length := by rw [List.length_zip, List.length_map, lcb, Nat.min_self]
          rw [lzz, List.take_length] at l4
          refine ⟨L, ((contB D.fs cd cts).zip (D.fs.map (·.need))).map fun p => p.2 && decide (p.1 = 0), rfl, SqL.of (by rw [List.map_map]; exact l4), ?_⟩
          rw [List.any_map]
          have ep : placeB D m cts seen cd = if lacksC D.fs (contB D.fs cd cts) then none else some dn := by
            unfold placeB
            rw [if_neg ng, if_pos hl]
          refine ⟨fun v H' => PbV K H4 (placeB D m cts seen cd) v ∧ H' = H4, ?_, fun v H' e => by rw [e.2]; exact k _ v (e03.trans e4) e.1⟩
          have hlk : (((contB D.fs cd cts).zip (D.fs.map (·.need))).any (id ∘ fun p => p.2 && decide (p.1 = 0))) = lacksC D.fs (contB D.fs cd cts) := rfl
          rw [ep]
          refine ⟨_, rfl, lacksC D.fs (contB D.fs cd cts), rfl, ?_⟩
          cases lacksC D.fs (contB D.fs cd cts) with
          | true => exact ⟨rfl, rfl⟩
          | false => exact ⟨.int _, rfl⟩
      · have hl : cd.hand ≠ Str.ofString "last" := by simpa using g2
        refine ⟨_, rfl, _, rfl, _, rfl, a, OC, dx, _, .ref co, rfl, m3.2 _ _ _ _ h1, Z.cls, Z.counted, rfl, co, rfl, ⟨_, .inl (m3.1 _ _ h6)⟩, fun L hL => ?_⟩
        have lco : (countL D.cs D.rs).length ≤ 6 := by
          have h1 := List.length_filter_le (fun z => decide (z ∈ D.rs.map (·.a))) (D.cs.map (·.nm))
          rw [List.length_map] at h1
          exact Nat.le_trans h1 ok.kd.cle
        refine lc_it (walk_list (K := K) (a := co) (xs := (countL D.cs D.rs).map V.str)) (fun j H4 => Same H3 H4 ∧ H4 L = some (.lst ((((countL D.cs D.rs).take j).filter fun o => decide (o = cd.nm) || decide (o ∈ seen)).map V.str))) ⟨same_new (Same.refl H3) hL, upd_same⟩ (fun j H4 _ h => .inl ((Km.of (e03.trans h.1)).1 _ _ h6)) ?_ ?_
        · rintro j x H5 H4 hj ⟨e4, l4⟩ ⟨rfl, hx⟩
          rw [List.getElem?_map] at hx
          obtain ⟨y, hy, rfl⟩ := Option.map_eq_some_iff.mp hx
          have fe := filter_next (f := fun o => decide (o = cd.nm) || decide (o ∈ seen)) hy
          refine ⟨rfl, fun bb H' => bb = (decide (y = cd.nm) || decide (y ∈ seen)) ∧ H' = H4, ?_, ?_⟩
          · refine ⟨_, rfl, _, rfl, rfl, _, rfl, ite2 (fun g => ?_) (fun g => ?_)⟩
            · have : y = cd.nm := by simpa using g
              exact ⟨by rw [decide_eq_true this]; rfl, rfl⟩
            · have : y ≠ cd.nm := by simpa using g
              rw [decide_eq_false this, Bool.false_or]
              refine ⟨_, rfl, _, rfl, q, _, rfl, .inr (same_t (e03.trans e4) t3), rfl, flat_strs seen, ?_⟩
              rw [inV_strs]
              exact ⟨_, rfl, rfl, rfl⟩
          · rintro _ H4 ⟨rfl, rfl⟩
            refine ite2 (fun g => ?_) (fun g => ?_)
            · refine ⟨_, rfl, _, l4, ?_, fun c o hc => (upd_ne (fun z => by rw [z, hL] at hc; cases hc)).trans (e4 _ _ hc), ?_⟩
              · have h2 := List.length_filter_le (fun o => decide (o = cd.nm) || decide (o ∈ seen)) ((countL D.cs D.rs).take j)
                rw [List.length_take] at h2
                rw [List.length_map]
                show _ < 2 ^ 24
                omega
              · rw [upd_same, fe, if_pos g, List.map_append]
                rfl
            · refine ⟨e4, ?_⟩
              rw [fe, if_neg g, List.append_nil]
              exact l4
        · rintro H4 ⟨e4, l4⟩
          rw [List.length_map, List.take_length] at l4
          refine ⟨L, _, rfl, .inl ⟨SqL.of l4, fun r2 hr2 => ⟨by show 3 ≤ sizeLine; decide, fun T hT => ?_⟩⟩⟩
          have e5 := same_new (o := .tup (((countL D.cs D.rs).filter fun o => decide (o = cd.nm) || decide (o ∈ seen)).map V.str)) e4 hr2
          have q5 : SqT K (upd H4 r2 (.tup (((countL D.cs D.rs).filter fun o => decide (o = cd.nm) || decide (o ∈ seen)).map V.str))) r2 (((countL D.cs D.rs).filter fun o => decide (o = cd.nm) || decide (o ∈ seen)).map V.str) := SqT.of upd_same
          generalize upd H4 r2 (.tup (((countL D.cs D.rs).filter fun o => decide (o = cd.nm) || decide (o ∈ seen)).map V.str)) = H5 at e5 q5 hT ⊢
          have e6 := same_new (o := .tup [.int M, .ref r, .ref r2]) (Same.refl H5) hT
          refine k _ (.ref T) ((e03.trans e5).trans e6) ?_
          have ep : placeB D m cts seen cd = some (plK M (contB D.fs cd cts) ((countL D.cs D.rs).filter fun o => decide (o = cd.nm) || decide (o ∈ seen))) := by
            unfold placeB
            rw [if_neg ng, if_neg hl, hM]
          rw [ep]
          exact pl_nk (p := r) (q := r2) (SqT.of upd_same) (same_t (e5.trans e6) hr3) (same_t e6 q5)
end
end MK
set_option Elab.async false
set_option linter.all false
set_option autoImplicit false
set_option maxRecDepth 100000
set_option maxHeartbeats 4000000
namespace MK
open PySem PySem.Spec PyProof.Rows L2
open C8 (Met pe_mt pe_mt0 Mak pe_mk)
local macro_rules | `(tactic| walk_at "x") => `(tactic| dsimp only [tSeq, tAsg, tRet, tDrop, tLst, tTup, tCons, tOp, tUn, tIfS])
theorem sc_Orders_ways : FnScope ["self", "place", "name", "found", "reached"] ["self", "place"] (defScope s_Orders_ways) := ⟨rfl, rfl, rfl, by decide +kernel, rfl, by decide +kernel, by decide +kernel⟩
def ordT (K : PySem.W.Frag) (OC KC : Addr) : WalkT where
  D := OD
  I := fun D H a => ∃ kv tb, OrR K OC KC H a kv tb D ∧ ODOk D ∧ ∃ kvs, H tb = some (.dK kvs)
  W := waysO
  st := startO
  U := allO
theorem ordG (K : PySem.W.Frag) (OC KC : Addr) : WalkG (ordT K OC KC) OC where
  keep := fun d H H' a e ⟨kv, tb, R, ok, kvs, h⟩ => ⟨kv, tb, R.km (Km.of e), ok, kvs, e _ _ h⟩
  cls := fun d H a ⟨kv, tb, R, _⟩ => let ⟨dx, _, _, _, _, h, _⟩ := R; ⟨dx, _, h, rfl, rfl⟩
  ok := fun d H a ⟨_, _, _, ok, _⟩ => walkO ok
/-- a pair of a name and what is behind the call -/
def PrV (K : PySem.W.Frag) (H : Hp) (D : OD) (m : Nat) (cts : List Int) (seen : List Str) (x : V) (cd : CD) : Prop := ∃ T v, x = .ref T ∧ SqT K H T [.str cd.nm, v] ∧ PbV K H (placeB D m cts seen cd) v
theorem PbV.tk {K : PySem.W.Frag} {H H' : Hp} {r : Option Pl} {v : V} (t : Tk H H') (h : PbV K H r v) : PbV K H' r v := by
  cases r with
  | none => exact h
  | some p => exact Nk.tk t h
section
variable {P : Program} {w : World} {K : PySem.W.Frag} {mg : Str → Option Value} {base : Heap} {OC KC fi : Addr} {fdi : FuncData}
theorem ok_startT {f : Addr} {fd : FuncData} (F : Fun K "start" "Orders.start" s_Orders_start f fd) (T : Txt K mg) (Z : OCls K OC) : FnOk P w K mg base CX0 1 f fd ["self"] (spStart K (ordT K OC KC)) := by
  have h := ok_start (P := P) (w := w) (base := base) (KC := KC) F T Z
  have imp : ∀ vs H Q E, spStart K (ordT K OC KC) vs H Q E → spStartO K OC KC vs H Q E := fun vs H Q E ⟨D, a, e, ⟨kv, tb, R, ok, _⟩, k⟩ => ⟨a, tb, kv, D, e, R, ok.kd.fields.le, k⟩
  exact h.imp imp
theorem ok_ways {f : Addr} {fd : FuncData} (F : Fun K "ways" "Orders.ways" s_Orders_ways f fd) (T : Txt K mg) (Z : OCls K OC) (ZK : KCls K KC) (H_iter : FnS P w K mg base 1 fi fdi ["self"] (spIter KC "table") ∧ PySem.W.findIn K (.ref KC) "__iter__" = some (some (.ref fi)) ∧ PySem.W.isFn K (.ref fi) = true ∧ Binds K fdi ["self"] []) (m_place_behind : Met P w K mg base 4 OC "place_behind" (spPlB K OC KC) []) : FnOk P w K mg base CX0 5 f fd ["self", "place"] (spWays K (ordT K OC KC)) := by
  refine F.ok sc_Orders_ways (fun vs H Q E h => ?_) (fun cdv A outer sh H vs Q E hr h => ?_)
  · obtain ⟨D, a, b, k, rfl, _⟩ := h
    rfl
  · obtain ⟨D, a, b, kk, rfl, ⟨kv, tb, R, ok, kvs, htb⟩, hk, nk, k⟩ := h
    obtain ⟨m, cts, seen, hm, hc, hs, rfl⟩ := mem_allO.mp hk
    refine ⟨_, (pss_cons (ps_lock (ps_setLc (i := 3) (own := [("name", 2)]) (g := (gName 2)) (tt := tYes) rfl sc_Orders_ways.nd rfl rfl (sw_true rfl rfl rfl (by decide +kernel)) (pi_own (pe_fld (pv 0) rfl) H_iter.1 H_iter.2.1 H_iter.2.2.1 H_iter.2.2.2 (hr.mono (by decide))) (blkOk_by (own := [("name", 2)]) (N := ["self", "place", "name", "found", "reached"]) (sc := defScope s_Orders_ways) (by decide +kernel)) (fun _ _ _ _ _ => (pg_name (i := 2) sc_Orders_ways.nd rfl (Or.inl rfl))) (fun _ _ _ _ _ => pts_nil) (fun _ _ _ _ _ => (pe_tup (pa_cons (pv 2) (pa_cons (pe_mt m_place_behind hr (by decide) (pv 0) (pa_cons (pv 1) (pa_cons (pv 2) pa_nil))) pa_nil))))))
(pss_one (ps_ret (pe_lc (own := [("name", 2), ("reached", 4)]) (g := (gTup K 2 (gCons (gName 2) (gCons (gName 4) gNil)))) rfl sc_Orders_ways.nd (pi_list (pv 3)) (blkOk_by (own := [("name", 2), ("reached", 4)]) (N := ["self", "place", "name", "found", "reached"]) (sc := defScope s_Orders_ways) (by decide +kernel)) (fun _ _ _ _ _ => (pg_tup (by rfl) (pgs_cons (pg_name (i := 2) sc_Orders_ways.nd rfl (Or.inl rfl)) (pgs_cons (pg_name (i := 4) sc_Orders_ways.nd rfl (Or.inl rfl)) pgs_nil)))) (fun _ _ _ _ _ => (pts_one (pt_cmpR op_notN (pv 4) pe_non (nomark _)))) (fun _ _ _ _ _ => (pe_tup (pa_cons (pv 2) (pa_cons (pv 4) pa_nil)))))))), ?_⟩
    obtain ⟨dx, nd, wa, ba, co, h1, ⟨x, kx, fl, tt, tv, sv, rfl, k2, k3, k4, k5, k6, k7, k8⟩, h3, h4, h5, h6⟩ := id R
    obtain rfl : kvs = tableV D.cs sv := by
      rcases k8 with r | ⟨o, r⟩
      · rw [htb] at r
        cases r
        rfl
      · rw [htb] at r
        cases r
    obtain ⟨lc, _⟩ := bits_of hc
    have lco : (countL D.cs D.rs).length ≤ 6 := by
      have h1 := List.length_filter_le (fun z => decide (z ∈ D.rs.map (·.a))) (D.cs.map (·.nm))
      rw [List.length_map] at h1
      exact Nat.le_trans h1 ok.kd.cle
    have ls := Nat.le_trans (subs_le hs) lco
    have c6 := ok.kd.cle
    refine ⟨tb, _, htb, trivial, fun od => ?_⟩
    have mL : Km H (upd H tb (.frz od (.dK (tableV D.cs sv)))) := Km.lock htb
    have hL : upd H tb (.frz od (.dK (tableV D.cs sv))) tb = some (.frz od (.dK (tableV D.cs sv))) := upd_same
    have oL : ∀ {c : Addr}, c ≠ tb → upd H tb (.frz od (.dK (tableV D.cs sv))) c = H c := fun n => upd_ne n
    have tkL : Tk H (upd H tb (.frz od (.dK (tableV D.cs sv)))) := Tk.upd (NoT.dk htb)
    show tAsg _ _ _ _ (upd H tb (.frz od (.dK (tableV D.cs sv))))
    generalize upd H tb (.frz od (.dK (tableV D.cs sv))) = HL at mL hL oL tkL ⊢
    have RL := R.km mL
    refine ⟨_, rfl, a, OC, dx, _, .ref x, rfl, mL.2 _ _ _ _ h1, Z.cls, Z.kind, rfl, x, kx, tb, fl, od, _, rfl, mL.2 _ _ _ _ k2, k4, hL, fun L hLn => ?_⟩
    have Ltb : L ≠ tb := fun e => by rw [e, hL] at hLn; cases hLn
    have lkv : (tableV D.cs sv).length = D.cs.length := by
      unfold tableV
      rw [List.length_zipWith, k7.1, Nat.min_self]
    refine lc_it (walk_keys (d := tb) (o := od) (kvs := tableV D.cs sv)) (fun i H2 => Same HL H2 ∧ ∃ zs, H2 L = some (.lst zs) ∧ Al (PrV K H2 D m cts seen) zs (D.cs.take i)) ⟨same_new (Same.refl HL) hLn, [], upd_same, rfl, fun i x y h => by simp at h⟩ (fun i H2 _ h => h.1 _ _ hL) ?_ ?_
    · rintro i _ H2 H3 hi ⟨e2, zs, l2, al⟩ ⟨rfl, ky, v0, hkv, rfl⟩
      rw [lkv] at hi
      have hcd : D.cs[i]? = some D.cs[i] := List.getElem?_eq_getElem hi
      generalize D.cs[i] = cd at hcd
      obtain ⟨cv, hcv, _⟩ := k7.get' hcd
      rw [table_at hcd hcv] at hkv
      cases hkv
      have R2 := RL.km (Km.of e2)
      refine ⟨rfl, _, rfl, _, rfl, a, dx, _, rfl, e2 _ _ (mL.2 _ _ _ _ h1), rfl, _, rfl, _, rfl, a, tb, b, .ref x, D, m, cts, seen, i, cd, rfl, R2, ok, hm, lc, ls, (nk.tk tkL).keep e2, hcd, fun H4 v e4 pv => ⟨by show 2 ≤ sizeLine; decide, fun T hT => ?_⟩⟩
      have e5 := same_new (o := .tup [.str cd.nm, v]) e4 hT
      have l5 := e5 _ _ l2
      have tk6 : Tk (upd H4 T (.tup [.str cd.nm, v])) (upd (upd H4 T (.tup [.str cd.nm, v])) L (.lst (zs ++ [.ref T]))) := Tk.upd (NoT.lst l5)
      refine ⟨zs, l5, ?_, fun c o hc => (upd_ne (fun z => by rw [z, hLn] at hc; cases hc)).trans (e5 _ _ (e2 _ _ hc)), _, upd_same, ?_⟩
      · have := al.1
        rw [List.length_take] at this
        show _ < 2 ^ 24
        omega
      · rw [take_next' hcd]
        refine (al.mono fun _ _ ⟨T', v', q1, q2, q3⟩ => ⟨T', v', q1, tk6.sqt (same_t e5 q2), (q3.tk (Tk.of e5)).tk tk6⟩).snoc ⟨T, v, rfl, tk6.sqt (SqT.of upd_same), (pv.tk (Tk.of (same_new (Same.refl H4) hT))).tk tk6⟩
    · rintro H2 ⟨e2, zs, l2, al⟩
      rw [lkv, List.take_length] at al
      refine ⟨e2 _ _ hL, ?_⟩
      have e0 : Same H (upd H2 tb (.dK (tableV D.cs sv))) := fun c o hc => by
        by_cases e : c = tb
        · subst e
          rw [upd_same, ← hc, htb]
        · exact (upd_ne e).trans (e2 _ _ ((oL e).trans hc))
      have ntb : NoT H2 tb := fun ys r => by
        have := e2 _ _ hL
        rcases r with r | ⟨o, r⟩ <;> rw [this] at r <;> cases r
      have tkU : Tk H2 (upd H2 tb (.dK (tableV D.cs sv))) := Tk.upd ntb
      have lU : upd H2 tb (.dK (tableV D.cs sv)) L = some (.lst zs) := (upd_ne Ltb).trans l2
      have alU : Al (PrV K (upd H2 tb (.dK (tableV D.cs sv))) D m cts seen) zs D.cs := al.mono fun _ _ ⟨T', v', q1, q2, q3⟩ => ⟨T', v', q1, tkU.sqt q2, q3.tk tkU⟩
      have hL0 : H L = none := by
        rw [← oL Ltb]
        exact hLn
      generalize upd H2 tb (.dK (tableV D.cs sv)) = HU at e0 lU alU ⊢
      refine ⟨_, rfl, L, rfl, ⟨zs, SqL.of lU⟩, fun L2 hL2 => ?_⟩
      have hL20 := none_of e0 hL2
      refine lc_it (walk_list (K := K) (a := L) (xs := zs)) (fun j H4 => Same HU H4 ∧ ∃ ys, H4 L2 = some (.lst ys) ∧ Al (WyV K H4) ys ((D.cs.take j).filterMap fun cd => (placeB D m cts seen cd).map fun p => (cd.nm, p))) ⟨same_new (Same.refl HU) hL2, [], upd_same, rfl, fun i x y h => by simp at h⟩ (fun j H4 _ h => .inl (.inl (h.1 _ _ lU))) ?_ ?_
      · rintro j y H5 H4 hj ⟨e4, ys, l4, ay⟩ ⟨rfl, hy⟩
        obtain ⟨cd, hcd, T, v, rfl, hT, pv⟩ := alU.get hy
        have hT4 := same_t e4 hT
        have pv4 := pv.tk (Tk.of e4)
        have ef : (D.cs.take (j + 1)).filterMap (fun cd => (placeB D m cts seen cd).map fun p => (cd.nm, p)) = (D.cs.take j).filterMap (fun cd => (placeB D m cts seen cd).map fun p => (cd.nm, p)) ++ ((placeB D m cts seen cd).map fun p => (cd.nm, p)).toList := by
          rw [take_next' hcd, List.filterMap_append]
          simp only [List.filterMap_cons, List.filterMap_nil]
          cases placeB D m cts seen cd <;> rfl
        rw [ef]
        refine ⟨T, _, rfl, hT4, rfl, _, _, rfl, _, _, rfl, rfl, rfl, ?_⟩
        cases hpb : placeB D m cts seen cd with
        | none =>
          rw [hpb] at pv4
          obtain rfl : v = .non := pv4
          refine ⟨_, rfl, rfl, _, rfl, ite2 (fun g => by simp at g) (fun _ => ⟨e4, ys, l4, ?_⟩)⟩
          show Al _ ys (_ ++ [])
          rw [List.append_nil]
          exact ay
        | some p =>
          rw [hpb] at pv4
          have pv4 : Nk K H4 p v := pv4
          have nv : v ≠ .non := fun e => by
            have hp : p = dn ∨ p ∈ allO D := place_in ok hm hc (List.mem_of_getElem? hcd) hpb
            rcases hp with rfl | hp
            · rw [pv4.dn] at e
              cases e
            · obtain ⟨b', _, e', _⟩ := pv4.ref ((walkO ok).pl p hp)
              rw [e'] at e
              cases e
          refine ⟨_, rfl, rfl, _, rfl, ite2 (fun _ => ?_) (fun g => absurd (by simpa using nv) g)⟩
          refine ⟨_, rfl, _, rfl, by show 2 ≤ sizeLine; decide, fun T2 hT2 => ?_⟩
          have e5 := same_new (o := .tup [.str cd.nm, v]) (Same.refl H4) hT2
          have l5 := e5 _ _ l4
          have tk6 : Tk (upd H4 T2 (.tup [.str cd.nm, v])) (upd (upd H4 T2 (.tup [.str cd.nm, v])) L2 (.lst (ys ++ [.ref T2]))) := Tk.upd (NoT.lst l5)
          refine ⟨ys, l5, ?_, fun c o hc => (upd_ne (fun z => by rw [z, hL2] at hc; cases hc)).trans (e5 _ _ (e4 _ _ hc)), _, upd_same, ?_⟩
          · have := ay.1
            have h2 := List.length_filterMap_le (fun cd => (placeB D m cts seen cd).map fun p => (cd.nm, p)) (D.cs.take j)
            rw [List.length_take] at h2
            show _ < 2 ^ 24
            omega
          · exact (ay.mono fun _ _ h => (h.tk (Tk.of e5)).tk tk6).snoc ⟨T2, v, rfl, tk6.sqt (SqT.of upd_same), (pv4.tk (Tk.of e5)).tk tk6⟩
      · rintro H4 ⟨e4, ys, l4, ay⟩
        rw [alU.1, List.take_length] at ay
        refine k H4 L2 ys (e0.trans e4) hL20 l4 ?_
        exact (congrArg (Al (WyV K H4) ys) (waysO_pl D m cts seen)).mpr ay
end
end MK
set_option Elab.async false
set_option linter.all false
set_option autoImplicit false
set_option maxRecDepth 100000
set_option maxHeartbeats 4000000
namespace MK
open PySem PySem.Spec PyProof.Rows L2
local macro_rules | `(tactic| walk_at "x") => `(tactic| dsimp only [tSeq, tAsg, tRet, tDrop, tLst, tTup, tCons, tOp, tUn, tIfS])
theorem sc_Kind_contains : FnScope ["self", "x"] ["self", "x"] (defScope s_Kind_contains) := ⟨rfl, rfl, rfl, by decide +kernel, rfl, by decide +kernel, by decide +kernel⟩
theorem table_has {cs : List CD} {sv : List V} (l : sv.length = cs.length) (z : Str) : (valV (tableV cs sv) (.inr z)).isSome = decide (z ∈ cs.map (·.nm)) := by
  rw [← valV_any, Bool.eq_iff_iff, decide_eq_true_iff, List.any_eq_true]
  have keys : (tableV cs sv).map (·.1) = (cs.map (·.nm)).map (Sum.inr : Str → Key) := by
    unfold tableV
    rw [zip_keys2 _ (fun c => Sum.inr c.nm) (fun _ _ => rfl) _ _ l.symm, List.map_map]
    rfl
  constructor
  · rintro ⟨p, hp, e⟩
    have m : p.1 ∈ (tableV cs sv).map (·.1) := List.mem_map_of_mem hp
    rw [keys, of_decide_eq_true e] at m
    obtain ⟨y, hy, e⟩ := List.mem_map.mp m
    exact Sum.inr.inj e ▸ hy
  · intro m
    have m2 : (Sum.inr z : Key) ∈ (tableV cs sv).map (·.1) := by
      rw [keys]
      exact List.mem_map_of_mem m
    obtain ⟨p, hp, e⟩ := List.mem_map.mp m2
    exact ⟨p, hp, decide_eq_true e⟩
def spHas (K : PySem.W.Frag) (KC : Addr) : Sp := fun vs H Q _ => ∃ (v x : V) (fs : List FD) (n : Nat) (cs : List CD), vs = [v, x] ∧ KdA K KC H v fs n cs ∧ ((∃ z, x = .str z ∧ Q (.bl (decide (z ∈ cs.map (·.nm)))) H) ∨ (NoStr K H x ∧ Q (.bl false) H))
section
variable {P : Program} {w : World} {K : PySem.W.Frag} {mg : Str → Option Value} {base : Heap} {C : Cst} {KC : Addr}
theorem run_has (T : Txt K mg) (Z : KCls K KC) {f : Addr} {cdv : Value} {A : Around} {outer : List Env} {sh : Shared} {H : Hp} {vs : List V} {Q : VK} {E : XK} (hr : Room 0 (A.deeper (envOfC "Kind.__contains__" (defScope s_Kind_contains) sh.heap.objs.size f cdv))) (h : spHas K KC vs H Q E) :
    ∃ t, PSs (cxOf CX0 P w K mg base ["self", "x"] "Kind.__contains__" (defScope s_Kind_contains) f cdv A outer sh H E).nox (defBody s_Kind_contains) t ∧ t { nx := fun _ H' => Q .non H', rt := Q } (start ["self", "x"] vs) H := by
  obtain ⟨v, x, fs, n, cs, rfl, ⟨a, dx, so, sp, tb, t, st, tv, sv, rfl, h1, h2, h3, h4, h5, h6, h7, h8⟩, h⟩ := h
  refine ⟨_, (pss_one (ps_ret (pe_cut (pe_and (pe_callB call_isi (by rfl) T.isinstance (by decide +kernel) (pa_cons (pv 1) (pa_cons (pe_tyv (n := "str") (by rfl) T.str (by decide +kernel)) pa_nil))) (pe_one (pe_cmp (pc_din (hu_of hr) (pv 1) (pe_fld (pv 0) rfl)) rfl)))))), ?_⟩
  rcases h with ⟨z, rfl, q⟩ | ⟨⟨t, ty, kt⟩, q⟩
  · refine ⟨fun v H2 => v = .bl (decide (z ∈ cs.map (·.nm))) ∧ H2 = H, ?_, fun v H2 e => by rw [e.1, e.2]; exact q⟩
    refine ⟨_, rfl, _, _, _, _, true, rfl, .ty _, .base (.str z), kit_ty (by decide +kernel), true, rfl, iteT ?_⟩
    refine ⟨_, rfl, _, rfl, a, KC, dx, _, .ref tb, rfl, h1, Z.cls, Z.table, rfl, tb, _, rfl, DGet.k (k := .inr z) h8, ?_, rfl⟩
    rw [table_has h7.1]
  · refine ⟨fun v H2 => v = .bl false ∧ H2 = H, ?_, fun v H2 e => by rw [e.1, e.2]; exact q⟩
    exact ⟨_, rfl, _, _, _, _, false, rfl, .ty _, ty, kit_ty kt, false, rfl, iteF ⟨rfl, rfl⟩⟩
end
end MK
set_option Elab.async false
set_option linter.all false
set_option autoImplicit false
set_option maxRecDepth 100000
set_option maxHeartbeats 4000000
namespace MK
open PySem PySem.Spec PyProof.Rows L2
open C8 (Met pe_mt pe_mt0 Mak pe_mk)
local macro_rules | `(tactic| walk_at "x") => `(tactic| dsimp only [tSeq, tAsg, tRet, tDrop, tLst, tTup, tCons, tOp, tUn, tIfS])
theorem sc_is_rule : FnScope ["kind", "rule", "name"] ["kind", "rule"] (defScope s_is_rule) := ⟨rfl, rfl, rfl, by decide +kernel, rfl, by decide +kernel, by decide +kernel⟩
def nameD (cs : List CD) : Dt → Bool
  | .str z => decide (z ∈ cs.map (·.nm))
  | _ => false
def isS (z : Str) : Dt → Bool
  | .str y => decide (y = z)
  | _ => false
def txtD : Dt → Str
  | .str z => z
  | _ => Str.empty
/-- a rule for a kind of these calls -/
def ruleD (cs : List CD) (d : Dt) : Bool := match sqD d with
  | none => false
  | some xs => decide (2 ≤ xs.length) && (xs.drop 1).all (nameD cs) && (match xs with
    | x :: rest => if isS (Str.ofString "once") x then decide (rest.length = 1) else (isS (Str.ofString "ahead") x || isS (Str.ofString "bar") x) && decide (rest.length = 2) && (match rest with
      | [y, z] => !decide (txtD y = txtD z)
      | _ => false)
    | [] => false)
def FlatHd (d : Dt) : Prop := ∀ xs x, sqD d = some (x :: xs) → (∃ z, x = .str z) ∨ (∃ i, x = .int i) ∨ (∃ b, x = .bl b) ∨ x = .non
def spRuleX (K : PySem.W.Frag) (KC : Addr) : Sp := fun vs H Q _ => ∃ (kv rv : V) (fs : List FD) (n : Nat) (cs : List CD) (d : Dt), vs = [kv, rv] ∧ KdA K KC H kv fs n cs ∧ Sh K H rv d ∧ FlatHd d ∧ ∀ H', Same H H' → Q (.bl (ruleD cs d)) H'
theorem cut_one {vs : List V} (h : 2 ≤ vs.length) : cutV vs (some 1) none = vs.drop 1 := by
  have e : HT.sIx vs.length 0 (some 1) = min 1 vs.length := HT.sIx_nat _ _ 1
  unfold cutV
  rw [e, HT.sIx_none, Nat.min_eq_left (by omega)]
  exact List.take_of_length_le (by rw [List.length_drop]; omega)
theorem rd_slS {K : PySem.W.Frag} {H : Hp} {a : Addr} {xs : List V} {lo hi : Option Int} {Q : VK} (h : SqL K H a xs ∨ SqT K H a xs) (q : ∀ H' p, Same H H' → (SqL K H' p (cutV xs lo hi) ∨ SqT K H' p (cutV xs lo hi)) → Q (.ref p) H') : rSlL K (.ref a) lo hi H Q ∨ rSlA K (.ref a) lo hi H Q := by
  rcases h with h | h
  · exact .inl ⟨a, xs, rfl, h, fun p hp => q _ p (same_new (Same.refl H) hp) (.inl (SqL.of upd_same))⟩
  · refine .inr ⟨a, xs, rfl, h, fun hw => ?_, fun _ p hp => q _ p (same_new (Same.refl H) hp) (.inr (SqT.of upd_same))⟩
    have e : cutV xs lo hi = xs := by
      unfold cutV
      rw [hw.1, hw.2, List.drop_zero, Nat.sub_zero, List.take_length]
    exact q H a (Same.refl H) (.inr (by rw [e]; exact h))
theorem hdS {K : PySem.W.Frag} {H : Hp} {v : V} {x : Dt} (s : Sh K H v x) (f : (∃ z, x = .str z) ∨ (∃ i, x = .int i) ∨ (∃ b, x = .bl b) ∨ x = .non) (z : Str) : scal v (.str z) = true ∧ decide (v = .str z) = isS z x ∧ flatV v = true ∧ eqV (.str z) v = isS z x := by
  rcases f with ⟨y, rfl⟩ | ⟨y, rfl⟩ | ⟨y, rfl⟩ | rfl
  · obtain ⟨rfl, _⟩ := s.str'
    refine ⟨rfl, ?_, rfl, ?_⟩
    · exact decide_eq_decide.mpr ⟨fun e => V.str.inj e, fun e => by rw [e]⟩
    · show (z == y) = decide (y = z)
      rw [Bool.eq_iff_iff, decide_eq_true_iff, beq_iff_eq]
      exact ⟨Eq.symm, Eq.symm⟩
  · obtain rfl := s.int'
    exact ⟨rfl, decide_eq_false nofun, rfl, rfl⟩
  · obtain rfl := s.bl'
    exact ⟨rfl, decide_eq_false nofun, rfl, rfl⟩
  · cases s
    exact ⟨rfl, decide_eq_false nofun, rfl, rfl⟩
theorem rd_hasD {K : PySem.W.Frag} {KC : Addr} {H : Hp} {kv x : V} {fs : List FD} {n : Nat} {cs : List CD} {d : Dt} {Q : VK} {E : XK} (kd : KdA K KC H kv fs n cs) (s : Sh K H x d) (q : Q (.bl (nameD cs d)) H) : spHas K KC [kv, x] H Q E := by
  refine ⟨kv, x, fs, n, cs, rfl, kd, ?_⟩
  cases d with
  | str z =>
    obtain ⟨rfl, _⟩ := s.str'
    exact .inl ⟨z, rfl, q⟩
  | non => exact .inr ⟨let ⟨t, a, b, _⟩ := s.ty; ⟨t, a, b⟩, q⟩
  | bl b => exact .inr ⟨let ⟨t, a, b, _⟩ := s.ty; ⟨t, a, b⟩, q⟩
  | int i => exact .inr ⟨let ⟨t, a, b, _⟩ := s.ty; ⟨t, a, b⟩, q⟩
  | lst l => exact .inr ⟨let ⟨t, a, b, _⟩ := s.ty; ⟨t, a, b⟩, q⟩
  | tup l => exact .inr ⟨let ⟨t, a, b, _⟩ := s.ty; ⟨t, a, b⟩, q⟩
  | dic => exact .inr ⟨let ⟨t, a, b, _⟩ := s.ty; ⟨t, a, b⟩, q⟩
section
variable {P : Program} {w : World} {K : PySem.W.Frag} {mg : Str → Option Value} {base : Heap} {C : Cst} {KC fh : Addr} {fdh : FuncData}
theorem ok_ruleX {f : Addr} {fd : FuncData} (F : DefX K mg "is_rule" s_is_rule ["kind", "rule"] f fd) (T : Txt K mg) (Z : KCls K KC) (c_is_list : Cal P w K mg base CX0 1 "is_list" (spListX K))
    (H_has : FnOk P w K mg base CX0 1 fh fdh ["self", "x"] (spHas K KC) ∧ PySem.W.findIn K (.ref KC) "__contains__" = some (some (.ref fh)) ∧ PySem.W.isFn K (.ref fh) = true ∧ Binds K fdh ["self", "x"] []) : Cal P w K mg base CX0 3 "is_rule" (spRuleX K KC) := by
  refine cal_mk F sc_is_rule (fun vs H Q E h => ?_) (fun cdv A outer sh H vs Q E hr h => ?_)
  · obtain ⟨kv, rv, _, _, _, _, rfl, _⟩ := h
    rfl
  · obtain ⟨kv, rv, fs, n, cs, d, rfl, kd, s, fh, q⟩ := h
    refine ⟨_, (pss_cons (ps_if (pt_cut (PW.pt (pw_or (pt_not (pt_val (pe_c c_is_list hr (by first | decide | assumption) rfl (pa_cons (pv 1) pa_nil)))) (pw_or (pt_cmpR op_lt (pe_callB call_len_seq (by rfl) T.len (by decide +kernel) (pa_cons (pv 1) pa_nil)) pe_int (nomark _)) (pw_or1 (pt_not (pt_val (pe_callB (cr_all rfl) (by rfl) T.all (by decide +kernel) (pa_cons (pe_lc (own := [("name", 2)]) (g := (gName 2)) (tt := tYes) rfl sc_is_rule.nd (pi_sqG (pe_slice (sl_sqA (K := K) rfl) (pv 1) (po_some pe_int) po_none)) (blkOk_by (own := [("name", 2)]) (N := ["kind", "rule", "name"]) (sc := defScope s_is_rule) (by decide +kernel)) (fun _ _ _ _ _ => (pg_name (i := 2) sc_is_rule.nd rfl (Or.inl rfl))) (fun _ _ _ _ _ => pts_nil) (fun _ _ _ _ _ => (pe_cmpR (op_inOwn H_has.1 H_has.2.1 H_has.2.2.1 H_has.2.2.2 (hr.mono (by decide))) (pv 2) (pv 0) (by rfl)))) pa_nil)))))))))
(pss_one (ps_ret pe_bl))
pss_nil)
(pss_cons (ps_if (pt_cmpR op_eq (pe_ix ix_seq (pv 1) pe_int (fun _ _ => rfl)) pe_str (nomark _))
(pss_one (ps_ret (pe_cmpR op_eq (pe_callB call_len_seq (by rfl) T.len (by decide +kernel) (pa_cons (pv 1) pa_nil)) pe_int (nomark _))))
pss_nil)
(pss_one (ps_ret (pe_cut (pe_and (pe_cmpR op_in_seq (pe_ix ix_seq (pv 1) pe_int (fun _ _ => rfl)) (pe_tup (pa_cons pe_str (pa_cons pe_str pa_nil))) (by rfl)) (pe_and (pe_cmpR op_eq (pe_callB call_len_seq (by rfl) T.len (by decide +kernel) (pa_cons (pv 1) pa_nil)) pe_int (nomark _)) (pe_one (pe_cmpR op_ne (pe_ix ix_seq (pv 1) pe_int (fun _ _ => rfl)) (pe_ix ix_seq (pv 1) pe_int (fun _ _ => rfl)) (nomark _)))))))))), ?_⟩
    cases hq : sqD d with
    | none =>
      have h0 : isSq d = false := by rw [isSq_iff, hq]; rfl
      have hf : ruleD cs d = false := by unfold ruleD; rw [hq]
      refine ⟨fun t H' => t = true ∧ Same H H', ⟨_, rfl, rv, d, rfl, s, fun H1 e1 => ⟨false, congrArg V.bl h0, iteT ⟨rfl, e1⟩⟩⟩, ?_⟩
      rintro _ H1 ⟨rfl, e1⟩
      refine iteT ?_
      rw [← hf]
      exact q _ e1
    | some xs =>
      have h0 : isSq d = true := by rw [isSq_iff, hq]; rfl
      obtain ⟨vs, ⟨ra, rfl, hs⟩, al, few⟩ := s.sq hq
      have lv := al.1
      refine ⟨fun t H' => t = !(decide (2 ≤ xs.length) && (xs.drop 1).all (nameD cs)) ∧ Same H H', ⟨_, rfl, .ref ra, d, rfl, s, fun H1 e1 => ⟨true, congrArg V.bl h0, iteF ?_⟩⟩, ?_⟩
      · refine ⟨_, rfl, ra, _, rfl, sq_at e1 hs, _, _, rfl, rfl, _, rfl, ite2 (fun g => ?_) (fun g => ?_)⟩
        · have : ¬ 2 ≤ xs.length := by
            have := of_decide_eq_true g
            omega
          exact ⟨by rw [decide_eq_false this]; rfl, e1⟩
        · have l2 : 2 ≤ xs.length := by
            have : ¬ ((vs.length : Nat) : Int) < 2 := fun h => g (decide_eq_true h)
            omega
          rw [decide_eq_true l2, Bool.true_and]
          obtain ⟨ka, kdx, so, sp, tb, kt, kst, ktv, ksv, rfl, k1, krest⟩ := id kd
          refine ⟨_, rfl, _, rfl, rd_slS (sq_at e1 hs) fun H2 p e2 hp => ?_⟩
          rw [cut_one (by omega)] at hp
          have e02 := e1.trans e2
          refine ⟨p, vs.drop 1, H2, rfl, hp, Same.refl H2, fun J GG wk gk L hL => ?_⟩
          refine lc_it wk (fun i H3 => Same H2 H3 ∧ H3 L = some (.lst (((xs.drop 1).take i).map fun x => V.bl (nameD cs x)))) ⟨same_new (Same.refl H2) hL, upd_same⟩ (fun i H3 _ h => gk _ h.1) ?_ ?_
          · rintro i x H3 H4 hi ⟨e3, l3⟩ ⟨rfl, hx⟩
            rw [List.length_drop] at hi
            rw [List.getElem?_drop] at hx
            obtain ⟨y, hy, sy⟩ := al.get hx
            have hy' : (xs.drop 1)[i]? = some y := by rw [List.getElem?_drop]; exact hy
            have e03 := e02.trans e3
            refine ⟨rfl, _, rfl, _, rfl, ka, kdx, _, rfl, e03 _ _ k1, rd_hasD (kd.keep e03) (sy.keep e03) ⟨_, rfl, _, l3, ?_, fun c o hc => (upd_ne (fun z => by rw [z, hL] at hc; cases hc)).trans (e3 _ _ hc), ?_⟩⟩
            · rw [List.length_map, List.length_take, List.length_drop]
              show _ < 2 ^ 24
              omega
            · rw [upd_same, List.take_succ, hy', List.map_append]
              rfl
          · rintro H3 ⟨e3, l3⟩
            rw [List.length_drop, lv, ← List.length_drop, List.take_length] at l3
            refine ⟨L, (xs.drop 1).map (nameD cs), rfl, SqL.of (by rw [List.map_map]; exact l3), _, rfl, ?_⟩
            rw [List.all_map]
            exact ⟨rfl, e02.trans e3⟩
      · rintro _ H1 ⟨rfl, e1⟩
        refine ite2 (fun g => ?_) (fun g => ?_)
        · have hf : ruleD cs d = false := by
            unfold ruleD
            rw [hq]
            show (decide (2 ≤ xs.length) && (xs.drop 1).all (nameD cs) && _) = false
            cases z : (decide (2 ≤ xs.length) && (xs.drop 1).all (nameD cs)) with
            | false => rfl
            | true =>
              rw [z] at g
              cases g
          have := q H1 e1
          rw [hf] at this
          exact this
        · have gt : (decide (2 ≤ xs.length) && (xs.drop 1).all (nameD cs)) = true := by
            cases z : (decide (2 ≤ xs.length) && (xs.drop 1).all (nameD cs)) with
            | true => rfl
            | false =>
              rw [z] at g
              exact absurd rfl g
          rw [Bool.and_eq_true, decide_eq_true_iff] at gt
          match xs, hq, al, lv, gt with
          | x :: y :: rest, hq, al, lv, gt =>
          have hx := fh _ _ hq
          have v0 : vs[0]? = some (vs[0]'(by rw [lv]; exact Nat.succ_pos _)) := List.getElem?_eq_getElem _
          have s0 := (al.2 0 _ x v0 rfl).keep e1
          generalize vs[0]'(by rw [lv]; exact Nat.succ_pos _) = u0 at v0 s0
          obtain ⟨c1, c2, c3, _⟩ := hdS s0 hx (Str.ofString "once")
          have hs1 := sq_at e1 hs
          refine ⟨_, rfl, ix_of (i := 0) hs1 v0 ⟨c1, _, rfl, ?_⟩⟩
          rw [c2]
          have lr : vs.length = rest.length + 2 := by rw [lv]; rfl
          have qq := q H1 e1
          refine ite2 (fun g1 => ?_) (fun g1 => ?_)
          · have hf : ruleD cs d = decide ((y :: rest).length = 1) := by
              unfold ruleD
              rw [hq]
              show (decide (2 ≤ (x :: y :: rest).length) && ((x :: y :: rest).drop 1).all (nameD cs) && (if isS (Str.ofString "once") x then decide ((y :: rest).length = 1) else _)) = _
              rw [decide_eq_true gt.1, gt.2, if_pos g1]
              rfl
            refine ⟨_, rfl, ra, _, rfl, hs1, rfl, ?_⟩
            rw [hf] at qq
            have ed : decide (V.int ((vs.length : Nat) : Int) = V.int 2) = decide ((y :: rest).length = 1) := decide_eq_decide.mpr ⟨fun e => by
              have := V.int.inj e
              rw [List.length_cons]
              omega, fun e => by
              rw [List.length_cons] at e
              congr 1
              omega⟩
            rw [ed]
            exact qq
          · obtain ⟨_, _, _, a4⟩ := hdS s0 hx (Str.ofString "ahead")
            obtain ⟨_, _, _, b4⟩ := hdS s0 hx (Str.ofString "bar")
            have hin : inV u0 [.str (Str.ofString "ahead"), .str (Str.ofString "bar")] = (isS (Str.ofString "ahead") x || isS (Str.ofString "bar") x) := by
              show (eqV (.str (Str.ofString "ahead")) u0 || (eqV (.str (Str.ofString "bar")) u0 || false)) = _
              rw [a4, b4, Bool.or_false]
            have hf : ruleD cs d = ((isS (Str.ofString "ahead") x || isS (Str.ofString "bar") x) && decide ((y :: rest).length = 2) && (match y :: rest with
              | [y, z] => !decide (txtD y = txtD z)
              | _ => false)) := by
              unfold ruleD
              rw [hq]
              show (decide (2 ≤ (x :: y :: rest).length) && ((x :: y :: rest).drop 1).all (nameD cs) && (if isS (Str.ofString "once") x then _ else _)) = _
              rw [decide_eq_true gt.1, gt.2, if_neg g1]
              rfl
            refine ⟨fun v H' => v = .bl (ruleD cs d) ∧ Same H1 H', ?_, fun v H' e => by rw [e.1]; exact q _ (e1.trans e.2)⟩
            rw [hf]
            refine ⟨_, rfl, ix_of (i := 0) hs1 v0 ⟨by show 2 ≤ sizeLine; decide, fun T hT => ⟨T, _, rfl, .inr (SqT.of upd_same), c3, rfl, _, rfl, ?_⟩⟩⟩
            have e2 := same_new (o := .tup [.str (Str.ofString "ahead"), .str (Str.ofString "bar")]) (Same.refl H1) hT
            have hs2 := sq_at e2 hs1
            generalize upd H1 T (.tup [.str (Str.ofString "ahead"), .str (Str.ofString "bar")]) = H2 at e2 hs2 ⊢
            show (if inV u0 [.str (Str.ofString "ahead"), .str (Str.ofString "bar")] = true then _ else _)
            rw [hin]
            refine ite2 (fun g2 => ?_) (fun g2 => ?_)
            · rw [g2, Bool.true_and]
              refine ⟨_, rfl, ra, _, rfl, hs2, rfl, _, rfl, ite2 (fun g3 => ?_) (fun g3 => ?_)⟩
              · have l3 : vs.length = 3 := by
                  have := V.int.inj (of_decide_eq_true g3)
                  omega
                match rest, hq, al, gt with
                | [z], hq, al, gt =>
                have v1 : vs[1]? = some (vs[1]'(by omega)) := List.getElem?_eq_getElem _
                have v2 : vs[2]? = some (vs[2]'(by omega)) := List.getElem?_eq_getElem _
                have s1 := al.2 1 _ y v1 rfl
                have s2 := al.2 2 _ z v2 rfl
                generalize vs[1]'(by omega) = u1 at v1 s1
                generalize vs[2]'(by omega) = u2 at v2 s2
                have ny : ∀ t : Dt, nameD cs t = true → ∃ q, t = .str q := fun t h => by
                  cases t with
                  | str q => exact ⟨q, rfl⟩
                  | _ => cases h
                have ga : (nameD cs y && (nameD cs z && true)) = true := gt.2
                rw [Bool.and_eq_true, Bool.and_eq_true] at ga
                obtain ⟨yy, rfl⟩ := ny y ga.1
                obtain ⟨zz, rfl⟩ := ny z ga.2.1
                obtain ⟨rfl, _⟩ := s1.str'
                obtain ⟨rfl, _⟩ := s2.str'
                refine ⟨_, rfl, ix_of (i := 1) hs2 v1 ⟨_, rfl, ix_of (i := 2) hs2 v2 ⟨rfl, congrArg V.bl ?_, e2⟩⟩⟩
                show (!decide (V.str yy = V.str zz)) = (decide ([Dt.str yy, Dt.str zz].length = 2) && !decide (yy = zz))
                rw [decide_eq_true (show [Dt.str yy, Dt.str zz].length = 2 from rfl), Bool.true_and]
                congr 1
                exact decide_eq_decide.mpr ⟨fun e => V.str.inj e, fun e => by rw [e]⟩
                | [], hq, al, gt => simp at lr; omega
                | _ :: _ :: _, hq, al, gt => simp at lr; omega
              · have : decide ((y :: rest).length = 2) = false := decide_eq_false fun e => g3 (decide_eq_true (by
                  rw [List.length_cons] at e
                  congr 1
                  omega))
                rw [this]
                exact ⟨rfl, e2⟩
            · have : (isS (Str.ofString "ahead") x || isS (Str.ofString "bar") x) = false := by
                cases z : (isS (Str.ofString "ahead") x || isS (Str.ofString "bar") x) with
                | false => rfl
                | true => exact absurd z g2
              rw [this]
              exact ⟨rfl, e2⟩
end
end MK
set_option Elab.async false
set_option linter.all false
set_option autoImplicit false
set_option maxRecDepth 100000
set_option maxHeartbeats 4000000
namespace MK
open PySem PySem.Spec PyProof.Rows L2
open C8 (Met pe_mt pe_mt0 Mak pe_mk)
local macro_rules | `(tactic| walk_at "x") => `(tactic| dsimp only [tSeq, tAsg, tRet, tDrop, tLst, tTup, tCons, tOp, tUn, tIfS])
def LpC (K : PySem.W.Frag) (B : Hp) (v : V) (cs : List CD) : Prop := ∃ (p l2 : Addr) (cvs : List V) (kvs : List (Key × V)), v = .ref p ∧ B p = some (.dK kvs) ∧ valV kvs (.inr "calls") = some (.ref l2) ∧ B l2 = some (.lst cvs) ∧ Al (CdL K B) cvs cs
theorem LpC.keep {K : PySem.W.Frag} {H H' : Hp} {v : V} {cs : List CD} (e : Same H H') (h : LpC K H v cs) : LpC K H' v cs := by
  obtain ⟨p, l2, cvs, kvs, h0, h1, h2, h3, h4⟩ := h
  exact ⟨p, l2, cvs, kvs, h0, e _ _ h1, h2, e _ _ h3, h4.mono fun _ _ h => CdL.keep e h⟩
theorem sc_rules : FnScope ["_law_state", "_law_p", "_law_x", "_law_names", "_law_found", "_law_k", "_law_a", "_law_b"] ["_law_state", "_law_p"] (defScope s_rules) := ⟨rfl, rfl, rfl, by decide +kernel, rfl, by decide +kernel, by decide +kernel⟩
/-- a drawn rule, as its texts -/
def RlOk (cs : List CD) (zs : List Str) : Prop := (∃ a ∈ cs.map (·.nm), zs = ([("once" : Str), a] : List Str)) ∨ ∃ t a b, (t = ("ahead" : Str) ∨ t = ("bar" : Str)) ∧ a ∈ cs.map (·.nm) ∧ b ∈ cs.map (·.nm) ∧ a ≠ b ∧ zs = ([t, a, b] : List Str)
abbrev RuT (K : PySem.W.Frag) (H : Hp) (v : V) (zs : List Str) : Prop := Tu K H v (zs.map V.str)
def spLRules (K : PySem.W.Frag) : Sp := fun vs H Q _ => ∃ (s c : Addr) (ns : List Int) (pq : V) (fs : List FD) (n : Nat) (cs : List CD), vs = [.ref s, pq] ∧ StA H s c ns ∧ ns.length ≤ 63 ∧ LpC K (Off s H) pq cs ∧ KdOk fs n cs ∧
  ∀ H' ra rvs rs, SameX s H H' → StA H' s c ns → H ra = none → Off s H' ra = some (.lst rvs) → Al (RuT K (Off s H')) rvs rs → (∀ r ∈ rs, RlOk cs r) → rs.length ≤ 3 → Q (.ref ra) H'
section
variable {P : Program} {w : World} {K : PySem.W.Frag} {mg : Str → Option Value} {base : Heap}
theorem ok_lrules {f : Addr} {fd : FuncData} (F : DefX K mg "_law_rules" s_rules ["_law_state", "_law_p"] f fd) (T : Txt K mg) (c_take : Cal P w K mg base CX0 2 "_law_take" spTake) (c_one : Cal P w K mg base CX0 3 "_law_one" (spOne K)) :
    Cal P w K mg base CX0 4 "_law_rules" (spLRules K) := by
  refine cal_mk F sc_rules (fun vs H Q E h => ?_) (fun cdv A outer sh H vs Q E hr h => ?_)
  · obtain ⟨s, c, ns, pq, _, _, _, rfl, _⟩ := h
    rfl
  · obtain ⟨s, c, ns, pq, fs, n, cs, rfl, h0, hl, pC, ok, q⟩ := h
    refine ⟨_, (pss_cons (ps_par (i := 3) (j := 4) (by rfl) sc_rules.nd rfl rfl (by decide) rfl rfl (pa_cons (pe_lc (own := [("_law_x", 2)]) (g := (gName 2)) (tt := tYes) rfl sc_rules.nd (pi_list (pe_dget (hu_of hr) (pv 1) pe_str (fun _ _ => rfl))) (blkOk_by (own := [("_law_x", 2)]) (N := ["_law_state", "_law_p", "_law_x", "_law_names", "_law_found", "_law_k", "_law_a", "_law_b"]) (sc := defScope s_rules) (by decide +kernel)) (fun _ _ _ _ _ => (pg_name (i := 2) sc_rules.nd rfl (Or.inl rfl))) (fun _ _ _ _ _ => pts_nil) (fun _ _ _ _ _ => (pe_ix (ix_tupK (K := K) rfl) (pv 2) pe_int (fun _ _ => rfl)))) (pa_cons (pe_lst pa_nil) pa_nil)) (by rfl))
(pss_cons (ps_for PassesOwn.never rfl (pi_range1 (by rfl) T.range (pa_cons (pe_c c_take hr (by first | decide | assumption) rfl (pa_cons (pv 0) (pa_cons pe_int pa_nil))) pa_nil)) (pg_name (i := 5) sc_rules.nd rfl (Or.inl rfl))
(pss_cons (ps_par (i := 6) (j := 7) (by rfl) sc_rules.nd rfl rfl (by decide) rfl rfl (pa_cons (pe_c c_one hr (by first | decide | assumption) rfl (pa_cons (pv 0) (pa_cons (pv 3) pa_nil))) (pa_cons (pe_c c_one hr (by first | decide | assumption) rfl (pa_cons (pv 0) (pa_cons (pv 3) pa_nil))) pa_nil)) (by rfl))
(pss_one (ps_if (pt_cmpR op_eq (pv 6) (pv 7) (nomark _))
(pss_one (ps_expr (pe_bm PySem.F.plainAttrs_list PySem.F.slot_list_append PySem.F.type_list_append mt_append (pv 4) (pa_cons (pe_tup (pa_cons pe_str (pa_cons (pv 6) pa_nil))) pa_nil))))
(pss_one (ps_expr (pe_bm PySem.F.plainAttrs_list PySem.F.slot_list_append PySem.F.type_list_append mt_append (pv 4) (pa_cons (pe_tup (pa_cons (pe_c c_one hr (by first | decide | assumption) rfl (pa_cons (pv 0) (pa_cons (pe_lst (pa_cons pe_str (pa_cons pe_str pa_nil))) pa_nil))) (pa_cons (pv 6) (pa_cons (pv 7) pa_nil)))) pa_nil))))))))
(pss_one (ps_ret (pv 4))))), ?_⟩
    obtain ⟨p, l2, cvs, kvs, rfl, p1, p2, p3, p4⟩ := id pC
    have nS : ∀ {a : Addr} {o : HO}, Off s H a = some o → a ≠ s := fun h e => by rw [e, off_s] at h; cases h
    have lcs : cvs.length = cs.length := p4.1
    have c0 := ok.cpos
    have c6 := ok.cle
    have hpd : DGet H p (.str "calls") (some (.ref l2)) := p2 ▸ DGet.k (k := .inr "calls") (off_same _ _ p1)
    refine ⟨_, rfl, p, .ref l2, rfl, hpd, l2, rfl, ⟨cvs, SqL.of (off_same _ _ p3)⟩, fun la hla => ?_⟩
    refine lc_valS (walk_list (K := K) (a := l2) (xs := cvs)) (ys := cs.map fun c => V.str c.nm) (by rw [List.length_map, lcs]) (by omega) hla (fun H' e => SqL.of (e _ _ (off_same _ _ p3))) (fun i x y H2 H3 R hi hy e hY k => ?_) fun H1 e1 hD1 => ?_
    · obtain ⟨rfl, hx⟩ := hY
      obtain ⟨c, hc, mv, dv, sv, ds, ⟨ca, rfl, c1⟩, _⟩ := p4.get hx
      rw [List.getElem?_map, hc] at hy
      cases hy
      exact ⟨rfl, _, rfl, ca, _, 0, .str c.nm, rfl, rfl, same_t (off_same.trans e) c1, rfl, k _ (Same.refl _)⟩
    obtain ⟨las, lac⟩ := h0.ne hla
    have h1 := h0.keep e1
    refine ⟨by show 0 ≤ sizeLine; decide, fun ra hra => ?_⟩
    obtain ⟨ras, rac⟩ := h1.ne hra
    have ra0 : H ra = none := none_of e1 hra
    have e2 := same_new e1 hra (o := .lst [])
    have lara : la ≠ ra := fun e => by rw [← e, hD1] at hra; cases hra
    have hD2 : upd H1 ra (.lst []) la = some (.lst (cs.map fun c => V.str c.nm)) := (upd_ne lara).trans hD1
    have hR2 : upd H1 ra (.lst []) ra = some (.lst []) := upd_same
    generalize upd H1 ra (.lst []) = H2 at e2 hD2 hR2
    have h2 := h0.keep e2
    refine ⟨_, _, rfl, ?_⟩
    refine ⟨_, rfl, s, c, ns, 4, rfl, h2, hl, by decide, by decide, fun d H3 hd e3 h3 => ?_⟩
    refine ⟨(d : Int), rfl, by omega, by omega, ?_⟩
    have nmw : ∀ z ∈ cs.map (·.nm), z.length ≤ sizeLine := fun z hz => by
      obtain ⟨c, hc, rfl⟩ := List.mem_map.mp hz
      exact word_sz (ok.calls c hc).word
    refine for_it walk_range (fun i σ Hi => SameX s H Hi ∧ StA Hi s c ns ∧ Hi la = some (.lst (cs.map fun c => V.str c.nm)) ∧ ∃ (rs : List (List Str)) (rvs : List V) (x5 x6 x7 : Option V), σ = [some (.ref s), some (.ref p), none, some (.ref la), some (.ref ra), x5, x6, x7] ∧ Hi ra = some (.lst rvs) ∧ Al (RuT K (Off ra (Off s Hi))) rvs rs ∧ (∀ r ∈ rs, RlOk cs r) ∧ rs.length ≤ i)
      ⟨(same_sx e2).trans e3, h3, e3 _ _ hD2 las, [], [], _, _, _, rfl, e3 _ _ hR2 ras, Al.nil, nofun, Nat.le_refl _⟩ (fun _ _ _ _ _ => trivial) ?_ ?_
    · rintro i x σ H4' H4 hi ⟨e4, h4, la4, rs, rvs, x5, x6, x7, rfl, r4, al, rok, rl⟩ ⟨rfl, rfl⟩
      have hi4 : i < 4 := by
        have : i < d := hi
        omega
      have nl : (cs.map fun c => V.str c.nm).length = cs.length := List.length_map ..
      refine ⟨_, rfl, _, rfl, s, c, la, ns, _, rfl, h4, hl, las, .inl (SqL.of la4), by omega, by omega, fun d1 v1 H5 hd1 e5 h5 => ?_⟩
      refine ⟨_, rfl, _, rfl, s, c, la, ns, _, rfl, h5, hl, las, .inl (SqL.of (e5 _ _ la4 las)), by omega, by omega, fun d2 v2 H6 hd2 e6 h6 => ?_⟩
      rw [List.getElem?_map] at hd1 hd2
      obtain ⟨c1, hc1, rfl⟩ := Option.map_eq_some_iff.mp hd1
      obtain ⟨c2, hc2, rfl⟩ := Option.map_eq_some_iff.mp hd2
      have m1 : c1.nm ∈ cs.map (·.nm) := List.mem_map_of_mem (List.mem_of_getElem? hc1)
      have m2 : c2.nm ∈ cs.map (·.nm) := List.mem_map_of_mem (List.mem_of_getElem? hc2)
      have e46 := e5.trans e6
      have al6 : Al (RuT K (Off ra (Off s H6))) rvs rs := al.mono fun _ _ h => Tu.keep (same_off e46.off) h
      have rlv : rvs.length < 1000 := by have := al.1; omega
      refine ⟨_, _, rfl, ?_⟩
      -- the rule, put on the list
      have put : ∀ (H7 : Hp) (t : Addr) (zs : List Str), SameX s H6 H7 → StA H7 s c ns → RlOk cs zs → H7 t = none → ∃ rs rvs' x5 x6 x7, [some (V.ref s), some (.ref p), none, some (.ref la), some (.ref ra), some (.int (0 + (i : Int))), some (.str c1.nm), some (.str c2.nm)] = [some (V.ref s), some (.ref p), none, some (.ref la), some (.ref ra), x5, x6, x7] ∧
          upd (upd H7 t (.tup (zs.map V.str))) ra (.lst (rvs ++ [.ref t])) ra = some (.lst rvs') ∧ Al (RuT K (Off ra (Off s (upd (upd H7 t (.tup (zs.map V.str))) ra (.lst (rvs ++ [.ref t])))))) rvs' rs ∧ (∀ r ∈ rs, RlOk cs r) ∧ rs.length ≤ i + 1 := fun H7 t zs e7 h7 okz ht => by
        have r7 := (e46.trans e7) _ _ r4 ras
        have tra : t ≠ ra := fun e => by rw [e, r7] at ht; cases ht
        obtain ⟨ts, _⟩ := h7.ne ht
        refine ⟨rs ++ [zs], rvs ++ [.ref t], _, _, _, rfl, upd_same, ?_, ?_, ?_⟩
        · rw [off_upd ras, off_put]
          refine Al.snoc ?_ ?_
          · exact al6.mono fun _ _ h => Tu.keep (same_off (e7.trans (same_sx (same_new (Same.refl H7) ht))).off) h
          · exact Tu.tup (by rw [off_ne tra, off_ne ts, upd_same])
        · intro r hr
          rcases List.mem_append.mp hr with h | h
          · exact rok r h
          · rw [List.mem_singleton.mp h]
            exact okz
        · rw [List.length_append]
          exact Nat.succ_le_succ rl
      have stp : ∀ (H7 : Hp) (t : Addr) (o : HO), SameX s H6 H7 → StA H7 s c ns → H7 t = none → SameX s H (upd (upd H7 t o) ra (.lst (rvs ++ [.ref t]))) ∧ StA (upd (upd H7 t o) ra (.lst (rvs ++ [.ref t]))) s c ns ∧ upd (upd H7 t o) ra (.lst (rvs ++ [.ref t])) la = some (.lst (cs.map fun c => V.str c.nm)) := fun H7 t o e7 h7 ht => by
        obtain ⟨ts, tc⟩ := h7.ne ht
        have la7 := (e46.trans e7) _ _ la4 las
        have tla : t ≠ la := fun e => by rw [e, la7] at ht; cases ht
        have t0 : H t = none := by
          cases z : H t with
          | none => rfl
          | some u => rw [((e4.trans e46).trans e7) _ _ z ts] at ht; cases ht
        exact ⟨(((e4.trans e46).trans e7).putN t0).putN ra0, (h7.put ts tc).put ras rac, (upd_ne lara).trans ((upd_ne (Ne.symm tla)).trans la7)⟩
      have r6 := e46 _ _ r4 ras
      refine ⟨_, rfl, _, rfl, rfl, _, rfl, ite2 (fun g => ?_) (fun g => ?_)⟩
      · have e := V.str.inj (of_decide_eq_true g)
        refine ⟨_, rfl, .inl ⟨rfl, _, SqL.of r6⟩, _, rfl, by show 2 ≤ sizeLine; decide, fun t ht => ?_⟩
        have r7 := same_new (Same.refl H6) ht (o := .tup [.str "once", .str c1.nm]) _ _ r6
        refine ⟨ra, _, _, rfl, rfl, r7, Nat.lt_of_lt_of_le rlv (by decide), ?_⟩
        obtain ⟨k1, k2, k3⟩ := stp H6 t (.tup [.str "once", .str c1.nm]) (SameX.refl s H6) h6 ht
        exact ⟨k1, k2, k3, put H6 t [("once" : Str), c1.nm] (SameX.refl s H6) h6 (.inl ⟨_, m1, rfl⟩) ht⟩
      · have ne : c1.nm ≠ c2.nm := fun e => g (decide_eq_true (by rw [e]))
        refine ⟨_, rfl, .inl ⟨rfl, _, SqL.of r6⟩, _, rfl, by show 2 ≤ sizeLine; decide, fun lb hlb => ?_⟩
        have e7 := same_new (Same.refl H6) hlb (o := .lst [.str "ahead", .str "bar"])
        have h7 := h6.keep e7
        refine ⟨s, c, lb, ns, _, rfl, h7, hl, (h6.ne hlb).1, .inl (SqL.of upd_same), by decide, by decide, fun d3 v3 H8 hd3 e8 h8 => ?_⟩
        have e68 := (same_sx e7).trans e8
        obtain ⟨tg, rfl, htg⟩ : ∃ tg : Str, v3 = .str tg ∧ (tg = ("ahead" : Str) ∨ tg = ("bar" : Str)) := by
          have m := List.mem_of_getElem? hd3
          simp only [List.mem_cons, List.not_mem_nil, or_false] at m
          rcases m with rfl | rfl
          · exact ⟨_, rfl, .inl rfl⟩
          · exact ⟨_, rfl, .inr rfl⟩
        refine ⟨_, rfl, _, rfl, by show 3 ≤ sizeLine; decide, fun t ht => ?_⟩
        have r9 := same_new (Same.refl H8) ht (o := .tup [.str tg, .str c1.nm, .str c2.nm]) _ _ (e68 _ _ r6 ras)
        refine ⟨ra, _, _, rfl, rfl, r9, Nat.lt_of_lt_of_le rlv (by decide), ?_⟩
        obtain ⟨k1, k2, k3⟩ := stp H8 t (.tup [.str tg, .str c1.nm, .str c2.nm]) e68 h8 ht
        exact ⟨k1, k2, k3, put H8 t [tg, c1.nm, c2.nm] e68 h8 (.inr ⟨_, _, _, htg, m1, m2, ne, rfl⟩) ht⟩
    · rintro σ H4 ⟨e4, h4, la4, rs, rvs, x5, x6, x7, rfl, r4, al, rok, rl⟩
      refine ⟨_, rfl, ?_⟩
      have hd' : rs.length ≤ d := rl
      refine q H4 ra rvs rs e4 h4 ra0 ((off_ne ras).trans r4) (al.mono fun _ _ h => Tu.keep off_same h) rok (by omega)
end
end MK
set_option Elab.async false
set_option linter.all false
set_option autoImplicit false
set_option maxRecDepth 100000
set_option maxHeartbeats 4000000
namespace MK
open PySem PySem.Spec PyProof.Rows L2
open C8 (Met pe_mt pe_mt0 Mak pe_mk)
local macro_rules | `(tactic| walk_at "x") => `(tactic| dsimp only [tSeq, tAsg, tRet, tDrop, tLst, tTup, tCons, tOp, tUn, tIfS])
theorem sc_l_is_rule : FnScope ["_law_p", "_law_x", "_law_y", "_law_row", "_law_names"] ["_law_p", "_law_x"] (defScope s_l_is_rule) := ⟨rfl, rfl, rfl, by decide +kernel, rfl, by decide +kernel, by decide +kernel⟩
def spLIsR (K : PySem.W.Frag) : Sp := fun vs H Q _ => ∃ (pq v : V) (fs : List FD) (n : Nat) (cs : List CD) (d : Dt), vs = [pq, v] ∧ LpC K H pq cs ∧ KdOk fs n cs ∧ Sh K H v d ∧ ∀ H', Same H H' → Q (.bl (ruleD cs d)) H'
theorem strs_of : ∀ {xs : List Dt}, xs.all isStr = true → ∃ zs : List Str, xs = zs.map Dt.str
  | [], _ => ⟨[], rfl⟩
  | x :: xs, h => by
    rw [List.all_cons, Bool.and_eq_true] at h
    obtain ⟨zs, rfl⟩ := strs_of h.2
    cases x with
    | str z => exact ⟨z :: zs, rfl⟩
    | _ => cases h.1
theorem nameD_isStr {cs : List CD} {x : Dt} (h : isStr x = false) : nameD cs x = false := by cases x <;> first | rfl | cases h
theorem isS_isStr {z : Str} {x : Dt} (h : isStr x = false) : isS z x = false := by cases x <;> first | rfl | cases h
/-- what has not the form of a rule -/
theorem ruleD_no {cs : List CD} {d : Dt} {xs : List Dt} (e : sqD d = some xs) (h : ¬ ((xs.length = 2 ∨ xs.length = 3) ∧ xs.all isStr = true)) : ruleD cs d = false := by
  unfold ruleD
  rw [e]
  show (decide (2 ≤ xs.length) && (xs.drop 1).all (nameD cs) && _) = false
  match xs, h with
  | [], _ => rfl
  | [_], _ => rfl
  | [x, y], h =>
    cases hx : isStr x with
    | false =>
      simp [isS_isStr hx]
    | true =>
      cases hy : isStr y with
      | false =>
        show (_ && (nameD cs y && true) && _) = false
        rw [nameD_isStr hy]
        simp
      | true => exact absurd ⟨.inl rfl, by simp [hx, hy]⟩ h
  | [x, y, z], h =>
    cases hx : isStr x with
    | false =>
      simp [isS_isStr hx]
    | true =>
      cases hy : isStr y with
      | false =>
        show (_ && (nameD cs y && _) && _) = false
        rw [nameD_isStr hy]
        simp
      | true =>
        cases hz : isStr z with
        | false =>
          show (_ && (nameD cs y && (nameD cs z && true)) && _) = false
          rw [nameD_isStr hz]
          simp
        | true => exact absurd ⟨.inr rfl, by simp [hx, hy, hz]⟩ h
  | x :: y :: z :: u :: rest, _ =>
    simp
theorem ruleD_2 {cs : List CD} {d : Dt} {x y : Str} (e : sqD d = some [.str x, .str y]) : ruleD cs d = (decide (y ∈ cs.map (·.nm)) && decide (x = ("once" : Str))) := by
  unfold ruleD
  rw [e]
  show (true && (decide (y ∈ cs.map (·.nm)) && true) && (if decide (x = Str.ofString "once") = true then true else (decide (x = Str.ofString "ahead") || decide (x = Str.ofString "bar")) && false && _)) = _
  by_cases h : x = Str.ofString "once"
  · rw [decide_eq_true h]
    simp
  · rw [decide_eq_false h]
    simp
theorem ruleD_3 {cs : List CD} {d : Dt} {x y z : Str} (e : sqD d = some [.str x, .str y, .str z]) : ruleD cs d = (decide (y ∈ cs.map (·.nm)) && decide (z ∈ cs.map (·.nm)) && ((decide (x = ("ahead" : Str)) || decide (x = ("bar" : Str))) && !decide (y = z))) := by
  unfold ruleD
  rw [e]
  show (true && (decide (y ∈ cs.map (·.nm)) && (decide (z ∈ cs.map (·.nm)) && true)) && (if decide (x = Str.ofString "once") = true then false else (decide (x = Str.ofString "ahead") || decide (x = Str.ofString "bar")) && true && !decide (y = z))) = _
  by_cases h : x = Str.ofString "once"
  · rw [decide_eq_true h, h]
    have : (decide (Str.ofString "once" = ("ahead" : Str)) || decide (Str.ofString "once" = ("bar" : Str))) = false := by decide +kernel
    rw [this]
    simp
  · rw [decide_eq_false h]
    simp
section
variable {P : Program} {w : World} {K : PySem.W.Frag} {mg : Str → Option Value} {base : Heap}
theorem ok_lisrule {f : Addr} {fd : FuncData} (F : DefX K mg "_law_is_rule" s_l_is_rule ["_law_p", "_law_x"] f fd) (T : Txt K mg) : Cal P w K mg base CX0 1 "_law_is_rule" (spLIsR K) := by
  refine cal_mk F sc_l_is_rule (fun vs H Q E h => ?_) (fun cdv A outer sh H vs Q E hr h => ?_)
  · obtain ⟨pq, v, _, _, _, _, rfl, _⟩ := h
    rfl
  · obtain ⟨pq, v, fs, n, cs, d, rfl, pC, ok, s, q⟩ := h
    refine ⟨_, (pss_cons (ps_if (pt_cut (PW.pt (pw_or (pt_not (pt_val (pe_callB call_isiT (by rfl) T.isinstance (by decide +kernel) (pa_cons (pv 1) (pa_cons (pe_tup (pa_cons (pe_tyv (n := "list") (by rfl) T.list (by decide +kernel)) (pa_cons (pe_tyv (n := "tuple") (by rfl) T.tuple (by decide +kernel)) pa_nil))) pa_nil))))) (pw_or (pt_cmpR op_notIn_seq (pe_callB call_len_seq (by rfl) T.len (by decide +kernel) (pa_cons (pv 1) pa_nil)) (pe_tup (pa_cons pe_int (pa_cons pe_int pa_nil))) (by rfl)) (pw_or1 (pt_not (pt_val (pe_callB (cr_all rfl) (by rfl) T.all (by decide +kernel) (pa_cons (pe_lc (own := [("_law_y", 2)]) (g := (gName 2)) (tt := tYes) rfl sc_l_is_rule.nd (pi_sqV (pv 1)) (blkOk_by (own := [("_law_y", 2)]) (N := ["_law_p", "_law_x", "_law_y", "_law_row", "_law_names"]) (sc := defScope s_l_is_rule) (by decide +kernel)) (fun _ _ _ _ _ => (pg_name (i := 2) sc_l_is_rule.nd rfl (Or.inl rfl))) (fun _ _ _ _ _ => pts_nil) (fun _ _ _ _ _ => (pe_callB (call_isiK (K := K) rfl) (by rfl) T.isinstance (by decide +kernel) (pa_cons (pv 2) (pa_cons (pe_tyv (n := "str") (by rfl) T.str (by decide +kernel)) pa_nil))))) pa_nil)))))))))
(pss_one (ps_ret pe_bl))
pss_nil)
(pss_cons (ps_set (i := 4) sc_l_is_rule.nd rfl (Or.inr rfl) (pe_lc (own := [("_law_row", 3)]) (g := (gName 3)) (tt := tYes) rfl sc_l_is_rule.nd (pi_list (pe_dget (hu_of hr) (pv 0) pe_str (fun _ _ => rfl))) (blkOk_by (own := [("_law_row", 3)]) (N := ["_law_p", "_law_x", "_law_y", "_law_row", "_law_names"]) (sc := defScope s_l_is_rule) (by decide +kernel)) (fun _ _ _ _ _ => (pg_name (i := 3) sc_l_is_rule.nd rfl (Or.inl rfl))) (fun _ _ _ _ _ => pts_nil) (fun _ _ _ _ _ => (pe_ix (ix_tupK (K := K) rfl) (pv 3) pe_int (fun _ _ => rfl)))))
(pss_cons (ps_if (pt_not (pt_val (pe_callB (cr_all rfl) (by rfl) T.all (by decide +kernel) (pa_cons (pe_lc (own := [("_law_y", 2)]) (g := (gName 2)) (tt := tYes) rfl sc_l_is_rule.nd (pi_sqG (pe_slice (sl_sqA (K := K) rfl) (pv 1) (po_some pe_int) po_none)) (blkOk_by (own := [("_law_y", 2)]) (N := ["_law_p", "_law_x", "_law_y", "_law_row", "_law_names"]) (sc := defScope s_l_is_rule) (by decide +kernel)) (fun _ _ _ _ _ => (pg_name (i := 2) sc_l_is_rule.nd rfl (Or.inl rfl))) (fun _ _ _ _ _ => pts_nil) (fun _ _ _ _ _ => (pe_cmpR (op_in_seqK (K := K) rfl) (pv 2) (pv 4) (by rfl)))) pa_nil))))
(pss_one (ps_ret pe_bl))
pss_nil)
(pss_cons (ps_if (pt_cmpR op_eq (pe_callB call_len_seq (by rfl) T.len (by decide +kernel) (pa_cons (pv 1) pa_nil)) pe_int (nomark _))
(pss_one (ps_ret (pe_cmpR op_eq (pe_ix ix_seq (pv 1) pe_int (fun _ _ => rfl)) pe_str (nomark _))))
pss_nil)
(pss_one (ps_ret (pe_cut (pe_and (pe_cmpR op_in_seq (pe_ix ix_seq (pv 1) pe_int (fun _ _ => rfl)) (pe_tup (pa_cons pe_str (pa_cons pe_str pa_nil))) (by rfl)) (pe_one (pe_cmpR op_ne (pe_ix ix_seq (pv 1) pe_int (fun _ _ => rfl)) (pe_ix ix_seq (pv 1) pe_int (fun _ _ => rfl)) (nomark _))))))))))), ?_⟩
    obtain ⟨p, l2, cvs, kvs, rfl, p1, p2, p3, p4⟩ := id pC
    have hpd : ∀ {H2 : Hp}, Same H H2 → DGet H2 p (.str "calls") (some (.ref l2)) := fun e => p2 ▸ DGet.k (k := .inr "calls") (e _ _ p1)
    have lcs : cvs.length = cs.length := p4.1
    have c6 := ok.cle
    refine ⟨fun t H' => Same H H' ∧ ((t = true ∧ ruleD cs d = false) ∨ (t = false ∧ ∃ zs : List Str, sqD d = some (zs.map Dt.str) ∧ (zs.length = 2 ∨ zs.length = 3))), ?_, ?_⟩
    · obtain ⟨ty, ty1, -, -, -, kl, kt⟩ := s.ty
      refine ⟨_, rfl, by show 2 ≤ sizeLine; decide, fun p0 hp0 => ?_⟩
      have e1 := same_new (Same.refl H) hp0 (o := .tup [.ty "list", .ty "tuple"])
      refine ⟨_, p0, _, _, _, _, rfl, upd_same, .cons (.ty _) (.cons (.ty _) .nil), tyx_keep e1 ty1, any2 kl kt, _, rfl, ite2 (fun g => ?_) (fun g => ?_)⟩
      · refine ⟨e1, .inl ⟨rfl, ?_⟩⟩
        have h0 : isSq d = false := by
          rw [Bool.not_eq_true'] at g
          exact g
        unfold ruleD
        cases hq : sqD d with
        | none => rfl
        | some xs => rw [isSq_iff, hq] at h0; cases h0
      · have h0 : isSq d = true := by
          rw [Bool.not_eq_true', Bool.not_eq_false] at g
          exact g
        rw [isSq_iff] at h0
        obtain ⟨xs, hq⟩ := Option.isSome_iff_exists.mp h0
        obtain ⟨vs, ⟨ra, rfl, hs⟩, al, few⟩ := s.sq hq
        have lv := al.1
        generalize upd H p0 (.tup [.ty "list", .ty "tuple"]) = H1 at e1 ⊢
        have hin : inV (.int (vs.length : Nat)) [.int 2, .int 3] = (decide (xs.length = 2) || decide (xs.length = 3)) := by
          show (eqV (.int 2) (.int (vs.length : Nat)) || (eqV (.int 3) (.int (vs.length : Nat)) || false)) = _
          rw [lv, Bool.or_false]
          congr 1
          · show (2 == ((xs.length : Nat) : Int)) = _
            rw [Bool.eq_iff_iff, beq_iff_eq, decide_eq_true_iff]
            omega
          · show (3 == ((xs.length : Nat) : Int)) = _
            rw [Bool.eq_iff_iff, beq_iff_eq, decide_eq_true_iff]
            omega
        refine ⟨_, rfl, ra, vs, rfl, sq_at e1 hs, by show 2 ≤ sizeLine; decide, fun p1 hp1 => ⟨p1, _, rfl, .inr (SqT.of upd_same), rfl, rfl, _, rfl, ite2 (fun g1 => ?_) (fun g1 => ?_)⟩⟩
        · have g1 : (!inV (.int (vs.length : Nat)) [.int 2, .int 3]) = true := g1
          rw [hin, Bool.not_eq_true', Bool.or_eq_false_iff, decide_eq_false_iff_not, decide_eq_false_iff_not] at g1
          exact ⟨same_new e1 hp1, .inl ⟨rfl, ruleD_no hq fun h => h.1.elim g1.1 g1.2⟩⟩
        · have g1 : ¬ (!inV (.int (vs.length : Nat)) [.int 2, .int 3]) = true := g1
          rw [hin, Bool.not_eq_true', Bool.not_eq_false, Bool.or_eq_true, decide_eq_true_iff, decide_eq_true_iff] at g1
          have e2 := same_new e1 hp1 (o := .tup [.int 2, .int 3])
          generalize upd H1 p1 (.tup [.int 2, .int 3]) = H2 at e2 ⊢
          refine ⟨_, rfl, ra, vs, H2, rfl, sq_at e2 hs, Same.refl H2, fun J GG wk gk L hL => ?_⟩
          refine lc_valS wk (ys := xs.map fun x => V.bl (isStr x)) (by rw [List.length_map, lv]) (by omega) hL (fun H' e => gk H' e) (fun i x y H3 H4 R hi hy e hY k => ?_) fun H3 e3 hD3 => ?_
          · obtain ⟨rfl, hx⟩ := hY
            obtain ⟨x', hx', sx⟩ := al.get hx
            rw [List.getElem?_map, hx'] at hy
            cases hy
            obtain ⟨ty', ty2, ks, -⟩ := sx.ty
            exact ⟨rfl, _, rfl, _, _, _, _, isStr x', rfl, .ty _, tyx_keep (e2.trans e) ty2, kit_ty ks, k _ (Same.refl _)⟩
          · have e03 := e2.trans e3
            refine ⟨L, xs.map isStr, rfl, SqL.of (by rw [List.map_map]; exact hD3), _, rfl, e03, ?_⟩
            have ea : (xs.map isStr).all id = xs.all isStr := by rw [List.all_map]; rfl
            rw [ea]
            cases hs' : xs.all isStr with
            | false => exact .inl ⟨rfl, ruleD_no hq fun h => by rw [hs'] at h; exact absurd h.2 nofun⟩
            | true =>
              obtain ⟨zs, rfl⟩ := strs_of hs'
              rw [List.length_map] at g1
              exact .inr ⟨rfl, zs, hq, g1⟩
    rintro t H1 ⟨e1, ⟨rfl, hf⟩ | ⟨rfl, zs, hq, lz⟩⟩
    · refine iteT ?_
      have := q _ e1
      rw [hf] at this
      exact this
    refine iteF ?_
    obtain ⟨vs, ⟨ra, rfl, hs⟩, al, few⟩ := s.sq hq
    have ev : vs = zs.map V.str := by
      refine List.ext_getElem? fun i => ?_
      cases h : vs[i]? with
      | none =>
        rw [List.getElem?_eq_none_iff] at h
        symm
        rw [List.getElem?_eq_none_iff, List.length_map]
        have := al.1
        rw [List.length_map] at this
        omega
      | some v =>
        obtain ⟨x, hx, sx⟩ := al.get h
        rw [List.getElem?_map] at hx
        obtain ⟨z, hz, rfl⟩ := Option.map_eq_some_iff.mp hx
        obtain ⟨rfl, _⟩ := sx.str'
        rw [List.getElem?_map, hz]
        rfl
    subst ev
    -- the names
    refine ⟨_, rfl, p, .ref l2, rfl, hpd e1, l2, rfl, ⟨cvs, SqL.of (e1 _ _ p3)⟩, fun la hla => ?_⟩
    refine lc_valS (walk_list (K := K) (a := l2) (xs := cvs)) (ys := cs.map fun c => V.str c.nm) (by rw [List.length_map, lcs]) (by omega) hla (fun H' e => SqL.of ((e1.trans e) _ _ p3)) (fun i x y H2 H3 R hi hy e hY k => ?_) fun H2 e2 hD2 => ?_
    · obtain ⟨rfl, hx⟩ := hY
      obtain ⟨c, hc, mv, dv, sv, ds, ⟨ca, rfl, c1⟩, _⟩ := p4.get hx
      rw [List.getElem?_map, hc] at hy
      cases hy
      exact ⟨rfl, _, rfl, ca, _, 0, .str c.nm, rfl, rfl, same_t (e1.trans e) c1, rfl, k _ (Same.refl _)⟩
    have e02 := e1.trans e2
    have hD2' : H2 la = some (.lst ((cs.map (·.nm)).map V.str)) := by rw [List.map_map]; exact hD2
    have q2 := fun (H' : Hp) (e : Same H2 H') => q H' (e02.trans e)
    have l2z : 2 ≤ zs.length := by omega
    have dl : (zs.map V.str).drop 1 = (zs.drop 1).map V.str := List.map_drop.symm
    refine ⟨_, rfl, _, rfl, rd_slS (sq_at e02 hs) fun H3 q3 e3 hp => ?_⟩
    rw [cut_one (by rw [List.length_map]; exact l2z), dl] at hp
    refine ⟨q3, _, H3, rfl, hp, Same.refl H3, fun J GG wk gk L hL => ?_⟩
    refine lc_valS wk (ys := (zs.drop 1).map fun z => V.bl (decide (z ∈ cs.map (·.nm)))) (by rw [List.length_map, List.length_map]) (by rw [List.length_map, List.length_drop]; omega) hL (fun H' e => gk H' e) (fun i x y H4 H5 R hi hy e hY k => ?_) fun H4 e4 hD4 => ?_
    · obtain ⟨rfl, hx⟩ := hY
      rw [List.getElem?_map] at hx hy
      obtain ⟨z, hz, rfl⟩ := Option.map_eq_some_iff.mp hx
      rw [hz] at hy
      cases hy
      refine ⟨rfl, _, rfl, _, rfl, la, _, rfl, .inl (SqL.of ((e3.trans e) _ _ hD2')), rfl, flat_strs _, ?_⟩
      rw [inV_strs]
      exact k _ (Same.refl _)
    have e24 := e3.trans e4
    refine ⟨L, (zs.drop 1).map fun z => decide (z ∈ cs.map (·.nm)), rfl, SqL.of (by rw [List.map_map]; exact hD4), _, rfl, ite2 (fun g => ?_) (fun g => ?_)⟩
    · have hf : ruleD cs d = false := by
        rw [Bool.not_eq_true', List.all_map] at g
        unfold ruleD
        rw [hq]
        show (_ && ((zs.map Dt.str).drop 1).all (nameD cs) && _) = false
        have : ((zs.map Dt.str).drop 1).all (nameD cs) = false := by
          rw [← List.map_drop, List.all_map]
          exact g
        rw [this]
        simp
      have := q2 _ e24
      rw [hf] at this
      exact this
    rw [Bool.not_eq_true', Bool.not_eq_false, List.all_map] at g
    have g : (zs.drop 1).all (fun z => decide (z ∈ cs.map (·.nm))) = true := g
    have hs4 := sq_at (e02.trans e24) hs
    have q4 := q2 _ e24
    rcases lz with l | l
    · match zs, l, g, hq, hs4 with
      | [x, y], _, g, hq, hs4 =>
      have gy : decide (y ∈ cs.map (·.nm)) = true := by simpa using g
      refine ⟨_, rfl, ra, _, rfl, hs4, rfl, _, rfl, ite2 (fun _ => ?_) (fun g => absurd (decide_eq_true rfl) g)⟩
      refine ⟨_, rfl, ix_of (i := 0) hs4 rfl ⟨rfl, ?_⟩⟩
      rw [ruleD_2 hq, gy, Bool.true_and] at q4
      have : decide (V.str x = V.str "once") = decide (x = ("once" : Str)) := decide_eq_decide.mpr ⟨fun e => V.str.inj e, fun e => by rw [e]⟩
      rw [this]
      exact q4
    · match zs, l, g, hq, hs4 with
      | [x, y, z], _, g, hq, hs4 =>
      have g : (decide (y ∈ cs.map (·.nm)) && (decide (z ∈ cs.map (·.nm)) && true)) = true := g
      rw [Bool.and_eq_true, Bool.and_eq_true] at g
      rw [ruleD_3 hq, g.1, g.2.1] at q4
      refine ⟨_, rfl, ra, _, rfl, hs4, rfl, _, rfl, ite2 (fun e => absurd (V.int.inj (of_decide_eq_true e)) (show ¬ (3 : Int) = 2 by decide)) (fun _ => ?_)⟩
      rw [Bool.true_and, Bool.true_and] at q4
      refine ⟨fun v H' => v = .bl ((decide (x = ("ahead" : Str)) || decide (x = ("bar" : Str))) && !decide (y = z)) ∧ Same H4 H', ?_, fun v H' e => by
        rw [e.1]
        have := q _ ((e02.trans e24).trans e.2)
        rw [ruleD_3 hq, g.1, g.2.1, Bool.true_and, Bool.true_and] at this
        exact this⟩
      refine ⟨_, rfl, ix_of (i := 0) hs4 rfl ⟨by show 2 ≤ sizeLine; decide, fun t ht => ⟨t, _, rfl, .inr (SqT.of upd_same), rfl, rfl, ?_⟩⟩⟩
      have e5 := same_new (Same.refl H4) ht (o := .tup [.str "ahead", .str "bar"])
      have hin : inV (.str x) [.str "ahead", .str "bar"] = (decide (x = ("ahead" : Str)) || decide (x = ("bar" : Str))) := by
        rw [show ([.str "ahead", .str "bar"] : List V) = (["ahead", "bar"] : List Str).map V.str from rfl, inV_strs, ← Bool.decide_or]
        exact decide_eq_decide.mpr (by simp)
      refine ⟨_, rfl, ?_⟩
      show (if inV (.str x) [.str "ahead", .str "bar"] = true then _ else _)
      rw [hin]
      refine ite2 (fun g2 => ?_) (fun g2 => ?_)
      · rw [g2, Bool.true_and]
        refine ⟨_, rfl, ix_of (i := 1) (sq_at e5 hs4) rfl ⟨_, rfl, ix_of (i := 2) (sq_at e5 hs4) rfl ⟨rfl, ?_, e5⟩⟩⟩
        show V.bl (!decide (V.str y = V.str z)) = _
        congr 2
        exact decide_eq_decide.mpr ⟨fun e => V.str.inj e, fun e => by rw [e]⟩
      · rw [Bool.not_eq_true] at g2
        rw [g2, Bool.false_and]
        exact ⟨rfl, e5⟩
end
end MK
set_option Elab.async false
set_option linter.all false
set_option autoImplicit false
set_option maxRecDepth 100000
set_option maxHeartbeats 4000000
namespace MK
open PySem PySem.Spec PyProof.Rows L2
open C8 (Met pe_mt pe_mt0 Mak pe_mk)
local macro_rules | `(tactic| walk_at "x") => `(tactic| dsimp only [tSeq, tAsg, tRet, tDrop, tLst, tTup, tCons, tOp, tUn, tIfS])
theorem sc_error : FnScope ["_law_e"] ["_law_e"] (defScope s_error) := ⟨rfl, rfl, rfl, by decide +kernel, rfl, by decide +kernel, by decide +kernel⟩
theorem sc_other_error : FnScope ["_law_e"] ["_law_e"] (defScope s_other_error) := ⟨rfl, rfl, rfl, by decide +kernel, rfl, by decide +kernel, by decide +kernel⟩
theorem sc_tried : FnScope ["_law_deed", "_law_e"] ["_law_deed"] (defScope s_tried) := ⟨rfl, rfl, rfl, by decide +kernel, rfl, by decide +kernel, by decide +kernel⟩
theorem call_isPE {X : Cx} {a : Addr} {oe : Obj} {cls : Value} {d : Option Addr} (hp : (a, oe) ∈ X.pn) (hz : Zc cls d oe) (hf : ∃ vs, oe.data = .fields vs) : CallR X (.builtin "isinstance") (fun xs H Q => rIsP X.K a cls d xs H Q ∨ (d = none ∧ rIsP0 X.K a cls xs H Q)) := by
  intro pins s σ H xs us Q I r h
  rcases h with h | ⟨rfl, h⟩
  · exact call_isP hp hz hf pins s σ H xs us Q I r h
  · exact call_isP0 hp hz hf pins s σ H xs us Q I r h
structure EB where
  BadField : Addr
  BadModes : Addr
  BadCall : Addr
  UnknownCall : Addr
  BadPlace : Addr
  BadText : Addr
  BadRow : Addr
  BadWord : Addr
  BadWish : Addr
  BadRun : Addr
  BadCallers : Addr
  BadKind : Addr
  BadRule : Addr
  Refused : Addr
  BadThing : Addr
  MakerError : Addr
structure ErrN (K : PySem.W.Frag) (mg : Str → Option Value) (A : EB) : Prop where
  g_BadField : mg "BadField" = some (.ref A.BadField)
  g_BadModes : mg "BadModes" = some (.ref A.BadModes)
  g_BadCall : mg "BadCall" = some (.ref A.BadCall)
  g_UnknownCall : mg "UnknownCall" = some (.ref A.UnknownCall)
  g_BadPlace : mg "BadPlace" = some (.ref A.BadPlace)
  g_BadText : mg "BadText" = some (.ref A.BadText)
  g_BadRow : mg "BadRow" = some (.ref A.BadRow)
  g_BadWord : mg "BadWord" = some (.ref A.BadWord)
  g_BadWish : mg "BadWish" = some (.ref A.BadWish)
  g_BadRun : mg "BadRun" = some (.ref A.BadRun)
  g_BadCallers : mg "BadCallers" = some (.ref A.BadCallers)
  g_BadKind : mg "BadKind" = some (.ref A.BadKind)
  g_BadRule : mg "BadRule" = some (.ref A.BadRule)
  g_Refused : mg "Refused" = some (.ref A.Refused)
  g_BadThing : mg "BadThing" = some (.ref A.BadThing)
  g_MakerError : mg "MakerError" = some (.ref A.MakerError)
  ix_BadRule : ErrI K A.BadRule
  m_BadRule : PySem.W.exmOne K (.ref A.BadRule) (.ref A.MakerError) = some true
  k_BadRule_BadField : PySem.W.kitOne K (.ref A.BadRule) (.ref A.BadField) = some false
  k_BadRule_BadModes : PySem.W.kitOne K (.ref A.BadRule) (.ref A.BadModes) = some false
  k_BadRule_BadCall : PySem.W.kitOne K (.ref A.BadRule) (.ref A.BadCall) = some false
  k_BadRule_UnknownCall : PySem.W.kitOne K (.ref A.BadRule) (.ref A.UnknownCall) = some false
  k_BadRule_BadPlace : PySem.W.kitOne K (.ref A.BadRule) (.ref A.BadPlace) = some false
  k_BadRule_BadText : PySem.W.kitOne K (.ref A.BadRule) (.ref A.BadText) = some false
  k_BadRule_BadRow : PySem.W.kitOne K (.ref A.BadRule) (.ref A.BadRow) = some false
  k_BadRule_BadWord : PySem.W.kitOne K (.ref A.BadRule) (.ref A.BadWord) = some false
  k_BadRule_BadWish : PySem.W.kitOne K (.ref A.BadRule) (.ref A.BadWish) = some false
  k_BadRule_BadRun : PySem.W.kitOne K (.ref A.BadRule) (.ref A.BadRun) = some false
  k_BadRule_BadCallers : PySem.W.kitOne K (.ref A.BadRule) (.ref A.BadCallers) = some false
  k_BadRule_BadKind : PySem.W.kitOne K (.ref A.BadRule) (.ref A.BadKind) = some false
  k_BadRule_BadRule : PySem.W.kitOne K (.ref A.BadRule) (.ref A.BadRule) = some true
  F_BadRule : ErrF K A.BadRule
  n_BadRule : PySem.W.findIn K (.ref A.BadRule) "index" = some none
def spErrO (A : EB) : SpP := fun a cls d vs H Q _ => vs = [.ref a] ∧ ((cls = .ref A.BadRule ∧ ∃ dd v, d = some dd ∧ H dd = some (.xd [("index", v)]) ∧ ∀ p, H p = none → Q (.ref p) (upd H p (.tup [.str "rule", v]))))
def spErrW (A : EB) : SpP := fun a cls d vs H Q E => vs = [.ref a] ∧ (spErrO A a cls d vs H Q E)
/-- one of the classes that are met here -/
def ClsE (A : EB) (cls : Value) : Prop := cls = .ref A.BadRule
section
variable {P : Program} {w : World} {K : PySem.W.Frag} {mg : Str → Option Value} {base : Heap} {A : EB}
theorem ok_errO {f : Addr} {fd : FuncData} (F : DefX K mg "_law_other_error" s_other_error ["_law_e"] f fd) (T : Txt K mg) (W : ErrN K mg A) : FnP P w K mg base 1 f fd ["_law_e"] (spErrO A) := by
  refine fnP_of F sc_other_error (fun a cls d vs H Q h => ?_) (fun cdv Ar outer sh H vs Q a oe cls d hz hf hr h => ?_)
  · rw [h.1]
    rfl
  · obtain ⟨rfl, h⟩ := h
    have hp : (a, oe) ∈ [(a, oe)] := List.mem_cons_self
    refine ⟨_, (pss_cons (ps_if (pt_val (pe_callB (call_isPE hp hz hf) (by rfl) T.isinstance (by decide +kernel) (pa_cons (pv 0) (pa_cons (pe_refv (by rfl) W.g_BadWord) pa_nil))))
(pss_one (ps_ret (pe_tup (pa_cons pe_str (pa_cons (pe_errP hp hz hf (pv 0)) pa_nil)))))
pss_nil)
(pss_cons (ps_if (pt_val (pe_callB (call_isPE hp hz hf) (by rfl) T.isinstance (by decide +kernel) (pa_cons (pv 0) (pa_cons (pe_refv (by rfl) W.g_BadWish) pa_nil))))
(pss_one (ps_ret (pe_tup (pa_cons pe_str (pa_cons (pe_errP hp hz hf (pv 0)) pa_nil)))))
pss_nil)
(pss_cons (ps_if (pt_val (pe_callB (call_isPE hp hz hf) (by rfl) T.isinstance (by decide +kernel) (pa_cons (pv 0) (pa_cons (pe_refv (by rfl) W.g_BadRun) pa_nil))))
(pss_one (ps_ret (pe_tup (pa_cons pe_str (pa_cons (pe_errP hp hz hf (pv 0)) pa_nil)))))
pss_nil)
(pss_cons (ps_if (pt_val (pe_callB (call_isPE hp hz hf) (by rfl) T.isinstance (by decide +kernel) (pa_cons (pv 0) (pa_cons (pe_refv (by rfl) W.g_BadCallers) pa_nil))))
(pss_one (ps_ret (pe_tup (pa_cons pe_str (pa_cons (pe_errP hp hz hf (pv 0)) pa_nil)))))
pss_nil)
(pss_cons (ps_if (pt_val (pe_callB (call_isPE hp hz hf) (by rfl) T.isinstance (by decide +kernel) (pa_cons (pv 0) (pa_cons (pe_refv (by rfl) W.g_BadKind) pa_nil))))
(pss_one (ps_ret (pe_tup (pa_cons pe_str (pa_cons (pe_errP hp hz hf (pv 0)) pa_nil)))))
pss_nil)
(pss_cons (ps_if (pt_val (pe_callB (call_isPE hp hz hf) (by rfl) T.isinstance (by decide +kernel) (pa_cons (pv 0) (pa_cons (pe_refv (by rfl) W.g_BadRule) pa_nil))))
(pss_one (ps_ret (pe_tup (pa_cons pe_str (pa_cons (pe_errP hp hz hf (pv 0)) pa_nil)))))
pss_nil)
(pss_cons (ps_if (pt_val (pe_callB (call_isPE hp hz hf) (by rfl) T.isinstance (by decide +kernel) (pa_cons (pv 0) (pa_cons (pe_refv (by rfl) W.g_Refused) pa_nil))))
(pss_one (ps_ret (pe_tup (pa_cons pe_str (pa_cons pe_non pa_nil)))))
pss_nil)
(pss_one (ps_ret (pe_cut (pe_ifExp (pt_val (pe_callB (call_isPE hp hz hf) (by rfl) T.isinstance (by decide +kernel) (pa_cons (pv 0) (pa_cons (pe_refv (by rfl) W.g_BadThing) pa_nil)))) (pe_tup (pa_cons pe_str (pa_cons pe_non pa_nil))) (pe_tup (pa_cons pe_str (pa_cons pe_non pa_nil)))))))))))))), ?_⟩
    obtain ⟨rfl, dd, v, rfl, hd, q⟩ := h
    · skip
      refine ⟨_, rfl, .inl ⟨A.BadRule, dd, _, _, _, false, rfl, rfl, rfl, hd, W.ix_BadRule, .own _, W.k_BadRule_BadWord, false, rfl, iteF ?_⟩⟩
      refine ⟨_, rfl, .inl ⟨A.BadRule, dd, _, _, _, false, rfl, rfl, rfl, hd, W.ix_BadRule, .own _, W.k_BadRule_BadWish, false, rfl, iteF ?_⟩⟩
      refine ⟨_, rfl, .inl ⟨A.BadRule, dd, _, _, _, false, rfl, rfl, rfl, hd, W.ix_BadRule, .own _, W.k_BadRule_BadRun, false, rfl, iteF ?_⟩⟩
      refine ⟨_, rfl, .inl ⟨A.BadRule, dd, _, _, _, false, rfl, rfl, rfl, hd, W.ix_BadRule, .own _, W.k_BadRule_BadCallers, false, rfl, iteF ?_⟩⟩
      refine ⟨_, rfl, .inl ⟨A.BadRule, dd, _, _, _, false, rfl, rfl, rfl, hd, W.ix_BadRule, .own _, W.k_BadRule_BadKind, false, rfl, iteF ?_⟩⟩
      refine ⟨_, rfl, .inl ⟨A.BadRule, dd, _, _, _, true, rfl, rfl, rfl, hd, W.ix_BadRule, .own _, W.k_BadRule_BadRule, true, rfl, iteT ?_⟩⟩
      exact ⟨_, rfl, rfl, A.BadRule, dd, _, v, rfl, rfl, W.F_BadRule, W.n_BadRule, hd, rfl, by show 2 ≤ sizeLine; decide, fun p hp => q p hp⟩
theorem ok_errw {f fo : Addr} {fd fdo : FuncData} (F : DefX K mg "_law_error" s_error ["_law_e"] f fd) (T : Txt K mg) (W : ErrN K mg A) (F_oth : FnP P w K mg base 1 fo fdo ["_law_e"] (spErrO A)) (H_oth : mg "_law_other_error" = some (.ref fo) ∧ PySem.W.keepIn K (.ref fo) = true ∧ Binds K fdo ["_law_e"] []) : FnP P w K mg base 2 f fd ["_law_e"] (spErrW A) := by
  refine fnP_of F sc_error (fun a cls d vs H Q h => ?_) (fun cdv Ar outer sh H vs Q a oe cls d hz hf hr2 h => ?_)
  · rw [h.1]
    rfl
  · obtain ⟨rfl, h⟩ := h
    have hp : (a, oe) ∈ [(a, oe)] := List.mem_cons_self
    refine ⟨_, (pss_cons (ps_if (pt_val (pe_callB (call_isPE hp hz hf) (by rfl) T.isinstance (by decide +kernel) (pa_cons (pv 0) (pa_cons (pe_refv (by rfl) W.g_BadField) pa_nil))))
(pss_one (ps_ret (pe_tup (pa_cons pe_str (pa_cons (pe_errP hp hz hf (pv 0)) pa_nil)))))
pss_nil)
(pss_cons (ps_if (pt_val (pe_callB (call_isPE hp hz hf) (by rfl) T.isinstance (by decide +kernel) (pa_cons (pv 0) (pa_cons (pe_refv (by rfl) W.g_BadModes) pa_nil))))
(pss_one (ps_ret (pe_tup (pa_cons pe_str (pa_cons (pe_errP hp hz hf (pv 0)) pa_nil)))))
pss_nil)
(pss_cons (ps_if (pt_val (pe_callB (call_isPE hp hz hf) (by rfl) T.isinstance (by decide +kernel) (pa_cons (pv 0) (pa_cons (pe_refv (by rfl) W.g_BadCall) pa_nil))))
(pss_one (ps_ret (pe_tup (pa_cons pe_str (pa_cons (pe_tup (pa_cons (pe_errP hp hz hf (pv 0)) (pa_cons (pe_errP hp hz hf (pv 0)) pa_nil))) pa_nil)))))
pss_nil)
(pss_cons (ps_if (pt_val (pe_callB (call_isPE hp hz hf) (by rfl) T.isinstance (by decide +kernel) (pa_cons (pv 0) (pa_cons (pe_refv (by rfl) W.g_UnknownCall) pa_nil))))
(pss_one (ps_ret (pe_tup (pa_cons pe_str (pa_cons (pe_errP hp hz hf (pv 0)) pa_nil)))))
pss_nil)
(pss_cons (ps_if (pt_val (pe_callB (call_isPE hp hz hf) (by rfl) T.isinstance (by decide +kernel) (pa_cons (pv 0) (pa_cons (pe_refv (by rfl) W.g_BadPlace) pa_nil))))
(pss_one (ps_ret (pe_tup (pa_cons pe_str (pa_cons (pe_errP hp hz hf (pv 0)) pa_nil)))))
pss_nil)
(pss_cons (ps_if (pt_val (pe_callB (call_isPE hp hz hf) (by rfl) T.isinstance (by decide +kernel) (pa_cons (pv 0) (pa_cons (pe_refv (by rfl) W.g_BadText) pa_nil))))
(pss_one (ps_ret (pe_tup (pa_cons pe_str (pa_cons (pe_errP hp hz hf (pv 0)) pa_nil)))))
pss_nil)
(pss_cons (ps_if (pt_val (pe_callB (call_isPE hp hz hf) (by rfl) T.isinstance (by decide +kernel) (pa_cons (pv 0) (pa_cons (pe_refv (by rfl) W.g_BadRow) pa_nil))))
(pss_one (ps_ret (pe_tup (pa_cons pe_str (pa_cons (pe_errP hp hz hf (pv 0)) pa_nil)))))
pss_nil)
(pss_one (ps_ret (pe_callP hp hz hf F_oth hr2 rfl H_oth.1 H_oth.2.1 H_oth.2.2 (pa_cons (pv 0) pa_nil))))))))))), ?_⟩
    obtain ⟨_, h⟩ := h
    · skip
      obtain ⟨rfl, dd, v, rfl, hd, q⟩ := h
      · skip
        refine ⟨_, rfl, .inl ⟨A.BadRule, dd, _, _, _, false, rfl, rfl, rfl, hd, W.ix_BadRule, .own _, W.k_BadRule_BadField, false, rfl, iteF ?_⟩⟩
        refine ⟨_, rfl, .inl ⟨A.BadRule, dd, _, _, _, false, rfl, rfl, rfl, hd, W.ix_BadRule, .own _, W.k_BadRule_BadModes, false, rfl, iteF ?_⟩⟩
        refine ⟨_, rfl, .inl ⟨A.BadRule, dd, _, _, _, false, rfl, rfl, rfl, hd, W.ix_BadRule, .own _, W.k_BadRule_BadCall, false, rfl, iteF ?_⟩⟩
        refine ⟨_, rfl, .inl ⟨A.BadRule, dd, _, _, _, false, rfl, rfl, rfl, hd, W.ix_BadRule, .own _, W.k_BadRule_UnknownCall, false, rfl, iteF ?_⟩⟩
        refine ⟨_, rfl, .inl ⟨A.BadRule, dd, _, _, _, false, rfl, rfl, rfl, hd, W.ix_BadRule, .own _, W.k_BadRule_BadPlace, false, rfl, iteF ?_⟩⟩
        refine ⟨_, rfl, .inl ⟨A.BadRule, dd, _, _, _, false, rfl, rfl, rfl, hd, W.ix_BadRule, .own _, W.k_BadRule_BadText, false, rfl, iteF ?_⟩⟩
        refine ⟨_, rfl, .inl ⟨A.BadRule, dd, _, _, _, false, rfl, rfl, rfl, hd, W.ix_BadRule, .own _, W.k_BadRule_BadRow, false, rfl, iteF ?_⟩⟩
        exact ⟨_, rfl, rfl, ⟨rfl, dd, v, rfl, hd, q⟩⟩
end
def TTried (A : EB) : (XK → Hp → VK → Prop) → Hp → VK → Prop := fun tl H Q =>
  tl (fun cls d H' => ClsE A cls ∧ ∀ a, H' a = none → spErrW A a cls d [.ref a] H' Q E0) H fun v H' => ([V.str "told", v] : List V).length ≤ sizeLine ∧ ∀ p, H' p = none → Q (.ref p) (upd H' p (.tup [.str "told", v]))
def tVarL (n i : Nat) : TE := fun σ H Q => ∃ v : V, (σ.length = n → σ[i]? = some (some v)) ∧ Q v H
theorem pe_varL {X : Cx} {x : Str} {n i : Nat} {pos : Pos} (hl : X.N.length = n) (hN : X.N[i]? = some x := by rfl) (hv : Vis X.env.scope x := by first | exact .inl rfl | exact .inr (.inl rfl)) (hd : (x == ("__debug__" : Str)) = false := by decide) (hcd : (x == ("__classdict__" : Str)) = false := by decide) :
    PE X (.Name x pos) (tVarL n i) := ⟨fun pins s σ H Q I ⟨v, h, q⟩ => (pe_var (i := i) hN hv hd hcd).run pins s σ H Q I ⟨v, h (I.len.trans hl), q⟩⟩
theorem tried_gives {X : Cx} {A : EB} {fe g : Addr} {fde : FuncData} {cdg : Value} {q : Str} (F : FnP X.prog X.w X.K X.mg X.base 2 fe fde ["_law_e"] (spErrW A)) (W : ErrN X.K X.mg A) (hm : X.mg "_law_error" = some (.ref fe)) (hk : PySem.W.keepIn X.K (.ref fe) = true) (hb : Binds X.K fde ["_law_e"] []) (hr : Room 4 X.A) :
    LamX.GivesTo X ["_law_deed", "_law_e"] "_law_tried" (defScope s_tried) g cdg (defBody s_tried) "_law_deed" q (TTried A) := by
  intro f c' s H Q tl act hc h
  have hrH : ∀ (a : Addr), L2H.RoomH 2 (((cxOf C8.CX0 X.prog X.w X.K X.mg X.base ["_law_deed", "_law_e"] "_law_tried" (defScope s_tried) g cdg X.A X.stack s H C8.E0).nox.A).mark (some (.ref a))) := fun a => by
    have r := (hr.mono (j := 3) (by decide)).deeper (envOfC "_law_tried" (defScope s_tried) s.heap.objs.size g cdg)
    exact ⟨r.dp, r.un⟩
  refine ⟨_, pss_one (ps_try_as (X := (cxOf C8.CX0 X.prog X.w X.K X.mg X.base ["_law_deed", "_law_e"] "_law_tried" (defScope s_tried) g cdg X.A X.stack s H C8.E0).nox) (c := .ref A.MakerError) (i := 1)
      (tb := fun W D σ H => ∃ Ech : XK, (∀ cls d σ' H', Ech cls d H' → W cls d σ' H') ∧ σ[0]? = some (some (.ref f)) ∧ H c' = some (LamX.CodeO c' q) ∧ tl Ech H fun v H' => ([V.str "told", v] : List V).length ≤ sizeLine ∧ ∀ p, H' p = none → D.rt (.ref p) (upd H' p (.tup [.str "told", v])))
      (ts := fun a cls d => tRet (tCallP (spErrW A) a cls d (tCons (tVarL 2 1) tNil)))
      (Wout := fun _ _ _ _ => False) rfl rfl sc_tried.nd rfl rfl ⟨rfl, by decide, .inl W.g_MakerError⟩ LamX.takes0 (fun W pn xe tk _ => ?_)
      (fun a oe cls d pn hz hf => pss_one (ps_ret (pe_callP (X := Cx.suite _ a ((a, oe) :: pn)) List.mem_cons_self hz hf F (hrH a) rfl hm hk hb (pa_cons (pe_varL rfl) pa_nil))))), ?_⟩
  · refine ⟨fun pins s' σ H' D I h' => ?_⟩
    obtain ⟨Ech, hW, h1, h2, h3⟩ := h'
    refine (pss_one (ps_ret (pe_tup (pa_cons pe_str (pa_cons (act W pn xe Ech _ _ tk hW) pa_nil))))).run pins s' σ H' D I ?_
    exact ⟨h1, h2, h3⟩
  · refine ⟨fun cls d H' => ClsE A cls ∧ ∀ a, H' a = none → spErrW A a cls d [.ref a] H' Q E0, fun cls d σ' H' ⟨hc, hE⟩ => ⟨true, ?_, fun _ a ha => ?_, fun z => nomatch z⟩, rfl, hc, h⟩
    · obtain rfl : cls = .ref A.BadRule := hc
      exact W.m_BadRule
    · exact ⟨.ref a, fun z => by rw [List.getElem?_set_self (by rw [List.length_set] at z; rw [z]; decide)], hE a ha⟩
/-- likewise, with tables of which it is told that they are tables -/
theorem pe_tried {X : Cx} {A : EB} {k : Nat} {g fe c P : Addr} {fd fde : FuncData} {params : Arguments} {body : Expr} {scope : Scope} {t : XK → TE} {p lpos pos : Pos} (F : DefX X.K X.mg "_law_tried" s_tried ["_law_deed"] g fd) (FE : FnP X.prog X.w X.K X.mg X.base 2 fe fde ["_law_e"] (spErrW A)) (W : ErrN X.K X.mg A)
    (he : X.mg "_law_error" = some (.ref fe) ∧ PySem.W.keepIn X.K (.ref fe) = true ∧ Binds X.K fde ["_law_e"] []) (TB : LamX.TabB X.base X.mg c P) (hcode : X.env.code = .ref c) (hr : Room (k + 4) X.A) (L : LamX.LamS X.env.scope scope) (hdef : defaultsOf params X.env = ([], []))
    (hbind : ∀ (q : Str) (cl : List (Str × Addr)) (pm cv ctv : Value), bindArgs (PySem.W.kla_fn "<lambda>" q params body scope cl pm cv ctv) ⟨[], []⟩ = pure [])
    (hbody : ∀ (A : Around) (outer : List Env) (s : Shared) (H : Hp) (E : XK) (f c' : Addr), Room k (A.deeper (LamX.lamEnv X scope s.heap.objs.size f c')) → PE (LamX.lamCx X A outer s H E scope f c') body (t E)) (hg : Gl X "_law_tried" := by rfl) :
    PE X (.Call (.Name "_law_tried" p) [.Lambda params body scope lpos] [] pos) (LamX.tLam [(P, X.env.qual ++ "<lambda>")] (TTried A) t) := by
  obtain ⟨oc, od, kV, doc, pm, an, cdv, ct, osl, e, lk, hcd⟩ := F.fn.ex
  subst e
  exact LamX.pe_lamcall (a := "_law_deed") hg F.mgf F.fn.kp lk hcd F.bi sc_tried rfl (.inl rfl) (tried_gives FE W he.1 he.2.1 he.2.2 (hr.mono (by omega))) TB hcode List.mem_cons_self (fun q hq _ => by rw [List.mem_singleton.mp hq]) (hr.mono (by omega)) L hdef hbind hbody
end MK
set_option Elab.async false
set_option linter.all false
set_option autoImplicit false
set_option maxRecDepth 100000
set_option maxHeartbeats 4000000
namespace MK
open PySem PySem.Spec PyProof.Rows L2
open C8 (Met pe_mt pe_mt0 Mak pe_mk)
local macro_rules | `(tactic| walk_at "x") => `(tactic| dsimp only [tSeq, tAsg, tRet, tDrop, tLst, tTup, tCons, tOp, tUn, tIfS])
theorem sc_Orders_init : FnScope ["self", "kind", "rules", "index", "rule", "name", "sort", "need", "table"] ["self", "kind", "rules"] (defScope s_Orders_init) := ⟨rfl, rfl, rfl, by decide +kernel, rfl, by decide +kernel, by decide +kernel⟩
/-- at d, under each text, its own list, at L -/
structure SrcT (H : Hp) (d : Addr) (L : List Addr) (zs : List Str) (S : Str → List Str) : Prop where
  dk : H d = some (.dK ((zs.map Sum.inr).zip (L.map V.ref)))
  len : L.length = zs.length
  nd : L.Nodup
  off : d ∉ L
  at_ : ∀ (i : Nat) z l, zs[i]? = some z → L[i]? = some l → H l = some (.lst ((S z).map V.str))
theorem zipT_put {zs : List Str} {L : List Addr} {z : Str} {p : Addr} (h : z ∉ zs) (l : L.length = zs.length) : putK ((zs.map (Sum.inr : Str → L2.Key)).zip (L.map V.ref)) (.inr z) (.ref p) = (((zs ++ [z]).map (Sum.inr : Str → L2.Key)).zip ((L ++ [p]).map V.ref)) := by
  unfold putK
  rw [if_neg]
  · rw [List.map_append, List.map_append, List.zip_append (by rw [List.length_map, List.length_map, l])]
    rfl
  · rw [List.any_eq_true]
    rintro ⟨⟨a, b⟩, m, e⟩
    have e' : a = Sum.inr z := of_decide_eq_true e
    obtain ⟨y, hy, q⟩ := List.mem_map.mp (List.of_mem_zip m).1
    rw [e'] at q
    exact h (Sum.inr.inj q ▸ hy)
theorem SrcT.keep {H H' : Hp} {d : Addr} {L : List Addr} {zs : List Str} {S : Str → List Str} (e : Same H H') (h : SrcT H d L zs S) : SrcT H' d L zs S := ⟨e _ _ h.dk, h.len, h.nd, h.off, fun i z l a b => e _ _ (h.at_ i z l a b)⟩
theorem SrcT.lsts {H : Hp} {d : Addr} {L : List Addr} {zs : List Str} {S : Str → List Str} (h : SrcT H d L zs S) {l : Addr} (m : l ∈ L) : ∃ ys, H l = some (.lst ys) := by
  obtain ⟨j, hj⟩ := List.mem_iff_getElem?.mp m
  have lt : j < zs.length := by rw [← h.len]; exact (List.getElem?_eq_some_iff.mp hj).1
  exact ⟨_, h.at_ j _ l (List.getElem?_eq_getElem lt) hj⟩
theorem SrcT.put {H : Hp} {d q : Addr} {o : HO} {L : List Addr} {zs : List Str} {S : Str → List Str} (h : SrcT H d L zs S) (n1 : q ∉ L) (n2 : q ≠ d) : SrcT (upd H q o) d L zs S := ⟨(upd_ne n2.symm).trans h.dk, h.len, h.nd, h.off, fun i z l a b => (upd_ne fun e => n1 (by rw [← e]; exact List.mem_of_getElem? b)).trans (h.at_ i z l a b)⟩
theorem SrcT.get {H : Hp} {d : Addr} {L : List Addr} {zs : List Str} {S : Str → List Str} (h : SrcT H d L zs S) (nd : zs.Nodup) {z : Str} (m : z ∈ zs) : ∃ (i : Nat) (l : Addr), zs[i]? = some z ∧ L[i]? = some l ∧ valV ((zs.map (Sum.inr : Str → L2.Key)).zip (L.map V.ref)) (.inr z) = some (.ref l) ∧ H l = some (.lst ((S z).map V.str)) := by
  obtain ⟨i, hi⟩ := List.mem_iff_getElem?.mp m
  have lt := (List.getElem?_eq_some_iff.mp hi).1
  have hl : L[i]? = some (L[i]'(by rw [h.len]; exact lt)) := List.getElem?_eq_getElem _
  refine ⟨i, _, hi, hl, ?_, h.at_ i z _ hi hl⟩
  refine val_nodup (κ := L2.Key) ?_ ((Sum.inr z : L2.Key), V.ref _) (List.mem_of_getElem? (i := i) ?_)
  · rw [zip_fst (by rw [List.length_map, List.length_map, h.len])]
    exact List.Pairwise.map Sum.inr (fun _ _ h1 h2 => h1 (Sum.inr.inj h2)) nd
  · rw [List.getElem?_zip_eq_some]
    exact ⟨by rw [List.getElem?_map, hi]; rfl, by rw [List.getElem?_map, hl]; rfl⟩
theorem SrcT.app {H : Hp} {d : Addr} {L : List Addr} {zs : List Str} {S : Str → List Str} (h : SrcT H d L zs S) (nd : zs.Nodup) {i : Nat} {z y : Str} {l : Addr} (hi : zs[i]? = some z) (hl : L[i]? = some l) : SrcT (upd H l (.lst ((S z).map V.str ++ [.str y]))) d L zs fun u => if z = u then S u ++ [y] else S u := by
  have ml := List.mem_of_getElem? hl
  refine ⟨(upd_ne fun e => h.off (by rw [e]; exact ml)).trans h.dk, h.len, h.nd, h.off, fun j u k h1 h2 => ?_⟩
  by_cases e : j = i
  · subst e
    rw [hi] at h1
    rw [hl] at h2
    cases h1
    cases h2
    rw [upd_same, if_pos rfl, List.map_append]
    rfl
  · have ne : ¬ z = u := fun q => e (by
      subst q
      exact (List.getElem?_inj (List.getElem?_eq_some_iff.mp h1).1 nd).mp (h1.trans hi.symm))
    have nk : k ≠ l := fun q => e (by
      subst q
      exact (List.getElem?_inj (List.getElem?_eq_some_iff.mp h2).1 h.nd).mp (h2.trans hl.symm))
    rw [if_neg ne]
    exact (upd_ne nk).trans (h.at_ j u k h1 h2)
theorem SrcT.congr {H : Hp} {d : Addr} {L : List Addr} {zs : List Str} {S S' : Str → List Str} (h : SrcT H d L zs S) (e : ∀ z, S' z = S z) : SrcT H d L zs S' := ⟨h.dk, h.len, h.nd, h.off, fun i z l a b => by rw [e z]; exact h.at_ i z l a b⟩
theorem want_snoc (rs : List RU) (r : RU) (z : Str) : wantL (rs ++ [r]) z = if r.tag = Str.ofString "ahead" then (if r.b = z then wantL rs z ++ [r.a] else wantL rs z) else wantL rs z := by
  unfold wantL
  rw [List.filter_append]
  by_cases h : r.tag = Str.ofString "ahead"
  · by_cases g : r.b = z
    · rw [if_pos h, if_pos g, List.filter_cons_of_pos (by simp [h, g]), List.map_append]
      rfl
    · rw [if_pos h, if_neg g, List.filter_cons_of_neg (by simp [g]), List.filter_nil, List.append_nil]
  · rw [if_neg h, List.filter_cons_of_neg (by simp [h]), List.filter_nil, List.append_nil]
theorem bar_snoc (rs : List RU) (r : RU) (z : Str) : barL (rs ++ [r]) z = if r.tag = Str.ofString "ahead" then barL rs z else (if r.b = z then barL rs z ++ [r.a] else barL rs z) := by
  unfold barL
  rw [List.filter_append]
  by_cases h : r.tag = Str.ofString "ahead"
  · rw [if_pos h, List.filter_cons_of_neg (by simp [h]), List.filter_nil, List.append_nil]
  · by_cases g : r.b = z
    · rw [if_neg h, if_pos g, List.filter_cons_of_pos (by simp [h, g]), List.map_append]
      rfl
    · rw [if_neg h, if_neg g, List.filter_cons_of_neg (by simp [g]), List.filter_nil, List.append_nil]
theorem rd_names {K : PySem.W.Frag} {KC : Addr} {x0 kv x2 x3 x4 x5 x6 x7 x8 : Option V} {H : Hp} {Q : VK} {fs : List FD} {n : Nat} {cs : List CD} {kvv : V} (ek : kv = some kvv) (kd : KdA K KC H kvv fs n cs) (c6 : cs.length ≤ 6) (nd : (cs.map (·.nm)).Nodup)
    (q : ∀ H' D L, Same H H' → H D = none → (∀ l ∈ L, H l = none) → SrcT H' D L (cs.map (·.nm)) (fun _ => []) → Q (.ref D) H') :
    tLockE (tDc (iOwn KC "table" (tVar 1)) (gName 5) tYes (tVar 5) (tLst tNil) [5]) [x0, kv, x2, x3, x4, x5, x6, x7, x8] H Q := by
  subst ek
  obtain ⟨x, dx, so, sp, tb, t, st, tv, sv, rfl, h1, h2, h3, h4, h5, h6, h7, h8⟩ := kd
  refine ⟨tb, _, h8, trivial, fun od => ?_⟩
  have hL : upd H tb (.frz od (.dK (tableV cs sv))) tb = some (.frz od (.dK (tableV cs sv))) := upd_same
  have oL : ∀ {c : Addr}, c ≠ tb → upd H tb (.frz od (.dK (tableV cs sv))) c = H c := fun n => upd_ne n
  have xt : x ≠ tb := fun e => by rw [e, h8] at h1; cases h1
  have lkv : (tableV cs sv).length = cs.length := by
    unfold tableV
    rw [List.length_zipWith, h7.1, Nat.min_self]
  generalize upd H tb (.frz od (.dK (tableV cs sv))) = HL at hL oL ⊢
  refine ⟨_, rfl, x, dx, tb, _, od, _, rfl, (oL xt).trans h1, rfl, hL, fun D hD => ?_⟩
  have Dt : D ≠ tb := fun e => by rw [e, hL] at hD; cases hD
  refine dc_it (walk_keys (d := tb) (o := od) (kvs := tableV cs sv)) (fun i H2 => Same HL H2 ∧ ∃ L, (∀ l ∈ L, HL l = none) ∧ SrcT H2 D L ((cs.take i).map (·.nm)) (fun _ => [])) ⟨same_new (Same.refl HL) hD, [], nofun, upd_same, rfl, List.nodup_nil, nofun, fun i z l h => by simp at h⟩ (fun i H2 _ h => h.1 _ _ hL) ?_ ?_
  · rintro i _ H2 H3 hi ⟨e2, L, fr, si⟩ ⟨rfl, ky, v0, hkv, rfl⟩
    rw [lkv] at hi
    have hcd : cs[i]? = some cs[i] := List.getElem?_eq_getElem hi
    generalize cs[i] = cd at hcd
    obtain ⟨cv, hcv, _⟩ := h7.get' hcd
    rw [table_at hcd hcv] at hkv
    cases hkv
    have lL := si.len
    rw [List.length_map, List.length_take] at lL
    have nin : cd.nm ∉ (cs.take i).map (·.nm) := by
      rw [List.map_take]
      intro m
      obtain ⟨j, hj⟩ := List.mem_iff_getElem?.mp m
      rw [List.getElem?_take] at hj
      split at hj
      · rename_i lt
        have hc2 : (cs.map (·.nm))[i]? = some cd.nm := by rw [List.getElem?_map, hcd]; rfl
        exact Nat.lt_irrefl i ((List.getElem?_inj (List.getElem?_eq_some_iff.mp hj).1 nd).mp (hj.trans hc2.symm) ▸ lt)
      · cases hj
    refine ⟨rfl, _, rfl, by show 0 ≤ sizeLine; decide, fun p hp => ?_⟩
    have e3 := same_new (o := .lst []) (Same.refl H3) hp
    have s3 := si.keep e3
    have pD : p ≠ D := fun e => by rw [e, si.dk] at hp; cases hp
    have pL : p ∉ L := fun m => by
      obtain ⟨ys, e⟩ := si.lsts m
      rw [e] at hp
      cases hp
    refine ⟨_, .inr cd.nm, rfl, s3.dk, ?_, fun c o hc => (upd_ne (fun z => by rw [z, hD] at hc; cases hc)).trans (e3 _ _ (e2 _ _ hc)), L ++ [p], fun l m => (List.mem_append.mp m).elim (fr l) fun z => ?_, ?_⟩
    · rw [List.length_zip, List.length_map, List.length_map, List.length_map, List.length_take]
      show _ < 2 ^ 24
      omega
    · rw [List.mem_singleton.mp z]
      exact none_of e2 hp
    · rw [zipT_put nin si.len, show (cs.take (i + 1)).map (·.nm) = (cs.take i).map (·.nm) ++ [cd.nm] by rw [take_next' hcd, List.map_append]; rfl]
      refine ⟨upd_same, by rw [List.length_append, List.length_append, si.len]; rfl, ?_, ?_, fun j z l h1 h2 => ?_⟩
      · rw [List.nodup_append]
        exact ⟨si.nd, List.nodup_cons.mpr ⟨List.not_mem_nil, List.nodup_nil⟩, fun a ha b hb e => pL ((List.mem_singleton.mp hb) ▸ e ▸ ha)⟩
      · rw [List.mem_append, List.mem_singleton]
        exact fun h => h.elim si.off fun e => pD e.symm
      · by_cases q : j < L.length
        · rw [List.getElem?_append_left q] at h2
          rw [List.getElem?_append_left (by rw [← si.len]; exact q)] at h1
          exact (upd_ne fun e => si.off (by rw [← e]; exact List.mem_of_getElem? h2)).trans (s3.at_ j z l h1 h2)
        · rw [List.getElem?_append_right (by omega)] at h2
          have z0 : j - L.length = 0 := by
            have := (List.getElem?_eq_some_iff.mp h2).1
            rw [List.length_singleton] at this
            omega
          rw [z0] at h2
          cases h2
          exact (upd_ne pD).trans upd_same
  · rintro H2 ⟨e2, L, fr, si⟩
    rw [lkv, List.take_length] at si
    refine ⟨e2 _ _ hL, ?_⟩
    have Ltb : ∀ l ∈ L, l ≠ tb := fun l m e => by
      have := fr l m
      rw [e, hL] at this
      cases this
    refine q _ D L (fun c o hc => ?_) (by rw [← oL Dt]; exact hD) (fun l m => by rw [← oL (Ltb l m)]; exact fr l m) ⟨(upd_ne Dt).trans si.dk, si.len, si.nd, si.off, fun i z l a b => (upd_ne (Ltb l (List.mem_of_getElem? b))).trans (si.at_ i z l a b)⟩
    by_cases e : c = tb
    · subst e
      rw [upd_same, ← hc, h8]
    · exact (upd_ne e).trans (e2 _ _ ((oL e).trans hc))
theorem pi_sqVK {X : Cx} {K : PySem.W.Frag} {tg e : Expr} {i : Nat} (hK : X.K = K) (h : PE X e (tVar i)) : PI X tg e (iSqS K (tVar i)) := by
  subst hK
  exact pi_sqV h
def ruOf (d : Dt) : RU := match sqD d with
  | some [x, y] => ⟨txtD x, txtD y, txtD y⟩
  | some [x, y, z] => ⟨txtD x, txtD y, txtD z⟩
  | _ => ⟨Str.empty, Str.empty, Str.empty⟩
theorem isS_str {z : Str} {x : Dt} (h : isS z x = true) : x = .str z := by
  cases x with
  | str y => rw [show y = z from of_decide_eq_true h]
  | _ => cases h
theorem nameD_str {cs : List CD} {x : Dt} (h : nameD cs x = true) : ∃ z, x = .str z ∧ z ∈ cs.map (·.nm) := by
  cases x with
  | str y => exact ⟨y, rfl, of_decide_eq_true h⟩
  | _ => cases h
theorem rule_at {K : PySem.W.Frag} {H : Hp} {v : V} {cs : List CD} {d : Dt} (s : Sh K H v d) (h : ruleD cs d = true) : ∃ (p : Addr) (vs : List V) (m : Nat), v = .ref p ∧ (SqL K H p vs ∨ SqT K H p vs) ∧ vs[0]? = some (.str (ruOf d).tag) ∧ vs[1]? = some (.str (ruOf d).a) ∧ vs.length = m + 1 ∧ vs[m]? = some (.str (ruOf d).b) ∧ (ruOf d).a ∈ cs.map (·.nm) ∧ (ruOf d).b ∈ cs.map (·.nm) := by
  unfold ruleD at h
  cases hq : sqD d with
  | none => rw [hq] at h; cases h
  | some xs =>
    rw [hq] at h
    obtain ⟨vs, ⟨p, rfl, sq⟩, al, _⟩ := s.sq hq
    match xs, hq, al, h with
    | [], hq, al, h => cases h
    | [x], hq, al, h => cases h
    | [x, y], hq, al, h =>
      have h : ((nameD cs y && true) && (if isS (Str.ofString "once") x then decide (1 = 1) else (isS (Str.ofString "ahead") x || isS (Str.ofString "bar") x) && decide (1 = 2) && false)) = true := h
      rw [Bool.and_eq_true, Bool.and_eq_true] at h
      obtain ⟨b, rfl, hb⟩ := nameD_str h.1.1
      have hx : isS (Str.ofString "once") x = true := by
        cases q : isS (Str.ofString "once") x with
        | true => rfl
        | false =>
          have := h.2
          rw [q] at this
          simp at this
      obtain rfl := isS_str hx
      have e : ruOf d = ⟨Str.ofString "once", b, b⟩ := by unfold ruOf; rw [hq]; rfl
      rw [e]
      obtain ⟨v1, v2, rfl⟩ := len2 al.1
      obtain ⟨rfl, _⟩ := (al.2 0 v1 _ rfl rfl).str'
      obtain ⟨rfl, _⟩ := (al.2 1 v2 _ rfl rfl).str'
      exact ⟨p, _, 1, rfl, sq, rfl, rfl, rfl, rfl, hb, hb⟩
    | [x, y, z], hq, al, h =>
      have h : ((nameD cs y && (nameD cs z && true)) && (if isS (Str.ofString "once") x then decide (2 = 1) else (isS (Str.ofString "ahead") x || isS (Str.ofString "bar") x) && decide (2 = 2) && !decide (txtD y = txtD z))) = true := h
      rw [Bool.and_eq_true, Bool.and_eq_true, Bool.and_eq_true] at h
      obtain ⟨b, rfl, hb⟩ := nameD_str h.1.1
      obtain ⟨c, rfl, hc⟩ := nameD_str h.1.2.1
      have hx : ∃ t, x = .str t := by
        cases q : isS (Str.ofString "once") x with
        | true => exact ⟨_, isS_str q⟩
        | false =>
          have := h.2
          rw [q] at this
          cases q1 : isS (Str.ofString "ahead") x with
          | true => exact ⟨_, isS_str q1⟩
          | false =>
            cases q2 : isS (Str.ofString "bar") x with
            | true => exact ⟨_, isS_str q2⟩
            | false =>
              rw [q1, q2] at this
              simp at this
      obtain ⟨t, rfl⟩ := hx
      have e : ruOf d = ⟨t, b, c⟩ := by unfold ruOf; rw [hq]; rfl
      rw [e]
      obtain ⟨v1, v2, v3, rfl⟩ := len3 al.1
      obtain ⟨rfl, _⟩ := (al.2 0 v1 _ rfl rfl).str'
      obtain ⟨rfl, _⟩ := (al.2 1 v2 _ rfl rfl).str'
      obtain ⟨rfl, _⟩ := (al.2 2 v3 _ rfl rfl).str'
      exact ⟨p, _, 2, rfl, sq, rfl, rfl, rfl, rfl, hb, hc⟩
    | x :: y :: z :: u :: rest, hq, al, h =>
      have h : ((nameD cs y && (nameD cs z && (nameD cs u && rest.all (nameD cs)))) && (if isS (Str.ofString "once") x then decide ((y :: z :: u :: rest).length = 1) else (isS (Str.ofString "ahead") x || isS (Str.ofString "bar") x) && decide ((y :: z :: u :: rest).length = 2) && false)) = true := by
        have e : decide (2 ≤ (x :: y :: z :: u :: rest).length) = true := decide_eq_true (by simp)
        have h' : (decide (2 ≤ (x :: y :: z :: u :: rest).length) && (nameD cs y && (nameD cs z && (nameD cs u && rest.all (nameD cs)))) && (if isS (Str.ofString "once") x then decide ((y :: z :: u :: rest).length = 1) else (isS (Str.ofString "ahead") x || isS (Str.ofString "bar") x) && decide ((y :: z :: u :: rest).length = 2) && false)) = true := h
        rw [e, Bool.true_and] at h'
        exact h'
      rw [Bool.and_eq_true] at h
      have h2 := h.2
      split at h2
      · simp at h2
      · simp at h2
def spOInit (K : PySem.W.Frag) (OC KC : Addr) : Sp := fun vs H Q _ => ∃ (a dx : Addr) (kv rv : V) (fs : List FD) (n : Nat) (cs : List CD) (D0 : Dt) (ds : List Dt), vs = [.ref a, kv, rv] ∧ H a = some (.ins OC dx []) ∧ KdA K KC (Off a H) kv fs n cs ∧ KdOk fs n cs ∧ Sh K (Off a H) rv D0 ∧ sqD D0 = some ds ∧ ds.length ≤ 10 ∧ (∀ d ∈ ds, ruleD cs d = true ∧ FlatHd d) ∧
  ∀ H', Same (Off a H) H' → (∃ tb, OrR K OC KC H' a kv tb ⟨fs, n, cs, ds.map ruOf⟩ ∧ ∃ kvs, H' tb = some (.dK kvs)) → Q .non H'
section
variable {P : Program} {w : World} {K : PySem.W.Frag} {mg : Str → Option Value} {base : Heap} {OC KC fi : Addr} {fdi : FuncData}
theorem ok_oinit {f : Addr} {fd : FuncData} (F : FunU K "__init__" "Orders.__init__" s_Orders_init f fd) (T : Txt K mg) (Z : OCls K OC) (ZK : KCls K KC) (c_is_list : Cal P w K mg base CX0 1 "is_list" (spListX K)) (c_is_rule : Cal P w K mg base CX0 3 "is_rule" (spRuleX K KC))
    (H_iter : FnS P w K mg base 1 fi fdi ["self"] (spIter KC "table") ∧ PySem.W.findIn K (.ref KC) "__iter__" = some (some (.ref fi)) ∧ PySem.W.isFn K (.ref fi) = true ∧ Binds K fdi ["self"] []) : FnOk P w K mg base CX0 4 f fd ["self", "kind", "rules"] (spOInit K OC KC) := by
  refine F.ok sc_Orders_init (fun vs H Q E h => ?_) (fun cdv A outer sh H vs Q E hr h => ?_)
  · obtain ⟨a, dx, kv, rv, _, _, _, _, _, rfl, _⟩ := h
    rfl
  · obtain ⟨a, dx, kv, rv, fs, n, cs, D0, ds, rfl, ha, kd, ok, sh, hds, l10, all, q⟩ := h
    refine ⟨_, (pss_cons (ps_if (pt_not (pt_val (pe_c c_is_list hr (by first | decide | assumption) rfl (pa_cons (pv 2) pa_nil))))
(pss_one (ps_never))
pss_nil)
(pss_cons (ps_for PassesOwn.never rfl (pi_enV (by rfl) T.enumerate (pa_cons (pv 2) pa_nil)) (pg_tup (by rfl) (pgs_cons (pg_name (i := 3) sc_Orders_init.nd rfl (Or.inl rfl)) (pgs_cons (pg_name (i := 4) sc_Orders_init.nd rfl (Or.inl rfl)) pgs_nil)))
(pss_one (ps_if (pt_not (pt_val (pe_c c_is_rule hr (by first | decide | assumption) rfl (pa_cons (pv 1) (pa_cons (pv 4) pa_nil)))))
(pss_one (ps_never))
pss_nil)))
(pss_cons (ps_fld (pv 0) (pv 1) rfl)
(pss_cons (ps_fld (pv 0) (pe_lc (own := [("name", 5), ("sort", 6), ("need", 7)]) (g := (gTup K 3 (gCons (gName 5) (gCons (gName 6) (gCons (gName 7) gNil))))) (tt := tYes) rfl sc_Orders_init.nd (pi_tup (pe_fld (pv 1) rfl)) (blkOk_by (own := [("name", 5), ("sort", 6), ("need", 7)]) (N := ["self", "kind", "rules", "index", "rule", "name", "sort", "need", "table"]) (sc := defScope s_Orders_init) (by decide +kernel)) (fun _ _ _ _ _ => (pg_tup (by rfl) (pgs_cons (pg_name (i := 5) sc_Orders_init.nd rfl (Or.inl rfl)) (pgs_cons (pg_name (i := 6) sc_Orders_init.nd rfl (Or.inl rfl)) (pgs_cons (pg_name (i := 7) sc_Orders_init.nd rfl (Or.inl rfl)) pgs_nil))))) (fun _ _ _ _ _ => pts_nil) (fun _ _ _ _ _ => (pv 7))) rfl)
(pss_cons (ps_fld (pv 0) (pe_lock (pe_dc (own := [("name", 5)]) (g := (gName 5)) (tt := tYes) rfl sc_Orders_init.nd (pi_own (pv 1) H_iter.1 H_iter.2.1 H_iter.2.2.1 H_iter.2.2.2 (hr.mono (by decide))) (blkOk_by (own := [("name", 5)]) (N := ["self", "kind", "rules", "index", "rule", "name", "sort", "need", "table"]) (sc := defScope s_Orders_init) (by decide +kernel)) (fun _ _ _ _ _ => (pg_name (i := 5) sc_Orders_init.nd rfl (Or.inl rfl))) (fun _ _ _ _ _ => pts_nil) (fun _ _ _ _ _ => (pv 5)) (fun _ _ _ _ _ => (pe_lst pa_nil)))) rfl)
(pss_cons (ps_fld (pv 0) (pe_lock (pe_dc (own := [("name", 5)]) (g := (gName 5)) (tt := tYes) rfl sc_Orders_init.nd (pi_own (pv 1) H_iter.1 H_iter.2.1 H_iter.2.2.1 H_iter.2.2.2 (hr.mono (by decide))) (blkOk_by (own := [("name", 5)]) (N := ["self", "kind", "rules", "index", "rule", "name", "sort", "need", "table"]) (sc := defScope s_Orders_init) (by decide +kernel)) (fun _ _ _ _ _ => (pg_name (i := 5) sc_Orders_init.nd rfl (Or.inl rfl))) (fun _ _ _ _ _ => pts_nil) (fun _ _ _ _ _ => (pv 5)) (fun _ _ _ _ _ => (pe_lst pa_nil)))) rfl)
(pss_cons (ps_for PassesOwn.never rfl (pi_sqV (pv 2)) (pg_name (i := 4) sc_Orders_init.nd rfl (Or.inl rfl))
(pss_cons (ps_set (i := 8) sc_Orders_init.nd rfl (Or.inl rfl) (pe_cut (pe_ifExp (pt_cmpR op_eq (pe_ix ix_seq (pv 4) pe_int (fun _ _ => rfl)) pe_str (nomark _)) (pe_fld (pv 0) rfl) (pe_fld (pv 0) rfl))))
(pss_one (ps_expr (pe_bm PySem.F.plainAttrs_list PySem.F.slot_list_append PySem.F.type_list_append mt_append (pe_dget (hu_of hr) (pv 8) (pe_ix ix_seq (pv 4) (pe_un un_neg pe_int) (fun _ _ => rfl)) (fun _ _ => rfl)) (pa_cons (pe_ix ix_seq (pv 4) pe_int (fun _ _ => rfl)) pa_nil))))))
(pss_one (ps_fld (pv 0) (pe_lock (pe_lc (own := [("name", 5)]) (g := (gName 5)) rfl sc_Orders_init.nd (pi_own (pv 1) H_iter.1 H_iter.2.1 H_iter.2.2.1 H_iter.2.2.2 (hr.mono (by decide))) (blkOk_by (own := [("name", 5)]) (N := ["self", "kind", "rules", "index", "rule", "name", "sort", "need", "table"]) (sc := defScope s_Orders_init) (by decide +kernel)) (fun _ _ _ _ _ => (pg_name (i := 5) sc_Orders_init.nd rfl (Or.inl rfl))) (fun _ _ _ _ _ => (pts_one (pt_cmpR (op_in_seqK (K := K) rfl) (pv 5) (pe_lc (own := [("rule", 4)]) (g := (gName 4)) (tt := tYes) rfl sc_Orders_init.nd (pi_sqVK (K := K) rfl (pv 2)) (blkOk_by (own := [("rule", 4)]) (N := ["self", "kind", "rules", "index", "rule", "name", "sort", "need", "table"]) (sc := { kind := .function, names := [(".0", .local), ("name", .local), ("rules", .cell)], isGenerator := false, isCoroutine := false }) (by decide +kernel)) (fun _ _ _ _ _ => (pg_name (i := 4) sc_Orders_init.nd rfl (Or.inl rfl))) (fun _ _ _ _ _ => pts_nil) (fun _ _ _ _ _ => (pe_ix (ix_seqK (K := K) rfl) (pv 4) pe_int (fun _ _ => rfl)))) (by rfl)))) (fun _ _ _ _ _ => (pv 5)))) rfl))))))))), ?_⟩
    have kdH := kd.keep off_same
    have shH := sh.keep off_same
    have h0 : isSq D0 = true := by rw [isSq_iff, hds]; rfl
    refine ⟨_, rfl, rv, D0, rfl, shH, fun H1 e1 => ⟨true, congrArg V.bl h0, iteF ?_⟩⟩
    obtain ⟨vs, ⟨ra, rfl, hs⟩, al, few⟩ := (shH.keep e1).sq hds
    refine ⟨_, rfl, ra, vs, H1, rfl, hs, Same.refl H1, fun J GG wk gk => ?_⟩
    refine for_it wk (fun i σ H2 => Same H1 H2 ∧ ∃ x3 x4, σ = [some (.ref a), some kv, some (.ref ra), x3, x4, none, none, none, none]) ⟨Same.refl H1, none, none, rfl⟩ (fun i σ H2 _ h => gk _ h.1) ?_ ?_
    · rintro i _ σ H2 _ hi ⟨e2, x3, x4, rfl⟩ ⟨T, u, v, rfl, hT, rfl, hu, hv⟩
      have hu : some (V.int (i : Nat)) = some u := hu
      obtain rfl := Option.some.inj hu
      obtain ⟨d, hd, sd⟩ := al.get hv
      obtain ⟨hr1, hf1⟩ := all d (List.mem_of_getElem? hd)
      have e3 := same_new (o := .tup [.int (i : Nat), v]) e2 hT
      have t3 : SqT K (upd H2 T (.tup [.int (i : Nat), v])) T [.int (i : Nat), v] := SqT.of upd_same
      generalize upd H2 T (.tup [.int (i : Nat), v]) = H3 at e3 t3 ⊢
      refine ⟨T, _, rfl, t3, rfl, _, _, rfl, _, _, rfl, rfl, ?_⟩
      exact ⟨_, rfl, _, rfl, kv, v, fs, n, cs, d, rfl, kdH.keep (e1.trans e3), sd.keep e3, hf1, fun H4 e4 => ⟨true, congrArg V.bl hr1, iteF ⟨e3.trans e4, _, _, rfl⟩⟩⟩
    · rintro σ H2 ⟨e2, x3, x4, rfl⟩
      have e02 := e1.trans e2
      have offs : ∀ {G : Hp} {o : HO}, Same (Off a H) (Off a G) → Same (Off a H) (Off a (upd G a o)) := fun h => by rw [off_put]; exact h
      have s02 : Same (Off a H) (Off a H2) := same_off e02
      have a2 := e02 _ _ ha
      obtain ⟨x, kx, so, sp, tb, t, st, tv, sv, rfl, h1, ⟨ta, rfl, h2⟩, h3, h4, h5, h6, h7, h8⟩ := id kd
      refine ⟨_, rfl, _, rfl, a, OC, dx, _, rfl, a2, Z.cls, Z.kind, Nat.le_of_ble_eq_true rfl, ?_⟩
      have sA := offs (o := .ins OC dx (putF "kind" (.ref x) [])) s02
      have aA : upd H2 a (.ins OC dx (putF "kind" (.ref x) [])) a = some (.ins OC dx [("kind", .ref x)]) := upd_same
      generalize upd H2 a (.ins OC dx (putF "kind" (.ref x) [])) = HA at sA aA ⊢
      have kA : KdA K KC (Off a HA) (.ref x) fs n cs := kd.keep sA
      have up : ∀ {G : Hp}, Same (Off a H) (Off a G) → Same (Off a H) G := fun h => h.trans off_same
      have few3 := ok.fields.le
      refine ⟨_, rfl, x, KC, kx, _, .ref ta, rfl, up sA _ _ h1, ZK.cls, ZK.triples, rfl, ta, rfl, ⟨tv, same_t (up sA) h2⟩, fun L hL => ?_⟩
      refine lc_it (walk_tup (K := K) (a := ta) (xs := tv)) (fun i H3 => Same HA H3 ∧ H3 L = some (.lst ((fs.take i).map fun f => V.bl f.need))) ⟨same_new (Same.refl HA) hL, upd_same⟩ (fun i H3 _ h => same_t ((up sA).trans h.1) h2) ?_ ?_
      · rintro i y H4 H3 hi ⟨e3, l3⟩ ⟨rfl, hy⟩
        obtain ⟨f0, hf0, ft, rfl, hft⟩ := h3.get hy
        have lfs := h3.1
        refine ⟨ft, _, rfl, same_t ((up sA).trans e3) hft, rfl, _, _, rfl, _, _, rfl, _, _, rfl, rfl, rfl, ?_⟩
        refine ⟨_, rfl, _, l3, ?_, fun c o hc => (upd_ne (fun z => by rw [z, hL] at hc; cases hc)).trans (e3 _ _ hc), ?_⟩
        · rw [List.length_map, List.length_take]
          show _ < 2 ^ 24
          omega
        · rw [upd_same, List.take_succ, hf0, List.map_append]
          rfl
      rintro H3 ⟨e3, l3⟩
      rw [h3.1, List.take_length] at l3
      have a3 := e3 _ _ aA
      have s3 : Same (Off a H) (Off a H3) := sA.trans (same_off e3)
      refine ⟨_, rfl, a, OC, dx, _, rfl, a3, Z.cls, Z.needed, Nat.le_of_ble_eq_true rfl, ?_⟩
      have La : L ≠ a := fun e => by rw [e, aA] at hL; cases hL
      have sB := offs (o := .ins OC dx (putF "needed" (.ref L) [("kind", .ref x)])) s3
      have aB : upd H3 a (.ins OC dx (putF "needed" (.ref L) [("kind", .ref x)])) a = some (.ins OC dx [("kind", .ref x), ("needed", .ref L)]) := upd_same
      have lB : upd H3 a (.ins OC dx (putF "needed" (.ref L) [("kind", .ref x)])) L = some (.lst (fs.map fun f => V.bl f.need)) := (upd_ne La).trans l3
      generalize upd H3 a (.ins OC dx (putF "needed" (.ref L) [("kind", .ref x)])) = HB at sB aB lB ⊢
      have kB := (kd.keep sB).keep off_same
      dsimp only [tSeq, sFld]
      refine rd_names rfl kB ok.cle ok.nd fun HC wa LW eC wan LWn sw => ?_
      have wa0 : wa ≠ a := fun e => by rw [e, aB] at wan; cases wan
      have LWa : ∀ l ∈ LW, l ≠ a := fun l m e => by
        have := LWn l m
        rw [e, aB] at this
        cases this
      have aC := eC _ _ aB
      have lC := eC _ _ lB
      have sC : Same (Off a H) (Off a HC) := sB.trans (same_off eC)
      refine ⟨_, rfl, a, OC, dx, _, rfl, aC, Z.cls, Z.wanted, Nat.le_of_ble_eq_true rfl, ?_⟩
      have sD := offs (o := .ins OC dx (putF "wanted" (.ref wa) [("kind", .ref x), ("needed", .ref L)])) sC
      have aD : upd HC a (.ins OC dx (putF "wanted" (.ref wa) [("kind", .ref x), ("needed", .ref L)])) a = some (.ins OC dx [("kind", .ref x), ("needed", .ref L), ("wanted", .ref wa)]) := upd_same
      have lD : upd HC a (.ins OC dx (putF "wanted" (.ref wa) [("kind", .ref x), ("needed", .ref L)])) L = some (.lst (fs.map fun f => V.bl f.need)) := (upd_ne La).trans lC
      have swD := sw.put (o := .ins OC dx (putF "wanted" (.ref wa) [("kind", .ref x), ("needed", .ref L)])) (fun m => LWa a m rfl) wa0.symm
      generalize upd HC a (.ins OC dx (putF "wanted" (.ref wa) [("kind", .ref x), ("needed", .ref L)])) = HD at sD aD lD swD ⊢
      have kD := (kd.keep sD).keep off_same
      refine rd_names rfl kD ok.cle ok.nd fun HE ba LB eE ban LBn sb => ?_
      have ba0 : ba ≠ a := fun e => by rw [e, aD] at ban; cases ban
      have LBa : ∀ l ∈ LB, l ≠ a := fun l m e => by
        have := LBn l m
        rw [e, aD] at this
        cases this
      have wb : wa ≠ ba := fun e => by rw [← e, swD.dk] at ban; cases ban
      have LBw : ∀ l ∈ LB, l ≠ wa ∧ l ∉ LW := fun l m => by
        have n0 := LBn l m
        refine ⟨fun e => ?_, fun m2 => ?_⟩
        · rw [e, swD.dk] at n0
          cases n0
        · obtain ⟨ys, e⟩ := swD.lsts m2
          rw [e] at n0
          cases n0
      have LWb : ∀ l ∈ LW, l ≠ ba ∧ l ∉ LB := fun l m => by
        refine ⟨fun e => ?_, fun m2 => (LBw l m2).2 m⟩
        obtain ⟨ys, e2⟩ := swD.lsts m
        rw [e, ban] at e2
        cases e2
      have aE := eE _ _ aD
      have lE := eE _ _ lD
      have swE := swD.keep eE
      have sE : Same (Off a H) (Off a HE) := sD.trans (same_off eE)
      refine ⟨_, rfl, a, OC, dx, _, rfl, aE, Z.cls, Z.barred, Nat.le_of_ble_eq_true rfl, ?_⟩
      have sF := offs (o := .ins OC dx (putF "barred" (.ref ba) [("kind", .ref x), ("needed", .ref L), ("wanted", .ref wa)])) sE
      have aF : upd HE a (.ins OC dx (putF "barred" (.ref ba) [("kind", .ref x), ("needed", .ref L), ("wanted", .ref wa)])) a = some (.ins OC dx [("kind", .ref x), ("needed", .ref L), ("wanted", .ref wa), ("barred", .ref ba)]) := upd_same
      have lF : upd HE a (.ins OC dx (putF "barred" (.ref ba) [("kind", .ref x), ("needed", .ref L), ("wanted", .ref wa)])) L = some (.lst (fs.map fun f => V.bl f.need)) := (upd_ne La).trans lE
      have swF := swE.put (o := .ins OC dx (putF "barred" (.ref ba) [("kind", .ref x), ("needed", .ref L), ("wanted", .ref wa)])) (fun m => LWa a m rfl) wa0.symm
      have sbF := sb.put (o := .ins OC dx (putF "barred" (.ref ba) [("kind", .ref x), ("needed", .ref L), ("wanted", .ref wa)])) (fun m => LBa a m rfl) ba0.symm
      generalize upd HE a (.ins OC dx (putF "barred" (.ref ba) [("kind", .ref x), ("needed", .ref L), ("wanted", .ref wa)])) = HF at sF aF lF swF sbF ⊢
      obtain ⟨vs2, ⟨ra2, era, hs2⟩, al2, _⟩ := sh.sq hds
      cases era
      have lds := al2.1
      refine ⟨_, rfl, ra, vs2, Off a H, rfl, hs2, up sF, fun J GG wk gk => ?_⟩
      refine for_it wk (fun i σ G => Same (Off a H) (Off a G) ∧ G a = some (.ins OC dx [("kind", .ref x), ("needed", .ref L), ("wanted", .ref wa), ("barred", .ref ba)]) ∧ G L = some (.lst (fs.map fun f => V.bl f.need)) ∧ SrcT G wa LW (cs.map (·.nm)) (wantL ((ds.take i).map ruOf)) ∧ SrcT G ba LB (cs.map (·.nm)) (barL ((ds.take i).map ruOf)) ∧ ∃ x3 x4 x8, σ = [some (.ref a), some (.ref x), some (.ref ra), x3, x4, none, none, none, x8]) ⟨sF, aF, lF, swF, sbF, _, _, _, rfl⟩ (fun i σ G _ h => gk _ (up h.1)) ?_ ?_
      · rintro i v σ G G' hi ⟨sG, aG, lG, swG, sbG, x3, x4, x8, rfl⟩ ⟨rfl, hv⟩
        obtain ⟨d, hd, sd⟩ := al2.get hv
        obtain ⟨hr1, hf1⟩ := all d (List.mem_of_getElem? hd)
        obtain ⟨p, ws, m, rfl, hp, w0, w1, wm, wl, na, nb⟩ := rule_at (sd.keep (up sG)) hr1
        have er : (ds.take (i + 1)).map ruOf = (ds.take i).map ruOf ++ [ruOf d] := by rw [take_next' hd, List.map_append]; rfl
        rw [er]
        generalize ruOf d = r at w0 w1 wl na nb
        have ni : ((ds.take i).map ruOf).length ≤ 10 := by rw [List.length_map, List.length_take]; omega
        generalize (ds.take i).map ruOf = rs at swG sbG ni
        have wsp := last_split (xs := ws) (x := V.str r.b) (by rw [wm]; exact wl)
        have wlast : atI ws (-1) = some (.str r.b) := by rw [wsp]; exact L2.atI_last _ _
        have rxl : ∀ {Q : VK}, Q (.str r.b) G' → rIx K (.ref p) (.int (-1)) G' Q := fun {Q} h => hp.elim (fun h' => .inl ⟨_, _, _, _, rfl, rfl, h', wlast, h⟩) (fun h' => .inr (.inl ⟨_, _, _, _, rfl, rfl, h', wlast, h⟩))
        refine ⟨fun u H' => u = .ref (if r.tag = Str.ofString "ahead" then wa else ba) ∧ H' = G', ?_, ?_⟩
        · refine ⟨_, rfl, ix_of (i := 0) hp w0 ⟨rfl, _, rfl, ite2 (fun g => ?_) (fun g => ?_)⟩⟩
          · have : r.tag = Str.ofString "ahead" := by simpa using g
            rw [if_pos this]
            exact ⟨_, rfl, a, OC, dx, _, .ref wa, rfl, aG, Z.cls, Z.wanted, rfl, rfl, rfl⟩
          · have : ¬ r.tag = Str.ofString "ahead" := by simpa using g
            rw [if_neg this]
            exact ⟨_, rfl, a, OC, dx, _, .ref ba, rfl, aG, Z.cls, Z.barred, rfl, rfl, rfl⟩
        · rintro _ G2 ⟨rfl, rfl⟩
          by_cases tg : r.tag = Str.ofString "ahead"
          · rw [if_pos tg]
            obtain ⟨j, l, hj, hl, vl, ll⟩ := swG.get ok.nd nb
            have ml := List.mem_of_getElem? hl
            have lz := want_le rs r.b
            refine ⟨_, rfl, _, rfl, 1, rfl, rxl ⟨wa, .ref l, rfl, vl ▸ DGet.k (k := .inr r.b) swG.dk, .inl ⟨rfl, _, SqL.of ll⟩, _, rfl, ix_of (i := 1) hp w1 ⟨l, _, _, rfl, rfl, ll, ?_, ?_⟩⟩⟩
            · rw [List.length_map]
              show _ < 2 ^ 24
              omega
            · refine ⟨fun c o hc => ?_, (upd_ne (LWa l ml).symm).trans aG, (upd_ne fun e => ?_).trans lG, (swG.app ok.nd hj hl).congr fun z => ?_, (sbG.put (LWb l ml).2 (LWb l ml).1).congr fun z => ?_, _, _, _, rfl⟩
              · have nl : Off a H l = none := none_of (up sB) (LWn l ml)
                have ca : c ≠ a := fun e => by rw [e, off_s] at hc; cases hc
                exact (off_ne ca).trans ((upd_ne (fun z => by rw [z, nl] at hc; cases hc)).trans ((off_ne ca).symm.trans (sG _ _ hc)))
              · have n0 := LWn l ml
                rw [← e, lB] at n0
                cases n0
              · rw [want_snoc, if_pos tg]
              · rw [bar_snoc, if_pos tg]
          · rw [if_neg tg]
            obtain ⟨j, l, hj, hl, vl, ll⟩ := sbG.get ok.nd nb
            have ml := List.mem_of_getElem? hl
            have lz := bar_le rs r.b
            refine ⟨_, rfl, _, rfl, 1, rfl, rxl ⟨ba, .ref l, rfl, vl ▸ DGet.k (k := .inr r.b) sbG.dk, .inl ⟨rfl, _, SqL.of ll⟩, _, rfl, ix_of (i := 1) hp w1 ⟨l, _, _, rfl, rfl, ll, ?_, ?_⟩⟩⟩
            · rw [List.length_map]
              show _ < 2 ^ 24
              omega
            · refine ⟨fun c o hc => ?_, (upd_ne (LBa l ml).symm).trans aG, (upd_ne fun e => ?_).trans lG, (swG.put (LBw l ml).2 (LBw l ml).1).congr fun z => ?_, (sbG.app ok.nd hj hl).congr fun z => ?_, _, _, _, rfl⟩
              · have nl : Off a H l = none := none_of (up sD) (LBn l ml)
                have ca : c ≠ a := fun e => by rw [e, off_s] at hc; cases hc
                exact (off_ne ca).trans ((upd_ne (fun z => by rw [z, nl] at hc; cases hc)).trans ((off_ne ca).symm.trans (sG _ _ hc)))
              · have n0 := LBn l ml
                rw [← e, lD] at n0
                cases n0
              · rw [want_snoc, if_neg tg]
              · rw [bar_snoc, if_neg tg]
      · rintro σ G ⟨sG, aG, lG, swG, sbG, x3, x4, x8, rfl⟩
        rw [lds, List.take_length] at swG sbG
        have rsG : SqL K G ra vs2 ∨ SqT K G ra vs2 := sq_at (up sG) hs2
        have itG : ∀ (j : Nat) v, vs2[j]? = some v → ∃ d p ws, ds[j]? = some d ∧ v = .ref p ∧ (SqL K G p ws ∨ SqT K G p ws) ∧ ws[1]? = some (.str (ruOf d).a) := fun j v hv => by
          obtain ⟨d, hd, sd⟩ := al2.get hv
          obtain ⟨p, ws, m, e, hp, _, w1, _⟩ := rule_at (sd.keep (up sG)) (all d (List.mem_of_getElem? hd)).1
          exact ⟨d, p, ws, hd, e, hp, w1⟩
        have tbG := up sG _ _ h8
        have xG := up sG _ _ h1
        refine ⟨tb, _, tbG, trivial, fun od => ?_⟩
        have mL : Km G (upd G tb (.frz od (.dK (tableV cs sv)))) := Km.lock tbG
        have hL : upd G tb (.frz od (.dK (tableV cs sv))) tb = some (.frz od (.dK (tableV cs sv))) := upd_same
        have oL : ∀ {c : Addr}, c ≠ tb → upd G tb (.frz od (.dK (tableV cs sv))) c = G c := fun n => upd_ne n
        generalize upd G tb (.frz od (.dK (tableV cs sv))) = HL at mL hL oL ⊢
        have lkv : (tableV cs sv).length = cs.length := by
          unfold tableV
          rw [List.length_zipWith, h7.1, Nat.min_self]
        have c6 := ok.cle
        refine ⟨_, rfl, x, kx, tb, _, od, _, rfl, mL.2 _ _ _ _ xG, rfl, hL, fun L2 hL2 => ?_⟩
        have L2tb : L2 ≠ tb := fun e => by rw [e, hL] at hL2; cases hL2
        refine lc_it (walk_keys (d := tb) (o := od) (kvs := tableV cs sv)) (fun i H2 => Same HL H2 ∧ H2 L2 = some (.lst ((((cs.map (·.nm)).take i).filter fun z => decide (z ∈ (ds.map ruOf).map (·.a))).map V.str))) ⟨same_new (Same.refl HL) hL2, by rw [List.take_zero]; exact upd_same⟩ (fun i H2 _ h => h.1 _ _ hL) ?_ ?_
        · rintro i _ H2 H3 hi ⟨e2, l2⟩ ⟨rfl, ky, v0, hkv, rfl⟩
          rw [lkv] at hi
          have hcd : cs[i]? = some cs[i] := List.getElem?_eq_getElem hi
          generalize cs[i] = cd at hcd
          obtain ⟨cv, hcv, _⟩ := h7.get' hcd
          rw [table_at hcd hcv] at hkv
          cases hkv
          have hnm : (cs.map (·.nm))[i]? = some cd.nm := by rw [List.getElem?_map, hcd]; rfl
          have fe := filter_next (f := fun z => decide (z ∈ (ds.map ruOf).map (·.a))) hnm
          have m2 : ∀ {p : Addr} {ws : List V}, (SqL K G p ws ∨ SqT K G p ws) → (SqL K H3 p ws ∨ SqT K H3 p ws) := fun h => h.imp (fun h => e2.seq (mL.sql h)) fun h => same_t e2 (mL.sqt h)
          refine ⟨rfl, _, rfl, ?_⟩
          refine ⟨_, rfl, ra, vs2, H3, rfl, m2 rsG, Same.refl H3, fun J GG wk gk L3 hL3 => ?_⟩
          refine lc_it wk (fun j H4 => Same H3 H4 ∧ H4 L3 = some (.lst ((ds.take j).map fun d => V.str (ruOf d).a))) ⟨same_new (Same.refl H3) hL3, upd_same⟩ (fun j H4 _ h => gk _ h.1) ?_ ?_
          · rintro j y H5 H4 hj ⟨e4, l4⟩ ⟨rfl, hy⟩
            obtain ⟨d, p, ws, hd, rfl, hp, w1⟩ := itG j y hy
            refine ⟨rfl, _, rfl, ix_of (i := 1) (sq_at e4 (m2 hp)) w1 ⟨_, l4, ?_, fun c o hc => (upd_ne (fun z => by rw [z, hL3] at hc; cases hc)).trans (e4 _ _ hc), ?_⟩⟩
            · rw [List.length_map, List.length_take]
              show _ < 2 ^ 24
              omega
            · rw [upd_same, List.take_succ, hd, List.map_append]
              rfl
          · rintro H4 ⟨e4, l4⟩
            rw [lds, List.take_length] at l4
            have el : (ds.map fun d => V.str (ruOf d).a) = ((ds.map ruOf).map (·.a)).map V.str := by rw [List.map_map, List.map_map]; rfl
            rw [el] at l4
            refine ⟨L3, _, rfl, .inl (SqL.of l4), rfl, flat_strs _, ?_⟩
            show ∃ k, V.bl (inV (.str cd.nm) (((ds.map ruOf).map (·.a)).map V.str)) = V.bl k ∧ _
            rw [inV_strs]
            have l24 := e4 _ _ l2
            refine ⟨_, rfl, ite2 (fun g => ?_) (fun g => ?_)⟩
            · refine ⟨_, rfl, _, l24, ?_, fun c o hc => (upd_ne (fun z => by rw [z, hL2] at hc; cases hc)).trans (e4 _ _ (e2 _ _ hc)), ?_⟩
              · have h2 := List.length_filter_le (fun z => decide (z ∈ (ds.map ruOf).map (·.a))) ((cs.map (·.nm)).take i)
                rw [List.length_take, List.length_map] at h2
                rw [List.length_map]
                show _ < 2 ^ 24
                omega
              · rw [upd_same, fe, if_pos g, List.map_append]
                rfl
            · refine ⟨e2.trans e4, ?_⟩
              rw [fe, if_neg g, List.append_nil]
              exact l24
        · rintro H2 ⟨e2, l2⟩
          rw [lkv, ← List.length_map (as := cs) (f := (·.nm)), List.take_length] at l2
          refine ⟨e2 _ _ hL, ?_⟩
          have eU : Same G (upd H2 tb (.dK (tableV cs sv))) := fun c o hc => by
            by_cases e : c = tb
            · subst e
              rw [upd_same, ← hc, tbG]
            · exact (upd_ne e).trans (e2 _ _ ((oL e).trans hc))
          have l2U : upd H2 tb (.dK (tableV cs sv)) L2 = some (.lst ((((cs.map (·.nm))).filter fun z => decide (z ∈ (ds.map ruOf).map (·.a))).map V.str)) := (upd_ne L2tb).trans l2
          generalize upd H2 tb (.dK (tableV cs sv)) = HU at eU l2U ⊢
          have L2G : G L2 = none := by rw [← oL L2tb]; exact hL2
          have L2a : L2 ≠ a := fun e => by rw [e, aG] at L2G; cases L2G
          have aU := eU _ _ aG
          refine ⟨_, rfl, a, OC, dx, _, rfl, aU, Z.cls, Z.counted, Nat.le_of_ble_eq_true rfl, ?_⟩
          have sU : Same (Off a H) (Off a HU) := sG.trans (same_off eU)
          have sZ := offs (o := .ins OC dx (putF "counted" (.ref L2) [("kind", .ref x), ("needed", .ref L), ("wanted", .ref wa), ("barred", .ref ba)])) sU
          have oZ : ∀ {c : Addr}, c ≠ a → upd HU a (.ins OC dx (putF "counted" (.ref L2) [("kind", .ref x), ("needed", .ref L), ("wanted", .ref wa), ("barred", .ref ba)])) c = HU c := fun n => upd_ne n
          have aZ : upd HU a (.ins OC dx (putF "counted" (.ref L2) [("kind", .ref x), ("needed", .ref L), ("wanted", .ref wa), ("barred", .ref ba)])) a = some (.ins OC dx [("kind", .ref x), ("needed", .ref L), ("wanted", .ref wa), ("barred", .ref ba), ("counted", .ref L2)]) := upd_same
          have swZ := (swG.keep eU).put (o := .ins OC dx (putF "counted" (.ref L2) [("kind", .ref x), ("needed", .ref L), ("wanted", .ref wa), ("barred", .ref ba)])) (fun m => LWa a m rfl) wa0.symm
          have sbZ := (sbG.keep eU).put (o := .ins OC dx (putF "counted" (.ref L2) [("kind", .ref x), ("needed", .ref L), ("wanted", .ref wa), ("barred", .ref ba)])) (fun m => LBa a m rfl) ba0.symm
          have lZ := (oZ La).trans (eU _ _ lG)
          have l2Z := (oZ L2a).trans l2U
          show Q .non _
          generalize upd HU a (.ins OC dx (putF "counted" (.ref L2) [("kind", .ref x), ("needed", .ref L), ("wanted", .ref wa), ("barred", .ref ba)])) = HZ at sZ aZ swZ sbZ lZ l2Z ⊢
          have zz := up sZ
          refine q HZ zz ⟨tb, ⟨dx, L, wa, ba, L2, aZ, ⟨x, kx, _, .ref ta, tv, sv, rfl, zz _ _ h1, rfl, rfl, ⟨ta, rfl, same_t zz h2⟩, h3.mono fun _ _ h => FdT.keep zz h, h7.mono fun _ _ h => CdT.keep zz h, .inl (zz _ _ h8)⟩, .inl lZ, ⟨_, .inl swZ.dk, fun z hz => ?_⟩, ⟨_, .inl sbZ.dk, fun z hz => ?_⟩, .inl l2Z⟩, _, zz _ _ h8⟩
          · obtain ⟨_, l, _, _, v, ll⟩ := swZ.get ok.nd hz
            exact ⟨l, v, .inl ll⟩
          · obtain ⟨_, l, _, _, v, ll⟩ := sbZ.get ok.nd hz
            exact ⟨l, v, .inl ll⟩
end
end MK
set_option Elab.async false
set_option linter.all false
set_option autoImplicit false
set_option maxRecDepth 100000
set_option maxHeartbeats 4000000
namespace MK
open PySem PySem.Spec PyProof.Rows L2
open C8 (Met pe_mt pe_mt0 Mak pe_mk)
local macro_rules | `(tactic| walk_at "x") => `(tactic| dsimp only [tSeq, tAsg, tRet, tDrop, tLst, tTup, tCons, tOp, tUn, tIfS])
theorem sc_all_ways : FnScope ["walk", "table", "waiting", "place", "name", "reached"] ["walk"] (defScope s_all_ways) := ⟨rfl, rfl, rfl, by decide +kernel, rfl, by decide +kernel, by decide +kernel⟩
def spAll (P : Program) (w : World) (K : PySem.W.Frag) (T : WalkT) : Sp := fun vs H Q _ => ∃ (d : T.D) (a : Addr), vs = [.ref a] ∧ T.I d H a ∧
  ∀ H' t ks, Same H H' → H t = none → TbI P w K (Off t H') H' t (pairsOf (T.W d) ks) → TbOk (T.W d) ks → T.st d ∈ ks → (∀ k ∈ ks, k ∈ T.U d ∧ Rch (T.st d) (T.W d) k) → Q (.ref t) H'
def AwI (P : Program) (w : World) (K : PySem.W.Frag) (T : WalkT) (d : T.D) (a : Addr) (H0 : Hp) (tb wl : Addr) (m : Nat) (σ : L2.St) (H : Hp) : Prop := ∃ (ks todo : List Pl) (ws : List V),
  Same H0 H ∧ H0 tb = none ∧ H0 wl = none ∧ tb ≠ wl ∧ H wl = some (.lst ws) ∧ Al (fun v k => Nk K H k v) ws todo ∧ TbI P w K (Wt [tb, wl] H) H tb (pairsOf (T.W d) ks) ∧ ks.Nodup ∧ (∀ k ∈ ks, k ∈ T.U d ∧ Rch (T.st d) (T.W d) k) ∧ (∀ k ∈ todo, k ∈ T.U d ∧ Rch (T.st d) (T.W d) k) ∧
  (∀ k ∈ ks, ∀ p ∈ T.W d k, p.2 = dn ∨ p.2 ∈ ks ∨ p.2 ∈ todo) ∧ (T.st d ∈ ks ∨ T.st d ∈ todo) ∧ todo.length ≤ 1 + 10 * ks.length ∧ m = ((T.U d).length - ks.length) * 11 + todo.length ∧ ∃ x3 x4 x5, σ = [some (.ref a), some (.ref tb), some (.ref wl), x3, x4, x5]
section
variable {P : Program} {w : World} {K : PySem.W.Frag} {mg : Str → Option Value} {base : Heap} {OC : Addr} {WT : WalkT}
theorem ok_allw {f : Addr} {fd : FuncData} (F : DefX K mg "all_ways" s_all_ways ["walk"] f fd) (T : Txt K mg) (Cs : MCst mg) (G : WalkG WT OC) (m_start : Met P w K mg base 1 OC "start" (spStart K WT) []) (m_ways : Met P w K mg base 5 OC "ways" (spWays K WT) []) : Cal P w K mg base CX0 6 "all_ways" (spAll P w K WT) := by
  refine cal_mk F sc_all_ways (fun vs H Q E h => ?_) (fun cdv A outer s H vs Q E hr h => ?_)
  · obtain ⟨d, a, rfl, _⟩ := h
    rfl
  · obtain ⟨d, a, rfl, hi, k⟩ := h
    have wk := G.ok d H a hi
    refine ⟨_, (pss_cons (ps_set (i := 1) sc_all_ways.nd rfl (Or.inl rfl) pe_dnewN)
(pss_cons (ps_set (i := 2) sc_all_ways.nd rfl (Or.inl rfl) (pe_lst (pa_cons (pe_mt0 m_start hr (by decide) (pv 0)) pa_nil)))
(pss_cons (ps_while PassesOwn.never (pt_cmpR op_gt (pe_callB call_len_seq (by rfl) T.len (by decide +kernel) (pa_cons (pv 2) pa_nil)) pe_int (nomark _))
(pss_cons (ps_set (i := 3) sc_all_ways.nd rfl (Or.inl rfl) (pe_bm0 PySem.F.plainAttrs_list PySem.F.slot_list_pop PySem.F.type_list_pop mt_pop (pv 2)))
(pss_one (ps_if (pt_cmpR (op_notInNK (P := P) (w := w) (K := K) rfl rfl rfl (u9 hr)) (pv 3) (pv 1) (by rfl))
(pss_cons (ps_asg (pe_mt m_ways hr (by decide) (pv 0) (pa_cons (pv 3) pa_nil)) (pg_sub (pv 1) (pv 3) (set_dn (u9 hr))))
(pss_one (ps_expr (pe_bm PySem.F.plainAttrs_list PySem.F.slot_list_extend PySem.F.type_list_extend mt_extend (pv 2) (pa_cons (pe_lc (own := [("name", 4), ("reached", 5)]) (g := (gTup K 2 (gCons (gName 4) (gCons (gName 5) gNil)))) rfl sc_all_ways.nd (pi_list (pe_ixNK (P := P) (w := w) (K := K) rfl rfl rfl (u9 hr) (pv 1) (pv 3) (fun _ _ => rfl))) (blkOk_by (own := [("name", 4), ("reached", 5)]) (N := ["walk", "table", "waiting", "place", "name", "reached"]) (sc := defScope s_all_ways) (by decide +kernel)) (fun _ _ _ _ _ => (pg_tup (by rfl) (pgs_cons (pg_name (i := 4) sc_all_ways.nd rfl (Or.inl rfl)) (pgs_cons (pg_name (i := 5) sc_all_ways.nd rfl (Or.inl rfl)) pgs_nil)))) (fun _ _ _ _ _ => (pts_one (pt_cmpR (op_neI (K := K) rfl hr.units0) (pv 5) (pe_cst rfl Cs.DONE) (nomark _)))) (fun _ _ _ _ _ => (pv 5))) pa_nil)))))
pss_nil))))
(pss_one (ps_ret (pv 1)))))), ?_⟩
    refine fun tb o0 htb g0 => ?_
    obtain ⟨dx, fs, ha, n1, n2⟩ := G.cls d H a hi
    have e1 : Same H (upd H tb (DnO P w tb o0 [])) := same_new (Same.refl H) htb
    have tb1 : DN P w K (upd H tb (DnO P w tb o0 [])) tb [] := ⟨o0, [], upd_same, rfl, fun i p x h => by simp at h⟩
    refine ⟨_, rfl, a, dx, fs, rfl, e1 _ _ ha, n1, d, a, rfl, G.keep d _ _ a e1 hi, fun H2 b e2 hb => ?_⟩
    refine ⟨by show 1 ≤ sizeLine; decide, fun wl hwl => ?_⟩
    have hwl1 := none_of e2 hwl
    obtain ⟨wt, hwl0⟩ := upd_none hwl1
    have e3 := same_new (o := .lst [V.ref b]) e2 hwl
    refine tWhile_of (AwI P w K WT d a H tb wl) _ ⟨[], [WT.st d], [.ref b], same_new (e1.trans e2) hwl, htb, hwl0, wt.symm, upd_same, ⟨rfl, fun i x y h1 h2 => ?_⟩, ⟨[], tb1.keep e3, Pr.nil⟩, List.nodup_nil, nofun, fun k hk => ?_, nofun, .inr List.mem_cons_self, by simp, rfl, none, none, none, rfl⟩ ?_
    · cases i with
      | zero =>
        cases h1
        cases h2
        exact hb.keep (same_new (Same.refl _) hwl)
      | succ n => cases h1
    · obtain rfl := List.mem_singleton.mp hk
      exact ⟨wk.st, Rch.st⟩
    rintro m σ H3 ⟨ks, todo, ws, e0, _, _, tw, hw, aw, ti, nd, kk, kt, cl, hst, lt, rfl, x3, x4, x5, rfl⟩
    have lws : ws.length = todo.length := aw.1
    refine ⟨_, rfl, wl, ws, rfl, .inl (SqL.of hw), _, _, rfl, rfl, _, rfl, ite2 (fun g => ?_) (fun g => ?_)⟩
    · have l0 : 0 < ws.length := by
        have := of_decide_eq_true g
        omega
      refine ⟨fun σ' H' => ∃ m', m' < ((WT.U d).length - ks.length) * 11 + todo.length ∧ AwI P w K WT d a H tb wl m' σ' H', fun _ _ h => h, ?_⟩
      have hy : ws[ws.length - 1]? = some (ws[ws.length - 1]'(by omega)) := List.getElem?_eq_getElem _
      obtain ⟨kp, hkp, nk⟩ := aw.get hy
      generalize ws[ws.length - 1]'(by omega) = y at hy nk
      have mk := List.mem_of_getElem? hkp
      obtain ⟨ku, kr⟩ := kt kp mk
      obtain ⟨b, bx, rfl, hb0⟩ := nk.ref (wk.pl kp ku)
      refine ⟨_, rfl, .inl ⟨rfl, _, SqL.of hw⟩, wl, ws, _, rfl, rfl, hw, hy, ?_⟩
      have wt3 : Wt [tb, wl] (upd H3 wl (.lst ws.dropLast)) = Wt [tb, wl] H3 := wt_upd (by simp)
      have tk4 : Tk H3 (upd H3 wl (.lst ws.dropLast)) := Tk.upd (NoT.lst hw)
      have ti4 : TbI P w K (Wt [tb, wl] (upd H3 wl (.lst ws.dropLast))) (upd H3 wl (.lst ws.dropLast)) tb (pairsOf (WT.W d) ks) := ti.tk (by rw [wt3]; exact Same.refl _) tk4 (upd_ne tw)
      have nk4 := nk.tk tk4
      have aw4 : Al (fun v k => Nk K (upd H3 wl (.lst ws.dropLast)) k v) ws todo := aw.mono fun _ _ h => h.tk tk4
      have w4 : upd H3 wl (.lst ws.dropLast) wl = some (.lst ws.dropLast) := upd_same
      have e4 : Same H (upd H3 wl (.lst ws.dropLast)) := fun c o hc => (upd_ne (fun z => by rw [z, hwl0] at hc; cases hc)).trans (e0 c o hc)
      show tSeq _ _ _ _ (upd H3 wl (.lst ws.dropLast))
      generalize upd H3 wl (.lst ws.dropLast) = H4 at ti4 nk4 aw4 w4 e4 ⊢
      obtain ⟨kvs, dn4, pr4⟩ := id ti4
      have dep : kp.depth ≤ 8 := Nat.le_trans (wk.pl kp ku).2 (by decide)
      have hsome : (valN kvs kp).isSome = decide (kp ∈ ks) := by
        rw [valN_getA, pr4.isSome, getA_isSome, pairsOf_keys]
      refine ⟨_, rfl, _, rfl, tb, b, kvs, kp, rfl, rfl, dn4, nk4, dep, ?_⟩
      rw [hsome]
      refine ⟨_, rfl, ite2 (fun g2 => ?_) (fun g2 => ?_)⟩
      · have nin : kp ∉ ks := by simpa using g2
        refine ⟨_, rfl, a, dx, fs, rfl, e4 _ _ ha, n2, _, rfl, d, a, b, kp, rfl, G.keep d _ _ a e4 hi, ku, nk4, fun H5 l xs e5 hl hl5 al5 => ?_⟩
        have dn5 := dn4.keep e5
        have lk : kvs.length ≤ 300 := by
          have h1 := pr4.1
          unfold pairsOf at h1
          rw [List.length_map] at h1
          have := nodup_le nd fun k hk => (kk k hk).1
          have := wk.few
          omega
        refine ⟨_, rfl, _, rfl, tb, b, kvs, kp, rfl, rfl, dn5, nk4.keep e5, dep, by show _ < 2 ^ 24; omega, fun φ dn6 => ?_⟩
        obtain ⟨oo, xx, dd⟩ := id dn5
        have tk6 : Tk H5 (upd H5 tb (.ext φ)) := Tk.upd (NoT.ext dd.at_)
        have ltb : l ≠ tb := fun z => by rw [z] at hl; obtain ⟨_, _, q⟩ := id dn4; rw [q.at_] at hl; cases hl
        have lwl : l ≠ wl := fun z => by rw [z, w4] at hl; cases hl
        have l6 : upd H5 tb (.ext φ) l = some (.lst xs) := (upd_ne ltb).trans hl5
        have w6 : upd H5 tb (.ext φ) wl = some (.lst ws.dropLast) := (upd_ne tw.symm).trans (e5 _ _ w4)
        have tk46 : Tk H4 (upd H5 tb (.ext φ)) := (Tk.of e5).trans tk6
        have al6 := al5.mono fun _ _ h => h.tk tk6
        have s6 : Same (Wt [tb, wl] H4) (Wt [tb, wl] (upd H5 tb (.ext φ))) := by rw [wt_upd (by simp)]; exact wt_keep e5
        have e6 : Same H (upd H5 tb (.ext φ)) := fun c o hc => (upd_ne (fun z => by rw [z, htb] at hc; cases hc)).trans (e5 _ _ (e4 c o hc))
        have nk6 := nk4.tk tk46
        have ti6 : TbI P w K (Wt [tb, wl] (upd H5 tb (.ext φ))) (upd H5 tb (.ext φ)) tb (pairsOf (WT.W d) (ks ++ [kp])) := by
          refine ⟨_, dn6, ?_⟩
          rw [putN_putA, ← pairsOf_put nin]
          refine (pr4.mono fun _ _ h => h.tk s6 tk46).put ⟨l, xs, rfl, (wt_get (by simp [ltb, lwl])).trans l6, al6⟩
        have aw6 := aw4.mono fun _ _ h => h.tk tk46
        have g6 : valN (putN kvs kp (.ref l)) kp = some (.ref l) := by
          rw [valN_getA, putN_putA, getA_put]
        generalize upd H5 tb (.ext φ) = H6 at dn6 l6 w6 al6 e6 nk6 ti6 aw6 ⊢
        refine ⟨_, rfl, .inl ⟨rfl, _, SqL.of w6⟩, ?_⟩
        refine ⟨_, rfl, _, rfl, tb, b, _, kp, .ref l, rfl, rfl, dn6, nk6, dep, g6, l, rfl, ⟨xs, SqL.of l6⟩, fun D hD => ?_⟩
        refine lc_it (walk_list (K := K) (a := l) (xs := xs)) (fun i H2 => Same H6 H2 ∧ ∃ zs, H2 D = some (.lst zs) ∧ Al (fun v k => Nk K H2 k v) zs (onOf ((WT.W d kp).take i))) ⟨same_new (Same.refl _) hD, [], upd_same, rfl, fun i x y h => by simp at h⟩ (fun i H2 _ h => .inl (.inl (h.1 _ _ l6))) ?_ ?_
        · rintro i x H8 H7 hi ⟨e7, zs, d7, a7⟩ ⟨rfl, hx⟩
          obtain ⟨p, hp, tt, y, rfl, hT, hN⟩ := al6.get hx
          have mp := List.mem_of_getElem? hp
          refine ⟨tt, _, rfl, same_t e7 hT, rfl, _, _, rfl, _, _, rfl, rfl, rfl, ?_⟩
          have e8 : Same H6 (upd H7 D (.lst (zs ++ [y]))) := fun c o hc => (upd_ne (fun z => by rw [z, hD] at hc; cases hc)).trans (e7 _ _ hc)
          rcases wk.cl kp ku p mp with en | pu
          · rw [en] at hN
            obtain rfl := hN.dn
            refine ⟨_, rfl, -1, rfl, .inl ⟨-1, rfl, _, rfl, ite2 (fun z => absurd z (by decide)) (fun _ => ⟨e7, zs, d7, ?_⟩)⟩⟩
            rw [onOf_dn hp en]
            exact a7
          · obtain ⟨b', ys, rfl, hb'⟩ := hN.ref (wk.pl _ pu)
            refine ⟨_, rfl, -1, rfl, .inr ⟨b', ys, rfl, same_t e7 hb', _, rfl, iteT ⟨_, rfl, zs, d7, ?_, e8, _, upd_same, ?_⟩⟩⟩
            · have h1 := a7.1
              have h2 := onOf_le ((WT.W d kp).take i)
              have h3 := wk.ws kp ku
              rw [List.length_take] at h2
              show _ < 2 ^ 24
              omega
            · rw [onOf_on hp (wk.pl _ pu).ne]
              exact (a7.mono fun _ _ h => h.tk (Tk.upd (NoT.lst d7))).snoc (hN.tk (Tk.of e8))
        · rintro H7 ⟨e7, zs, d7, a7⟩
          have lW : xs.length = (WT.W d kp).length := al6.1
          rw [lW, List.take_length] at a7
          have lz := a7.1
          have lo := onOf_le (WT.W d kp)
          have lw := wk.ws kp ku
          have ndk : (ks ++ [kp]).Nodup := by
            rw [List.nodup_append]
            exact ⟨nd, List.nodup_cons.mpr ⟨List.not_mem_nil, List.nodup_nil⟩, fun a ha b hb e => nin ((List.mem_singleton.mp hb) ▸ e ▸ ha)⟩
          have kk' : ∀ k ∈ ks ++ [kp], k ∈ WT.U d ∧ Rch (WT.st d) (WT.W d) k := fun k hk => (List.mem_append.mp hk).elim (kk k) fun h => by
            obtain rfl := List.mem_singleton.mp h
            exact ⟨ku, kr⟩
          have lU := nodup_le ndk fun k hk => (kk' k hk).1
          rw [List.length_append, List.length_singleton] at lU
          have few := wk.few
          have lt' : todo.dropLast.length = todo.length - 1 := List.length_dropLast
          have lt0 := List.length_pos_of_mem mk
          have sp := last_split (xs := todo) (x := kp) (by rw [← lws]; exact hkp)
          have inT : ∀ k, k ∈ todo → k ∈ todo.dropLast ∨ k = kp := fun k hk => by
            rw [sp, List.mem_append, List.mem_singleton] at hk
            exact hk
          refine ⟨wl, D, _, _, rfl, rfl, e7 _ _ w6, d7, ?_, ?_⟩
          · rw [List.length_dropLast]
            show _ ≤ 2 ^ 24
            omega
          · have tk8 : Tk H7 (upd H7 wl (.lst (ws.dropLast ++ zs))) := Tk.upd (NoT.lst (e7 _ _ w6))
            refine ⟨_, ?_, ks ++ [kp], todo.dropLast ++ onOf (WT.W d kp), ws.dropLast ++ zs, fun c o hc => (upd_ne (fun z => by rw [z, hwl0] at hc; cases hc)).trans (e7 _ _ (e6 c o hc)), htb, hwl0, tw, upd_same, ?_, ?_, ndk, kk', fun k hk => ?_, fun k hk p hp => ?_, ?_, ?_, rfl, _, _, _, rfl⟩
            · rw [List.length_append, List.length_append, List.length_singleton]
              omega
            · exact al_append ((al_dropLast aw6).mono fun _ _ h => h.tk ((Tk.of e7).trans tk8)) (a7.mono fun _ _ h => h.tk tk8)
            · refine (ti6.tk (wt_keep e7) (Tk.of e7) ?_).tk (by rw [wt_upd (by simp)]; exact Same.refl _) tk8 (upd_ne tw)
              obtain ⟨_, ⟨_, _, q⟩, _⟩ := id ti6
              rw [q.at_]
              exact e7 _ _ q.at_
            · rcases List.mem_append.mp hk with h | h
              · exact kt k (List.dropLast_subset _ h)
              · obtain ⟨p, hp, rfl, n⟩ := mem_onOf.mp h
                exact ⟨(wk.cl kp ku p hp).resolve_left n, .on kr hp n⟩
            · rw [List.mem_append, List.mem_append, List.mem_singleton]
              rcases List.mem_append.mp hk with h | h
              · rcases cl k h p hp with e | e | e
                · exact .inl e
                · exact .inr (.inl (.inl e))
                · rcases inT _ e with e | e
                  · exact .inr (.inr (.inl e))
                  · exact .inr (.inl (.inr e))
              · obtain rfl := List.mem_singleton.mp h
                by_cases e : p.2 = dn
                · exact .inl e
                · exact .inr (.inr (.inr (mem_onOf.mpr ⟨p, hp, rfl, e⟩)))
            · rw [List.mem_append, List.mem_append, List.mem_singleton]
              rcases hst with e | e
              · exact .inl (.inl e)
              · rcases inT _ e with e | e
                · exact .inr (.inl e)
                · exact .inl (.inr e)
            · rw [List.length_append, List.length_append, List.length_singleton]
              omega
      · have nin : kp ∈ ks := by simpa using g2
        have lt' : todo.dropLast.length = todo.length - 1 := List.length_dropLast
        have lt0 := List.length_pos_of_mem mk
        have sp := last_split (xs := todo) (x := kp) (by rw [← lws]; exact hkp)
        have inT : ∀ k, k ∈ todo → k ∈ todo.dropLast ∨ k = kp := fun k hk => by
          rw [sp, List.mem_append, List.mem_singleton] at hk
          exact hk
        refine ⟨_, ?_, ks, todo.dropLast, ws.dropLast, e4, htb, hwl0, tw, w4, al_dropLast aw4, ti4, nd, kk, fun k hk => kt k (List.dropLast_subset _ hk), fun k hk p hp => ?_, ?_, ?_, rfl, _, _, _, rfl⟩
        · omega
        · rcases cl k hk p hp with e | e | e
          · exact .inl e
          · exact .inr (.inl e)
          · exact .inr ((inT _ e).elim .inr fun e => .inl (by rw [e]; exact nin))
        · exact hst.elim .inl fun e => (inT _ e).elim .inr fun e => .inl (by rw [e]; exact nin)
        · omega
    · have t0 : todo = [] := by
        refine List.length_eq_zero_iff.mp ?_
        cases z : ws.length with
        | zero => omega
        | succ n => exact absurd (decide_eq_true (by rw [z]; omega)) g
      subst t0
      refine ⟨_, rfl, ?_⟩
      refine k H3 tb ks e0 htb (ti.tk (fun c o hc => ?_) (Tk.refl _) rfl) ⟨nd, fun k hk => wk.pl k (kk k hk).1, fun k hk p hp => (cl k hk p hp).imp id fun h => h.elim id nofun, ?_, fun k hk => wk.ws k (kk k hk).1⟩ (hst.elim id nofun) kk
      · obtain ⟨n, hc⟩ := wt_some hc
        exact (off_ne fun z => n (by rw [z]; exact List.mem_cons_self)).trans hc
      · have := nodup_le nd fun k hk => (kk k hk).1
        have := wk.few
        omega
end
end MK
set_option Elab.async false
set_option linter.all false
set_option autoImplicit false
set_option maxRecDepth 100000
set_option maxHeartbeats 4000000
namespace MK
open PySem PySem.Spec PyProof.Rows L2
open C8 (Met pe_mt pe_mt0 Mak pe_mk)
local macro_rules | `(tactic| walk_at "x") => `(tactic| dsimp only [tSeq, tAsg, tRet, tDrop, tLst, tTup, tCons, tOp, tUn, tIfS])
theorem sc_useful_places : FnScope ["table", "place", "sources", "ends", "name", "reached", "useful", "end"] ["table"] (defScope s_useful_places) := ⟨rfl, rfl, rfl, by decide +kernel, rfl, by decide +kernel, by decide +kernel⟩
def spUse (P : Program) (w : World) (K : PySem.W.Frag) : Sp := fun vs H Q _ => ∃ (t : Addr) (G : Hp) (W : Pl → List Way) (ks : List Pl), vs = [.ref t] ∧ Same G H ∧ TbI P w K G H t (pairsOf W ks) ∧ TbOk W ks ∧
  ∀ H' u us, Same H H' → H u = none → UsI P w K H' u us → (∀ k, k ∈ us ↔ k ∈ ks ∧ Ends W k) → Q (.ref u) H'
/-- the sources at D, the ends at el, behind these edges -/
def UI (P : Program) (w : World) (K : PySem.W.Frag) (H : Hp) (D el : Addr) (L : List Addr) (ks : List Pl) (E : List Edge) (H2 : Hp) : Prop := Same H H2 ∧ SrcI P w K H2 D L ks (SE E) ∧ ∃ es, H2 el = some (.lst es) ∧ Al (fun v x => Nk K H2 x v) es (SE E dn)
def UW (P : Program) (w : World) (K : PySem.W.Frag) (H : Hp) (W : Pl → List Way) (t D el ud : Addr) (L : List Addr) (ks : List Pl) (m : Nat) (σ : L2.St) (H4 : Hp) : Prop := ∃ (us todo : List Pl) (es : List V), Same H H4 ∧ SrcI P w K H4 D L ks (SE (edges W ks)) ∧ H4 el = some (.lst es) ∧ Al (fun v x => Nk K H4 x v) es todo ∧ UsI P w K H4 ud us ∧ us.Nodup ∧
  (∀ k ∈ us, k ∈ ks ∧ Ends W k) ∧ (∀ k ∈ todo, k ∈ ks ∧ Ends W k) ∧ (∀ k ∈ ks, ∀ p ∈ W k, (p.2 = dn ∨ p.2 ∈ us) → k ∈ us ∨ k ∈ todo) ∧ todo.length ≤ 3000 * (1 + us.length) ∧ m = (ks.length - us.length) * 3001 + todo.length ∧ ∃ x1 x4 x5 x7, σ = [some (.ref t), x1, some (.ref D), some (.ref el), x4, x5, some (.ref ud), x7]
theorem ends_in {W : Pl → List Way} {ks us : List Pl} (cl : ∀ k ∈ ks, ∀ p ∈ W k, p.2 = dn ∨ p.2 ∈ ks) (h : ∀ k ∈ ks, ∀ p ∈ W k, (p.2 = dn ∨ p.2 ∈ us) → k ∈ us) {k : Pl} (e : Ends W k) : k ∈ ks → k ∈ us := by
  induction e with
  | fin hp e => exact fun hk => h _ hk _ hp (.inl e)
  | on hp n _ ih => exact fun hk => h _ hk _ hp (.inr (ih ((cl _ hk _ hp).resolve_left n)))
section
variable {P : Program} {w : World} {K : PySem.W.Frag} {mg : Str → Option Value} {base : Heap}
theorem ok_use {f : Addr} {fd : FuncData} (F : DefX K mg "useful_places" s_useful_places ["table"] f fd) (T : Txt K mg) (Cs : MCst mg) : Cal P w K mg base CX0 1 "useful_places" (spUse P w K) := by
  refine cal_mk F sc_useful_places (fun vs H Q E h => ?_) (fun cdv A outer s H vs Q E hr h => ?_)
  · obtain ⟨t, _, _, _, rfl, _⟩ := h
    rfl
  · obtain ⟨t, G, W, ks, rfl, sg, ti, tok, k⟩ := h
    refine ⟨_, (pss_cons (ps_setDcn (i := 2) (own := [("place", 1)]) (g := (gName 1)) (tt := tYes) (u9 hr) rfl sc_useful_places.nd rfl rfl (swap_true rfl rfl rfl (by decide +kernel)) (pi_keysNK (P := P) (w := w) rfl rfl (pv 0)) (blkOk_by (own := [("place", 1)]) (N := ["table", "place", "sources", "ends", "name", "reached", "useful", "end"]) (sc := defScope s_useful_places) (by decide +kernel)) (fun _ _ _ _ _ => (pg_name (i := 1) sc_useful_places.nd rfl (Or.inl rfl))) (fun _ _ _ _ _ => pts_nil) (fun _ _ _ _ _ => (pv 1)) (fun _ _ _ _ _ => (pe_lst pa_nil)))
(pss_cons (ps_set (i := 3) sc_useful_places.nd rfl (Or.inl rfl) (pe_lst pa_nil))
(pss_cons (ps_for PassesOwn.never rfl (pi_keysNK (P := P) (w := w) rfl rfl (pv 0)) (pg_name (i := 1) sc_useful_places.nd rfl (Or.inl rfl))
(pss_one (ps_for PassesOwn.never rfl (pi_list (pe_ixNK (P := P) (w := w) (K := K) rfl rfl rfl (u9 hr) (pv 0) (pv 1) (fun _ _ => rfl))) (pg_tup (by rfl) (pgs_cons (pg_name (i := 4) sc_useful_places.nd rfl (Or.inl rfl)) (pgs_cons (pg_name (i := 5) sc_useful_places.nd rfl (Or.inl rfl)) pgs_nil)))
(pss_one (ps_if (pt_cmpR (op_eqI (K := K) rfl hr.units0) (pv 5) (pe_cst rfl Cs.DONE) (nomark _))
(pss_one (ps_expr (pe_bm PySem.F.plainAttrs_list PySem.F.slot_list_append PySem.F.type_list_append mt_append (pv 3) (pa_cons (pv 1) pa_nil))))
(pss_one (ps_expr (pe_bm PySem.F.plainAttrs_list PySem.F.slot_list_append PySem.F.type_list_append mt_append (pe_ixNK (P := P) (w := w) (K := K) rfl rfl rfl (u9 hr) (pv 2) (pv 5) (fun _ _ => rfl)) (pa_cons (pv 1) pa_nil)))))))))
(pss_cons (ps_set (i := 6) sc_useful_places.nd rfl (Or.inl rfl) pe_dnewN)
(pss_cons (ps_while PassesOwn.never (pt_cmpR op_gt (pe_callB call_len_seq (by rfl) T.len (by decide +kernel) (pa_cons (pv 3) pa_nil)) pe_int (nomark _))
(pss_cons (ps_set (i := 7) sc_useful_places.nd rfl (Or.inl rfl) (pe_bm0 PySem.F.plainAttrs_list PySem.F.slot_list_pop PySem.F.type_list_pop mt_pop (pv 3)))
(pss_one (ps_if (pt_cmpR (op_notInNK (P := P) (w := w) (K := K) rfl rfl rfl (u9 hr)) (pv 7) (pv 6) (by rfl))
(pss_cons (ps_asg pe_bl (pg_sub (pv 6) (pv 7) (set_dn (u9 hr))))
(pss_one (ps_expr (pe_bm PySem.F.plainAttrs_list PySem.F.slot_list_extend PySem.F.type_list_extend mt_extend (pv 3) (pa_cons (pe_ixNK (P := P) (w := w) (K := K) rfl rfl rfl (u9 hr) (pv 2) (pv 7) (fun _ _ => rfl)) pa_nil)))))
pss_nil))))
(pss_one (ps_ret (pv 6)))))))), ?_⟩
    obtain ⟨o, xs, kvs, g, pr, lx, key⟩ := ti.walk
    refine ⟨_, rfl, t, o, xs, rfl, g.at_, fun D ob hD g0 => ?_⟩
    refine dcn_keys (fun i Hc => Same H Hc ∧ ∃ L, SrcI P w K Hc D L (ks.take i) (fun _ => []) ∧ ∀ p ∈ L, H p = none) ⟨same_new (Same.refl H) hD, [], ⟨⟨ob, [], upd_same, rfl, fun i p x h => by simp at h⟩, rfl, List.nodup_nil, nofun, fun i k p h => by simp at h⟩, nofun⟩ (fun i Hc _ h => h.1 _ _ g.at_) ?_ ?_
    · rintro i z Hc hz ⟨e1, L, si, fr⟩
      obtain ⟨kk, hk, nk, dp⟩ := key i z hz
      refine ⟨rfl, _, rfl, by show 0 ≤ sizeLine; decide, fun p hp => ?_⟩
      have ep := none_of e1 hp
      have e2 : Same H (upd Hc p (.lst [])) := same_new e1 hp
      have sk := si.keep (same_new (o := .lst []) (Same.refl Hc) hp)
      have nin : kk ∉ ks.take i := fun m => by
        obtain ⟨j, hj⟩ := List.mem_iff_getElem?.mp m
        rw [List.getElem?_take] at hj
        split at hj
        · rename_i lt
          exact Nat.lt_irrefl i ((List.getElem?_inj (List.getElem?_eq_some_iff.mp hj).1 tok.nd).mp (hj.trans hk.symm) ▸ lt)
        · cases hj
      have pL : p ∉ L := fun m => by
        obtain ⟨j, hj⟩ := List.mem_iff_getElem?.mp m
        have lt : j < (ks.take i).length := by rw [← si.len]; exact (List.getElem?_eq_some_iff.mp hj).1
        obtain ⟨xs, a, _⟩ := si.at_ j _ p (List.getElem?_eq_getElem lt) hj
        rw [hp] at a
        cases a
      have pD : p ≠ D := fun e => by
        obtain ⟨_, _, q⟩ := si.dn
        rw [e, q.at_] at hp
        cases hp
      have lz : ((ks.take i).zip (L.map V.ref)).length ≤ 300 := by
        rw [List.length_zip, List.length_take]
        have := tok.few
        omega
      refine ⟨D, _, _, kk, rfl, rfl, sk.dn, nk.keep e2, dp, by show _ < 2 ^ 24; omega, fun φ d' => ?_⟩
      have hz2 : putN ((ks.take i).zip (L.map V.ref)) kk (.ref p) = (ks.take (i + 1)).zip ((L ++ [p]).map V.ref) := by
        rw [putN_putA, putA_new (by rw [zip_fst (by rw [List.length_map]; exact si.len)]; exact nin), take_next' hk, List.map_append, List.zip_append (by rw [List.length_map]; exact si.len.symm)]
        rfl
      rw [hz2] at d'
      obtain ⟨_, _, gd⟩ := sk.dn
      have nt : NoT (upd Hc p (.lst [])) D := NoT.ext gd.at_
      refine ⟨fun c o hc => (upd_ne (fun z => by rw [z, hD] at hc; cases hc)).trans (e2 _ _ hc), L ++ [p], ⟨d', ?_, ?_, ?_, fun j k' p' h1 h2 => ?_⟩, ?_⟩
      · rw [List.length_append, si.len, take_next' hk, List.length_append]
        rfl
      · rw [List.nodup_append]
        exact ⟨si.nd, List.nodup_cons.mpr ⟨List.not_mem_nil, List.nodup_nil⟩, fun a ha b hb e => pL ((List.mem_singleton.mp hb) ▸ e ▸ ha)⟩
      · rw [List.mem_append, List.mem_singleton]
        exact fun h => h.elim si.off fun e => pD e.symm
      · by_cases q : j < L.length
        · rw [List.getElem?_append_left q] at h2
          have h1' : (ks.take i)[j]? = some k' := by
            rw [take_next' hk, List.getElem?_append_left (by rw [← si.len]; exact q)] at h1
            exact h1
          obtain ⟨ys, a, b⟩ := sk.at_ j k' p' h1' h2
          exact ⟨ys, (upd_ne fun e => si.off (by rw [← e]; exact List.mem_of_getElem? h2)).trans a, b.mono fun _ _ h => h.tk (Tk.upd nt)⟩
        · rw [List.getElem?_append_right (by omega)] at h2
          have z0 : j - L.length = 0 := by
            have := (List.getElem?_eq_some_iff.mp h2).1
            rw [List.length_singleton] at this
            omega
          rw [z0] at h2
          cases h2
          exact ⟨[], (upd_ne pD).trans upd_same, rfl, fun i x y h => by simp at h⟩
      · intro p' m
        rcases List.mem_append.mp m with m | m
        · exact fr p' m
        · rw [List.mem_singleton.mp m]
          exact ep
    · rintro Hc ⟨e1, L, si, fr⟩
      rw [lx, List.take_length] at si
      refine ⟨by show 0 ≤ sizeLine; decide, fun el hel => ?_⟩
      have he0 := none_of e1 hel
      have eD : el ≠ D := fun e => by
        obtain ⟨_, _, q⟩ := si.dn
        rw [e, q.at_] at hel
        cases hel
      have eL : el ∉ L := fun m => by
        obtain ⟨j, hj⟩ := List.mem_iff_getElem?.mp m
        have lt : j < ks.length := by rw [← si.len]; exact (List.getElem?_eq_some_iff.mp hj).1
        obtain ⟨xs, a, _⟩ := si.at_ j _ el (List.getElem?_eq_getElem lt) hj
        rw [hel] at a
        cases a
      have edl : ∀ i ≤ ks.length, (edges W (ks.take i)).length ≤ 3000 := fun i hi => by
        have h1 := edges_le (W := W) (ks := ks.take i) fun k hk => tok.ws k (List.take_subset _ _ hk)
        have h2 := tok.few
        rw [List.length_take] at h1
        omega
      refine ⟨_, rfl, t, o, xs, rfl, (same_new e1 hel) _ _ g.at_, ?_⟩
      refine for_it walk_keysN (fun i σ H2 => UI P w K H D el L ks (edges W (ks.take i)) H2 ∧ ∃ x1 x4 x5, σ = [some (.ref t), x1, some (.ref D), some (.ref el), x4, x5, none, none]) ⟨⟨same_new e1 hel, (si.keep (same_new (Same.refl Hc) hel)).congr fun _ _ => rfl, [], upd_same, rfl, fun i x y h => by simp at h⟩, none, none, none, rfl⟩ (fun i σ H2 _ h => h.1.1 _ _ g.at_) ?_ ?_
      · rintro i x σ H2 H3 hi ⟨⟨e2, s2, es, he2, ae2⟩, x1, x4, x5, rfl⟩ ⟨rfl, z, hz, rfl⟩
        obtain ⟨kk, hk, nk, dp⟩ := key i z hz
        have mk := List.mem_of_getElem? hk
        have nk2 := nk.keep e2
        obtain ⟨v, hv, l, ys, rfl, gl, al⟩ := pr.some (pairsOf_get (W := W) mk)
        have hl := sg _ _ gl
        have lW : ys.length = (W kk).length := al.1
        have lw := tok.ws kk mk
        refine ⟨_, rfl, _, rfl, t, _, kvs, kk, .ref l, rfl, rfl, DN.keep e2 ⟨o, xs, g⟩, nk2, dp, hv, l, rfl, ⟨ys, SqL.of (e2 _ _ hl)⟩, ?_⟩
        refine for_it (walk_list (K := K) (a := l) (xs := ys)) (fun j σ H4 => UI P w K H D el L ks (edges W (ks.take i) ++ ((W kk).take j).map fun p => (kk, p)) H4 ∧ ∃ x4 x5, σ = [some (.ref t), some (.ref z.2.1), some (.ref D), some (.ref el), x4, x5, none, none]) ⟨⟨e2, by rw [List.take_zero, List.map_nil, List.append_nil]; exact s2, es, he2, by rw [List.take_zero, List.map_nil, List.append_nil]; exact ae2⟩, x4, x5, rfl⟩ (fun j σ H4 _ h => .inl (.inl (h.1.1 _ _ hl))) ?_ ?_
        · rintro j x σ H4 H5 hj ⟨⟨e4, s4, es4, he4, ae4⟩, x4, x5, rfl⟩ ⟨rfl, hx⟩
          obtain ⟨p, hp, tt, y, rfl, hT, hN⟩ := al.get hx
          have mp := List.mem_of_getElem? hp
          have nk4 := nk.keep e4
          have hN4 := hN.keep e4
          have lE : (edges W (ks.take i) ++ ((W kk).take j).map fun p => (kk, p)).length ≤ 3010 := by
            have h1 := edl i (by rw [← lx]; omega)
            rw [List.length_append, List.length_map, List.length_take]
            omega
          have eE : (edges W (ks.take i) ++ ((W kk).take (j + 1)).map fun p => (kk, p)) = (edges W (ks.take i) ++ ((W kk).take j).map fun p => (kk, p)) ++ [(kk, p)] := by
            rw [take_next' hp, List.map_append, List.append_assoc]
            rfl
          refine ⟨tt, _, rfl, same_t e4 hT, rfl, _, _, rfl, _, _, rfl, rfl, ?_⟩
          generalize (edges W (ks.take i) ++ ((W kk).take j).map fun p => (kk, p)) = E0 at s4 ae4 lE eE
          rw [eE]
          have ntE : NoT H5 el := NoT.lst he4
          rcases tok.cl kk mk p mp with en | pu
          · rw [en] at hN4
            obtain rfl := hN4.dn
            refine ⟨_, rfl, -1, rfl, .inl ⟨-1, rfl, _, rfl, ite2 (fun _ => ?_) (fun z => absurd z (by decide))⟩⟩
            have l1 := SE_le E0 dn
            have l2 := ae4.1
            refine ⟨_, rfl, .inl ⟨rfl, _, SqL.of he4⟩, _, rfl, el, _, _, rfl, rfl, he4, by show _ < 2 ^ 24; omega, ⟨fun c o hc => (upd_ne (fun z => by rw [z, he0] at hc; cases hc)).trans (e4 _ _ hc), (s4.put eL eD ntE).congr fun u hu => ?_, _, upd_same, ?_⟩, _, _, rfl⟩
            · rw [SE_snoc, if_neg]
              rw [en]
              exact fun q => (tok.pl u hu).ne q.symm
            · rw [SE_snoc, if_pos en]
              exact (ae4.mono fun _ _ h => h.tk (Tk.upd ntE)).snoc (nk4.tk (Tk.upd ntE))
          · have ppl := tok.pl _ pu
            obtain ⟨b', bs, rfl, hb'⟩ := hN4.ref ppl
            refine ⟨_, rfl, -1, rfl, .inr ⟨b', bs, rfl, hb', _, rfl, iteF ?_⟩⟩
            obtain ⟨n, q, zs, hn, hq, vq, hq2, alq⟩ := s4.get tok.nd pu
            have mq := List.mem_of_getElem? hq
            have l1 := SE_le E0 p.2
            have l2 := alq.1
            have qe : q ≠ el := fun e => eL (e ▸ mq)
            have ntq : NoT H5 q := NoT.lst hq2
            refine ⟨_, rfl, _, rfl, D, b', _, p.2, .ref q, rfl, rfl, s4.dn, hN4, Nat.le_trans ppl.2 (by decide), vq, .inl ⟨rfl, _, SqL.of hq2⟩, _, rfl, q, _, _, rfl, rfl, hq2, by show _ < 2 ^ 24; omega, ⟨fun c o hc => (upd_ne (fun e => by
              have := fr q mq
              rw [← e, hc] at this
              cases this)).trans (e4 _ _ hc), (s4.app tok.nd hn hq hq2 alq nk4).congr fun u hu => ?_, es4, (upd_ne qe.symm).trans he4, ?_⟩, _, _, rfl⟩
            · rw [SE_snoc]
              by_cases z : p.2 = u
              · rw [if_pos z, if_pos z.symm]
              · rw [if_neg z, if_neg fun e => z e.symm]
            · rw [SE_snoc, if_neg ppl.ne]
              exact ae4.mono fun _ _ h => h.tk (Tk.upd ntq)
        · rintro σ H4 ⟨u4, x4, x5, rfl⟩
          rw [lW, List.take_length, ← edges_snoc, ← take_next' hk] at u4
          exact ⟨u4, _, _, _, rfl⟩
      · rintro σ H2 ⟨⟨e2, s2, es, he2, ae2⟩, x1, x4, x5, rfl⟩
        rw [lx, List.take_length] at s2 ae2
        refine fun ud ou hud g1 => ?_
        have hu0 := none_of e2 hud
        have e3 := same_new (o := DnO P w ud ou []) (Same.refl H2) hud
        have udD : ud ≠ D := fun e => by
          obtain ⟨_, _, q⟩ := s2.dn
          rw [e, q.at_] at hud
          cases hud
        have udE : ud ≠ el := fun e => by rw [e, he2] at hud; cases hud
        have udL : ud ∉ L := fun m => by
          obtain ⟨j, hj⟩ := List.mem_iff_getElem?.mp m
          have lt : j < ks.length := by rw [← s2.len]; exact (List.getElem?_eq_some_iff.mp hj).1
          obtain ⟨xs, a, _⟩ := s2.at_ j _ ud (List.getElem?_eq_getElem lt) hj
          rw [hud] at a
          cases a
        have lE := edl ks.length (Nat.le_refl _)
        rw [List.take_length] at lE
        have few := tok.few
        refine tWhile_of (UW P w K H W t D el ud L ks) _ ⟨[], SE (edges W ks) dn, es, e2.trans e3, s2.keep e3, e3 _ _ he2, ae2.mono fun _ _ h => h.keep e3, ⟨[], ⟨ou, [], upd_same, rfl, fun i p x h => by simp at h⟩, rfl⟩, List.nodup_nil, nofun, fun k hk => ?_, fun k hk p hp h => ?_, ?_, rfl, x1, x4, x5, none, rfl⟩ ?_
        · obtain ⟨p, hp, e⟩ := mem_SE.mp hk
          obtain ⟨h1, h2⟩ := mem_edges.mp hp
          exact ⟨h1, .fin h2 e⟩
        · rcases h with h | h
          · exact .inr (mem_SE.mpr ⟨p, mem_edges.mpr ⟨hk, hp⟩, h⟩)
          · cases h
        · have := SE_le (edges W ks) dn
          rw [List.length_nil]
          omega
        rintro m σ H4 ⟨us, todo, es4, e4, s4, he4, ae4, ui, nd, ku, kt, cp, lt, rfl, x1, x4, x5, x7, rfl⟩
        have les : es4.length = todo.length := ae4.1
        have lus := nodup_le nd fun k hk => (ku k hk).1
        refine ⟨_, rfl, el, es4, rfl, .inl (SqL.of he4), _, _, rfl, rfl, _, rfl, ite2 (fun gg => ?_) (fun gg => ?_)⟩
        · have l0 : 0 < es4.length := by
            have := of_decide_eq_true gg
            omega
          refine ⟨fun σ' H' => ∃ m', m' < (ks.length - us.length) * 3001 + todo.length ∧ UW P w K H W t D el ud L ks m' σ' H', fun _ _ h => h, ?_⟩
          have hy : es4[es4.length - 1]? = some (es4[es4.length - 1]'(by omega)) := List.getElem?_eq_getElem _
          obtain ⟨kp, hkp, nk⟩ := ae4.get hy
          generalize es4[es4.length - 1]'(by omega) = y at hy nk
          have mk := List.mem_of_getElem? hkp
          obtain ⟨kin, ken⟩ := kt kp mk
          have kpl := tok.pl kp kin
          obtain ⟨b, bx, rfl, hb0⟩ := nk.ref kpl
          have lt' : todo.dropLast.length = todo.length - 1 := List.length_dropLast
          have lt0 := List.length_pos_of_mem mk
          have sp := last_split (xs := todo) (x := kp) (by rw [← les]; exact hkp)
          have inT : ∀ k, k ∈ todo → k ∈ todo.dropLast ∨ k = kp := fun k hk => by
            rw [sp, List.mem_append, List.mem_singleton] at hk
            exact hk
          refine ⟨_, rfl, .inl ⟨rfl, _, SqL.of he4⟩, el, es4, _, rfl, rfl, he4, hy, ?_⟩
          have tk5 : Tk H4 (upd H4 el (.lst es4.dropLast)) := Tk.upd (NoT.lst he4)
          have s5 := s4.put (o := .lst es4.dropLast) eL eD (NoT.lst he4)
          have ui5 := ui.tk tk5 (upd_ne udE)
          have he5 : upd H4 el (.lst es4.dropLast) el = some (.lst es4.dropLast) := upd_same
          have ae5 := (al_dropLast ae4).mono fun _ _ h => h.tk tk5
          have nk5 := nk.tk tk5
          have e5 : Same H (upd H4 el (.lst es4.dropLast)) := fun c o hc => (upd_ne (fun z => by rw [z, he0] at hc; cases hc)).trans (e4 _ _ hc)
          show tSeq _ _ _ _ (upd H4 el (.lst es4.dropLast))
          generalize upd H4 el (.lst es4.dropLast) = H5 at s5 ui5 he5 ae5 nk5 e5 ⊢
          obtain ⟨uvs, ud5, uk⟩ := id ui5
          refine ⟨_, rfl, _, rfl, ud, b, uvs, kp, rfl, rfl, ud5, nk5, Nat.le_trans kpl.2 (by decide), ?_⟩
          rw [UsI.has uk kp]
          refine ⟨_, rfl, ite2 (fun g2 => ?_) (fun g2 => ?_)⟩
          · have nin : kp ∉ us := by simpa using g2
            have ndk : (us ++ [kp]).Nodup := by
              rw [List.nodup_append]
              exact ⟨nd, List.nodup_cons.mpr ⟨List.not_mem_nil, List.nodup_nil⟩, fun a ha b hb e => nin ((List.mem_singleton.mp hb) ▸ e ▸ ha)⟩
            have ku' : ∀ k ∈ us ++ [kp], k ∈ ks ∧ Ends W k := fun k hk => (List.mem_append.mp hk).elim (ku k) fun h => by
              obtain rfl := List.mem_singleton.mp h
              exact ⟨kin, ken⟩
            have lU := nodup_le ndk fun k hk => (ku' k hk).1
            rw [List.length_append, List.length_singleton] at lU
            have luv : uvs.length = us.length := by rw [← uk, List.length_map]
            refine ⟨_, rfl, _, rfl, ud, b, uvs, kp, rfl, rfl, ud5, nk5, Nat.le_trans kpl.2 (by decide), by show _ < 2 ^ 24; omega, fun φ ud6 => ?_⟩
            obtain ⟨_, _, uu⟩ := id ud5
            have ntu : NoT H5 ud := NoT.ext uu.at_
            have tk6 : Tk H5 (upd H5 ud (.ext φ)) := Tk.upd ntu
            have s6 := s5.put (o := .ext φ) udL udD ntu
            have he6 : upd H5 ud (.ext φ) el = some (.lst es4.dropLast) := (upd_ne udE.symm).trans he5
            have ae6 := ae5.mono fun _ _ h => h.tk tk6
            have nk6 := nk5.tk tk6
            have e6 : Same H (upd H5 ud (.ext φ)) := fun c o hc => (upd_ne (fun z => by rw [z, hu0] at hc; cases hc)).trans (e5 _ _ hc)
            have ui6 : UsI P w K (upd H5 ud (.ext φ)) ud (us ++ [kp]) := ⟨_, ud6, by rw [putN_putA, putA_keys, uk, if_neg nin]⟩
            generalize upd H5 ud (.ext φ) = H6 at s6 he6 ae6 nk6 e6 ui6 ⊢
            obtain ⟨n, q, zs, hn, hq, vq, hq2, alq⟩ := s6.get tok.nd kin
            have l1 := SE_le (edges W ks) kp
            have l2 := alq.1
            have tk7 : Tk H6 (upd H6 el (.lst (es4.dropLast ++ zs))) := Tk.upd (NoT.lst he6)
            refine ⟨_, rfl, .inl ⟨rfl, _, SqL.of he6⟩, _, rfl, _, rfl, D, b, _, kp, .ref q, rfl, rfl, s6.dn, nk6, Nat.le_trans kpl.2 (by decide), vq, el, q, _, _, rfl, rfl, he6, hq2, ?_, ?_⟩
            · rw [List.length_dropLast]
              show _ ≤ 2 ^ 24
              omega
            · refine ⟨_, ?_, us ++ [kp], todo.dropLast ++ SE (edges W ks) kp, es4.dropLast ++ zs, fun c o hc => (upd_ne (fun z => by rw [z, he0] at hc; cases hc)).trans (e6 _ _ hc), s6.put eL eD (NoT.lst he6), upd_same, al_append (ae6.mono fun _ _ h => h.tk tk7) (alq.mono fun _ _ h => h.tk tk7), ui6.tk tk7 (upd_ne udE), ndk, ku', fun k hk => ?_, fun k hk p hp h => ?_, ?_, rfl, _, _, _, _, rfl⟩
              · rw [List.length_append, List.length_append, List.length_singleton]
                omega
              · rcases List.mem_append.mp hk with h | h
                · exact kt k (List.dropLast_subset _ h)
                · obtain ⟨p, hp, e⟩ := mem_SE.mp h
                  obtain ⟨h1, h2⟩ := mem_edges.mp hp
                  exact ⟨h1, .on h2 (by rw [e]; exact kpl.ne) (by rw [e]; exact ken)⟩
              · rw [List.mem_append, List.mem_append, List.mem_singleton]
                have old : (p.2 = dn ∨ p.2 ∈ us) → (k ∈ us ∨ k = kp) ∨ k ∈ todo.dropLast ∨ k ∈ SE (edges W ks) kp := fun h => (cp k hk p hp h).elim (fun h => .inl (.inl h)) fun h => (inT k h).elim (fun h => .inr (.inl h)) fun h => .inl (.inr h)
                rcases h with h | h
                · exact old (.inl h)
                · rcases List.mem_append.mp h with h | h
                  · exact old (.inr h)
                  · exact .inr (.inr (mem_SE.mpr ⟨p, mem_edges.mpr ⟨hk, hp⟩, List.mem_singleton.mp h⟩))
              · rw [List.length_append, List.length_append, List.length_singleton]
                omega
          · have nin : kp ∈ us := by simpa using g2
            refine ⟨_, ?_, us, todo.dropLast, es4.dropLast, e5, s5, he5, ae5, ui5, nd, ku, fun k hk => kt k (List.dropLast_subset _ hk), fun k hk p hp h => ?_, ?_, rfl, _, _, _, _, rfl⟩
            · omega
            · exact (cp k hk p hp h).elim .inl fun h => (inT k h).elim .inr fun e => .inl (by rw [e]; exact nin)
            · omega
        · have t0 : todo = [] := by
            refine List.length_eq_zero_iff.mp ?_
            cases z : es4.length with
            | zero => omega
            | succ n => exact absurd (decide_eq_true (by rw [z]; omega)) gg
          subst t0
          refine ⟨_, rfl, k H4 ud us e4 hu0 ui fun k => ⟨ku k, fun ⟨h1, h2⟩ => ends_in tok.cl (fun k hk p hp h => (cp k hk p hp h).resolve_right nofun) h2 h1⟩⟩
end
end MK
set_option Elab.async false
set_option linter.all false
set_option autoImplicit false
set_option maxRecDepth 100000
set_option maxHeartbeats 4000000
namespace MK
open PySem PySem.Spec PyProof.Rows L2
open C8 (Met pe_mt pe_mt0 Mak pe_mk)
local macro_rules | `(tactic| walk_at "x") => `(tactic| dsimp only [tSeq, tAsg, tRet, tDrop, tLst, tTup, tCons, tOp, tUn, tIfS])
theorem sc_useful_ways : FnScope ["table", "useful", "trimmed", "place", "way"] ["table"] (defScope s_useful_ways) := ⟨rfl, rfl, rfl, by decide +kernel, rfl, by decide +kernel, by decide +kernel⟩
def spTrim (P : Program) (w : World) (K : PySem.W.Frag) : Sp := fun vs H Q _ => ∃ (t : Addr) (G : Hp) (W : Pl → List Way) (ks : List Pl), vs = [.ref t] ∧ Same G H ∧ TbI P w K G H t (pairsOf W ks) ∧ TbOk W ks ∧
  ∀ H' r us, Same H H' → H r = none → TbI P w K (Off r H') H' r (pairsOf (trimW W us) (trimK ks us)) → (∀ k, k ∈ us ↔ k ∈ ks ∧ Ends W k) → Q (.ref r) H'
section
variable {P : Program} {w : World} {K : PySem.W.Frag} {mg : Str → Option Value} {base : Heap}
theorem ok_trim {f : Addr} {fd : FuncData} (F : DefX K mg "useful_ways" s_useful_ways ["table"] f fd) (T : Txt K mg) (Cs : MCst mg) (c_useful_places : Cal P w K mg base CX0 1 "useful_places" (spUse P w K)) : Cal P w K mg base CX0 2 "useful_ways" (spTrim P w K) := by
  refine cal_mk F sc_useful_ways (fun vs H Q E h => ?_) (fun cdv A outer s H vs Q E hr h => ?_)
  · obtain ⟨t, _, _, _, rfl, _⟩ := h
    rfl
  · obtain ⟨t, G, W, ks, rfl, sg, ti, tok, k⟩ := h
    refine ⟨_, (pss_cons (ps_set (i := 1) sc_useful_ways.nd rfl (Or.inr rfl) (pe_c c_useful_places hr (by first | decide | assumption) rfl (pa_cons (pv 0) pa_nil)))
(pss_cons (ps_set (i := 2) sc_useful_ways.nd rfl (Or.inl rfl) pe_dnewN)
(pss_cons (ps_for PassesOwn.never rfl (pi_keysNK (P := P) (w := w) rfl rfl (pv 0)) (pg_name (i := 3) sc_useful_ways.nd rfl (Or.inl rfl))
(pss_one (ps_if (pt_cmpR (op_inNK (P := P) (w := w) (K := K) rfl rfl rfl (u9 hr)) (pv 3) (pv 1) (by rfl))
(pss_one (ps_asg (pe_lc (own := [("way", 4)]) (g := (gName 4)) rfl sc_useful_ways.nd (pi_list (pe_ixNK (P := P) (w := w) (K := K) rfl rfl rfl (u9 hr) (pv 0) (pv 3) (fun _ _ => rfl))) (blkOk_by (own := [("way", 4)]) (N := ["table", "useful", "trimmed", "place", "way"]) (sc := defScope s_useful_ways) (by decide +kernel)) (fun _ _ _ _ _ => (pg_name (i := 4) sc_useful_ways.nd rfl (Or.inl rfl))) (fun _ _ _ _ _ => (pts_one (pt_cut (PW.pt (pw_or (pt_cmpR (op_eqI (K := K) rfl hr.units0) (pe_ix (ix_tupK (K := K) rfl) (pv 4) pe_int (fun _ _ => rfl)) (pe_cst rfl Cs.DONE) (nomark _)) (pw_or1 (pt_cmpR (op_inNK (P := P) (w := w) (K := K) rfl rfl rfl (u9 hr)) (pe_ix (ix_tupK (K := K) rfl) (pv 4) pe_int (fun _ _ => rfl)) (pv 1) (by rfl)))))))) (fun _ _ _ _ _ => (pv 4))) (pg_sub (pv 2) (pv 3) (set_dn (u9 hr)))))
pss_nil)))
(pss_one (ps_ret (pv 2)))))), ?_⟩
    obtain ⟨o, xs, kvs, g, pr, lx, key⟩ := ti.walk
    refine ⟨_, rfl, t, G, W, ks, rfl, sg, ti, tok, fun H1 ud us e1 hud ui hu => ?_⟩
    refine fun tr oo htr g0 => ?_
    have htr0 := none_of e1 htr
    obtain ⟨uvs, udn, uk⟩ := id ui
    have udr : ud ≠ tr := fun e => by
      obtain ⟨_, _, q⟩ := udn
      rw [← e, q.at_] at htr
      cases htr
    refine ⟨_, rfl, t, o, xs, rfl, (same_new e1 htr) _ _ g.at_, ?_⟩
    refine for_it walk_keysN (fun i σ H2 => Same H1 H2 ∧ TbI P w K (Off tr H2) H2 tr (pairsOf (trimW W us) ((ks.take i).filter fun k => decide (k ∈ us))) ∧ ∃ x3 x4, σ = [some (.ref t), some (.ref ud), some (.ref tr), x3, x4]) ⟨same_new (Same.refl _) htr, ⟨[], ⟨oo, [], upd_same, rfl, fun i p x h => by simp at h⟩, Pr.nil⟩, none, none, rfl⟩ (fun i σ H2 _ h => h.1 _ _ (e1 _ _ g.at_)) ?_ ?_
    · rintro i x σ H2 H3 hi ⟨e2, ri, x3, x4, rfl⟩ ⟨rfl, z, hz, rfl⟩
      obtain ⟨kk, hk, nk, dp⟩ := key i z hz
      have mk := List.mem_of_getElem? hk
      have e02 := e1.trans e2
      have nk2 := nk.keep e02
      obtain ⟨v, hv, l, ys, rfl, gl, al⟩ := pr.some (pairsOf_get (W := W) mk)
      have hl := e02 _ _ (sg _ _ gl)
      have lW : ys.length = (W kk).length := al.1
      have lw := tok.ws kk mk
      refine ⟨_, rfl, _, rfl, ud, _, uvs, kk, rfl, rfl, udn.keep e2, nk2, dp, ?_⟩
      rw [UsI.has uk kk]
      refine ⟨_, rfl, ite2 (fun g2 => ?_) (fun g2 => ?_)⟩
      · have inU := of_decide_eq_true g2
        refine ⟨_, rfl, _, rfl, t, _, kvs, kk, .ref l, rfl, rfl, DN.keep e02 ⟨o, xs, g⟩, nk2, dp, hv, l, rfl, ⟨ys, SqL.of hl⟩, fun D hD => ?_⟩
        refine lc_it (walk_list (K := K) (a := l) (xs := ys)) (fun j H5 => Same H3 H5 ∧ ∃ zs, H5 D = some (.lst zs) ∧ Al (WyV K H5) zs (((W kk).take j).filter (trimB us))) ⟨same_new (Same.refl _) hD, [], upd_same, rfl, fun i x y h => by simp at h⟩ (fun j H5 _ h => .inl (.inl (h.1 _ _ hl))) ?_ ?_
        · rintro j x H5 H4 hj ⟨e4, zs, d4, a4⟩ ⟨rfl, hx⟩
          obtain ⟨p, hp, tt, y, rfl, hT, hN⟩ := al.get hx
          have mp := List.mem_of_getElem? hp
          have hT4 := same_t ((e1.trans e2).trans e4) hT
          have hN4 := hN.keep ((e1.trans e2).trans e4)
          have fe := filter_next (f := trimB us) hp
          have e8 : Same H3 (upd H4 D (.lst (zs ++ [.ref tt]))) := fun c o hc => (upd_ne (fun z => by rw [z, hD] at hc; cases hc)).trans (e4 _ _ hc)
          have e48 : Tk H4 (upd H4 D (.lst (zs ++ [.ref tt]))) := Tk.upd (NoT.lst d4)
          refine ⟨rfl, fun b H' => b = trimB us p ∧ H' = H4, ?_, ?_⟩
          · rcases tok.cl kk mk p mp with en | pu
            · have hb : trimB us p = true := by
                unfold trimB
                rw [decide_eq_true en]
                rfl
              rw [hb]
              rw [en] at hN4
              obtain rfl := hN4.dn
              exact ⟨_, rfl, tt, _, 1, .int (-1), rfl, rfl, hT4, rfl, -1, rfl, .inl ⟨-1, rfl, _, rfl, ite2 (fun _ => ⟨rfl, rfl⟩) (fun z => absurd z (by decide))⟩⟩
            · have ppl := tok.pl _ pu
              have hb : trimB us p = decide (p.2 ∈ us) := by
                unfold trimB
                rw [decide_eq_false ppl.ne]
                rfl
              rw [hb]
              obtain ⟨b', bs, rfl, hb'⟩ := hN4.ref ppl
              refine ⟨_, rfl, tt, _, 1, .ref b', rfl, rfl, hT4, rfl, -1, rfl, .inr ⟨b', bs, rfl, hb', _, rfl, iteF ?_⟩⟩
              refine ⟨_, rfl, tt, _, 1, .ref b', rfl, rfl, hT4, rfl, _, rfl, ud, b', uvs, p.2, rfl, rfl, udn.keep (e2.trans e4), hN4, Nat.le_trans ppl.2 (by decide), ?_⟩
              rw [UsI.has uk p.2]
              exact ⟨_, rfl, rfl, rfl⟩
          · rintro b H' ⟨rfl, rfl⟩
            refine ite2 (fun q => ⟨_, rfl, zs, d4, ?_, e8, _, upd_same, ?_⟩) (fun q => ⟨e4, zs, d4, ?_⟩)
            · have h1 := a4.1
              have h2 := List.length_filter_le (trimB us) ((W kk).take j)
              rw [List.length_take] at h2
              show _ < 2 ^ 24
              omega
            · rw [fe, if_pos q]
              exact (a4.mono fun _ _ h => h.tk e48).snoc ⟨tt, y, rfl, e48.sqt hT4, hN4.tk e48⟩
            · rw [fe, if_neg q, List.append_nil]
              exact a4
        · rintro H4 ⟨e4, zs, d4, a4⟩
          rw [lW, List.take_length] at a4
          obtain ⟨rvs, rdn, rpr⟩ := id ri
          have lr : rvs.length ≤ 300 := by
            have h1 := rpr.1
            unfold pairsOf at h1
            rw [List.length_map] at h1
            have h2 := List.length_filter_le (fun k => decide (k ∈ us)) (ks.take i)
            rw [List.length_take] at h2
            have := tok.few
            omega
          have nin : kk ∉ (ks.take i).filter fun k => decide (k ∈ us) := fun m => by
            obtain ⟨j, hj⟩ := List.mem_iff_getElem?.mp (List.mem_filter.mp m).1
            rw [List.getElem?_take] at hj
            split at hj
            · rename_i lt
              exact Nat.lt_irrefl i ((List.getElem?_inj (List.getElem?_eq_some_iff.mp hj).1 tok.nd).mp (hj.trans hk.symm) ▸ lt)
            · cases hj
          have r4 := rdn.keep e4
          refine ⟨_, rfl, _, rfl, tr, _, rvs, kk, rfl, rfl, r4, nk2.keep e4, dp, by show _ < 2 ^ 24; omega, fun φ rd => ?_⟩
          obtain ⟨_, _, rr⟩ := id r4
          obtain ⟨_, _, rr3⟩ := id rdn
          have tk5 : Tk H4 (upd H4 tr (.ext φ)) := Tk.upd (NoT.ext rr.at_)
          have Dt : D ≠ tr := fun e => by rw [e, rr3.at_] at hD; cases hD
          have s5 : Same (Off tr H3) (Off tr (upd H4 tr (.ext φ))) := by
            rw [off_put]
            exact same_off e4
          refine ⟨fun c o hc => (upd_ne (fun z => by rw [z, htr] at hc; cases hc)).trans (e4 _ _ (e2 _ _ hc)), ?_, _, _, rfl⟩
          refine ⟨_, rd, ?_⟩
          have fk := filter_next (f := fun k => decide (k ∈ us)) hk
          rw [if_pos g2] at fk
          rw [fk, ← pairsOf_put nin, putN_putA]
          refine (rpr.mono fun _ _ h => h.tk s5 ((Tk.of e4).trans tk5)).put ⟨D, zs, rfl, (off_ne Dt).trans ((upd_ne Dt).trans d4), a4.mono fun _ _ h => h.tk tk5⟩
      · have fk := filter_next (f := fun k => decide (k ∈ us)) hk
        rw [if_neg g2, List.append_nil] at fk
        refine ⟨e2, ?_, _, _, rfl⟩
        rw [fk]
        exact ri
    · rintro σ H2 ⟨e2, ri, x3, x4, rfl⟩
      rw [lx, List.take_length] at ri
      exact ⟨_, rfl, k H2 tr us (e1.trans e2) htr0 ri hu⟩
end
end MK
set_option Elab.async false
set_option linter.all false
set_option autoImplicit false
set_option maxRecDepth 100000
set_option maxHeartbeats 4000000
namespace MK
open PySem PySem.Spec PyProof.Rows L2
open C8 (Met pe_mt pe_mt0 Mak pe_mk)
local macro_rules | `(tactic| walk_at "x") => `(tactic| dsimp only [tSeq, tAsg, tRet, tDrop, tLst, tTup, tCons, tOp, tUn, tIfS])
theorem sc_number_of_classes : FnScope ["classes"] ["classes"] (defScope s_number_of_classes) := ⟨rfl, rfl, rfl, by decide +kernel, rfl, by decide +kernel, by decide +kernel⟩
/-- the class of each place -/
def ClI (P : Program) (w : World) (K : PySem.W.Frag) (H : Hp) (d : Addr) (ks : List Pl) (c : Pl → Nat) : Prop := DN P w K H d (ks.map fun k => (k, V.int (c k)))
def spNoc (P : Program) (w : World) (K : PySem.W.Frag) : Sp := fun vs H Q _ => ∃ (d : Addr) (ks : List Pl) (c : Pl → Nat), vs = [.ref d] ∧ ClI P w K H d ks c ∧ ks.length ≤ 300 ∧ ∀ H', Same H H' → Q (.int (dcount (ks.map fun k => (c k : Int)))) H'
section
variable {P : Program} {w : World} {K : PySem.W.Frag} {mg : Str → Option Value} {base : Heap}
theorem ok_noc {f : Addr} {fd : FuncData} (F : DefX K mg "number_of_classes" s_number_of_classes ["classes"] f fd) (T : Txt K mg) : Cal P w K mg base CX0 1 "number_of_classes" (spNoc P w K) := by
  refine cal_mk F sc_number_of_classes (fun vs H Q E h => ?_) (fun cdv A outer s H vs Q E hr h => ?_)
  · obtain ⟨d, _, _, rfl, _⟩ := h
    rfl
  · obtain ⟨d, ks, c, rfl, ci, few, k⟩ := h
    refine ⟨_, (pss_one (ps_ret (pe_lenSI rfl (by rfl) T.len (by rfl) T.set (pe_callTy (call_listVN rfl) (by rfl) T.list (by decide +kernel) (pa_cons (pe_valsN (pv 0)) pa_nil))))), ?_⟩
    obtain ⟨o, xs, g⟩ := id ci
    refine ⟨_, rfl, d, o, xs, rfl, g.at_, fun v hv => ?_⟩
    have e1 := same_new (o := VwO v d) (Same.refl H) hv
    refine ⟨v, d, o, xs, _, rfl, upd_same, g.keep e1, fun p hp => ⟨p, ks.map fun k => (c k : Int), rfl, SqL.of ?_, ?_, k _ (same_new e1 hp)⟩⟩
    · rw [upd_same, List.map_map, List.map_map]
      rfl
    · rw [List.length_map]
      omega
end
end MK
set_option Elab.async false
set_option linter.all false
set_option autoImplicit false
set_option maxRecDepth 100000
set_option maxHeartbeats 4000000
namespace MK
open PySem PySem.Spec PyProof.Rows L2
open C8 (Met pe_mt pe_mt0 Mak pe_mk)
local macro_rules | `(tactic| walk_at "x") => `(tactic| dsimp only [tSeq, tAsg, tRet, tDrop, tLst, tTup, tCons, tOp, tUn, tIfS])
theorem sc_told_apart : FnScope ["table", "place", "classes", "many", "numbers", "finer", "name", "to", "rests"] ["table"] (defScope s_told_apart) := ⟨rfl, rfl, rfl, by decide +kernel, rfl, by decide +kernel, by decide +kernel⟩
def spApart (P : Program) (w : World) (K : PySem.W.Frag) : Sp := fun vs H Q _ => ∃ (t : Addr) (G : Hp) (W : Pl → List Way) (ks : List Pl), vs = [.ref t] ∧ Same G H ∧ TbI P w K G H t (pairsOf W ks) ∧ TbOk W ks ∧
  ∀ H' d c, Same H H' → H d = none → ClI P w K H' d ks c → (∀ k ∈ ks, c k ≤ 300) → Stable W ks c → Coarse W ks c → Q (.ref d) H'
/-- the rounds so far -/
def ApI (P : Program) (w : World) (K : PySem.W.Frag) (H : Hp) (W : Pl → List Way) (t : Addr) (ks : List Pl) (m : Nat) (σ : L2.St) (H2 : Hp) : Prop := ∃ (d : Addr) (c : Pl → Nat) (many : Nat), Same H H2 ∧ H d = none ∧ ClI P w K H2 d ks c ∧ (∀ k ∈ ks, c k ≤ 300) ∧ Coarse W ks c ∧ (noc ks c ≤ many → Stable W ks c) ∧ m = ks.length - many ∧ ∃ x1 x4 x5 x6 x7 x8, σ = [some (.ref t), x1, some (.ref d), some (.int (many : Nat)), x4, x5, x6, x7, x8]
theorem ClI.keep {P : Program} {w : World} {K : PySem.W.Frag} {H H' : Hp} {d : Addr} {ks : List Pl} {c : Pl → Nat} (h : ClI P w K H d ks c) (e : Same H H') : ClI P w K H' d ks c := DN.keep e h
section
variable {P : Program} {w : World} {K : PySem.W.Frag} {mg : Str → Option Value} {base : Heap}
theorem ok_apart {f : Addr} {fd : FuncData} (F : DefX K mg "told_apart" s_told_apart ["table"] f fd) (T : Txt K mg) (Cs : MCst mg) (c_number_of_classes : Cal P w K mg base CX0 1 "number_of_classes" (spNoc P w K)) : Cal P w K mg base CX0 2 "told_apart" (spApart P w K) := by
  refine cal_mk F sc_told_apart (fun vs H Q E h => ?_) (fun cdv A outer s H vs Q E hr h => ?_)
  · obtain ⟨t, _, _, _, rfl, _⟩ := h
    rfl
  · obtain ⟨t, G, W, ks, rfl, sg, ti, tok, k⟩ := h
    refine ⟨_, (pss_cons (ps_set (i := 2) sc_told_apart.nd rfl (Or.inr rfl) (pe_dcn (own := [("place", 1)]) (g := (gName 1)) (tt := tYes) (u9 hr) rfl sc_told_apart.nd (pi_keysNK (P := P) (w := w) rfl rfl (pv 0)) (blkOk_by (own := [("place", 1)]) (N := ["table", "place", "classes", "many", "numbers", "finer", "name", "to", "rests"]) (sc := defScope s_told_apart) (by decide +kernel)) (fun _ _ _ _ _ => (pg_name (i := 1) sc_told_apart.nd rfl (Or.inl rfl))) (fun _ _ _ _ _ => pts_nil) (fun _ _ _ _ _ => (pv 1)) (fun _ _ _ _ _ => pe_int)))
(pss_cons (ps_set (i := 3) sc_told_apart.nd rfl (Or.inl rfl) pe_int)
(pss_cons (ps_while PassesOwn.never (pt_cmpR op_lt (pv 3) (pe_c c_number_of_classes hr (by first | decide | assumption) rfl (pa_cons (pv 2) pa_nil)) (nomark _))
(pss_cons (ps_set (i := 3) sc_told_apart.nd rfl (Or.inl rfl) (pe_c c_number_of_classes hr (by first | decide | assumption) rfl (pa_cons (pv 2) pa_nil)))
(pss_cons (ps_set (i := 4) sc_told_apart.nd rfl (Or.inl rfl) pe_dnewN)
(pss_cons (ps_set (i := 5) sc_told_apart.nd rfl (Or.inl rfl) pe_dnewN)
(pss_cons (ps_for PassesOwn.never rfl (pi_keysNK (P := P) (w := w) rfl rfl (pv 0)) (pg_name (i := 1) sc_told_apart.nd rfl (Or.inl rfl))
(pss_cons (ps_set (i := 8) sc_told_apart.nd rfl (Or.inl rfl) (pe_callTy call_tuple_of (by rfl) T.tuple (by decide +kernel) (pa_cons (pe_lc (own := [("name", 6), ("to", 7)]) (g := (gTup K 2 (gCons (gName 6) (gCons (gName 7) gNil)))) (tt := tYes) rfl sc_told_apart.nd (pi_list (pe_ixNK (P := P) (w := w) (K := K) rfl rfl rfl (u9 hr) (pv 0) (pv 1) (fun _ _ => rfl))) (blkOk_by (own := [("name", 6), ("to", 7)]) (N := ["table", "place", "classes", "many", "numbers", "finer", "name", "to", "rests"]) (sc := defScope s_told_apart) (by decide +kernel)) (fun _ _ _ _ _ => (pg_tup (by rfl) (pgs_cons (pg_name (i := 6) sc_told_apart.nd rfl (Or.inl rfl)) (pgs_cons (pg_name (i := 7) sc_told_apart.nd rfl (Or.inl rfl)) pgs_nil)))) (fun _ _ _ _ _ => pts_nil) (fun _ _ _ _ _ => (pe_tup (pa_cons (pv 6) (pa_cons (pe_cut (pe_ifExp (pt_cmpR (op_eqI (K := K) rfl hr.units0) (pv 7) (pe_cst rfl Cs.DONE) (nomark _)) (pe_cst rfl Cs.DONE) (pe_ixNK (P := P) (w := w) (K := K) rfl rfl rfl (u9 hr) (pv 2) (pv 7) (fun _ _ => rfl)))) pa_nil))))) pa_nil)))
(pss_one (ps_asg (pe_setdN (u10 hr) (pv 4) (pe_tup (pa_cons (pe_ixNK (P := P) (w := w) (K := K) rfl rfl rfl (u9 hr) (pv 2) (pv 1) (fun _ _ => rfl)) (pa_cons (pv 8) pa_nil))) (pe_callB (call_lenN (P := P) (w := w) (K := K) rfl rfl rfl) (by rfl) T.len (by decide +kernel) (pa_cons (pv 4) pa_nil)) ⟨rfl, rfl, rfl, rfl⟩) (pg_sub (pv 5) (pv 1) (set_dn (u9 hr)))))))
(pss_one (ps_set (i := 2) sc_told_apart.nd rfl (Or.inr rfl) (pv 5))))))))
(pss_one (ps_ret (pv 2)))))), ?_⟩
    obtain ⟨o, xs, kvs, g, pr, lx, key⟩ := ti.walk
    have few := tok.few
    refine ⟨_, rfl, t, o, xs, rfl, g.at_, fun D ob hD g0 => ?_⟩
    refine dcn_keys (fun i Hc => Same H Hc ∧ DN P w K Hc D (clL (ks.take i) fun _ => 0)) ⟨same_new (Same.refl H) hD, ob, [], upd_same, rfl, fun i p x h => by simp [clL] at h⟩ (fun i Hc _ h => h.1 _ _ g.at_) ?_ ?_
    · rintro i z Hc hz ⟨e1, si⟩
      obtain ⟨kk, hk, nk, dp⟩ := key i z hz
      have lz := clL_len (ks.take i) fun _ => 0
      rw [List.length_take] at lz
      refine ⟨rfl, _, rfl, D, _, _, kk, rfl, rfl, si, nk.keep e1, dp, by show _ < 2 ^ 24; omega, fun φ d' => ⟨fun c o hc => (upd_ne (fun z => by rw [z, hD] at hc; cases hc)).trans (e1 _ _ hc), ?_⟩⟩
      rw [take_next' hk, ← clL_put (take_nin tok.nd hk)]
      exact d'
    rintro Hc ⟨e1, si⟩
    rw [lx, List.take_length] at si
    refine tWhile_of (ApI P w K H W t ks) _ ⟨D, fun _ => 0, 0, e1, hD, si, fun _ _ => Nat.zero_le _, Coarse.zero W ks, fun h => ?_, rfl, none, none, none, none, none, none, rfl⟩ ?_
    · cases ks with
      | nil => exact fun k hk => by cases hk
      | cons a ks =>
        have := dcount_pos (xs := (a :: ks).map fun k => (((fun _ => 0) : Pl → Nat) k : Int)) (List.cons_ne_nil _ _)
        unfold noc at h
        omega
    rintro m σ H2 ⟨d, c, many, e2, hd0, ci, cb, co, stb, rfl, x1, x4, x5, x6, x7, x8, rfl⟩
    refine ⟨_, rfl, _, rfl, d, ks, c, rfl, ci, few, fun H3 e3 => ⟨_, _, rfl, rfl, _, rfl, ite2 (fun gg => ?_) (fun gg => ?_)⟩⟩
    · have lt : many < noc ks c := by
        have := of_decide_eq_true gg
        unfold noc
        omega
      have ln := noc_le ks c
      refine ⟨fun σ' H' => ∃ m', m' < ks.length - many ∧ ApI P w K H W t ks m' σ' H', fun _ _ h => h, ?_⟩
      refine ⟨_, rfl, d, ks, c, rfl, ci.keep e3, few, fun H4 e4 => ?_⟩
      refine fun nm on hnm gn => fun fn of hfn gf => ?_
      obtain ⟨fnm, hfn4⟩ := upd_none hfn
      have e24 := (e2.trans e3).trans e4
      have nm0 := none_of e24 hnm
      have fn0 := none_of e24 hfn4
      have e5 : Same H4 (upd (upd H4 nm (DnO P w nm on [])) fn (DnO P w fn of [])) := same_new (same_new (Same.refl _) hnm) hfn
      have ci5 := (ci.keep (e3.trans e4)).keep e5
      have nm5 : DN P w K (upd (upd H4 nm (DnO P w nm on [])) fn (DnO P w fn of [])) nm (numL (dd (([] : List Pl).map (sig W c)))) := ⟨on, [], (upd_ne fnm.symm).trans upd_same, rfl, fun i p x h => by simp [numL, numF, dd] at h⟩
      have fn5 : DN P w K (upd (upd H4 nm (DnO P w nm on [])) fn (DnO P w fn of [])) fn (clL [] (refine' W ks c)) := ⟨of, [], upd_same, rfl, fun i p x h => by simp [clL] at h⟩
      have e05 := e24.trans e5
      show tSeq _ _ _ _ (upd (upd H4 nm (DnO P w nm on [])) fn (DnO P w fn of []))
      generalize upd (upd H4 nm (DnO P w nm on [])) fn (DnO P w fn of []) = H5 at e5 ci5 nm5 fn5 e05 ⊢
      refine ⟨_, rfl, t, o, xs, rfl, e05 _ _ g.at_, ?_⟩
      refine for_it walk_keysN (fun i σ H6 => Same H H6 ∧ ClI P w K H6 d ks c ∧ DN P w K H6 nm (numL (dd ((ks.take i).map (sig W c)))) ∧ DN P w K H6 fn (clL (ks.take i) (refine' W ks c)) ∧ ∃ x1 x6 x7 x8, σ = [some (.ref t), x1, some (.ref d), some (.int (noc ks c : Nat)), some (.ref nm), some (.ref fn), x6, x7, x8]) ⟨e05, ci5, nm5, fn5, _, _, _, _, rfl⟩ (fun i σ H6 _ h => h.1 _ _ g.at_) ?_ ?_
      · rintro i x σ H6 H6' hi ⟨e6, ci6, nm6, fn6, x1, x6, x7, x8, rfl⟩ ⟨rfl, z, hz, rfl⟩
        obtain ⟨kk, hk, nk, dp⟩ := key i z hz
        have mk := List.mem_of_getElem? hk
        obtain ⟨v, hv, l, ys, rfl, gl, al⟩ := pr.some (pairsOf_get (W := W) mk)
        have hl := e6 _ _ (sg _ _ gl)
        have lW : ys.length = (W kk).length := al.1
        have lw := tok.ws kk mk
        have nk6 := nk.keep e6
        refine ⟨_, rfl, _, rfl, t, _, kvs, kk, .ref l, rfl, rfl, DN.keep e6 ⟨o, xs, g⟩, nk6, dp, hv, l, rfl, ⟨ys, SqL.of hl⟩, fun D' hD' => ?_⟩
        refine lc_it (walk_list (K := K) (a := l) (xs := ys)) (fun j H7 => Same H6' H7 ∧ ∃ zs, H7 D' = some (.lst zs) ∧ Al (fun v s => Nk K H7 s v) zs (((W kk).take j).map (sigW c))) ⟨same_new (Same.refl _) hD', [], upd_same, rfl, fun i x y h => by simp at h⟩ (fun j H7 _ h => .inl (.inl (h.1 _ _ hl))) ?_ ?_
        · rintro j x H7 H8 hj ⟨e7, zs, d7, a7⟩ ⟨rfl, hx⟩
          obtain ⟨p, hp, tt, y, rfl, hT, hN⟩ := al.get hx
          have mp := List.mem_of_getElem? hp
          have hT8 := same_t (e6.trans e7) hT
          have hN8 := hN.keep (e6.trans e7)
          refine ⟨tt, _, rfl, hT8, rfl, _, _, rfl, _, _, rfl, rfl, rfl, ?_⟩
          refine ⟨_, rfl, fun v H' => v = .int (if p.2 = dn then -1 else (c p.2 : Int)) ∧ H' = H8, ?_, ?_⟩
          · rcases tok.cl kk mk p mp with en | pu
            · rw [if_pos en]
              rw [en] at hN8
              obtain rfl := hN8.dn
              exact ⟨_, rfl, -1, rfl, .inl ⟨-1, rfl, _, rfl, ite2 (fun _ => ⟨rfl, rfl⟩) (fun z => absurd z (by decide))⟩⟩
            · have ppl := tok.pl _ pu
              rw [if_neg ppl.ne]
              obtain ⟨b', bs, rfl, hb'⟩ := hN8.ref ppl
              exact ⟨_, rfl, -1, rfl, .inr ⟨b', bs, rfl, hb', _, rfl, iteF ⟨_, rfl, _, rfl, d, b', clL ks c, p.2, _, rfl, rfl, ci6.keep e7, hN8, Nat.le_trans ppl.2 (by decide), clL_get pu, rfl, rfl⟩⟩⟩
          · rintro _ H9 ⟨rfl, rfl⟩
            refine ⟨by show 2 ≤ sizeLine; decide, fun T hT' => ?_⟩
            have TD : D' ≠ T := fun e => by rw [← e, d7] at hT'; cases hT'
            have eT := same_new (o := .tup [.str p.1, .int (if p.2 = dn then -1 else (c p.2 : Int))]) (Same.refl _) hT'
            have d8 := eT _ _ d7
            have tk8 : Tk (upd H9 T (.tup [.str p.1, .int (if p.2 = dn then -1 else (c p.2 : Int))])) (upd (upd H9 T (.tup [.str p.1, .int (if p.2 = dn then -1 else (c p.2 : Int))])) D' (.lst (zs ++ [.ref T]))) := Tk.upd (NoT.lst d8)
            refine ⟨zs, d8, ?_, fun c o hc => (upd_ne (fun z => by rw [z, hD'] at hc; cases hc)).trans (eT _ _ (e7 _ _ hc)), _, upd_same, ?_⟩
            · have := a7.1
              rw [List.length_map, List.length_take] at this
              show _ < 2 ^ 24
              omega
            · rw [take_next' hp, List.map_append]
              refine (a7.mono fun _ _ h => (h.keep eT).tk tk8).snoc (.tup (tk8.sqt (SqT.of upd_same)) rfl fun i k x h1 h2 => ?_)
              match i, h1, h2 with
              | 0, h1, h2 =>
                cases h1
                cases h2
                exact .str _
              | 1, h1, h2 =>
                cases h1
                cases h2
                exact .int _
              | n + 2, h1, h2 => simp at h1
        · rintro H7 ⟨e7, zs, d7, a7⟩
          rw [lW, List.take_length] at a7
          refine ⟨D', zs, rfl, .inl ⟨SqL.of d7, fun r hr => ?_⟩⟩
          have e8 := same_new (o := .tup zs) e7 hr
          have nr : Nk K (upd H7 r (.tup zs)) (.tup ((W kk).map (sigW c))) (.ref r) := .tup (SqT.of upd_same) a7.1 fun i k x h1 h2 => (a7.2 i x k h2 h1).keep (same_new (Same.refl _) hr)
          generalize upd H7 r (.tup zs) = H8 at e8 nr ⊢
          obtain ⟨on6, xn6, gn6⟩ := nm6
          refine ⟨_, rfl, nm, on6, xn6, rfl, e8 _ _ gn6.at_, _, rfl, _, rfl, d, _, clL ks c, kk, _, rfl, rfl, ci6.keep e8, nk6.keep e8, dp, clL_get mk, _, rfl, by show 2 ≤ sizeLine; decide, fun T hT => ?_⟩
          have eT := same_new (o := .tup [.int (c kk : Nat), .ref r]) e8 hT
          have ns : Nk K (upd H8 T (.tup [.int (c kk : Nat), .ref r])) (sig W c kk) (.ref T) := .tup (SqT.of upd_same) rfl fun i k x h1 h2 => by
            match i, h1, h2 with
            | 0, h1, h2 =>
              cases h1
              cases h2
              exact .int _
            | 1, h1, h2 =>
              cases h1
              cases h2
              exact nr.keep (same_new (Same.refl _) hT)
            | n + 2, h1, h2 => simp at h1
          generalize upd H8 T (.tup [.int (c kk : Nat), .ref r]) = H9 at eT ns ⊢
          have hS : (ks.map (sig W c))[i]? = some (sig W c kk) := by rw [List.getElem?_map, hk]; rfl
          have nm9 : DN P w K H9 nm (numL (dd ((ks.map (sig W c)).take i))) := by
            rw [← List.map_take]
            exact DN.keep eT ⟨_, _, gn6⟩
          have fn9 := fn6.keep eT
          have ci9 := ci6.keep eT
          have e9 := e6.trans eT
          have lss : (dd ((ks.map (sig W c)).take i)).length ≤ 300 := by
            have := dd_len ((ks.map (sig W c)).take i)
            rw [List.length_take, List.length_map] at this
            omega
          have dne : d ≠ nm ∧ d ≠ fn := by
            obtain ⟨_, _, q⟩ := id (ci.keep (e3.trans e4))
            exact ⟨(fun e => by rw [← e, q.at_] at hnm; cases hnm), (fun e => by rw [← e, q.at_] at hfn4; cases hfn4)⟩
          have next : ∀ H10, Same H H10 → ClI P w K H10 d ks c → DN P w K H10 nm (numL (dd ((ks.map (sig W c)).take (i + 1)))) → DN P w K H10 fn (clL (ks.take i) (refine' W ks c)) → Nk K H10 kk (.ref z.2.1) → rSetN P w K (.ref fn) (.ref z.2.1) (.int (refine' W ks c kk : Nat)) H10 fun H11 =>
              Same H H11 ∧ ClI P w K H11 d ks c ∧ DN P w K H11 nm (numL (dd ((ks.take (i + 1)).map (sig W c)))) ∧ DN P w K H11 fn (clL (ks.take (i + 1)) (refine' W ks c)) := fun H10 a1 a2 a3 a4 a5 => by
            have lz := clL_len (ks.take i) (refine' W ks c)
            rw [List.length_take] at lz
            refine ⟨fn, _, _, kk, rfl, rfl, a4, a5, dp, by show _ < 2 ^ 24; omega, fun φ d' => ?_⟩
            obtain ⟨_, _, q⟩ := id a4
            have nt : NoT H10 fn := NoT.ext q.at_
            refine ⟨fun c o hc => (upd_ne (fun z => by rw [z, fn0] at hc; cases hc)).trans (a1 _ _ hc), DN.tk (Tk.upd nt) (upd_ne dne.2) a2, ?_, ?_⟩
            · rw [List.map_take]
              exact a3.tk (Tk.upd nt) (upd_ne fnm.symm)
            · rw [take_next' hk, ← clL_put (take_nin tok.nd hk)]
              exact d'
          refine ⟨_, rfl, nm, _, rfl, nm9, T, _, sig W c kk, rfl, nm9, ns, sig_depth W c kk, by rw [numL_len]; show _ < 2 ^ 24; omega, fun v hv => ?_, fun hv φ d' => ?_⟩
          · rw [numL_get] at hv
            split at hv
            · rename_i m
              obtain rfl := Option.some.inj hv
              rw [dd_idx m]
              obtain ⟨a, b, kv, k', q1, q2, q3, q4, q5, q6, q7⟩ := next H9 e9 ci9 (by rw [dd_take hS, if_pos m]; exact nm9) fn9 (nk6.keep eT)
              exact ⟨_, rfl, _, rfl, a, b, kv, k', q1, q2, q3, q4, q5, q6, fun φ d' => let ⟨r1, r2, r3, r4⟩ := q7 φ d'; ⟨r1, r2, r3, r4, _, _, _, _, rfl⟩⟩
            · cases hv
          · rw [numL_get] at hv
            have m : sig W c kk ∉ dd ((ks.map (sig W c)).take i) := fun m => by rw [if_pos m] at hv; cases hv
            rw [numL_len] at d' ⊢
            rw [numL_put m] at d'
            have en : (dd ((ks.map (sig W c)).take i)).length = refine' W ks c kk := by
              have m2 : sig W c kk ∈ dd ((ks.map (sig W c)).take (i + 1)) := by
                rw [dd_take hS, if_neg m]
                exact List.mem_append_right _ (List.mem_singleton.mpr rfl)
              unfold refine'
              rw [← dd_idx m2, dd_take hS, if_neg m, List.idxOf_append, if_neg m, List.idxOf_cons, beq_self_eq_true]
              simp
            rw [en]
            obtain ⟨_, _, q⟩ := id nm9
            have nt : NoT H9 nm := NoT.ext q.at_
            obtain ⟨a, b, kv, k', q1, q2, q3, q4, q5, q6, q7⟩ := next (upd H9 nm (.ext φ)) (fun c o hc => (upd_ne (fun z => by rw [z, nm0] at hc; cases hc)).trans (e9 _ _ hc)) (DN.tk (Tk.upd nt) (upd_ne dne.1) ci9) (by rw [dd_take hS, if_neg m]; exact d') (fn9.tk (Tk.upd nt) (upd_ne fnm)) ((nk6.keep eT).tk (Tk.upd nt))
            exact ⟨_, rfl, _, rfl, a, b, kv, k', q1, q2, q3, q4, q5, q6, fun φ d' => let ⟨r1, r2, r3, r4⟩ := q7 φ d'; ⟨r1, r2, r3, r4, _, _, _, _, rfl⟩⟩
      · rintro σ H6 ⟨e6, ci6, nm6, fn6, x1, x6, x7, x8, rfl⟩
        rw [lx, List.take_length] at fn6
        refine ⟨_, rfl, _, ?_, fn, refine' W ks c, noc ks c, e6, fn0, fn6, fun k hk => ?_, co.next, fun h => Stable.of tok.cl h, rfl, _, _, _, _, _, _, rfl⟩
        · omega
        · have := refine_lt (W := W) (c := c) hk
          omega
    · refine ⟨_, rfl, k H3 d c (e2.trans e3) hd0 (ci.keep e3) cb (stb ?_) co⟩
      unfold noc
      have : ¬ ((many : Nat) : Int) < (dcount (ks.map fun k => (c k : Int)) : Nat) := fun h => gg (decide_eq_true h)
      omega
end
end MK
set_option Elab.async false
set_option linter.all false
set_option autoImplicit false
set_option maxRecDepth 100000
set_option maxHeartbeats 4000000
namespace MK
open PySem PySem.Spec PyProof.Rows L2
open C8 (Met pe_mt pe_mt0 Mak pe_mk)
local macro_rules | `(tactic| walk_at "x") => `(tactic| dsimp only [tSeq, tAsg, tRet, tDrop, tLst, tTup, tCons, tOp, tUn, tIfS])
theorem sc_least_machine : FnScope ["walk", "table", "classes", "numbers", "places", "machine", "pairs", "name", "place"] ["walk"] (defScope s_least_machine) := ⟨rfl, rfl, rfl, by decide +kernel, rfl, by decide +kernel, by decide +kernel⟩
def spLeast (P : Program) (w : World) (K : PySem.W.Frag) (T : WalkT) : Sp := fun vs H Q _ => ∃ (d : T.D) (a : Addr), vs = [.ref a] ∧ T.I d H a ∧
  ∀ H' r m, Same H H' → H r = none → (∃ rows, H' r = some (.lst rows) ∧ Al (RowV K (Off r H')) rows m) →
    (∃ ks us, TbOk (T.W d) ks ∧ T.st d ∈ ks ∧ (∀ k ∈ ks, Rch (T.st d) (T.W d) k) ∧ (∀ k, k ∈ us ↔ k ∈ ks ∧ Ends (T.W d) k) ∧
      ((T.st d ∉ us ∧ m = []) ∨ (T.st d ∈ us ∧ ∃ c n, Stable (trimW (T.W d) us) (trimK ks us) c ∧ Coarse (trimW (T.W d) us) (trimK ks us) c ∧ Mach (trimW (T.W d) us) c (T.st d) n m))) → Q (.ref r) H'
/-- the rounds so far: n states are told -/
def LmI (P : Program) (w : World) (K : PySem.W.Frag) (H4 : Hp) (W : Pl → List Way) (c : Pl → Nat) (ts : List Pl) (st : Pl) (a t1 cd nm pl ml : Addr) (m : Nat) (σ : L2.St) (H : Hp) : Prop := ∃ (n : Nat) (pvs rows : List V) (mach : List (List (Str × Int))), Same H4 H ∧ H nm = some (.dK (numDK ((grow W c st n).map fun k => (c k : Int)))) ∧ H pl = some (.lst pvs) ∧ Al (fun v k => Nk K H k v) pvs (grow W c st n) ∧
  H ml = some (.lst rows) ∧ Al (RowV K (Wt [nm, pl, ml] H)) rows mach ∧ mach.length = n ∧ PlsOk c ts (grow W c st n) ∧ (∀ (i : Nat) k, i < n → (grow W c st n)[i]? = some k → mach[i]? = some (rowOf W c (grow W c st n) k) ∧ ∀ p ∈ W k, Has c (grow W c st n) p) ∧ n ≤ (grow W c st n).length ∧ m = 301 - n ∧
  ∃ x6 x7 x8, σ = [some (.ref a), some (.ref t1), some (.ref cd), some (.ref nm), some (.ref pl), some (.ref ml), x6, x7, x8]
/-- within a round: these places, these pairs at pp -/
def LmJ (P : Program) (w : World) (K : PySem.W.Frag) (H4 : Hp) (c : Pl → Nat) (ts pls : List Pl) (nm pl ml pp : Addr) (rows : List V) (mach : List (List (Str × Int))) (ws : List Way) (H : Hp) : Prop := ∃ (pvs ps : List V), Same H4 H ∧ H nm = some (.dK (numDK (pls.map fun k => (c k : Int)))) ∧ H pl = some (.lst pvs) ∧ Al (fun v k => Nk K H k v) pvs pls ∧
  H ml = some (.lst rows) ∧ Al (RowV K (Wt [nm, pl, ml, pp] H)) rows mach ∧ H pp = some (.lst ps) ∧ Al (PairV K (Wt [nm, pl, ml, pp] H)) ps (ws.map (numOf c pls)) ∧ PlsOk c ts pls ∧ (∀ p ∈ ws, Has c pls p)
theorem LmJ.pair {P : Program} {w : World} {K : PySem.W.Frag} {H4 H : Hp} {c : Pl → Nat} {ts pls : List Pl} {nm pl ml pp T : Addr} {rows ps : List V} {mach : List (List (Str × Int))} {ws : List Way} {p : Way} (h : LmJ P w K H4 c ts pls nm pl ml pp rows mach ws H) (hp : Has c pls p) (pn : pp ≠ nm ∧ pp ≠ pl ∧ pp ≠ ml) (pp4 : H4 pp = none) (hT : H T = none) (hps : H pp = some (.lst ps)) :
    LmJ P w K H4 c ts pls nm pl ml pp rows mach (ws ++ [p]) (upd (upd H T (.tup [.str p.1, .int (numOf c pls p).2])) pp (.lst (ps ++ [.ref T]))) := by
  obtain ⟨pvs, ps', e, a1, a2, a3, a4, a5, a6, a7, a8, a9⟩ := h
  rw [hps] at a6
  cases a6
  have e1 := same_new (o := .tup [.str p.1, .int (numOf c pls p).2]) (Same.refl H) hT
  have tk : Tk (upd H T (.tup [.str p.1, .int (numOf c pls p).2])) (upd (upd H T (.tup [.str p.1, .int (numOf c pls p).2])) pp (.lst (ps ++ [.ref T]))) := Tk.upd (NoT.lst (e1 _ _ hps))
  have wB : Same (Wt [nm, pl, ml, pp] H) (Wt [nm, pl, ml, pp] (upd (upd H T (.tup [.str p.1, .int (numOf c pls p).2])) pp (.lst (ps ++ [.ref T])))) := by
    rw [wt_upd (by simp)]
    exact wt_keep e1
  have nT : ∀ {x : Addr} {o : HO}, H x = some o → T ≠ x := fun hx z => by rw [z, hx] at hT; cases hT
  refine ⟨pvs, _, fun x o hx => (upd_ne fun z => by rw [z, pp4] at hx; cases hx).trans (e1 _ _ (e _ _ hx)), (upd_ne pn.1.symm).trans (e1 _ _ a1), (upd_ne pn.2.1.symm).trans (e1 _ _ a2), a3.mono fun _ _ h => (h.keep e1).tk tk, (upd_ne pn.2.2.symm).trans (e1 _ _ a4), a5.mono fun _ _ h => h.keep wB, upd_same, ?_, a8, fun q hq => (List.mem_append.mp hq).elim (a9 q) fun z => by rw [List.mem_singleton.mp z]; exact hp⟩
  rw [List.map_append]
  refine (a7.mono fun _ _ h => h.keep wB).snoc ⟨T, rfl, ?_⟩
  refine SqT.of ((wt_get fun m => ?_).trans ((upd_ne (nT hps)).trans upd_same))
  simp only [List.mem_cons, List.not_mem_nil, or_false] at m
  rcases m with z | z | z | z
  · exact nT a1 z
  · exact nT a2 z
  · exact nT a4 z
  · exact nT hps z
theorem LmJ.name {P : Program} {w : World} {K : PySem.W.Frag} {H4 H : Hp} {c : Pl → Nat} {ts pls : List Pl} {nm pl ml pp : Addr} {rows pvs : List V} {mach : List (List (Str × Int))} {ws : List Way} {q : Pl} {v : V} (h : LmJ P w K H4 c ts pls nm pl ml pp rows mach ws H) (n4 : H4 nm = none) (p4 : H4 pl = none) (np : nm ≠ pl) (nl : nm ≠ ml) (mp : ml ≠ pl) (pn : pp ≠ nm ∧ pp ≠ pl ∧ pp ≠ ml)
    (hq : q ∈ ts) (hn : (c q : Int) ∉ pls.map fun k => (c k : Int)) (hv : Nk K H q v) (hpl : H pl = some (.lst pvs)) :
    LmJ P w K H4 c ts (pls ++ [q]) nm pl ml pp rows mach ws (upd (upd H nm (.dK (numDK ((pls ++ [q]).map fun k => (c k : Int))))) pl (.lst (pvs ++ [v]))) := by
  obtain ⟨pvs', ps, e, a1, a2, a3, a4, a5, a6, a7, a8, a9⟩ := h
  rw [hpl] at a2
  cases a2
  have t1 : Tk H (upd H nm (.dK (numDK ((pls ++ [q]).map fun k => (c k : Int))))) := Tk.upd (NoT.dk a1)
  have hpl1 : upd H nm (.dK (numDK ((pls ++ [q]).map fun k => (c k : Int)))) pl = some (.lst pvs) := (upd_ne np.symm).trans hpl
  have t2 : Tk H (upd (upd H nm (.dK (numDK ((pls ++ [q]).map fun k => (c k : Int))))) pl (.lst (pvs ++ [v]))) := t1.trans (Tk.upd (NoT.lst hpl1))
  have wB : Wt [nm, pl, ml, pp] (upd (upd H nm (.dK (numDK ((pls ++ [q]).map fun k => (c k : Int))))) pl (.lst (pvs ++ [v]))) = Wt [nm, pl, ml, pp] H := by rw [wt_upd (by simp), wt_upd (by simp)]
  refine ⟨_, ps, fun x o hx => (upd_ne (fun z => by rw [z, p4] at hx; cases hx)).trans ((upd_ne (fun z => by rw [z, n4] at hx; cases hx)).trans (e _ _ hx)), (upd_ne np).trans upd_same, upd_same, (a3.mono fun _ _ h => h.tk t2).snoc (hv.tk t2), (upd_ne mp).trans ((upd_ne nl.symm).trans a4), by rw [wB]; exact a5, (upd_ne pn.2.1).trans ((upd_ne pn.1).trans a6), ?_, ⟨?_, fun k hk => (List.mem_append.mp hk).elim (a8.2 k) fun z => by rw [List.mem_singleton.mp z]; exact hq⟩, fun p hp => (a9 p hp).pre _⟩
  · rw [wB, show ws.map (numOf c (pls ++ [q])) = ws.map (numOf c pls) from List.map_congr_left fun p hp => numOf_pre (a9 p hp) _]
    exact a7
  · rw [List.map_append, List.nodup_append]
    exact ⟨a8.1, List.nodup_cons.mpr ⟨List.not_mem_nil, List.nodup_nil⟩, fun a ha b hb e => hn (by
      have hb' : b = (c q : Int) := List.mem_singleton.mp hb
      rw [← hb', ← e]
      exact ha)⟩
section
variable {P : Program} {w : World} {K : PySem.W.Frag} {mg : Str → Option Value} {base : Heap} {OC : Addr} {WT : WalkT}
theorem ok_least {f : Addr} {fd : FuncData} (F : DefX K mg "least_machine" s_least_machine ["walk"] f fd) (T : Txt K mg) (Cs : MCst mg) (G : WalkG WT OC) (m_start : Met P w K mg base 1 OC "start" (spStart K WT) []) (c_all_ways : Cal P w K mg base CX0 6 "all_ways" (spAll P w K WT)) (c_useful_ways : Cal P w K mg base CX0 2 "useful_ways" (spTrim P w K)) (c_told_apart : Cal P w K mg base CX0 2 "told_apart" (spApart P w K)) : Cal P w K mg base CX0 7 "least_machine" (spLeast P w K WT) := by
  refine cal_mk F sc_least_machine (fun vs H Q E h => ?_) (fun cdv A outer s H vs Q E hr h => ?_)
  · obtain ⟨d, a, rfl, _⟩ := h
    rfl
  · obtain ⟨d, a, rfl, hi, k⟩ := h
    refine ⟨_, (pss_cons (ps_set (i := 1) sc_least_machine.nd rfl (Or.inl rfl) (pe_c c_useful_ways hr (by first | decide | assumption) rfl (pa_cons (pe_c c_all_ways hr (by first | decide | assumption) rfl (pa_cons (pv 0) pa_nil)) pa_nil)))
(pss_cons (ps_if (pt_cmpR (op_notInNK (P := P) (w := w) (K := K) rfl rfl rfl (u9 hr)) (pe_mt0 m_start hr (by decide) (pv 0)) (pv 1) (by rfl))
(pss_one (ps_ret (pe_lst pa_nil)))
pss_nil)
(pss_cons (ps_set (i := 2) sc_least_machine.nd rfl (Or.inl rfl) (pe_c c_told_apart hr (by first | decide | assumption) rfl (pa_cons (pv 1) pa_nil)))
(pss_cons (ps_set (i := 3) sc_least_machine.nd rfl (Or.inl rfl) (pe_disp (pps_cons (pe_ixNK (P := P) (w := w) (K := K) rfl rfl rfl (u9 hr) (pv 2) (pe_mt0 m_start hr (by decide) (pv 0)) (fun _ _ => rfl)) pe_int pps_nil) (by rfl) (by rfl) (fun z => by cases z) (by decide)))
(pss_cons (ps_set (i := 4) sc_least_machine.nd rfl (Or.inl rfl) (pe_lst (pa_cons (pe_mt0 m_start hr (by decide) (pv 0)) pa_nil)))
(pss_cons (ps_set (i := 5) sc_least_machine.nd rfl (Or.inl rfl) (pe_lst pa_nil))
(pss_cons (ps_while PassesOwn.never (pt_cmpR op_lt (pe_callB call_len_seq (by rfl) T.len (by decide +kernel) (pa_cons (pv 5) pa_nil)) (pe_callB call_len_seq (by rfl) T.len (by decide +kernel) (pa_cons (pv 4) pa_nil)) (nomark _))
(pss_cons (ps_set (i := 6) sc_least_machine.nd rfl (Or.inl rfl) (pe_lst pa_nil))
(pss_cons (ps_for PassesOwn.never rfl (pi_list (pe_ixNK (P := P) (w := w) (K := K) rfl rfl rfl (u9 hr) (pv 1) (pe_ix ix_list (pv 4) (pe_callB call_len_seq (by rfl) T.len (by decide +kernel) (pa_cons (pv 5) pa_nil)) (fun _ _ => rfl)) (fun _ _ => rfl))) (pg_tup (by rfl) (pgs_cons (pg_name (i := 7) sc_least_machine.nd rfl (Or.inl rfl)) (pgs_cons (pg_name (i := 8) sc_least_machine.nd rfl (Or.inl rfl)) pgs_nil)))
(pss_cons (ps_if (pt_cmpR (op_eqI (K := K) rfl hr.units0) (pv 8) (pe_cst rfl Cs.DONE) (nomark _))
(pss_cons (ps_expr (pe_bm PySem.F.plainAttrs_list PySem.F.slot_list_append PySem.F.type_list_append mt_append (pv 6) (pa_cons (pe_tup (pa_cons (pv 7) (pa_cons (pe_cst rfl Cs.DONE) pa_nil))) pa_nil)))
(pss_one ps_continue))
pss_nil)
(pss_cut (ps_if (pt_cmp (pc_dnotin (hu_of hr) (pe_ixNK (P := P) (w := w) (K := K) rfl rfl rfl (u9 hr) (pv 2) (pv 8) (fun _ _ => rfl)) (pv 3)))
(pss_cons (ps_asg (pe_callB call_len_seq (by rfl) T.len (by decide +kernel) (pa_cons (pv 4) pa_nil)) (pg_sub (pv 3) (pe_ixNK (P := P) (w := w) (K := K) rfl rfl rfl (u9 hr) (pv 2) (pv 8) (fun _ _ => rfl)) (set_dict (hu_of hr))))
(pss_one (ps_expr (pe_bm PySem.F.plainAttrs_list PySem.F.slot_list_append PySem.F.type_list_append mt_append (pv 4) (pa_cons (pv 8) pa_nil)))))
pss_nil)
(pss_one (ps_expr (pe_bm PySem.F.plainAttrs_list PySem.F.slot_list_append PySem.F.type_list_append mt_append (pv 6) (pa_cons (pe_tup (pa_cons (pv 7) (pa_cons (pe_dget (hu_of hr) (pv 3) (pe_ixNK (P := P) (w := w) (K := K) rfl rfl rfl (u9 hr) (pv 2) (pv 8) (fun _ _ => rfl)) (fun _ _ => rfl)) pa_nil))) pa_nil)))))))
(pss_one (ps_expr (pe_bm PySem.F.plainAttrs_list PySem.F.slot_list_append PySem.F.type_list_append mt_append (pv 5) (pa_cons (pv 6) pa_nil)))))))
(pss_one (ps_ret (pv 5)))))))))), ?_⟩
    obtain ⟨dx, fs, ha, n1, n2⟩ := G.cls d H a hi
    refine ⟨_, rfl, d, a, rfl, hi, fun H1 t0 ks e1 ht0 ti0 tok hst hks => ?_⟩
    refine ⟨t0, Off t0 H1, WT.W d, ks, rfl, off_same, ti0, tok, fun H2 t1 us e2 ht1 ti1 hus => ?_⟩
    have tok' := tok.trim fun k hk => ((hus k).mp hk).1
    have stW : WT.st d ∈ trimK ks us ↔ WT.st d ∈ us := ⟨fun h => of_decide_eq_true (List.mem_filter.mp h).2, fun h => List.mem_filter.mpr ⟨hst, decide_eq_true h⟩⟩
    have e02 := e1.trans e2
    have dep : (WT.st d).depth ≤ 8 := Nat.le_trans (tok.pl _ hst).2 (by decide)
    refine ⟨_, rfl, a, dx, fs, rfl, e02 _ _ ha, n1, d, a, rfl, G.keep d _ _ a e02 hi, fun H3 b e3 hb => ?_⟩
    obtain ⟨kv1, dn1, pr1⟩ := id (ti1.keep e3)
    have has1 : (valN kv1 (WT.st d)).isSome = decide (WT.st d ∈ trimK ks us) := by rw [valN_getA, pr1.isSome, getA_isSome, pairsOf_keys]
    refine ⟨_, rfl, t1, b, kv1, WT.st d, rfl, rfl, dn1, hb, dep, ?_⟩
    rw [has1]
    refine ⟨_, rfl, ite2 (fun g => ?_) (fun g => ?_)⟩
    · have nin : WT.st d ∉ us := fun h => by simp [stW.mpr h] at g
      refine ⟨by show 0 ≤ sizeLine; decide, fun r hr => ?_⟩
      exact k _ r [] (same_new (e02.trans e3) hr) (none_of (e02.trans e3) hr) ⟨[], upd_same, rfl, fun i x y h => by simp at h⟩ ⟨ks, us, tok, hst, fun k hk => (hks k hk).2, hus, .inl ⟨nin, rfl⟩⟩
    · have inU : WT.st d ∈ us := by
        cases q : decide (WT.st d ∈ trimK ks us) with
        | true => exact stW.mp (of_decide_eq_true q)
        | false =>
          rw [q] at g
          exact absurd rfl g
      have inT := stW.mpr inU
      have few := tok'.few
      refine ⟨_, rfl, t1, Off t1 H2, trimW (WT.W d) us, trimK ks us, rfl, off_same.trans e3, ti1.keep e3, tok', fun H4 cd c e4 hcd ci cb stab coar => ?_⟩
      have e04 := (e02.trans e3).trans e4
      refine fun nm hnm => ?_
      have em := same_new (o := .dK []) (Same.refl H4) hnm
      have ci5 := ci.keep em
      refine ⟨_, rfl, _, rfl, a, dx, fs, rfl, em _ _ (e04 _ _ ha), n1, d, a, rfl, G.keep d _ _ a (e04.trans em) hi, fun H5 b5 e5 hb5 => ⟨cd, b5, clL (trimK ks us) c, WT.st d, _, rfl, rfl, ci5.keep e5, hb5, dep, clL_get inT, ?_⟩⟩
      refine ⟨e5 _ _ upd_same, [(.inl (c (WT.st d) : Int), .int 0)], rfl, by show 1 ≤ 15; decide, ?_⟩
      have e46 : Same H4 (upd H5 nm (.dK (mergeK [] [(.inl (c (WT.st d) : Int), .int 0)]))) := fun x o hx => (upd_ne (fun z => by rw [z, hnm] at hx; cases hx)).trans (e5 _ _ (em _ _ hx))
      have nm6 : upd H5 nm (.dK (mergeK [] [(.inl (c (WT.st d) : Int), .int 0)])) nm = some (.dK (numDK ((grow (trimW (WT.W d) us) c (WT.st d) 0).map fun k => (c k : Int)))) := upd_same
      show tSeq _ _ _ _ (upd H5 nm (.dK (mergeK [] [(.inl (c (WT.st d) : Int), .int 0)])))
      generalize upd H5 nm (.dK (mergeK [] [(.inl (c (WT.st d) : Int), .int 0)])) = H6 at e46 nm6 ⊢
      refine ⟨_, rfl, a, dx, fs, rfl, e46 _ _ (e04 _ _ ha), n1, d, a, rfl, G.keep d _ _ a (e04.trans e46) hi, fun H7 b7 e7 hb7 => ⟨by show 1 ≤ sizeLine; decide, fun pl hpl => ⟨by show 0 ≤ sizeLine; decide, fun ml hml => ?_⟩⟩⟩
      obtain ⟨mp, hml7⟩ := upd_none hml
      have nm7 := e7 _ _ nm6
      have np : nm ≠ pl := fun z => by rw [← z, nm7] at hpl; cases hpl
      have nl : nm ≠ ml := fun z => by rw [← z, nm7] at hml7; cases hml7
      have pl4 := none_of (e46.trans e7) hpl
      have ml4 := none_of (e46.trans e7) hml7
      have e79 : Same H7 (upd (upd H7 pl (.lst [.ref b7])) ml (.lst [])) := same_new (same_new (Same.refl _) hpl) hml
      have cne : cd ≠ nm ∧ cd ≠ pl ∧ cd ≠ ml := by
        obtain ⟨_, _, q⟩ := id ci
        exact ⟨(fun z => by rw [← z, q.at_] at hnm; cases hnm), (fun z => by rw [← z, q.at_] at pl4; cases pl4), (fun z => by rw [← z, q.at_] at ml4; cases ml4)⟩
      refine tWhile_of (LmI P w K H4 (trimW (WT.W d) us) c (trimK ks us) (WT.st d) a t1 cd nm pl ml) _ ⟨0, [.ref b7], [], [], (e46.trans e7).trans e79, e79 _ _ nm7, (upd_ne mp.symm).trans upd_same, ⟨rfl, fun i x y h1 h2 => ?_⟩, upd_same, ⟨rfl, fun i x y h => by simp at h⟩, rfl, ⟨List.nodup_cons.mpr ⟨List.not_mem_nil, List.nodup_nil⟩, fun k hk => by rw [List.mem_singleton.mp hk]; exact inT⟩, fun i k h => by omega, Nat.zero_le _, rfl, none, none, none, rfl⟩ ?_
      · cases i with
        | zero =>
          cases h1
          cases h2
          exact hb7.keep e79
        | succ n => cases h1
      rintro m σ H8 ⟨n, pvs, rows, mach, e8, nm8, pl8, ap8, ml8, ar8, lm, po, rw8, nle, rfl, x6, x7, x8, rfl⟩
      have lp : pvs.length = (grow (trimW (WT.W d) us) c (WT.st d) n).length := ap8.1
      have lr : rows.length = n := ar8.1.trans lm
      have pol := po.le
      refine ⟨_, rfl, ml, rows, rfl, .inl (SqL.of ml8), _, rfl, pl, pvs, rfl, .inl (SqL.of pl8), _, _, rfl, rfl, _, rfl, ite2 (fun gg => ?_) (fun gg => ?_)⟩
      · have lt : n < pvs.length := by
          have := of_decide_eq_true gg
          omega
        refine ⟨fun σ' H' => ∃ m', m' < 301 - n ∧ LmI P w K H4 (trimW (WT.W d) us) c (trimK ks us) (WT.st d) a t1 cd nm pl ml m' σ' H', fun _ _ h => h, ?_⟩
        have hy : pvs[n]? = some (pvs[n]'lt) := List.getElem?_eq_getElem _
        obtain ⟨kk, hk, nk⟩ := ap8.get hy
        generalize pvs[n]'lt = y at hy nk
        have mk := po.2 kk (List.mem_of_getElem? hk)
        have kpl := tok'.pl kk mk
        obtain ⟨b8, bx, rfl, hb8⟩ := nk.ref kpl
        refine ⟨by show 0 ≤ sizeLine; decide, fun pp hpp => ?_⟩
        have e9 := same_new (o := .lst []) (Same.refl H8) hpp
        have pn : pp ≠ nm ∧ pp ≠ pl ∧ pp ≠ ml := ⟨(fun z => by rw [z, nm8] at hpp; cases hpp), (fun z => by rw [z, pl8] at hpp; cases hpp), (fun z => by rw [z, ml8] at hpp; cases hpp)⟩
        have pp4 := none_of e8 hpp
        obtain ⟨kv1, dn1, pr1⟩ := id ((ti1.keep e3).keep e4)
        obtain ⟨v, hv, l, ys, rfl, gl, al⟩ := pr1.some (pairsOf_get (W := trimW (WT.W d) us) mk)
        have hl := ((((e3.trans e4).trans e8).trans e9)) _ _ (off_same _ _ gl)
        have e39 := ((e3.trans e4).trans e8).trans e9
        have lW : ys.length = (trimW (WT.W d) us kk).length := al.1
        have lw := tok'.ws kk mk
        have atn : atI pvs ((rows.length : Nat) : Int) = some (.ref b8) := by
          rw [lr]
          exact atI_nat hy
        refine ⟨_, rfl, _, rfl, _, rfl, ml, rows, rfl, .inl (SqL.of (e9 _ _ ml8)), pl, pvs, _, .ref b8, rfl, rfl, SqL.of (e9 _ _ pl8), atn, t1, b8, kv1, kk, .ref l, rfl, rfl, dn1.keep (e8.trans e9), nk.keep e9, Nat.le_trans kpl.2 (by decide), hv, l, rfl, ⟨ys, SqL.of hl⟩, ?_⟩
        have w89 : Same (Wt [nm, pl, ml] H8) (Wt [nm, pl, ml, pp] (upd H8 pp (.lst []))) := fun x o hx => by
          obtain ⟨nx, hx⟩ := wt_some hx
          refine (wt_get fun m => ?_).trans (e9 _ _ hx)
          simp only [List.mem_cons, List.not_mem_nil, or_false] at m nx
          rcases m with z | z | z | z
          · exact nx (.inl z)
          · exact nx (.inr (.inl z))
          · exact nx (.inr (.inr z))
          · rw [z, hpp] at hx
            cases hx
        refine for_it (walk_list (K := K) (a := l) (xs := ys)) (fun j σ H9 => LmJ P w K H4 c (trimK ks us) (((trimW (WT.W d) us kk).take j).foldl (addW c) (grow (trimW (WT.W d) us) c (WT.st d) n)) nm pl ml pp rows mach ((trimW (WT.W d) us kk).take j) H9 ∧ ∃ x7 x8, σ = [some (.ref a), some (.ref t1), some (.ref cd), some (.ref nm), some (.ref pl), some (.ref ml), some (.ref pp), x7, x8])
          ⟨⟨pvs, [], e8.trans e9, e9 _ _ nm8, e9 _ _ pl8, ap8.mono fun _ _ h => h.keep e9, e9 _ _ ml8, ar8.mono fun _ _ h => h.keep w89, upd_same, ⟨rfl, fun i x y h => by simp at h⟩, po, fun p hp => by simp at hp⟩, x7, x8, rfl⟩ (fun j σ H9 _ h => ?_) ?_ ?_
        · obtain ⟨⟨_, _, s9, _⟩, _⟩ := h
          exact .inl (.inl (s9 _ _ ((e3.trans e4) _ _ (off_same _ _ gl))))
        · rintro j x σ H9 H9' hj ⟨⟨pv9, ps9, s9, nm9, pl9, ap9, ml9, ar9, pp9, aq9, po9, hs9⟩, x7, x8, rfl⟩ ⟨rfl, hx⟩
          obtain ⟨p, hp, tt, y, rfl, hT, hN⟩ := al.get hx
          have mpw := List.mem_of_getElem? hp
          have hT9 := same_t s9 hT
          have hN9 := hN.keep s9
          have J9 : LmJ P w K H4 c (trimK ks us) (((trimW (WT.W d) us kk).take j).foldl (addW c) (grow (trimW (WT.W d) us) c (WT.st d) n)) nm pl ml pp rows mach ((trimW (WT.W d) us kk).take j) H9' := ⟨pv9, ps9, s9, nm9, pl9, ap9, ml9, ar9, pp9, aq9, po9, hs9⟩
          rw [take_next' hp, List.foldl_append]
          show _
          generalize ((trimW (WT.W d) us kk).take j).foldl (addW c) (grow (trimW (WT.W d) us) c (WT.st d) n) = pls at nm9 ap9 aq9 po9 hs9 J9 ⊢
          have lps := aq9.1
          rw [List.length_map, List.length_take] at lps
          have lpv := ap9.1
          have lpo := po9.le
          refine ⟨tt, _, rfl, hT9, rfl, _, _, rfl, _, _, rfl, rfl, ?_⟩
          rcases tok'.cl kk mk p mpw with en | pu
          · rw [en] at hN9
            obtain rfl := hN9.dn
            have hA : addW c pls p = pls := if_pos (.inl en)
            have nO : (numOf c pls p).2 = -1 := if_pos en
            refine ⟨_, rfl, -1, rfl, .inl ⟨-1, rfl, _, rfl, ite2 (fun _ => ?_) (fun z => absurd z (by decide))⟩⟩
            refine ⟨_, rfl, .inl ⟨rfl, _, SqL.of pp9⟩, _, rfl, by show 2 ≤ sizeLine; decide, fun T hT => ?_⟩
            have J10 := J9.pair (.inl en) pn pp4 hT pp9
            rw [nO] at J10
            refine ⟨pp, ps9, _, rfl, rfl, (upd_ne (fun z => by rw [← z, pp9] at hT; cases hT)).trans pp9, by show _ < 2 ^ 24; omega, ?_, _, _, rfl⟩
            show LmJ P w K H4 c (trimK ks us) (addW c pls p) nm pl ml pp rows mach _ _
            rw [hA]
            exact J10
          · have ppl := tok'.pl _ pu
            obtain ⟨b', bs, rfl, hb'⟩ := hN9.ref ppl
            have depp := Nat.le_trans ppl.2 (by decide : 5 ≤ 8)
            refine ⟨_, rfl, -1, rfl, .inr ⟨b', bs, rfl, hb', _, rfl, iteF ?_⟩⟩
            refine ⟨fun σ' H' => LmJ P w K H4 c (trimK ks us) (addW c pls p) nm pl ml pp rows mach ((trimW (WT.W d) us kk).take j) H' ∧ σ' = [some (.ref a), some (.ref t1), some (.ref cd), some (.ref nm), some (.ref pl), some (.ref ml), some (.ref pp), some (.str p.1), some (.ref b')], ?_, ?_⟩
            · have hs : (valV (numDK (pls.map fun k => (c k : Int))) (.inl (c p.2 : Int))).isSome = decide ((c p.2 : Int) ∈ pls.map fun k => (c k : Int)) := by
                rw [numDK_get]
                by_cases z : (c p.2 : Int) ∈ pls.map fun k => (c k : Int)
                · rw [if_pos z, decide_eq_true z]
                  rfl
                · rw [if_neg z, decide_eq_false z]
                  rfl
              refine ⟨_, rfl, _, rfl, cd, b', clL (trimK ks us) c, p.2, _, rfl, rfl, ci.keep s9, hN9, depp, clL_get pu, _, rfl, nm, _, rfl, DGet.k (k := .inl (c p.2 : Int)) nm9, _, rfl, ?_⟩
              rw [hs]
              refine ite2 (fun q => ?_) (fun q => ?_)
              · have nin : (c p.2 : Int) ∉ pls.map fun k => (c k : Int) := by simpa using q
                have hA : addW c pls p = pls ++ [p.2] := if_neg fun z => z.elim ppl.ne nin
                have hput : putK (numDK (pls.map fun k => (c k : Int))) (.inl (c p.2 : Int)) (.int (pv9.length : Nat)) = numDK ((pls ++ [p.2]).map fun k => (c k : Int)) := by
                  rw [lpv, ← List.length_map (as := pls) (f := fun k => (c k : Int)), numDK_put nin, List.map_append]
                  rfl
                have J10 := J9.name hnm pl4 np nl mp pn pu nin hN9 pl9
                have pl10 : upd H9' nm (.dK (numDK ((pls ++ [p.2]).map fun k => (c k : Int)))) pl = some (.lst pv9) := (upd_ne np.symm).trans pl9
                refine ⟨_, rfl, pl, pv9, rfl, .inl (SqL.of pl9), ?_⟩
                refine ⟨_, rfl, _, rfl, _, rfl, cd, b', clL (trimK ks us) c, p.2, _, rfl, rfl, ci.keep s9, hN9, depp, clL_get pu, nm, _, rfl, DPut.k (k := .inl (c p.2 : Int)) nm9 (by rw [numDK_len, List.length_map, sizeLine_eq]; omega), ?_⟩
                rw [hput]
                refine ⟨_, rfl, .inl ⟨rfl, _, SqL.of pl10⟩, _, rfl, pl, pv9, _, rfl, rfl, pl10, by show _ < 2 ^ 24; omega, ?_, rfl⟩
                rw [hA]
                exact J10
              · have yin : (c p.2 : Int) ∈ pls.map fun k => (c k : Int) := by
                  cases z : decide ((c p.2 : Int) ∈ pls.map fun k => (c k : Int)) with
                  | true => exact of_decide_eq_true z
                  | false =>
                    rw [z] at q
                    exact absurd rfl q
                have hA : addW c pls p = pls := if_pos (.inr yin)
                refine ⟨?_, rfl⟩
                rw [hA]
                exact J9
            · rintro _ H10 ⟨J10, rfl⟩
              obtain ⟨pv10, ps10, s10, nm10, pl10, ap10, ml10, ar10, pp10, aq10, po10, hs10⟩ := id J10
              have lps10 := aq10.1
              rw [List.length_map, List.length_take] at lps10
              have hN10 := hN.keep s10
              have hin : (c p.2 : Int) ∈ (addW c pls p).map fun k => (c k : Int) := addW_has.resolve_left ppl.ne
              have nO : (numOf c (addW c pls p) p).2 = (((addW c pls p).map fun k => (c k : Int)).idxOf (c p.2 : Int) : Nat) := if_neg ppl.ne
              refine ⟨_, rfl, .inl ⟨rfl, _, SqL.of pp10⟩, _, rfl, _, rfl, _, rfl, _, rfl, cd, b', clL (trimK ks us) c, p.2, _, rfl, rfl, ci.keep s10, hN10, depp, clL_get pu, nm, .int (((addW c pls p).map fun k => (c k : Int)).idxOf (c p.2 : Int) : Nat), rfl, ?_, by show 2 ≤ sizeLine; decide, fun T hT => ?_⟩
              · have e := numDK_get ((addW c pls p).map fun k => (c k : Int)) (c p.2 : Int)
                rw [if_pos hin] at e
                rw [← e]
                exact DGet.k (k := .inl (c p.2 : Int)) nm10
              · have J11 := J10.pair addW_has pn pp4 hT pp10
                rw [nO] at J11
                exact ⟨pp, ps10, _, rfl, rfl, (upd_ne (fun z => by rw [← z, pp10] at hT; cases hT)).trans pp10, by show _ < 2 ^ 24; omega, J11, _, _, rfl⟩
        · rintro σ H9 ⟨⟨pv9, ps9, s9, nm9, pl9, ap9, ml9, ar9, pp9, aq9, po9, hs9⟩, x7, x8, rfl⟩
          have J9 : LmJ P w K H4 c (trimK ks us) (((trimW (WT.W d) us kk).take ys.length).foldl (addW c) (grow (trimW (WT.W d) us) c (WT.st d) n)) nm pl ml pp rows mach ((trimW (WT.W d) us kk).take ys.length) H9 := ⟨pv9, ps9, s9, nm9, pl9, ap9, ml9, ar9, pp9, aq9, po9, hs9⟩
          rw [lW, List.take_length] at nm9 ap9 aq9 po9 hs9
          have gr : grow (trimW (WT.W d) us) c (WT.st d) (n + 1) = (trimW (WT.W d) us kk).foldl (addW c) (grow (trimW (WT.W d) us) c (WT.st d) n) := by
            show (match (grow (trimW (WT.W d) us) c (WT.st d) n)[n]? with | some k => (trimW (WT.W d) us k).foldl (addW c) (grow (trimW (WT.W d) us) c (WT.st d) n) | none => grow (trimW (WT.W d) us) c (WT.st d) n) = _
            rw [hk]
          obtain ⟨zs, ez⟩ := fold_pre c (trimW (WT.W d) us kk) (grow (trimW (WT.W d) us) c (WT.st d) n)
          rw [← gr] at nm9 ap9 aq9 po9 hs9 ez
          have tk10 : Tk H9 (upd H9 ml (.lst (rows ++ [.ref pp]))) := Tk.upd (NoT.lst ml9)
          have wM : Same (Wt [nm, pl, ml, pp] H9) (Wt [nm, pl, ml] (upd H9 ml (.lst (rows ++ [.ref pp])))) := by
            rw [wt_upd (by simp)]
            exact wt_sub fun x hx => by
              simp only [List.mem_cons, List.not_mem_nil, or_false] at hx ⊢
              rcases hx with z | z | z
              · exact .inl z
              · exact .inr (.inl z)
              · exact .inr (.inr (.inl z))
          refine ⟨_, rfl, .inl ⟨rfl, _, SqL.of ml9⟩, _, rfl, ml, rows, _, rfl, rfl, ml9, by show _ < 2 ^ 24; omega, ?_⟩
          refine ⟨_, ?_, n + 1, pv9, rows ++ [.ref pp], mach ++ [rowOf (trimW (WT.W d) us) c (grow (trimW (WT.W d) us) c (WT.st d) (n + 1)) kk], fun x o hx => (upd_ne (fun z => by rw [z, ml4] at hx; cases hx)).trans (s9 _ _ hx), (upd_ne nl).trans nm9, (upd_ne mp.symm).trans pl9, ap9.mono fun _ _ h => h.tk tk10, upd_same, ?_, ?_, po9, fun i k hi hik => ?_, ?_, rfl, _, _, _, rfl⟩
          · omega
          · refine (ar9.mono fun _ _ h => h.keep wM).snoc ⟨pp, ps9, rfl, ?_, ?_⟩
            · rw [wt_upd (by simp)]
              refine (wt_get fun m => ?_).trans pp9
              simp only [List.mem_cons, List.not_mem_nil, or_false] at m
              rcases m with z | z | z
              · exact pn.1 z
              · exact pn.2.1 z
              · exact pn.2.2 z
            · exact aq9.mono fun _ _ h => h.keep wM
          · rw [List.length_append, lm]
            rfl
          · by_cases q : i = n
            · subst q
              have hkk : (grow (trimW (WT.W d) us) c (WT.st d) (i + 1))[i]? = some kk := by
                rw [ez, List.getElem?_append_left (List.getElem?_eq_some_iff.mp hk).1]
                exact hk
              rw [hkk] at hik
              cases hik
              refine ⟨?_, hs9⟩
              rw [List.getElem?_append_right (by omega), lm, Nat.sub_self]
              rfl
            · have li : i < n := by omega
              have hik' : (grow (trimW (WT.W d) us) c (WT.st d) n)[i]? = some k := by
                rw [ez, List.getElem?_append_left (by omega)] at hik
                exact hik
              obtain ⟨r1, r2⟩ := rw8 i k li hik'
              refine ⟨?_, fun p hp => by rw [ez]; exact (r2 p hp).pre _⟩
              rw [List.getElem?_append_left (by omega), r1, ez, rowOf_pre r2]
          · rw [ez, List.length_append]
            omega
      · have ge : (grow (trimW (WT.W d) us) c (WT.st d) n).length = n := by
          have : ¬ ((rows.length : Nat) : Int) < (pvs.length : Nat) := fun h => gg (decide_eq_true h)
          omega
        have e3H : Same H H8 := e04.trans e8
        refine ⟨_, rfl, k H8 ml mach e3H (none_of e04 ml4) ⟨rows, ml8, ar8.mono fun _ _ h => h.keep fun x o hx => ?_⟩ ⟨ks, us, tok, hst, fun k hk => (hks k hk).2, hus, .inr ⟨inU, c, n, stab, coar, lm, ge, fun i k hik => ?_⟩⟩⟩
        · obtain ⟨nx, hx⟩ := wt_some hx
          exact (off_ne fun z => nx (by rw [z]; simp)).trans hx
        · have := (List.getElem?_eq_some_iff.mp hik).1
          exact (rw8 i k (by omega) hik).1
end
end MK
set_option Elab.async false
set_option linter.all false
set_option autoImplicit false
set_option maxRecDepth 100000
set_option maxHeartbeats 4000000
namespace MK
open PySem PySem.Spec PyProof.Rows L2
open C8 (Met pe_mt pe_mt0 Mak pe_mk)
local macro_rules | `(tactic| walk_at "x") => `(tactic| dsimp only [tSeq, tAsg, tRet, tDrop, tLst, tTup, tCons, tOp, tUn, tIfS])
theorem sc_freest : FnScope ["kind", "rules"] ["kind", "rules"] (defScope s_freest) := ⟨rfl, rfl, rfl, by decide +kernel, rfl, by decide +kernel, by decide +kernel⟩
/-- what is due of the least machine -/
def LeastO (D : OD) (m : List (List (Str × Int))) : Prop := ∃ ks us, TbOk (waysO D) ks ∧ startO D ∈ ks ∧ (∀ k ∈ ks, Rch (startO D) (waysO D) k) ∧ (∀ k, k ∈ us ↔ k ∈ ks ∧ Ends (waysO D) k) ∧
  ((startO D ∉ us ∧ m = []) ∨ (startO D ∈ us ∧ ∃ c n, Stable (trimW (waysO D) us) (trimK ks us) c ∧ Coarse (trimW (waysO D) us) (trimK ks us) c ∧ Mach (trimW (waysO D) us) c (startO D) n m))
def spFree (K : PySem.W.Frag) (KC : Addr) : Sp := fun vs H Q _ => ∃ (kv rv : V) (fs : List FD) (n : Nat) (cs : List CD) (D0 : Dt) (ds : List Dt), vs = [kv, rv] ∧ KdA K KC H kv fs n cs ∧ ODOk ⟨fs, n, cs, ds.map ruOf⟩ ∧ Sh K H rv D0 ∧ sqD D0 = some ds ∧ ds.length ≤ 10 ∧ (∀ d ∈ ds, ruleD cs d = true ∧ FlatHd d) ∧
  ∀ H' r m, Same H H' → H r = none → (∃ rows, H' r = some (.lst rows) ∧ Al (RowV K (Off r H')) rows m) → LeastO ⟨fs, n, cs, ds.map ruOf⟩ m → Q (.ref r) H'
section
variable {P : Program} {w : World} {K : PySem.W.Frag} {mg : Str → Option Value} {base : Heap} {OC KC : Addr}
theorem ok_freest {f : Addr} {fd : FuncData} (F : FunU K "freest" "freest" s_freest f fd) (T : Txt K mg) (mk_Orders : Mak P w K mg base 4 "Orders" OC (spOInit K OC KC) []) (c_least_machine : Cal P w K mg base CX0 7 "least_machine" (spLeast P w K (ordT K OC KC))) : FnOk P w K mg base CX0 8 f fd ["kind", "rules"] (spFree K KC) := by
  refine F.ok sc_freest (fun vs H Q E h => ?_) (fun cdv A outer sh H vs Q E hr h => ?_)
  · obtain ⟨kv, rv, _, _, _, _, _, rfl, _⟩ := h
    rfl
  · obtain ⟨kv, rv, fs, n, cs, D0, ds, rfl, kd, od, s, hds, l10, all, k⟩ := h
    refine ⟨_, (pss_one (ps_ret (pe_c c_least_machine hr (by first | decide | assumption) rfl (pa_cons (pe_mk mk_Orders hr (by decide) rfl (pa_cons (pv 0) (pa_cons (pv 1) pa_nil))) pa_nil)))), ?_⟩
    refine ⟨_, rfl, _, rfl, fun x dx hx hdx nd => ?_⟩
    have S2 : Same H (Off x (upd (upd H dx (.own x)) x (.ins OC dx []))) := fun b o hb => by
      have n1 : b ≠ x := fun e => by rw [e, hx] at hb; cases hb
      have n2 : b ≠ dx := fun e => by rw [e, hdx] at hb; cases hb
      rw [off_ne n1, upd_ne n1, upd_ne n2]
      exact hb
    refine ⟨x, dx, kv, rv, fs, n, cs, D0, ds, rfl, upd_same, kd.keep S2, od.kd, s.keep S2, hds, l10, all, fun H3 e3 ⟨tb, R, hk⟩ => ⟨rfl, ?_⟩⟩
    have e03 := S2.trans e3
    exact ⟨⟨fs, n, cs, ds.map ruOf⟩, x, rfl, ⟨kv, tb, R, od, hk⟩, fun H' r m e' hr' rows facts => k H' r m (e03.trans e') (none_of e03 hr') rows facts⟩
end
end MK
set_option Elab.async false
set_option linter.all false
set_option autoImplicit false
set_option maxRecDepth 100000
set_option maxHeartbeats 4000000
namespace MK
open PySem PySem.Spec PyProof.Rows L2
open C8 (Met pe_mt pe_mt0 Mak pe_mk)
local macro_rules | `(tactic| walk_at "x") => `(tactic| dsimp only [tSeq, tAsg, tRet, tDrop, tLst, tTup, tCons, tOp, tUn, tIfS])
theorem sc_is_good : FnScope ["kind", "rules", "names", "orders", "place", "name"] ["kind", "rules", "names"] (defScope s_is_good) := ⟨rfl, rfl, rfl, by decide +kernel, rfl, by decide +kernel, by decide +kernel⟩
def placeO (D : OD) (cd : CD) : Pl → Option Pl
  | .tup [.num m, .tup cts, .tup seen] => placeB D m.toNat (cts.map intN) (seen.map textN) cd
  | _ => none
theorem placeO_pl (D : OD) (m : Nat) (cts : List Int) (seen : List Str) (cd : CD) : placeO D cd (plK m cts seen) = placeB D m cts seen cd := by
  have e1 : (cts.map NestedKey.num).map intN = cts := by
    rw [List.map_map]
    exact List.map_id cts
  have e2 : (seen.map NestedKey.text).map textN = seen := by
    rw [List.map_map]
    exact List.map_id seen
  show placeB D (m : Int).toNat ((cts.map NestedKey.num).map intN) ((seen.map NestedKey.text).map textN) cd = _
  rw [e1, e2, Int.toNat_natCast]
/-- one name on -/
def stepO (D : OD) (p : Pl) (x : Dt) : Option Pl := if p = dn then none else match x with
  | .str z => (D.cs.find? fun c => decide (c.nm = z)).bind fun cd => placeO D cd p
  | _ => none
def goodB (D : OD) (d : Dt) : Bool := match sqD d with
  | none => false
  | some xs => decide (xs.foldlM (stepO D) (startO D) = some dn)
theorem foldO_next {D : OD} {xs : List Dt} {i : Nat} {x : Dt} {p : Pl} (h : (xs.take i).foldlM (stepO D) (startO D) = some p) (hx : xs[i]? = some x) : (xs.take (i + 1)).foldlM (stepO D) (startO D) = stepO D p x := by
  rw [take_next' hx, List.foldlM_append, h]
  show (stepO D p x).bind (fun q => some q) = _
  cases stepO D p x <;> rfl
theorem foldO_none {D : OD} {xs : List Dt} {i : Nat} {x : Dt} {p : Pl} (h : (xs.take i).foldlM (stepO D) (startO D) = some p) (hx : xs[i]? = some x) (hn : stepO D p x = none) : xs.foldlM (stepO D) (startO D) = none := by
  have e := foldO_next h hx
  rw [hn] at e
  rw [← List.take_append_drop (i + 1) xs, List.foldlM_append, e]
  rfl
theorem findO {cs : List CD} {z : Str} : (z ∉ cs.map (·.nm) ∧ cs.find? (fun c => decide (c.nm = z)) = none) ∨ ∃ (cd : CD) (i : Nat), cs.find? (fun c => decide (c.nm = z)) = some cd ∧ cs[i]? = some cd ∧ cd.nm = z := by
  cases h : cs.find? (fun c => decide (c.nm = z)) with
  | none =>
    refine .inl ⟨fun m => ?_, rfl⟩
    obtain ⟨c, hc, e⟩ := List.mem_map.mp m
    have := List.find?_eq_none.mp h c hc
    exact this (decide_eq_true e)
  | some cd =>
    obtain ⟨i, hi⟩ := List.mem_iff_getElem?.mp (List.mem_of_find?_eq_some h)
    exact .inr ⟨cd, i, rfl, hi, by simpa using List.find?_some h⟩
theorem stepO_bad {D : OD} {p : Pl} {d : Dt} (h : (decide (p = dn) || !nameD D.cs d) = true) : stepO D p d = none := by
  unfold stepO
  by_cases e : p = dn
  · rw [if_pos e]
  · rw [if_neg e]
    rw [decide_eq_false e, Bool.false_or] at h
    cases d with
    | str z =>
      rcases findO (cs := D.cs) (z := z) with ⟨_, q⟩ | ⟨cd, i, _, hi, e2⟩
      · show Option.bind (D.cs.find? fun c => decide (c.nm = z)) _ = none
        rw [q]
        rfl
      · have : nameD D.cs (.str z) = true := decide_eq_true (e2 ▸ List.mem_map_of_mem (f := (·.nm)) (List.mem_of_getElem? hi))
        rw [this] at h
        cases h
    | _ => rfl
def spGood (K : PySem.W.Frag) (KC : Addr) : Sp := fun vs H Q _ => ∃ (kv rv nv : V) (fs : List FD) (n : Nat) (cs : List CD) (D0 N0 : Dt) (ds : List Dt), vs = [kv, rv, nv] ∧ KdA K KC H kv fs n cs ∧ ODOk ⟨fs, n, cs, ds.map ruOf⟩ ∧ Sh K H rv D0 ∧ sqD D0 = some ds ∧ ds.length ≤ 10 ∧ (∀ d ∈ ds, ruleD cs d = true ∧ FlatHd d) ∧ Sh K H nv N0 ∧
  ∀ H', Same H H' → Q (.bl (goodB ⟨fs, n, cs, ds.map ruOf⟩ N0)) H'
section
variable {P : Program} {w : World} {K : PySem.W.Frag} {mg : Str → Option Value} {base : Heap} {OC KC fh : Addr} {fdh : FuncData}
theorem ok_good {f : Addr} {fd : FuncData} (F : DefX K mg "is_good" s_is_good ["kind", "rules", "names"] f fd) (T : Txt K mg) (Cs : MCst mg) (mk_Orders : Mak P w K mg base 4 "Orders" OC (spOInit K OC KC) []) (c_is_list : Cal P w K mg base CX0 1 "is_list" (spListX K)) (m_start : Met P w K mg base 1 OC "start" (spStart K (ordT K OC KC)) []) (m_place_behind : Met P w K mg base 4 OC "place_behind" (spPlB K OC KC) [])
    (H_has : FnOk P w K mg base CX0 1 fh fdh ["self", "x"] (spHas K KC) ∧ PySem.W.findIn K (.ref KC) "__contains__" = some (some (.ref fh)) ∧ PySem.W.isFn K (.ref fh) = true ∧ Binds K fdh ["self", "x"] []) : FnOk P w K mg base CX0 6 f fd ["kind", "rules", "names"] (spGood K KC) := by
  refine F.fn.ok sc_is_good (fun vs H Q E h => ?_) (fun cdv A outer sh H vs Q E hr h => ?_)
  · obtain ⟨kv, rv, nv, _, _, _, _, _, _, rfl, _⟩ := h
    rfl
  · obtain ⟨kv, rv, nv, fs, n, cs, D0, N0, ds, rfl, kd, od, s, hds, l10, all, sn, k⟩ := h
    refine ⟨_, (pss_cons (ps_set (i := 3) sc_is_good.nd rfl (Or.inl rfl) (pe_mk mk_Orders hr (by decide) rfl (pa_cons (pv 0) (pa_cons (pv 1) pa_nil))))
(pss_cons (ps_if (pt_not (pt_val (pe_c c_is_list hr (by first | decide | assumption) rfl (pa_cons (pv 2) pa_nil))))
(pss_one (ps_ret pe_bl))
pss_nil)
(pss_cons (ps_set (i := 4) sc_is_good.nd rfl (Or.inl rfl) (pe_mt0 m_start hr (by decide) (pv 3)))
(pss_cons (ps_for PassesOwn.never rfl (pi_sqV (pv 2)) (pg_name (i := 5) sc_is_good.nd rfl (Or.inl rfl))
(pss_cons (ps_if (pt_cut (PW.pt (pw_or (pt_cmpR (op_eqI (K := K) rfl hr.units0) (pv 4) (pe_cst rfl Cs.DONE) (nomark _)) (pw_or1 (pt_cmpR (op_notInOwn H_has.1 H_has.2.1 H_has.2.2.1 H_has.2.2.2 (hr.mono (by decide))) (pv 5) (pv 0) (by rfl))))))
(pss_one (ps_ret pe_bl))
pss_nil)
(pss_cons (ps_set (i := 4) sc_is_good.nd rfl (Or.inl rfl) (pe_mt m_place_behind hr (by decide) (pv 3) (pa_cons (pv 4) (pa_cons (pv 5) pa_nil))))
(pss_one (ps_if (pt_cmpR op_isN (pv 4) pe_non (nomark _))
(pss_one (ps_ret pe_bl))
pss_nil)))))
(pss_one (ps_ret (pe_cmpR (op_eqI (K := K) rfl hr.units0) (pv 4) (pe_cst rfl Cs.DONE) (nomark _)))))))), ?_⟩
    refine ⟨_, rfl, _, rfl, fun x dx hx hdx nd => ?_⟩
    have S2 : Same H (Off x (upd (upd H dx (.own x)) x (.ins OC dx []))) := fun b o hb => by
      have n1 : b ≠ x := fun e => by rw [e, hx] at hb; cases hb
      have n2 : b ≠ dx := fun e => by rw [e, hdx] at hb; cases hb
      rw [off_ne n1, upd_ne n1, upd_ne n2]
      exact hb
    refine ⟨x, dx, kv, rv, fs, n, cs, D0, ds, rfl, upd_same, kd.keep S2, od.kd, s.keep S2, hds, l10, all, fun H3 e3 ⟨tb, R, hk⟩ => ⟨rfl, ?_⟩⟩
    have e03 := S2.trans e3
    have sn3 := sn.keep e03
    generalize hD : (⟨fs, n, cs, ds.map ruOf⟩ : OD) = D at R od k
    have hcs : D.cs = cs := by rw [← hD]
    cases hq : sqD N0 with
    | none =>
      have h0 : isSq N0 = false := by rw [isSq_iff, hq]; rfl
      have hg : goodB D N0 = false := by unfold goodB; rw [hq]
      refine ⟨_, rfl, nv, N0, rfl, sn3, fun H4 e4 => ⟨false, congrArg V.bl h0, iteT ?_⟩⟩
      have := k H4 (e03.trans e4)
      rw [hg] at this
      exact this
    | some xs =>
      have h0 : isSq N0 = true := by rw [isSq_iff, hq]; rfl
      refine ⟨_, rfl, nv, N0, rfl, sn3, fun H4 e4 => ⟨true, congrArg V.bl h0, iteF ?_⟩⟩
      obtain ⟨ox, nd', wa, ba, co, hox, _⟩ := id R
      have WI : ∀ {G : Hp}, Same H3 G → (ordT K OC KC).I D G x := fun e => ⟨kv, tb, R.km (Km.of e), od, _, e _ _ hk.choose_spec⟩
      refine ⟨_, rfl, x, ox, _, rfl, e4 _ _ hox, rfl, D, x, rfl, WI e4, fun H5 b e5 hb => ?_⟩
      have e35 := e4.trans e5
      obtain ⟨vs, ⟨na, rfl, hv0⟩, hal, few⟩ := (sn3.keep e35).sq hq
      refine ⟨_, rfl, na, vs, H5, rfl, hv0, Same.refl H5, fun J GG wk gk => ?_⟩
      refine for_it wk (fun i σ H6 => Same H5 H6 ∧ ∃ p v x5, (xs.take i).foldlM (stepO D) (startO D) = some p ∧ (p = dn ∨ p ∈ allO D) ∧ Nk K H6 p v ∧ σ = [some kv, some rv, some (.ref na), some (.ref x), some v, x5]) ⟨Same.refl H5, startO D, .ref b, none, rfl, .inr (walkO od).st, hb, rfl⟩ (fun i σ H6 h => fun h => gk _ h.1) ?_ ?_
      · rintro i y σ H6 H7 hi ⟨e6, p, v, x5, hf, hp, nk, rfl⟩ ⟨rfl, hy⟩
        obtain ⟨d, hd, sd⟩ := hal.get hy
        have e37 := e35.trans e6
        have bad : stepO D p d = none → goodB D N0 = false := fun h => by
          unfold goodB
          rw [hq]
          show decide (xs.foldlM (stepO D) (startO D) = some dn) = false
          rw [foldO_none hf hd h]
          rfl
        refine ⟨fun bb H' => bb = (decide (p = dn) || !nameD D.cs d) ∧ H' = H7, ?_, ?_⟩
        · by_cases en : p = dn
          · rw [decide_eq_true en]
            rw [en] at nk
            obtain rfl := nk.dn
            exact ⟨_, rfl, -1, rfl, .inl ⟨-1, rfl, _, rfl, ite2 (fun _ => ⟨rfl, rfl⟩) (fun z => absurd z (by decide))⟩⟩
          · obtain ⟨b', bs, rfl, hb'⟩ := nk.ref ((walkO od).pl p (hp.resolve_left en))
            rw [decide_eq_false en, Bool.false_or]
            have kd7 := kd.keep (e03.trans e37)
            obtain ⟨ka, kdx, so, sp, tb', kt, kst, ktv, ksv, rfl, k1, krest⟩ := id kd7
            refine ⟨_, rfl, -1, rfl, .inr ⟨b', bs, rfl, hb', _, rfl, iteF ?_⟩⟩
            rw [hcs]
            exact ⟨_, rfl, _, rfl, ka, kdx, _, rfl, k1, rd_hasD kd7 (sd.keep e6) ⟨_, rfl, _, rfl, rfl, rfl⟩⟩
        rintro _ H8 ⟨rfl, rfl⟩
        refine ite2 (fun g => ?_) (fun g => ?_)
        · have := k H8 (e03.trans e37)
          rw [bad (stepO_bad g)] at this
          exact this
        · have g' : (decide (p = dn) || !nameD D.cs d) = false := by
            cases z : (decide (p = dn) || !nameD D.cs d) with
            | false => rfl
            | true => exact absurd z g
          rw [Bool.or_eq_false_iff] at g'
          have en : p ≠ dn := of_decide_eq_false g'.1
          obtain ⟨z, rfl, hz⟩ := nameD_str (show nameD D.cs d = true by simpa using g'.2)
          obtain ⟨rfl, _⟩ := sd.str'
          rcases findO (cs := D.cs) (z := z) with ⟨nz, _⟩ | ⟨cd, ii, hfd, hcd, rfl⟩
          · exact absurd hz nz
          obtain ⟨m, cts, seen, hm, hc, hs, rfl⟩ := mem_allO.mp (hp.resolve_left en)
          obtain ⟨b', _, rfl, _⟩ := nk.ref (plK_ok m cts seen)
          obtain ⟨lc, _⟩ := bits_of hc
          have lco : (countL D.cs D.rs).length ≤ 6 := by
            have h1 := List.length_filter_le (fun z => decide (z ∈ D.rs.map (·.a))) (D.cs.map (·.nm))
            rw [List.length_map] at h1
            exact Nat.le_trans h1 od.kd.cle
          have st : stepO D (plK m cts seen) (.str cd.nm) = placeB D m cts seen cd := by
            unfold stepO
            rw [if_neg en]
            show Option.bind (D.cs.find? fun c => decide (c.nm = cd.nm)) _ = _
            rw [hfd]
            exact placeO_pl D m cts seen cd
          refine ⟨_, rfl, x, ox, _, rfl, e37 _ _ hox, rfl, _, rfl, _, rfl, x, tb, b', kv, D, m, cts, seen, ii, cd, rfl, R.km (Km.of e37), od, hm, lc, Nat.le_trans (subs_le hs) lco, nk, hcd, fun H9 v9 e9 pv => ?_⟩
          cases hpb : placeB D m cts seen cd with
          | none =>
            rw [hpb] at pv
            obtain rfl : v9 = .non := pv
            refine ⟨_, rfl, rfl, _, rfl, ite2 (fun _ => ?_) (fun g => absurd (decide_eq_true rfl) g)⟩
            have := k H9 (e03.trans (e37.trans e9))
            rw [bad (by rw [st, hpb])] at this
            exact this
          | some q =>
            rw [hpb] at pv
            have pv : Nk K H9 q v9 := pv
            have hq2 := place_in od hm hc (List.mem_of_getElem? hcd) hpb
            have nv : v9 ≠ .non := fun e => by
              rcases hq2 with rfl | hq2
              · rw [pv.dn] at e
                cases e
              · obtain ⟨b2, _, e', _⟩ := pv.ref ((walkO od).pl q hq2)
                rw [e'] at e
                cases e
            refine ⟨_, rfl, rfl, _, rfl, ite2 (fun g => absurd (of_decide_eq_true g) nv) (fun _ => ?_)⟩
            exact ⟨e6.trans e9, q, v9, _, by rw [foldO_next hf hd, st, hpb], hq2, pv, rfl⟩
      · rintro σ H6 ⟨e6, p, v, x5, hf, hp, nk, rfl⟩
        rw [hal.1, List.take_length] at hf
        have hg : goodB D N0 = decide (p = dn) := by
          unfold goodB
          rw [hq]
          show decide (xs.foldlM (stepO D) (startO D) = some dn) = _
          rw [hf]
          exact decide_eq_decide.mpr ⟨fun e => Option.some.inj e, fun e => by rw [e]⟩
        have kk := k H6 (e03.trans (e35.trans e6))
        rw [hg] at kk
        by_cases en : p = dn
        · rw [decide_eq_true en] at kk
          rw [en] at nk
          obtain rfl := nk.dn
          exact ⟨_, rfl, -1, rfl, .inl ⟨-1, rfl, kk⟩⟩
        · rw [decide_eq_false en] at kk
          obtain ⟨b', bs, rfl, hb'⟩ := nk.ref ((walkO od).pl p (hp.resolve_left en))
          exact ⟨_, rfl, -1, rfl, .inr ⟨b', bs, rfl, hb', kk⟩⟩
end
end MK
set_option Elab.async false
set_option linter.all false
set_option autoImplicit false
set_option maxRecDepth 100000
set_option maxHeartbeats 4000000
namespace MK
open PySem PySem.Spec PyProof.Rows L2
open C8 (Met pe_mt pe_mt0 Mak pe_mk)
local macro_rules | `(tactic| walk_at "x") => `(tactic| dsimp only [tSeq, tAsg, tRet, tDrop, tLst, tTup, tCons, tOp, tUn, tIfS])
def DueU (cs : List CD) (d : Dt) (i : Nat) : Prop := (sqD d = none ∧ i = 0) ∨ ∃ ds x, sqD d = some ds ∧ ds.length ≤ 200 ∧ ds[i]? = some x ∧ ruleD cs x = false ∧ (∀ (j : Nat) y, j < i → ds[j]? = some y → ruleD cs y = true) ∧ ∀ y ∈ ds, FlatHd y
def spOInitX (K : PySem.W.Frag) (OC KC CR : Addr) : Sp := fun vs H Q E => ∃ (a dx : Addr) (kv v : V) (fs : List FD) (n : Nat) (cs : List CD) (d : Dt) (i : Nat), vs = [.ref a, kv, v] ∧ H a = some (.ins OC dx []) ∧ KdA K KC (Off a H) kv fs n cs ∧ Sh K (Off a H) v d ∧ DueU cs d i ∧
  ∀ dd H', Same H H' → H dd = none → H' dd = some (.xd [("index", .int i)]) → E (.ref CR) (some dd) H'
theorem FunU.okX {P : Program} {w : World} {K : PySem.W.Frag} {mg : Str → Option Value} {base : Heap} {x qual : Str} {st : Stmt} {f : Addr} {fd : FuncData} {N ps : List Str} {k : Nat} {sp : Sp} (F : FunU K x qual st f fd) (S : FnScope N ps (defScope st)) (len : ∀ vs H Q E, sp vs H Q E → vs.length = ps.length)
    (hbody : ∀ (cdv : Value) (A : Around) (outer : List Env) (s : Shared) (H : Hp) (vs : List V) (Q : VK) (E : XK), Room k (A.deeper (envOfC qual (defScope st) s.heap.objs.size f cdv)) → sp vs H Q E →
      ∃ t, PSs (cxOf (L2.CX P w) P w K mg base N qual (defScope st) f cdv A outer s H E) (defBody st) t ∧ t { nx := fun _ H' => Q .non H', rt := Q } (L2.start N vs) H) : FnOk P w K mg base (L2.CX P w) (k + 1) f fd ps sp := by
  obtain ⟨oc, od, dV, kV, doc, pm, an, cdv, ct, osl, rfl, lk, hcd⟩ := F.ex
  exact fn_of lk hcd S len fun A outer s H vs Q E hr hsp => hbody cdv A outer s H vs Q E hr hsp
section
variable {P : Program} {w : World} {K : PySem.W.Frag} {mg : Str → Option Value} {base : Heap} {OC KC CR fi : Addr} {fdi : FuncData}
theorem ok_oinitX {f : Addr} {fd : FuncData} (F : FunU K "__init__" "Orders.__init__" s_Orders_init f fd) (T : Txt K mg) (Z : OCls K OC) (ZK : KCls K KC) (c_is_list : Cal P w K mg base CX0 1 "is_list" (spListX K)) (c_is_rule : Cal P w K mg base CX0 3 "is_rule" (spRuleX K KC))
    (H_iter : FnS P w K mg base 1 fi fdi ["self"] (spIter KC "table") ∧ PySem.W.findIn K (.ref KC) "__iter__" = some (some (.ref fi)) ∧ PySem.W.isFn K (.ref fi) = true ∧ Binds K fdi ["self"] []) (r_Rule : RaiseC P w K mg base 1 "BadRule" CR (spErr1 CR "index")) : FnOk P w K mg base (L2.CX P w) 4 f fd ["self", "kind", "rules"] (spOInitX K OC KC CR) := by
  refine F.okX sc_Orders_init (fun vs H Q E h => ?_) (fun cdv A outer sh H vs Q E hr h => ?_)
  · obtain ⟨a, dx, kv, v, _, _, _, _, _, rfl, _⟩ := h
    rfl
  · obtain ⟨a, dx, kv, v, fs, n, cs, d, j, rfl, ha, kd, s, due, hE⟩ := h
    refine ⟨_, (pss_cons (ps_if (pt_not (pt_val (pe_c c_is_list hr (by first | decide | assumption) rfl (pa_cons (pv 2) pa_nil))))
(pss_one (ps_raiseC r_Rule rfl (takes_of rfl rfl rfl rfl) hr (by decide) rfl (pa_cons pe_int pa_nil)))
pss_nil)
(pss_cons (ps_for PassesOwn.leaving rfl (pi_enV (by rfl) T.enumerate (pa_cons (pv 2) pa_nil)) (pg_tup (by rfl) (pgs_cons (pg_name (i := 3) sc_Orders_init.nd rfl (Or.inl rfl)) (pgs_cons (pg_name (i := 4) sc_Orders_init.nd rfl (Or.inl rfl)) pgs_nil)))
(pss_one (ps_if (pt_not (pt_val (pe_c c_is_rule hr (by first | decide | assumption) rfl (pa_cons (pv 1) (pa_cons (pv 4) pa_nil)))))
(pss_one (ps_raiseC r_Rule rfl (takes_of rfl rfl rfl rfl) hr (by decide) rfl (pa_cons (pv 3) pa_nil)))
pss_nil)))
(pss_cons (ps_fld (pv 0) (pv 1) rfl)
(pss_cons (ps_fld (pv 0) (pe_lc (own := [("name", 5), ("sort", 6), ("need", 7)]) (g := (gTup K 3 (gCons (gName 5) (gCons (gName 6) (gCons (gName 7) gNil))))) (tt := tYes) rfl sc_Orders_init.nd (pi_tup (pe_fld (pv 1) rfl)) (blkOk_by (own := [("name", 5), ("sort", 6), ("need", 7)]) (N := ["self", "kind", "rules", "index", "rule", "name", "sort", "need", "table"]) (sc := defScope s_Orders_init) (by decide +kernel)) (fun _ _ _ _ _ => (pg_tup (by rfl) (pgs_cons (pg_name (i := 5) sc_Orders_init.nd rfl (Or.inl rfl)) (pgs_cons (pg_name (i := 6) sc_Orders_init.nd rfl (Or.inl rfl)) (pgs_cons (pg_name (i := 7) sc_Orders_init.nd rfl (Or.inl rfl)) pgs_nil))))) (fun _ _ _ _ _ => pts_nil) (fun _ _ _ _ _ => (pv 7))) rfl)
(pss_cons (ps_fld (pv 0) (pe_lock (pe_dc (own := [("name", 5)]) (g := (gName 5)) (tt := tYes) rfl sc_Orders_init.nd (pi_own (pv 1) H_iter.1 H_iter.2.1 H_iter.2.2.1 H_iter.2.2.2 (hr.mono (by decide))) (blkOk_by (own := [("name", 5)]) (N := ["self", "kind", "rules", "index", "rule", "name", "sort", "need", "table"]) (sc := defScope s_Orders_init) (by decide +kernel)) (fun _ _ _ _ _ => (pg_name (i := 5) sc_Orders_init.nd rfl (Or.inl rfl))) (fun _ _ _ _ _ => pts_nil) (fun _ _ _ _ _ => (pv 5)) (fun _ _ _ _ _ => (pe_lst pa_nil)))) rfl)
(pss_cons (ps_fld (pv 0) (pe_lock (pe_dc (own := [("name", 5)]) (g := (gName 5)) (tt := tYes) rfl sc_Orders_init.nd (pi_own (pv 1) H_iter.1 H_iter.2.1 H_iter.2.2.1 H_iter.2.2.2 (hr.mono (by decide))) (blkOk_by (own := [("name", 5)]) (N := ["self", "kind", "rules", "index", "rule", "name", "sort", "need", "table"]) (sc := defScope s_Orders_init) (by decide +kernel)) (fun _ _ _ _ _ => (pg_name (i := 5) sc_Orders_init.nd rfl (Or.inl rfl))) (fun _ _ _ _ _ => pts_nil) (fun _ _ _ _ _ => (pv 5)) (fun _ _ _ _ _ => (pe_lst pa_nil)))) rfl)
(pss_cons (ps_for PassesOwn.leaving rfl (pi_sqV (pv 2)) (pg_name (i := 4) sc_Orders_init.nd rfl (Or.inl rfl))
(pss_cons (ps_set (i := 8) sc_Orders_init.nd rfl (Or.inl rfl) (pe_cut (pe_ifExp (pt_cmpR op_eq (pe_ix ix_seq (pv 4) pe_int (fun _ _ => rfl)) pe_str (nomark _)) (pe_fld (pv 0) rfl) (pe_fld (pv 0) rfl))))
(pss_one (ps_expr (pe_bm PySem.F.plainAttrs_list PySem.F.slot_list_append PySem.F.type_list_append mt_append (pe_dget (hu_of hr) (pv 8) (pe_ix ix_seq (pv 4) (pe_un un_neg pe_int) (fun _ _ => rfl)) (fun _ _ => rfl)) (pa_cons (pe_ix ix_seq (pv 4) pe_int (fun _ _ => rfl)) pa_nil))))))
(pss_one (ps_fld (pv 0) (pe_lock (pe_lc (own := [("name", 5)]) (g := (gName 5)) rfl sc_Orders_init.nd (pi_own (pv 1) H_iter.1 H_iter.2.1 H_iter.2.2.1 H_iter.2.2.2 (hr.mono (by decide))) (blkOk_by (own := [("name", 5)]) (N := ["self", "kind", "rules", "index", "rule", "name", "sort", "need", "table"]) (sc := defScope s_Orders_init) (by decide +kernel)) (fun _ _ _ _ _ => (pg_name (i := 5) sc_Orders_init.nd rfl (Or.inl rfl))) (fun _ _ _ _ _ => (pts_one (pt_cmpR (op_in_seqK (K := K) rfl) (pv 5) (pe_lc (own := [("rule", 4)]) (g := (gName 4)) (tt := tYes) rfl sc_Orders_init.nd (pi_sqVK (K := K) rfl (pv 2)) (blkOk_by (own := [("rule", 4)]) (N := ["self", "kind", "rules", "index", "rule", "name", "sort", "need", "table"]) (sc := { kind := .function, names := [(".0", .local), ("name", .local), ("rules", .cell)], isGenerator := false, isCoroutine := false }) (by decide +kernel)) (fun _ _ _ _ _ => (pg_name (i := 4) sc_Orders_init.nd rfl (Or.inl rfl))) (fun _ _ _ _ _ => pts_nil) (fun _ _ _ _ _ => (pe_ix (ix_seqK (K := K) rfl) (pv 4) pe_int (fun _ _ => rfl)))) (by rfl)))) (fun _ _ _ _ _ => (pv 5)))) rfl))))))))), ?_⟩
    have kdH := kd.keep off_same
    have sH := s.keep off_same
    rcases due with ⟨hd, rfl⟩ | ⟨ds, x, hd, few2, hx, hbad, hgood, hfl⟩
    · have h0 : isSq d = false := by rw [isSq_iff, hd]; rfl
      exact ⟨_, rfl, v, d, rfl, sH, fun H1 e1 => ⟨false, congrArg V.bl h0, iteT (rd_raise1 (fun R hR => hR) fun d2 H2 e2 h2 hx => hE d2 H2 (e1.trans e2) (none_of e1 h2) hx)⟩⟩
    · obtain ⟨vs, ⟨ra, rfl, hv0⟩, hal, few⟩ := sH.sq hd
      have jl := (List.getElem?_eq_some_iff.mp hx).1
      have h0 : isSq d = true := by rw [isSq_iff, hd]; rfl
      refine ⟨_, rfl, .ref ra, d, rfl, sH, fun H1 e1 => ⟨true, congrArg V.bl h0, iteF ?_⟩⟩
      refine ⟨_, rfl, ra, vs, H, rfl, hv0, e1, fun J G wk hG => ?_⟩
      refine for_it wk (fun i σ H2 => i ≤ j ∧ Same H H2 ∧ ∃ x3 x4, σ = [some (.ref a), some kv, some (.ref ra), x3, x4, none, none, none, none]) ⟨Nat.zero_le _, e1, none, none, rfl⟩ (fun i σ H2 _ h => hG _ h.2.1) ?_ ?_
      · rintro i _ σ H2 H3 hi ⟨ij, e2, x3, x4, rfl⟩ ⟨U, _, y, rfl, hU, rfl, h1, hy⟩
        obtain rfl := Option.some.inj h1
        obtain ⟨g, hg, sg⟩ := hal.get hy
        have e3 : Same H2 (upd H2 U (.tup [.int (i : Nat), y])) := same_new (Same.refl H2) hU
        refine ⟨U, _, rfl, SqT.of upd_same, rfl, _, _, rfl, _, _, rfl, rfl, ?_⟩
        have e23 := e2.trans e3
        generalize upd H2 U (.tup [.int (i : Nat), y]) = H3 at e3 e23
        refine ⟨_, rfl, _, rfl, kv, y, fs, n, cs, g, rfl, kdH.keep e23, sg.keep e23, hfl g (List.mem_of_getElem? hg), fun H4 e4 => ?_⟩
        by_cases q : i = j
        · subst q
          rw [hx] at hg
          cases hg
          refine ⟨false, congrArg V.bl hbad, iteT (rd_raise1 (fun R hR => ⟨_, rfl, hR⟩) fun d2 H5 e5 h5 hx5 => hE d2 H5 ((e23.trans e4).trans e5) (none_of (e23.trans e4) h5) hx5)⟩
        · exact ⟨true, congrArg V.bl (hgood i g (by omega) hg), iteF ⟨by omega, e23.trans e4, _, _, rfl⟩⟩
      · rintro σ H2 ⟨ij, _⟩
        rw [hal.1] at ij
        omega
end
end MK
set_option Elab.async false
set_option linter.all false
set_option autoImplicit false
set_option maxRecDepth 100000
set_option maxHeartbeats 4000000
namespace MK
open PySem PySem.Spec PyProof.Rows L2
open C8 (Met pe_mt pe_mt0 Mak pe_mk)
local macro_rules | `(tactic| walk_at "x") => `(tactic| dsimp only [tSeq, tAsg, tRet, tDrop, tLst, tTup, tCons, tOp, tUn, tIfS])
/-- Orders(..): orders, or the error that is due -/
def spOInitO (K : PySem.W.Frag) (OC KC CR : Addr) : Sp := fun vs H Q E => spOInit K OC KC vs H Q E ∨ spOInitX K OC KC CR vs H Q E
structure OMkX (P : Program) (w : World) (K : PySem.W.Frag) (mg : Str → Option Value) (base : Heap) (OC KC CR : Addr) : Prop where
  ex : ∃ (f : Addr) (fd : FuncData) (ds : List Value), Mk K OC f ∧ FnOk P w K mg base (L2.CX P w) 4 f fd ["self", "kind", "rules"] (spOInitO K OC KC CR) ∧ Vals [] ds ∧ Binds K fd ["self", "kind", "rules"] ds
  g : mg "Orders" = some (.ref OC)
theorem pe_ordX {X : Cx} {OC KC CR : Addr} {E : XK} {j : Nat} {p pos : Pos} {e : Expr} {es : List Expr} {t : TA} (hx : Passes (L2.CX X.prog X.w) X E) (c : OMkX X.prog X.w X.K X.mg X.base OC KC CR) (hr : Room j X.A) (hk : 5 ≤ j) (hg : Gl X "Orders") (ha : PA X (e :: es) t)
    (he : starEach (e :: es) X.env = (false, eval e X.env) :: starEach es X.env := by rfl) (hpl : (backTo pos (starEach es X.env)).any (·.1) = false := by rfl) :
    PE X (.Call (.Name "Orders" p) (e :: es) [] pos) (tMake OC (spOInitO X.K OC KC CR) [] E t) := by
  obtain ⟨f, fd, ds, M, F, v, hb⟩ := c.ex
  exact pe_make M F (hr.mono hk) hg c.g hb v hx ha (by decide) he hpl
def spFreeX (K : PySem.W.Frag) (KC CR : Addr) : Sp := fun vs H Q E => ∃ (kv rv : V) (fs : List FD) (n : Nat) (cs : List CD) (d : Dt) (i : Nat), vs = [kv, rv] ∧ KdA K KC H kv fs n cs ∧ Sh K H rv d ∧ DueU cs d i ∧
  ∀ dd H', Same H H' → H dd = none → H' dd = some (.xd [("index", .int i)]) → E (.ref CR) (some dd) H'
def spGoodX (K : PySem.W.Frag) (KC CR : Addr) : Sp := fun vs H Q E => ∃ (kv rv nv : V) (fs : List FD) (n : Nat) (cs : List CD) (d : Dt) (i : Nat), vs = [kv, rv, nv] ∧ KdA K KC H kv fs n cs ∧ Sh K H rv d ∧ DueU cs d i ∧
  ∀ dd H', Same H H' → H dd = none → H' dd = some (.xd [("index", .int i)]) → E (.ref CR) (some dd) H'
theorem made_off {H : Hp} {x dx OC : Addr} (hx : H x = none) (hdx : H dx = none) : Same H (Off x (upd (upd H dx (.own x)) x (.ins OC dx []))) := fun b o hb => by
  have n1 : b ≠ x := fun e => by rw [e, hx] at hb; cases hb
  have n2 : b ≠ dx := fun e => by rw [e, hdx] at hb; cases hb
  rw [off_ne n1, upd_ne n1, upd_ne n2]
  exact hb
section
variable {P : Program} {w : World} {K : PySem.W.Frag} {mg : Str → Option Value} {base : Heap} {OC KC CR fh : Addr} {fdh : FuncData}
theorem ok_freestX {f : Addr} {fd : FuncData} (F : FunU K "freest" "freest" s_freest f fd) (T : Txt K mg) (c_OrdX : OMkX P w K mg base OC KC CR) (c_least_machine : Cal P w K mg base CX0 7 "least_machine" (spLeast P w K (ordT K OC KC))) : FnOk P w K mg base (L2.CX P w) 8 f fd ["kind", "rules"] (spFreeX K KC CR) := by
  refine F.okX sc_freest (fun vs H Q E h => ?_) (fun cdv A outer sh H vs Q E hr h => ?_)
  · obtain ⟨kv, rv, _, _, _, _, _, rfl, _⟩ := h
    rfl
  · obtain ⟨kv, rv, fs, n, cs, d, i, rfl, kd, s, due, hE⟩ := h
    refine ⟨_, (pss_one (ps_ret (pe_c c_least_machine hr (by first | decide | assumption) rfl (pa_cons (pe_ordX (passes_call (takes_of rfl rfl rfl rfl) (fun _ _ _ _ h => h)) c_OrdX hr (by decide) rfl (pa_cons (pv 0) (pa_cons (pv 1) pa_nil))) pa_nil)))), ?_⟩
    refine ⟨_, rfl, _, rfl, fun x dx hx hdx nd => .inr ?_⟩
    have S2 := made_off (OC := OC) hx hdx
    exact ⟨x, dx, kv, rv, fs, n, cs, d, i, rfl, upd_same, kd.keep S2, s.keep S2, due, fun dd H' e hdd hx' => hE dd H' (S2.trans (off_same.trans e)) (none_of (S2.trans off_same) hdd) hx'⟩
theorem ok_goodX {f : Addr} {fd : FuncData} (F : DefX K mg "is_good" s_is_good ["kind", "rules", "names"] f fd) (T : Txt K mg) (Cs : MCst mg) (c_OrdX : OMkX P w K mg base OC KC CR) (c_is_list : Cal P w K mg base CX0 1 "is_list" (spListX K)) (m_start : Met P w K mg base 1 OC "start" (spStart K (ordT K OC KC)) []) (m_place_behind : Met P w K mg base 4 OC "place_behind" (spPlB K OC KC) [])
    (H_has : FnOk P w K mg base CX0 1 fh fdh ["self", "x"] (spHas K KC) ∧ PySem.W.findIn K (.ref KC) "__contains__" = some (some (.ref fh)) ∧ PySem.W.isFn K (.ref fh) = true ∧ Binds K fdh ["self", "x"] []) : FnOk P w K mg base (L2.CX P w) 6 f fd ["kind", "rules", "names"] (spGoodX K KC CR) := by
  refine F.fn.okX sc_is_good (fun vs H Q E h => ?_) (fun cdv A outer sh H vs Q E hr h => ?_)
  · obtain ⟨kv, rv, nv, _, _, _, _, _, rfl, _⟩ := h
    rfl
  · obtain ⟨kv, rv, nv, fs, n, cs, d, i, rfl, kd, s, due, hE⟩ := h
    refine ⟨_, (pss_cons (ps_set (i := 3) sc_is_good.nd rfl (Or.inl rfl) (pe_ordX (passes_call (takes_of rfl rfl rfl rfl) (fun _ _ _ _ h => h)) c_OrdX hr (by decide) rfl (pa_cons (pv 0) (pa_cons (pv 1) pa_nil))))
(pss_cons (ps_if (pt_not (pt_val (pe_c c_is_list hr (by first | decide | assumption) rfl (pa_cons (pv 2) pa_nil))))
(pss_one (ps_ret pe_bl))
pss_nil)
(pss_cons (ps_set (i := 4) sc_is_good.nd rfl (Or.inl rfl) (pe_mt0 m_start hr (by decide) (pv 3)))
(pss_cons (ps_for PassesOwn.leaving rfl (pi_sqV (pv 2)) (pg_name (i := 5) sc_is_good.nd rfl (Or.inl rfl))
(pss_cons (ps_if (pt_cut (PW.pt (pw_or (pt_cmpR (op_eqI (K := K) rfl hr.units0) (pv 4) (pe_cst rfl Cs.DONE) (nomark _)) (pw_or1 (pt_cmpR (op_notInOwn H_has.1 H_has.2.1 H_has.2.2.1 H_has.2.2.2 (hr.mono (by decide))) (pv 5) (pv 0) (by rfl))))))
(pss_one (ps_ret pe_bl))
pss_nil)
(pss_cons (ps_set (i := 4) sc_is_good.nd rfl (Or.inl rfl) (pe_mt m_place_behind hr (by decide) (pv 3) (pa_cons (pv 4) (pa_cons (pv 5) pa_nil))))
(pss_one (ps_if (pt_cmpR op_isN (pv 4) pe_non (nomark _))
(pss_one (ps_ret pe_bl))
pss_nil)))))
(pss_one (ps_ret (pe_cmpR (op_eqI (K := K) rfl hr.units0) (pv 4) (pe_cst rfl Cs.DONE) (nomark _)))))))), ?_⟩
    refine ⟨_, rfl, _, rfl, fun x dx hx hdx nd => .inr ?_⟩
    have S2 := made_off (OC := OC) hx hdx
    exact ⟨x, dx, kv, rv, fs, n, cs, d, i, rfl, upd_same, kd.keep S2, s.keep S2, due, fun dd H' e hdd hx' => hE dd H' (S2.trans (off_same.trans e)) (none_of (S2.trans off_same) hdd) hx'⟩
end
end MK
set_option Elab.async false
set_option linter.all false
set_option autoImplicit false
set_option maxRecDepth 100000
set_option maxHeartbeats 4000000
namespace MK
open PySem PySem.Spec PyProof.Rows L2
open C8 (Met pe_mt pe_mt0 Mak pe_mk)
local macro_rules | `(tactic| walk_at "x") => `(tactic| dsimp only [tSeq, tAsg, tRet, tDrop, tLst, tTup, tCons, tOp, tUn, tIfS])
theorem sc_law : FnScope ["_law_script", "_law_state", "_law_turn", "_law_p", "_law_x", "_law_names", "_law_rules_here", "_law_a", "_law_b", "_law_odd", "_law_at", "_law_things", "_law_k", "_law_wrong", "_law_found", "_law_due", "_law_bare"] ["_law_script"] (defScope s_law) := ⟨rfl, rfl, rfl, by decide +kernel, rfl, by decide +kernel, by decide +kernel⟩
theorem PlanA.nt {K : PySem.W.Frag} {KC : Addr} {H : Hp} {v : V} {fs : List FD} {n : Nat} {cs : List CD} (h : PlanA K KC H v fs n cs) : PlanA K KC (Nt H) v fs n cs := by
  obtain ⟨p, l1, l2, kv, fvs, cvs, h0, h1, h2, h3, h4, h5, h6⟩ := h
  exact ⟨p, l1, l2, kv, fvs, cvs, h0, nt_of h1 nofun, nt_of h2 nofun, h3.mono fun _ _ h => Tu.nt h, nt_of h4 nofun, h5.mono fun _ _ h => CdL.nt h, h6.nt⟩
def lamQ : Str := (envOfC "law" (defScope s_law) 0 0 .none).qual ++ "<lambda>"
/-- the state of the draws, and the law's table of codes -/
def StP (H : Hp) (s c P : Addr) (ns : List Int) : Prop := StA H s c ns ∧ LamX.TabS H P lamQ
theorem StP.sx {H H' : Hp} {s c P : Addr} {ns : List Int} (h : StP H s c P ns) (e : SameX s H H') (h' : StA H' s c ns) : StP H' s c P ns := by
  obtain ⟨h1, h2⟩ := h
  obtain ⟨_, _, a, b, m, hs⟩ := h1
  exact ⟨h', tab_sx e hs h2⟩
theorem StP.keep {H H' : Hp} {s c P : Addr} {ns : List Int} (h : StP H s c P ns) (e : Same H H') : StP H' s c P ns := ⟨h.1.keep e, h.2.ext e⟩
theorem StP.ext {H H' : Hp} {s c P : Addr} {ns : List Int} (h : StP H s c P ns) (e : LamX.ExtN H H') (t : LamX.Tabs [(P, lamQ)] H') : StP H' s c P ns := by
  obtain ⟨⟨n, h1, a, b, m, h2⟩, _⟩ := h
  exact ⟨⟨n, e _ _ h1 nofun, a, b, m, e _ _ h2 nofun⟩, t _ List.mem_cons_self⟩
theorem StP.ns {H : Hp} {s c P : Addr} {ns : List Int} (h : StP H s c P ns) : H s ≠ none := by
  obtain ⟨_, _, a, b, m, hs⟩ := h.1
  rw [hs]
  exact nofun
theorem StP.tabs {H : Hp} {s c P : Addr} {ns : List Int} (h : StP H s c P ns) : LamX.Tabs [(P, lamQ)] H := fun q hq => by
  rw [List.mem_singleton.mp hq]
  exact h.2
theorem nx_new {s p : Addr} {H : Hp} {o : HO} (hp : H p = none) : Same (Nx s H) (Nx s (upd H p o)) := (same_sx (same_new (Same.refl H) hp)).nx
theorem nx_all {s : Addr} {H : Hp} : Same (Nx s H) H := nx_same.trans off_same
theorem sx_nx {s : Addr} {H H' : Hp} (e : Same H H') : Same (Nx s H) (Nx s H') := (same_sx e).nx
theorem nx_at {s p : Addr} {H : Hp} {o : HO} (h : H p = some o) (ps : p ≠ s) (n : ∀ ps, o ≠ .tbl ps) : Nx s H p = some o := nt_of ((off_ne ps).trans h) n
/-- the law's heap but for the list of what was found -/
theorem g_new {s L : Addr} {H : Hp} {o : HO} (h : H L = none) : Same (Nx s H) (Off L (Nx s (upd H L o))) := fun b u hb => by
  have n : b ≠ L := fun e => by
    rw [e] at hb
    have := off_same _ _ (nx_same _ _ hb)
    rw [h] at this
    cases this
  rw [off_ne n]
  exact nx_new h _ _ hb
theorem g_keep {s L : Addr} {H H' : Hp} (e : Same H H') : Same (Off L (Nx s H)) (Off L (Nx s H')) := same_off (sx_nx e)
theorem g_ext {s L : Addr} {H H' : Hp} (e : LamX.ExtN H H') : Same (Off L (Nx s H)) (Off L (Nx s H')) := same_off (ext_nx e)
theorem g_all {s L : Addr} {H : Hp} : Same (Off L (Nx s H)) H := off_same.trans nx_all
theorem g_app {s L : Addr} {H : Hp} {o : HO} : Same (Off L (Nx s H)) (Off L (Nx s (upd H L o))) := fun b u hb => by
  by_cases n : b = L
  · rw [n, off_s] at hb
    cases hb
  · rw [off_ne n] at hb ⊢
    obtain ⟨h, g⟩ := nt_get hb
    refine nt_of ?_ g
    by_cases m : b = s
    · rw [m, off_s] at h
      cases h
    · rw [off_ne m] at h ⊢
      rw [upd_ne n]
      exact h
theorem StP.app {H : Hp} {s c P L : Addr} {ns : List Int} {xs ys : List V} (h : StP H s c P ns) (n1 : L ≠ s) (n2 : L ≠ c) (h0 : H L = some (.lst xs)) : StP (upd H L (.lst ys)) s c P ns := by
  obtain ⟨⟨n, h1, a, b, m, h2⟩, ht⟩ := h
  obtain ⟨ps, t1, t2, t3⟩ := ht
  refine ⟨⟨n, (upd_ne (Ne.symm n2)).trans h1, a, b, m, (upd_ne (Ne.symm n1)).trans h2⟩, ps, (upd_ne fun e => ?_).trans t1, t2, fun pos cv hc => ?_⟩
  · rw [e, h0] at t1
    cases t1
  · obtain ⟨c', e', g⟩ := t3 pos cv hc
    refine ⟨c', e', (upd_ne fun e => ?_).trans g⟩
    rw [e, h0] at g
    cases g
theorem Sh.nt {K : PySem.W.Frag} {H : Hp} {v : V} {d : Dt} (h : Sh K H v d) : Sh K (Nt H) v d := by
  induction h with
  | non => exact .non
  | bl b => exact .bl b
  | int i => exact .int i
  | str z h => exact .str z h
  | lst ha l1 l2 _ ih => exact .lst (nt_of ha nofun) l1 l2 ih
  | tup ha l1 l2 _ ih => exact .tup (sqt_nt ha) l1 l2 ih
  | dic ha => exact .dic (nt_of ha nofun)
theorem LpC.of {K : PySem.W.Frag} {KC : Addr} {H : Hp} {v : V} {fs : List FD} {n : Nat} {cs : List CD} (h : PlanA K KC H v fs n cs) : LpC K H v cs := by
  obtain ⟨p, l1, l2, kv, fvs, cvs, rfl, h1, h2, h3, h4, h5, h6⟩ := h
  exact ⟨p, l2, cvs, _, rfl, h1, rfl, h4, h5⟩
theorem al_cons {α : Type} {R : V → α → Prop} {x : V} {y : α} {xs : List V} {ys : List α} (r : R x y) (h : Al R xs ys) : Al R (x :: xs) (y :: ys) := ⟨by rw [List.length_cons, List.length_cons, h.1], fun i a b h1 h2 => by
  cases i with
  | zero =>
    cases h1
    cases h2
    exact r
  | succ i => exact h.2 i a b h1 h2⟩
def OkV (K : PySem.W.Frag) (s : Addr) (H : Hp) (v : V) : Prop := ∃ d, Sh K (Nx s H) v d ∧ FlatHd d
theorem OkV.keep {K : PySem.W.Frag} {s : Addr} {H H' : Hp} {v : V} (e : Same (Nx s H) (Nx s H')) (h : OkV K s H v) : OkV K s H' v := let ⟨d, h, f⟩ := h; ⟨d, h.keep e, f⟩
theorem flat_hd {x : Dt} {xs : List Dt} {d : Dt} (e : sqD d = some (x :: xs)) (h : (∃ z, x = .str z) ∨ (∃ i, x = .int i) ∨ (∃ b, x = .bl b) ∨ x = .non) : FlatHd d := fun ys y hy => by
  rw [e] at hy
  cases hy
  exact h
theorem flat_none {d : Dt} (h : sqD d = none) : FlatHd d := fun ys y hy => by rw [h] at hy; cases hy
theorem flat_nil {d : Dt} (h : sqD d = some []) : FlatHd d := fun ys y hy => by rw [h] at hy; cases hy
theorem okv_t {K : PySem.W.Frag} {s p : Addr} {H : Hp} {vs : List V} {ds : List Dt} (hp : H p = none) (ps : p ≠ s) (al : Al (Sh K (Nx s H)) vs ds) (few : vs.length < 1000) (fh : FlatHd (.tup ds)) : OkV K s (upd H p (.tup vs)) (.ref p) :=
  ⟨.tup ds, .tup (SqT.of (nx_at upd_same ps nofun)) few al.1 (al.mono fun _ _ h => Sh.keep (nx_new hp) h).2, fh⟩
theorem okv_l {K : PySem.W.Frag} {s p : Addr} {H : Hp} {vs : List V} {ds : List Dt} (hp : H p = none) (ps : p ≠ s) (al : Al (Sh K (Nx s H)) vs ds) (few : vs.length < 1000) (fh : FlatHd (.lst ds)) : OkV K s (upd H p (.lst vs)) (.ref p) :=
  ⟨.lst ds, .lst (nx_at upd_same ps nofun) few al.1 (al.mono fun _ _ h => Sh.keep (nx_new hp) h).2, fh⟩
/-- a list of odd things -/
def OddL (K : PySem.W.Frag) (s : Addr) (H : Hp) (l : Addr) (n : Nat) : Prop := ∃ vs, Nx s H l = some (.lst vs) ∧ vs.length = n ∧ ∀ v ∈ vs, OkV K s H v
def badI (cs : List CD) (ds : List Dt) (n : Nat) : List Nat := (List.range n).filter fun k => !ruleD cs (ds.getD k .non)
theorem badI_succ (cs : List CD) (ds : List Dt) (n : Nat) : badI cs ds (n + 1) = if (!ruleD cs (ds.getD n .non)) = true then badI cs ds n ++ [n] else badI cs ds n := by
  unfold badI
  rw [List.range_succ, List.filter_append]
  by_cases h : (!ruleD cs (ds.getD n .non)) = true
  · rw [if_pos h, List.filter_cons_of_pos (p := fun k => !ruleD cs (ds.getD k .non)) h]
    rfl
  · rw [if_neg h, List.filter_cons_of_neg (p := fun k => !ruleD cs (ds.getD k .non)) h, List.filter_nil, List.append_nil]
theorem badI_len (cs : List CD) (ds : List Dt) (n : Nat) : (badI cs ds n).length ≤ n := by
  have := List.length_filter_le (fun k => !ruleD cs (ds.getD k .non)) (List.range n)
  rw [List.length_range] at this
  exact this
theorem badI_nil {cs : List CD} {ds : List Dt} (h : badI cs ds ds.length = []) : ∀ d ∈ ds, ruleD cs d = true := fun d hd => by
  obtain ⟨i, hi⟩ := List.mem_iff_getElem?.mp hd
  have := List.filter_eq_nil_iff.mp h i (List.mem_range.mpr (List.getElem?_eq_some_iff.mp hi).1)
  rw [List.getD_eq_getElem?_getD, hi] at this
  simpa using this
theorem range_first {f : Nat → Bool} : ∀ {n : Nat} {i : Nat} {l : List Nat}, (List.range n).filter f = i :: l → i < n ∧ f i = true ∧ ∀ j, j < i → f j = false
  | 0, _, _, h => by cases h
  | n + 1, i, l, h => by
    rw [List.range_succ, List.filter_append] at h
    cases q : (List.range n).filter f with
    | nil =>
      rw [q, List.nil_append] at h
      by_cases g : f n = true
      · rw [List.filter_cons_of_pos g] at h
        cases h
        refine ⟨Nat.lt_succ_self _, g, fun j hj => ?_⟩
        have := List.filter_eq_nil_iff.mp q j (List.mem_range.mpr hj)
        simpa using this
      · rw [List.filter_cons_of_neg g] at h
        cases h
    | cons x xs =>
      rw [q] at h
      cases h
      obtain ⟨a, b, c⟩ := range_first q
      exact ⟨Nat.lt_succ_of_lt a, b, c⟩
theorem badI_due {cs : List CD} {d : Dt} {ds : List Dt} {i : Nat} {l : List Nat} (e : sqD d = some ds) (few : ds.length ≤ 200) (fh : ∀ y ∈ ds, FlatHd y) (h : badI cs ds ds.length = i :: l) : DueU cs d i := by
  obtain ⟨a, b, c⟩ := range_first h
  refine .inr ⟨ds, ds[i], e, few, List.getElem?_eq_getElem a, ?_, fun j y hj hy => ?_, fh⟩
  · rw [List.getD_eq_getElem?_getD, List.getElem?_eq_getElem a] at b
    simpa using b
  · have := c j hj
    rw [List.getD_eq_getElem?_getD, hy] at this
    simpa using this
theorem cut_hi (vs : List V) (d : Nat) : cutV vs none (some (d : Nat)) = vs.take d := by
  unfold cutV
  have e : HT.sIx vs.length vs.length (some (d : Nat)) = min d vs.length := HT.sIx_nat _ _ d
  have e2 : HT.sIx vs.length 0 none = 0 := rfl
  rw [e, e2, List.drop_zero, Nat.sub_zero]
  rcases Nat.le_total d vs.length with h | h
  · rw [Nat.min_eq_left h]
  · rw [Nat.min_eq_right h, List.take_of_length_le (Nat.le_refl _), List.take_of_length_le h]
theorem cut_lo (vs : List V) (d : Nat) : cutV vs (some (d : Nat)) none = vs.drop d := by
  unfold cutV
  have e : HT.sIx vs.length 0 (some (d : Nat)) = min d vs.length := HT.sIx_nat _ _ d
  rw [e, HT.sIx_none]
  rcases Nat.le_total d vs.length with h | h
  · rw [Nat.min_eq_left h]
    exact List.take_of_length_le (by rw [List.length_drop]; omega)
  · rw [Nat.min_eq_right h, List.drop_of_length_le (Nat.le_refl _), List.drop_of_length_le h, List.take_nil]
theorem rule_dt {K : PySem.W.Frag} {H : Hp} {v : V} {zs : List Str} (h : RuT K H v zs) (l : zs.length < 1000) (sz : ∀ z ∈ zs, z.length ≤ sizeLine) : Sh K H v (.tup (zs.map Dt.str)) := by
  obtain ⟨a, rfl, h⟩ := h
  refine .tup h (by rw [List.length_map]; exact l) (by rw [List.length_map, List.length_map]) fun i x y h1 h2 => ?_
  rw [List.getElem?_map] at h1 h2
  obtain ⟨z, hz, rfl⟩ := Option.map_eq_some_iff.mp h1
  rw [hz] at h2
  cases h2
  exact .str _ (sz z (List.mem_of_getElem? hz))
theorem RlOk.sz {fs : List FD} {n : Nat} {cs : List CD} {zs : List Str} (ok : KdOk fs n cs) (h : RlOk cs zs) : zs.length < 1000 ∧ (∀ z ∈ zs, z.length ≤ sizeLine) ∧ ∃ z zs', zs = z :: zs' := by
  have nm : ∀ a ∈ cs.map (·.nm), a.length ≤ sizeLine := fun a ha => by
    obtain ⟨c, hc, rfl⟩ := List.mem_map.mp ha
    exact word_sz (ok.calls c hc).word
  rcases h with ⟨a, ha, rfl⟩ | ⟨t, a, b, ht, ha, hb, _, rfl⟩
  · refine ⟨by show 2 < 1000; decide, fun z hz => ?_, _, _, rfl⟩
    simp only [List.mem_cons, List.not_mem_nil, or_false] at hz
    rcases hz with rfl | rfl
    · decide
    · exact nm _ ha
  · refine ⟨by show 3 < 1000; decide, fun z hz => ?_, _, _, rfl⟩
    simp only [List.mem_cons, List.not_mem_nil, or_false] at hz
    rcases hz with rfl | rfl | rfl
    · rcases ht with rfl | rfl <;> decide
    · exact nm _ ha
    · exact nm _ hb
/-- how a call with these rules ends -/
def CaseR (bd : List Nat) (w y : V) : Prop := (bd = [] ∧ w = .str "told") ∨ ∃ i l, bd = i :: l ∧ w = .str "rule" ∧ y = .int (i : Nat)
theorem dp_nats {K : PySem.W.Frag} {H : Hp} : ∀ ks : List Nat, DpAll K H (ks.map fun k => V.int (k : Nat)) (ks.map fun k => PyData.int (k : Nat))
  | [] => .nil
  | k :: ks => .cons (.int _) (dp_nats ks)
theorem nats_shaped (ks : List Nat) : SeqAt.shaped (.list (ks.map fun k => PyData.int (k : Nat))) = true := by
  have e : (ks.map fun k => PyData.int (k : Nat)) = (ks.map fun k => Int.ofNat k).map PyData.int := by rw [List.map_map]; rfl
  have h1 := ints_lay (ks.map fun k => Int.ofNat k)
  have h2 := ints_depth (ks.map fun k => Int.ofNat k)
  rw [← e] at h1 h2
  unfold SeqAt.shaped
  rw [show PyData.canLay0 (.list (ks.map fun k => PyData.int (k : Nat))) = true by unfold PyData.canLay0; exact h1, decide_eq_true (by unfold PyData.depth; omega)]
  rfl
theorem ne_nats {K : PySem.W.Frag} {H : Hp} {a q : Addr} {ks : List Nat} {Q : VK} (ha : SqL K H a (ks.map fun k => V.int (k : Nat))) (hq : SqL K H q []) (h : Q (.bl (!decide (ks = []))) H) : rNeD K (.ref a) (.ref q) H Q := by
  refine ⟨_, .list [], .lst ha (dp_nats ks), .lst hq .nil, nats_shaped ks, rfl, ?_⟩
  have e : PyData.eqv (.list (ks.map fun k => PyData.int (k : Nat))) (.list []) = decide (ks = []) := by
    cases ks <;> (unfold PyData.eqv; rfl)
  rw [e]
  exact h
theorem sm_rule {K : PySem.W.Frag} {H : Hp} {p q : Addr} {w : Str} {i : Int} {m : Nat} (hp : H p = some (.tup [.str w, .int i])) (hq : H q = some (.tup [.str w, .int i])) : Sm K H (m + 2) (.ref p) (.ref q) := by
  refine .inr ⟨p, q, _, _, rfl, rfl, .inr ⟨SqT.of hp, SqT.of hq⟩, rfl, by show 2 < 100000; decide, fun i u v h1 h2 => ?_⟩
  rw [h1] at h2
  cases h2
  have m := List.mem_of_getElem? h1
  simp only [List.mem_cons, List.not_mem_nil, or_false] at m
  rcases m with rfl | rfl
  · exact .inl (.inl ⟨rfl, .inr (.inr (.inr ⟨_, rfl⟩))⟩)
  · exact .inl (.inl ⟨rfl, .inr (.inr (.inl ⟨_, rfl⟩))⟩)
section
variable {P : Program} {w : World} {K : PySem.W.Frag} {mg : Str → Option Value} {base : Heap} {C : Cst} {KC g fe cl Pl : Addr} {fdt fde : FuncData} {A : EB}
theorem run_law {f : Addr} (T : Txt K mg) (W : ErrN K mg A) (c_fresh : Cal P w K mg base CX0 1 "_law_fresh" (spFresh K)) (c_kind : Cal P w K mg base CX0 9 "_law_kind" (spLawKind K KC)) (c_one : Cal P w K mg base CX0 3 "_law_one" (spOne K)) (c_take : Cal P w K mg base CX0 2 "_law_take" spTake) (c_same : Cal P w K mg base CX0 4 "_law_same" (spSame K 3))
    (c_rules : Cal P w K mg base CX0 4 "_law_rules" (spLRules K)) (c_l_is_rule : Cal P w K mg base CX0 1 "_law_is_rule" (spLIsR K)) (c_free : Cal P w K mg base (L2.CX P w) 8 "freest" (fun vs H Q E => spFree K KC vs H Q E ∨ spFreeX K KC A.BadRule vs H Q E)) (c_good : Cal P w K mg base (L2.CX P w) 6 "is_good" (fun vs H Q E => spGood K KC vs H Q E ∨ spGoodX K KC A.BadRule vs H Q E))
    (F_tried : DefX K mg "_law_tried" s_tried ["_law_deed"] g fdt) (F_err : FnP P w K mg base 2 fe fde ["_law_e"] (spErrW A)) (H_err : mg "_law_error" = some (.ref fe) ∧ PySem.W.keepIn K (.ref fe) = true ∧ Binds K fde ["_law_e"] []) (TB : LamX.TabB base mg cl Pl)
    {Ar : Around} {outer : List Env} {sh : Shared} {H : Hp} {Q : VK} {E : XK} (hr : Room 12 (Ar.deeper (envOfC "law" (defScope s_law) sh.heap.objs.size f (.ref cl)))) {a : Addr} {ns : List Int} (hS : SqL K H a (ns.map V.int)) (hn : ns.length ≤ 63) (hP : H Pl = some (.tbl #[])) (k : ∀ H', Q (.bl true) H') :
    ∃ t, PSs (cxOf CX0 P w K mg base ["_law_script", "_law_state", "_law_turn", "_law_p", "_law_x", "_law_names", "_law_rules_here", "_law_a", "_law_b", "_law_odd", "_law_at", "_law_things", "_law_k", "_law_wrong", "_law_found", "_law_due", "_law_bare"] "law" (defScope s_law) f (.ref cl) Ar outer sh H E).nox (defBody s_law) t ∧ t { nx := fun _ H' => Q .non H', rt := Q } (start ["_law_script", "_law_state", "_law_turn", "_law_p", "_law_x", "_law_names", "_law_rules_here", "_law_a", "_law_b", "_law_odd", "_law_at", "_law_things", "_law_k", "_law_wrong", "_law_found", "_law_due", "_law_bare"] [.ref a]) H := by
  refine ⟨_, (pss_cons (ps_set (i := 1) sc_law.nd rfl (Or.inl rfl) (pe_c c_fresh hr (by first | decide | assumption) rfl (pa_cons (pv 0) pa_nil)))
(pss_cons (ps_for PassesOwn.never rfl (pi_range1 (by rfl) T.range (pa_cons pe_int pa_nil)) (pg_name (i := 2) sc_law.nd rfl (Or.inl rfl))
(pss_cons (ps_set (i := 3) sc_law.nd rfl (Or.inr rfl) (pe_c c_kind hr (by first | decide | assumption) rfl (pa_cons (pv 1) (pa_cons pe_int (pa_cons pe_int (pa_cons pe_int pa_nil))))))
(pss_cons (ps_asg (pe_tup (pa_cons (pe_lc (own := [("_law_x", 4)]) (g := (gName 4)) (tt := tYes) rfl sc_law.nd (pi_list (pe_dget (hu_of hr) (pv 3) pe_str (fun _ _ => rfl))) (blkOk_by (own := [("_law_x", 4)]) (N := ["_law_script", "_law_state", "_law_turn", "_law_p", "_law_x", "_law_names", "_law_rules_here", "_law_a", "_law_b", "_law_odd", "_law_at", "_law_things", "_law_k", "_law_wrong", "_law_found", "_law_due", "_law_bare"]) (sc := defScope s_law) (by decide +kernel)) (fun _ _ _ _ _ => (pg_name (i := 4) sc_law.nd rfl (Or.inl rfl))) (fun _ _ _ _ _ => pts_nil) (fun _ _ _ _ _ => (pe_ix (ix_tupK (K := K) rfl) (pv 4) pe_int (fun _ _ => rfl)))) (pa_cons (pe_c c_rules hr (by first | decide | assumption) rfl (pa_cons (pv 1) (pa_cons (pv 3) pa_nil))) pa_nil))) (pg_tup (by rfl) (pgs_cons (pg_name (i := 5) sc_law.nd rfl (Or.inr rfl)) (pgs_cons (pg_name (i := 6) sc_law.nd rfl (Or.inl rfl)) pgs_nil))))
(pss_cons (ps_par (i := 7) (j := 8) (by rfl) sc_law.nd rfl rfl (by decide) rfl rfl (pa_cons (pe_c c_one hr (by first | decide | assumption) rfl (pa_cons (pv 1) (pa_cons (pv 5) pa_nil))) (pa_cons (pe_c c_one hr (by first | decide | assumption) rfl (pa_cons (pv 1) (pa_cons (pv 5) pa_nil))) pa_nil)) (by rfl))
(pss_cut (ps_set (i := 9) sc_law.nd rfl (Or.inl rfl) (pe_lst (pa_cons pe_non (pa_cons pe_int (pa_cons pe_str (pa_cons (pe_tup pa_nil) (pa_cons (pe_tup (pa_cons pe_str pa_nil)) (pa_cons (pe_tup (pa_cons pe_str (pa_cons (pv 7) pa_nil))) (pa_cons (pe_tup (pa_cons pe_str (pa_cons pe_str pa_nil))) (pa_cons (pe_tup (pa_cons pe_str (pa_cons (pv 7) (pa_cons (pv 8) pa_nil)))) (pa_cons (pe_tup (pa_cons pe_str (pa_cons (pv 7) pa_nil))) pa_nil)))))))))))
(pss_cut (ps_set (i := 9) sc_law.nd rfl (Or.inl rfl) (pe_op op_cat (pv 9) (pe_lst (pa_cons (pe_tup (pa_cons pe_str (pa_cons (pv 7) (pa_cons (pv 8) pa_nil)))) (pa_cons (pe_tup (pa_cons pe_str (pa_cons (pv 7) (pa_cons (pv 8) pa_nil)))) (pa_cons (pe_tup (pa_cons pe_str (pa_cons (pv 7) (pa_cons (pv 8) (pa_cons (pv 7) pa_nil))))) (pa_cons pe_dnewK (pa_cons (pe_tup (pa_cons pe_str (pa_cons (pv 7) (pa_cons pe_non pa_nil)))) (pa_cons (pe_tup (pa_cons pe_int (pa_cons (pv 7) pa_nil))) pa_nil)))))))))
(pss_cut (ps_set (i := 9) sc_law.nd rfl (Or.inl rfl) (pe_op op_cat (pv 9) (pe_lst (pa_cons (pe_lst (pa_cons pe_str (pa_cons (pv 7) (pa_cons (pv 8) pa_nil)))) (pa_cons (pe_tup (pa_cons pe_str (pa_cons (pe_lst (pa_cons (pv 7) pa_nil)) (pa_cons (pv 8) pa_nil)))) pa_nil)))))
(pss_cons (ps_set (i := 10) sc_law.nd rfl (Or.inl rfl) (pe_c c_take hr (by first | decide | assumption) rfl (pa_cons (pv 1) (pa_cons (pe_op op_add (pe_callB call_len_seq (by rfl) T.len (by decide +kernel) (pa_cons (pv 6) pa_nil)) pe_int) pa_nil))))
(pss_cut (ps_set (i := 11) sc_law.nd rfl (Or.inr rfl) (pe_op op_cat (pe_op op_cat (pe_slice sl_list (pv 6) po_none (po_some (pv 10))) (pe_lst (pa_cons (pe_c c_one hr (by first | decide | assumption) rfl (pa_cons (pv 1) (pa_cons (pv 9) pa_nil))) pa_nil))) (pe_slice sl_list (pv 6) (po_some (pv 10)) po_none)))
(pss_cut (ps_setLc (i := 13) (own := [("_law_k", 12), ("_law_x", 4)]) (g := (gTup K 2 (gCons (gName 12) (gCons (gName 4) gNil)))) rfl sc_law.nd rfl rfl (sw_true rfl rfl rfl (by decide +kernel)) (pi_enum (by rfl) T.enumerate (pa_cons (pv 11) pa_nil)) (blkOk_by (own := [("_law_k", 12), ("_law_x", 4)]) (N := ["_law_script", "_law_state", "_law_turn", "_law_p", "_law_x", "_law_names", "_law_rules_here", "_law_a", "_law_b", "_law_odd", "_law_at", "_law_things", "_law_k", "_law_wrong", "_law_found", "_law_due", "_law_bare"]) (sc := defScope s_law) (by decide +kernel)) (fun _ _ _ _ _ => (pg_tup (by rfl) (pgs_cons (pg_name (i := 12) sc_law.nd rfl (Or.inl rfl)) (pgs_cons (pg_name (i := 4) sc_law.nd rfl (Or.inl rfl)) pgs_nil)))) (fun _ _ _ _ _ => (pts_one (pt_not (pt_val (pe_c c_l_is_rule hr (by first | decide | assumption) rfl (pa_cons (pv 3) (pa_cons (pv 4) pa_nil))))))) (fun _ _ _ _ _ => (pv 12)))
(pss_cut (ps_set (i := 14) sc_law.nd rfl (Or.inl rfl) (pe_lst (pa_cons (pe_tried (k := 8) F_tried F_err W H_err TB rfl (hr.mono (by decide)) (show LamX.LamS (defScope s_law) _ from LamX.lamS_by (by decide +kernel)) rfl (fun _ _ _ _ _ => rfl) (fun A2 outer2 s2 H2 E2 f2 c2 hr2 => pe_cut <| pe_cX (passes_call (takes_of rfl rfl rfl rfl) (fun _ _ _ _ h => h)) c_free hr2 (by decide) (by rfl) (pa_cons (pe_dget (hu_of hr2) (pv 3) pe_str (fun _ _ => rfl)) (pa_cons (pv 11) pa_nil)))) pa_nil)))
(pss_cut (ps_expr (pe_bm PySem.F.plainAttrs_list PySem.F.slot_list_append PySem.F.type_list_append mt_append (pv 14) (pa_cons (pe_tried (k := 8) F_tried F_err W H_err TB rfl (hr.mono (by decide)) (show LamX.LamS (defScope s_law) _ from LamX.lamS_by (by decide +kernel)) rfl (fun _ _ _ _ _ => rfl) (fun A2 outer2 s2 H2 E2 f2 c2 hr2 => pe_cut <| pe_cX (passes_call (takes_of rfl rfl rfl rfl) (fun _ _ _ _ h => h)) c_good hr2 (by decide) (by rfl) (pa_cons (pe_dget (hu_of hr2) (pv 3) pe_str (fun _ _ => rfl)) (pa_cons (pv 11) (pa_cons (pv 5) pa_nil))))) pa_nil)))
(pss_cut (ps_set (i := 15) sc_law.nd rfl (Or.inl rfl) (pe_cut (pe_ifExp (pt_cmpR (op_neD hr.units) (pv 13) (pe_lst pa_nil) (nomark _)) (pe_tup (pa_cons pe_str (pa_cons (pe_ix ix_list (pv 13) pe_int (fun _ _ => rfl)) pa_nil))) pe_non)))
(pss_cut (ps_for PassesOwn.never rfl (pi_list (pv 14)) (pg_name (i := 4) sc_law.nd rfl (Or.inl rfl))
(pss_one (ps_if (pt_cut (PW.pt (pw_or (pt_cmpR op_ne (pe_cmpR op_eq (pe_ix ix_tup (pv 4) pe_int (fun _ _ => rfl)) pe_str (nomark _)) (pe_cmpR op_isN (pv 15) pe_non (nomark _)) (nomark _)) (pw_or1 (pt_cut (PW.pt (pw_and (pt_cmpR op_notN (pv 15) pe_non (nomark _)) (pw_and1 (pt_not (pt_val (pe_c c_same hr (by first | decide | assumption) rfl (pa_cons (pv 4) (pa_cons (pv 15) pa_nil)))))))))))))
(pss_one (ps_ret pe_bl))
pss_nil)))
(pss_cons (ps_set (i := 16) sc_law.nd rfl (Or.inr rfl) (pe_c c_one hr (by first | decide | assumption) rfl (pa_cons (pv 1) (pa_cons (pe_lst (pa_cons pe_non (pa_cons pe_int (pa_cons pe_str (pa_cons pe_dnewK pa_nil))))) pa_nil))))
(pss_cut (ps_set (i := 14) sc_law.nd rfl (Or.inl rfl) (pe_lst (pa_cons (pe_tried (k := 8) F_tried F_err W H_err TB rfl (hr.mono (by decide)) (show LamX.LamS (defScope s_law) _ from LamX.lamS_by (by decide +kernel)) rfl (fun _ _ _ _ _ => rfl) (fun A2 outer2 s2 H2 E2 f2 c2 hr2 => pe_cut <| pe_cX (passes_call (takes_of rfl rfl rfl rfl) (fun _ _ _ _ h => h)) c_free hr2 (by decide) (by rfl) (pa_cons (pe_dget (hu_of hr2) (pv 3) pe_str (fun _ _ => rfl)) (pa_cons (pv 16) pa_nil)))) pa_nil)))
(pss_cut (ps_expr (pe_bm PySem.F.plainAttrs_list PySem.F.slot_list_append PySem.F.type_list_append mt_append (pv 14) (pa_cons (pe_tried (k := 8) F_tried F_err W H_err TB rfl (hr.mono (by decide)) (show LamX.LamS (defScope s_law) _ from LamX.lamS_by (by decide +kernel)) rfl (fun _ _ _ _ _ => rfl) (fun A2 outer2 s2 H2 E2 f2 c2 hr2 => pe_cut <| pe_cX (passes_call (takes_of rfl rfl rfl rfl) (fun _ _ _ _ h => h)) c_good hr2 (by decide) (by rfl) (pa_cons (pe_dget (hu_of hr2) (pv 3) pe_str (fun _ _ => rfl)) (pa_cons (pv 16) (pa_cons pe_non pa_nil))))) pa_nil)))
(pss_one (ps_if (pt_not (pt_val (pe_c c_same hr (by first | decide | assumption) rfl (pa_cons (pv 14) (pa_cons (pe_lst (pa_cons (pe_tup (pa_cons pe_str (pa_cons pe_int pa_nil))) (pa_cons (pe_tup (pa_cons pe_str (pa_cons pe_int pa_nil))) pa_nil))) pa_nil)))))
(pss_one (ps_ret pe_bl))
pss_nil)))))))))))))))))))
(pss_one (ps_ret pe_bl)))), ?_⟩
  refine ⟨_, rfl, a, ns, rfl, hS, hn, fun s c H0 e0 hs0 hc0 hS0 => ?_⟩
  have hP0 : StP H0 s c Pl ns := ⟨hS0, LamX.TabS.nil (e0 _ _ hP)⟩
  refine ⟨8, rfl, by decide, by decide, for_range (n := 8) (fun i σ H2 => StP H2 s c Pl ns ∧ ∃ x2 x3 x4 x5 x6 x7 x8 x9 x10 x11 x12 x13 x14 x15 x16, σ = [some (.ref a), some (.ref s), x2, x3, x4, x5, x6, x7, x8, x9, x10, x11, x12, x13, x14, x15, x16]) ⟨hP0, _, _, _, _, _, _, _, _, _, _, _, _, _, _, _, rfl⟩ ?_ ?_⟩
  · rintro i σ H2 hi ⟨h1, x2, x3, x4, x5, x6, x7, x8, x9, x10, x11, x12, x13, x14, x15, x16, rfl⟩
    refine ⟨_, rfl, s, c, ns, 1, 4, 1, rfl, h1.1, hn, by decide, by decide, by decide, by decide, by decide, by decide, fun pq H3 fs n cs e3 hS3 ok hfl hfn hnf hnm hlast pl => ?_⟩
    have h3 := h1.sx e3 hS3
    have pln := pl.nt
    have pC := LpC.of pln
    obtain ⟨p, l1, l2, kv, fvs, cvs, rfl, pl1, pl2, pl3, pl4, pl5, kd⟩ := id pln
    have c0 := ok.cpos
    have c6 := ok.cle
    have lcs : cvs.length = cs.length := pl5.1
    have hpd : DGet H3 p (.str "calls") (some (.ref l2)) := DGet.k (k := .inr "calls") (nx_all _ _ pl1)
    refine ⟨_, rfl, p, .ref l2, rfl, hpd, l2, rfl, ⟨cvs, SqL.of (nx_all _ _ pl4)⟩, fun la hla => ?_⟩
    refine lc_valS (walk_list (K := K) (a := l2) (xs := cvs)) (ys := cs.map fun c => V.str c.nm) (by rw [List.length_map, lcs]) (by omega) hla (fun H' e => SqL.of (e _ _ (nx_all _ _ pl4))) (fun i x y H2 H3' R hi hy e hY k => ?_) fun H4 e4 la4 => ?_
    · obtain ⟨rfl, hx⟩ := hY
      obtain ⟨c, hc, mv, dv, sv, ds, ⟨ca, rfl, c1⟩, _⟩ := pl5.get hx
      rw [List.getElem?_map, hc] at hy
      cases hy
      exact ⟨rfl, _, rfl, ca, _, 0, .str c.nm, rfl, rfl, same_t (nx_all.trans e) c1, rfl, k _ (Same.refl _)⟩
    have h4 := h3.keep e4
    have las := (h3.1.ne hla).1
    have N4 : Same (Nx s H3) (Nx s H4) := sx_nx e4
    have nla4 : Nx s H4 la = some (.lst (cs.map fun c => V.str c.nm)) := nx_at la4 las nofun
    refine ⟨_, rfl, _, rfl, s, c, ns, .ref p, fs, n, cs, rfl, h4.1, hn, (pC.keep N4).keep nx_same, ok, fun H5 ra rvs rs e5 h5' ra0 hra al rok rl => ?_⟩
    have h5 := h4.sx e5 h5'
    have N45 := e5.nx
    refine ⟨by show 2 ≤ sizeLine; decide, fun t5 ht5 => ?_⟩
    have e6 := same_new (Same.refl H5) ht5 (o := .tup [.ref la, .ref ra])
    refine ⟨t5, _, rfl, SqT.of upd_same, rfl, _, _, rfl, _, _, rfl, rfl, ?_⟩
    have h6 := h5.keep e6
    have N6 := N4.trans (N45.trans (sx_nx e6))
    have nla6 := (N45.trans (sx_nx e6)) _ _ nla4
    have ras : ra ≠ s := fun e => by rw [e, off_s] at hra; cases hra
    have nra6 : Nx s (upd H5 t5 (.tup [.ref la, .ref ra])) ra = some (.lst rvs) := (sx_nx e6) _ _ (nt_of hra nofun)
    have al6 : Al (RuT K (Nx s (upd H5 t5 (.tup [.ref la, .ref ra])))) rvs rs := al.mono fun _ _ h => (Tu.nt h).keep (sx_nx e6)
    generalize upd H5 t5 (.tup [.ref la, .ref ra]) = H6 at h6 N6 nla6 nra6 al6
    -- two names
    have nl : (cs.map fun c => V.str c.nm).length = cs.length := List.length_map ..
    refine ⟨_, rfl, _, rfl, s, c, la, ns, _, rfl, h6.1, hn, las, .inl (SqL.of (nx_all _ _ nla6)), by omega, by omega, fun d1 v1 H7 hd1 e7 h7' => ?_⟩
    have h7 := h6.sx e7 h7'
    refine ⟨_, rfl, _, rfl, s, c, la, ns, _, rfl, h7.1, hn, las, .inl (SqL.of (nx_all _ _ (e7.nx _ _ nla6))), by omega, by omega, fun d2 v2 H8 hd2 e8 h8' => ?_⟩
    have h8 := h7.sx e8 h8'
    have N68 := e7.nx.trans e8.nx
    rw [List.getElem?_map] at hd1 hd2
    obtain ⟨c1, hc1, rfl⟩ := Option.map_eq_some_iff.mp hd1
    obtain ⟨c2, hc2, rfl⟩ := Option.map_eq_some_iff.mp hd2
    have m1 : c1.nm ∈ cs.map (·.nm) := List.mem_map_of_mem (List.mem_of_getElem? hc1)
    have m2 : c2.nm ∈ cs.map (·.nm) := List.mem_map_of_mem (List.mem_of_getElem? hc2)
    have z1 : c1.nm.length ≤ sizeLine := word_sz (ok.calls c1 (List.mem_of_getElem? hc1)).word
    have z2 : c2.nm.length ≤ sizeLine := word_sz (ok.calls c2 (List.mem_of_getElem? hc2)).word
    have N8 := N6.trans N68
    have nla8 := N68 _ _ nla6
    have nra8 := N68 _ _ nra6
    have al8 : Al (RuT K (Nx s H8)) rvs rs := al6.mono fun _ _ h => h.keep N68
    generalize c1.nm = nA at m1 z1
    generalize c2.nm = nB at m2 z2
    refine ⟨_, _, rfl, ?_⟩
    clear N6 h6 h7 N68 nla6 nra6 al6
    have c1z : ("once" : Str).length ≤ sizeLine := by decide
    refine ⟨fun σ' H' => StP H' s c Pl ns ∧ Same (Nx s H8) (Nx s H') ∧ ∃ lo, σ' = [some (.ref a), some (.ref s), some (.int (0 + (i : Int))), some (.ref p), x4, some (.ref la), some (.ref ra), some (.str nA), some (.str nB), some (.ref lo), x10, x11, x12, x13, x14, x15, x16] ∧ OddL K s H' lo 9, ?_, ?_⟩
    · skip
      refine ⟨by show 0 ≤ sizeLine; decide, fun p1 qp1 => ?_⟩
      have ep1 := same_new (Same.refl H8) qp1 (o := .tup [])
      have op1 : OkV K s (upd H8 p1 (.tup [])) (.ref p1) := okv_t (ds := []) qp1 (h8.1.ne qp1).1 Al.nil (by show 0 < 1000; decide) (flat_nil rfl)
      have gp1 := h8.keep ep1
      generalize upd H8 p1 (.tup []) = Bp1 at ep1 gp1 op1 ⊢
      refine ⟨by show 1 ≤ sizeLine; decide, fun p2 qp2 => ?_⟩
      have ep2 := same_new (Same.refl Bp1) qp2 (o := .tup [.str "once"])
      have op2 : OkV K s (upd Bp1 p2 (.tup [.str "once"])) (.ref p2) := okv_t (ds := [.str "once"]) qp2 (gp1.1.ne qp2).1 (al_cons (.str _ (by decide)) Al.nil) (by show 1 < 1000; decide) (flat_hd rfl (.inl ⟨_, rfl⟩))
      have op1 := op1.keep (sx_nx ep2)
      have gp2 := gp1.keep ep2
      generalize upd Bp1 p2 (.tup [.str "once"]) = Bp2 at ep2 gp2 op1 op2 ⊢
      refine ⟨_, rfl, by show 2 ≤ sizeLine; decide, fun p3 qp3 => ?_⟩
      have ep3 := same_new (Same.refl Bp2) qp3 (o := .tup [.str "once", .str nA])
      have op3 : OkV K s (upd Bp2 p3 (.tup [.str "once", .str nA])) (.ref p3) := okv_t (ds := [.str "once", .str nA]) qp3 (gp2.1.ne qp3).1 (al_cons (.str _ (by decide)) (al_cons (.str _ z1) Al.nil)) (by show 2 < 1000; decide) (flat_hd rfl (.inl ⟨_, rfl⟩))
      have op1 := op1.keep (sx_nx ep3)
      have op2 := op2.keep (sx_nx ep3)
      have gp3 := gp2.keep ep3
      generalize upd Bp2 p3 (.tup [.str "once", .str nA]) = Bp3 at ep3 gp3 op1 op2 op3 ⊢
      refine ⟨by show 2 ≤ sizeLine; decide, fun p4 qp4 => ?_⟩
      have ep4 := same_new (Same.refl Bp3) qp4 (o := .tup [.str "once", .str "zz"])
      have op4 : OkV K s (upd Bp3 p4 (.tup [.str "once", .str "zz"])) (.ref p4) := okv_t (ds := [.str "once", .str "zz"]) qp4 (gp3.1.ne qp4).1 (al_cons (.str _ (by decide)) (al_cons (.str _ (by decide)) Al.nil)) (by show 2 < 1000; decide) (flat_hd rfl (.inl ⟨_, rfl⟩))
      have op1 := op1.keep (sx_nx ep4)
      have op2 := op2.keep (sx_nx ep4)
      have op3 := op3.keep (sx_nx ep4)
      have gp4 := gp3.keep ep4
      generalize upd Bp3 p4 (.tup [.str "once", .str "zz"]) = Bp4 at ep4 gp4 op1 op2 op3 op4 ⊢
      refine ⟨_, rfl, _, rfl, by show 3 ≤ sizeLine; decide, fun p5 qp5 => ?_⟩
      have ep5 := same_new (Same.refl Bp4) qp5 (o := .tup [.str "ahead", .str nA, .str nB])
      have op5 : OkV K s (upd Bp4 p5 (.tup [.str "ahead", .str nA, .str nB])) (.ref p5) := okv_t (ds := [.str "ahead", .str nA, .str nB]) qp5 (gp4.1.ne qp5).1 (al_cons (.str _ (by decide)) (al_cons (.str _ z1) (al_cons (.str _ z2) Al.nil))) (by show 3 < 1000; decide) (flat_hd rfl (.inl ⟨_, rfl⟩))
      have op1 := op1.keep (sx_nx ep5)
      have op2 := op2.keep (sx_nx ep5)
      have op3 := op3.keep (sx_nx ep5)
      have op4 := op4.keep (sx_nx ep5)
      have gp5 := gp4.keep ep5
      generalize upd Bp4 p5 (.tup [.str "ahead", .str nA, .str nB]) = Bp5 at ep5 gp5 op1 op2 op3 op4 op5 ⊢
      refine ⟨_, rfl, by show 2 ≤ sizeLine; decide, fun p6 qp6 => ?_⟩
      have ep6 := same_new (Same.refl Bp5) qp6 (o := .tup [.str "bar", .str nA])
      have op6 : OkV K s (upd Bp5 p6 (.tup [.str "bar", .str nA])) (.ref p6) := okv_t (ds := [.str "bar", .str nA]) qp6 (gp5.1.ne qp6).1 (al_cons (.str _ (by decide)) (al_cons (.str _ z1) Al.nil)) (by show 2 < 1000; decide) (flat_hd rfl (.inl ⟨_, rfl⟩))
      have op1 := op1.keep (sx_nx ep6)
      have op2 := op2.keep (sx_nx ep6)
      have op3 := op3.keep (sx_nx ep6)
      have op4 := op4.keep (sx_nx ep6)
      have op5 := op5.keep (sx_nx ep6)
      have gp6 := gp5.keep ep6
      generalize upd Bp5 p6 (.tup [.str "bar", .str nA]) = Bp6 at ep6 gp6 op1 op2 op3 op4 op5 op6 ⊢
      refine ⟨by show 9 ≤ sizeLine; decide, fun lo ql => ?_⟩
      have el := same_new (Same.refl Bp6) ql (o := .lst [.non, .int 5, .str "once", .ref p1, .ref p2, .ref p3, .ref p4, .ref p5, .ref p6])
      refine ⟨gp6.keep el, ((((((sx_nx ep1).trans (sx_nx ep2)).trans (sx_nx ep3)).trans (sx_nx ep4)).trans (sx_nx ep5)).trans (sx_nx ep6)).trans (sx_nx el), lo, rfl, [.non, .int 5, .str "once", .ref p1, .ref p2, .ref p3, .ref p4, .ref p5, .ref p6], nx_at upd_same (gp6.1.ne ql).1 nofun, rfl, fun v hv => ?_⟩
      simp only [List.mem_cons, List.not_mem_nil, or_false] at hv
      rcases hv with rfl | rfl | rfl | rfl | rfl | rfl | rfl | rfl | rfl
      · exact ⟨.non, .non, flat_none rfl⟩
      · exact ⟨.int _, .int _, flat_none rfl⟩
      · exact ⟨.str _, .str _ (by decide), flat_none rfl⟩
      · exact op1.keep (sx_nx el)
      · exact op2.keep (sx_nx el)
      · exact op3.keep (sx_nx el)
      · exact op4.keep (sx_nx el)
      · exact op5.keep (sx_nx el)
      · exact op6.keep (sx_nx el)
    rintro σ' H9 ⟨h9, N89, lo, rfl, ODD⟩
    refine ⟨fun σ' H' => StP H' s c Pl ns ∧ Same (Nx s H9) (Nx s H') ∧ ∃ lo, σ' = [some (.ref a), some (.ref s), some (.int (0 + (i : Int))), some (.ref p), x4, some (.ref la), some (.ref ra), some (.str nA), some (.str nB), some (.ref lo), x10, x11, x12, x13, x14, x15, x16] ∧ OddL K s H' lo 15, ?_, ?_⟩
    · skip
      refine ⟨_, rfl, _, rfl, _, rfl, by show 3 ≤ sizeLine; decide, fun p7 qp7 => ?_⟩
      have ep7 := same_new (Same.refl H9) qp7 (o := .tup [.str "once", .str nA, .str nB])
      have op7 : OkV K s (upd H9 p7 (.tup [.str "once", .str nA, .str nB])) (.ref p7) := okv_t (ds := [.str "once", .str nA, .str nB]) qp7 (h9.1.ne qp7).1 (al_cons (.str _ (by decide)) (al_cons (.str _ z1) (al_cons (.str _ z2) Al.nil))) (by show 3 < 1000; decide) (flat_hd rfl (.inl ⟨_, rfl⟩))
      have gp7 := h9.keep ep7
      generalize upd H9 p7 (.tup [.str "once", .str nA, .str nB]) = Bp7 at ep7 gp7 op7 ⊢
      refine ⟨_, rfl, _, rfl, by show 3 ≤ sizeLine; decide, fun p8 qp8 => ?_⟩
      have ep8 := same_new (Same.refl Bp7) qp8 (o := .tup [.str "other", .str nA, .str nB])
      have op8 : OkV K s (upd Bp7 p8 (.tup [.str "other", .str nA, .str nB])) (.ref p8) := okv_t (ds := [.str "other", .str nA, .str nB]) qp8 (gp7.1.ne qp8).1 (al_cons (.str _ (by decide)) (al_cons (.str _ z1) (al_cons (.str _ z2) Al.nil))) (by show 3 < 1000; decide) (flat_hd rfl (.inl ⟨_, rfl⟩))
      have op7 := op7.keep (sx_nx ep8)
      have gp8 := gp7.keep ep8
      generalize upd Bp7 p8 (.tup [.str "other", .str nA, .str nB]) = Bp8 at ep8 gp8 op7 op8 ⊢
      refine ⟨_, rfl, _, rfl, _, rfl, by show 4 ≤ sizeLine; decide, fun p9 qp9 => ?_⟩
      have ep9 := same_new (Same.refl Bp8) qp9 (o := .tup [.str "ahead", .str nA, .str nB, .str nA])
      have op9 : OkV K s (upd Bp8 p9 (.tup [.str "ahead", .str nA, .str nB, .str nA])) (.ref p9) := okv_t (ds := [.str "ahead", .str nA, .str nB, .str nA]) qp9 (gp8.1.ne qp9).1 (al_cons (.str _ (by decide)) (al_cons (.str _ z1) (al_cons (.str _ z2) (al_cons (.str _ z1) Al.nil)))) (by show 4 < 1000; decide) (flat_hd rfl (.inl ⟨_, rfl⟩))
      have op7 := op7.keep (sx_nx ep9)
      have op8 := op8.keep (sx_nx ep9)
      have gp9 := gp8.keep ep9
      generalize upd Bp8 p9 (.tup [.str "ahead", .str nA, .str nB, .str nA]) = Bp9 at ep9 gp9 op7 op8 op9 ⊢
      refine fun p10 qp10 => ?_
      have ep10 := same_new (Same.refl Bp9) qp10 (o := .dK [])
      have op10 : OkV K s (upd Bp9 p10 (.dK [])) (.ref p10) := ⟨.dic, .dic (nx_at upd_same (gp9.1.ne qp10).1 nofun), flat_none rfl⟩
      have op7 := op7.keep (sx_nx ep10)
      have op8 := op8.keep (sx_nx ep10)
      have op9 := op9.keep (sx_nx ep10)
      have gp10 := gp9.keep ep10
      generalize upd Bp9 p10 (.dK []) = Bp10 at ep10 gp10 op7 op8 op9 op10 ⊢
      refine ⟨_, rfl, by show 3 ≤ sizeLine; decide, fun p11 qp11 => ?_⟩
      have ep11 := same_new (Same.refl Bp10) qp11 (o := .tup [.str "bar", .str nA, .non])
      have op11 : OkV K s (upd Bp10 p11 (.tup [.str "bar", .str nA, .non])) (.ref p11) := okv_t (ds := [.str "bar", .str nA, .non]) qp11 (gp10.1.ne qp11).1 (al_cons (.str _ (by decide)) (al_cons (.str _ z1) (al_cons .non Al.nil))) (by show 3 < 1000; decide) (flat_hd rfl (.inl ⟨_, rfl⟩))
      have op7 := op7.keep (sx_nx ep11)
      have op8 := op8.keep (sx_nx ep11)
      have op9 := op9.keep (sx_nx ep11)
      have op10 := op10.keep (sx_nx ep11)
      have gp11 := gp10.keep ep11
      generalize upd Bp10 p11 (.tup [.str "bar", .str nA, .non]) = Bp11 at ep11 gp11 op7 op8 op9 op10 op11 ⊢
      refine ⟨_, rfl, by show 2 ≤ sizeLine; decide, fun p12 qp12 => ?_⟩
      have ep12 := same_new (Same.refl Bp11) qp12 (o := .tup [.int 5, .str nA])
      have op12 : OkV K s (upd Bp11 p12 (.tup [.int 5, .str nA])) (.ref p12) := okv_t (ds := [.int 5, .str nA]) qp12 (gp11.1.ne qp12).1 (al_cons (.int _) (al_cons (.str _ z1) Al.nil)) (by show 2 < 1000; decide) (flat_hd rfl (.inr (.inl ⟨_, rfl⟩)))
      have op7 := op7.keep (sx_nx ep12)
      have op8 := op8.keep (sx_nx ep12)
      have op9 := op9.keep (sx_nx ep12)
      have op10 := op10.keep (sx_nx ep12)
      have op11 := op11.keep (sx_nx ep12)
      have gp12 := gp11.keep ep12
      generalize upd Bp11 p12 (.tup [.int 5, .str nA]) = Bp12 at ep12 gp12 op7 op8 op9 op10 op11 op12 ⊢
      refine ⟨by show 6 ≤ sizeLine; decide, fun l2q ql => ?_⟩
      have el := same_new (Same.refl Bp12) ql (o := .lst [.ref p7, .ref p8, .ref p9, .ref p10, .ref p11, .ref p12])
      have gl := gp12.keep el
      obtain ⟨ovs, olo, oln, oall⟩ := ODD
      refine ⟨lo, l2q, _, _, rfl, rfl, nx_all _ _ ((((((((sx_nx ep7).trans (sx_nx ep8)).trans (sx_nx ep9)).trans (sx_nx ep10)).trans (sx_nx ep11)).trans (sx_nx ep12)).trans (sx_nx el)) _ _ olo), upd_same, ?_, fun l3 q3 => ?_⟩
      · rw [oln]
        show 9 + 6 ≤ sizeLine
        decide
      have e3 := same_new (Same.refl _) q3 (o := .lst (ovs ++ [.ref p7, .ref p8, .ref p9, .ref p10, .ref p11, .ref p12]))
      refine ⟨gl.keep e3, ((((((sx_nx ep7).trans (sx_nx ep8)).trans (sx_nx ep9)).trans (sx_nx ep10)).trans (sx_nx ep11)).trans (sx_nx ep12)).trans (sx_nx (el.trans e3)), l3, rfl, ovs ++ [.ref p7, .ref p8, .ref p9, .ref p10, .ref p11, .ref p12], nx_at upd_same (gl.1.ne q3).1 nofun, by rw [List.length_append, oln]; rfl, fun v hv => ?_⟩
      rcases List.mem_append.mp hv with hv | hv
      · exact (oall v hv).keep (((((((sx_nx ep7).trans (sx_nx ep8)).trans (sx_nx ep9)).trans (sx_nx ep10)).trans (sx_nx ep11)).trans (sx_nx ep12)).trans (sx_nx (el.trans e3)))
      simp only [List.mem_cons, List.not_mem_nil, or_false] at hv
      rcases hv with rfl | rfl | rfl | rfl | rfl | rfl
      · exact op7.keep (sx_nx (el.trans e3))
      · exact op8.keep (sx_nx (el.trans e3))
      · exact op9.keep (sx_nx (el.trans e3))
      · exact op10.keep (sx_nx (el.trans e3))
      · exact op11.keep (sx_nx (el.trans e3))
      · exact op12.keep (sx_nx (el.trans e3))
    clear ODD lo
    rintro σ' H10 ⟨h10, N910, lo, rfl, ODD⟩
    refine ⟨fun σ' H' => StP H' s c Pl ns ∧ Same (Nx s H10) (Nx s H') ∧ ∃ lo, σ' = [some (.ref a), some (.ref s), some (.int (0 + (i : Int))), some (.ref p), x4, some (.ref la), some (.ref ra), some (.str nA), some (.str nB), some (.ref lo), x10, x11, x12, x13, x14, x15, x16] ∧ OddL K s H' lo 17, ?_, ?_⟩
    · skip
      refine ⟨_, rfl, _, rfl, _, rfl, by show 3 ≤ sizeLine; decide, fun p13 qp13 => ?_⟩
      have ep13 := same_new (Same.refl H10) qp13 (o := .lst [.str "bar", .str nA, .str nB])
      have op13 : OkV K s (upd H10 p13 (.lst [.str "bar", .str nA, .str nB])) (.ref p13) := okv_l (ds := [.str "bar", .str nA, .str nB]) qp13 (h10.1.ne qp13).1 (al_cons (.str _ (by decide)) (al_cons (.str _ z1) (al_cons (.str _ z2) Al.nil))) (by show 3 < 1000; decide) (flat_hd rfl (.inl ⟨_, rfl⟩))
      have gp13 := h10.keep ep13
      generalize upd H10 p13 (.lst [.str "bar", .str nA, .str nB]) = Bp13 at ep13 gp13 op13 ⊢
      refine ⟨_, rfl, by show 1 ≤ sizeLine; decide, fun p15 qp15 => ?_⟩
      have ep15 := same_new (Same.refl Bp13) qp15 (o := .lst [.str nA])
      have op13 := op13.keep (sx_nx ep15)
      have sh_p15 : Sh K (Nx s (upd Bp13 p15 (.lst [.str nA]))) (.ref p15) (.lst [.str nA]) := .lst (nx_at upd_same (gp13.1.ne qp15).1 nofun) (by show 1 < 1000; decide) rfl (al_cons (.str _ z1) Al.nil).2
      have gp15 := gp13.keep ep15
      generalize upd Bp13 p15 (.lst [.str nA]) = Bp15 at ep15 gp15 op13 sh_p15 ⊢
      refine ⟨_, rfl, by show 3 ≤ sizeLine; decide, fun p14 qp14 => ?_⟩
      have ep14 := same_new (Same.refl Bp15) qp14 (o := .tup [.str "ahead", .ref p15, .str nB])
      have op14 : OkV K s (upd Bp15 p14 (.tup [.str "ahead", .ref p15, .str nB])) (.ref p14) := okv_t (ds := [.str "ahead", .lst [.str nA], .str nB]) qp14 (gp15.1.ne qp14).1 (al_cons (.str _ (by decide)) (al_cons sh_p15 (al_cons (.str _ z2) Al.nil))) (by show 3 < 1000; decide) (flat_hd rfl (.inl ⟨_, rfl⟩))
      have op13 := op13.keep (sx_nx ep14)
      have gp14 := gp15.keep ep14
      generalize upd Bp15 p14 (.tup [.str "ahead", .ref p15, .str nB]) = Bp14 at ep14 gp14 op13 op14 ⊢
      refine ⟨by show 2 ≤ sizeLine; decide, fun l2q ql => ?_⟩
      have el := same_new (Same.refl Bp14) ql (o := .lst [.ref p13, .ref p14])
      have gl := gp14.keep el
      obtain ⟨ovs, olo, oln, oall⟩ := ODD
      refine ⟨lo, l2q, _, _, rfl, rfl, nx_all _ _ (((((sx_nx ep13).trans (sx_nx ep15)).trans (sx_nx ep14)).trans (sx_nx el)) _ _ olo), upd_same, ?_, fun l3 q3 => ?_⟩
      · rw [oln]
        show 15 + 2 ≤ sizeLine
        decide
      have e3 := same_new (Same.refl _) q3 (o := .lst (ovs ++ [.ref p13, .ref p14]))
      refine ⟨gl.keep e3, (((sx_nx ep13).trans (sx_nx ep15)).trans (sx_nx ep14)).trans (sx_nx (el.trans e3)), l3, rfl, ovs ++ [.ref p13, .ref p14], nx_at upd_same (gl.1.ne q3).1 nofun, by rw [List.length_append, oln]; rfl, fun v hv => ?_⟩
      rcases List.mem_append.mp hv with hv | hv
      · exact (oall v hv).keep ((((sx_nx ep13).trans (sx_nx ep15)).trans (sx_nx ep14)).trans (sx_nx (el.trans e3)))
      simp only [List.mem_cons, List.not_mem_nil, or_false] at hv
      rcases hv with rfl | rfl
      · exact op13.keep (sx_nx (el.trans e3))
      · exact op14.keep (sx_nx (el.trans e3))
    clear ODD lo
    rintro σ' H11 ⟨h11, N1011, lo, rfl, ODD⟩
    have N811 := N89.trans (N910.trans N1011)
    have N11 := N8.trans N811
    have nla11 := N811 _ _ nla8
    have nra11 := N811 _ _ nra8
    have al11 : Al (RuT K (Nx s H11)) rvs rs := al8.mono fun _ _ h => h.keep N811
    have lrv : rvs.length = rs.length := al.1
    clear N89 N910 N1011 N811 nla8 nra8 al8 h8 h9 h10 N8 h4 h5 N4 N45 nla4
    -- where
    refine ⟨_, rfl, _, rfl, ra, rvs, rfl, .inl (SqL.of (nx_all _ _ nra11)), ?_⟩
    refine ⟨_, _, rfl, rfl, s, c, ns, ((rvs.length : Nat) : Int) + 1, rfl, h11.1, hn, by omega, by omega, fun d H12 hd e12 h12' => ?_⟩
    have h12 := h11.sx e12 h12'
    have N12 := N11.trans e12.nx
    have nla12 := e12.nx _ _ nla11
    have nra12 := e12.nx _ _ nra11
    have al12 : Al (RuT K (Nx s H12)) rvs rs := al11.mono fun _ _ h => h.keep e12.nx
    obtain ⟨ovs, olo, oln, oall⟩ := ODD
    have olo := e12.nx _ _ olo
    have oall : ∀ v ∈ ovs, OkV K s H12 v := fun v hv => (oall v hv).keep e12.nx
    clear N11 h11 nla11 nra11 al11
    refine ⟨fun σ' H' => StP H' s c Pl ns ∧ Same (Nx s H12) (Nx s H') ∧ ∃ T tvs ds, σ' = [some (.ref a), some (.ref s), some (.int (0 + (i : Int))), some (.ref p), x4, some (.ref la), some (.ref ra), some (.str nA), some (.str nB), some (.ref lo), some (.int (d : Nat)), some (.ref T), x12, x13, x14, x15, x16] ∧ Nx s H' T = some (.lst tvs) ∧ Al (Sh K (Nx s H')) tvs ds ∧ (∀ y ∈ ds, FlatHd y) ∧ tvs.length ≤ 4, ?_, ?_⟩
    · refine ⟨_, rfl, _, rfl, _, rfl, ra, rvs, rfl, SqL.of (nx_all _ _ nra12), fun t1 q1 => ?_⟩
      rw [cut_hi]
      have e1 := same_new (Same.refl H12) q1 (o := .lst (rvs.take d))
      have g1 := h12.keep e1
      have lt1 : upd H12 t1 (.lst (rvs.take d)) t1 = some (.lst (rvs.take d)) := upd_same
      have olo1 := (sx_nx e1) _ _ olo
      generalize upd H12 t1 (.lst (rvs.take d)) = B1 at e1 g1 lt1 olo1 ⊢
      have los : lo ≠ s := fun e => by
        have := nx_same _ _ olo
        rw [e, off_s] at this
        cases this
      have t1s : t1 ≠ s := (h12.1.ne q1).1
      refine ⟨_, rfl, _, rfl, s, c, lo, ns, ovs, rfl, g1.1, hn, los, .inl (SqL.of (nx_all _ _ olo1)), by omega, by omega, fun d3 ov B2 hd3 e2 g2' => ?_⟩
      have g2 := g1.sx e2 g2'
      obtain ⟨od, sod, fod⟩ := (oall ov (List.mem_of_getElem? hd3)).keep ((sx_nx e1).trans e2.nx)
      have lt2 := e2 _ _ lt1 t1s
      refine ⟨by show 1 ≤ sizeLine; decide, fun t2 q2 => ?_⟩
      have e3 := same_new (Same.refl B2) q2 (o := .lst [ov])
      have g3 := g2.keep e3
      have lrs : rvs.length ≤ 3 := by omega
      refine ⟨t1, t2, _, _, rfl, rfl, e3 _ _ lt2, upd_same, ?_, fun t3 q3 => ?_⟩
      · have := List.length_take_le d rvs
        refine Nat.le_trans (show (rvs.take d).length + 1 ≤ 1000 by rw [List.length_take]; omega) (by decide)
      have e4 := same_new (Same.refl _) q3 (o := .lst (rvs.take d ++ [ov]))
      have g4 := g3.keep e4
      have lt4 : upd (upd B2 t2 (.lst [ov])) t3 (.lst (rvs.take d ++ [ov])) t3 = some (.lst (rvs.take d ++ [ov])) := upd_same
      have N4 := ((sx_nx e1).trans e2.nx).trans ((sx_nx e3).trans (sx_nx e4))
      generalize upd (upd B2 t2 (.lst [ov])) t3 (.lst (rvs.take d ++ [ov])) = B4 at g4 lt4 N4 e4 ⊢
      refine ⟨_, rfl, _, rfl, _, rfl, ra, rvs, rfl, SqL.of (nx_all _ _ (N4 _ _ nra12)), fun t5 q5 => ?_⟩
      rw [cut_lo]
      have e5 := same_new (Same.refl B4) q5 (o := .lst (rvs.drop d))
      have g5 := g4.keep e5
      refine ⟨t3, t5, _, _, rfl, rfl, e5 _ _ lt4, upd_same, ?_, fun t6 q6 => ?_⟩
      · refine Nat.le_trans (show (rvs.take d ++ [ov]).length + (rvs.drop d).length ≤ 1000 by rw [List.length_append, List.length_take, List.length_drop, List.length_singleton]; omega) (by decide)
      have e6 := same_new (Same.refl _) q6 (o := .lst (rvs.take d ++ [ov] ++ rvs.drop d))
      have N6 := N4.trans ((sx_nx e5).trans (sx_nx e6))
      refine ⟨g5.keep e6, N6, t6, _, ((rs.map fun zs => Dt.tup (zs.map Dt.str)).take d) ++ [od] ++ ((rs.map fun zs => Dt.tup (zs.map Dt.str)).drop d), rfl, nx_at upd_same (g5.1.ne q6).1 nofun, ?_, ?_, ?_⟩
      · have ald : Al (Sh K (Nx s _)) rvs (rs.map fun zs => Dt.tup (zs.map Dt.str)) := ⟨by rw [List.length_map, lrv], fun i x y h1 h2 => by
          rw [List.getElem?_map] at h2
          obtain ⟨zs, hz, rfl⟩ := Option.map_eq_some_iff.mp h2
          obtain ⟨l1, sz, _⟩ := (rok zs (List.mem_of_getElem? hz)).sz ok
          exact (rule_dt (al12.2 i x zs h1 hz) l1 sz).keep N6⟩
        exact ((ald.take d).append (al_cons (sod.keep ((sx_nx e3).trans ((sx_nx e4).trans ((sx_nx e5).trans (sx_nx e6))))) Al.nil)).append (ald.drop d)
      · have fr : ∀ y ∈ (rs.map fun zs => Dt.tup (zs.map Dt.str)), FlatHd y := fun y hy => by
          obtain ⟨zs, hz, rfl⟩ := List.mem_map.mp hy
          obtain ⟨_, _, z, zs', rfl⟩ := (rok zs hz).sz ok
          exact flat_hd rfl (.inl ⟨_, rfl⟩)
        intro y hy
        rcases List.mem_append.mp hy with hy | hy
        · rcases List.mem_append.mp hy with hy | hy
          · exact fr y (List.mem_of_mem_take hy)
          · rw [List.mem_singleton.mp hy]
            exact fod
        · exact fr y (List.mem_of_mem_drop hy)
      · rw [List.length_append, List.length_append, List.length_take, List.length_drop, List.length_singleton]
        omega
    rintro σ' H13 ⟨h13, N1213, T, tvs, ds, rfl, nT13, alT13, fT, lT⟩
    have N13 := N12.trans N1213
    have nla13 := N1213 _ _ nla12
    have lds : tvs.length = ds.length := alT13.1
    -- which are wrong
    refine ⟨fun σ' H' => StP H' s c Pl ns ∧ Same (Nx s H13) (Nx s H') ∧ ∃ wa, σ' = [some (.ref a), some (.ref s), some (.int (0 + (i : Int))), some (.ref p), x4, some (.ref la), some (.ref ra), some (.str nA), some (.str nB), some (.ref lo), some (.int (d : Nat)), some (.ref T), x12, some (.ref wa), x14, x15, x16] ∧ Nx s H' wa = some (.lst ((badI cs ds ds.length).map fun k => V.int (k : Nat))), ?_, ?_⟩
    · refine ⟨_, rfl, T, tvs, rfl, SqL.of (nx_all _ _ nT13), fun D hD => ?_⟩
      refine lc_it (walk_enum (K := K) (a := T) (xs := tvs)) (fun i Hi => Same H13 Hi ∧ Hi D = some (.lst ((badI cs ds i).map fun k => V.int (k : Nat)))) ⟨same_new (Same.refl H13) hD, upd_same⟩ (fun i Hi _ h => SqL.of (h.1 _ _ (nx_all _ _ nT13))) ?_ ?_
      · rintro j v H2 H3 hj ⟨e2, d2⟩ ⟨U, y1, y2, rfl, hU, rfl, g1, hv⟩
        obtain rfl := Option.some.inj g1
        obtain ⟨dd, hd, sd⟩ := alT13.get hv
        have e3 := same_new (Same.refl H2) hU (o := .tup [.int (j : Nat), y2])
        have e03 := e2.trans e3
        have d3 := e3 _ _ d2
        refine ⟨U, _, rfl, SqT.of upd_same, rfl, _, _, rfl, _, _, rfl, rfl, rfl, ?_⟩
        generalize upd H2 U (.tup [.int (j : Nat), y2]) = H4 at e03 d3
        have gd : ds.getD j .non = dd := by rw [List.getD_eq_getElem?_getD, hd]; rfl
        refine ⟨_, rfl, _, rfl, .ref p, y2, fs, n, cs, dd, rfl, (pC.keep (N13.trans nx_all)).keep e03, ok, (sd.keep nx_all).keep e03, fun H5 e5 => ⟨_, rfl, ite2 (fun g => ?_) (fun g => ?_)⟩⟩
        · refine ⟨_, rfl, _, e5 _ _ d3, ?_, fun c o hc => ?_, ?_⟩
          · have := badI_len cs ds j
            rw [List.length_map, sizeLine_eq]
            omega
          · rw [upd_ne (ne_of_none hc hD)]
            exact (e03.trans e5) _ _ hc
          · rw [upd_same, badI_succ, gd, if_pos g, List.map_append]
            rfl
        · refine ⟨e03.trans e5, ?_⟩
          rw [badI_succ, gd, if_neg g]
          exact e5 _ _ d3
      · rintro H2 ⟨e2, d2⟩
        rw [lds] at d2
        exact ⟨h13.keep e2, sx_nx e2, D, rfl, nx_at d2 (h13.1.ne hD).1 nofun⟩
    rintro σ' H14 ⟨h14, N1314, wa, rfl, nwa14⟩
    have N14 := N13.trans N1314
    have nla14 := N1314 _ _ nla13
    have nT14 := N1314 _ _ nT13
    have alT14 : Al (Sh K (Nx s H14)) tvs ds := alT13.mono fun _ _ h => h.keep N1314
    clear N12 h12 N1213 N13 h13 nla12 nla13 nT13 alT13 N1314 nra12 al12 olo oall
    have lT2 : ds.length ≤ 4 := by omega
    -- freest, with them
    have dgk : ∀ {H2 : Hp}, Same (Nx s H3) H2 → DGet H2 p (.str "known") (some kv) := fun e => DGet.k (k := .inr "known") (e _ _ pl1)
    have cs4 : cs.length ≤ 4 := by
      obtain ⟨j, hj, e⟩ := hnm
      have := congrArg List.length e
      rw [List.length_map, List.length_append, List.length_take, List.length_singleton] at this
      omega
    have odk : badI cs ds ds.length = [] → ODOk ⟨fs, n, cs, ds.map ruOf⟩ ∧ ∀ d ∈ ds, ruleD cs d = true ∧ FlatHd d := fun hb => by
      refine ⟨⟨ok, ?_, by show (ds.map ruOf).length ≤ 10; rw [List.length_map]; omega⟩, fun d hd => ⟨badI_nil hb d hd, fT d hd⟩⟩
      have lc : (countL cs (ds.map ruOf)).length ≤ 4 := by
        have := List.length_filter_le (fun z => decide (z ∈ (ds.map ruOf).map (·.a))) (cs.map (·.nm))
        rw [List.length_map] at this
        exact Nat.le_trans this cs4
      have p1 : 2 ^ fs.length ≤ 2 ^ 1 := Nat.pow_le_pow_right (by decide) hfl
      have p2 : 2 ^ (countL cs (ds.map ruOf)).length ≤ 2 ^ 4 := Nat.pow_le_pow_right (by decide) lc
      exact Nat.le_trans (Nat.mul_le_mul hnf (Nat.mul_le_mul p1 p2)) (by decide)
    generalize hbd : badI cs ds ds.length = bd at nwa14 odk
    refine ⟨fun σ' H' => ∃ fl t1 w1 y1, StP H' s c Pl ns ∧ Same (Nx s H14) (Off fl (Nx s H')) ∧ σ' = [some (.ref a), some (.ref s), some (.int (0 + (i : Int))), some (.ref p), x4, some (.ref la), some (.ref ra), some (.str nA), some (.str nB), some (.ref lo), some (.int (d : Nat)), some (.ref T), x12, some (.ref wa), some (.ref fl), x15, x16] ∧ H' fl = some (.lst [.ref t1]) ∧ fl ≠ s ∧ fl ≠ c ∧ Off fl (Nx s H') t1 = some (.tup [w1, y1]) ∧ CaseR bd w1 y1, ⟨h14.tabs, fun H15 eN tb => ?_⟩, ?_⟩
    · have h15 := h14.ext eN tb
      have N15 := ext_nx (s := s) eN
      have tail : ∀ (H16 : Hp) (t1 : Addr) (w1 y1 : V), StP H16 s c Pl ns → Same (Nx s H15) (Nx s H16) → H16 t1 = none → CaseR bd w1 y1 → ∀ fl, upd H16 t1 (.tup [w1, y1]) fl = none → ∃ fl' t1' w1' y1', StP (upd (upd H16 t1 (.tup [w1, y1])) fl (.lst [.ref t1])) s c Pl ns ∧ Same (Nx s H14) (Off fl' (Nx s (upd (upd H16 t1 (.tup [w1, y1])) fl (.lst [.ref t1])))) ∧ [some (V.ref a), some (.ref s), some (.int (0 + (i : Int))), some (.ref p), x4, some (.ref la), some (.ref ra), some (.str nA), some (.str nB), some (.ref lo), some (.int (d : Nat)), some (.ref T), x12, some (.ref wa), some (.ref fl), x15, x16] = [some (V.ref a), some (.ref s), some (.int (0 + (i : Int))), some (.ref p), x4, some (.ref la), some (.ref ra), some (.str nA), some (.str nB), some (.ref lo), some (.int (d : Nat)), some (.ref T), x12, some (.ref wa), some (.ref fl'), x15, x16] ∧ upd (upd H16 t1 (.tup [w1, y1])) fl (.lst [.ref t1]) fl' = some (.lst [.ref t1']) ∧ fl' ≠ s ∧ fl' ≠ c ∧ Off fl' (Nx s (upd (upd H16 t1 (.tup [w1, y1])) fl (.lst [.ref t1]))) t1' = some (.tup [w1', y1']) ∧ CaseR bd w1' y1' := fun H16 t1 w1 y1 h16 N16 ht1 hc fl hfl' => by
        have e1 := same_new (Same.refl H16) ht1 (o := .tup [w1, y1])
        have g1 := h16.keep e1
        have at1 : upd H16 t1 (.tup [w1, y1]) t1 = some (.tup [w1, y1]) := upd_same
        have n1 : t1 ≠ fl := fun e => by rw [← e, at1] at hfl'; cases hfl'
        have e2 := same_new (Same.refl _) hfl' (o := .lst [.ref t1])
        refine ⟨fl, t1, w1, y1, g1.keep e2, (N15.trans (N16.trans (sx_nx e1))).trans (g_new hfl'), rfl, upd_same, (g1.1.ne hfl').1, (g1.1.ne hfl').2, ?_, hc⟩
        rw [off_ne n1]
        exact nx_at (e2 _ _ at1) (h16.1.ne ht1).1 nofun
      refine ⟨fun v H' => StP H' s c Pl ns ∧ Same (Nx s H15) (Nx s H') ∧ bd = [], ?_, ?_⟩
      · refine ⟨_, rfl, p, kv, rfl, dgk ((N14.trans N15).trans nx_all), _, rfl, ?_⟩
        have sT : Sh K H15 (.ref T) (.lst ds) := .lst (nx_all _ _ (N15 _ _ nT14)) (by omega) lds (alT14.mono fun _ _ h => Sh.keep (N15.trans nx_all) h).2
        have kd15 := kd.keep ((N14.trans N15).trans nx_all)
        cases hb : bd with
        | nil =>
          obtain ⟨od, good⟩ := odk hb
          exact .inl ⟨kv, .ref T, fs, n, cs, .lst ds, ds, rfl, kd15, od, sT, rfl, by omega, good, fun H' r m e hr' _ _ => ⟨h15.keep e, sx_nx e, rfl⟩⟩
        | cons i0 l =>
          rw [hb] at hbd tail
          exact .inr ⟨kv, .ref T, fs, n, cs, .lst ds, i0, rfl, kd15, sT, badI_due rfl (by omega) fT hbd, fun dd H' e hdd hx' => ⟨rfl, fun ae hae => ⟨rfl, rfl, rfl, dd, .int (i0 : Nat), rfl, hx', fun t7 ht7 => ⟨by show 1 ≤ sizeLine; decide, fun fl hfl => tail H' t7 _ _ (h15.keep e) (sx_nx e) ht7 (.inr ⟨i0, l, rfl, rfl, rfl⟩) fl hfl⟩⟩⟩⟩
      · rintro v H16 ⟨h16, N16, hb⟩
        exact ⟨by show 2 ≤ sizeLine; decide, fun t7 ht7 => ⟨by show 1 ≤ sizeLine; decide, fun fl hfl => tail H16 t7 _ _ h16 N16 ht7 (.inl ⟨hb, rfl⟩) fl hfl⟩⟩
    rintro σ' H15 ⟨fl, t1, w1, y1, h15, M15, rfl, vfl, fls, flc, vt1, case1⟩
    -- is_good, with them
    refine ⟨fun σ' H' => ∃ t2 w2 y2, StP H' s c Pl ns ∧ Same (Off fl (Nx s H15)) (Off fl (Nx s H')) ∧ σ' = [some (.ref a), some (.ref s), some (.int (0 + (i : Int))), some (.ref p), x4, some (.ref la), some (.ref ra), some (.str nA), some (.str nB), some (.ref lo), some (.int (d : Nat)), some (.ref T), x12, some (.ref wa), some (.ref fl), x15, x16] ∧ H' fl = some (.lst [.ref t1, .ref t2]) ∧ Off fl (Nx s H') t2 = some (.tup [w2, y2]) ∧ CaseR bd w2 y2, ⟨_, rfl, .inl ⟨rfl, _, SqL.of vfl⟩, h15.tabs, fun H16 eN tb => ?_⟩, ?_⟩
    · have h16 := h15.ext eN tb
      have N16 : Same (Off fl (Nx s H15)) (Off fl (Nx s H16)) := g_ext eN
      have vfl16 : H16 fl = some (.lst [.ref t1]) := eN _ _ vfl nofun
      have M16 := (M15.trans N16).trans g_all
      have tail : ∀ (H17 : Hp) (t2 : Addr) (w2 y2 : V), StP H17 s c Pl ns → Same H16 H17 → H17 t2 = none → CaseR bd w2 y2 → upd H17 t2 (.tup [w2, y2]) fl = some (.lst [.ref t1]) ∧ ∃ t2' w2' y2', StP (upd (upd H17 t2 (.tup [w2, y2])) fl (.lst ([.ref t1] ++ [.ref t2]))) s c Pl ns ∧ Same (Off fl (Nx s H15)) (Off fl (Nx s (upd (upd H17 t2 (.tup [w2, y2])) fl (.lst ([.ref t1] ++ [.ref t2]))))) ∧ [some (V.ref a), some (.ref s), some (.int (0 + (i : Int))), some (.ref p), x4, some (.ref la), some (.ref ra), some (.str nA), some (.str nB), some (.ref lo), some (.int (d : Nat)), some (.ref T), x12, some (.ref wa), some (.ref fl), x15, x16] = [some (V.ref a), some (.ref s), some (.int (0 + (i : Int))), some (.ref p), x4, some (.ref la), some (.ref ra), some (.str nA), some (.str nB), some (.ref lo), some (.int (d : Nat)), some (.ref T), x12, some (.ref wa), some (.ref fl), x15, x16] ∧ upd (upd H17 t2 (.tup [w2, y2])) fl (.lst ([.ref t1] ++ [.ref t2])) fl = some (.lst [.ref t1, .ref t2']) ∧ Off fl (Nx s (upd (upd H17 t2 (.tup [w2, y2])) fl (.lst ([.ref t1] ++ [.ref t2])))) t2' = some (.tup [w2', y2']) ∧ CaseR bd w2' y2' := fun H17 t2 w2 y2 h17 e17 ht2 hc => by
        have e1 := same_new (Same.refl H17) ht2 (o := .tup [w2, y2])
        have v17 := (e17.trans e1) _ _ vfl16
        have at2 : upd H17 t2 (.tup [w2, y2]) t2 = some (.tup [w2, y2]) := upd_same
        have n2 : t2 ≠ fl := fun e => by rw [e, e17 _ _ vfl16] at ht2; cases ht2
        have M17 : Same (Off fl (Nx s H16)) (Off fl (Nx s (upd (upd H17 t2 (.tup [w2, y2])) fl (.lst ([.ref t1] ++ [.ref t2]))))) := (g_keep (e17.trans e1)).trans g_app
        refine ⟨v17, t2, w2, y2, (h17.keep e1).app fls flc v17, N16.trans M17, rfl, upd_same, ?_, hc⟩
        refine g_app _ _ ?_
        rw [off_ne n2]
        exact nx_at at2 (h17.1.ne ht2).1 nofun
      refine ⟨fun v H' => StP H' s c Pl ns ∧ Same H16 H' ∧ bd = [], ?_, ?_⟩
      · refine ⟨_, rfl, p, kv, rfl, dgk (N14.trans M16), _, rfl, _, rfl, ?_⟩
        have sT : Sh K H16 (.ref T) (.lst ds) := .lst (M16 _ _ nT14) (by omega) lds (alT14.mono fun _ _ h => Sh.keep M16 h).2
        have kd16 := kd.keep (N14.trans M16)
        cases hb : bd with
        | nil =>
          obtain ⟨od, good⟩ := odk hb
          have nsz : ∀ c ∈ cs, c.nm.length ≤ sizeLine := fun c hc => word_sz (ok.calls c hc).word
          have sL : Sh K H16 (.ref la) (.lst (cs.map fun c => Dt.str c.nm)) := .lst (M16 _ _ nla14) (by rw [List.length_map]; omega) (by rw [List.length_map, List.length_map]) fun i x y h1 h2 => by
            rw [List.getElem?_map] at h1 h2
            obtain ⟨z, hz, rfl⟩ := Option.map_eq_some_iff.mp h1
            rw [hz] at h2
            cases h2
            exact .str _ (nsz z (List.mem_of_getElem? hz))
          exact .inl ⟨kv, .ref T, .ref la, fs, n, cs, .lst ds, _, ds, rfl, kd16, od, sT, rfl, by omega, good, sL, fun H' e => ⟨h16.keep e, e, rfl⟩⟩
        | cons i0 l =>
          rw [hb] at hbd tail
          exact .inr ⟨kv, .ref T, .ref la, fs, n, cs, .lst ds, i0, rfl, kd16, sT, badI_due rfl (by omega) fT hbd, fun dd H' e hdd hx' => ⟨rfl, fun ae hae => ⟨rfl, rfl, rfl, dd, .int (i0 : Nat), rfl, hx', fun t7 ht7 => by
            obtain ⟨v17, rest⟩ := tail H' t7 _ _ (h16.keep e) e ht7 (.inr ⟨i0, l, rfl, rfl, rfl⟩)
            exact ⟨fl, _, _, rfl, rfl, v17, by show 1 < sizeLine; decide, rest⟩⟩⟩⟩
      · rintro v H17 ⟨h17, e17, hb⟩
        refine ⟨by show 2 ≤ sizeLine; decide, fun t7 ht7 => ?_⟩
        obtain ⟨v17, rest⟩ := tail H17 t7 _ _ h17 e17 ht7 (.inl ⟨hb, rfl⟩)
        exact ⟨fl, _, _, rfl, rfl, v17, by show 1 < sizeLine; decide, rest⟩
    rintro σ' H16 ⟨t2, w2, y2, h16, N16, rfl, vfl16, vt2, case2⟩
    have vt1 := N16 _ _ vt1
    have M16 := M15.trans N16
    have nwa16 := M16 _ _ nwa14
    clear M15 N16 h15 h14
    -- what is due
    refine ⟨fun σ' H' => StP H' s c Pl ns ∧ Same H16 H' ∧ ∃ v15, σ' = [some (.ref a), some (.ref s), some (.int (0 + (i : Int))), some (.ref p), x4, some (.ref la), some (.ref ra), some (.str nA), some (.str nB), some (.ref lo), some (.int (d : Nat)), some (.ref T), x12, some (.ref wa), some (.ref fl), some v15, x16] ∧ ((bd = [] ∧ v15 = .non) ∨ ∃ i l q, bd = i :: l ∧ v15 = .ref q ∧ H' q = some (.tup [.str "rule", .int (i : Nat)])), ?_, ?_⟩
    · have was : wa ≠ s := fun e => by
        have := off_same _ _ nwa16
        have := nx_same _ _ this
        rw [e, off_s] at this
        cases this
      have vwa := g_all _ _ nwa16
      refine ⟨fun v H' => Same H16 H' ∧ ((bd = [] ∧ v = .non) ∨ ∃ i l q, bd = i :: l ∧ v = .ref q ∧ H' q = some (.tup [.str "rule", .int (i : Nat)])), ?_, ?_⟩
      · refine ⟨_, rfl, by show 0 ≤ sizeLine; decide, fun q hq => ?_⟩
        have e1 := same_new (Same.refl H16) hq (o := .lst [])
        refine ne_nats (SqL.of (e1 _ _ vwa)) (SqL.of upd_same) ⟨_, rfl, ?_⟩
        cases hb : bd with
        | nil => exact iteF ⟨e1, .inl ⟨rfl, rfl⟩⟩
        | cons i0 l =>
          rw [hb] at vwa
          refine iteT ⟨_, rfl, wa, _, 0, .int (i0 : Nat), rfl, rfl, SqL.of (e1 _ _ vwa), atI_nat (j := 0) rfl, by show 2 ≤ sizeLine; decide, fun t ht => ?_⟩
          exact ⟨same_new e1 ht, .inr ⟨i0, l, t, rfl, rfl, upd_same⟩⟩
      · rintro v H17 ⟨e, h⟩
        exact ⟨h16.keep e, e, v, rfl, h⟩
    rintro σ' H17 ⟨h17, e17, v15, rfl, due17⟩
    have v17 := e17 _ _ vfl16
    -- what was found is that
    refine ⟨fun σ' H' => StP H' s c Pl ns ∧ Same H17 H' ∧ ∃ y4, σ' = [some (.ref a), some (.ref s), some (.int (0 + (i : Int))), some (.ref p), y4, some (.ref la), some (.ref ra), some (.str nA), some (.str nB), some (.ref lo), some (.int (d : Nat)), some (.ref T), x12, some (.ref wa), some (.ref fl), some v15, x16], ?_, ?_⟩
    · have turn : ∀ (tk : Addr) (w y : V) (Hk : Hp) (x4 : Option V), Hk tk = some (.tup [w, y]) → CaseR bd w y → Same H17 Hk → (∀ q i l, bd = i :: l → v15 = .ref q → H17 q = some (.tup [.str "rule", .int (i : Nat)])) → True := fun _ _ _ _ _ _ _ _ _ => trivial
      have vt : ∀ (j : Nat) x, ([.ref t1, .ref t2] : List V)[j]? = some x → ∃ tk w y, x = .ref tk ∧ H17 tk = some (.tup [w, y]) ∧ CaseR bd w y := fun j x hj => by
        have m := List.mem_of_getElem? hj
        simp only [List.mem_cons, List.not_mem_nil, or_false] at m
        rcases m with rfl | rfl
        · exact ⟨t1, w1, y1, rfl, e17 _ _ (g_all _ _ vt1), case1⟩
        · exact ⟨t2, w2, y2, rfl, e17 _ _ (g_all _ _ vt2), case2⟩
      refine ⟨_, rfl, fl, rfl, ⟨_, SqL.of v17⟩, for_it (walk_list (K := K) (a := fl) (xs := [.ref t1, .ref t2])) (fun j σ Hi => Same H17 Hi ∧ ∃ y4, σ = [some (.ref a), some (.ref s), some (.int (0 + (i : Int))), some (.ref p), y4, some (.ref la), some (.ref ra), some (.str nA), some (.str nB), some (.ref lo), some (.int (d : Nat)), some (.ref T), x12, some (.ref wa), some (.ref fl), some v15, x16]) ⟨Same.refl _, x4, rfl⟩ (fun j σ Hi _ h => SqL.of (h.1 _ _ v17)) ?_ ?_⟩
      · rintro j v σ Hx H18 hj ⟨e18, y4, rfl⟩ ⟨rfl, hv⟩
        obtain ⟨tk, w, y, rfl, htk, ck⟩ := vt j v hv
        have htk := e18 _ _ htk
        refine ⟨fun b H' => b = false ∧ Same H18 H', ?_, ?_⟩
        · refine ⟨_, rfl, tk, _, 0, w, rfl, rfl, SqT.of htk, rfl, ?_⟩
          rcases ck with ⟨hb, rfl⟩ | ⟨i0, l, hb, rfl, rfl⟩
          · have hv15 : v15 = .non := by
              rcases due17 with ⟨_, h⟩ | ⟨_, _, _, h, _⟩
              · exact h
              · rw [hb] at h
                cases h
            subst hv15
            refine ⟨rfl, _, rfl, rfl, rfl, _, rfl, ite2 (fun g => absurd g (by decide)) (fun _ => ?_)⟩
            exact ⟨fun b H' => b = false ∧ Same H18 H', ⟨_, rfl, rfl, _, rfl, iteF ⟨rfl, Same.refl _⟩⟩, fun b H' h => h⟩
          · have hv15 : ∃ q, v15 = .ref q ∧ H17 q = some (.tup [.str "rule", .int (i0 : Nat)]) := by
              rcases due17 with ⟨h, _⟩ | ⟨i1, l1, q, h, e, g⟩
              · rw [hb] at h
                cases h
              · rw [hb] at h
                cases h
                exact ⟨q, e, g⟩
            obtain ⟨q, rfl, hq⟩ := hv15
            refine ⟨rfl, _, rfl, rfl, rfl, _, rfl, ite2 (fun g => ?_) (fun _ => ?_)⟩
            · have g : (!decide (V.bl (decide (V.str "rule" = V.str "told")) = V.bl (decide (V.ref q = V.non)))) = true := g
              rw [decide_eq_false (show V.str "rule" ≠ V.str "told" from fun e => absurd (V.str.inj e) (by decide +kernel)), decide_eq_false (show V.ref q ≠ V.non from nofun)] at g
              exact absurd g (by decide)
            refine ⟨fun b H' => b = false ∧ Same H18 H', ⟨_, rfl, rfl, _, rfl, ite2 (fun _ => ?_) (fun g => ?_)⟩, fun b H' h => h⟩
            · exact ⟨_, rfl, _, rfl, .ref tk, .ref q, rfl, sm_rule htk (e18 _ _ hq), fun H' e => ⟨true, rfl, rfl, e⟩⟩
            · exact ⟨rfl, Same.refl _⟩
        · rintro _ H19 ⟨rfl, e19⟩
          exact iteF ⟨e18.trans e19, _, rfl⟩
      · rintro σ Hi ⟨e, y4, rfl⟩
        exact ⟨h17.keep e, e, y4, rfl⟩
    rintro σ' H18 ⟨h18, e18, y4, rfl⟩
    have N18 : Same (Nx s H3) (Nx s H18) := N14.trans (M16.trans (off_same.trans (sx_nx (e17.trans e18))))
    clear N14 M16 h16 h17
    -- an object that is no list
    refine ⟨_, rfl, fun pd qd => ⟨by show 4 ≤ sizeLine; decide, fun lb qb => ?_⟩⟩
    have e1 := same_new (Same.refl H18) qd (o := .dK [])
    have g1 := h18.keep e1
    have vd : upd H18 pd (.dK []) pd = some (.dK []) := upd_same
    have pds := (h18.1.ne qd).1
    have e2 := same_new (Same.refl _) qb (o := .lst [.non, .int 5, .str "once", .ref pd])
    have g2 := g1.keep e2
    refine ⟨s, c, lb, ns, _, rfl, g2.1, hn, (g1.1.ne qb).1, .inl (SqL.of upd_same), by show 0 < 4; decide, by show 4 < 1000000; decide, fun d9 vb H19 hd9 e19 h19' => ?_⟩
    have h19 := g2.sx e19 h19'
    have N19 : Same (Nx s H18) (Nx s H19) := ((sx_nx e1).trans (sx_nx e2)).trans e19.nx
    obtain ⟨db, sb, hqb⟩ : ∃ db, Sh K (Nx s H19) vb db ∧ sqD db = none := by
      have m := List.mem_of_getElem? hd9
      simp only [List.mem_cons, List.not_mem_nil, or_false] at m
      rcases m with rfl | rfl | rfl | rfl
      · exact ⟨_, .non, rfl⟩
      · exact ⟨_, .int _, rfl⟩
      · exact ⟨_, .str _ (by decide), rfl⟩
      · exact ⟨_, .dic (((sx_nx e2).trans e19.nx) _ _ (nx_at vd pds nofun)), rfl⟩
    have N19 := N18.trans N19
    clear e1 e2 g1 g2 vd
    have duez : DueU cs db 0 := .inl ⟨hqb, rfl⟩
    refine ⟨fun σ' H' => ∃ fl t1 y4, StP H' s c Pl ns ∧ Same (Nx s H19) (Off fl (Nx s H')) ∧ σ' = [some (.ref a), some (.ref s), some (.int (0 + (i : Int))), some (.ref p), y4, some (.ref la), some (.ref ra), some (.str nA), some (.str nB), some (.ref lo), some (.int (d : Nat)), some (.ref T), x12, some (.ref wa), some (.ref fl), some v15, some vb] ∧ H' fl = some (.lst [.ref t1]) ∧ fl ≠ s ∧ fl ≠ c ∧ Off fl (Nx s H') t1 = some (.tup [.str "rule", .int 0]), ⟨h19.tabs, fun H20 eN tb => ?_⟩, ?_⟩
    · have h20 := h19.ext eN tb
      have N20 := ext_nx (s := s) eN
      refine ⟨fun v H' => False, ?_, nofun⟩
      refine ⟨_, rfl, p, kv, rfl, dgk ((N19.trans N20).trans nx_all), _, rfl, .inr ⟨kv, vb, fs, n, cs, db, 0, rfl, kd.keep ((N19.trans N20).trans nx_all), sb.keep (N20.trans nx_all), duez, fun dd H' e hdd hx' => ⟨rfl, fun ae hae => ⟨rfl, rfl, rfl, dd, .int ((0 : Nat) : Int), rfl, hx', fun t7 ht7 => ⟨by show 1 ≤ sizeLine; decide, fun fl hfl => ?_⟩⟩⟩⟩⟩
      have g1 := (h20.keep e).keep (same_new (Same.refl H') ht7 (o := .tup [.str "rule", .int 0]))
      have at1 : upd H' t7 (.tup [.str "rule", .int 0]) t7 = some (.tup [.str "rule", .int 0]) := upd_same
      have n1 : t7 ≠ fl := fun z => by
        have : upd H' t7 (.tup [.str "rule", .int 0]) fl = none := hfl
        rw [← z, at1] at this
        cases this
      have e1 := same_new (Same.refl H') ht7 (o := .tup [.str "rule", .int 0])
      have e2 := same_new (Same.refl _) hfl (o := .lst [.ref t7])
      refine ⟨fl, t7, y4, g1.keep e2, (N20.trans ((sx_nx e).trans (sx_nx e1))).trans (g_new hfl), rfl, upd_same, (g1.1.ne hfl).1, (g1.1.ne hfl).2, ?_⟩
      rw [off_ne n1]
      exact nx_at (e2 _ _ at1) ((h20.keep e).1.ne ht7).1 nofun
    clear vt1 vt2 case1 case2
    rintro σ' H20 ⟨fl, t1, y4, h20, M20, rfl, vfl, fls, flc, vt1⟩
    refine ⟨fun σ' H' => ∃ t2, StP H' s c Pl ns ∧ Same (Off fl (Nx s H20)) (Off fl (Nx s H')) ∧ σ' = [some (.ref a), some (.ref s), some (.int (0 + (i : Int))), some (.ref p), y4, some (.ref la), some (.ref ra), some (.str nA), some (.str nB), some (.ref lo), some (.int (d : Nat)), some (.ref T), x12, some (.ref wa), some (.ref fl), some v15, some vb] ∧ H' fl = some (.lst [.ref t1, .ref t2]) ∧ Off fl (Nx s H') t2 = some (.tup [.str "rule", .int 0]), ⟨_, rfl, .inl ⟨rfl, _, SqL.of vfl⟩, h20.tabs, fun H21 eN tb => ?_⟩, ?_⟩
    · have h21 := h20.ext eN tb
      have N21 : Same (Off fl (Nx s H20)) (Off fl (Nx s H21)) := g_ext eN
      have vfl21 : H21 fl = some (.lst [.ref t1]) := eN _ _ vfl nofun
      have M21 := (M20.trans N21).trans g_all
      refine ⟨fun v H' => False, ?_, nofun⟩
      refine ⟨_, rfl, p, kv, rfl, dgk (N19.trans M21), _, rfl, .inr ⟨kv, vb, .non, fs, n, cs, db, 0, rfl, kd.keep (N19.trans M21), sb.keep M21, duez, fun dd H' e hdd hx' => ⟨rfl, fun ae hae => ⟨rfl, rfl, rfl, dd, .int ((0 : Nat) : Int), rfl, hx', fun t7 ht7 => ?_⟩⟩⟩⟩
      have e1 := same_new (Same.refl H') ht7 (o := .tup [.str "rule", .int 0])
      have v22 := (e.trans e1) _ _ vfl21
      have at2 : upd H' t7 (.tup [.str "rule", .int 0]) t7 = some (.tup [.str "rule", .int 0]) := upd_same
      have n2 : t7 ≠ fl := fun z => by rw [z, e _ _ vfl21] at ht7; cases ht7
      refine ⟨fl, _, _, rfl, rfl, v22, by show 1 < sizeLine; decide, t7, ((h21.keep e).keep e1).app fls flc v22, N21.trans ((g_keep (e.trans e1)).trans g_app), rfl, upd_same, ?_⟩
      refine g_app _ _ ?_
      rw [off_ne n2]
      exact nx_at at2 ((h21.keep e).1.ne ht7).1 nofun
    rintro σ' H21 ⟨t2, h21, N21, rfl, vfl, vt2⟩
    have vt1 := g_all _ _ (N21 _ _ vt1)
    have vt2 := g_all _ _ vt2
    refine ⟨_, rfl, by show 2 ≤ sizeLine; decide, fun r1 q1 => ⟨by show 2 ≤ sizeLine; decide, fun r2 q2 => ⟨by show 2 ≤ sizeLine; decide, fun r3 q3 => ?_⟩⟩⟩
    have e1 := same_new (Same.refl H21) q1 (o := .tup [.str "rule", .int 0])
    have a1 : upd H21 r1 (.tup [.str "rule", .int 0]) r1 = some (.tup [.str "rule", .int 0]) := upd_same
    have e2 := same_new (Same.refl _) q2 (o := .tup [.str "rule", .int 0])
    have a2 : upd (upd H21 r1 (.tup [.str "rule", .int 0])) r2 (.tup [.str "rule", .int 0]) r2 = some (.tup [.str "rule", .int 0]) := upd_same
    have a1 := e2 _ _ a1
    have e3 := same_new (Same.refl _) q3 (o := .lst [.ref r1, .ref r2])
    have a1 := e3 _ _ a1
    have a2 := e3 _ _ a2
    have e13 := e1.trans (e2.trans e3)
    refine ⟨.ref fl, .ref r3, rfl, .inr ⟨fl, r3, _, _, rfl, rfl, .inl ⟨SqL.of (e13 _ _ vfl), SqL.of upd_same⟩, rfl, by show 2 < 100000; decide, fun i' u v g1 g2 => ?_⟩, fun H' e => ⟨true, rfl, iteF ⟨(h21.keep e13).keep e, _, _, _, _, _, _, _, _, _, _, _, _, _, _, _, rfl⟩⟩⟩
    match i', g1, g2 with
    | 0, g1, g2 =>
      cases g1
      cases g2
      exact sm_rule (m := 0) (e13 _ _ vt1) a1
    | 1, g1, g2 =>
      cases g1
      cases g2
      exact sm_rule (m := 0) (e13 _ _ vt2) a2
    | _ + 2, g1, g2 => cases g1
  · rintro σ H2 ⟨h1, x2, x3, x4, x5, x6, x7, x8, x9, x10, x11, x12, x13, x14, x15, x16, rfl⟩
    exact k _
end
end MK
set_option Elab.async false
set_option linter.all false
set_option autoImplicit false
set_option maxRecDepth 100000
set_option maxHeartbeats 4000000
namespace MK
open PySem PySem.Spec PyProof.Rows L2
open C8 (Met pe_mt pe_mt0 Mak pe_mk)
local macro_rules | `(tactic| walk_at "x") => `(tactic| dsimp only [tSeq, tAsg, tRet, tDrop, tLst, tTup, tCons, tOp, tUn, tIfS])
theorem sc_BadRule_init : FnScope ["self", "index"] ["self", "index"] (defScope s_BadRule_init) := ⟨rfl, rfl, rfl, by decide +kernel, rfl, by decide +kernel, by decide +kernel⟩
section
variable {P : Program} {w : World} {K : PySem.W.Frag} {mg : Str → Option Value} {base : Heap}
theorem ok_BadRule {f C : Addr} {fd : FuncData} (F : Fun K "__init__" "BadRule.__init__" s_BadRule_init f fd) (T : OexC K C) (hn : PySem.W.findIn K (.ref C) "index" = some none) : FnOk P w K mg base CX0 1 f fd ["self", "index"] (spErr1 C "index") := by
  refine F.ok sc_BadRule_init (fun vs H Q E h => ?_) (fun cdv A outer sh H vs Q E hr h => ?_)
  · obtain ⟨a, v, rfl, _⟩ := h
    rfl
  · obtain ⟨a, v, rfl, ha, k⟩ := h
    exact ⟨_, (pss_one (ps_ost (pv 0) (pv 1))), ⟨_, rfl, _, rfl, a, C, rfl, T, hn, .inl ⟨ha, k⟩⟩⟩
end
end MK
set_option Elab.async false
set_option linter.all false
set_option autoImplicit false
set_option maxRecDepth 100000
set_option maxHeartbeats 4000000
namespace MK
open PySem PySem.Spec PyProof.Rows L2
open C8 (Met pe_mt pe_mt0 Mak pe_mk)
local macro_rules | `(tactic| walk_at "x") => `(tactic| dsimp only [tSeq, tAsg, tRet, tDrop, tLst, tTup, tCons, tOp, tUn, tIfS])
theorem sc_Kind_iter : FnScope ["self"] ["self"] (defScope s_Kind_iter) := ⟨rfl, rfl, rfl, by decide +kernel, rfl, by decide +kernel, by decide +kernel⟩
section
variable {P : Program} {w : World} {K : PySem.W.Frag} {mg : Str → Option Value} {base : Heap} {C : Cst} {KC : Addr}
theorem ok_kiter {f : Addr} {fd : FuncData} (F : Fun K "__iter__" "Kind.__iter__" s_Kind_iter f fd) (T : Txt K mg) (hiter : mg "iter" = none) (Z : KCls K KC) : FnS P w K mg base 1 f fd ["self"] (spIter KC "table") := by
  refine fnS_of F sc_Kind_iter (fun n vs H Q h => ?_) (fun cdv A outer sh H vs Q hr h => ?_)
  · obtain ⟨a, dx, d, fs, o, kvs, rfl, _⟩ := h
    rfl
  · obtain ⟨a, dx, d, fs, o, kvs, rfl, ha, hl, hd, k⟩ := h
    refine ⟨_, (pss_one (ps_ret (pe_callB call_iterK (by rfl) hiter (by decide +kernel) (pa_cons (pe_fld (pv 0) rfl) pa_nil)))), ?_⟩
    exact ⟨_, rfl, a, KC, dx, fs, .ref d, rfl, ha, Z.cls, Z.table, hl, d, o, kvs, rfl, hd, k⟩
theorem ok_has0 {f : Addr} {fd : FuncData} (F : Fun K "__contains__" "Kind.__contains__" s_Kind_contains f fd) (T : Txt K mg) (Z : KCls K KC) : FnOk P w K mg base CX0 1 f fd ["self", "x"] (spHas K KC) := by
  refine F.ok sc_Kind_contains (fun vs H Q E h => ?_) (fun cdv A outer sh H vs Q E hr h => ?_)
  · obtain ⟨v, x, fs, n, cs, rfl, _⟩ := h
    rfl
  · exact run_has T Z hr h
end
end MK
set_option Elab.async false
set_option linter.all false
set_option autoImplicit false
set_option maxRecDepth 100000
set_option maxHeartbeats 4000000
namespace MK
open PySem PySem.Spec PyProof.Rows L2 TL ClX
local macro_rules | `(tactic| walk_at "x") => `(tactic| dsimp only [tSeq, tAsg, tRet, tDrop, tLst, tTup, tCons, tOp, tUn, tIfS])
theorem sod_all {K : PySem.W.Frag} {w : World} {a : Addr} (h : He.dicW K a = some (He.keysIn w.params ["set", "add", "strike", "fresh", "clear"])) (h1 : ∃ b, PySem.W.nsIn K a "set" = some (some (.ref b)) ∧ ∀ H, SqT K H b ((["one"] : List Str).map V.str)) (h2 : ∃ b, PySem.W.nsIn K a "add" = some (some (.ref b)) ∧ ∀ H, SqT K H b ((["many"] : List Str).map V.str))
    (h3 : ∃ b, PySem.W.nsIn K a "strike" = some (some (.ref b)) ∧ ∀ H, SqT K H b ((["many"] : List Str).map V.str)) (h4 : ∃ b, PySem.W.nsIn K a "fresh" = some (some (.ref b)) ∧ ∀ H, SqT K H b ((["many"] : List Str).map V.str)) (h5 : ∃ b, PySem.W.nsIn K a "clear" = some (some (.ref b)) ∧ ∀ H, SqT K H b ((["one", "many"] : List Str).map V.str)) :
    ∀ z : Str, (PySem.W.nsIn K a z = some none ∧ sodOf z = none) ∨ ∃ b l, PySem.W.nsIn K a z = some (some (.ref b)) ∧ sodOf z = some l ∧ ∀ H, SqT K H b (l.map V.str) := fun z => by
  by_cases e1 : z = ("set" : Str)
  · obtain ⟨b, x, y⟩ := h1
    exact .inr ⟨b, _, e1 ▸ x, by rw [e1]; decide +kernel, y⟩
  by_cases e2 : z = ("add" : Str)
  · obtain ⟨b, x, y⟩ := h2
    exact .inr ⟨b, _, e2 ▸ x, by rw [e2]; decide +kernel, y⟩
  by_cases e3 : z = ("strike" : Str)
  · obtain ⟨b, x, y⟩ := h3
    exact .inr ⟨b, _, e3 ▸ x, by rw [e3]; decide +kernel, y⟩
  by_cases e4 : z = ("fresh" : Str)
  · obtain ⟨b, x, y⟩ := h4
    exact .inr ⟨b, _, e4 ▸ x, by rw [e4]; decide +kernel, y⟩
  by_cases e5 : z = ("clear" : Str)
  · obtain ⟨b, x, y⟩ := h5
    exact .inr ⟨b, _, e5 ▸ x, by rw [e5]; decide +kernel, y⟩
  refine .inl ⟨ns_none h fun m => ?_, ?_⟩
  · simp only [List.mem_cons, List.not_mem_nil, or_false] at m
    rcases m with m | m | m | m | m
    · exact e1 m
    · exact e2 m
    · exact e3 m
    · exact e4 m
    · exact e5 m
  · unfold sodOf
    rw [if_neg e1, if_neg e2, if_neg e3, if_neg e4, if_neg e5]
def spLawT (K : PySem.W.Frag) (P : Addr) : Sp := fun vs H Q _ => ∃ (a : Addr) (ns : List Int), vs = [.ref a] ∧ SqL K H a (ns.map V.int) ∧ ns.length ≤ 63 ∧ H P = some (.tbl #[]) ∧ ∀ H', Q (.bl true) H'
theorem all_mk {l : PySem.W.OpenLaw} {w : World} {K : PySem.W.Frag} {h : Heap} {mg : Str → Option Value} {fa : Addr} (X : K.In h) (G : h.Ns mainGlobals mg) (hfa : mg "law" = some (.ref fa))
    {f_fresh : Addr} {fd_fresh : FuncData}
    {f_fill : Addr} {fd_fill : FuncData}
    {f_take : Addr} {fd_take : FuncData}
    {f_one : Addr} {fd_one : FuncData}
    {f_mix : Addr} {fd_mix : FuncData}
    {f_same : Addr} {fd_same : FuncData}
    {f_tried : Addr} {fd_tried : FuncData}
    {f_error : Addr} {fd_error : FuncData}
    {f_other_error : Addr} {fd_other_error : FuncData}
    {f_plan : Addr} {fd_plan : FuncData}
    {f_deeds : Addr} {fd_deeds : FuncData}
    {f_call : Addr} {fd_call : FuncData}
    {f_kind : Addr} {fd_kind : FuncData}
    {f_rules : Addr} {fd_rules : FuncData}
    {f_l_is_rule : Addr} {fd_l_is_rule : FuncData}
    {f_is_word : Addr} {fd_is_word : FuncData}
    {f_is_integer : Addr} {fd_is_integer : FuncData}
    {f_is_list : Addr} {fd_is_list : FuncData}
    {f_is_modes : Addr} {fd_is_modes : FuncData}
    {f_is_field : Addr} {fd_is_field : FuncData}
    {f_kept_fields : Addr} {fd_kept_fields : FuncData}
    {f_is_many : Addr} {fd_is_many : FuncData}
    {f_is_deed : Addr} {fd_is_deed : FuncData}
    {f_are_moves : Addr} {fd_are_moves : FuncData}
    {f_has_call_form : Addr} {fd_has_call_form : FuncData}
    {f_are_deeds : Addr} {fd_are_deeds : FuncData}
    {f_is_same : Addr} {fd_is_same : FuncData}
    {f_kept_call : Addr} {fd_kept_call : FuncData}
    {f_wrong_part : Addr} {fd_wrong_part : FuncData}
    {f_kept_calls : Addr} {fd_kept_calls : FuncData}
    {f_all_ways : Addr} {fd_all_ways : FuncData}
    {f_useful_ways : Addr} {fd_useful_ways : FuncData}
    {f_useful_places : Addr} {fd_useful_places : FuncData}
    {f_told_apart : Addr} {fd_told_apart : FuncData}
    {f_number_of_classes : Addr} {fd_number_of_classes : FuncData}
    {f_least_machine : Addr} {fd_least_machine : FuncData}
    {f_mark_of : Addr} {fd_mark_of : FuncData}
    {f_marks_of : Addr} {fd_marks_of : FuncData}
    {f_marked : Addr} {fd_marked : FuncData}
    {f_is_rule : Addr} {fd_is_rule : FuncData}
    {f_is_good : Addr} {fd_is_good : FuncData}
    {A_f0 : Addr}
    {f_freest : Addr} {fd_freest : FuncData}
    {f_law : Addr} {fd_law : FuncData}
    {C_Kind : Addr}
    {C_Orders : Addr}
    {C_BadField : Addr}
    {C_BadModes : Addr}
    {C_BadCall : Addr}
    {C_UnknownCall : Addr}
    {C_BadPlace : Addr}
    {C_BadText : Addr}
    {C_BadRow : Addr}
    {C_BadWord : Addr}
    {C_BadWish : Addr}
    {C_BadRun : Addr}
    {C_BadCallers : Addr}
    {C_BadKind : Addr}
    {C_BadRule : Addr}
    {C_Refused : Addr}
    {C_BadThing : Addr}
    {C_MakerError : Addr}
    {f_kinit : Addr} {fd_kinit : FuncData}
    {f_khas : Addr} {fd_khas : FuncData}
    {f_kiter : Addr} {fd_kiter : FuncData}
    {f_oinit : Addr} {fd_oinit : FuncData}
    {f_o_start : Addr} {fd_o_start : FuncData}
    {f_o_place_behind : Addr} {fd_o_place_behind : FuncData}
    {f_o_contents_behind : Addr} {fd_o_contents_behind : FuncData}
    {f_o_keeps_rules : Addr} {fd_o_keeps_rules : FuncData}
    {f_o_ways : Addr} {fd_o_ways : FuncData}
    {f_iRL : Addr} {fd_iRL : FuncData}
    {tk_MOST_LETTERS : Tok}
    {tk_MOST_FIELDS : Tok}
    {tk_MOST_MODES : Tok}
    {tk_MOST_CALLS : Tok}
    {tk_MOST_DEEDS : Tok}
    {tk_DONE : Tok}
    {tk_THE_WORD : Tok}
    {A_sorts : Addr}
    {A_hands : Addr}
    {A_wd : Addr}
    {A_lwd : Addr}
    {A_sod : Addr}
    {A_sod_set : Addr}
    {A_sod_add : Addr}
    {A_sod_strike : Addr}
    {A_sod_fresh : Addr}
    {A_sod_clear : Addr}
    (a_fresh : PySem.W.nsIn K mainGlobals "_law_fresh" = some (some (.ref f_fresh)))
    (D_fresh : FunD K "_law_fresh" "_law_fresh" (defArgs s_fresh) (defBody s_fresh) (defScope s_fresh) [] [] f_fresh fd_fresh)
    (a_fill : PySem.W.nsIn K mainGlobals "_law_fill" = some (some (.ref f_fill)))
    (D_fill : FunD K "_law_fill" "_law_fill" (defArgs s_fill) (defBody s_fill) (defScope s_fill) [] [] f_fill fd_fill)
    (a_take : PySem.W.nsIn K mainGlobals "_law_take" = some (some (.ref f_take)))
    (D_take : FunD K "_law_take" "_law_take" (defArgs s_take) (defBody s_take) (defScope s_take) [] [] f_take fd_take)
    (a_one : PySem.W.nsIn K mainGlobals "_law_one" = some (some (.ref f_one)))
    (D_one : FunD K "_law_one" "_law_one" (defArgs s_one) (defBody s_one) (defScope s_one) [] [] f_one fd_one)
    (a_mix : PySem.W.nsIn K mainGlobals "_law_mix" = some (some (.ref f_mix)))
    (D_mix : FunD K "_law_mix" "_law_mix" (defArgs s_mix) (defBody s_mix) (defScope s_mix) [] [] f_mix fd_mix)
    (a_same : PySem.W.nsIn K mainGlobals "_law_same" = some (some (.ref f_same)))
    (D_same : FunD K "_law_same" "_law_same" (defArgs s_same) (defBody s_same) (defScope s_same) [] [] f_same fd_same)
    (a_tried : PySem.W.nsIn K mainGlobals "_law_tried" = some (some (.ref f_tried)))
    (D_tried : FunD K "_law_tried" "_law_tried" (defArgs s_tried) (defBody s_tried) (defScope s_tried) [] [] f_tried fd_tried)
    (a_error : PySem.W.nsIn K mainGlobals "_law_error" = some (some (.ref f_error)))
    (D_error : FunD K "_law_error" "_law_error" (defArgs s_error) (defBody s_error) (defScope s_error) [] [] f_error fd_error)
    (a_other_error : PySem.W.nsIn K mainGlobals "_law_other_error" = some (some (.ref f_other_error)))
    (D_other_error : FunD K "_law_other_error" "_law_other_error" (defArgs s_other_error) (defBody s_other_error) (defScope s_other_error) [] [] f_other_error fd_other_error)
    (a_plan : PySem.W.nsIn K mainGlobals "_law_plan" = some (some (.ref f_plan)))
    (D_plan : FunD K "_law_plan" "_law_plan" (defArgs s_plan) (defBody s_plan) (defScope s_plan) [] [] f_plan fd_plan)
    (a_deeds : PySem.W.nsIn K mainGlobals "_law_deeds" = some (some (.ref f_deeds)))
    (D_deeds : FunD K "_law_deeds" "_law_deeds" (defArgs s_deeds) (defBody s_deeds) (defScope s_deeds) [] [] f_deeds fd_deeds)
    (a_call : PySem.W.nsIn K mainGlobals "_law_call" = some (some (.ref f_call)))
    (D_call : FunD K "_law_call" "_law_call" (defArgs s_call) (defBody s_call) (defScope s_call) [] [] f_call fd_call)
    (a_kind : PySem.W.nsIn K mainGlobals "_law_kind" = some (some (.ref f_kind)))
    (D_kind : FunD K "_law_kind" "_law_kind" (defArgs s_kind) (defBody s_kind) (defScope s_kind) [] [] f_kind fd_kind)
    (a_rules : PySem.W.nsIn K mainGlobals "_law_rules" = some (some (.ref f_rules)))
    (D_rules : FunD K "_law_rules" "_law_rules" (defArgs s_rules) (defBody s_rules) (defScope s_rules) [] [] f_rules fd_rules)
    (a_l_is_rule : PySem.W.nsIn K mainGlobals "_law_is_rule" = some (some (.ref f_l_is_rule)))
    (D_l_is_rule : FunD K "_law_is_rule" "_law_is_rule" (defArgs s_l_is_rule) (defBody s_l_is_rule) (defScope s_l_is_rule) [] [] f_l_is_rule fd_l_is_rule)
    (a_is_word : PySem.W.nsIn K mainGlobals "is_word" = some (some (.ref f_is_word)))
    (D_is_word : FunD K "is_word" "is_word" (defArgs s_is_word) (defBody s_is_word) (defScope s_is_word) [] [] f_is_word fd_is_word)
    (a_is_integer : PySem.W.nsIn K mainGlobals "is_integer" = some (some (.ref f_is_integer)))
    (D_is_integer : FunD K "is_integer" "is_integer" (defArgs s_is_integer) (defBody s_is_integer) (defScope s_is_integer) [] [] f_is_integer fd_is_integer)
    (a_is_list : PySem.W.nsIn K mainGlobals "is_list" = some (some (.ref f_is_list)))
    (D_is_list : FunD K "is_list" "is_list" (defArgs s_is_list) (defBody s_is_list) (defScope s_is_list) [] [] f_is_list fd_is_list)
    (a_is_modes : PySem.W.nsIn K mainGlobals "is_modes" = some (some (.ref f_is_modes)))
    (D_is_modes : FunD K "is_modes" "is_modes" (defArgs s_is_modes) (defBody s_is_modes) (defScope s_is_modes) [] [] f_is_modes fd_is_modes)
    (a_is_field : PySem.W.nsIn K mainGlobals "is_field" = some (some (.ref f_is_field)))
    (D_is_field : FunD K "is_field" "is_field" (defArgs s_is_field) (defBody s_is_field) (defScope s_is_field) [] [] f_is_field fd_is_field)
    (a_kept_fields : PySem.W.nsIn K mainGlobals "kept_fields" = some (some (.ref f_kept_fields)))
    (D_kept_fields : FunD K "kept_fields" "kept_fields" (defArgs s_kept_fields) (defBody s_kept_fields) (defScope s_kept_fields) [] [] f_kept_fields fd_kept_fields)
    (a_is_many : PySem.W.nsIn K mainGlobals "is_many" = some (some (.ref f_is_many)))
    (D_is_many : FunD K "is_many" "is_many" (defArgs s_is_many) (defBody s_is_many) (defScope s_is_many) [] [] f_is_many fd_is_many)
    (a_is_deed : PySem.W.nsIn K mainGlobals "is_deed" = some (some (.ref f_is_deed)))
    (D_is_deed : FunD K "is_deed" "is_deed" (defArgs s_is_deed) (defBody s_is_deed) (defScope s_is_deed) [] [] f_is_deed fd_is_deed)
    (a_are_moves : PySem.W.nsIn K mainGlobals "are_moves" = some (some (.ref f_are_moves)))
    (D_are_moves : FunD K "are_moves" "are_moves" (defArgs s_are_moves) (defBody s_are_moves) (defScope s_are_moves) [] [] f_are_moves fd_are_moves)
    (a_has_call_form : PySem.W.nsIn K mainGlobals "has_call_form" = some (some (.ref f_has_call_form)))
    (D_has_call_form : FunD K "has_call_form" "has_call_form" (defArgs s_has_call_form) (defBody s_has_call_form) (defScope s_has_call_form) [] [] f_has_call_form fd_has_call_form)
    (a_are_deeds : PySem.W.nsIn K mainGlobals "are_deeds" = some (some (.ref f_are_deeds)))
    (D_are_deeds : FunD K "are_deeds" "are_deeds" (defArgs s_are_deeds) (defBody s_are_deeds) (defScope s_are_deeds) [] [] f_are_deeds fd_are_deeds)
    (a_is_same : PySem.W.nsIn K mainGlobals "is_same" = some (some (.ref f_is_same)))
    (D_is_same : FunD K "is_same" "is_same" (defArgs s_is_same) (defBody s_is_same) (defScope s_is_same) [] [] f_is_same fd_is_same)
    (a_kept_call : PySem.W.nsIn K mainGlobals "kept_call" = some (some (.ref f_kept_call)))
    (D_kept_call : FunD K "kept_call" "kept_call" (defArgs s_kept_call) (defBody s_kept_call) (defScope s_kept_call) [] [] f_kept_call fd_kept_call)
    (a_wrong_part : PySem.W.nsIn K mainGlobals "wrong_part" = some (some (.ref f_wrong_part)))
    (D_wrong_part : FunD K "wrong_part" "wrong_part" (defArgs s_wrong_part) (defBody s_wrong_part) (defScope s_wrong_part) [] [] f_wrong_part fd_wrong_part)
    (a_kept_calls : PySem.W.nsIn K mainGlobals "kept_calls" = some (some (.ref f_kept_calls)))
    (D_kept_calls : FunD K "kept_calls" "kept_calls" (defArgs s_kept_calls) (defBody s_kept_calls) (defScope s_kept_calls) [] [] f_kept_calls fd_kept_calls)
    (a_all_ways : PySem.W.nsIn K mainGlobals "all_ways" = some (some (.ref f_all_ways)))
    (D_all_ways : FunD K "all_ways" "all_ways" (defArgs s_all_ways) (defBody s_all_ways) (defScope s_all_ways) [] [] f_all_ways fd_all_ways)
    (a_useful_ways : PySem.W.nsIn K mainGlobals "useful_ways" = some (some (.ref f_useful_ways)))
    (D_useful_ways : FunD K "useful_ways" "useful_ways" (defArgs s_useful_ways) (defBody s_useful_ways) (defScope s_useful_ways) [] [] f_useful_ways fd_useful_ways)
    (a_useful_places : PySem.W.nsIn K mainGlobals "useful_places" = some (some (.ref f_useful_places)))
    (D_useful_places : FunD K "useful_places" "useful_places" (defArgs s_useful_places) (defBody s_useful_places) (defScope s_useful_places) [] [] f_useful_places fd_useful_places)
    (a_told_apart : PySem.W.nsIn K mainGlobals "told_apart" = some (some (.ref f_told_apart)))
    (D_told_apart : FunD K "told_apart" "told_apart" (defArgs s_told_apart) (defBody s_told_apart) (defScope s_told_apart) [] [] f_told_apart fd_told_apart)
    (a_number_of_classes : PySem.W.nsIn K mainGlobals "number_of_classes" = some (some (.ref f_number_of_classes)))
    (D_number_of_classes : FunD K "number_of_classes" "number_of_classes" (defArgs s_number_of_classes) (defBody s_number_of_classes) (defScope s_number_of_classes) [] [] f_number_of_classes fd_number_of_classes)
    (a_least_machine : PySem.W.nsIn K mainGlobals "least_machine" = some (some (.ref f_least_machine)))
    (D_least_machine : FunD K "least_machine" "least_machine" (defArgs s_least_machine) (defBody s_least_machine) (defScope s_least_machine) [] [] f_least_machine fd_least_machine)
    (a_mark_of : PySem.W.nsIn K mainGlobals "mark_of" = some (some (.ref f_mark_of)))
    (D_mark_of : FunD K "mark_of" "mark_of" (defArgs s_mark_of) (defBody s_mark_of) (defScope s_mark_of) [] [] f_mark_of fd_mark_of)
    (a_marks_of : PySem.W.nsIn K mainGlobals "marks_of" = some (some (.ref f_marks_of)))
    (D_marks_of : FunD K "marks_of" "marks_of" (defArgs s_marks_of) (defBody s_marks_of) (defScope s_marks_of) [] [] f_marks_of fd_marks_of)
    (a_marked : PySem.W.nsIn K mainGlobals "marked" = some (some (.ref f_marked)))
    (D_marked : FunD K "marked" "marked" (defArgs s_marked) (defBody s_marked) (defScope s_marked) [] [] f_marked fd_marked)
    (a_is_rule : PySem.W.nsIn K mainGlobals "is_rule" = some (some (.ref f_is_rule)))
    (D_is_rule : FunD K "is_rule" "is_rule" (defArgs s_is_rule) (defBody s_is_rule) (defScope s_is_rule) [] [] f_is_rule fd_is_rule)
    (a_is_good : PySem.W.nsIn K mainGlobals "is_good" = some (some (.ref f_is_good)))
    (D_is_good : FunD K "is_good" "is_good" (defArgs s_is_good) (defBody s_is_good) (defScope s_is_good) [] [] f_is_good fd_is_good)
    (a_freest : PySem.W.nsIn K mainGlobals "freest" = some (some (.ref f_freest)))
    (D_freest : FunD K "freest" "freest" (defArgs s_freest) (defBody s_freest) (defScope s_freest) [.ref A_f0] [] f_freest fd_freest)
    (a_law : PySem.W.nsIn K mainGlobals "law" = some (some (.ref f_law)))
    (D_law : FunD K "law" "law" (defArgs s_law) (defBody s_law) (defScope s_law) [] [] f_law fd_law)
    (tab_law : tabB K "law" = true)
    (aC_Kind : PySem.W.nsIn K mainGlobals "Kind" = some (some (.ref C_Kind)))
    (aC_Orders : PySem.W.nsIn K mainGlobals "Orders" = some (some (.ref C_Orders)))
    (aC_BadField : PySem.W.nsIn K mainGlobals "BadField" = some (some (.ref C_BadField)))
    (aC_BadModes : PySem.W.nsIn K mainGlobals "BadModes" = some (some (.ref C_BadModes)))
    (aC_BadCall : PySem.W.nsIn K mainGlobals "BadCall" = some (some (.ref C_BadCall)))
    (aC_UnknownCall : PySem.W.nsIn K mainGlobals "UnknownCall" = some (some (.ref C_UnknownCall)))
    (aC_BadPlace : PySem.W.nsIn K mainGlobals "BadPlace" = some (some (.ref C_BadPlace)))
    (aC_BadText : PySem.W.nsIn K mainGlobals "BadText" = some (some (.ref C_BadText)))
    (aC_BadRow : PySem.W.nsIn K mainGlobals "BadRow" = some (some (.ref C_BadRow)))
    (aC_BadWord : PySem.W.nsIn K mainGlobals "BadWord" = some (some (.ref C_BadWord)))
    (aC_BadWish : PySem.W.nsIn K mainGlobals "BadWish" = some (some (.ref C_BadWish)))
    (aC_BadRun : PySem.W.nsIn K mainGlobals "BadRun" = some (some (.ref C_BadRun)))
    (aC_BadCallers : PySem.W.nsIn K mainGlobals "BadCallers" = some (some (.ref C_BadCallers)))
    (aC_BadKind : PySem.W.nsIn K mainGlobals "BadKind" = some (some (.ref C_BadKind)))
    (aC_BadRule : PySem.W.nsIn K mainGlobals "BadRule" = some (some (.ref C_BadRule)))
    (aC_Refused : PySem.W.nsIn K mainGlobals "Refused" = some (some (.ref C_Refused)))
    (aC_BadThing : PySem.W.nsIn K mainGlobals "BadThing" = some (some (.ref C_BadThing)))
    (aC_MakerError : PySem.W.nsIn K mainGlobals "MakerError" = some (some (.ref C_MakerError)))
    (m_kinit : PySem.W.findIn K (.ref C_Kind) "__init__" = some (some (.ref f_kinit)))
    (D_kinit : FunD K "__init__" "Kind.__init__" (defArgs s_Kind_init) (defBody s_Kind_init) (defScope s_Kind_init) [] [] f_kinit fd_kinit)
    (fn_kinit : PySem.W.isFn K (.ref f_kinit) = true)
    (m_khas : PySem.W.findIn K (.ref C_Kind) "__contains__" = some (some (.ref f_khas)))
    (D_khas : FunD K "__contains__" "Kind.__contains__" (defArgs s_Kind_contains) (defBody s_Kind_contains) (defScope s_Kind_contains) [] [] f_khas fd_khas)
    (fn_khas : PySem.W.isFn K (.ref f_khas) = true)
    (m_kiter : PySem.W.findIn K (.ref C_Kind) "__iter__" = some (some (.ref f_kiter)))
    (D_kiter : FunD K "__iter__" "Kind.__iter__" (defArgs s_Kind_iter) (defBody s_Kind_iter) (defScope s_Kind_iter) [] [] f_kiter fd_kiter)
    (fn_kiter : PySem.W.isFn K (.ref f_kiter) = true)
    (z_iter : PySem.W.nsIn K mainGlobals "iter" = some none)
    (m_oinit : PySem.W.findIn K (.ref C_Orders) "__init__" = some (some (.ref f_oinit)))
    (D_oinit : FunD K "__init__" "Orders.__init__" (defArgs s_Orders_init) (defBody s_Orders_init) (defScope s_Orders_init) [] [] f_oinit fd_oinit)
    (fn_oinit : PySem.W.isFn K (.ref f_oinit) = true)
    (m_o_start : PySem.W.findIn K (.ref C_Orders) "start" = some (some (.ref f_o_start)))
    (D_o_start : FunD K "start" "Orders.start" (defArgs s_Orders_start) (defBody s_Orders_start) (defScope s_Orders_start) [] [] f_o_start fd_o_start)
    (fn_o_start : PySem.W.isFn K (.ref f_o_start) = true)
    (m_o_place_behind : PySem.W.findIn K (.ref C_Orders) "place_behind" = some (some (.ref f_o_place_behind)))
    (D_o_place_behind : FunD K "place_behind" "Orders.place_behind" (defArgs s_Orders_place_behind) (defBody s_Orders_place_behind) (defScope s_Orders_place_behind) [] [] f_o_place_behind fd_o_place_behind)
    (fn_o_place_behind : PySem.W.isFn K (.ref f_o_place_behind) = true)
    (m_o_contents_behind : PySem.W.findIn K (.ref C_Orders) "contents_behind" = some (some (.ref f_o_contents_behind)))
    (D_o_contents_behind : FunD K "contents_behind" "Orders.contents_behind" (defArgs s_Orders_contents_behind) (defBody s_Orders_contents_behind) (defScope s_Orders_contents_behind) [] [] f_o_contents_behind fd_o_contents_behind)
    (fn_o_contents_behind : PySem.W.isFn K (.ref f_o_contents_behind) = true)
    (m_o_keeps_rules : PySem.W.findIn K (.ref C_Orders) "keeps_rules" = some (some (.ref f_o_keeps_rules)))
    (D_o_keeps_rules : FunD K "keeps_rules" "Orders.keeps_rules" (defArgs s_Orders_keeps_rules) (defBody s_Orders_keeps_rules) (defScope s_Orders_keeps_rules) [] [] f_o_keeps_rules fd_o_keeps_rules)
    (fn_o_keeps_rules : PySem.W.isFn K (.ref f_o_keeps_rules) = true)
    (m_o_ways : PySem.W.findIn K (.ref C_Orders) "ways" = some (some (.ref f_o_ways)))
    (D_o_ways : FunD K "ways" "Orders.ways" (defArgs s_Orders_ways) (defBody s_Orders_ways) (defScope s_Orders_ways) [] [] f_o_ways fd_o_ways)
    (fn_o_ways : PySem.W.isFn K (.ref f_o_ways) = true)
    (m_iRL : PySem.W.findIn K (.ref C_BadRule) "__init__" = some (some (.ref f_iRL)))
    (D_iRL : FunD K "__init__" "BadRule.__init__" (defArgs s_BadRule_init) (defBody s_BadRule_init) (defScope s_BadRule_init) [] [] f_iRL fd_iRL)
    (fn_iRL : PySem.W.isFn K (.ref f_iRL) = true)
    (t_iRL : PySem.W.typeIn K (.ref f_iRL) = some (.type "function"))
    (n_RL_index : PySem.W.findIn K (.ref C_BadRule) "index" = some none)
    (o_BadRule : oexB K C_BadRule = true)
    (e_BadRule : errB K C_BadRule = true)
    (kc_mk : PySem.W.makesIn K C_Kind = true)
    (kc_kp : PySem.W.keepIn K (.ref C_Kind) = true)
    (kc_pg : PySem.W.plainGet K C_Kind Str.empty = true)
    (kc_hd : PySem.W.hasDictIn K C_Kind = true)
    (kc_po : PySem.W.plainOver K C_Kind = true)
    (kc_sa : PySem.W.findIn K (.ref C_Kind) "__setattr__" = some (some (.builtin "object.__setattr__")))
    (kc_n_triples : PySem.W.findIn K (.ref C_Kind) "triples" = some none)
    (kc_n_sorts : PySem.W.findIn K (.ref C_Kind) "sorts" = some none)
    (kc_n_spots : PySem.W.findIn K (.ref C_Kind) "spots" = some none)
    (kc_n_modes : PySem.W.findIn K (.ref C_Kind) "modes" = some none)
    (kc_n_steps : PySem.W.findIn K (.ref C_Kind) "steps" = some none)
    (kc_n_table : PySem.W.findIn K (.ref C_Kind) "table" = some none)
    (oc_mk : PySem.W.makesIn K C_Orders = true)
    (oc_kp : PySem.W.keepIn K (.ref C_Orders) = true)
    (oc_pg : PySem.W.plainGet K C_Orders Str.empty = true)
    (oc_hd : PySem.W.hasDictIn K C_Orders = true)
    (oc_po : PySem.W.plainOver K C_Orders = true)
    (oc_sa : PySem.W.findIn K (.ref C_Orders) "__setattr__" = some (some (.builtin "object.__setattr__")))
    (oc_n_kind : PySem.W.findIn K (.ref C_Orders) "kind" = some none)
    (oc_n_needed : PySem.W.findIn K (.ref C_Orders) "needed" = some none)
    (oc_n_wanted : PySem.W.findIn K (.ref C_Orders) "wanted" = some none)
    (oc_n_barred : PySem.W.findIn K (.ref C_Orders) "barred" = some none)
    (oc_n_counted : PySem.W.findIn K (.ref C_Orders) "counted" = some none)
    (z_len : PySem.W.nsIn K mainGlobals "len" = some none)
    (z_int : PySem.W.nsIn K mainGlobals "int" = some none)
    (z_enumerate : PySem.W.nsIn K mainGlobals "enumerate" = some none)
    (z_list : PySem.W.nsIn K mainGlobals "list" = some none)
    (z_tuple : PySem.W.nsIn K mainGlobals "tuple" = some none)
    (z_isinstance : PySem.W.nsIn K mainGlobals "isinstance" = some none)
    (z_range : PySem.W.nsIn K mainGlobals "range" = some none)
    (z_all : PySem.W.nsIn K mainGlobals "all" = some none)
    (z_zip : PySem.W.nsIn K mainGlobals "zip" = some none)
    (z_ValueError : PySem.W.nsIn K mainGlobals "ValueError" = some none)
    (z_bool : PySem.W.nsIn K mainGlobals "bool" = some none)
    (z_str : PySem.W.nsIn K mainGlobals "str" = some none)
    (z_set : PySem.W.nsIn K mainGlobals "set" = some none)
    (z_any : PySem.W.nsIn K mainGlobals "any" = some none)
    (v_MOST_LETTERS : PySem.W.nsIn K mainGlobals "MOST_LETTERS" = some (some (.int 8 tk_MOST_LETTERS)))
    (v_MOST_FIELDS : PySem.W.nsIn K mainGlobals "MOST_FIELDS" = some (some (.int 3 tk_MOST_FIELDS)))
    (v_MOST_MODES : PySem.W.nsIn K mainGlobals "MOST_MODES" = some (some (.int 4 tk_MOST_MODES)))
    (v_MOST_CALLS : PySem.W.nsIn K mainGlobals "MOST_CALLS" = some (some (.int 6 tk_MOST_CALLS)))
    (v_MOST_DEEDS : PySem.W.nsIn K mainGlobals "MOST_DEEDS" = some (some (.int 4 tk_MOST_DEEDS)))
    (v_DONE : PySem.W.nsIn K mainGlobals "DONE" = some (some (.int (-1) tk_DONE)))
    (v_THE_WORD : PySem.W.nsIn K mainGlobals "THE_WORD" = some (some (.int (1) tk_THE_WORD)))
    (v_SORTS : PySem.W.nsIn K mainGlobals "SORTS" = some (some (.ref A_sorts)))
    (tu_sorts : tupB K A_sorts ["one", "many"] = true)
    (v_HANDS : PySem.W.nsIn K mainGlobals "HANDS" = some (some (.ref A_hands)))
    (tu_hands : tupB K A_hands ["self", "new", "last"] = true)
    (v_WORD_DEEDS : PySem.W.nsIn K mainGlobals "WORD_DEEDS" = some (some (.ref A_wd)))
    (tu_wd : tupB K A_wd ["set", "add", "strike"] = true)
    (v_LIST_WORD_DEEDS : PySem.W.nsIn K mainGlobals "LIST_WORD_DEEDS" = some (some (.ref A_lwd)))
    (tu_lwd : tupB K A_lwd ["add", "strike"] = true)
    (v_sod : PySem.W.nsIn K mainGlobals "SORTS_OF_DEEDS" = some (some (.ref A_sod)))
    (sd_set : PySem.W.nsIn K A_sod "set" = some (some (.ref A_sod_set)))
    (td_set : tupB K A_sod_set ["one"] = true)
    (sd_add : PySem.W.nsIn K A_sod "add" = some (some (.ref A_sod_add)))
    (td_add : tupB K A_sod_add ["many"] = true)
    (sd_strike : PySem.W.nsIn K A_sod "strike" = some (some (.ref A_sod_strike)))
    (td_strike : tupB K A_sod_strike ["many"] = true)
    (sd_fresh : PySem.W.nsIn K A_sod "fresh" = some (some (.ref A_sod_fresh)))
    (td_fresh : tupB K A_sod_fresh ["many"] = true)
    (sd_clear : PySem.W.nsIn K A_sod "clear" = some (some (.ref A_sod_clear)))
    (td_clear : tupB K A_sod_clear ["one", "many"] = true)
    (dsod : He.dicW K A_sod = some (He.keysIn w.params ["set", "add", "strike", "fresh", "clear"]))
    (q_BadRule_BadField : PySem.W.kitOne K (.ref C_BadRule) (.ref C_BadField) = some false)
    (q_BadRule_BadModes : PySem.W.kitOne K (.ref C_BadRule) (.ref C_BadModes) = some false)
    (q_BadRule_BadCall : PySem.W.kitOne K (.ref C_BadRule) (.ref C_BadCall) = some false)
    (q_BadRule_UnknownCall : PySem.W.kitOne K (.ref C_BadRule) (.ref C_UnknownCall) = some false)
    (q_BadRule_BadPlace : PySem.W.kitOne K (.ref C_BadRule) (.ref C_BadPlace) = some false)
    (q_BadRule_BadText : PySem.W.kitOne K (.ref C_BadRule) (.ref C_BadText) = some false)
    (q_BadRule_BadRow : PySem.W.kitOne K (.ref C_BadRule) (.ref C_BadRow) = some false)
    (q_BadRule_BadWord : PySem.W.kitOne K (.ref C_BadRule) (.ref C_BadWord) = some false)
    (q_BadRule_BadWish : PySem.W.kitOne K (.ref C_BadRule) (.ref C_BadWish) = some false)
    (q_BadRule_BadRun : PySem.W.kitOne K (.ref C_BadRule) (.ref C_BadRun) = some false)
    (q_BadRule_BadCallers : PySem.W.kitOne K (.ref C_BadRule) (.ref C_BadCallers) = some false)
    (q_BadRule_BadKind : PySem.W.kitOne K (.ref C_BadRule) (.ref C_BadKind) = some false)
    (q_BadRule_BadRule : PySem.W.kitOne K (.ref C_BadRule) (.ref C_BadRule) = some true)
    (q_m_BadRule : PySem.W.exmOne K (.ref C_BadRule) (.ref C_MakerError) = some true)
    : ∃ (fd : FuncData) (c P : Addr) (sp : Sp), PySem.W.tabIn K "law" = some (c, P) ∧ K.lookup P = none ∧ (∀ (s : Shared) (u : Value), BindsTo s fd ⟨[u], []⟩ [("_law_script", u)]) ∧
        (∀ (H : Hp) (a : Addr) (ns : List Int), ns.length ≤ 63 → H P = some (.tbl #[]) → SqL K H a (ns.map V.int) → sp [.ref a] H (fun v _ => v = .bl true) fun _ _ _ => False) ∧
        ∀ base : Heap, K.In base → base.Ns mainGlobals mg → LamX.TabB base mg c P → FnOk l.prog w K mg base CX0 13 fa fd ["_law_script"] sp := by
  have e := hfa.symm.trans (PySem.W.mg_of X G a_law)
  cases e
  have T : Txt K mg := ⟨PySem.W.mg_none_of X G z_len, PySem.W.mg_none_of X G z_int, PySem.W.mg_none_of X G z_enumerate, PySem.W.mg_none_of X G z_list, PySem.W.mg_none_of X G z_tuple, PySem.W.mg_none_of X G z_isinstance, PySem.W.mg_none_of X G z_range, PySem.W.mg_none_of X G z_all, PySem.W.mg_none_of X G z_zip, PySem.W.mg_none_of X G z_ValueError, PySem.W.mg_none_of X G z_bool, PySem.W.mg_none_of X G z_str, PySem.W.mg_none_of X G z_set, PySem.W.mg_none_of X G z_any⟩
  have k_fresh := D_fresh.kp
  have F_fresh := def_mkE (st := s_fresh) (ps := ["_law_script"]) X G a_fresh D_fresh fun _ _ _ _ _ _ us hl => match us, hl with | [_], _ => rfl
  have k_fill := D_fill.kp
  have F_fill := def_mkE (st := s_fill) (ps := ["_law_state"]) X G a_fill D_fill fun _ _ _ _ _ _ us hl => match us, hl with | [_], _ => rfl
  have k_take := D_take.kp
  have F_take := def_mkE (st := s_take) (ps := ["_law_state", "_law_many"]) X G a_take D_take fun _ _ _ _ _ _ us hl => match us, hl with | [_, _], _ => rfl
  have k_one := D_one.kp
  have F_one := def_mkE (st := s_one) (ps := ["_law_state", "_law_things"]) X G a_one D_one fun _ _ _ _ _ _ us hl => match us, hl with | [_, _], _ => rfl
  have k_mix := D_mix.kp
  have F_mix := def_mkE (st := s_mix) (ps := ["_law_state", "_law_things"]) X G a_mix D_mix fun _ _ _ _ _ _ us hl => match us, hl with | [_, _], _ => rfl
  have k_same := D_same.kp
  have F_same := def_mkE (st := s_same) (ps := ["_law_found", "_law_due"]) X G a_same D_same fun _ _ _ _ _ _ us hl => match us, hl with | [_, _], _ => rfl
  have k_tried := D_tried.kp
  have F_tried := def_mkE (st := s_tried) (ps := ["_law_deed"]) X G a_tried D_tried fun _ _ _ _ _ _ us hl => match us, hl with | [_], _ => rfl
  have k_error := D_error.kp
  have F_error := def_mkE (st := s_error) (ps := ["_law_e"]) X G a_error D_error fun _ _ _ _ _ _ us hl => match us, hl with | [_], _ => rfl
  have k_other_error := D_other_error.kp
  have F_other_error := def_mkE (st := s_other_error) (ps := ["_law_e"]) X G a_other_error D_other_error fun _ _ _ _ _ _ us hl => match us, hl with | [_], _ => rfl
  have k_plan := D_plan.kp
  have F_plan := def_mkE (st := s_plan) (ps := ["_law_fields", "_law_calls", "_law_far"]) X G a_plan D_plan fun _ _ _ _ _ _ us hl => match us, hl with | [_, _, _], _ => rfl
  have k_deeds := D_deeds.kp
  have F_deeds := def_mkE (st := s_deeds) (ps := ["_law_state", "_law_fields", "_law_many"]) X G a_deeds D_deeds fun _ _ _ _ _ _ us hl => match us, hl with | [_, _, _], _ => rfl
  have k_call := D_call.kp
  have F_call := def_mkE (st := s_call) (ps := ["_law_state", "_law_name", "_law_hand", "_law_fields", "_law_far"]) X G a_call D_call fun _ _ _ _ _ _ us hl => match us, hl with | [_, _, _, _, _], _ => rfl
  have k_kind := D_kind.kp
  have F_kind := def_mkE (st := s_kind) (ps := ["_law_state", "_law_wide", "_law_many", "_law_far"]) X G a_kind D_kind fun _ _ _ _ _ _ us hl => match us, hl with | [_, _, _, _], _ => rfl
  have k_rules := D_rules.kp
  have F_rules := def_mkE (st := s_rules) (ps := ["_law_state", "_law_p"]) X G a_rules D_rules fun _ _ _ _ _ _ us hl => match us, hl with | [_, _], _ => rfl
  have k_l_is_rule := D_l_is_rule.kp
  have F_l_is_rule := def_mkE (st := s_l_is_rule) (ps := ["_law_p", "_law_x"]) X G a_l_is_rule D_l_is_rule fun _ _ _ _ _ _ us hl => match us, hl with | [_, _], _ => rfl
  have k_is_word := D_is_word.kp
  have F_is_word := def_mkE (st := s_is_word) (ps := ["thing"]) X G a_is_word D_is_word fun _ _ _ _ _ _ us hl => match us, hl with | [_], _ => rfl
  have k_is_integer := D_is_integer.kp
  have F_is_integer := def_mkE (st := s_is_integer) (ps := ["thing"]) X G a_is_integer D_is_integer fun _ _ _ _ _ _ us hl => match us, hl with | [_], _ => rfl
  have k_is_list := D_is_list.kp
  have F_is_list := def_mkE (st := s_is_list) (ps := ["thing"]) X G a_is_list D_is_list fun _ _ _ _ _ _ us hl => match us, hl with | [_], _ => rfl
  have k_is_modes := D_is_modes.kp
  have F_is_modes := def_mkE (st := s_is_modes) (ps := ["modes"]) X G a_is_modes D_is_modes fun _ _ _ _ _ _ us hl => match us, hl with | [_], _ => rfl
  have k_is_field := D_is_field.kp
  have F_is_field := def_mkE (st := s_is_field) (ps := ["item", "earlier"]) X G a_is_field D_is_field fun _ _ _ _ _ _ us hl => match us, hl with | [_, _], _ => rfl
  have k_kept_fields := D_kept_fields.kp
  have F_kept_fields := def_mkE (st := s_kept_fields) (ps := ["fields"]) X G a_kept_fields D_kept_fields fun _ _ _ _ _ _ us hl => match us, hl with | [_], _ => rfl
  have k_is_many := D_is_many.kp
  have F_is_many := def_mkE (st := s_is_many) (ps := ["field", "sorts"]) X G a_is_many D_is_many fun _ _ _ _ _ _ us hl => match us, hl with | [_, _], _ => rfl
  have k_is_deed := D_is_deed.kp
  have F_is_deed := def_mkE (st := s_is_deed) (ps := ["pair", "sorts"]) X G a_is_deed D_is_deed fun _ _ _ _ _ _ us hl => match us, hl with | [_, _], _ => rfl
  have k_are_moves := D_are_moves.kp
  have F_are_moves := def_mkE (st := s_are_moves) (ps := ["moves", "modes"]) X G a_are_moves D_are_moves fun _ _ _ _ _ _ us hl => match us, hl with | [_, _], _ => rfl
  have k_has_call_form := D_has_call_form.kp
  have F_has_call_form := def_mkE (st := s_has_call_form) (ps := ["item"]) X G a_has_call_form D_has_call_form fun _ _ _ _ _ _ us hl => match us, hl with | [_], _ => rfl
  have k_are_deeds := D_are_deeds.kp
  have F_are_deeds := def_mkE (st := s_are_deeds) (ps := ["deeds", "sorts"]) X G a_are_deeds D_are_deeds fun _ _ _ _ _ _ us hl => match us, hl with | [_, _], _ => rfl
  have k_is_same := D_is_same.kp
  have F_is_same := def_mkE (st := s_is_same) (ps := ["same", "hand", "sorts"]) X G a_is_same D_is_same fun _ _ _ _ _ _ us hl => match us, hl with | [_, _, _], _ => rfl
  have k_kept_call := D_kept_call.kp
  have F_kept_call := def_mkE (st := s_kept_call) (ps := ["call"]) X G a_kept_call D_kept_call fun _ _ _ _ _ _ us hl => match us, hl with | [_], _ => rfl
  have k_wrong_part := D_wrong_part.kp
  have F_wrong_part := def_mkE (st := s_wrong_part) (ps := ["item", "earlier", "sorts", "modes"]) X G a_wrong_part D_wrong_part fun _ _ _ _ _ _ us hl => match us, hl with | [_, _, _, _], _ => rfl
  have k_kept_calls := D_kept_calls.kp
  have F_kept_calls := def_mkE (st := s_kept_calls) (ps := ["calls", "sorts", "modes"]) X G a_kept_calls D_kept_calls fun _ _ _ _ _ _ us hl => match us, hl with | [_, _, _], _ => rfl
  have k_all_ways := D_all_ways.kp
  have F_all_ways := def_mkE (st := s_all_ways) (ps := ["walk"]) X G a_all_ways D_all_ways fun _ _ _ _ _ _ us hl => match us, hl with | [_], _ => rfl
  have k_useful_ways := D_useful_ways.kp
  have F_useful_ways := def_mkE (st := s_useful_ways) (ps := ["table"]) X G a_useful_ways D_useful_ways fun _ _ _ _ _ _ us hl => match us, hl with | [_], _ => rfl
  have k_useful_places := D_useful_places.kp
  have F_useful_places := def_mkE (st := s_useful_places) (ps := ["table"]) X G a_useful_places D_useful_places fun _ _ _ _ _ _ us hl => match us, hl with | [_], _ => rfl
  have k_told_apart := D_told_apart.kp
  have F_told_apart := def_mkE (st := s_told_apart) (ps := ["table"]) X G a_told_apart D_told_apart fun _ _ _ _ _ _ us hl => match us, hl with | [_], _ => rfl
  have k_number_of_classes := D_number_of_classes.kp
  have F_number_of_classes := def_mkE (st := s_number_of_classes) (ps := ["classes"]) X G a_number_of_classes D_number_of_classes fun _ _ _ _ _ _ us hl => match us, hl with | [_], _ => rfl
  have k_least_machine := D_least_machine.kp
  have F_least_machine := def_mkE (st := s_least_machine) (ps := ["walk"]) X G a_least_machine D_least_machine fun _ _ _ _ _ _ us hl => match us, hl with | [_], _ => rfl
  have k_mark_of := D_mark_of.kp
  have F_mark_of := def_mkE (st := s_mark_of) (ps := ["deed", "word"]) X G a_mark_of D_mark_of fun _ _ _ _ _ _ us hl => match us, hl with | [_, _], _ => rfl
  have k_marks_of := D_marks_of.kp
  have F_marks_of := def_mkE (st := s_marks_of) (ps := ["deeds", "field", "word"]) X G a_marks_of D_marks_of fun _ _ _ _ _ _ us hl => match us, hl with | [_, _, _], _ => rfl
  have k_marked := D_marked.kp
  have F_marked := def_mkE (st := s_marked) (ps := ["content", "mark"]) X G a_marked D_marked fun _ _ _ _ _ _ us hl => match us, hl with | [_, _], _ => rfl
  have k_is_rule := D_is_rule.kp
  have F_is_rule := def_mkE (st := s_is_rule) (ps := ["kind", "rule"]) X G a_is_rule D_is_rule fun _ _ _ _ _ _ us hl => match us, hl with | [_, _], _ => rfl
  have k_is_good := D_is_good.kp
  have F_is_good := def_mkE (st := s_is_good) (ps := ["kind", "rules", "names"]) X G a_is_good D_is_good fun _ _ _ _ _ _ us hl => match us, hl with | [_, _, _], _ => rfl
  have k_freest := D_freest.kp
  have F_freest := FunU.of (st := s_freest) D_freest
  have k_law := D_law.kp
  have k_kinit := D_kinit.kp
  have F_kinit := He5.fun_of (st := s_Kind_init) D_kinit
  obtain ⟨kV_kinit, dc_kinit, pm_kinit, an_kinit, cd_kinit, ct_kinit, e_kinit⟩ := fn_isD D_kinit
  subst e_kinit
  have k_khas := D_khas.kp
  have F_khas := He5.fun_of (st := s_Kind_contains) D_khas
  have B_khas : Binds K _ ["self", "x"] [] := F_khas.binds fun _ _ _ _ _ _ us hl => match us, hl with | [_, _], _ => rfl
  have k_kiter := D_kiter.kp
  have F_kiter := He5.fun_of (st := s_Kind_iter) D_kiter
  have B_kiter : Binds K _ ["self"] [] := F_kiter.binds fun _ _ _ _ _ _ us hl => match us, hl with | [_], _ => rfl
  have k_oinit := D_oinit.kp
  have F_oinit := He5.fun_of (st := s_Orders_init) D_oinit
  have B_oinit : Binds K _ ["self", "kind", "rules"] [] := F_oinit.binds fun _ _ _ _ _ _ us hl => match us, hl with | [_, _, _], _ => rfl
  have k_o_start := D_o_start.kp
  have F_o_start := He5.fun_of (st := s_Orders_start) D_o_start
  have B_o_start : Binds K _ ["self"] [] := F_o_start.binds fun _ _ _ _ _ _ us hl => match us, hl with | [_], _ => rfl
  have k_o_place_behind := D_o_place_behind.kp
  have F_o_place_behind := He5.fun_of (st := s_Orders_place_behind) D_o_place_behind
  have B_o_place_behind : Binds K _ ["self", "place", "name"] [] := F_o_place_behind.binds fun _ _ _ _ _ _ us hl => match us, hl with | [_, _, _], _ => rfl
  have k_o_contents_behind := D_o_contents_behind.kp
  have F_o_contents_behind := He5.fun_of (st := s_Orders_contents_behind) D_o_contents_behind
  have B_o_contents_behind : Binds K _ ["self", "call", "contents"] [] := F_o_contents_behind.binds fun _ _ _ _ _ _ us hl => match us, hl with | [_, _, _], _ => rfl
  have k_o_keeps_rules := D_o_keeps_rules.kp
  have F_o_keeps_rules := He5.fun_of (st := s_Orders_keeps_rules) D_o_keeps_rules
  have B_o_keeps_rules : Binds K _ ["self", "name", "seen"] [] := F_o_keeps_rules.binds fun _ _ _ _ _ _ us hl => match us, hl with | [_, _, _], _ => rfl
  have k_o_ways := D_o_ways.kp
  have F_o_ways := He5.fun_of (st := s_Orders_ways) D_o_ways
  have B_o_ways : Binds K _ ["self", "place"] [] := F_o_ways.binds fun _ _ _ _ _ _ us hl => match us, hl with | [_, _], _ => rfl
  have k_iRL := D_iRL.kp
  have F_iRL := He5.fun_of (st := s_BadRule_init) D_iRL
  have B_iRL : Binds K _ ["self", "index"] [] := F_iRL.binds fun _ _ _ _ _ _ us hl => match us, hl with | [_, _], _ => rfl
  obtain ⟨oc_RL, fc_RL, ic_RL⟩ := errB_ok e_BadRule o_BadRule
  have TRL : ErrC K C_BadRule f_iRL := ⟨oc_RL, m_iRL, t_iRL⟩
  have Z : KCls K C_Kind := ⟨⟨kc_pg, kc_hd, kc_po, kc_sa⟩, kc_n_triples, kc_n_sorts, kc_n_spots, kc_n_modes, kc_n_steps, kc_n_table⟩
  have ZO : OCls K C_Orders := ⟨⟨oc_pg, oc_hd, oc_po, oc_sa⟩, oc_n_kind, oc_n_needed, oc_n_wanted, oc_n_barred, oc_n_counted⟩
  have gK := PySem.W.mg_of X G aC_Kind
  have Cs : Csts K w mg ⟨A_sorts, A_hands, A_sod, A_wd, A_lwd⟩ :=
    { MOST_LETTERS := ⟨_, PySem.W.mg_of X G v_MOST_LETTERS, _, rfl⟩,
      MOST_FIELDS := ⟨_, PySem.W.mg_of X G v_MOST_FIELDS, _, rfl⟩,
      MOST_MODES := ⟨_, PySem.W.mg_of X G v_MOST_MODES, _, rfl⟩,
      MOST_CALLS := ⟨_, PySem.W.mg_of X G v_MOST_CALLS, _, rfl⟩,
      MOST_DEEDS := ⟨_, PySem.W.mg_of X G v_MOST_DEEDS, _, rfl⟩,
      SORTS := ⟨_, PySem.W.mg_of X G v_SORTS, rfl⟩,
      HANDS := ⟨_, PySem.W.mg_of X G v_HANDS, rfl⟩,
      SORTS_OF_DEEDS := ⟨_, PySem.W.mg_of X G v_sod, rfl⟩,
      WORD_DEEDS := ⟨_, PySem.W.mg_of X G v_WORD_DEEDS, rfl⟩,
      t_wd := tupB_ok tu_wd,
      LIST_WORD_DEEDS := ⟨_, PySem.W.mg_of X G v_LIST_WORD_DEEDS, rfl⟩,
      t_sorts := tupB_ok tu_sorts,
      t_hands := tupB_ok tu_hands,
      t_lwd := tupB_ok tu_lwd,
      sodD := He.dicW_ok dsod,
      sodN := sod_all dsod ⟨_, sd_set, tupB_ok td_set⟩ ⟨_, sd_add, tupB_ok td_add⟩ ⟨_, sd_strike, tupB_ok td_strike⟩ ⟨_, sd_fresh, tupB_ok td_fresh⟩ ⟨_, sd_clear, tupB_ok td_clear⟩ }
  have W : ErrN K mg ⟨C_BadField, C_BadModes, C_BadCall, C_UnknownCall, C_BadPlace, C_BadText, C_BadRow, C_BadWord, C_BadWish, C_BadRun, C_BadCallers, C_BadKind, C_BadRule, C_Refused, C_BadThing, C_MakerError⟩ :=
    { g_BadField := PySem.W.mg_of X G aC_BadField,
      g_BadModes := PySem.W.mg_of X G aC_BadModes,
      g_BadCall := PySem.W.mg_of X G aC_BadCall,
      g_UnknownCall := PySem.W.mg_of X G aC_UnknownCall,
      g_BadPlace := PySem.W.mg_of X G aC_BadPlace,
      g_BadText := PySem.W.mg_of X G aC_BadText,
      g_BadRow := PySem.W.mg_of X G aC_BadRow,
      g_BadWord := PySem.W.mg_of X G aC_BadWord,
      g_BadWish := PySem.W.mg_of X G aC_BadWish,
      g_BadRun := PySem.W.mg_of X G aC_BadRun,
      g_BadCallers := PySem.W.mg_of X G aC_BadCallers,
      g_BadKind := PySem.W.mg_of X G aC_BadKind,
      g_BadRule := PySem.W.mg_of X G aC_BadRule,
      g_Refused := PySem.W.mg_of X G aC_Refused,
      g_BadThing := PySem.W.mg_of X G aC_BadThing,
      g_MakerError := PySem.W.mg_of X G aC_MakerError,
      ix_BadRule := errI_of e_BadRule,
      m_BadRule := q_m_BadRule,
      k_BadRule_BadField := q_BadRule_BadField,
      k_BadRule_BadModes := q_BadRule_BadModes,
      k_BadRule_BadCall := q_BadRule_BadCall,
      k_BadRule_UnknownCall := q_BadRule_UnknownCall,
      k_BadRule_BadPlace := q_BadRule_BadPlace,
      k_BadRule_BadText := q_BadRule_BadText,
      k_BadRule_BadRow := q_BadRule_BadRow,
      k_BadRule_BadWord := q_BadRule_BadWord,
      k_BadRule_BadWish := q_BadRule_BadWish,
      k_BadRule_BadRun := q_BadRule_BadRun,
      k_BadRule_BadCallers := q_BadRule_BadCallers,
      k_BadRule_BadKind := q_BadRule_BadKind,
      k_BadRule_BadRule := q_BadRule_BadRule,
      F_BadRule := fc_RL,
      n_BadRule := n_RL_index }
  obtain ⟨cl, Pl, tabl, nPl⟩ := tabB_ok tab_law
  obtain ⟨oc_law, od_law, kV_law, dc_law, pm_law, an_law, ct_law, sl_law, e_law, l_law, c_law⟩ := tab_def a_law D_law tabl
  subst e_law
  refine ⟨PySem.W.fnOf "law" "law" (defArgs s_law) (defBody s_law) (defScope s_law) .none kV_law dc_law pm_law an_law (.ref cl) ct_law, cl, Pl, spLawT K Pl, tabl, nPl, fun s v => .of_eq rfl, fun H a ns hl hP hS => ⟨a, ns, rfl, hS, hl, hP, fun _ => rfl⟩, fun base _ _ TB => ?_⟩
  have c_fresh := ok_fresh (P := l.prog) (w := w) (base := base) F_fresh T
  have c_fill := ok_fill (P := l.prog) (w := w) (base := base) F_fill T
  have c_take := ok_take F_take T c_fill
  have c_one := ok_one F_one T c_take
  have c_mix := ok_mix F_mix T c_take
  have c_deeds := ok_deeds F_deeds T c_take c_one
  have c_call := ok_call F_call T c_take c_one c_deeds
  have c_same := ok_same (P := l.prog) (w := w) (base := base) F_same T 3
  have c_is_word := ok_word (P := l.prog) (w := w) (base := base) F_is_word T Cs
  have c_is_integer := ok_integer (P := l.prog) (w := w) (base := base) F_is_integer T
  have c_is_list := ok_list (P := l.prog) (w := w) (base := base) F_is_list T
  have c_is_modes := ok_modes F_is_modes T Cs c_is_integer
  have c_is_field := ok_field F_is_field T Cs c_is_list c_is_word
  have c_kept_fields := ok_fields F_kept_fields T Cs c_is_list c_is_field
  have c_is_many := ok_many (P := l.prog) (w := w) (base := base) F_is_many T
  have c_is_deed := ok_deed F_is_deed T Cs c_is_list
  have c_are_moves := ok_moves F_are_moves T c_is_integer
  have c_has_call_form := ok_callForm F_has_call_form T c_is_list
  have c_are_deeds := ok_deedsOk F_are_deeds T Cs c_is_deed
  have c_is_same := ok_sameOk F_is_same T c_is_many
  have c_kept_call := ok_keptCall (P := l.prog) (w := w) (base := base) F_kept_call T
  have c_wrong_part := ok_wrong F_wrong_part T Cs c_has_call_form c_is_word c_are_moves c_are_deeds c_is_same
  have c_kept_calls := ok_calls F_kept_calls T Cs c_is_list c_wrong_part c_kept_call
  have I_kinit : FnOk l.prog w K mg base CX0 6 f_kinit _ ["self", "fields", "calls", "modes"] (spKInit K C_Kind) := F_kinit.ok sc_Kind_init (fun vs H Q E h => by obtain ⟨_, _, _, _, _, _, _, _, _, _, rfl, _⟩ := h; rfl) fun cdv A outer s H vs Q E hr h => run_kinit T Z c_kept_fields c_is_modes c_kept_calls hr h
  have c_Kind : KMk l.prog w K mg base C_Kind := ⟨⟨f_kinit, _, ⟨kc_mk, m_kinit, fn_kinit, kc_kp⟩, I_kinit, ⟨fun s us ws _ h1 h2 => match us, ws, h1, h2 with | [_, _, _], [_], _, _ => .of_eq rfl, fun r r2 => r.append r2⟩⟩, gK⟩
  have c_plan := ok_plan F_plan T c_Kind
  have c_kind := ok_kind F_kind T c_take c_one c_mix c_call c_plan
  have Cs3 : MCst mg := ⟨⟨_, PySem.W.mg_of X G v_DONE, _, rfl⟩, ⟨_, PySem.W.mg_of X G v_THE_WORD, _, rfl⟩⟩
  have I_khas := ok_has0 (P := l.prog) (w := w) (base := base) F_khas T Z
  have H_has := (⟨I_khas, m_khas, fn_khas, B_khas⟩ : _ ∧ _ ∧ _ ∧ _)
  have I_kiter := ok_kiter (P := l.prog) (w := w) (base := base) F_kiter T (PySem.W.mg_none_of X G z_iter) Z
  have H_iter := (⟨I_kiter, m_kiter, fn_kiter, B_kiter⟩ : _ ∧ _ ∧ _ ∧ _)
  have c_is_listX := ok_listX (P := l.prog) (w := w) (base := base) F_is_list T
  have c_mark_of := ok_mark (P := l.prog) (w := w) (base := base) F_mark_of T Cs3
  have c_marked := ok_marked (P := l.prog) (w := w) (base := base) F_marked T
  have c_marks_of := ok_marks F_marks_of T c_mark_of
  have M_start : C8.Met l.prog w K mg base 1 C_Orders "start" (spStart K (ordT K C_Orders C_Kind)) [] := ⟨⟨f_o_start, _, ["self"], [], ZO.cls, ⟨m_o_start, fn_o_start, k_o_start⟩, ok_startT F_o_start T ZO, B_o_start, .nil⟩⟩
  have M_keeps_rules : C8.Met l.prog w K mg base 1 C_Orders "keeps_rules" (spKeeps K C_Orders C_Kind) [] := ⟨⟨f_o_keeps_rules, _, ["self", "name", "seen"], [], ZO.cls, ⟨m_o_keeps_rules, fn_o_keeps_rules, k_o_keeps_rules⟩, ok_keeps F_o_keeps_rules T ZO, B_o_keeps_rules, .nil⟩⟩
  have M_contents_behind : C8.Met l.prog w K mg base 3 C_Orders "contents_behind" (spCont32 K C_Orders C_Kind) [] := ⟨⟨f_o_contents_behind, _, ["self", "call", "contents"], [], ZO.cls, ⟨m_o_contents_behind, fn_o_contents_behind, k_o_contents_behind⟩, ok_cont32 F_o_contents_behind T Cs3 ZO Z c_marks_of c_marked, B_o_contents_behind, .nil⟩⟩
  have M_place_behind : C8.Met l.prog w K mg base 4 C_Orders "place_behind" (spPlB K C_Orders C_Kind) [] := ⟨⟨f_o_place_behind, _, ["self", "place", "name"], [], ZO.cls, ⟨m_o_place_behind, fn_o_place_behind, k_o_place_behind⟩, ok_plb F_o_place_behind T Cs3 ZO Z M_keeps_rules M_contents_behind, B_o_place_behind, .nil⟩⟩
  have M_ways : C8.Met l.prog w K mg base 5 C_Orders "ways" (spWays K (ordT K C_Orders C_Kind)) [] := ⟨⟨f_o_ways, _, ["self", "place"], [], ZO.cls, ⟨m_o_ways, fn_o_ways, k_o_ways⟩, ok_ways F_o_ways T ZO Z H_iter M_place_behind, B_o_ways, .nil⟩⟩
  have GO := ordG K C_Orders C_Kind
  have c_all_ways := ok_allw F_all_ways T Cs3 GO M_start M_ways
  have c_useful_places := ok_use (P := l.prog) (w := w) (base := base) F_useful_places T Cs3
  have c_useful_ways := ok_trim F_useful_ways T Cs3 c_useful_places
  have c_noc := ok_noc (P := l.prog) (w := w) (base := base) F_number_of_classes T
  have c_told_apart := ok_apart F_told_apart T Cs3 c_noc
  have c_least := ok_least F_least_machine T Cs3 GO M_start c_all_ways c_useful_ways c_told_apart
  have c_is_ruleP := ok_ruleX F_is_rule T Z c_is_listX H_has
  have r_RL : RaiseC l.prog w K mg base 1 "BadRule" C_BadRule (spErr1 C_BadRule "index") := ⟨⟨f_iRL, _, _, TRL, ok_BadRule F_iRL oc_RL n_RL_index, PySem.W.mg_of X G aC_BadRule, B_iRL⟩⟩
  have U_oinit := FunU.of (st := s_Orders_init) D_oinit
  have I_oinit := ok_oinit U_oinit T ZO Z c_is_listX c_is_ruleP H_iter
  have I_oinitX := ok_oinitX U_oinit T ZO Z c_is_listX c_is_ruleP H_iter r_RL
  have mk_Orders : C8.Mak l.prog w K mg base 4 "Orders" C_Orders (spOInit K C_Orders C_Kind) [] := mak_all ⟨oc_mk, m_oinit, fn_oinit, oc_kp⟩ I_oinit (PySem.W.mg_of X G aC_Orders) ⟨[], .nil, B_oinit⟩
  have c_OrdX : OMkX l.prog w K mg base C_Orders C_Kind C_BadRule := ⟨⟨f_oinit, _, [], ⟨oc_mk, m_oinit, fn_oinit, oc_kp⟩, fn_or (fn_cx I_oinit) I_oinitX, .nil, B_oinit⟩, PySem.W.mg_of X G aC_Orders⟩
  have I_free := fn_or (fn_cx (ok_freest F_freest T mk_Orders c_least)) (ok_freestX F_freest T c_OrdX c_least)
  obtain ⟨ds_free, dv_free, b_free⟩ : ∃ ds, Vals [] ds ∧ Binds K _ ["kind", "rules"] ds := FunD.binds1 D_freest 2 1 (by simp) rfl fun T kV doc pm an cdv ct us its h1 h2 => match us, its, h1, h2 with | [_, _], [_], _, _ => ⟨_, rfl, rfl⟩
  cases dv_free
  have c_free := (⟨⟨f_freest, _, _, I_free, PySem.W.mg_of X G a_freest, k_freest, b_free⟩⟩ : Cal l.prog w K mg base (L2.CX l.prog w) 8 "freest" _)
  have I_good := fn_or (fn_cx (ok_good F_is_good T Cs3 mk_Orders c_is_listX M_start M_place_behind H_has)) (ok_goodX F_is_good T Cs3 c_OrdX c_is_listX M_start M_place_behind H_has)
  have c_good := (⟨⟨f_is_good, _, _, I_good, F_is_good.mgf, F_is_good.fn.kp, F_is_good.bi⟩⟩ : Cal l.prog w K mg base (L2.CX l.prog w) 6 "is_good" _)
  have c_rules := ok_lrules F_rules T c_take c_one
  have c_l_is_rule := ok_lisrule (P := l.prog) (w := w) (base := base) F_l_is_rule T
  have F_oth := ok_errO (P := l.prog) (w := w) (base := base) F_other_error T W
  have F_err := ok_errw (P := l.prog) (w := w) (base := base) F_error T W F_oth ⟨PySem.W.mg_of X G a_other_error, k_other_error, F_other_error.bi⟩
  refine fn_of l_law c_law sc_law (fun vs H Q E h => by obtain ⟨a, ns, rfl, _⟩ := h; rfl) fun A outer s H vs Q E hr hsp => ?_
  obtain ⟨a, ns, rfl, hS, hn, hP, k⟩ := hsp
  obtain ⟨t, h1, h2⟩ := run_law T W c_fresh c_kind c_one c_take c_same c_rules c_l_is_rule c_free c_good F_tried F_err ⟨PySem.W.mg_of X G a_error, k_error, F_error.bi⟩ TB hr hS hn hP k
  exact ⟨t, h1.nox, h2⟩
theorem facts {l : PySem.W.OpenLaw} {w : World} {K : PySem.W.Frag} {h : Heap} {mg : Str → Option Value} {fa : Addr} (X : K.In h) (G : h.Ns mainGlobals mg) (hfa : mg "law" = some (.ref fa)) (c : SaysM fsAll dsAll tsAll w K) :
    ∃ (fd : FuncData) (c P : Addr) (sp : Sp), PySem.W.tabIn K "law" = some (c, P) ∧ K.lookup P = none ∧ (∀ (s : Shared) (u : Value), BindsTo s fd ⟨[u], []⟩ [("_law_script", u)]) ∧
        (∀ (H : Hp) (a : Addr) (ns : List Int), ns.length ≤ 63 → H P = some (.tbl #[]) → SqL K H a (ns.map V.int) → sp [.ref a] H (fun v _ => v = .bl true) fun _ _ _ => False) ∧
        ∀ base : Heap, K.In base → base.Ns mainGlobals mg → LamX.TabB base mg c P → FnOk l.prog w K mg base CX0 13 fa fd ["_law_script"] sp := by
  obtain ⟨fd_fresh, D_fresh⟩ : ∃ fd, FunD K "_law_fresh" "_law_fresh" (defArgs s_fresh) (defBody s_fresh) (defScope s_fresh) [] [] (He.ga K "_law_fresh") fd := c.d 0 0 (d := dA_fresh) rfl rfl
  obtain ⟨fd_fill, D_fill⟩ : ∃ fd, FunD K "_law_fill" "_law_fill" (defArgs s_fill) (defBody s_fill) (defScope s_fill) [] [] (He.ga K "_law_fill") fd := c.d 0 1 (d := dA_fill) rfl rfl
  obtain ⟨fd_take, D_take⟩ : ∃ fd, FunD K "_law_take" "_law_take" (defArgs s_take) (defBody s_take) (defScope s_take) [] [] (He.ga K "_law_take") fd := c.d 0 2 (d := dA_take) rfl rfl
  obtain ⟨fd_one, D_one⟩ : ∃ fd, FunD K "_law_one" "_law_one" (defArgs s_one) (defBody s_one) (defScope s_one) [] [] (He.ga K "_law_one") fd := c.d 0 3 (d := dA_one) rfl rfl
  obtain ⟨fd_mix, D_mix⟩ : ∃ fd, FunD K "_law_mix" "_law_mix" (defArgs s_mix) (defBody s_mix) (defScope s_mix) [] [] (He.ga K "_law_mix") fd := c.d 0 4 (d := dA_mix) rfl rfl
  obtain ⟨fd_same, D_same⟩ : ∃ fd, FunD K "_law_same" "_law_same" (defArgs s_same) (defBody s_same) (defScope s_same) [] [] (He.ga K "_law_same") fd := c.d 0 5 (d := dA_same) rfl rfl
  obtain ⟨fd_tried, D_tried⟩ : ∃ fd, FunD K "_law_tried" "_law_tried" (defArgs s_tried) (defBody s_tried) (defScope s_tried) [] [] (He.ga K "_law_tried") fd := c.d 0 6 (d := dA_tried) rfl rfl
  obtain ⟨fd_error, D_error⟩ : ∃ fd, FunD K "_law_error" "_law_error" (defArgs s_error) (defBody s_error) (defScope s_error) [] [] (He.ga K "_law_error") fd := c.d 0 7 (d := dA_error) rfl rfl
  obtain ⟨fd_other_error, D_other_error⟩ : ∃ fd, FunD K "_law_other_error" "_law_other_error" (defArgs s_other_error) (defBody s_other_error) (defScope s_other_error) [] [] (He.ga K "_law_other_error") fd := c.d 0 8 (d := dA_other_error) rfl rfl
  obtain ⟨fd_plan, D_plan⟩ : ∃ fd, FunD K "_law_plan" "_law_plan" (defArgs s_plan) (defBody s_plan) (defScope s_plan) [] [] (He.ga K "_law_plan") fd := c.d 0 9 (d := dA_plan) rfl rfl
  obtain ⟨fd_deeds, D_deeds⟩ : ∃ fd, FunD K "_law_deeds" "_law_deeds" (defArgs s_deeds) (defBody s_deeds) (defScope s_deeds) [] [] (He.ga K "_law_deeds") fd := c.d 0 10 (d := dA_deeds) rfl rfl
  obtain ⟨fd_call, D_call⟩ : ∃ fd, FunD K "_law_call" "_law_call" (defArgs s_call) (defBody s_call) (defScope s_call) [] [] (He.ga K "_law_call") fd := c.d 0 11 (d := dA_call) rfl rfl
  obtain ⟨fd_kind, D_kind⟩ : ∃ fd, FunD K "_law_kind" "_law_kind" (defArgs s_kind) (defBody s_kind) (defScope s_kind) [] [] (He.ga K "_law_kind") fd := c.d 0 12 (d := dA_kind) rfl rfl
  obtain ⟨fd_rules, D_rules⟩ : ∃ fd, FunD K "_law_rules" "_law_rules" (defArgs s_rules) (defBody s_rules) (defScope s_rules) [] [] (He.ga K "_law_rules") fd := c.d 0 13 (d := dA_rules) rfl rfl
  obtain ⟨fd_l_is_rule, D_l_is_rule⟩ : ∃ fd, FunD K "_law_is_rule" "_law_is_rule" (defArgs s_l_is_rule) (defBody s_l_is_rule) (defScope s_l_is_rule) [] [] (He.ga K "_law_is_rule") fd := c.d 0 14 (d := dA_l_is_rule) rfl rfl
  obtain ⟨fd_is_word, D_is_word⟩ : ∃ fd, FunD K "is_word" "is_word" (defArgs s_is_word) (defBody s_is_word) (defScope s_is_word) [] [] (He.ga K "is_word") fd := c.d 0 15 (d := dA_is_word) rfl rfl
  obtain ⟨fd_is_integer, D_is_integer⟩ : ∃ fd, FunD K "is_integer" "is_integer" (defArgs s_is_integer) (defBody s_is_integer) (defScope s_is_integer) [] [] (He.ga K "is_integer") fd := c.d 0 16 (d := dA_is_integer) rfl rfl
  obtain ⟨fd_is_list, D_is_list⟩ : ∃ fd, FunD K "is_list" "is_list" (defArgs s_is_list) (defBody s_is_list) (defScope s_is_list) [] [] (He.ga K "is_list") fd := c.d 0 17 (d := dA_is_list) rfl rfl
  obtain ⟨fd_is_modes, D_is_modes⟩ : ∃ fd, FunD K "is_modes" "is_modes" (defArgs s_is_modes) (defBody s_is_modes) (defScope s_is_modes) [] [] (He.ga K "is_modes") fd := c.d 0 18 (d := dA_is_modes) rfl rfl
  obtain ⟨fd_is_field, D_is_field⟩ : ∃ fd, FunD K "is_field" "is_field" (defArgs s_is_field) (defBody s_is_field) (defScope s_is_field) [] [] (He.ga K "is_field") fd := c.d 0 19 (d := dA_is_field) rfl rfl
  obtain ⟨fd_kept_fields, D_kept_fields⟩ : ∃ fd, FunD K "kept_fields" "kept_fields" (defArgs s_kept_fields) (defBody s_kept_fields) (defScope s_kept_fields) [] [] (He.ga K "kept_fields") fd := c.d 1 0 (d := dA_kept_fields) rfl rfl
  obtain ⟨fd_is_many, D_is_many⟩ : ∃ fd, FunD K "is_many" "is_many" (defArgs s_is_many) (defBody s_is_many) (defScope s_is_many) [] [] (He.ga K "is_many") fd := c.d 1 1 (d := dA_is_many) rfl rfl
  obtain ⟨fd_is_deed, D_is_deed⟩ : ∃ fd, FunD K "is_deed" "is_deed" (defArgs s_is_deed) (defBody s_is_deed) (defScope s_is_deed) [] [] (He.ga K "is_deed") fd := c.d 1 2 (d := dA_is_deed) rfl rfl
  obtain ⟨fd_are_moves, D_are_moves⟩ : ∃ fd, FunD K "are_moves" "are_moves" (defArgs s_are_moves) (defBody s_are_moves) (defScope s_are_moves) [] [] (He.ga K "are_moves") fd := c.d 1 3 (d := dA_are_moves) rfl rfl
  obtain ⟨fd_has_call_form, D_has_call_form⟩ : ∃ fd, FunD K "has_call_form" "has_call_form" (defArgs s_has_call_form) (defBody s_has_call_form) (defScope s_has_call_form) [] [] (He.ga K "has_call_form") fd := c.d 1 4 (d := dA_has_call_form) rfl rfl
  obtain ⟨fd_are_deeds, D_are_deeds⟩ : ∃ fd, FunD K "are_deeds" "are_deeds" (defArgs s_are_deeds) (defBody s_are_deeds) (defScope s_are_deeds) [] [] (He.ga K "are_deeds") fd := c.d 1 5 (d := dA_are_deeds) rfl rfl
  obtain ⟨fd_is_same, D_is_same⟩ : ∃ fd, FunD K "is_same" "is_same" (defArgs s_is_same) (defBody s_is_same) (defScope s_is_same) [] [] (He.ga K "is_same") fd := c.d 1 6 (d := dA_is_same) rfl rfl
  obtain ⟨fd_kept_call, D_kept_call⟩ : ∃ fd, FunD K "kept_call" "kept_call" (defArgs s_kept_call) (defBody s_kept_call) (defScope s_kept_call) [] [] (He.ga K "kept_call") fd := c.d 1 7 (d := dA_kept_call) rfl rfl
  obtain ⟨fd_wrong_part, D_wrong_part⟩ : ∃ fd, FunD K "wrong_part" "wrong_part" (defArgs s_wrong_part) (defBody s_wrong_part) (defScope s_wrong_part) [] [] (He.ga K "wrong_part") fd := c.d 1 8 (d := dA_wrong_part) rfl rfl
  obtain ⟨fd_kept_calls, D_kept_calls⟩ : ∃ fd, FunD K "kept_calls" "kept_calls" (defArgs s_kept_calls) (defBody s_kept_calls) (defScope s_kept_calls) [] [] (He.ga K "kept_calls") fd := c.d 1 9 (d := dA_kept_calls) rfl rfl
  obtain ⟨fd_all_ways, D_all_ways⟩ : ∃ fd, FunD K "all_ways" "all_ways" (defArgs s_all_ways) (defBody s_all_ways) (defScope s_all_ways) [] [] (He.ga K "all_ways") fd := c.d 1 10 (d := dA_all_ways) rfl rfl
  obtain ⟨fd_useful_ways, D_useful_ways⟩ : ∃ fd, FunD K "useful_ways" "useful_ways" (defArgs s_useful_ways) (defBody s_useful_ways) (defScope s_useful_ways) [] [] (He.ga K "useful_ways") fd := c.d 1 11 (d := dA_useful_ways) rfl rfl
  obtain ⟨fd_useful_places, D_useful_places⟩ : ∃ fd, FunD K "useful_places" "useful_places" (defArgs s_useful_places) (defBody s_useful_places) (defScope s_useful_places) [] [] (He.ga K "useful_places") fd := c.d 1 12 (d := dA_useful_places) rfl rfl
  obtain ⟨fd_told_apart, D_told_apart⟩ : ∃ fd, FunD K "told_apart" "told_apart" (defArgs s_told_apart) (defBody s_told_apart) (defScope s_told_apart) [] [] (He.ga K "told_apart") fd := c.d 1 13 (d := dA_told_apart) rfl rfl
  obtain ⟨fd_number_of_classes, D_number_of_classes⟩ : ∃ fd, FunD K "number_of_classes" "number_of_classes" (defArgs s_number_of_classes) (defBody s_number_of_classes) (defScope s_number_of_classes) [] [] (He.ga K "number_of_classes") fd := c.d 1 14 (d := dA_number_of_classes) rfl rfl
  obtain ⟨fd_least_machine, D_least_machine⟩ : ∃ fd, FunD K "least_machine" "least_machine" (defArgs s_least_machine) (defBody s_least_machine) (defScope s_least_machine) [] [] (He.ga K "least_machine") fd := c.d 1 15 (d := dA_least_machine) rfl rfl
  obtain ⟨fd_mark_of, D_mark_of⟩ : ∃ fd, FunD K "mark_of" "mark_of" (defArgs s_mark_of) (defBody s_mark_of) (defScope s_mark_of) [] [] (He.ga K "mark_of") fd := c.d 1 16 (d := dA_mark_of) rfl rfl
  obtain ⟨fd_marks_of, D_marks_of⟩ : ∃ fd, FunD K "marks_of" "marks_of" (defArgs s_marks_of) (defBody s_marks_of) (defScope s_marks_of) [] [] (He.ga K "marks_of") fd := c.d 1 17 (d := dA_marks_of) rfl rfl
  obtain ⟨fd_marked, D_marked⟩ : ∃ fd, FunD K "marked" "marked" (defArgs s_marked) (defBody s_marked) (defScope s_marked) [] [] (He.ga K "marked") fd := c.d 1 18 (d := dA_marked) rfl rfl
  obtain ⟨fd_is_rule, D_is_rule⟩ : ∃ fd, FunD K "is_rule" "is_rule" (defArgs s_is_rule) (defBody s_is_rule) (defScope s_is_rule) [] [] (He.ga K "is_rule") fd := c.d 1 19 (d := dA_is_rule) rfl rfl
  obtain ⟨fd_is_good, D_is_good⟩ : ∃ fd, FunD K "is_good" "is_good" (defArgs s_is_good) (defBody s_is_good) (defScope s_is_good) [] [] (He.ga K "is_good") fd := c.d 2 0 (d := dA_is_good) rfl rfl
  obtain ⟨fd_freest, D_freest⟩ : ∃ fd, FunD K "freest" "freest" (defArgs s_freest) (defBody s_freest) (defScope s_freest) [.ref (He.dflAt ("freest", none) 0 K)] [] (He.ga K "freest") fd := c.d 2 1 (d := dA_freest) rfl rfl
  obtain ⟨fd_law, D_law⟩ : ∃ fd, FunD K "law" "law" (defArgs s_law) (defBody s_law) (defScope s_law) [] [] (He.ga K "law") fd := c.d 2 2 (d := dA_law) rfl rfl
  obtain ⟨fd_kinit, D_kinit⟩ : ∃ fd, FunD K "__init__" "Kind.__init__" (defArgs s_Kind_init) (defBody s_Kind_init) (defScope s_Kind_init) [] [] (He.ma K (He.ga K "Kind") "__init__") fd := c.d 2 3 (d := dA_kinit) rfl rfl
  obtain ⟨fd_khas, D_khas⟩ : ∃ fd, FunD K "__contains__" "Kind.__contains__" (defArgs s_Kind_contains) (defBody s_Kind_contains) (defScope s_Kind_contains) [] [] (He.ma K (He.ga K "Kind") "__contains__") fd := c.d 2 4 (d := dA_khas) rfl rfl
  obtain ⟨fd_kiter, D_kiter⟩ : ∃ fd, FunD K "__iter__" "Kind.__iter__" (defArgs s_Kind_iter) (defBody s_Kind_iter) (defScope s_Kind_iter) [] [] (He.ma K (He.ga K "Kind") "__iter__") fd := c.d 2 5 (d := dA_kiter) rfl rfl
  obtain ⟨fd_oinit, D_oinit⟩ : ∃ fd, FunD K "__init__" "Orders.__init__" (defArgs s_Orders_init) (defBody s_Orders_init) (defScope s_Orders_init) [] [] (He.ma K (He.ga K "Orders") "__init__") fd := c.d 2 6 (d := dA_oinit) rfl rfl
  obtain ⟨fd_o_start, D_o_start⟩ : ∃ fd, FunD K "start" "Orders.start" (defArgs s_Orders_start) (defBody s_Orders_start) (defScope s_Orders_start) [] [] (He.ma K (He.ga K "Orders") "start") fd := c.d 2 7 (d := dA_o_start) rfl rfl
  obtain ⟨fd_o_place_behind, D_o_place_behind⟩ : ∃ fd, FunD K "place_behind" "Orders.place_behind" (defArgs s_Orders_place_behind) (defBody s_Orders_place_behind) (defScope s_Orders_place_behind) [] [] (He.ma K (He.ga K "Orders") "place_behind") fd := c.d 2 8 (d := dA_o_place_behind) rfl rfl
  obtain ⟨fd_o_contents_behind, D_o_contents_behind⟩ : ∃ fd, FunD K "contents_behind" "Orders.contents_behind" (defArgs s_Orders_contents_behind) (defBody s_Orders_contents_behind) (defScope s_Orders_contents_behind) [] [] (He.ma K (He.ga K "Orders") "contents_behind") fd := c.d 2 9 (d := dA_o_contents_behind) rfl rfl
  obtain ⟨fd_o_keeps_rules, D_o_keeps_rules⟩ : ∃ fd, FunD K "keeps_rules" "Orders.keeps_rules" (defArgs s_Orders_keeps_rules) (defBody s_Orders_keeps_rules) (defScope s_Orders_keeps_rules) [] [] (He.ma K (He.ga K "Orders") "keeps_rules") fd := c.d 2 10 (d := dA_o_keeps_rules) rfl rfl
  obtain ⟨fd_o_ways, D_o_ways⟩ : ∃ fd, FunD K "ways" "Orders.ways" (defArgs s_Orders_ways) (defBody s_Orders_ways) (defScope s_Orders_ways) [] [] (He.ma K (He.ga K "Orders") "ways") fd := c.d 2 11 (d := dA_o_ways) rfl rfl
  obtain ⟨fd_iRL, D_iRL⟩ : ∃ fd, FunD K "__init__" "BadRule.__init__" (defArgs s_BadRule_init) (defBody s_BadRule_init) (defScope s_BadRule_init) [] [] (He.ma K (He.ga K "BadRule") "__init__") fd := c.d 2 12 (d := dA_iRL) rfl rfl
  obtain ⟨tk_MOST_LETTERS, x_v_MOST_LETTERS⟩ := intB_ok (c.f 6 4 rfl rfl)
  obtain ⟨tk_MOST_FIELDS, x_v_MOST_FIELDS⟩ := intB_ok (c.f 6 5 rfl rfl)
  obtain ⟨tk_MOST_MODES, x_v_MOST_MODES⟩ := intB_ok (c.f 6 6 rfl rfl)
  obtain ⟨tk_MOST_CALLS, x_v_MOST_CALLS⟩ := intB_ok (c.f 6 7 rfl rfl)
  obtain ⟨tk_MOST_DEEDS, x_v_MOST_DEEDS⟩ := intB_ok (c.f 6 8 rfl rfl)
  obtain ⟨tk_DONE, x_v_DONE⟩ := intB_ok (c.f 6 9 rfl rfl)
  obtain ⟨tk_THE_WORD, x_v_THE_WORD⟩ := intB_ok (c.f 6 10 rfl rfl)
  exact all_mk X G hfa
    (of_decide_eq_true (c.f 0 0 rfl rfl))
    D_fresh
    (of_decide_eq_true (c.f 0 1 rfl rfl))
    D_fill
    (of_decide_eq_true (c.f 0 2 rfl rfl))
    D_take
    (of_decide_eq_true (c.f 0 3 rfl rfl))
    D_one
    (of_decide_eq_true (c.f 0 4 rfl rfl))
    D_mix
    (of_decide_eq_true (c.f 0 5 rfl rfl))
    D_same
    (of_decide_eq_true (c.f 0 6 rfl rfl))
    D_tried
    (of_decide_eq_true (c.f 0 7 rfl rfl))
    D_error
    (of_decide_eq_true (c.f 0 8 rfl rfl))
    D_other_error
    (of_decide_eq_true (c.f 0 9 rfl rfl))
    D_plan
    (of_decide_eq_true (c.f 0 10 rfl rfl))
    D_deeds
    (of_decide_eq_true (c.f 0 11 rfl rfl))
    D_call
    (of_decide_eq_true (c.f 0 12 rfl rfl))
    D_kind
    (of_decide_eq_true (c.f 0 13 rfl rfl))
    D_rules
    (of_decide_eq_true (c.f 0 14 rfl rfl))
    D_l_is_rule
    (of_decide_eq_true (c.f 0 15 rfl rfl))
    D_is_word
    (of_decide_eq_true (c.f 0 16 rfl rfl))
    D_is_integer
    (of_decide_eq_true (c.f 0 17 rfl rfl))
    D_is_list
    (of_decide_eq_true (c.f 0 18 rfl rfl))
    D_is_modes
    (of_decide_eq_true (c.f 0 19 rfl rfl))
    D_is_field
    (of_decide_eq_true (c.f 1 0 rfl rfl))
    D_kept_fields
    (of_decide_eq_true (c.f 1 1 rfl rfl))
    D_is_many
    (of_decide_eq_true (c.f 1 2 rfl rfl))
    D_is_deed
    (of_decide_eq_true (c.f 1 3 rfl rfl))
    D_are_moves
    (of_decide_eq_true (c.f 1 4 rfl rfl))
    D_has_call_form
    (of_decide_eq_true (c.f 1 5 rfl rfl))
    D_are_deeds
    (of_decide_eq_true (c.f 1 6 rfl rfl))
    D_is_same
    (of_decide_eq_true (c.f 1 7 rfl rfl))
    D_kept_call
    (of_decide_eq_true (c.f 1 8 rfl rfl))
    D_wrong_part
    (of_decide_eq_true (c.f 1 9 rfl rfl))
    D_kept_calls
    (of_decide_eq_true (c.f 1 10 rfl rfl))
    D_all_ways
    (of_decide_eq_true (c.f 1 11 rfl rfl))
    D_useful_ways
    (of_decide_eq_true (c.f 1 12 rfl rfl))
    D_useful_places
    (of_decide_eq_true (c.f 1 13 rfl rfl))
    D_told_apart
    (of_decide_eq_true (c.f 1 14 rfl rfl))
    D_number_of_classes
    (of_decide_eq_true (c.f 1 15 rfl rfl))
    D_least_machine
    (of_decide_eq_true (c.f 1 16 rfl rfl))
    D_mark_of
    (of_decide_eq_true (c.f 1 17 rfl rfl))
    D_marks_of
    (of_decide_eq_true (c.f 1 18 rfl rfl))
    D_marked
    (of_decide_eq_true (c.f 1 19 rfl rfl))
    D_is_rule
    (of_decide_eq_true (c.f 2 0 rfl rfl))
    D_is_good
    (of_decide_eq_true (c.f 2 1 rfl rfl))
    D_freest
    (of_decide_eq_true (c.f 2 2 rfl rfl))
    D_law
    (c.f 2 3 rfl rfl)
    (of_decide_eq_true (c.f 2 4 rfl rfl))
    (of_decide_eq_true (c.f 2 5 rfl rfl))
    (of_decide_eq_true (c.f 2 6 rfl rfl))
    (of_decide_eq_true (c.f 2 7 rfl rfl))
    (of_decide_eq_true (c.f 2 8 rfl rfl))
    (of_decide_eq_true (c.f 2 9 rfl rfl))
    (of_decide_eq_true (c.f 2 10 rfl rfl))
    (of_decide_eq_true (c.f 2 11 rfl rfl))
    (of_decide_eq_true (c.f 2 12 rfl rfl))
    (of_decide_eq_true (c.f 2 13 rfl rfl))
    (of_decide_eq_true (c.f 2 14 rfl rfl))
    (of_decide_eq_true (c.f 2 15 rfl rfl))
    (of_decide_eq_true (c.f 2 16 rfl rfl))
    (of_decide_eq_true (c.f 2 17 rfl rfl))
    (of_decide_eq_true (c.f 2 18 rfl rfl))
    (of_decide_eq_true (c.f 2 19 rfl rfl))
    (of_decide_eq_true (c.f 3 0 rfl rfl))
    (of_decide_eq_true (c.f 3 1 rfl rfl))
    (of_decide_eq_true (c.f 3 2 rfl rfl))
    D_kinit
    (c.f 3 3 rfl rfl)
    (of_decide_eq_true (c.f 3 4 rfl rfl))
    D_khas
    (c.f 3 5 rfl rfl)
    (of_decide_eq_true (c.f 3 6 rfl rfl))
    D_kiter
    (c.f 3 7 rfl rfl)
    (of_decide_eq_true (c.f 3 8 rfl rfl))
    (of_decide_eq_true (c.f 3 9 rfl rfl))
    D_oinit
    (c.f 3 10 rfl rfl)
    (of_decide_eq_true (c.f 3 11 rfl rfl))
    D_o_start
    (c.f 3 12 rfl rfl)
    (of_decide_eq_true (c.f 3 13 rfl rfl))
    D_o_place_behind
    (c.f 3 14 rfl rfl)
    (of_decide_eq_true (c.f 3 15 rfl rfl))
    D_o_contents_behind
    (c.f 3 16 rfl rfl)
    (of_decide_eq_true (c.f 3 17 rfl rfl))
    D_o_keeps_rules
    (c.f 3 18 rfl rfl)
    (of_decide_eq_true (c.f 3 19 rfl rfl))
    D_o_ways
    (c.f 4 0 rfl rfl)
    (of_decide_eq_true (c.f 4 1 rfl rfl))
    D_iRL
    (c.f 4 2 rfl rfl)
    (of_decide_eq_true (c.f 4 3 rfl rfl))
    (of_decide_eq_true (c.f 4 4 rfl rfl))
    (c.f 4 5 rfl rfl)
    (c.f 4 6 rfl rfl)
    (c.f 4 7 rfl rfl)
    (c.f 4 8 rfl rfl)
    (c.f 4 9 rfl rfl)
    (c.f 4 10 rfl rfl)
    (c.f 4 11 rfl rfl)
    (of_decide_eq_true (c.f 4 12 rfl rfl))
    (of_decide_eq_true (c.f 4 13 rfl rfl))
    (of_decide_eq_true (c.f 4 14 rfl rfl))
    (of_decide_eq_true (c.f 4 15 rfl rfl))
    (of_decide_eq_true (c.f 4 16 rfl rfl))
    (of_decide_eq_true (c.f 4 17 rfl rfl))
    (of_decide_eq_true (c.f 4 18 rfl rfl))
    (c.f 4 19 rfl rfl)
    (c.f 5 0 rfl rfl)
    (c.f 5 1 rfl rfl)
    (c.f 5 2 rfl rfl)
    (c.f 5 3 rfl rfl)
    (of_decide_eq_true (c.f 5 4 rfl rfl))
    (of_decide_eq_true (c.f 5 5 rfl rfl))
    (of_decide_eq_true (c.f 5 6 rfl rfl))
    (of_decide_eq_true (c.f 5 7 rfl rfl))
    (of_decide_eq_true (c.f 5 8 rfl rfl))
    (of_decide_eq_true (c.f 5 9 rfl rfl))
    (of_decide_eq_true (c.f 5 10 rfl rfl))
    (of_decide_eq_true (c.f 5 11 rfl rfl))
    (of_decide_eq_true (c.f 5 12 rfl rfl))
    (of_decide_eq_true (c.f 5 13 rfl rfl))
    (of_decide_eq_true (c.f 5 14 rfl rfl))
    (of_decide_eq_true (c.f 5 15 rfl rfl))
    (of_decide_eq_true (c.f 5 16 rfl rfl))
    (of_decide_eq_true (c.f 5 17 rfl rfl))
    (of_decide_eq_true (c.f 5 18 rfl rfl))
    (of_decide_eq_true (c.f 5 19 rfl rfl))
    (of_decide_eq_true (c.f 6 0 rfl rfl))
    (of_decide_eq_true (c.f 6 1 rfl rfl))
    (of_decide_eq_true (c.f 6 2 rfl rfl))
    (of_decide_eq_true (c.f 6 3 rfl rfl))
    x_v_MOST_LETTERS
    x_v_MOST_FIELDS
    x_v_MOST_MODES
    x_v_MOST_CALLS
    x_v_MOST_DEEDS
    x_v_DONE
    x_v_THE_WORD
    (of_decide_eq_true (c.f 6 11 rfl rfl))
    (c.f 6 12 rfl rfl)
    (of_decide_eq_true (c.f 6 13 rfl rfl))
    (c.f 6 14 rfl rfl)
    (of_decide_eq_true (c.f 6 15 rfl rfl))
    (c.f 6 16 rfl rfl)
    (of_decide_eq_true (c.f 6 17 rfl rfl))
    (c.f 6 18 rfl rfl)
    (of_decide_eq_true (c.f 6 19 rfl rfl))
    (of_decide_eq_true (c.f 7 0 rfl rfl))
    (c.f 7 1 rfl rfl)
    (of_decide_eq_true (c.f 7 2 rfl rfl))
    (c.f 7 3 rfl rfl)
    (of_decide_eq_true (c.f 7 4 rfl rfl))
    (c.f 7 5 rfl rfl)
    (of_decide_eq_true (c.f 7 6 rfl rfl))
    (c.f 7 7 rfl rfl)
    (of_decide_eq_true (c.f 7 8 rfl rfl))
    (c.f 7 9 rfl rfl)
    (c.t 0 rfl)
    (of_decide_eq_true (c.f 7 10 rfl rfl))
    (of_decide_eq_true (c.f 7 11 rfl rfl))
    (of_decide_eq_true (c.f 7 12 rfl rfl))
    (of_decide_eq_true (c.f 7 13 rfl rfl))
    (of_decide_eq_true (c.f 7 14 rfl rfl))
    (of_decide_eq_true (c.f 7 15 rfl rfl))
    (of_decide_eq_true (c.f 7 16 rfl rfl))
    (of_decide_eq_true (c.f 7 17 rfl rfl))
    (of_decide_eq_true (c.f 7 18 rfl rfl))
    (of_decide_eq_true (c.f 7 19 rfl rfl))
    (of_decide_eq_true (c.f 8 0 rfl rfl))
    (of_decide_eq_true (c.f 8 1 rfl rfl))
    (of_decide_eq_true (c.f 8 2 rfl rfl))
    (of_decide_eq_true (c.f 8 3 rfl rfl))
end MK
open PySem PySem.W PySem.Calls PyProof.Rows in
set_option maxRecDepth 100000 in
set_option maxHeartbeats 0 in
theorem PySem.Challenge.cw_makerlines_k32_rules_refused_holds : PySem.Challenge.rw_makerlines_k32_rules_refused.Holds := by
  w_on; o_law
  refine HandSHeadRun.head_any (r := OpenLaw.row PySem.Challenge.rw_makerlines_k32_rules_refused) (q := view (OpenLaw.row PySem.Challenge.rw_makerlines_k32_rules_refused).prog [85]) (H := MK.hk) (ob := MK.ob) (M := 15000) (loose := MK.names) (d := HandSHeadRun.topDef (OpenLaw.row PySem.Challenge.rw_makerlines_k32_rules_refused).prog 85) (kwd := []) MK.ob_eq
    (by kernel_rfl) (fun s => by kernel_rfl) MK.run (by kernel_rfl) (by kernel_rfl) (by kernel_rfl) (by rfl) (by first | assumption | decide +kernel) (by decide +kernel) ⟨rfl, rfl, rfl, rfl, rfl, by decide +kernel⟩ ?hw ?hc
  case hw => w_witness2
  case hc =>
    refine MK.walk_tabE (l := PySem.Challenge.rw_makerlines_k32_rules_refused) (k := 13) (x := "_law_script") (by rfl) (by kernel_rfl) ⟨rfl, by decide, by decide⟩ (by kernel_rfl) (by kernel_rfl) ?F
    intro w mg fa h Y G hmg
    obtain ⟨K, KX, c⟩ := Y
    exact ⟨K, KX, MK.facts KX G hmg c⟩
#print axioms PySem.Challenge.cw_makerlines_k32_rules_refused_holds
