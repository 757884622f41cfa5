import PyProof.Rows.All
import Wide.All
import OpenK.AllK
import Wide.FinOn
import HandS.Base
import HandS.Call
import HandS.List
import HandS.Iter
import KE.GoesEnum
import HandS.Exc
import HandS.ExcInit
import HandS.ExcIs
import HandS.IsInst
import HandS.ForMost
import HandS.ExcValue
import KE.KExcIs
import HandS.Defaults
import HandS.TupLe
import HandS.Zip
import HandS.Walk
import HandS.More
import HandS.NoneIn
import HandS.Conv
import HandS.Strs
import HandS.DictComp
import OpenK.KMeth
import HandS.OwnEq
import PyProof.InstNe
import PyProof.EqKinds
import HandS.HotCalls
import HandS.ExcField
import HandS.Lambda
import HandS.HeadHook3
import HandS.EndTab
import HandS.EndOwn
import HandS.MakeKwOnly
import HandS.IterNext
import HandS.OwnIter
import HandS.IterVal
import HandS.WordsExc
import HandS.Text
import HandS.Dict
import HandS.Small
import HandS.ClsMeth
import HandS.Star
import HandS.FStr
import HandS.SortKw
import KE.GoesEnumKw
import HandS.Comp
import HandS.Deep
import KE.GoesZip
import KE.GoesMore
import HandS.TupAny
import PyProof.Rows.TupIter
import HandS.HeadNt
import HandS.Codes
import HandS.Head2
import HandS.HeadWalk
import HandS.HeadEnd
import KE.KDictKeyed
import KE.KeyNested
import KE.KDictCopyH
import HandS.SetKeys
import PyProof.CompUse
import PyProof.NeKinds
import PyProof.DictTruth
import HandS.Flow
import PySem.Str
import PyProof.Claim2
import KE.KRevSl
import PySem.Challenge.RW_makerlines_k31_good_rows
set_option Elab.async false
set_option linter.all false
set_option maxRecDepth 100000
set_option maxHeartbeats 4000000
namespace MK
open PySem PySem.Spec PyProof.Rows L2
/-- the tuple at a as it stands at each turn, each item in a new pair -/
def IteT (K : PySem.W.Frag) (a : Addr) : It :=
  ⟨fun i H => ∃ (xs : List V) (x : V), SqT K H a xs ∧ xs[i]? = some x, fun i H v H' => ∃ T x, v = .ref T ∧ H T = none ∧ H' = upd H T (.tup [.int (i : Nat), x]) ∧ ∀ xs, SqT K H a xs → xs[i]? = some x, fun i H => ∃ xs : List V, SqT K H a xs ∧ xs.length ≤ i⟩
theorem turn_enumT {P : Program} {w : World} {K : PySem.W.Frag} {elts : List Expr} {kk : Nat} {tpos : Pos} (a e it : Addr) :
    Turn P w K (.Tuple elts kk tpos) (IteT K a) [e, it] e (fun i h => (∃ old, IsEnum h e it ((i : Nat) : Int) old) ∧ h.IsTupleIter it a i ∧ e ≠ it ∧ a ≠ it ∧ a ≠ e) where
  mem := by simp
  obj := fun i h st b hb => by
    obtain ⟨⟨old, he⟩, ⟨o, ho, hc, hd⟩, _⟩ := st
    have e' : b = e ∨ b = it := by simpa using hb
    rcases e' with z | z
    · rw [z]; exact ⟨_, he, fun v q => nomatch q⟩
    · rw [z]; exact ⟨o, ho, fun v q => by rw [hd] at q; cases q⟩
  keep := fun i h h' st k => let ⟨⟨old, he⟩, hi, hne⟩ := st; ⟨⟨old, k e (by simp) _ he⟩, hi.at fun o q => k it (by simp) o q, hne⟩
  item := by
    intro X hP hw hK hc i pins s σ H E I hf st hg
    subst hP hw hK
    obtain ⟨⟨old, he⟩, hit, hne, hai, hae⟩ := st
    obtain ⟨xs, x, hq, hx⟩ := hg
    obtain ⟨its, rv, p, hz⟩ := I.tuple hq
    obtain ⟨u, hu, ru⟩ := rv.get hx
    have hel : e < s.heap.objs.size := Heap.lt_size he
    have hil : it < s.heap.objs.size := by obtain ⟨_, q, _⟩ := hit; exact Heap.lt_size q
    have D := Draws.tuple (prog := X.prog) (w := X.w) (A := X.A.in1) (show X.A.in1.handled = none from I.ok.hd hc) it a hai its.toArray
    have hsz : i < its.toArray.size := by
      have := (List.getElem?_eq_some_iff.mp hu).1
      simpa using this
    refine wpAny_pyNext_enum_itemD D he ⟨hit, p⟩ hsz hne (by simp [hne, Ne.symm hae]) fun v h' tk hv ho st' hT hsz' hk => ?_
    have hv : its.toArray[i]? = some v := hv
    have ev : v = u := by
      have hu' : its.toArray[i]? = some u := by simpa using hu
      rw [hu'] at hv
      exact (Option.some.inj hv).symm
    subst ev
    refine ⟨_, rfl, wpAny_letOwnedTupleGo_enum (s := { s with heap := h', toks := tk + 1 }) ho fun h'' he' sb => ?_⟩
    have hT2 : h''.get? s.heap.objs.size = some { cls := .type "tuple", data := .seq #[.int i tk, v] } := (sb.2 _ (Nat.ne_of_gt hel)).trans hT
    have new : ObjOk X.prog X.w (upd H s.heap.objs.size (.tup [.int (i : Nat), x])) h'' s.heap.objs.size (.tup [.int (i : Nat), x]) :=
      ⟨by show 2 ≤ sizeLine; decide, [.int i tk, v], .cons ⟨_, rfl⟩ (.cons ru .nil), ⟨_, hT2, rfl, _, rfl⟩⟩
    have I1 : Inv X pins σ (upd H s.heap.objs.size (.tup [.int (i : Nat), x])) { s with heap := h'', toks := tk + 1 } :=
      I.turnedNew (ch := [e, it]) (fun b ob hb q => (sb.2 b (fun z => hb (by simp [z]))).trans (hk b ob (fun z => hb (by simp [z])) (fun z => hb (by simp [z])) q)) hf (Nat.le_refl _) new
    refine ⟨.ref s.heap.objs.size, _, I1, rfl, ⟨_, x, rfl, I.hok.fresh (Nat.le_refl _), rfl, fun ys hy => by rw [I.tuple_inj hy hq]; exact hx⟩, ⟨⟨v, ?_⟩, st'.1.at fun o q => (sb.2 it (Ne.symm hne)).trans q, hne, hai, hae⟩, fun b hb => ?_⟩
    · have e1 : ((i + 1 : Nat) : Int) = (i : Int) + 1 := by omega
      rw [e1]; exact he'
    · have hb' : b < s.heap.objs.size := by
        have e' : b = e ∨ b = it := by simpa using hb
        rcases e' with z | z
        · rw [z]; exact hel
        · rw [z]; exact hil
      rw [upd_ne (Nat.ne_of_lt hb')]
      exact (hf b hb).1
  done := by
    intro X hP hw hK hc i pins s σ H E I hf st hg
    subst hP hw hK
    obtain ⟨⟨old, he⟩, hit, hne, hai, hae⟩ := st
    obtain ⟨xs, hq, hx⟩ := hg
    obtain ⟨its, rv, p, hz⟩ := I.tuple hq
    obtain ⟨f0, f1, f2, f3, f4, f5⟩ := hf it (by simp)
    have hl := rv.length
    have D : Draws X.prog X.w X.A.in1 it [it, a] i (fun _ _ => False) (fun j h => j = i ∧ h.IsTupleIter it a i ∧ IsTup h a its.toArray) :=
      { live := fun _ _ st => let ⟨_, ⟨o, ho, _⟩, _⟩ := st; ⟨o, ho⟩
        frame := fun _ _ _ st hk => ⟨st.1, st.2.1.at fun o e => hk it (by simp) o e, by
          obtain ⟨o, ho, r⟩ := st.2.2
          exact ⟨o, hk a (by simp) o ho, r⟩⟩
        item := fun j s Q E hi st hQ => absurd st.1 (Nat.ne_of_lt hi)
        done := fun s Q E st hE => wpAny_nextOf_tuple_end (show X.A.in1.handled = none from I.ok.hd hc) st.2.1 st.2.2 (by simp; omega) hE }
    exact wpAny_pyNext_enum_endD D he ⟨rfl, hit, p⟩ fun h' eb => ⟨rfl, I.turned (t' := s.toks) (fun b o hb q => eb b o hb q) f0 f1 f3 f4 f5⟩
  self := fun A i s Q E st h => let ⟨⟨_, he⟩, _⟩ := st; wpAny_pyIter_enum he h
def iEnumT (K : PySem.W.Frag) (ta : TA) : TI := fun σ H R => ta σ H fun vs H1 => ∃ a xs, vs = [.ref a] ∧ SqT K H1 a xs ∧ R (IteT K a) H1
theorem boot_enumerate' : bootBuiltins "enumerate" = some (.type "enumerate") := by decide +kernel
theorem meets_enum1 {v : Value} {o : Obj} {H : Heap → Prop} (B : Begins v o H) :
    Meets (Builtin.«enumerate.__new__» ⟨[.type "enumerate", v], []⟩) (fun _ R s => H s.heap ∧
      R (.ok (.ret (.ref (s.heap.push o).objs.size))) { s with heap := (s.heap.push o).push { cls := .type "enumerate", data := .fields #[.none, .bool false, .ref s.heap.objs.size, rawInt 0, .none, .none] } }) :=
  .of_wp fun prog w A R s h => by
    obtain ⟨hp, g, d, tk, os⟩ := s; obtain ⟨h1, h⟩ := h
    have hsub := sub_enumerate
    have it : ∀ {A' : Around} {E : Value → Shared → Prop} {Q : Value → Shared → Prop}, Q (.ref hp.objs.size) ⟨hp.push o, g, d, tk, os⟩ → wpAny (model prog w) A' (pyIter v) Q E ⟨hp, g, d, tk, os⟩ :=
      fun q => B.iter prog w _ _ ⟨hp, g, d, tk, os⟩ _ h1 q
    wp_walk using it
    refine wpAny_stack_any fun st => wpAny_pure ?_
    split
    · rename_i c _ _ _ _ _
      cases (c == Value.type "enumerate") <;> (wp_walk using it; exact ⟨_, rfl, h⟩)
    · wp_walk using it
      exact ⟨_, rfl, h⟩
theorem call_enumerate_tuple {prog : Program} {w : World} {A : Around} {E : Value → Shared → Prop} {s : Shared} {l : Addr} {items : Array Value} {Q : Value → Shared → Prop} (hL : IsTup s.heap l items)
    (h : ∀ h', IsEnum h' (s.heap.objs.size + 1) s.heap.objs.size 0 .none → h'.IsTupleIter s.heap.objs.size l 0 → h'.objs.size = s.heap.objs.size + 2 →
      (∀ b o, s.heap.get? b = some o → h'.get? b = some o) → Q (.ref (s.heap.objs.size + 1)) { s with heap := h' }) :
    wpAny (model prog w) A (call (.type "enumerate") [.ref l]) Q E s := by
  have B := begins_tuple l items
  refine callType_new F.called_enumerate (by decide) (F.typeCall_enumerate_1 _) (F.newCall_enumerate_1 _) (fun obj => F.args_object_init_2 obj _) F.entry_enumerate_new (meets_enum1 B) ⟨hL, ?_⟩
  let o : Obj := { cls := .type "tuple_iterator", data := .fields #[.ref l, .int 0 0] }
  have hz : (s.heap.push o).objs.size = s.heap.objs.size + 1 := Heap.size_push ..
  show _ ∧ _
  rw [hz]
  have he : IsEnum ((s.heap.push o).push { cls := .type "enumerate", data := .fields #[.none, .bool false, .ref s.heap.objs.size, rawInt 0, .none, .none] }) (s.heap.objs.size + 1) s.heap.objs.size 0 .none := by
    have q := Heap.get?_push_size (s.heap.push o) (o := { cls := .type "enumerate", data := .fields #[.none, .bool false, .ref s.heap.objs.size, rawInt 0, .none, .none] }) rfl
    rw [hz] at q; exact q
  exact ⟨⟨_, he, rfl⟩, h _ he ⟨_, Heap.get?_push_of_some _ (Heap.get?_push_size _ rfl), rfl, rfl⟩ (by rw [Heap.size_push, hz]) fun b o x => Heap.get?_push_of_some _ (Heap.get?_push_of_some _ x)⟩
theorem pi_enumT {X : Cx} {e : Expr} {ta : TA} {p pos tpos : Pos} {elts : List Expr} {kk : Nat} (hg : Gl X "enumerate") (hm : X.mg "enumerate" = none) (ha : PA X [e] ta) (hs : starEach [e] X.env = [(false, eval e X.env)] := by rfl) :
    PI X (.Tuple elts kk tpos) (.Call (.Name "enumerate" p) [e] [] pos) (iEnumT X.K ta) := by
  refine ⟨fun pins s σ H R I h => ?_⟩
  refine Call_ (ld_blt I hg hm boot_enumerate' (PyProof.Rows.callWith_type1 (thn (ha.run pos pins s σ H _ I h) fun us s1 ⟨vs, H1, I1, r1, q1⟩ => ?_) hs rfl))
  obtain ⟨a, xs, ex, hq, q⟩ := q1
  subst ex
  cases r1 with
  | cons r rr =>
    cases rr
    cases r
    obtain ⟨its, rv, p', hz⟩ := I1.tuple hq
    have hal : a < s1.heap.objs.size := by obtain ⟨_, q, _⟩ := p'; exact Heap.lt_size q
    refine call_enumerate_tuple p' fun h' he hit hsz hk => wpAny_pyIter_enum he ?_
    have I2 : Inv X pins σ H1 { s1 with heap := h' } := I1.kept (t' := s1.toks) hk
    refine ⟨s1.heap.objs.size + 1, [s1.heap.objs.size + 1, s1.heap.objs.size], _, _, H1, rfl, I2, turn_enumT a (s1.heap.objs.size + 1) s1.heap.objs.size, ⟨⟨.none, he⟩, hit, Nat.succ_ne_self _, Nat.ne_of_lt hal, Nat.ne_of_lt (Nat.lt_succ_of_lt hal)⟩, fun b hb => ?_, q⟩
    have e' : b = s1.heap.objs.size + 1 ∨ b = s1.heap.objs.size := by simpa using hb
    have hle : s1.heap.objs.size ≤ b := by
      rcases e' with z | z
      · rw [z]; exact Nat.le_add_right _ _
      · rw [z]; exact Nat.le_refl _
    exact I1.fpOk hle (I1.hok.fresh hle)
end MK
set_option Elab.async false
set_option linter.all false
set_option maxRecDepth 100000
set_option maxHeartbeats 4000000
namespace MK
open PySem PySem.Spec PyProof.Rows PySem.HandSPX
open PySem.W (Looks)
end MK
set_option Elab.async false
set_option linter.all false
set_option maxRecDepth 100000
set_option maxHeartbeats 4000000
namespace MK
open PySem PySem.Spec PyProof.Rows L2
end MK
set_option Elab.async false
set_option linter.all false
set_option maxRecDepth 100000
set_option maxHeartbeats 4000000
namespace MK
open PySem PySem.Spec PyProof.Rows L2
section
variable {P : Program} {w : World} {K : PySem.W.Frag} {mg : Str → Option Value} {base : Heap} {CX : CXT}
/-- a def of the module that may be called by its name -/
structure Cal (P : Program) (w : World) (K : PySem.W.Frag) (mg : Str → Option Value) (base : Heap) (CX : CXT) (k : Nat) (x : Str) (sp : Sp) : Prop where
  ex : ∃ (f : Addr) (fd : FuncData) (ps : List Str), FnOk P w K mg base CX k f fd ps sp ∧ mg x = some (.ref f) ∧ PySem.W.keepIn K (.ref f) = true ∧ Binds K fd ps []
/-- what the top left of a def: its text, its name, how its arguments bind -/
structure DefX (K : PySem.W.Frag) (mg : Str → Option Value) (x : Str) (st : Stmt) (ps : List Str) (f : Addr) (fd : FuncData) : Prop where
  fn : Fun K x x st f fd
  mgf : mg x = some (.ref f)
  bi : Binds K fd ps []
theorem cal_mk {x : Str} {st : Stmt} {f : Addr} {fd : FuncData} {N ps : List Str} {k : Nat} {sp : Sp} (F : DefX K mg x st ps f fd) (S : FnScope N ps (defScope st)) (len : ∀ vs H Q E, sp vs H Q E → vs.length = ps.length)
    (hbody : ∀ (cdv : Value) (A : Around) (outer : List Env) (s : Shared) (H : Hp) (vs : List V) (Q : VK) (E : XK), Room k (A.deeper (envOfC x (defScope st) s.heap.objs.size f cdv)) → sp vs H Q E →
      ∃ t, PSs (cxOf CX0 P w K mg base N x (defScope st) f cdv A outer s H E).nox (defBody st) t ∧ t { nx := fun _ H' => Q .non H', rt := Q } (start N vs) H) : Cal P w K mg base CX0 (k + 1) x sp :=
  ⟨f, fd, ps, F.fn.ok S len hbody, F.mgf, F.fn.kp, F.bi⟩
end
section
variable {X : Cx} {k j : Nat} {x : Str} {sp : Sp} {p pos : Pos} {e : Expr} {es : List Expr} {t : TA}
theorem pe_c (c : Cal X.prog X.w X.K X.mg X.base CX0 k x sp) (hr : Room j X.A) (hk : k ≤ j) (hg : Gl X x) (ha : PA X (e :: es) t)
    (hdb : (x == ("__debug__" : Str)) = false := by decide) (he : starEach (e :: es) X.env = (false, eval e X.env) :: starEach es X.env := by rfl) (hpl : (backTo pos (starEach es X.env)).any (·.1) = false := by rfl) :
    PE X (.Call (.Name x p) (e :: es) [] pos) (tCall sp [] E0 t) := by
  obtain ⟨f, fd, ps, F, hm, kp, b⟩ := c.ex
  exact pe_call F (hr.mono hk) hg hm kp b .nil pass0 ha hdb he hpl
end
/-- a statement, then the rest, Mid between them: what follows is shown once -/
def tCut (t u : TS) : TS := fun D σ H => ∃ Mid : L2.St → Hp → Prop, t { D with nx := Mid } σ H ∧ ∀ σ' H', Mid σ' H' → u D σ' H'
theorem pss_cut {X : Cx} {st : Stmt} {rest : List Stmt} {t u : TS} (h1 : PS X st t) (h2 : PSs X rest u) : PSs X (st :: rest) (tCut t u) := by
  refine ⟨fun pins s σ H D I h => ?_⟩
  obtain ⟨Mid, a, b⟩ := h
  refine wpAny_execs_cons (thn (h1.run pins s σ H { D with nx := Mid } I a) fun f s1 q => ?_)
  cases f with
  | next =>
    obtain ⟨σ', H', I', q⟩ := q
    exact h2.run pins s1 σ' H' D I' (b σ' H' q)
  | ret v => exact q
  | brk => exact q
  | cont => exact q
/-- the name of a built-in class, as a value -/
theorem pe_tyv {X : Cx} {x : Str} {n : String} {pos : Pos} (hg : Gl X x) (hm : X.mg x = none) (hv : bootBuiltins x = some (.type n)) (hn : x ≠ "__name__" := by decide) (hd : (x == ("__debug__" : Str)) = false := by decide) : PE X (.Name x pos) (tC (.ty n)) :=
  pe_bltn hg hm hv rfl hn hd
/-- an expression, a test, with a word between it and what follows -/
def tCutE (te : TE) : TE := fun σ H Q => ∃ Mid : V → Hp → Prop, te σ H Mid ∧ ∀ v H', Mid v H' → Q v H'
def tCutT (tt : TT) : TT := fun σ H Q => ∃ Mid : Bool → Hp → Prop, tt σ H Mid ∧ ∀ b H', Mid b H' → Q b H'
theorem pe_cut {X : Cx} {e : Expr} {te : TE} (h : PE X e te) : PE X e (tCutE te) := by
  refine ⟨fun pins s σ H Q I ⟨Mid, a, b⟩ => ?_⟩
  exact thn (h.run pins s σ H Mid I a) fun u s1 ⟨v, H1, I1, r1, q1⟩ => ⟨v, H1, I1, r1, b v H1 q1⟩
theorem pt_cut {X : Cx} {e : Expr} {tt : TT} (h : PT X e tt) : PT X e (tCutT tt) := by
  refine ⟨fun pins s σ H Q I ⟨Mid, a, b⟩ => ?_⟩
  exact thn (h.run pins s σ H Mid I a) fun u s1 ⟨H1, I1, q1⟩ => ⟨H1, I1, b u H1 q1⟩
/-- all that was tracked is as it was, but what stands at s -/
def SameX (s : Addr) (H H' : Hp) : Prop := ∀ b o, H b = some o → b ≠ s → H' b = some o
theorem SameX.refl (s : Addr) (H : Hp) : SameX s H H := fun _ _ h _ => h
theorem SameX.trans {s : Addr} {H H1 H2 : Hp} (a : SameX s H H1) (b : SameX s H1 H2) : SameX s H H2 := fun c o h n => b c o (a c o h n) n
theorem SameX.new {s p : Addr} {o : HO} {H H1 : Hp} (a : SameX s H H1) (h : H1 p = none) : SameX s H (upd H1 p o) := fun c u hc n => by
  have e := a c u hc n
  rw [upd_ne (ne_of_none e h)]
  exact e
theorem SameX.put {s : Addr} {o : HO} {H H1 : Hp} (a : SameX s H H1) : SameX s H (upd H1 s o) := fun c u hc n => by
  rw [upd_ne n]
  exact a c u hc n
theorem same_sx {s : Addr} {H H1 : Hp} (a : Same H H1) : SameX s H H1 := fun c u hc _ => a c u hc
theorem SameX.none {s p : Addr} {H H1 : Hp} (a : SameX s H H1) (n : p ≠ s) (h : H1 p = Option.none) : H p = Option.none := by
  cases e : H p with
  | none => rfl
  | some o =>
    rw [a p o e n] at h
    cases h
theorem same_new {p : Addr} {o : HO} {H H1 : Hp} (a : Same H H1) (h : H1 p = none) : Same H (upd H1 p o) := fun c u hc => by
  have e := a c u hc
  rw [upd_ne (ne_of_none e h)]
  exact e
theorem SameX.l {K : PySem.W.Frag} {s a : Addr} {xs : List V} {H H1 : Hp} (e : SameX s H H1) (n : a ≠ s) (h : SqL K H a xs) : SqL K H1 a xs := by
  rcases h with (h | ⟨o, h⟩) | h
  · exact .inl (.inl (e _ _ h n))
  · exact .inl (.inr ⟨o, e _ _ h n⟩)
  · exact .inr h
theorem SameX.t {K : PySem.W.Frag} {s a : Addr} {xs : List V} {H H1 : Hp} (e : SameX s H H1) (n : a ≠ s) (h : SqT K H a xs) : SqT K H1 a xs := by
  rcases h with (h | ⟨o, h⟩) | h
  · exact .inl (.inl (e _ _ h n))
  · exact .inl (.inr ⟨o, e _ _ h n⟩)
  · exact .inr h
theorem walk_enumT {K : PySem.W.Frag} {a : Addr} {xs : List V} : Walk (IteT K a) xs.length (fun H => SqT K H a xs) (YPair (fun i => some (.int (i : Nat))) (fun i => xs[i]?)) := by
  refine ⟨fun i _ hi q => ⟨xs, xs[i], q, by simp [hi]⟩, fun _ q => ⟨xs, q, Nat.le_refl _⟩, fun i H v H' _ q y => ?_⟩
  obtain ⟨T, x, h1, h2, h3, h4⟩ := y
  exact ⟨T, .int (i : Nat), x, h1, h2, h3, rfl, h4 xs q⟩
theorem upd_none {H : Hp} {a b : Addr} {o : HO} (h : upd H a o b = none) : b ≠ a ∧ H b = none := by
  by_cases e : b = a
  · rw [e, upd_same] at h
    cases h
  · rw [upd_ne e] at h
    exact ⟨e, h⟩
section
variable {K : PySem.W.Frag}
/-- nothing in it that is walked -/
def Flat (H : Hp) (x y : V) : Prop := (x = y ∧ (x = .non ∨ (∃ b, x = .bl b) ∨ (∃ i, x = .int i) ∨ ∃ z, x = .str z)) ∨
  ∃ a b kvs, x = .ref a ∧ y = .ref b ∧ H a = some (.dK kvs) ∧ H b = some (.dK kvs) ∧ (kvs.map (·.1)).Nodup ∧ ∀ p ∈ kvs, flatB p.2 = true
def Sm (K : PySem.W.Frag) (H : Hp) : Nat → V → V → Prop
  | 0, x, y => Flat H x y
  | n + 1, x, y => Flat H x y ∨ ∃ a b xs ys, x = .ref a ∧ y = .ref b ∧ ((SqL K H a xs ∧ SqL K H b ys) ∨ (SqT K H a xs ∧ SqT K H b ys)) ∧ xs.length = ys.length ∧ xs.length < 100000 ∧ ∀ (i : Nat) x y, xs[i]? = some x → ys[i]? = some y → Sm K H n x y
theorem same_t {H H' : Hp} {a : Addr} {xs : List V} (e : Same H H') (h : SqT K H a xs) : SqT K H' a xs := by
  rcases h with (h | ⟨o, h⟩) | h
  · exact .inl (.inl (e _ _ h))
  · exact .inl (.inr ⟨o, e _ _ h⟩)
  · exact .inr h
theorem Flat.keep {H H' : Hp} {x y : V} (e : Same H H') (h : Flat H x y) : Flat H' x y := by
  rcases h with h | ⟨a, b, kvs, h1, h2, h3, h4, h5⟩
  · exact .inl h
  · exact .inr ⟨a, b, kvs, h1, h2, e _ _ h3, e _ _ h4, h5⟩
theorem Sm.keep {H H' : Hp} (e : Same H H') : ∀ {n : Nat} {x y : V}, Sm K H n x y → Sm K H' n x y
  | 0, _, _, h => Flat.keep e h
  | n + 1, _, _, h => by
    rcases h with h | ⟨a, b, xs, ys, h1, h2, h3, h4, h5, h6⟩
    · exact .inl (h.keep e)
    · refine .inr ⟨a, b, xs, ys, h1, h2, ?_, h4, h5, fun i x y q1 q2 => Sm.keep e (h6 i x y q1 q2)⟩
      rcases h3 with ⟨p, q⟩ | ⟨p, q⟩
      · exact .inl ⟨e.seq p, e.seq q⟩
      · exact .inr ⟨same_t e p, same_t e q⟩
theorem tyx_l {H : Hp} {a : Addr} {xs : List V} (h : SqL K H a xs) : TyX K H (.ref a) (.type "list") := by
  rcases h with (h | ⟨o, h⟩) | ⟨o, its, n, hk, hc, _⟩
  · exact .base (.lst h)
  · exact .base (.frz h)
  · exact .kList hk hc
theorem tyx_t {H : Hp} {a : Addr} {xs : List V} (h : SqT K H a xs) : TyX K H (.ref a) (.type "tuple") := by
  rcases h with (h | ⟨o, h⟩) | ⟨o, its, n, hk, hc, _⟩
  · exact .base (.tup h)
  · exact .fTuple h
  · exact .kTuple hk hc
theorem tyx_keep {H H' : Hp} {x : V} {t : Value} (e : Same H H') (h : TyX K H x t) : TyX K H' x t := by
  cases h with
  | base h =>
    cases h with
    | non => exact .base .non
    | bl b => exact .base (.bl b)
    | int i => exact .base (.int i)
    | str z => exact .base (.str z)
    | flt z => exact .base (.flt z)
    | lst h => exact .base (.lst (e _ _ h))
    | frz h => exact .base (.frz (e _ _ h))
    | tup h => exact .base (.tup (e _ _ h))
    | dK h => exact .base (.dK (e _ _ h))
    | dT h => exact .base (.dT (e _ _ h))
    | ins h cl ha hn ht hm => exact .base (.ins (e _ _ h) cl ha hn ht hm)
  | byt b => exact .byt b
  | set h => exact .set (e _ _ h)
  | kList h c => exact .kList h c
  | kTuple h c => exact .kTuple h c
  | kDict h c => exact .kDict h c
  | fTuple h => exact .fTuple (e _ _ h)
  | fDict h => exact .fDict (e _ _ h)
theorem walk_zipT {a b : Addr} {xs ys : List V} {n : Nat} (hn : n = min xs.length ys.length) : Walk (RZ.ItzT K a b) n (fun H => SqT K H a xs ∧ SqT K H b ys) (YPair (fun i => xs[i]?) (fun i => ys[i]?)) := by
  subst hn
  refine ⟨fun i _ hi q => ?_, fun _ q => ⟨xs, ys, q.1, q.2, by omega⟩, fun i H v H' _ q y => ?_⟩
  · have h1 : i < xs.length := by omega
    have h2 : i < ys.length := by omega
    exact ⟨xs, ys, xs[i], ys[i], q.1, q.2, by simp [h1], by simp [h2]⟩
  · obtain ⟨T, x, y, h1, h2, h3, h4, h5⟩ := y
    exact ⟨T, x, y, h1, h2, h3, h4 xs q.1, h5 ys q.2⟩
end
/-- a def that is never called so -/
theorem cal_bot {P : Program} {w : World} {K : PySem.W.Frag} {mg : Str → Option Value} {base : Heap} {x : Str} {st : Stmt} {ps : List Str} {f : Addr} {fd : FuncData} (F : DefX K mg x st ps f fd) : Cal P w K mg base CX0 0 x (fun _ _ _ _ => False) :=
  ⟨f, fd, ps, ⟨fun _ _ _ _ h => h.elim, fun _ _ _ _ _ _ _ _ _ _ _ _ _ h => h.elim⟩, F.mgf, F.fn.kp, F.bi⟩
end MK
set_option Elab.async false
set_option linter.all false
set_option maxRecDepth 100000
set_option maxHeartbeats 4000000
namespace MK
open PySem PySem.Spec PyProof.Rows L2
theorem exo_lst {e C : Addr} {d : Option Addr} {xs : List V} : exo e C d ≠ .lst xs := fun z => by
  have z' : HO.ext _ = HO.lst xs := z
  cases z'
theorem exd_lst {e : Addr} {fs : List (Str × V)} {xs : List V} : exd e fs ≠ .lst xs := fun z => by
  have z' : HO.ext _ = HO.lst xs := z
  cases z'
/-- an error of the class at C stands at a; its attributes, the latest first -/
def Err (H : Hp) (C a : Addr) (fs : List (Str × V)) : Prop := ∃ d, H a = some (exo a C (some d)) ∧ H d = some (exd d fs)
theorem Err.keep {H H' : Hp} {C a : Addr} {fs : List (Str × V)} (e : Same H H') (h : Err H C a fs) : Err H' C a fs := by
  obtain ⟨d, h1, h2⟩ := h
  exact ⟨d, e _ _ h1, e _ _ h2⟩
theorem Err.put {H : Hp} {C a p : Addr} {fs : List (Str × V)} {xs zs : List V} (hp : H p = some (.lst xs)) (h : Err H C a fs) : Err (upd H p (.lst zs)) C a fs := by
  obtain ⟨d, h1, h2⟩ := h
  exact ⟨d, by rw [upd_ne (at_ne hp h1 (Ne.symm exo_lst))]; exact h1, by rw [upd_ne (at_ne hp h2 (Ne.symm exd_lst))]; exact h2⟩
end MK
set_option Elab.async false
set_option linter.all false
set_option autoImplicit false
set_option maxRecDepth 100000
set_option maxHeartbeats 4000000
namespace MK
open PySem PySem.Spec PyProof.Rows L2
/-- all but what stands at s -/
def Off (s : Addr) (H : Hp) : Hp := fun b => if b = s then none else H b
theorem off_ne {s b : Addr} {H : Hp} (h : b ≠ s) : Off s H b = H b := if_neg h
theorem off_s {s : Addr} {H : Hp} : Off s H s = none := if_pos rfl
theorem off_same {s : Addr} {H : Hp} : Same (Off s H) H := fun b o h => by
  by_cases e : b = s
  · rw [e, off_s] at h
    cases h
  · rw [off_ne e] at h
    exact h
theorem SameX.off {s : Addr} {H H' : Hp} (e : SameX s H H') : Same (Off s H) (Off s H') := fun b o h => by
  by_cases q : b = s
  · rw [q, off_s] at h
    cases h
  · rw [off_ne q] at h ⊢
    exact e _ _ h q
theorem same_off {s : Addr} {H H' : Hp} (e : Same H H') : Same (Off s H) (Off s H') := (same_sx e).off
theorem off_upd {s a : Addr} {o : HO} {H : Hp} (h : a ≠ s) : Off s (upd H a o) = upd (Off s H) a o := by
  funext b
  by_cases e : b = s
  · subst e
    rw [off_s, upd_ne (Ne.symm h), off_s]
  · by_cases q : b = a
    · subst q
      rw [off_ne e, upd_same, upd_same]
    · rw [off_ne e, upd_ne q, upd_ne q, off_ne e]
theorem off_get {s a : Addr} {o : HO} {H : Hp} (h : Off s H a = some o) : H a = some o := off_same _ _ h
theorem off_none {s a : Addr} {H : Hp} (h : H a = none) : Off s H a = none := by
  by_cases e : a = s
  · rw [e, off_s]
  · rw [off_ne e]
    exact h
theorem SameX.putN {s a : Addr} {o : HO} {H H1 : Hp} (e : SameX s H H1) (h : H a = Option.none) : SameX s H (upd H1 a o) := fun b u hb n => by
  rw [upd_ne (fun q => by rw [q, h] at hb; cases hb)]
  exact e _ _ hb n
section
variable {K : PySem.W.Frag}
def Sq (K : PySem.W.Frag) (H : Hp) (v : V) (xs : List V) : Prop := ∃ a, v = .ref a ∧ (SqL K H a xs ∨ SqT K H a xs)
def Tu (K : PySem.W.Frag) (H : Hp) (v : V) (xs : List V) : Prop := ∃ a, v = .ref a ∧ SqT K H a xs
theorem Tu.sq {H : Hp} {v : V} {xs : List V} (h : Tu K H v xs) : Sq K H v xs := by
  obtain ⟨a, e, h⟩ := h
  exact ⟨a, e, .inr h⟩
theorem Tu.keep {H H' : Hp} {v : V} {xs : List V} (e : Same H H') (h : Tu K H v xs) : Tu K H' v xs := by
  obtain ⟨a, r, h⟩ := h
  exact ⟨a, r, same_t e h⟩
theorem Sq.keep {H H' : Hp} {v : V} {xs : List V} (e : Same H H') (h : Sq K H v xs) : Sq K H' v xs := by
  obtain ⟨a, r, h⟩ := h
  rcases h with h | h
  · exact ⟨a, r, .inl (e.seq h)⟩
  · exact ⟨a, r, .inr (same_t e h)⟩
theorem Sq.lst {H : Hp} {a : Addr} {xs : List V} (h : H a = some (.lst xs)) : Sq K H (.ref a) xs := ⟨a, rfl, .inl (SqL.of h)⟩
theorem Tu.tup {H : Hp} {a : Addr} {xs : List V} (h : H a = some (.tup xs)) : Tu K H (.ref a) xs := ⟨a, rfl, SqT.of h⟩
end
/-- item by item -/
def Al {α : Type} (R : V → α → Prop) (xs : List V) (ys : List α) : Prop := xs.length = ys.length ∧ ∀ (i : Nat) x y, xs[i]? = some x → ys[i]? = some y → R x y
section
variable {α : Type} {R S : V → α → Prop} {xs : List V} {ys : List α}
theorem Al.nil : Al R [] [] := ⟨rfl, fun i x y h => by simp at h⟩
theorem Al.mono (h : Al R xs ys) (f : ∀ x y, R x y → S x y) : Al S xs ys := ⟨h.1, fun i x y h1 h2 => f _ _ (h.2 i x y h1 h2)⟩
theorem Al.snoc {x : V} {y : α} (h : Al R xs ys) (r : R x y) : Al R (xs ++ [x]) (ys ++ [y]) := by
  refine ⟨by simp [h.1], fun i u v h1 h2 => ?_⟩
  by_cases q : i < xs.length
  · rw [List.getElem?_append_left q] at h1
    rw [List.getElem?_append_left (h.1 ▸ q)] at h2
    exact h.2 i u v h1 h2
  · have q2 : ys.length ≤ i := by have := h.1; omega
    rw [List.getElem?_append_right (by omega)] at h1
    rw [List.getElem?_append_right q2] at h2
    rw [← h.1] at h2
    cases hz : i - xs.length with
    | zero =>
      rw [hz] at h1 h2
      simp at h1 h2
      rw [← h1, ← h2]
      exact r
    | succ n =>
      rw [hz] at h1
      simp at h1
theorem Al.get (h : Al R xs ys) {i : Nat} {x : V} (hx : xs[i]? = some x) : ∃ y, ys[i]? = some y ∧ R x y := by
  have hi : i < xs.length := (List.getElem?_eq_some_iff.mp hx).1
  have hj : i < ys.length := h.1 ▸ hi
  exact ⟨ys[i], List.getElem?_eq_getElem hj, h.2 i x _ hx (List.getElem?_eq_getElem hj)⟩
theorem Al.get' (h : Al R xs ys) {i : Nat} {y : α} (hy : ys[i]? = some y) : ∃ x, xs[i]? = some x ∧ R x y := by
  have hi : i < ys.length := (List.getElem?_eq_some_iff.mp hy).1
  have hj : i < xs.length := h.1.symm ▸ hi
  exact ⟨xs[i], List.getElem?_eq_getElem hj, h.2 i _ y (List.getElem?_eq_getElem hj) hy⟩
theorem Al.map {f : α → V} (g : ∀ y, R (f y) y) : Al R (ys.map f) ys := ⟨by simp, fun i x y h1 h2 => by
  rw [List.getElem?_map, h2] at h1
  cases h1
  exact g y⟩
theorem Al.mem (h : Al R xs ys) {x : V} (hx : x ∈ xs) : ∃ y ∈ ys, R x y := by
  obtain ⟨i, hi⟩ := List.mem_iff_getElem?.mp hx
  obtain ⟨y, hy, r⟩ := h.get hi
  exact ⟨y, List.mem_of_getElem? hy, r⟩
end
theorem off_put {a : Addr} {o : HO} {H : Hp} : Off a (upd H a o) = Off a H := by
  funext b
  by_cases e : b = a
  · rw [e, off_s, off_s]
  · rw [off_ne e, off_ne e, upd_ne e]
theorem inV_strs (z : Str) (zs : List Str) : inV (.str z) (zs.map V.str) = decide (z ∈ zs) := by
  rw [Bool.eq_iff_iff, decide_eq_true_iff]
  unfold inV
  rw [List.any_map, List.any_eq_true]
  constructor
  · rintro ⟨y, m, e⟩
    have e : (y == z) = true := e
    rw [beq_iff_eq] at e
    exact e ▸ m
  · intro m
    exact ⟨z, m, beq_self_eq_true z⟩
theorem flat_strs (zs : List Str) : (zs.map V.str).all flatV = true := by
  rw [List.all_map, List.all_eq_true]
  exact fun _ _ => rfl
theorem rep_flat (z : Str) : ∀ m : Nat, (List.replicate m [V.str z]).flatten = (List.replicate m z).map V.str
  | 0 => rfl
  | m + 1 => by
    rw [List.replicate_succ, List.flatten_cons, rep_flat z m, List.replicate_succ]
    rfl
theorem none_of {H H1 : Hp} {a : Addr} (e : Same H H1) (h : H1 a = none) : H a = none := by
  cases q : H a with
  | none => rfl
  | some o =>
    rw [e _ _ q] at h
    cases h
theorem noneX {s : Addr} {H H1 : Hp} {a : Addr} (e : SameX s H H1) (n : a ≠ s) (h : H1 a = none) : H a = none := by
  cases q : H a with
  | none => rfl
  | some o =>
    rw [e _ _ q n] at h
    cases h
theorem seqIndex_nat {d n : Nat} (h : d < n) : seqIndex? (d : Int) n = some d := by
  rw [PySem.seqIndex_of (by omega) (by omega)]
  rfl
theorem eraseIdx_mapV {α β : Type} (f : α → β) : ∀ (l : List α) (d : Nat), (l.map f).eraseIdx d = (l.eraseIdx d).map f
  | [], _ => rfl
  | _ :: _, 0 => rfl
  | x :: xs, d + 1 => by
    show f x :: (xs.map f).eraseIdx d = f x :: (xs.eraseIdx d).map f
    rw [eraseIdx_mapV f xs d]
theorem perm_erase {α : Type} : ∀ (l : List α) (d : Nat) (h : d < l.length), (l[d] :: l.eraseIdx d).Perm l
  | x :: xs, 0, _ => List.Perm.refl _
  | x :: xs, d + 1, h => by
    show (xs[d]'(by simpa using h) :: x :: xs.eraseIdx d).Perm (x :: xs)
    exact (List.Perm.swap _ _ _).trans ((perm_erase xs d _).cons x)
section
variable {X : Cx} {K : PySem.W.Frag}
theorem ix_tupK (h : X.K = K) : IxR X (rIxT K) := by subst h; exact ix_tup
theorem ix_seqK (h : X.K = K) : IxR X (rIx K) := by subst h; exact ix_seq
theorem op_in_seqK (h : X.K = K) : OpR X (compareOp .In) (rIn K false) := by subst h; exact op_in_seq
end
structure FD where
  nm : Str
  many : Bool
  need : Bool
deriving DecidableEq
structure CD where
  nm : Str
  hand : Str
  moves : List Int
  deeds : List (Str × Str)
  same : List Str
deriving DecidableEq
def sortS (b : Bool) : Str := if b then "many" else "one"
section
variable {K : PySem.W.Frag}
def FdV (f : FD) : List V := [.str f.nm, .str (sortS f.many), .bl f.need]
def DeV (d : Str × Str) : List V := [.str d.1, .str d.2]
def FdA (K : PySem.W.Frag) (H : Hp) (v : V) (f : FD) : Prop := Sq K H v (FdV f)
def FdT (K : PySem.W.Frag) (H : Hp) (v : V) (f : FD) : Prop := Tu K H v (FdV f)
def DeA (K : PySem.W.Frag) (H : Hp) (v : V) (d : Str × Str) : Prop := Sq K H v (DeV d)
def DeT (K : PySem.W.Frag) (H : Hp) (v : V) (d : Str × Str) : Prop := Tu K H v (DeV d)
def CdA (K : PySem.W.Frag) (H : Hp) (v : V) (c : CD) : Prop := ∃ m d s ds, Sq K H v [.str c.nm, .str c.hand, m, d, s] ∧ Sq K H m (c.moves.map V.int) ∧ Sq K H d ds ∧ Al (DeA K H) ds c.deeds ∧ Sq K H s (c.same.map V.str)
def CdT (K : PySem.W.Frag) (H : Hp) (v : V) (c : CD) : Prop := ∃ m d s ds, Tu K H v [.str c.nm, .str c.hand, m, d, s] ∧ Tu K H m (c.moves.map V.int) ∧ Tu K H d ds ∧ Al (DeT K H) ds c.deeds ∧ Tu K H s (c.same.map V.str)
theorem FdA.keep {H H' : Hp} {v : V} {f : FD} (e : Same H H') (h : FdA K H v f) : FdA K H' v f := Sq.keep e h
theorem FdT.keep {H H' : Hp} {v : V} {f : FD} (e : Same H H') (h : FdT K H v f) : FdT K H' v f := Tu.keep e h
theorem DeA.keep {H H' : Hp} {v : V} {f : Str × Str} (e : Same H H') (h : DeA K H v f) : DeA K H' v f := Sq.keep e h
theorem DeT.keep {H H' : Hp} {v : V} {f : Str × Str} (e : Same H H') (h : DeT K H v f) : DeT K H' v f := Tu.keep e h
theorem CdA.keep {H H' : Hp} {v : V} {c : CD} (e : Same H H') (h : CdA K H v c) : CdA K H' v c := by
  obtain ⟨m, d, s, ds, h1, h2, h3, h4, h5⟩ := h
  exact ⟨m, d, s, ds, h1.keep e, h2.keep e, h3.keep e, h4.mono fun _ _ h => DeA.keep e h, h5.keep e⟩
theorem CdT.keep {H H' : Hp} {v : V} {c : CD} (e : Same H H') (h : CdT K H v c) : CdT K H' v c := by
  obtain ⟨m, d, s, ds, h1, h2, h3, h4, h5⟩ := h
  exact ⟨m, d, s, ds, h1.keep e, h2.keep e, h3.keep e, h4.mono fun _ _ h => DeT.keep e h, h5.keep e⟩
theorem FdT.a {H : Hp} {v : V} {f : FD} (h : FdT K H v f) : FdA K H v f := Tu.sq h
theorem DeT.a {H : Hp} {v : V} {f : Str × Str} (h : DeT K H v f) : DeA K H v f := Tu.sq h
theorem CdT.a {H : Hp} {v : V} {c : CD} (h : CdT K H v c) : CdA K H v c := by
  obtain ⟨m, d, s, ds, h1, h2, h3, h4, h5⟩ := h
  exact ⟨m, d, s, ds, h1.sq, h2.sq, h3.sq, h4.mono fun _ _ h => DeT.a h, h5.sq⟩
end
def letterB (c : Nat) : Bool := decide (97 ≤ c) && decide (c ≤ 122)
def wordB (z : Str) : Bool := decide (1 ≤ z.cps.size) && decide (z.cps.size ≤ 8) && z.cps.toList.all letterB
def deedSorts (z : Str) : List Bool :=
  if z = "set" then [false] else if z = "add" then [true] else if z = "strike" then [true] else if z = "fresh" then [true] else if z = "clear" then [false, true] else []
def worded (ds : List (Str × Str)) : List Str := (ds.filter fun d => decide (d.1 = ("add" : Str)) || decide (d.1 = ("strike" : Str))).map (·.2)
structure FsOk (fs : List FD) : Prop where
  pos : 1 ≤ fs.length
  le : fs.length ≤ 3
  word : ∀ f ∈ fs, wordB f.nm = true
  nd : (fs.map (·.nm)).Nodup
structure CdOk (fs : List FD) (n : Nat) (c : CD) : Prop where
  word : wordB c.nm = true
  hand : c.hand = "self" ∨ c.hand = "new" ∨ c.hand = "last"
  len : c.moves.length = n
  move : ∀ m ∈ c.moves, -1 ≤ m ∧ m < n
  deeds : c.deeds.length ≤ 4
  deed : ∀ d ∈ c.deeds, ∃ f ∈ fs, f.nm = d.2 ∧ f.many ∈ deedSorts d.1
  once : (worded c.deeds).Nodup
  same : ∀ x ∈ c.same, ∃ f ∈ fs, f.nm = x ∧ f.many = true
  self : c.hand = "self" → c.same = []
  nd : c.same.Nodup
structure KdOk (fs : List FD) (n : Nat) (cs : List CD) : Prop where
  fields : FsOk fs
  pos : 1 ≤ n
  le : n ≤ 4
  cpos : 1 ≤ cs.length
  cle : cs.length ≤ 6
  calls : ∀ c ∈ cs, CdOk fs n c
  nd : (cs.map (·.nm)).Nodup
def DeOk (fs : List FD) (d : Str × Str) : Prop := ∃ f ∈ fs, f.nm = d.2 ∧ f.many ∈ deedSorts d.1
theorem worded_snoc (ds : List (Str × Str)) (d : Str × Str) : worded (ds ++ [d]) = worded ds ++ (if d.1 = ("add" : Str) ∨ d.1 = ("strike" : Str) then [d.2] else []) := by
  unfold worded
  rw [List.filter_append, List.map_append]
  congr 1
  by_cases h : d.1 = ("add" : Str) ∨ d.1 = ("strike" : Str)
  · rw [if_pos h]
    rcases h with h | h <;> simp [h]
  · rw [if_neg h]
    rw [not_or] at h
    simp [h.1, h.2]
/-- a list that may be changed -/
def Ls (H : Hp) (v : V) (xs : List V) : Prop := ∃ a, v = .ref a ∧ H a = some (.lst xs)
theorem Ls.sq {K : PySem.W.Frag} {H : Hp} {v : V} {xs : List V} (h : Ls H v xs) : Sq K H v xs := by
  obtain ⟨a, e, h⟩ := h
  exact ⟨a, e, .inl (SqL.of h)⟩
theorem Ls.keep {H H' : Hp} {v : V} {xs : List V} (e : Same H H') (h : Ls H v xs) : Ls H' v xs := by
  obtain ⟨a, r, h⟩ := h
  exact ⟨a, r, e _ _ h⟩
/-- a call as the laws draw them: a tuple with lists in it -/
def CdL (K : PySem.W.Frag) (H : Hp) (v : V) (c : CD) : Prop := ∃ m d s ds, Tu K H v [.str c.nm, .str c.hand, m, d, s] ∧ Ls H m (c.moves.map V.int) ∧ Ls H d ds ∧ Al (DeT K H) ds c.deeds ∧ Ls H s (c.same.map V.str)
theorem CdL.keep {K : PySem.W.Frag} {H H' : Hp} {v : V} {c : CD} (e : Same H H') (h : CdL K H v c) : CdL K H' v c := by
  obtain ⟨m, d, s, ds, h1, h2, h3, h4, h5⟩ := h
  exact ⟨m, d, s, ds, h1.keep e, h2.keep e, h3.keep e, h4.mono fun _ _ h => DeT.keep e h, h5.keep e⟩
theorem CdL.a {K : PySem.W.Frag} {H : Hp} {v : V} {c : CD} (h : CdL K H v c) : CdA K H v c := by
  obtain ⟨m, d, s, ds, h1, h2, h3, h4, h5⟩ := h
  exact ⟨m, d, s, ds, h1.sq, h2.sq, h3.sq, h4.mono fun _ _ h => DeT.a h, h5.sq⟩
/-- the modes that are drawn from -/
def smV (far : Int) (m : Nat) : List V := (List.replicate 3 (rgV 0 far)).flatten ++ (List.replicate m [V.int (-1)]).flatten
theorem rgV_mem {far : Int} {x : V} (h : x ∈ rgV 0 far) : ∃ z : Int, x = .int z ∧ 0 ≤ z ∧ z < far := by
  unfold rgV at h
  obtain ⟨i, hi, rfl⟩ := List.mem_map.mp h
  rw [List.mem_range] at hi
  exact ⟨_, rfl, by omega, by omega⟩
theorem smV_mem {far : Int} {m : Nat} {x : V} (hf : 0 < far) (h : x ∈ smV far m) : ∃ z : Int, x = .int z ∧ -1 ≤ z ∧ z < far := by
  unfold smV at h
  rcases List.mem_append.mp h with h | h
  · obtain ⟨l, hl, hx⟩ := List.mem_flatten.mp h
    obtain ⟨_, rfl⟩ := List.mem_replicate.mp hl
    obtain ⟨z, e, h0, h1⟩ := rgV_mem hx
    exact ⟨z, e, by omega, h1⟩
  · obtain ⟨l, hl, hx⟩ := List.mem_flatten.mp h
    obtain ⟨_, rfl⟩ := List.mem_replicate.mp hl
    exact ⟨-1, List.mem_singleton.mp hx, by omega, by omega⟩
theorem smV_len {far : Int} {m : Nat} (hf : 0 < far) : (smV far m).length = 3 * far.toNat + m := by
  unfold smV
  have h3 : (List.replicate 3 (rgV 0 far)).flatten.length = 3 * far.toNat := by
    show (rgV 0 far ++ (rgV 0 far ++ (rgV 0 far ++ []))).length = _
    rw [List.length_append, List.length_append, List.length_append, rgV_length]
    show (far - 0).toNat + ((far - 0).toNat + ((far - 0).toNat + 0)) = _
    rw [Int.sub_zero]
    omega
  have h4 : ∀ k : Nat, (List.replicate k [V.int (-1)]).flatten.length = k := fun k => by
    induction k with
    | zero => rfl
    | succ k ih =>
      rw [List.replicate_succ, List.flatten_cons, List.length_append, ih]
      show 1 + k = k + 1
      omega
  rw [List.length_append, h3, h4]
theorem dp_strs {K : PySem.W.Frag} {H : Hp} : ∀ zs : List Str, DpAll K H (zs.map V.str) (zs.map PyData.str)
  | [] => .nil
  | z :: zs => .cons (.str z) (dp_strs zs)
theorem strs_lay : ∀ zs : List Str, (∀ z ∈ zs, PyData.strOk z = true) → PyData.canLayAll0 (zs.map PyData.str) = true
  | [], _ => rfl
  | z :: zs, h => by
    rw [List.map_cons]
    unfold PyData.canLayAll0 PyData.canLay0
    rw [h z (List.mem_cons_self ..), Bool.true_and]
    exact strs_lay zs fun y hy => h y (List.mem_cons_of_mem _ hy)
theorem strs_depth : ∀ zs : List Str, PyData.depthAll (zs.map PyData.str) = 0
  | [] => rfl
  | z :: zs => by
    rw [List.map_cons]
    unfold PyData.depthAll
    rw [strs_depth zs]
    rfl
theorem strs_shaped (zs : List Str) (h : ∀ z ∈ zs, PyData.strOk z = true) : SeqAt.shaped (.list (zs.map PyData.str)) = true := by
  have h1 : PyData.canLay0 (.list (zs.map PyData.str)) = true := by
    unfold PyData.canLay0
    exact strs_lay zs h
  have h2 : PyData.depth (.list (zs.map PyData.str)) ≤ 64 := by
    unfold PyData.depth
    rw [strs_depth zs]
    decide
  unfold SeqAt.shaped
  rw [h1, decide_eq_true h2]
  rfl
theorem eqv_nil (zs : List Str) : PyData.eqv (.list (zs.map PyData.str)) (.list []) = zs.isEmpty := by
  cases zs <;> simp [PyData.eqv, PyData.eqvAll]
end MK
set_option Elab.async false
set_option linter.all false
set_option autoImplicit false
set_option maxRecDepth 100000
set_option maxHeartbeats 4000000
namespace MK
open PySem PySem.Spec PyProof.Rows L2
theorem take_next {zs : List Str} {i : Nat} (hi : i < zs.length) (y : Str) : decide (y ∈ zs.take (i + 1)) = (decide (y ∈ zs.take i) || decide (y = zs.getD i Str.empty)) := by
  have e : zs.take (i + 1) = zs.take i ++ [zs.getD i Str.empty] := by
    rw [List.take_add_one, List.getElem?_eq_getElem hi, List.getD_eq_getElem?_getD, List.getElem?_eq_getElem hi]
    rfl
  rw [e, Bool.eq_iff_iff]
  simp
theorem not_ahead {zs : List Str} {i : Nat} (nd : zs.Nodup) (hi : i < zs.length) : zs.getD i Str.empty ∉ zs.take i := by
  rw [List.getD_eq_getElem?_getD, List.getElem?_eq_getElem hi]
  intro m
  obtain ⟨j, hj⟩ := List.mem_iff_getElem?.mp m
  rw [List.getElem?_take] at hj
  split at hj
  · rename_i lt
    have hjl : j < zs.length := by omega
    rw [List.getElem?_eq_getElem hjl] at hj
    exact (List.pairwise_iff_getElem.mp nd j i hjl hi lt) (Option.some.inj hj)
  · cases hj
section
variable {prog : Program} {w : World} {A : Around} {R : Result → Shared → Prop} {I S : Addr} {fp wr : List Addr} {G : Array GenState → Array GenState → Prop} {n : Nat} {P : Nat → Value → Prop} {St : Nat → Shared → Prop} {zs : List Str}
theorem all_added (W : WalksS prog w A.in1 I fp wr G n P St) (off : S ∉ fp) (len : zs.length = n) (nd : zs.Nodup) (few : n < 1000) (at_ : ∀ i v, P i v → ∃ t, v = .str (zs.getD i Str.empty) t) :
    ∀ (left i : Nat) (s : Shared), i + left = n → St i s → s.heap.SetOf (strKind prog w) S (fun y => decide (y ∈ zs.take i)) i →
      (∀ s1, Moved (S :: wr) G s s1 → s1.heap.SetOf (strKind prog w) S (fun y => decide (y ∈ zs)) n → R (.ok (.ret .none)) s1) → codeAny (model prog w) A (.builtin "set.update.loop" ⟨[.ref S, .ref I], []⟩) R s := by
  intro left
  have off2 : S ∉ wr := fun m => off (W.sub _ m)
  induction left with
  | zero =>
    intro i s e st so k
    obtain rfl : i = n := e
    refine codeAny_builtin PyProof.Rows.F.entry_set_update_loop ?_
    rw [Around.under_plainId PyProof.Rows.F.plain_set_update_loop _]
    refine wpAny_bind (W.done s _ _ st fun s1 mv => wpAny_pure (k s1 (mv.mono fun b m => List.mem_cons_of_mem _ m) ?_))
    obtain ⟨o, es, ep, t, g, more⟩ := so
    have so1 : s1.heap.SetOf (strKind prog w) S (fun y => decide (y ∈ zs.take i)) i := ⟨o, es, ep, t, mv.heap S _ off2 g, more⟩
    rw [← len, List.take_length] at so1
    rw [← len]
    exact so1
  | succ left ih =>
    intro i s e st so k
    have lt : i < n := by omega
    have ltz : i < zs.length := by omega
    refine codeAny_builtin PyProof.Rows.F.entry_set_update_loop ?_
    rw [Around.under_plainId PyProof.Rows.F.plain_set_update_loop _]
    refine wpAny_bind (W.item i s _ _ lt st fun v s1 pv st1 mv => ?_)
    obtain ⟨t, rfl⟩ := at_ i v pv
    have so1 : s1.heap.SetOf (strKind prog w) S (fun y => decide (y ∈ zs.take i)) i := by
      obtain ⟨o, es, ep, tb, g, more⟩ := so
      exact ⟨o, es, ep, tb, mv.heap S _ off2 g, more⟩
    refine wpAny_bind (wpAny_holding ?_)
    unfold setAdd
    refine wpAny_holding (wpAny_bind ((strKind prog w).pyHash (k := zs.getD i Str.empty) (strKind_is _ _ _ _) ?_))
    refine wpAny_setAddHashed_of (knd := strKind prog w) (s := { s1 with toks := s1.toks + 1 }) (strKind_is _ _ _ _) rfl so1 (by unfold scanBound; omega) fun h2 only so2 => ?_
    have so3 : h2.SetOf (strKind prog w) S (fun y => decide (y ∈ zs.take (i + 1))) (i + 1) := by
      refine SetOf_congr so2 (fun y => (take_next ltz y).symm) ?_
      rw [decide_eq_false (not_ahead nd ltz)]
      rfl
    have keep : ∀ b, b ≠ S → ∀ o, s1.heap.get? b = some o → h2.get? b = some o := fun b ne o g => by
      rw [only.2 b ne]
      exact g
    refine wpAny_pure ⟨plainId_quiet PyProof.Rows.F.plain_set_update_loop _, ih (i + 1) _ (by omega) (W.frame _ s1 _ _ st1 (Nat.le_succ _) fun b m o g => keep b (fun q => off (q ▸ m)) o g) so3 fun s3 mv3 so4 => ?_⟩
    exact k s3 (Moved.trans W.gtrans ((mv.mono fun b m => List.mem_cons_of_mem _ m).then_heap (Nat.le_succ _) fun b o m g => keep b (fun q => m (by rw [q]; exact List.mem_cons_self)) o g) mv3) so4
end
section
variable {prog : Program} {w : World} {A : Around} {E : Value → Shared → Prop} {s : Shared} {l : Addr} {its : Array Value} {zs : List Str}
/-- a new set -/
def set0 (led : Bool) : Obj := { cls := .type "set", dict := none, data := .set #[] 0 (.fresh 0 0 led) }
def newS (s : Shared) (led : Bool) : Shared := { s with heap := s.heap.push (set0 led) }
/-- what set(texts) leaves -/
def Laid (prog : Program) (w : World) (s : Shared) (zs : List Str) (h : Heap) : Prop := h.SetOf (strKind prog w) s.heap.objs.size (fun y => decide (y ∈ zs)) zs.length ∧ ∀ b o, b < s.heap.objs.size → s.heap.get? b = some o → h.get? b = some o
theorem set_texts {Q : Value → Shared → Prop} (calm : A.handled = none) (hl : s.heap.IsList l its) (hz : StrsAre its.toList zs) (nd : zs.Nodup) (few : zs.length < 1000)
    (k : ∀ (h : Heap) (tk : Nat), Laid prog w s zs h → Q (.ref s.heap.objs.size) { s with heap := h, toks := tk }) : wpAny (model prog w) A (call (.type "set") [.ref l]) Q E s := by
  obtain ⟨c, tl, hmro⟩ := PySem.F.called_set.mro
  have m1 := PySem.F.called_set.made
  have m2 := PySem.F.called_set.sub
  refine wpAny_call (codeAny_of_tree (show wpAny _ _ (callAny (.type "set") _) _ _ _ from ?_))
  refine wpAny_pure ⟨Code.quiet_builtin _ (by decide +kernel), codeAny_builtin PySem.F.entry_type_call ?_⟩
  rw [Around.under_plain (weight_type_call_type "set" [.ref l] []) rfl]
  have m3 := PySem.F.called_set.notType
  have m4 := PySem.F.called_set.canCreate
  have m5 := PySem.F.typeCall_set_1 (.ref l)
  repeat (any_goals (first | assumption | wp_step))
  refine codeAny_mono (code_set_new_1 (.ref l) (E := E) (Q₁ := fun v s1 => ∃ led : Bool, v = .ref s.heap.objs.size ∧ s1 = newS s led) fun led => ⟨led, rfl, rfl⟩) fun r s1 hr => ?_
  cases r with
  | error e => exact hr
  | ok fl =>
    cases fl with
    | next => exact hr.elim
    | brk => exact hr.elim
    | cont => exact hr.elim
    | ret v =>
      obtain ⟨led, rfl, rfl⟩ := hr
      have at0 : (s.heap.push (set0 led)).get? s.heap.objs.size = some (set0 led) := Heap.get?_push_size _ rfl
      have ty0 : Shared.TypeIs (newS s led) (.ref s.heap.objs.size) "set" := ⟨_, at0, rfl⟩
      have m6 := PySem.F.called_set.init.lookup
      have m7 := PySem.F.called_set.init.bind (.ref s.heap.objs.size)
      unfold newS at ty0 ⊢
      repeat (any_goals (first | assumption | wp_step))
      refine codeAny_mono (codeAny_call_builtin (R := wants (fun v s2 => v = .none ∧ ∃ h tk, s2 = { s with heap := h, toks := tk } ∧ Laid prog w s zs h) E) PySem.F.called_set.init.plain PySem.F.entry_set_init (check_set_init_1 ty0 ?_)) fun r2 s2 h2 => ?_
      · obtain ⟨⟨cl, di, da, sl⟩, g, rfl, nl, rfl⟩ := hl
        have g0 : (s.heap.push (set0 led)).get? l = some { cls := .type "list", dict := di, data := .seq its nl, slots := sl } := Heap.get?_push_of_some _ g
        have n1 := PySem.F.sub_list_set
        have n2 := PySem.F.sub_list_frozenset
        have n3 : (Value.type "list" == Value.type "dict") = false := by decide
        have l0 : (s.heap.push (set0 led)).IsList l its := ⟨_, g0, rfl, nl, rfl⟩
        unfold Builtin.«set.__init__» noKeywords Builtin.Frozenset.updateFrom
        generalize hit : pyIter = it
        wp_walk
        subst hit
        refine wpAny_pyIter_list l0 (wpAny_bind (wpAny_runValue ?_))
        have below : l < s.heap.objs.size := Heap.lt_size g
        have sz : (s.heap.push (set0 led)).objs.size = s.heap.objs.size + 1 := Heap.size_push ..
        have d1 : l ≠ (s.heap.push (set0 led)).objs.size := Nat.ne_of_lt (by rw [sz]; exact Nat.lt_succ_of_lt below)
        have d2 : s.heap.objs.size ∉ [(s.heap.push (set0 led)).objs.size, l] := by
          rw [sz]
          intro m
          rcases List.mem_cons.mp m with e | m
          · omega
          · exact absurd (List.mem_singleton.mp m) (Nat.ne_of_gt below)
        have lz : zs.length = its.size := by rw [← StrsAre.len_eq hz, Array.length_toList]
        refine all_added (S := s.heap.objs.size) ((Walks.list (by simp [calm]) _ l d1 its).toS) d2 lz nd (by omega) (fun i v e => SS.strs_at hz i v (by rw [Array.getElem?_toList]; exact e)) its.size 0 _ (Nat.zero_add _)
          ⟨⟨_, Heap.get?_push_size _ rfl, rfl, rfl⟩, l0.push _⟩ ?_ ?_
        · have g1 := Heap.get?_push_of_some { cls := .type "list_iterator", data := .fields #[.ref l, .int 0 0] } at0
          exact SetOf_congr ((setObjOf_fresh (knd := strKind prog w) led).setOf g1 (by unfold scanBound; omega)) (fun _ => rfl) rfl
        · rintro ⟨h, g', d', tk, os'⟩ mv so
          obtain rfl : g' = s.gens := mv.gens
          obtain rfl : d' = s.drawn := mv.drawn
          obtain rfl : os' = s.os := mv.os
          refine wpAny_pure (wpAny_pure ⟨rfl, h, tk, rfl, by rw [lz]; exact so, fun b o lt e => ?_⟩)
          refine mv.heap b o (fun m => ?_) (Heap.get?_push_of_some _ (Heap.get?_push_of_some _ e))
          rcases List.mem_cons.mp m with q | m
          · exact Nat.ne_of_lt lt q
          · rcases List.mem_cons.mp m with q | m
            · rw [sz] at q
              exact Nat.ne_of_lt (Nat.lt_succ_of_lt lt) q
            · cases m
      · cases r2 with
        | error e => exact h2
        | ok fl =>
          cases fl with
          | next => exact h2.elim
          | brk => exact h2.elim
          | cont => exact h2.elim
          | ret v =>
            obtain ⟨rfl, h, tk, rfl, laid⟩ := h2
            repeat (any_goals (first | assumption | wp_step))
            exact k h _ laid
end
end MK
set_option Elab.async false
set_option linter.all false
set_option autoImplicit false
set_option maxRecDepth 100000
set_option maxHeartbeats 4000000
namespace MK
open PySem PySem.Spec PyProof.Rows L2
section
variable {prog : Program} {w : World} {A : Around} {E : Value → Shared → Prop} {s : Shared} {l : Addr} {its : Array Value} {zs : List Str}
theorem set_textsT {Q : Value → Shared → Prop} (calm : A.handled = none) (hl : s.heap.IsTuple l its) (hz : StrsAre its.toList zs) (nd : zs.Nodup) (few : zs.length < 1000)
    (k : ∀ (h : Heap) (tk : Nat), Laid prog w s zs h → Q (.ref s.heap.objs.size) { s with heap := h, toks := tk }) : wpAny (model prog w) A (call (.type "set") [.ref l]) Q E s := by
  obtain ⟨c, tl, hmro⟩ := PySem.F.called_set.mro
  have m1 := PySem.F.called_set.made
  have m2 := PySem.F.called_set.sub
  refine wpAny_call (codeAny_of_tree (show wpAny _ _ (callAny (.type "set") _) _ _ _ from ?_))
  refine wpAny_pure ⟨Code.quiet_builtin _ (by decide +kernel), codeAny_builtin PySem.F.entry_type_call ?_⟩
  rw [Around.under_plain (weight_type_call_type "set" [.ref l] []) rfl]
  have m3 := PySem.F.called_set.notType
  have m4 := PySem.F.called_set.canCreate
  have m5 := PySem.F.typeCall_set_1 (.ref l)
  repeat (any_goals (first | assumption | wp_step))
  refine codeAny_mono (code_set_new_1 (.ref l) (E := E) (Q₁ := fun v s1 => ∃ led : Bool, v = .ref s.heap.objs.size ∧ s1 = newS s led) fun led => ⟨led, rfl, rfl⟩) fun r s1 hr => ?_
  cases r with
  | error e => exact hr
  | ok fl =>
    cases fl with
    | next => exact hr.elim
    | brk => exact hr.elim
    | cont => exact hr.elim
    | ret v =>
      obtain ⟨led, rfl, rfl⟩ := hr
      have at0 : (s.heap.push (set0 led)).get? s.heap.objs.size = some (set0 led) := Heap.get?_push_size _ rfl
      have ty0 : Shared.TypeIs (newS s led) (.ref s.heap.objs.size) "set" := ⟨_, at0, rfl⟩
      have m6 := PySem.F.called_set.init.lookup
      have m7 := PySem.F.called_set.init.bind (.ref s.heap.objs.size)
      unfold newS at ty0 ⊢
      repeat (any_goals (first | assumption | wp_step))
      refine codeAny_mono (codeAny_call_builtin (R := wants (fun v s2 => v = .none ∧ ∃ h tk, s2 = { s with heap := h, toks := tk } ∧ Laid prog w s zs h) E) PySem.F.called_set.init.plain PySem.F.entry_set_init (check_set_init_1 ty0 ?_)) fun r2 s2 h2 => ?_
      · obtain ⟨⟨cl, di, da, sl⟩, g, rfl, nl, rfl⟩ := hl
        have g0 : (s.heap.push (set0 led)).get? l = some { cls := .type "tuple", dict := di, data := .seq its nl, slots := sl } := Heap.get?_push_of_some _ g
        have n1 := PySem.F.sub_tuple_set
        have n2 := PySem.F.sub_tuple_frozenset
        have n3 : (Value.type "tuple" == Value.type "dict") = false := by decide
        have l0 : (s.heap.push (set0 led)).IsTuple l its := ⟨_, g0, rfl, nl, rfl⟩
        unfold Builtin.«set.__init__» noKeywords Builtin.Frozenset.updateFrom
        generalize hit : pyIter = it
        wp_walk
        subst hit
        refine wpAny_pyIter_tuple l0 (wpAny_bind (wpAny_runValue ?_))
        have below : l < s.heap.objs.size := Heap.lt_size g
        have sz : (s.heap.push (set0 led)).objs.size = s.heap.objs.size + 1 := Heap.size_push ..
        have d1 : l ≠ (s.heap.push (set0 led)).objs.size := Nat.ne_of_lt (by rw [sz]; exact Nat.lt_succ_of_lt below)
        have d2 : s.heap.objs.size ∉ [(s.heap.push (set0 led)).objs.size, l] := by
          rw [sz]
          intro m
          rcases List.mem_cons.mp m with e | m
          · omega
          · exact absurd (List.mem_singleton.mp m) (Nat.ne_of_gt below)
        have lz : zs.length = its.size := by rw [← StrsAre.len_eq hz, Array.length_toList]
        refine all_added (S := s.heap.objs.size) ((Walks.tuple (by simp [calm]) _ l d1 its).toS) d2 lz nd (by omega) (fun i v e => SS.strs_at hz i v (by rw [Array.getElem?_toList]; exact e)) its.size 0 _ (Nat.zero_add _)
          ⟨⟨_, Heap.get?_push_size _ rfl, rfl, rfl⟩, l0.push _⟩ ?_ ?_
        · have g1 := Heap.get?_push_of_some { cls := .type "tuple_iterator", data := .fields #[.ref l, .int 0 0] } at0
          exact SetOf_congr ((setObjOf_fresh (knd := strKind prog w) led).setOf g1 (by unfold scanBound; omega)) (fun _ => rfl) rfl
        · rintro ⟨h, g', d', tk, os'⟩ mv so
          obtain rfl : g' = s.gens := mv.gens
          obtain rfl : d' = s.drawn := mv.drawn
          obtain rfl : os' = s.os := mv.os
          refine wpAny_pure (wpAny_pure ⟨rfl, h, tk, rfl, by rw [lz]; exact so, fun b o lt e => ?_⟩)
          refine mv.heap b o (fun m => ?_) (Heap.get?_push_of_some _ (Heap.get?_push_of_some _ e))
          rcases List.mem_cons.mp m with q | m
          · exact Nat.ne_of_lt lt q
          · rcases List.mem_cons.mp m with q | m
            · rw [sz] at q
              exact Nat.ne_of_lt (Nat.lt_succ_of_lt lt) q
            · cases m
      · cases r2 with
        | error e => exact h2
        | ok fl =>
          cases fl with
          | next => exact h2.elim
          | brk => exact h2.elim
          | cont => exact h2.elim
          | ret v =>
            obtain ⟨rfl, h, tk, rfl, laid⟩ := h2
            repeat (any_goals (first | assumption | wp_step))
            exact k h _ laid
end
/-- len(set(xs)), xs a list or tuple of distinct texts -/
def tLenS (K : PySem.W.Frag) (ta : TE) : TE := fun σ H Q => ta σ H fun x H1 => ∃ zs : List Str, Sq K H1 x (zs.map V.str) ∧ zs.Nodup ∧ zs.length < 1000 ∧ Q (.int zs.length) H1
theorem pe_lenS {X : Cx} {a : Expr} {ta : TE} {p p2 q pos : Pos} (hc : X.calm = true) (hg : Gl X "len") (hm : X.mg "len" = none) (hg2 : Gl X "set") (hm2 : X.mg "set" = none) (ha : PE X a ta)
    (na : starEach [a] X.env = (false, eval a X.env) :: starEach [] X.env := by rfl) : PE X (.Call (.Name "len" p) [.Call (.Name "set" p2) [a] [] q] [] pos) (tLenS X.K ta) := by
  refine ⟨fun pins s σ H Q I h => Call_ (ld_blt I hg hm boot_len (callWith_builtin1 (args_cons (Call_ (ld_blt I hg2 hm2 boot_set ?_)) rfl) rfl rfl))⟩
  refine callWith_type1 (args_cons (thn (ha.run pins s σ H _ I h) fun v s1 ⟨x, H1, I1, r1, zs, ⟨l, e, sq⟩, nd, few, q⟩ => args_nil ?_) na) na rfl
  subst e
  cases r1
  have fin : ∀ (h : Heap) (tk : Nat), Laid X.prog X.w s1 zs h → wpAny (model X.prog X.w) X.A (spliced (backTo pos (starEach [] X.env)))
      (fun vs s2 => wpAny (model X.prog X.w) X.A (call (.builtin "len") (Value.ref s1.heap.objs.size :: vs)) (EP X pins σ Q) X.xe s2) X.xe { s1 with heap := h, toks := tk } := fun h tk ⟨so, kp⟩ => by
    obtain ⟨o, es, ep, t, g, ex, hd, _, _, _, fits, cnt⟩ := so
    have I2 : Inv X pins σ H1 { s1 with heap := h, toks := tk } := I1.kept fun b o e => kp b o (Heap.lt_size e) e
    exact args_nil (call_len_set g ex hd fits (by rw [cnt] <;> omega) ⟨.int zs.length, H1, I2.tok _, ⟨_, by rw [cnt]⟩, q⟩)
  rcases sq with sq | sq
  · obtain ⟨us, r, pl, _⟩ := I1.list sq
    exact set_texts (I1.ok.hd hc) pl.isList (by simpa using strsAre_of r) nd few fin
  · obtain ⟨us, r, pl, _⟩ := I1.tuple sq
    exact set_textsT (I1.ok.hd hc) pl (by simpa using strsAre_of r) nd few fin
end MK
set_option Elab.async false
set_option linter.all false
set_option autoImplicit false
set_option maxRecDepth 100000
set_option maxHeartbeats 4000000
namespace MK
open PySem PySem.Spec PyProof.Rows L2
/-- a constant of the module -/
theorem pe_cst {X : Cx} {x : Str} {pos : Pos} {v : V} (hg : Gl X x) (h : ∃ u, X.mg x = some u ∧ RelV v u) (hd : (x == ("__debug__" : Str)) = false := by decide) : PE X (.Name x pos) (tC v) := by
  obtain ⟨u, m, r⟩ := h
  exact pe_glob hg m r hd
theorem any_two {K : PySem.W.Frag} {t a b : String} {r1 r2 : Bool} (h1 : kitB t a = some r1) (h2 : kitB t b = some r2) : PySem.W.kitAny K (.type t) [.type a, .type b] = some (r1 || r2) := by
  refine kitAny_cons (kit_ty h1) (fun e => ?_) (fun e => by rw [e]; rfl)
  refine kitAny_cons (kit_ty h2) (fun e2 => ?_) (fun e2 => by rw [e2, Bool.or_true])
  rw [e, e2]
  rfl
/-- it is a list or a tuple -/
theorem sq_ty {K : PySem.W.Frag} {H : Hp} {a : Addr} {xs : List V} (h : SqL K H a xs ∨ SqT K H a xs) : ∃ t, TyX K H (.ref a) (.type t) ∧ PySem.W.kitAny K (.type t) [.type "list", .type "tuple"] = some true := by
  rcases h with h | h
  · exact ⟨"list", tyx_l h, any_two (r1 := true) (r2 := false) (by decide +kernel) (by decide +kernel)⟩
  · exact ⟨"tuple", tyx_t h, any_two (r1 := false) (r2 := true) (by decide +kernel) (by decide +kernel)⟩
/-- (a, b, ..) = a list or a tuple of that length -/
def gSq (K : PySem.W.Frag) (n : Nat) (t : TGs) : TG := fun v σ H Q => ∃ xs, Sq K H v xs ∧ xs.length = n ∧ t xs σ H Q
theorem pg_sq {X : Cx} {es : List Expr} {k : Nat} {t : TGs} {n : Nat} {pos : Pos} (hc : X.calm = true) (h : PGs X es t)
    (hn : (assignEach es X.env).length = n := by rfl) (hst : (assignEach es X.env).findIdx? (·.1) = none := by rfl) : PG X (.Tuple es k pos) (gSq X.K n t) := by
  refine ⟨fun pins s σ H v u Q I r ⟨xs, ⟨a, e, sq⟩, l, q⟩ => ?_⟩
  rcases sq with sq | sq
  · exact (pg_unl hc h hn hst).run pins s σ H v u Q I r ⟨a, xs, e, sq, l, q⟩
  · exact (pg_tup hc h hn hst).run pins s σ H v u Q I r ⟨a, xs, e, sq, l, q⟩
/-- what is walked is a list or a tuple, of which nothing changes on the way -/
def iSqS (K : PySem.W.Frag) (te : TE) : TI := fun σ H R => te σ H fun v H1 => ∃ (a : Addr) (xs : List V) (H0 : Hp), v = .ref a ∧ (SqL K H0 a xs ∨ SqT K H0 a xs) ∧ Same H0 H1 ∧
  ∀ (J : It) (G : Hp → Prop), Walk J xs.length G (YAt xs) → (∀ H', Same H0 H' → G H') → R J H1
def iEnS (K : PySem.W.Frag) (ta : TA) : TI := fun σ H R => ta σ H fun vs H1 => ∃ (a : Addr) (xs : List V) (H0 : Hp), vs = [.ref a] ∧ (SqL K H0 a xs ∨ SqT K H0 a xs) ∧ Same H0 H1 ∧
  ∀ (J : It) (G : Hp → Prop), Walk J xs.length G (YPair (fun i => some (.int (i : Nat))) (fun i => xs[i]?)) → (∀ H', Same H0 H' → G H') → R J H1
theorem pi_sqV {X : Cx} {tg e : Expr} {i : Nat} (h : PE X e (tVar i)) : PI X tg e (iSqS X.K (tVar i)) := by
  refine ⟨fun pins s σ H R I ⟨v, ev, a, xs, H0, r, sq, sm, k⟩ => ?_⟩
  subst r
  rcases sq with sq | sq
  · exact (pi_list h).run pins s σ H R I ⟨_, ev, a, rfl, ⟨xs, sm.seq sq⟩, k _ _ walk_list fun H' e' => e'.seq sq⟩
  · exact (pi_tup h).run pins s σ H R I ⟨_, ev, a, rfl, ⟨xs, same_t sm sq⟩, k _ _ walk_tup fun H' e' => same_t e' sq⟩
theorem pi_enV {X : Cx} {e : Expr} {i : Nat} {p pos tpos : Pos} {elts : List Expr} {kk : Nat} (hg : Gl X "enumerate") (hm : X.mg "enumerate" = none) (ha : PA X [e] (tCons (tVar i) tNil)) (hs : starEach [e] X.env = [(false, eval e X.env)] := by rfl) :
    PI X (.Tuple elts kk tpos) (.Call (.Name "enumerate" p) [e] [] pos) (iEnS X.K (tCons (tVar i) tNil)) := by
  refine ⟨fun pins s σ H R I ⟨v, ev, a, xs, H0, r, sq, sm, k⟩ => ?_⟩
  obtain ⟨rfl, _⟩ := List.cons.inj r
  rcases sq with sq | sq
  · exact (pi_enum hg hm ha hs).run pins s σ H R I ⟨_, ev, a, xs, rfl, sm.seq sq, k _ _ walk_enum fun H' e' => e'.seq sq⟩
  · exact (pi_enumT hg hm ha hs).run pins s σ H R I ⟨_, ev, a, xs, rfl, same_t sm sq, k _ _ walk_enumT fun H' e' => same_t e' sq⟩
theorem iteB {b : Bool} {A B : Prop} (e : b = false) (h : B) : if b = true then A else B := by
  subst e
  exact iteF h
theorem iteA {b : Bool} {A B : Prop} (e : b = true) (h : A) : if b = true then A else B := by
  subst e
  exact iteT h
/-- d[e], d a written dict of the module -/
def tKGet (K : PySem.W.Frag) (d : Addr) (td ty : TE) : TE := fun σ H Q => td σ H fun x H1 => ty σ H1 fun y H2 => ∃ (z : Str) (u0 : Value) (v0 : V), x = .ref d ∧ y = .str z ∧ PySem.W.nsIn K d z = some (some u0) ∧ RelV v0 u0 ∧ Q v0 H2
theorem pe_kget {X : Cx} {d : Addr} {es : Array DictEntry} {n : Nat} {o i : Expr} {pos : Pos} {td ty : TE} (D : KDict X.K X.w d es n) (ho : PE X o td) (hi : PE X i ty) (hs : NoSl i) : PE X (.Subscript o i pos) (tKGet X.K d td ty) := by
  refine ⟨fun pins s σ H Q I h => ?_⟩
  refine subD_of PySem.F.slot_dict_getitem.lookup hs (thn (ho.run pins s σ H _ I h) fun u s1 ⟨x, H1, I1, rx, q1⟩ => thn (hi.run pins s1 σ H1 _ I1 q1) fun iv s2 ⟨y, H2, I2, ry, z, u0, v0, ex, ey, eq, rv, q2⟩ => ?_)
  have rx' := rx
  rw [ex] at rx'
  obtain rfl : u = Value.ref d := rx'
  exact ⟨kd_type D I2, op_item_kd D pins s2 σ H2 x y _ iv Q I2 rx ry ⟨z, u0, v0, ex, ey, eq, rv, q2⟩⟩
/-- the dict of the sorts -/
def sortsV (fs : List FD) : List (Key × V) := fs.map fun f => (.inr f.nm, .str (sortS f.many))
theorem sorts_get : ∀ {fs : List FD}, (fs.map (·.nm)).Nodup → ∀ {f : FD}, f ∈ fs → valV (sortsV fs) (.inr f.nm) = some (.str (sortS f.many))
  | [], _, f, h => by cases h
  | g :: gs, nd, f, h => by
    rw [List.map_cons, List.nodup_cons] at nd
    rcases List.mem_cons.mp h with rfl | h
    · exact valV_pos rfl
    · have ne : ¬ g.nm = f.nm := fun e => nd.1 (e ▸ List.mem_map_of_mem h)
      show valV ((.inr g.nm, .str (sortS g.many)) :: sortsV gs) (.inr f.nm) = _
      rw [valV_neg (fun e => ne (Sum.inr.inj e))]
      exact sorts_get nd.2 h
theorem call_tuple_ofK {X : Cx} {K : PySem.W.Frag} (h : X.K = K) : CallR X (.type "tuple") (fun xs H Q => ∃ p ys, xs = [.ref p] ∧ ((SqL K H p ys ∧ ∀ l, H l = none → Q (.ref l) (upd H l (.tup ys))) ∨ (SqT K H p ys ∧ Q (.ref p) H))) := by subst h; exact call_tuple_of
theorem rd_tup {K : PySem.W.Frag} {s : Addr} {H : Hp} {x : V} {ys : List V} {Q : VK} (hs : H s ≠ none) (h : Sq K (Off s H) x ys) (q : ∀ v H', Same H H' → Tu K (Off s H') v ys → Q v H') :
    ∃ p zs, [x] = [.ref p] ∧ ((SqL K H p zs ∧ ∀ l, H l = none → Q (.ref l) (upd H l (.tup zs))) ∨ (SqT K H p zs ∧ Q (.ref p) H)) := by
  obtain ⟨p, rfl, h⟩ := h
  rcases h with h | h
  · refine ⟨p, ys, rfl, .inl ⟨off_same.seq h, fun l hl => q _ _ (same_new (Same.refl H) hl) (Tu.tup ?_)⟩⟩
    rw [off_ne (fun e : l = s => hs (by rw [← e]; exact hl)), upd_same]
  · exact ⟨p, ys, rfl, .inr ⟨same_t off_same h, q _ _ (Same.refl H) ⟨p, rfl, h⟩⟩⟩
theorem rd_tupM {K : PySem.W.Frag} {s : Addr} {H : Hp} {x : V} {ys : List V} (hs : H s ≠ none) (h : Sq K (Off s H) x ys) :
    ∃ p zs, [x] = [.ref p] ∧ ((SqL K H p zs ∧ ∀ l, H l = none → Same H (upd H l (.tup zs)) ∧ Tu K (Off s (upd H l (.tup zs))) (.ref l) ys) ∨ (SqT K H p zs ∧ Same H H ∧ Tu K (Off s H) (.ref p) ys)) :=
  rd_tup (Q := fun v H' => Same H H' ∧ Tu K (Off s H') v ys) hs h fun _ _ e t => ⟨e, t⟩
theorem ne_s {s d : Addr} {H H1 : Hp} (hs : H s ≠ none) (e : Same H H1) (h : H1 d = none) : d ≠ s := fun q => by
  cases z : H s with
  | none => exact hs z
  | some o => rw [q, e _ _ z] at h; cases h
theorem kept_s {s : Addr} {H H1 : Hp} (hs : H s ≠ none) (e : Same H H1) : H1 s ≠ none := by
  cases z : H s with
  | none => exact absurd z hs
  | some o => rw [e _ _ z]; exact nofun
theorem len_sub : ∀ {xs ys : List Str}, xs.Nodup → (∀ x ∈ xs, x ∈ ys) → xs.length ≤ ys.length
  | [], _, _, _ => Nat.zero_le _
  | x :: xs, ys, nd, h => by
    rw [List.nodup_cons] at nd
    have hx := h x (List.mem_cons_self ..)
    have := len_sub (ys := ys.erase x) nd.2 fun y hy => (List.mem_erase_of_ne (fun e : y = x => nd.1 (by rw [← e]; exact hy))).mpr (h y (List.mem_cons_of_mem _ hy))
    rw [List.length_erase_of_mem hx] at this
    have := List.length_pos_of_mem hx
    rw [List.length_cons]
    omega
theorem Tu.offL {K : PySem.W.Frag} {H : Hp} {v : V} {xs : List V} {d : Addr} {ys : List V} (h : Tu K H v xs) (hd : H d = some (.lst ys)) : Tu K (Off d H) v xs := by
  obtain ⟨b, rfl, h⟩ := h
  refine ⟨b, rfl, ?_⟩
  rcases h with (h | ⟨o, h⟩) | h
  · exact .inl (.inl ((off_ne (fun e => by rw [e, hd] at h; cases h)).trans h))
  · exact .inl (.inr ⟨o, (off_ne (fun e => by rw [e, hd] at h; cases h)).trans h⟩)
  · exact .inr h
/-- nothing that is a tuple -/
def NoTup (o : HO) : Prop := (∀ ys, o ≠ .tup ys) ∧ ∀ p ys, o ≠ .frz p (.tup ys)
theorem Tu.off {K : PySem.W.Frag} {H : Hp} {v : V} {xs : List V} {d : Addr} {o : HO} (h : Tu K H v xs) (hd : H d = some o) (no : NoTup o) : Tu K (Off d H) v xs := by
  obtain ⟨b, rfl, h⟩ := h
  refine ⟨b, rfl, ?_⟩
  rcases h with (h | ⟨p, h⟩) | h
  · exact .inl (.inl ((off_ne (fun e => by rw [e, hd] at h; exact no.1 _ (Option.some.inj h))).trans h))
  · exact .inl (.inr ⟨p, (off_ne (fun e => by rw [e, hd] at h; exact no.2 _ _ (Option.some.inj h))).trans h⟩)
  · exact .inr h
theorem CdT.off {K : PySem.W.Frag} {H : Hp} {v : V} {c : CD} {d : Addr} {o : HO} (h : CdT K H v c) (hd : H d = some o) (no : NoTup o) : CdT K (Off d H) v c := by
  obtain ⟨m, dv, s, ds, h1, h2, h3, h4, h5⟩ := h
  exact ⟨m, dv, s, ds, h1.off hd no, h2.off hd no, h3.off hd no, h4.mono fun _ _ h => Tu.off h hd no, h5.off hd no⟩
theorem no_lst {xs : List V} : NoTup (.lst xs) := ⟨fun _ h => HO.noConfusion h, fun _ _ h => HO.noConfusion h⟩
theorem no_ins {C dx : Addr} {fs : List (Str × V)} : NoTup (.ins C dx fs) := ⟨fun _ h => HO.noConfusion h, fun _ _ h => HO.noConfusion h⟩
theorem no_dK {kvs : List (Key × V)} : NoTup (.dK kvs) := ⟨fun _ h => HO.noConfusion h, fun _ _ h => HO.noConfusion h⟩
theorem same_offN {A B : Hp} {d : Addr} (e : Same A B) (h : A d = none) : Same A (Off d B) := fun b o hb => by
  rw [off_ne (fun q => by rw [q, h] at hb; cases hb)]
  exact e _ _ hb
/-- the i-th turn of a dict comprehension, over anything that is walked -/
theorem dc_it {J : It} {n : Nat} {G : Hp → Prop} {Y : Nat → Hp → V → Hp → Prop} (wk : Walk J n G Y) {g : TG} {tt : TT} {tk tv : TE} {vs : List Nat} {σ : L2.St} {H1 : Hp} {D : Addr} {Qd : Hp → Prop} (Pv : Nat → Hp → Prop) (h0 : Pv 0 (upd H1 D (.dK []))) (hG : ∀ i H, i ≤ n → Pv i H → G H)
    (hs : ∀ i x H H', i < n → Pv i H → Y i H x H' → g x (wipe σ vs) H' fun σ2 H2 => wipe σ2 vs = wipe σ vs ∧ tt σ2 H2 fun b H3 =>
      if b = true then tk σ2 H3 fun y H4 => tv σ2 H4 fun z H5 => ∃ kvs k, y = kV k ∧ H5 D = some (.dK kvs) ∧ kvs.length < sizeLine ∧ Pv (i + 1) (upd H5 D (.dK (putK kvs k z))) else Pv (i + 1) H3) (hd : ∀ H, Pv n H → Qd H) :
    ∃ W : Nat → Nat → Hp → Prop, (∃ m, W 0 m (upd H1 D (.dK []))) ∧ ∀ i m H, W i m H →
      (J.stop i H ∧ Qd H) ∨ (J.go i H ∧ ∃ Nx : Hp → Prop, (∀ H', Nx H' → ∃ m', m' < m ∧ W (i + 1) m' H') ∧ ∀ x H', J.yld i H x H' → g x (wipe σ vs) H' fun σ2 H2 => wipe σ2 vs = wipe σ vs ∧ tt σ2 H2 fun b H3 =>
        if b = true then tk σ2 H3 fun y H4 => tv σ2 H4 fun z H5 => ∃ kvs k, y = kV k ∧ H5 D = some (.dK kvs) ∧ kvs.length < sizeLine ∧ Nx (upd H5 D (.dK (putK kvs k z))) else Nx H3) := by
  refine ⟨fun i m H => m + i = n ∧ Pv i H, ⟨n, rfl, h0⟩, fun i m H ⟨e, p⟩ => ?_⟩
  cases m with
  | zero =>
    have e : i = n := by omega
    subst e
    exact .inl ⟨wk.stops _ (hG _ _ (Nat.le_refl _) p), hd _ p⟩
  | succ m =>
    have lt : i < n := by omega
    have gH := hG _ _ (Nat.le_of_lt lt) p
    exact .inr ⟨wk.goes _ _ lt gH, Pv (i + 1), fun H' p' => ⟨m, Nat.lt_succ_self m, by omega, p'⟩, fun x H' y => hs i x H H' lt p (wk.yields _ _ _ _ lt gH y)⟩
theorem putK_new {kvs : List (Key × V)} {k : Key} {v : V} (h : ∀ p ∈ kvs, p.1 ≠ k) : putK kvs k v = kvs ++ [(k, v)] := by
  unfold putK
  rw [if_neg]
  intro q
  obtain ⟨p, hp, e⟩ := List.any_eq_true.mp q
  exact h p hp (of_decide_eq_true e)
/-- the places of the fields, the calls by their names -/
def spotsV (fs : List FD) : List (Key × V) := (List.range fs.length).zipWith (fun i (f : FD) => ((.inr f.nm : Key), V.int (i : Nat))) fs
def tableV (cs : List CD) (sv : List V) : List (Key × V) := List.zipWith (fun (c : CD) v => ((.inr c.nm : Key), v)) cs sv
def KdA (K : PySem.W.Frag) (KC : Addr) (H : Hp) (v : V) (fs : List FD) (n : Nat) (cs : List CD) : Prop := ∃ (x dx so sp tb : Addr) (t st : V) (tv sv : List V), v = .ref x ∧
  H x = some (.ins KC dx [("triples", t), ("sorts", .ref so), ("spots", .ref sp), ("modes", .int n), ("steps", st), ("table", .ref tb)]) ∧ Tu K H t tv ∧ Al (FdT K H) tv fs ∧ H so = some (.dK (sortsV fs)) ∧ H sp = some (.dK (spotsV fs)) ∧
  Tu K H st sv ∧ Al (CdT K H) sv cs ∧ H tb = some (.dK (tableV cs sv))
theorem KdA.keep {K : PySem.W.Frag} {KC : Addr} {H H' : Hp} {v : V} {fs : List FD} {n : Nat} {cs : List CD} (e : Same H H') (h : KdA K KC H v fs n cs) : KdA K KC H' v fs n cs := by
  obtain ⟨x, dx, so, sp, tb, t, st, tv, sv, h0, h1, h2, h3, h4, h5, h6, h7, h8⟩ := h
  exact ⟨x, dx, so, sp, tb, t, st, tv, sv, h0, e _ _ h1, h2.keep e, h3.mono fun _ _ h => FdT.keep e h, e _ _ h4, e _ _ h5, h6.keep e, h7.mono fun _ _ h => CdT.keep e h, e _ _ h8⟩
theorem lt_sing (a b : Nat) : (decide ([a] < [b])) = decide (a < b) := by
  rw [Bool.eq_iff_iff, decide_eq_true_iff, decide_eq_true_iff]
  constructor
  · intro h
    cases h with
    | rel h => exact h
    | cons h => cases h
  · intro h
    exact List.Lex.rel h
theorem letter_le (c : Nat) : (!decide ((⟨#[c]⟩ : Str).cps.toList < ("a" : Str).cps.toList)) = decide (97 ≤ c) := by
  show (!decide ([c] < [97])) = _
  rw [lt_sing, Bool.eq_iff_iff]
  simp
theorem letter_ge (c : Nat) : (!decide (("z" : Str).cps.toList < (⟨#[c]⟩ : Str).cps.toList)) = decide (c ≤ 122) := by
  show (!decide ([122] < [c])) = _
  rw [lt_sing, Bool.eq_iff_iff]
  simp
theorem letters_take (xs : List Nat) (i : Nat) (c : Nat) (h : xs[i]? = some c) : (xs.take (i + 1)).map letterB = (xs.take i).map letterB ++ [letterB c] := by
  rw [List.take_succ, h]
  simp
end MK
set_option Elab.async false
set_option linter.all false
set_option autoImplicit false
set_option maxRecDepth 100000
set_option maxHeartbeats 400000
namespace MK
open PySem PySem.Spec PyProof.Rows L2
theorem put_take {full : List (Key × V)} {i : Nat} {k : Key} {v : V} (nd : (full.map (·.1)).Nodup) (h : full[i]? = some (k, v)) : putK (full.take i) k v = full.take (i + 1) := by
  rw [List.take_succ, h]
  refine putK_new fun p hp e => ?_
  obtain ⟨j, hj⟩ := List.mem_iff_getElem?.mp hp
  rw [List.getElem?_take] at hj
  split at hj
  · rename_i lt
    obtain ⟨hjl, ej⟩ := List.getElem?_eq_some_iff.mp hj
    obtain ⟨hil, ei⟩ := List.getElem?_eq_some_iff.mp h
    refine List.pairwise_iff_getElem.mp nd j i (by simpa using hjl) (by simpa using hil) lt ?_
    rw [List.getElem_map, List.getElem_map, ej, ei]
    exact e
  · cases hj
theorem inr_nodup : ∀ {zs : List Str}, zs.Nodup → (zs.map (Sum.inr : Str → Key)).Nodup
  | [], _ => List.nodup_nil
  | z :: zs, h => by
    rw [List.nodup_cons] at h
    rw [List.map_cons, List.nodup_cons]
    refine ⟨fun m => ?_, inr_nodup h.2⟩
    obtain ⟨y, hy, e⟩ := List.mem_map.mp m
    exact h.1 (Sum.inr.inj e ▸ hy)
theorem sorts_nd {fs : List FD} (h : (fs.map (·.nm)).Nodup) : ((sortsV fs).map (·.1)).Nodup := by
  have := inr_nodup h
  rw [List.map_map] at this
  unfold sortsV
  rw [List.map_map]
  exact this
theorem zip_keys {α β : Type} (g : α → β → Key × V) (q : β → Key) (e : ∀ a b, (g a b).1 = q b) : ∀ (as : List α) (bs : List β), as.length = bs.length → (List.zipWith g as bs).map (·.1) = bs.map q
  | [], [], _ => rfl
  | a :: as, b :: bs, h => by
    rw [List.zipWith_cons_cons, List.map_cons, List.map_cons, e, zip_keys g q e as bs (by simpa using h)]
  | [], _ :: _, h => by simp at h
  | _ :: _, [], h => by simp at h
theorem spots_nd {fs : List FD} (h : (fs.map (·.nm)).Nodup) : ((spotsV fs).map (·.1)).Nodup := by
  have := inr_nodup h
  rw [List.map_map] at this
  unfold spotsV
  rw [zip_keys _ (fun f => Sum.inr f.nm) (fun _ _ => rfl) _ _ (by rw [List.length_range])]
  exact this
theorem zip_keys2 {α β : Type} (g : α → β → Key × V) (q : α → Key) (e : ∀ a b, (g a b).1 = q a) : ∀ (as : List α) (bs : List β), as.length = bs.length → (List.zipWith g as bs).map (·.1) = as.map q
  | [], [], _ => rfl
  | a :: as, b :: bs, h => by
    rw [List.zipWith_cons_cons, List.map_cons, List.map_cons, e, zip_keys2 g q e as bs (by simpa using h)]
  | [], _ :: _, h => by simp at h
  | _ :: _, [], h => by simp at h
theorem table_nd {cs : List CD} {sv : List V} (h : (cs.map (·.nm)).Nodup) (l : sv.length = cs.length) : ((tableV cs sv).map (·.1)).Nodup := by
  have := inr_nodup h
  rw [List.map_map] at this
  unfold tableV
  rw [zip_keys2 _ (fun c => Sum.inr c.nm) (fun _ _ => rfl) _ _ l.symm]
  exact this
theorem sorts_at {fs : List FD} {i : Nat} {f : FD} (h : fs[i]? = some f) : (sortsV fs)[i]? = some (.inr f.nm, .str (sortS f.many)) := by
  unfold sortsV
  rw [List.getElem?_map, h]
  rfl
theorem spots_at {fs : List FD} {i : Nat} {f : FD} (h : fs[i]? = some f) : (spotsV fs)[i]? = some (.inr f.nm, .int (i : Nat)) := by
  unfold spotsV
  have hi := (List.getElem?_eq_some_iff.mp h).1
  rw [List.getElem?_zipWith, h, List.getElem?_range hi]
theorem table_at {cs : List CD} {sv : List V} {i : Nat} {c : CD} {v : V} (h : cs[i]? = some c) (hv : sv[i]? = some v) : (tableV cs sv)[i]? = some (.inr c.nm, v) := by
  unfold tableV
  rw [List.getElem?_zipWith, h, hv]
theorem sorts_len (fs : List FD) : (sortsV fs).length = fs.length := List.length_map ..
theorem spots_len (fs : List FD) : (spotsV fs).length = fs.length := by
  unfold spotsV
  rw [List.length_zipWith, List.length_range, Nat.min_self]
theorem table_len {cs : List CD} {sv : List V} (l : sv.length = cs.length) : (tableV cs sv).length = cs.length := by
  unfold tableV
  rw [List.length_zipWith, l, Nat.min_self]
/-- a new list -/
def LsN (H0 H : Hp) (v : V) (xs : List V) : Prop := ∃ a, v = .ref a ∧ H0 a = none ∧ H a = some (.lst xs)
theorem LsN.ls {H0 H : Hp} {v : V} {xs : List V} (h : LsN H0 H v xs) : Ls H v xs := by
  obtain ⟨a, e, _, h⟩ := h
  exact ⟨a, e, h⟩
theorem LsN.keep {H0 H H' : Hp} {v : V} {xs : List V} (e : Same H H') (h : LsN H0 H v xs) : LsN H0 H' v xs := by
  obtain ⟨a, r, n, h⟩ := h
  exact ⟨a, r, n, e _ _ h⟩
theorem LsN.off {H0 H : Hp} {v : V} {xs : List V} {d : Addr} {o : HO} (h : LsN H0 H v xs) (hd : H0 d = some o) : LsN H0 (Off d H) v xs := by
  obtain ⟨a, r, n, h⟩ := h
  exact ⟨a, r, n, (off_ne (fun e => by rw [e, hd] at n; cases n)).trans h⟩
/-- a drawn call whose lists are new -/
def CdN (K : PySem.W.Frag) (H0 H : Hp) (v : V) (c : CD) : Prop := ∃ m d s ds, Tu K H v [.str c.nm, .str c.hand, m, d, s] ∧ LsN H0 H m (c.moves.map V.int) ∧ LsN H0 H d ds ∧ Al (DeT K H) ds c.deeds ∧ LsN H0 H s (c.same.map V.str)
theorem CdN.l {K : PySem.W.Frag} {H0 H : Hp} {v : V} {c : CD} (h : CdN K H0 H v c) : CdL K H v c := by
  obtain ⟨m, d, s, ds, h1, h2, h3, h4, h5⟩ := h
  exact ⟨m, d, s, ds, h1, h2.ls, h3.ls, h4, h5.ls⟩
theorem CdN.off {K : PySem.W.Frag} {H0 H : Hp} {v : V} {c : CD} {d : Addr} {xs ys : List V} (h : CdN K H0 H v c) (h0 : H0 d = some (.lst xs)) (hd : H d = some (.lst ys)) : CdN K H0 (Off d H) v c := by
  obtain ⟨m, dv, s, ds, h1, h2, h3, h4, h5⟩ := h
  exact ⟨m, dv, s, ds, h1.off hd no_lst, h2.off h0, h3.off h0, h4.mono fun _ _ h => Tu.off h hd no_lst, h5.off h0⟩
end MK
set_option Elab.async false
set_option linter.all false
set_option autoImplicit false
set_option maxRecDepth 100000
set_option maxHeartbeats 400000
namespace MK
open PySem PySem.Spec PyProof.Rows L2
def rInOwn (C : Addr) (sp : Sp) (neg : Bool) : R2 := fun x y H Q => ∃ a dx fs, y = .ref a ∧ H a = some (.ins C dx fs) ∧ sp [y, x] H (fun v H' => ∃ b, v = .bl b ∧ Q (.bl (if neg then !b else b)) H') E0
section
variable {X : Cx} {C f : Addr} {fd : FuncData} {ps : List Str} {k : Nat} {sp : Sp}
theorem op_inOwn (F : FnOk X.prog X.w X.K X.mg X.base CX0 k f fd ps sp) (hs : PySem.W.findIn X.K (.ref C) "__contains__" = some (some (.ref f))) (hf : PySem.W.isFn X.K (.ref f) = true) (hb : Binds X.K fd ps []) (hr : Room k X.A) : OpR X (compareOp .In) (rInOwn C sp false) := by
  intro pins s σ H x y v u Q I rx ry ⟨a, dx, fs, ey, ha, h⟩
  subst ey
  cases ry
  obtain ⟨mA, J, _⟩ := ins_get I.hok ha
  obtain ⟨od, J, _⟩ := J.look
  obtain ⟨m, hF⟩ := I.fr
  refine PySem.W.in_K hF I.ok.mod.kin J hs hf ?_
  have r2 : Vals [V.ref a, x] [Value.ref a, v] := .cons rfl (.cons rx .nil)
  refine thn (run_fn F hr hb .nil pass0 I r2 h) fun w s1 ⟨z, H1, I1, rz, b, ez, q⟩ => ?_
  subst ez
  cases rz
  exact wpAny_truthy_bool ⟨.bl b, H1, I1, rfl, q⟩
theorem op_notInOwn (F : FnOk X.prog X.w X.K X.mg X.base CX0 k f fd ps sp) (hs : PySem.W.findIn X.K (.ref C) "__contains__" = some (some (.ref f))) (hf : PySem.W.isFn X.K (.ref f) = true) (hb : Binds X.K fd ps []) (hr : Room k X.A) : OpR X (compareOp .NotIn) (rInOwn C sp true) := by
  intro pins s σ H x y v u Q I rx ry ⟨a, dx, fs, ey, ha, h⟩
  subst ey
  cases ry
  obtain ⟨mA, J, _⟩ := ins_get I.hok ha
  obtain ⟨od, J, _⟩ := J.look
  obtain ⟨m, hF⟩ := I.fr
  refine PySem.W.notIn_K hF I.ok.mod.kin J hs hf ?_
  have r2 : Vals [V.ref a, x] [Value.ref a, v] := .cons rfl (.cons rx .nil)
  refine thn (run_fn F hr hb .nil pass0 I r2 h) fun w s1 ⟨z, H1, I1, rz, b, ez, q⟩ => ?_
  subst ez
  cases rz
  exact wpAny_truthy_bool ⟨.bl (!b), H1, I1, rfl, q⟩
end
end MK
set_option Elab.async false
set_option linter.all false
set_option autoImplicit false
set_option maxRecDepth 100000
set_option maxHeartbeats 400000
namespace MK
open PySem PySem.Spec PyProof.Rows L2
theorem lay_map {α : Type} {g : α → PyData} : ∀ (ys : List α), (∀ y ∈ ys, PyData.canLay0 (g y) = true) → PyData.canLayAll0 (ys.map g) = true
  | [], _ => rfl
  | y :: ys, h => by
    rw [List.map_cons]
    unfold PyData.canLayAll0
    rw [h y (List.mem_cons_self ..), Bool.true_and]
    exact lay_map ys fun z hz => h z (List.mem_cons_of_mem _ hz)
theorem depth_map {α : Type} {g : α → PyData} {d : Nat} (h : ∀ y, PyData.depth (g y) ≤ d) : ∀ (ys : List α), PyData.depthAll (ys.map g) ≤ d
  | [] => Nat.zero_le _
  | y :: ys => by
    rw [List.map_cons]
    unfold PyData.depthAll
    exact Nat.max_le.mpr ⟨h y, depth_map h ys⟩
theorem dp_ints {K : PySem.W.Frag} {H : Hp} : ∀ zs : List Int, DpAll K H (zs.map V.int) (zs.map PyData.int)
  | [] => .nil
  | z :: zs => .cons (.int z) (dp_ints zs)
end MK
set_option Elab.async false
set_option linter.all false
set_option autoImplicit false
set_option maxRecDepth 100000
set_option maxHeartbeats 400000
namespace MK
open PySem PySem.Spec PyProof.Rows L2
theorem ints_lay : ∀ zs : List Int, PyData.canLayAll0 (zs.map PyData.int) = true := fun zs => lay_map zs fun _ _ => rfl
theorem ints_depth (zs : List Int) : PyData.depthAll (zs.map PyData.int) ≤ 0 := depth_map (g := PyData.int) (d := 0) (fun _ => by unfold PyData.depth; exact Nat.le_refl _) zs
end MK
set_option Elab.async false
set_option linter.all false
set_option autoImplicit false
set_option maxRecDepth 100000
set_option maxHeartbeats 400000
namespace MK
open PySem PySem.Spec PyProof.Rows L2
end MK
set_option Elab.async false
set_option linter.all false
set_option autoImplicit false
set_option maxRecDepth 100000
set_option maxHeartbeats 400000
namespace PySem.W
open PySem PySem.Spec PySem.Calls PyProof.Rows
end PySem.W
namespace MK
open PySem PySem.Spec PyProof.Rows L2
end MK
set_option Elab.async false
set_option linter.all false
set_option autoImplicit false
set_option maxRecDepth 100000
set_option maxHeartbeats 400000
namespace PySem.SeqAt
open AutoSeq1 (wpAny_loadPart')
open MeetsSeq MeetsSeq2 MeetsSeq3 SeqRoads2
end PySem.SeqAt
namespace MK
open PySem PySem.Spec PyProof.Rows L2
end MK
set_option Elab.async false
set_option linter.all false
set_option autoImplicit false
set_option maxRecDepth 100000
set_option maxHeartbeats 1000000
namespace MK
open PySem PySem.Spec PyProof.Rows L2
end MK
set_option Elab.async false
set_option linter.all false
set_option autoImplicit false
set_option maxRecDepth 100000
set_option maxHeartbeats 400000
namespace MK
open PySem PySem.Spec PyProof.Rows L2
def Nt (H : Hp) : Hp := fun b => match H b with
  | some (.tbl _) => none
  | x => x
theorem nt_of {H : Hp} {b : Addr} {o : HO} (h : H b = some o) (n : ∀ ps, o ≠ .tbl ps) : Nt H b = some o := by
  unfold Nt
  rw [h]
  cases o <;> first | rfl | exact absurd rfl (n _)
theorem nt_get {H : Hp} {b : Addr} {o : HO} (h : Nt H b = some o) : H b = some o ∧ ∀ ps, o ≠ .tbl ps := by
  unfold Nt at h
  split at h
  · cases h
  · rename_i e
    exact ⟨h, fun ps z => e ps (by rw [h, z])⟩
theorem same_nt {H H' : Hp} (e : Same H H') : Same (Nt H) (Nt H') := fun b o h => nt_of (e b o (nt_get h).1) (nt_get h).2
/-- what is told of H, but of s and of tables -/
abbrev Nx (s : Addr) (H : Hp) : Hp := Nt (Off s H)
theorem SameX.nx {s : Addr} {H H' : Hp} (e : SameX s H H') : Same (Nx s H) (Nx s H') := same_nt e.off
end MK
set_option Elab.async false
set_option linter.all false
set_option autoImplicit false
set_option maxRecDepth 100000
set_option maxHeartbeats 400000
namespace MK
open PySem PySem.Spec PyProof.Rows L2
section
variable {α : Type} {R : V → α → Prop} {xs xs' : List V} {ys ys' : List α}
theorem Al.take (h : Al R xs ys) (i : Nat) : Al R (xs.take i) (ys.take i) := by
  refine ⟨by rw [List.length_take, List.length_take, h.1], fun j x y h1 h2 => ?_⟩
  rw [List.getElem?_take] at h1 h2
  split at h1
  · rename_i q
    rw [if_pos q] at h2
    exact h.2 j x y h1 h2
  · cases h1
theorem Al.drop (h : Al R xs ys) (i : Nat) : Al R (xs.drop i) (ys.drop i) := by
  refine ⟨by rw [List.length_drop, List.length_drop, h.1], fun j x y h1 h2 => ?_⟩
  rw [List.getElem?_drop] at h1 h2
  exact h.2 _ x y h1 h2
theorem Al.append (h : Al R xs ys) (h' : Al R xs' ys') : Al R (xs ++ xs') (ys ++ ys') := by
  refine ⟨by rw [List.length_append, List.length_append, h.1, h'.1], fun j x y h1 h2 => ?_⟩
  by_cases q : j < xs.length
  · rw [List.getElem?_append_left q] at h1
    rw [List.getElem?_append_left (h.1 ▸ q)] at h2
    exact h.2 j x y h1 h2
  · rw [List.getElem?_append_right (by omega)] at h1
    rw [List.getElem?_append_right (by have := h.1; omega)] at h2
    rw [← h.1] at h2
    exact h'.2 _ x y h1 h2
theorem Al.one {x : V} {y : α} (r : R x y) : Al R [x] [y] := (Al.nil (R := R)).snoc r
end
end MK
set_option Elab.async false
set_option linter.all false
set_option autoImplicit false
set_option maxRecDepth 100000
set_option maxHeartbeats 1000000
namespace MK
open PySem PySem.Spec PyProof.Rows L2
def strsB : List Str → List Value → Bool
  | [], [] => true
  | z :: zs, .str y _ :: us => decide (y = z) && strsB zs us
  | _, _ => false
theorem strsB_ok : ∀ {zs : List Str} {us : List Value}, strsB zs us = true → Vals (zs.map V.str) us
  | [], [], _ => .nil
  | z :: zs, .str y t :: us, h => by
    obtain ⟨h1, h2⟩ := Bool.and_eq_true_iff.mp (show (decide (y = z) && strsB zs us) = true from h)
    have e := of_decide_eq_true h1
    exact .cons ⟨t, by rw [e]⟩ (strsB_ok h2)
  | [], _ :: _, h => by cases h
  | _ :: _, [], h => by cases h
  | _ :: _, .none :: _, h => by cases h
  | _ :: _, .bool _ :: _, h => by cases h
  | _ :: _, .int _ _ :: _, h => by cases h
  | _ :: _, .ref _ :: _, h => by cases h
  | _ :: _, .type _ :: _, h => by cases h
  | _ :: _, .builtin _ :: _, h => by cases h
  | _ :: _, .notImplemented :: _, h => by cases h
  | _ :: _, .ellipsis :: _, h => by cases h
  | _ :: _, .float _ _ :: _, h => by cases h
def tupB (K : PySem.W.Frag) (a : Addr) (zs : List Str) : Bool := match K.lookup a with
  | some ⟨.type c, _, .seq its _, _⟩ => decide (c = "tuple") && (decide (its.size ≤ 100) && strsB zs its.toList)
  | _ => false
theorem tupB_ok {K : PySem.W.Frag} {a : Addr} {zs : List Str} (h : tupB K a zs = true) (H : Hp) : SqT K H a (zs.map V.str) := by
  unfold tupB at h
  split at h
  · rename_i c d its n sl q
    obtain ⟨h1, h2⟩ := Bool.and_eq_true_iff.mp h
    obtain ⟨h2, h3⟩ := Bool.and_eq_true_iff.mp h2
    have e := of_decide_eq_true h1
    exact .inr ⟨_, its, n, q, by rw [e], rfl, Nat.le_trans (of_decide_eq_true h2) (by decide), strsB_ok h3⟩
  · cases h
theorem keys_none {P : Params} {z : Str} : ∀ {l : List DictEntry} {ks : List Str}, l.map He.keyOf = He.keysIn P ks → z ∉ ks → l.find? (·.key.isStr z) = none ∧ l.any (·.refKey) = false
  | [], _, _, _ => ⟨rfl, rfl⟩
  | e :: r, [], h, _ => by cases h
  | e :: r, k :: ks, h, hz => by
    have h1 : He.keyOf e :: r.map He.keyOf = some (k, PyData.keyHash P k) :: He.keysIn P ks := h
    injection h1 with h2 h3
    obtain ⟨i1, i2⟩ := keys_none h3 fun m => hz (List.mem_cons_of_mem _ m)
    unfold He.keyOf at h2
    split at h2
    · rename_i x t q
      obtain ⟨h5, _⟩ := Prod.mk.inj (Option.some.inj h2)
      have ne : (x == z) = false := by
        rw [beq_eq_false_iff_ne, h5]
        exact fun e => hz (e ▸ List.mem_cons_self)
      constructor
      · rw [List.find?_cons]
        have : e.key.isStr z = false := by rw [q]; exact ne
        rw [this]
        exact i1
      · rw [List.any_cons, i2, Bool.or_false]
        unfold DictEntry.refKey
        rw [q]
    · cases h2
theorem ns_none {K : PySem.W.Frag} {w : World} {a : Addr} {ks : List Str} {z : Str} (h : He.dicW K a = some (He.keysIn w.params ks)) (hz : z ∉ ks) : PySem.W.nsIn K a z = some none := by
  obtain ⟨es, n, D⟩ := He.dicW_ok h
  have e := D.at_
  unfold He.dicW at h
  rw [e] at h
  have h1 : (match decide ((("dict" : String)) = "dict") && ((#[] : Array (Option Value)).isEmpty && !(a == sysModules)) with
    | true => some (es.toList.map He.keyOf)
    | false => none) = some (He.keysIn w.params ks) := h
  rw [D.low] at h1
  obtain ⟨i1, i2⟩ := keys_none (Option.some.inj h1) hz
  unfold PySem.W.nsIn
  rw [e]
  show (match es.toList.find? (·.key.isStr z) with
      | some e => some (some e.val)
      | none => if es.toList.any (·.refKey) then none else some none) = some none
  rw [i1]
  show (if es.toList.any (·.refKey) then none else some none) = some none
  rw [i2]
  rfl
end MK
set_option Elab.async false
set_option linter.all false
set_option autoImplicit false
set_option maxRecDepth 100000
set_option maxHeartbeats 1000000
namespace MK
open PySem PySem.Spec PyProof.Rows L2
end MK
set_option Elab.async false
set_option linter.all false
set_option autoImplicit false
set_option maxRecDepth 100000
set_option maxHeartbeats 1000000
namespace MK
open PySem PySem.Spec PyProof.Rows L2 ItX
/-- what is promised of a def, told with the number of objects that there are when it is called -/
structure FnS (P : Program) (w : World) (K : PySem.W.Frag) (mg : Str → Option Value) (base : Heap) (k : Nat) (f : Addr) (fd : FuncData) (ps : List Str) (sp : Nat → Sp) : Prop where
  len : ∀ n vs H Q, sp n vs H Q E0 → vs.length = ps.length
  run : ∀ (A : Around) (outer : List Env) (s : Shared) (H : Hp) (us : List Value) (vs : List V) (Q : VK), Room k A → Env0 P w K mg base A outer s H → BindsTo s fd ⟨us, []⟩ (ps.zip us) → Vals vs us →
    sp s.heap.objs.size vs H Q E0 → codeAny (model P w) A (.call (.ref f) ⟨us, []⟩) (CR CX0 outer P w H s Q E0) s
theorem fnS_of {P : Program} {w : World} {K : PySem.W.Frag} {mg : Str → Option Value} {base : Heap} {k : Nat} {x qual : Str} {st : Stmt} {f : Addr} {fd : FuncData} {N ps : List Str} {sp : Nat → Sp} (F : Fun K x qual st f fd) (S : FnScope N ps (defScope st))
    (len : ∀ n vs H Q, sp n vs H Q E0 → vs.length = ps.length)
    (hbody : ∀ (cdv : Value) (A : Around) (outer : List Env) (s : Shared) (H : Hp) (vs : List V) (Q : VK), Room k (A.deeper (envOfC qual (defScope st) s.heap.objs.size f cdv)) → sp s.heap.objs.size vs H Q E0 →
      ∃ t, PSs (cxOf CX0 P w K mg base N qual (defScope st) f cdv A outer s H E0).nox (defBody st) t ∧ t { nx := fun _ H' => Q .non H', rt := Q } (start N vs) H) : FnS P w K mg base (k + 1) f fd ps sp := by
  obtain ⟨oc, od, kV, doc, pm, an, cdv, ct, osl, rfl, lk, hcd⟩ := F.ex
  refine ⟨len, fun A outer s H us vs Q hr e0 hb r hsp => ?_⟩
  have nn := len _ _ _ _ hsp
  have kin := e0.mod.kin.keeps fun b o e => (e0.bs b o e).1
  have noL := e0.mod.nolimit.keeps fun b o e => (e0.bs b o e).1
  have kinds : ∀ y ∈ ps.zip us, (defScope st).names.lookup y.1 = some .local ∨
      ((defScope st).names.lookup y.1 = some .cell ∧ ((cellsFrom (s.heap.objs.size + 1) (defScope st).names []).lookup y.1).isSome = true) := by
    rintro ⟨n, v⟩ hy
    rcases S.par n (List.of_mem_zip hy).1 with q | q
    · exact Or.inl q
    · exact Or.inr ⟨q, PySem.W.cellsFrom_some _ _ _ (Or.inl q)⟩
  refine codeAny_call_function hr.depth (kin _ _ lk) rfl S.co S.gen rfl (PySem.W.codeRec_of kin hcd)
    (hb _ _ _ _ ?_)
  refine wpAny_newFunctionEnv_cells S.kind kinds
    fun env he s1 x => ?_
  cases he
  refine ⟨noL.keeps x.toInCall.keep,
    codeAny_func ?_⟩
  obtain ⟨t, ht, hq⟩ := hbody cdv A outer s H vs Q (hr.deeper _) hsp
  have J0 := inv_start (CX := CX0) (E := E0) (qual := qual) (f := f) (cd := cdv)
    S hr.hd e0 nn r x
  refine wpAny_mono (ht.nox.run [] s1 _ H _ J0 hq)
    (fun fl s' hs => ?_) fun e s' hs => hs
  cases fl with
  | ret u =>
    obtain ⟨v, σ', H', J, rv, q⟩ := hs
    exact ⟨v, H', J.os, J.bare, J.base, J.hok, rv, q⟩
  | next =>
    obtain ⟨σ', H', J, q⟩ := hs
    exact ⟨V.non, H', J.os, J.bare, J.base, J.hok, rfl, q⟩
  | brk => exact hs.elim fun _ h => h.elim fun _ h => h.elim fun _ h => h.elim
  | cont => exact hs.elim fun _ h => h.elim fun _ h => h.elim fun _ h => h.elim
/-- a dict's iterator over its keys, new -/
def KitO (it d : Addr) (n ep : Nat) : HO := .ext fun h => h.IsKeyIter it d 0 n ep
theorem kit_ok {P : Program} {w : World} {H : Hp} {h : Heap} {d ep : Nat} {es : Array DictEntry} {n : Nat} (hz : es.size = n) :
    ObjOk P w H (h.push { cls := .type "dict_keyiterator", data := .fields #[.ref d, .int 0 0, .int es.size 0, .int ep 0] }) h.objs.size (KitO h.objs.size d n ep) := by
  refine ⟨?_, ⟨_, Heap.get?_push_size _ rfl⟩, fun h1 h2 x k => ?_⟩
  · refine ⟨_, Heap.get?_push_size _ rfl, rfl, ?_⟩
    rw [hz]
    rfl
  · obtain ⟨o, ho, hc⟩ := x
    exact ⟨o, k o ho, hc⟩
/-- iter(d), d locked -/
def rIterK (n : Nat) : List V → Hp → VK → Prop := fun xs H Q => ∃ (d : Addr) (o : Obj) (kvs : List (Key × V)), xs = [.ref d] ∧ H d = some (.frz o (.dK kvs)) ∧
  ∀ it es ep, o.data = .dict es ep → H it = none → n ≤ it → Q (.ref it) (upd H it (KitO it d kvs.length ep))
section
variable {X : Cx}
theorem call_iterK : CallR X (.builtin "iter") (rIterK X.s_0.heap.objs.size) := by
  intro pins s σ H xs us Q I r h
  obtain ⟨d, o, kvs, rfl, hd, q⟩ := h
  obtain ⟨u, rfl, ru⟩ := vals1 r
  cases ru
  obtain ⟨hs, hgd, hx, es, ep, vs, hdt, hsz, kv, hm⟩ := I.frzK hd
  refine Calls.call_function_entry (by decide +kernel) (by decide +kernel)
    PySem.W.kdk_entry_iter (PySem.W.kdk_args_iter _) ?_
  unfold Builtin.«iter»
  refine wpAny_bind (m := someArgs "iter" 1 2 _)
    (wpAny_of_eq (a := [Value.ref d]) (by first | rfl | kernel_rfl!) ?_)
  show wpAny _ _ (pyIter (.ref d) >>= _) _ _ _
  refine wpAny_bind (iter_keys hs hgd hx hdt ?_)
  refine wpAny_pure ⟨_, rfl, .ref s.heap.objs.size, _, I.laid (t' := s.toks) (fun b u e => Heap.get?_push_of_some _ e) (Nat.le_refl _) ?_, rfl, q _ es ep hdt (I.hok.fresh (Nat.le_refl _)) I.sz⟩
  exact kit_ok hsz
/-- the keys of the dict d of an own instance, through its own __iter__; d is locked -/
def iOwn (C : Addr) (fld : Str) (te : TE) : TI := fun σ H R => te σ H fun x H1 => ∃ (a dx d : Addr) (fs : List (Str × V)) (o : Obj) (kvs : List (Key × V)), x = .ref a ∧ H1 a = some (.ins C dx fs) ∧ fs.lookup fld = some (.ref d) ∧ H1 d = some (.frz o (.dK kvs)) ∧ R (Itk d o kvs) H1
/-- what the own __iter__ promises -/
def spIter (C : Addr) (fld : Str) (n : Nat) : Sp := fun vs H Q _ => ∃ (a dx d : Addr) (fs : List (Str × V)) (o : Obj) (kvs : List (Key × V)), vs = [.ref a] ∧ H a = some (.ins C dx fs) ∧ fs.lookup fld = some (.ref d) ∧ H d = some (.frz o (.dK kvs)) ∧
  ∀ it es ep, o.data = .dict es ep → H it = none → n ≤ it → Q (.ref it) (upd H it (KitO it d kvs.length ep))
theorem pi_own {tg e : Expr} {te : TE} {C f : Addr} {fd : FuncData} {ps : List Str} {fld : Str} {k : Nat} (he : PE X e te) (F : FnS X.prog X.w X.K X.mg X.base k f fd ps (spIter C fld)) (hs : PySem.W.findIn X.K (.ref C) "__iter__" = some (some (.ref f))) (hf : PySem.W.isFn X.K (.ref f) = true) (hb : Binds X.K fd ps []) (hr : Room k X.A) :
    PI X tg e (iOwn C fld te) := by
  refine ⟨fun pins s σ H R I h => ?_⟩
  refine thn (he.run pins s σ H _ I h) fun u s1 ⟨x, H1, I1, rx, a, dx, d, fs, o, kvs, ex, ha, hl, hd, q⟩ => ?_
  subst ex
  obtain rfl : u = Value.ref a := rx
  obtain ⟨mA, J, _⟩ := ins_get I1.hok ha
  obtain ⟨od, J, _⟩ := J.look
  obtain ⟨m, hF⟩ := I1.fr
  have r2 : Vals [V.ref a] [Value.ref a] := .cons rfl .nil
  obtain ⟨hs0, hgd, hx, es, ep, vs, hdt, hsz, kv, hm⟩ := I1.frzK hd
  have hsp : spIter C fld s1.heap.objs.size [.ref a] H1 (fun v H2 => ∃ it, v = .ref it ∧ H1 it = none ∧ s1.heap.objs.size ≤ it ∧ H2 = upd H1 it (KitO it d kvs.length ep)) E0 :=
    ⟨a, dx, d, fs, o, kvs, rfl, ha, hl, hd, fun it es' ep' he' hn hle => ⟨it, rfl, hn, hle, by rw [(dict_ep hdt he').2]⟩⟩
  have hln := F.len _ _ _ _ hsp
  have hbd := hb s1 [.ref a] I1.kIn (by rw [List.append_nil, ← r2.length]; exact hln)
  rw [List.append_nil] at hbd
  refine PySem.W.owit_iter hF I1.ok.mod.kin J hs hf (wpAny_call (codeAny_mono (F.run X.A X.stack s1 H1 [.ref a] _ _ hr I1.env0 hbd r2 hsp) fun r s' hq => ?_))
  cases r with
  | error e => exact False.elim hq
  | ok fl =>
    cases fl with
    | ret u =>
      obtain ⟨v, H2, I2, rz, it, ev, hn, hle, eH⟩ := I1.after hq
      subst ev eH
      obtain rfl : u = Value.ref it := rz
      have hit : upd H1 it (KitO it d kvs.length ep) it = some (KitO it d kvs.length ep) := upd_same
      have st : s'.heap.IsKeyIter it d 0 kvs.length ep := (show ObjOk X.prog X.w _ s'.heap it (KitO it d kvs.length ep) from I2.hok it _ hit).1
      unfold PySem.W.OwitIt
      refine (wpAny_specialOf (name := Str.ofString "__next__") st.typeIs PySem.F.slot_dict_keyiterator_next.lookup ?_)
      have hit' := hit
      unfold KitO at hit'
      have e1 : dropH (upd H1 it (KitO it d kvs.length ep)) it = H1 := by
        funext b
        by_cases z : b = it
        · rw [z, dropH_same, hn]
        · rw [dropH_ne z, upd_ne z]
      have I3 := inv_drop I2 hit'
      rw [e1] at I3
      refine ⟨it, [it], _, Itk d o kvs, H1, rfl, I3, turn_keys it hdt, st, fun b hb => ?_, q⟩
      have e : b = it := by simpa using hb
      rw [e, ← e1]
      exact inv_fp I2 hit (Nat.le_trans I1.sz hle)
    | next => exact False.elim hq
    | brk => exact False.elim hq
    | cont => exact False.elim hq
end
end MK
set_option Elab.async false
set_option linter.all false
set_option autoImplicit false
set_option maxRecDepth 100000
set_option maxHeartbeats 1000000
namespace MK
open PySem PySem.Spec PyProof.Rows L2
def Prim (x : V) : Prop := x = .non ∨ (∃ b, x = .bl b) ∨ (∃ i, x = .int i) ∨ ∃ z, x = .str z
/-- item by item, the addresses one behind another -/
def WL (R : V → List Addr → Prop) : List V → List Addr → Prop
  | [], L => L = []
  | x :: xs, L => ∃ L1 L2, L = L1 ++ L2 ∧ R x L1 ∧ WL R xs L2
theorem WL.mono {R S : V → List Addr → Prop} : ∀ {xs : List V} {L : List Addr}, (∀ x ∈ xs, ∀ M, (∀ b ∈ M, b ∈ L) → R x M → S x M) → WL R xs L → WL S xs L
  | [], _, _, h => h
  | x :: xs, L, f, ⟨M1, M2, e, r, h⟩ => ⟨M1, M2, e, f x List.mem_cons_self M1 (fun b hb => by rw [e]; exact List.mem_append_left _ hb) r,
      h.mono fun y hy M hM => f y (List.mem_cons_of_mem _ hy) M fun b hb => by rw [e]; exact List.mem_append_right _ (hM b hb)⟩
theorem WL.snoc {R : V → List Addr → Prop} : ∀ {xs : List V} {L : List Addr} {x : V} {M : List Addr}, WL R xs L → R x M → WL R (xs ++ [x]) (L ++ M)
  | [], L, x, M, h, r => ⟨M, [], by rw [show L = [] from h]; simp, r, rfl⟩
  | y :: ys, L, x, M, ⟨M1, M2, e, r1, h⟩, r => ⟨M1, M2 ++ M, by rw [e, List.append_assoc], r1, h.snoc r⟩
theorem WL.mem {R : V → List Addr → Prop} : ∀ {xs : List V} {L : List Addr} {b : Addr}, WL R xs L → b ∈ L → ∃ x ∈ xs, ∃ M, R x M ∧ b ∈ M
  | [], L, b, h, hb => by rw [show L = [] from h] at hb; cases hb
  | x :: xs, L, b, ⟨M1, M2, e, r, h⟩, hb => by
    rw [e] at hb
    rcases List.mem_append.mp hb with hb | hb
    · exact ⟨x, List.mem_cons_self, M1, r, hb⟩
    · obtain ⟨y, hy, M, r2, m⟩ := h.mem hb
      exact ⟨y, List.mem_cons_of_mem _ hy, M, r2, m⟩
/-- to depth n, with L the addresses of its lists -/
def W (K : PySem.W.Frag) (H : Hp) : Nat → V → List Addr → Prop
  | 0, x, L => Prim x ∧ L = []
  | n + 1, x, L => (Prim x ∧ L = []) ∨ (∃ a xs Ls, x = .ref a ∧ H a = some (.lst xs) ∧ WL (W K H n) xs Ls ∧ L = a :: Ls ∧ xs.length < 1000) ∨
      (∃ a xs, x = .ref a ∧ SqT K H a xs ∧ WL (W K H n) xs L ∧ xs.length < 1000)
def LstAt (L : List Addr) (H : Hp) : Prop := ∀ b ∈ L, ∃ ys, H b = some (.lst ys)
theorem W.lsts {K : PySem.W.Frag} {H : Hp} : ∀ {n : Nat} {x : V} {L : List Addr}, W K H n x L → LstAt L H
  | 0, _, _, ⟨_, e⟩, b, hb => by rw [e] at hb; cases hb
  | n + 1, _, L, h, b, hb => by
    rcases h with ⟨_, e⟩ | ⟨a, xs, Ls, _, ha, hw, e, _⟩ | ⟨a, xs, _, _, hw, _⟩
    · rw [e] at hb; cases hb
    · rw [e] at hb
      rcases List.mem_cons.mp hb with rfl | hb
      · exact ⟨xs, ha⟩
      · obtain ⟨y, hy, M, r, m⟩ := hw.mem hb
        exact W.lsts r b m
    · obtain ⟨y, hy, M, r, m⟩ := hw.mem hb
      exact W.lsts r b m
/-- but for the lists at M all is as it was -/
def Chg (M : List Addr) (H H' : Hp) : Prop := (∀ b o, H b = some o → b ∉ M → H' b = some o) ∧ LstAt M H'
theorem Chg.nil {H H' : Hp} (e : Same H H') : Chg [] H H' := ⟨fun b o h _ => e b o h, nofun⟩
theorem Chg.trans {M N : List Addr} {H H1 H2 : Hp} (a : Chg M H H1) (b : Chg N H1 H2) : Chg (M ++ N) H H2 := by
  refine ⟨fun c o h hc => b.1 c o (a.1 c o h fun z => hc (List.mem_append_left _ z)) fun z => hc (List.mem_append_right _ z), fun c hc => ?_⟩
  by_cases z : c ∈ N
  · exact b.2 c z
  · obtain ⟨ys, h⟩ := a.2 c ((List.mem_append.mp hc).resolve_right z)
    exact ⟨ys, b.1 c _ h z⟩
theorem sqt_chg {K : PySem.W.Frag} {M : List Addr} {H H' : Hp} {a : Addr} {xs : List V} (c : Chg M H H') (l : LstAt M H) (h : SqT K H a xs) : SqT K H' a xs := by
  have no : ∀ {o : HO}, H a = some o → (∀ ys, o ≠ .lst ys) → a ∉ M := fun ha n z => by
    obtain ⟨ys, e⟩ := l a z
    rw [ha] at e
    exact n ys (Option.some.inj e)
  rcases h with (h | ⟨o, h⟩) | h
  · exact .inl (.inl (c.1 _ _ h (no h nofun)))
  · exact .inl (.inr ⟨o, c.1 _ _ h (no h nofun)⟩)
  · exact .inr h
theorem W.chg {K : PySem.W.Frag} {M : List Addr} {H H' : Hp} (c : Chg M H H') (l : LstAt M H) : ∀ {n : Nat} {x : V} {L : List Addr}, W K H n x L → (∀ b ∈ L, b ∉ M) → W K H' n x L
  | 0, _, _, h, _ => h
  | n + 1, _, L, h, d => by
    rcases h with h | ⟨a, xs, Ls, r, ha, hw, e, z⟩ | ⟨a, xs, r, ha, hw, z⟩
    · exact .inl h
    · refine .inr (.inl ⟨a, xs, Ls, r, c.1 _ _ ha (d a (by rw [e]; exact List.mem_cons_self)), hw.mono fun y _ N hN w => W.chg c l w fun b hb => d b (by rw [e]; exact List.mem_cons_of_mem _ (hN b hb)), e, z⟩)
    · exact .inr (.inr ⟨a, xs, r, sqt_chg c l ha, hw.mono fun y _ N hN w => W.chg c l w fun b hb => d b (hN b hb), z⟩)
theorem W.keep {K : PySem.W.Frag} {H H' : Hp} (e : Same H H') {n : Nat} {x : V} {L : List Addr} (h : W K H n x L) : W K H' n x L := h.chg (Chg.nil e) nofun fun _ _ => by simp
end MK
set_option Elab.async false
set_option linter.all false
set_option autoImplicit false
set_option maxRecDepth 100000
set_option maxHeartbeats 400000
namespace MK
open PySem PySem.Spec PyProof.Rows L2
end MK
set_option Elab.async false
set_option linter.all false
set_option autoImplicit false
set_option maxRecDepth 100000
set_option maxHeartbeats 4000000
namespace MK
open PySem PySem.Spec PyProof.Rows L2
/-- how many unlike ones there are among the first i -/
def dc (zs : List Str) : Nat → Nat
  | 0 => 0
  | i + 1 => if decide (zs.getD i Str.empty ∈ zs.take i) = true then dc zs i else dc zs i + 1
end MK
set_option Elab.async false
set_option linter.all false
set_option autoImplicit false
set_option maxRecDepth 100000
set_option maxHeartbeats 4000000
namespace MK
open PySem PySem.Spec PyProof.Rows L2
end MK
set_option Elab.async false
set_option linter.all false
set_option autoImplicit false
set_option maxRecDepth 100000
set_option maxHeartbeats 1000000
namespace MK
open PySem PySem.Spec PyProof.Rows L2
inductive Dt where
  | non
  | bl (b : Bool)
  | int (i : Int)
  | str (z : Str)
  | lst (xs : List Dt)
  | tup (xs : List Dt)
  | dic
inductive Sh (K : PySem.W.Frag) (H : Hp) : V → Dt → Prop
  | non : Sh K H .non .non
  | bl (b : Bool) : Sh K H (.bl b) (.bl b)
  | int (i : Int) : Sh K H (.int i) (.int i)
  | str (z : Str) : z.length ≤ sizeLine → Sh K H (.str z) (.str z)
  | lst {a : Addr} {vs : List V} {xs : List Dt} : H a = some (.lst vs) → vs.length < 1000 → vs.length = xs.length → (∀ (i : Nat) x y, vs[i]? = some x → xs[i]? = some y → Sh K H x y) → Sh K H (.ref a) (.lst xs)
  | tup {a : Addr} {vs : List V} {xs : List Dt} : SqT K H a vs → vs.length < 1000 → vs.length = xs.length → (∀ (i : Nat) x y, vs[i]? = some x → xs[i]? = some y → Sh K H x y) → Sh K H (.ref a) (.tup xs)
  | dic {a : Addr} : H a = some (.dK []) → Sh K H (.ref a) .dic
def sqD : Dt → Option (List Dt)
  | .lst xs => some xs
  | .tup xs => some xs
  | _ => none
def isStr : Dt → Bool
  | .str _ => true
  | _ => false
def isInt : Dt → Bool
  | .int _ => true
  | _ => false
def isBl : Dt → Bool
  | .bl _ => true
  | _ => false
def isLst : Dt → Bool
  | .lst _ => true
  | _ => false
def isTup : Dt → Bool
  | .tup _ => true
  | _ => false
def isSq (d : Dt) : Bool := isLst d || isTup d
theorem isSq_iff (d : Dt) : isSq d = (sqD d).isSome := by cases d <;> rfl
section
variable {K : PySem.W.Frag} {H H' : Hp} {v : V} {d : Dt}
theorem Sh.keep (e : Same H H') (h : Sh K H v d) : Sh K H' v d := by
  induction h with
  | non => exact .non
  | bl b => exact .bl b
  | int i => exact .int i
  | str z h => exact .str z h
  | lst ha l1 l2 _ ih => exact .lst (e _ _ ha) l1 l2 ih
  | tup ha l1 l2 _ ih => exact .tup (same_t e ha) l1 l2 ih
  | dic ha => exact .dic (e _ _ ha)
/-- the type of it -/
theorem Sh.ty (h : Sh K H v d) : ∃ t, TyX K H v (.type t) ∧ kitB t "str" = some (isStr d) ∧ kitB t "int" = some (isInt d || isBl d) ∧ kitB t "bool" = some (isBl d) ∧ kitB t "list" = some (isLst d) ∧ kitB t "tuple" = some (isTup d) := by
  cases h with
  | non => exact ⟨"NoneType", .base .non, by decide +kernel, by decide +kernel, by decide +kernel, by decide +kernel, by decide +kernel⟩
  | bl b => exact ⟨"bool", .base (.bl b), by show _ = some false; decide +kernel, by show _ = some true; decide +kernel, by show _ = some true; decide +kernel, by show _ = some false; decide +kernel, by show _ = some false; decide +kernel⟩
  | int i => exact ⟨"int", .base (.int i), by show _ = some false; decide +kernel, by show _ = some true; decide +kernel, by show _ = some false; decide +kernel, by show _ = some false; decide +kernel, by show _ = some false; decide +kernel⟩
  | str z _ => exact ⟨"str", .base (.str z), by show _ = some true; decide +kernel, by show _ = some false; decide +kernel, by show _ = some false; decide +kernel, by show _ = some false; decide +kernel, by show _ = some false; decide +kernel⟩
  | lst ha => exact ⟨"list", tyx_l (SqL.of ha), by show _ = some false; decide +kernel, by show _ = some false; decide +kernel, by show _ = some false; decide +kernel, by show _ = some true; decide +kernel, by show _ = some false; decide +kernel⟩
  | tup ha => exact ⟨"tuple", tyx_t ha, by show _ = some false; decide +kernel, by show _ = some false; decide +kernel, by show _ = some false; decide +kernel, by show _ = some false; decide +kernel, by show _ = some true; decide +kernel⟩
  | dic ha => exact ⟨"dict", .base (.dK ha), by decide +kernel, by decide +kernel, by decide +kernel, by decide +kernel, by decide +kernel⟩
theorem Sh.sq (h : Sh K H v d) {xs : List Dt} (e : sqD d = some xs) : ∃ vs, Sq K H v vs ∧ Al (Sh K H) vs xs ∧ vs.length < 1000 := by
  cases h with
  | lst ha l1 l2 h => cases e; exact ⟨_, ⟨_, rfl, .inl (SqL.of ha)⟩, ⟨l2, h⟩, l1⟩
  | tup ha l1 l2 h => cases e; exact ⟨_, ⟨_, rfl, .inr ha⟩, ⟨l2, h⟩, l1⟩
  | non => cases e
  | bl b => cases e
  | int i => cases e
  | str z _ => cases e
  | dic _ => cases e
theorem Sh.str' {z : Str} (h : Sh K H v (.str z)) : v = .str z ∧ z.length ≤ sizeLine := by cases h; exact ⟨rfl, by assumption⟩
theorem Sh.int' {i : Int} (h : Sh K H v (.int i)) : v = .int i := by cases h; rfl
theorem Sh.bl' {b : Bool} (h : Sh K H v (.bl b)) : v = .bl b := by cases h; rfl
end
/-- it is one of such trees -/
def Sd (K : PySem.W.Frag) (H : Hp) (v : V) : Prop := ∃ d, Sh K H v d
theorem Sd.keep {K : PySem.W.Frag} {H H' : Hp} {v : V} (e : Same H H') (h : Sd K H v) : Sd K H' v := by
  obtain ⟨d, h⟩ := h
  exact ⟨d, h.keep e⟩
def FdD (d : Dt) (f : FD) : Prop := ∃ s, sqD d = some [.str f.nm, .str s, .bl f.need] ∧ s = sortS f.many ∧ wordB f.nm = true
theorem FdD.a {K : PySem.W.Frag} {H : Hp} {v : V} {d : Dt} {f : FD} (h : FdD d f) (s : Sh K H v d) : FdA K H v f := by
  obtain ⟨t, e, rfl, hw⟩ := h
  obtain ⟨vs, hs, hl, _⟩ := s.sq e
  obtain ⟨x, y, z, rfl⟩ : ∃ x y z, vs = [x, y, z] := by
    match vs, hl.1 with
    | [x, y, z], _ => exact ⟨x, y, z, rfl⟩
  rw [(hl.2 0 x _ rfl rfl).str'.1, (hl.2 1 y _ rfl rfl).str'.1, (hl.2 2 z _ rfl rfl).bl'] at hs
  exact hs
/-- the first i of ds are fields -/
structure PreF (ds : List Dt) (i : Nat) (fs : List FD) : Prop where
  len : fs.length = i
  le : i ≤ 3
  lt : i ≤ ds.length
  all : ∀ (j : Nat) d f, ds[j]? = some d → fs[j]? = some f → FdD d f
  nd : (fs.map (·.nm)).Nodup
def callD (d : Dt) : Option (Str × Str × List Dt × List Dt × List Dt) := match sqD d with
  | some [.str a, .str b, m, e, s] => (match sqD m, sqD e, sqD s with
    | some ms, some ds, some ss => some (a, b, ms, ds, ss)
    | _, _, _ => none)
  | _ => none
def strD : Dt → Str
  | .str z => z
  | _ => Str.empty
def deedD (d : Dt) : Option (Str × Str) := match sqD d with
  | some [.str a, .str b] => some (a, b)
  | _ => none
def deE (d : Dt) : Str × Str := (deedD d).getD (Str.empty, Str.empty)
theorem al_strs {K : PySem.W.Frag} {H : Hp} {vs : List V} {ss : List Dt} (h : Al (Sh K H) vs ss) (a : ∀ d ∈ ss, ∃ z, d = Dt.str z) : vs = (ss.map strD).map V.str := by
  refine List.ext_getElem? fun i => ?_
  rw [List.getElem?_map, List.getElem?_map]
  by_cases q : i < vs.length
  · obtain ⟨d, hd, r⟩ := h.get (List.getElem?_eq_getElem q)
    obtain ⟨z, rfl⟩ := a d (List.mem_of_getElem? hd)
    rw [List.getElem?_eq_getElem q, hd, r.str'.1]
    rfl
  · rw [List.getElem?_eq_none (by omega), List.getElem?_eq_none (by have := h.1; omega)]
    rfl
def moveI : Dt → Int
  | .int i => i
  | _ => 0
theorem al_ints {K : PySem.W.Frag} {H : Hp} {vs : List V} {ss : List Dt} (h : Al (Sh K H) vs ss) (a : ∀ d ∈ ss, ∃ z, d = Dt.int z) : vs = (ss.map moveI).map V.int := by
  refine List.ext_getElem? fun i => ?_
  rw [List.getElem?_map, List.getElem?_map]
  by_cases q : i < vs.length
  · obtain ⟨d, hd, r⟩ := h.get (List.getElem?_eq_getElem q)
    obtain ⟨z, rfl⟩ := a d (List.mem_of_getElem? hd)
    rw [List.getElem?_eq_getElem q, hd, r.int']
    rfl
  · rw [List.getElem?_eq_none (by omega), List.getElem?_eq_none (by have := h.1; omega)]
    rfl
/-- the call that it is -/
def CdD (d : Dt) (c : CD) : Prop := ∃ ms ds ss, callD d = some (c.nm, c.hand, ms, ds, ss) ∧ c.moves = ms.map moveI ∧ (∀ x ∈ ms, ∃ z, x = Dt.int z) ∧ c.deeds = ds.map deE ∧ (∀ x ∈ ds, sqD x = some [.str (deE x).1, .str (deE x).2]) ∧ c.same = ss.map strD ∧ ∀ x ∈ ss, ∃ z, x = Dt.str z
theorem callD_some {d : Dt} {a b : Str} {ms ds ss : List Dt} (h : callD d = some (a, b, ms, ds, ss)) : ∃ m e s, sqD d = some [.str a, .str b, m, e, s] ∧ sqD m = some ms ∧ sqD e = some ds ∧ sqD s = some ss := by
  unfold callD at h
  split at h
  · rename_i a' b' m e s q
    split at h
    · rename_i ms' ds' ss' h1 h2 h3
      cases h
      exact ⟨m, e, s, q, h1, h2, h3⟩
    · cases h
  · cases h
theorem len5 {vs : List V} (h : vs.length = 5) : ∃ a b c d e, vs = [a, b, c, d, e] := by
  match vs, h with
  | [a, b, c, d, e], _ => exact ⟨a, b, c, d, e, rfl⟩
theorem Sh.call {K : PySem.W.Frag} {H : Hp} {v : V} {d : Dt} {a b : Str} {ms ds ss : List Dt} (h : Sh K H v d) (e : callD d = some (a, b, ms, ds, ss)) : ∃ m dv s mvs dvs svs, Sq K H v [.str a, .str b, m, dv, s] ∧ a.length ≤ sizeLine ∧
    Sq K H m mvs ∧ Al (Sh K H) mvs ms ∧ mvs.length < 1000 ∧ Sq K H dv dvs ∧ Al (Sh K H) dvs ds ∧ dvs.length < 1000 ∧ Sq K H s svs ∧ Al (Sh K H) svs ss ∧ svs.length < 1000 := by
  obtain ⟨m, e', s, q, h1, h2, h3⟩ := callD_some e
  obtain ⟨vs, hs, hl, _⟩ := h.sq q
  obtain ⟨x0, x1, x2, x3, x4, rfl⟩ := len5 hl.1
  obtain ⟨s2, a2, l2⟩ := (hl.2 2 x2 _ rfl rfl).sq h1
  obtain ⟨s3, a3, l3⟩ := (hl.2 3 x3 _ rfl rfl).sq h2
  obtain ⟨s4, a4, l4⟩ := (hl.2 4 x4 _ rfl rfl).sq h3
  have z := (hl.2 0 x0 _ rfl rfl).str'
  rw [z.1, (hl.2 1 x1 _ rfl rfl).str'.1] at hs
  exact ⟨x2, x3, x4, s2, s3, s4, hs, z.2, a2, l2.1, l2.2, a3, l3.1, l3.2, a4, l4.1, l4.2⟩
theorem CdD.a {K : PySem.W.Frag} {H : Hp} {v : V} {d : Dt} {c : CD} (h : CdD d c) (s : Sh K H v d) : CdA K H v c := by
  obtain ⟨ms, ds, ss, e, h1, h2, h3, h4, h5, h6⟩ := h
  obtain ⟨m, dv, sv, mvs, dvs, svs, g0, _, g1, g2, _, g3, g4, _, g5, g6, _⟩ := s.call e
  rw [al_ints g2 h2, ← h1] at g1
  rw [al_strs g6 h6, ← h5] at g5
  refine ⟨m, dv, sv, dvs, g0, g1, g3, ?_, g5⟩
  rw [h3]
  refine ⟨by rw [g4.1, List.length_map], fun i x y q1 q2 => ?_⟩
  rw [List.getElem?_map] at q2
  obtain ⟨w, hw, rfl⟩ := Option.map_eq_some_iff.mp q2
  obtain ⟨us, hu, hl, _⟩ := (g4.2 i x w q1 hw).sq (h4 w (List.mem_of_getElem? hw))
  obtain ⟨p, q, rfl⟩ : ∃ p q, us = [p, q] := by
    match us, hl.1 with
    | [p, q], _ => exact ⟨p, q, rfl⟩
  rw [(hl.2 0 p _ rfl rfl).str'.1, (hl.2 1 q _ rfl rfl).str'.1] at hu
  exact hu
structure PreC (fs : List FD) (n : Nat) (ds : List Dt) (i : Nat) (cs : List CD) : Prop where
  len : cs.length = i
  le : i ≤ 6
  lt : i ≤ ds.length
  all : ∀ (j : Nat) d c, ds[j]? = some d → cs[j]? = some c → CdD d c
  ok : ∀ c ∈ cs, CdOk fs n c
  nd : (cs.map (·.nm)).Nodup
theorem PreF.ok {ds : List Dt} {i : Nat} {fs : List FD} (h : PreF ds i fs) (p : 1 ≤ i) : FsOk fs :=
  ⟨by rw [h.len]; exact p, by rw [h.len]; exact h.le, fun f hf => by
    obtain ⟨j, hj⟩ := List.mem_iff_getElem?.mp hf
    have hl := (List.getElem?_eq_some_iff.mp hj).1
    have h1 := h.len
    have h2 := h.lt
    obtain ⟨_, _, _, w⟩ := h.all j _ f (List.getElem?_eq_getElem (by omega)) hj
    exact w, h.nd⟩
theorem PreF.a {K : PySem.W.Frag} {H : Hp} {vs : List V} {ds : List Dt} {fs : List FD} (h : PreF ds ds.length fs) (a : Al (Sh K H) vs ds) : Al (FdA K H) vs fs :=
  ⟨by rw [a.1, h.len], fun i x f h1 h2 => by
    obtain ⟨d, hd, s⟩ := a.get h1
    exact (h.all i d f hd h2).a s⟩
theorem PreC.a {K : PySem.W.Frag} {H : Hp} {vs : List V} {fs : List FD} {n : Nat} {ds : List Dt} {cs : List CD} (h : PreC fs n ds ds.length cs) (a : Al (Sh K H) vs ds) : Al (CdA K H) vs cs :=
  ⟨by rw [a.1, h.len], fun i x f h1 h2 => by
    obtain ⟨d, hd, s⟩ := a.get h1
    exact (h.all i d f hd h2).a s⟩
end MK
set_option Elab.async false
set_option linter.all false
set_option autoImplicit false
set_option maxRecDepth 100000
set_option maxHeartbeats 1000000
namespace MK
open PySem PySem.Spec PyProof.Rows L2
theorem ix_of {K : PySem.W.Frag} {H : Hp} {a : Addr} {xs : List V} {i : Nat} {v : V} {Q : VK} (h : SqL K H a xs ∨ SqT K H a xs) (e : xs[i]? = some v) (q : Q v H) : rIx K (.ref a) (.int (i : Nat)) H Q :=
  h.elim (fun h => .inl ⟨_, _, _, _, rfl, rfl, h, atI_nat e, q⟩) (fun h => .inr (.inl ⟨_, _, _, _, rfl, rfl, h, atI_nat e, q⟩))
/-- over what an expression gives, a list or a tuple -/
theorem pi_sqG {X : Cx} {tg e : Expr} {te : TE} (h : PE X e te) : PI X tg e (iSqS X.K te) := ⟨fun pins s σ H R I hw => thn (h.run pins s σ H _ I hw) fun u s2 ⟨x, H2, J, rx, a, xs, H0, ex, sq, sm, k⟩ => by
  subst ex
  cases rx
  have fr := J.fpOk (Nat.le_refl s2.heap.objs.size) (J.hok.fresh (Nat.le_refl _))
  rcases sq with sq | sq
  · obtain ⟨ys, -, pl, -⟩ := J.list (sm.seq sq)
    exact wpAny_pyIter_list pl.isList ⟨_, [_], _, _, H2, rfl, J.kept (t' := s2.toks) (fun _ _ z => Heap.get?_push_of_some _ z), turn_list a _, ⟨_, Heap.get?_push_size _ rfl, rfl, rfl⟩, fun b hb => (List.mem_singleton.mp hb) ▸ fr, k _ _ walk_list fun H' e' => e'.seq sq⟩
  · obtain ⟨ys, -, pl, -⟩ := J.tuple (same_t sm sq)
    exact wpAny_pyIter_tuple pl ⟨_, [_], _, _, H2, rfl, J.kept (t' := s2.toks) (fun _ _ z => Heap.get?_push_of_some _ z), turn_tuple a _, ⟨_, Heap.get?_push_size _ rfl, rfl, rfl⟩, fun b hb => (List.mem_singleton.mp hb) ▸ fr, k _ _ walk_tup fun H' e' => same_t e' sq⟩⟩
end MK
set_option Elab.async false
set_option linter.all false
set_option autoImplicit false
set_option maxRecDepth 100000
set_option maxHeartbeats 1000000
namespace MK
open PySem PySem.Spec PyProof.Rows L2 ClX
end MK
set_option Elab.async false
set_option linter.all false
set_option autoImplicit false
set_option maxRecDepth 100000
set_option maxHeartbeats 1000000
namespace MK
open PySem PySem.Spec PyProof.Rows L2 TL
def numS (i : Int) : Str := Str.ofString (toString i)
/-- the lines of a text -/
inductive Ln where
  | M (n : Nat)
  | F (f : FD)
  | C (nm hand : Str) (mv : List Int)
  | D (d : Str × Str)
  | S (x : Str)
def Ln.kd : Ln → Nat
  | .M _ => 0
  | .F _ => 1
  | .C .. => 2
  | .D _ => 3
  | .S _ => 4
def needL (b : Bool) : List Str := if b then ["need"] else []
def Ln.parts : Ln → List Str
  | .M n => ["modes", numS n]
  | .F f => ([("field" : Str), f.nm, sortS f.many] : List Str) ++ needL f.need
  | .C nm hand mv => ([("call" : Str), nm, hand] : List Str) ++ mv.map numS
  | .D d => ["do", d.1, d.2]
  | .S x => ["same", x]
def Ln.text (l : Ln) : Str := Txt.join " " l.parts
def itemsC (c : CD) : List Ln := .C c.nm c.hand c.moves :: (c.deeds.map .D ++ c.same.map .S)
def items (fs : List FD) (n : Nat) (cs : List CD) : List Ln := .M n :: (fs.map .F ++ cs.flatMap itemsC)
/-- a part of a line -/
structure PartOk (p : Str) : Prop where
  nl : 10 ∉ tl p
  sp : 32 ∉ tl p
  le : p.length ≤ 8
structure LnOk (l : Ln) : Prop where
  few : l.parts.length ≤ 8
  part : ∀ p ∈ l.parts, PartOk p
theorem word_part {z : Str} (h : wordB z = true) : PartOk z := by
  unfold wordB at h
  simp only [Bool.and_eq_true, decide_eq_true_eq, List.all_eq_true] at h
  obtain ⟨⟨h1, h2⟩, h3⟩ := h
  have no : ∀ c, c < 97 → c ∉ tl z := fun c hc m => by
    have := h3 c m
    unfold letterB at this
    simp only [Bool.and_eq_true, decide_eq_true_eq] at this
    omega
  exact ⟨no 10 (by decide), no 32 (by decide), h2⟩
theorem num_part {i : Int} (h1 : -1 ≤ i) (h2 : i ≤ 4) : PartOk (numS i) := by
  have all : ∀ d : Fin 6, decide (10 ∉ tl (numS ((d.val : Int) - 1))) && decide (32 ∉ tl (numS ((d.val : Int) - 1))) && decide ((numS ((d.val : Int) - 1)).length ≤ 8) = true := by decide +kernel
  have := all ⟨(i + 1).toNat, by omega⟩
  have e : (((i + 1).toNat : Nat) : Int) - 1 = i := by omega
  simp only [Bool.and_eq_true, decide_eq_true_eq, e] at this
  exact ⟨this.1.1, this.1.2, this.2⟩
def litB (z : Str) : Bool := decide (10 ∉ tl z) && decide (32 ∉ tl z) && decide (z.length ≤ 8)
theorem lit_part {z : Str} (h : litB z = true) : PartOk z := by
  unfold litB at h
  simp only [Bool.and_eq_true, decide_eq_true_eq] at h
  exact ⟨h.1.1, h.1.2, h.2⟩
/-- what can stand in a line -/
def LnGood : Ln → Prop
  | .M n => n ≤ 4
  | .F f => wordB f.nm = true
  | .C nm hand mv => wordB nm = true ∧ wordB hand = true ∧ mv.length ≤ 4 ∧ ∀ m ∈ mv, -1 ≤ m ∧ m ≤ 4
  | .D d => wordB d.1 = true ∧ wordB d.2 = true
  | .S x => wordB x = true
theorem LnGood.ok : ∀ {l : Ln}, LnGood l → LnOk l
  | .M n, h => ⟨by show 2 ≤ 8; decide, fun p m => by
      have h : n ≤ 4 := h
      have m : p ∈ ([("modes" : Str), numS n] : List Str) := m
      simp only [List.mem_cons, List.not_mem_nil, or_false] at m
      rcases m with rfl | rfl
      · exact lit_part (by decide +kernel)
      · exact num_part (by omega) (by omega)⟩
  | .F f, h => by
    have h : wordB f.nm = true := h
    have hs : PartOk (sortS f.many) := lit_part (by cases f.many <;> decide +kernel)
    have hn : ∀ p ∈ needL f.need, PartOk p := fun p m => by
      cases q : f.need with
      | false =>
        rw [q] at m
        cases m
      | true =>
        rw [q] at m
        rw [List.mem_singleton.mp m]
        exact lit_part (by decide +kernel)
    refine ⟨?_, fun p m => ?_⟩
    · show (([("field" : Str), f.nm, sortS f.many] : List Str) ++ needL f.need).length ≤ 8
      cases f.need
      · show 3 ≤ 8
        decide
      · show 4 ≤ 8
        decide
    · have m : p ∈ ([("field" : Str), f.nm, sortS f.many] : List Str) ++ needL f.need := m
      rcases List.mem_append.mp m with m | m
      · simp only [List.mem_cons, List.not_mem_nil, or_false] at m
        rcases m with rfl | rfl | rfl
        · exact lit_part (by decide +kernel)
        · exact word_part h
        · exact hs
      · exact hn p m
  | .C nm hand mv, h => by
    obtain ⟨h1, h2, h3, h4⟩ := h
    refine ⟨?_, fun p m => ?_⟩
    · show (([("call" : Str), nm, hand] : List Str) ++ mv.map numS).length ≤ 8
      rw [List.length_append, List.length_map]
      show 3 + _ ≤ 8
      omega
    · have m : p ∈ ([("call" : Str), nm, hand] : List Str) ++ mv.map numS := m
      rcases List.mem_append.mp m with m | m
      · simp only [List.mem_cons, List.not_mem_nil, or_false] at m
        rcases m with rfl | rfl | rfl
        · exact lit_part (by decide +kernel)
        · exact word_part h1
        · exact word_part h2
      · obtain ⟨i, hi, rfl⟩ := List.mem_map.mp m
        exact num_part (h4 i hi).1 (h4 i hi).2
  | .D d, h => ⟨by show 3 ≤ 8; decide, fun p m => by
      obtain ⟨h1, h2⟩ := h
      have m : p ∈ ([("do" : Str), d.1, d.2] : List Str) := m
      simp only [List.mem_cons, List.not_mem_nil, or_false] at m
      rcases m with rfl | rfl | rfl
      · exact lit_part (by decide +kernel)
      · exact word_part h1
      · exact word_part h2⟩
  | .S x, h => ⟨by show 2 ≤ 8; decide, fun p m => by
      have h : wordB x = true := h
      have m : p ∈ ([("same" : Str), x] : List Str) := m
      simp only [List.mem_cons, List.not_mem_nil, or_false] at m
      rcases m with rfl | rfl
      · exact lit_part (by decide +kernel)
      · exact word_part h⟩
structure Dra where
  modes : Option Nat
  fs : List FD
  cs : List CD
inductive Step : Dra → Ln → Dra → Prop
  | m {n : Nat} : Step ⟨none, [], []⟩ (.M n) ⟨some n, [], []⟩
  | f {n : Nat} {fs : List FD} {f : FD} : fs.length ≤ 100 → Step ⟨some n, fs, []⟩ (.F f) ⟨some n, fs ++ [f], []⟩
  | c {n : Nat} {fs : List FD} {cs : List CD} {nm hand : Str} {mv : List Int} : cs.length ≤ 100 → Step ⟨some n, fs, cs⟩ (.C nm hand mv) ⟨some n, fs, cs ++ [⟨nm, hand, mv, [], []⟩]⟩
  | d {n : Nat} {fs : List FD} {cs : List CD} {nm hand : Str} {mv : List Int} {ds : List (Str × Str)} {d : Str × Str} : ds.length ≤ 100 → cs.length ≤ 100 → Step ⟨some n, fs, cs ++ [⟨nm, hand, mv, ds, []⟩]⟩ (.D d) ⟨some n, fs, cs ++ [⟨nm, hand, mv, ds ++ [d], []⟩]⟩
  | s {n : Nat} {fs : List FD} {cs : List CD} {nm hand : Str} {mv : List Int} {ds : List (Str × Str)} {ss : List Str} {x : Str} : ss.length ≤ 100 → cs.length ≤ 100 → Step ⟨some n, fs, cs ++ [⟨nm, hand, mv, ds, ss⟩]⟩ (.S x) ⟨some n, fs, cs ++ [⟨nm, hand, mv, ds, ss ++ [x]⟩]⟩
inductive Goes : Dra → List Ln → Dra → Prop
  | nil {a : Dra} : Goes a [] a
  | cons {a b c : Dra} {l : Ln} {r : List Ln} : Step a l b → Goes b r c → Goes a (l :: r) c
theorem Goes.app {a b c : Dra} {xs ys : List Ln} (h : Goes a xs b) (g : Goes b ys c) : Goes a (xs ++ ys) c := by
  induction h with
  | nil => exact g
  | cons s _ ih => exact .cons s (ih g)
end MK
set_option Elab.async false
set_option linter.all false
set_option autoImplicit false
set_option maxRecDepth 100000
set_option maxHeartbeats 1000000
namespace MK
open PySem PySem.Spec PyProof.Rows L2
/-- all but what stands at the addresses M -/
def Hid (M : List Addr) (H : Hp) : Hp := fun b => if b ∈ M then none else H b
theorem hid_in {M : List Addr} {H : Hp} {b : Addr} (h : b ∈ M) : Hid M H b = none := if_pos h
theorem hid_out {M : List Addr} {H : Hp} {b : Addr} (h : b ∉ M) : Hid M H b = H b := if_neg h
theorem hid_some {M : List Addr} {H : Hp} {b : Addr} {o : HO} (h : Hid M H b = some o) : b ∉ M ∧ H b = some o := by
  by_cases e : b ∈ M
  · rw [hid_in e] at h
    cases h
  · rw [hid_out e] at h
    exact ⟨e, h⟩
theorem hid_same {M : List Addr} {H : Hp} : Same (Hid M H) H := fun b o h => (hid_some h).2
theorem hid_get {M : List Addr} {H : Hp} {b : Addr} {o : HO} (h : H b = some o) (n : b ∉ M) : Hid M H b = some o := (hid_out n).trans h
theorem hid_go {M M' : List Addr} {H H' : Hp} (h : ∀ b o, b ∉ M → H b = some o → b ∉ M' ∧ H' b = some o) : Same (Hid M H) (Hid M' H') := fun b o hb => by
  obtain ⟨n, hb⟩ := hid_some hb
  obtain ⟨n', hb'⟩ := h b o n hb
  exact hid_get hb' n'
theorem hid_keep {M : List Addr} {H H' : Hp} (e : Same H H') : Same (Hid M H) (Hid M H') := hid_go fun b o n h => ⟨n, e _ _ h⟩
theorem hid_put {M : List Addr} {H H' : Hp} {a : Addr} {o : HO} (e : Same H H') (h : a ∈ M) : Same (Hid M H) (Hid M (upd H' a o)) := hid_go fun b u n hb => ⟨n, by
  rw [upd_ne (fun q : b = a => n (q.symm ▸ h))]
  exact e _ _ hb⟩
def mV : Option Nat → V
  | none => .non
  | some n => .int (n : Nat)
/-- the call that is being read: its lists of deeds and of same may be changed -/
def LastT (K : PySem.W.Frag) (H : Hp) (M : List Addr) (lf lc : Addr) (v : V) (c : CD) : Prop := ∃ (t m dl sl : Addr) (dvs : List V), v = .ref t ∧ Hid M H t = some (.tup [.str c.nm, .str c.hand, .ref m, .ref dl, .ref sl]) ∧ Hid M H m = some (.lst (c.moves.map V.int)) ∧
  (dl ∈ M ∧ sl ∈ M ∧ dl ≠ sl ∧ dl ≠ lf ∧ dl ≠ lc ∧ sl ≠ lf ∧ sl ≠ lc) ∧ H dl = some (.lst dvs) ∧ Al (DeT K (Hid M H)) dvs c.deeds ∧ H sl = some (.lst (c.same.map V.str))
def CsT (K : PySem.W.Frag) (H : Hp) (M : List Addr) (lf lc : Addr) (cvs : List V) (cs : List CD) : Prop := (cvs = [] ∧ cs = []) ∨ ∃ (cvs0 : List V) (v : V) (cs0 : List CD) (c : CD), cvs = cvs0 ++ [v] ∧ cs = cs0 ++ [c] ∧ Al (CdA K (Hid M H)) cvs0 cs0 ∧ LastT K H M lf lc v c
def drV (m : Option Nat) (lf lc : Addr) : List (Str × V) := [("modes", mV m), ("field_items", .ref lf), ("call_items", .ref lc)]
/-- a draft at dr, of which M may be changed -/
structure DrA (K : PySem.W.Frag) (DC : Addr) (H : Hp) (M : List Addr) (dr dx lf lc : Addr) (fvs cvs : List V) (a : Dra) : Prop where
  live : ∀ b ∈ M, H b ≠ none
  mem : dr ∈ M ∧ lf ∈ M ∧ lc ∈ M ∧ lf ≠ lc
  at_ : H dr = some (.ins DC dx (drV a.modes lf lc))
  fl : H lf = some (.lst fvs)
  fs : Al (FdT K (Hid M H)) fvs a.fs
  cl : H lc = some (.lst cvs)
  cs : CsT K H M lf lc cvs a.cs
def DrT (K : PySem.W.Frag) (DC : Addr) (H : Hp) (M : List Addr) (dr : Addr) (a : Dra) : Prop := ∃ (dx lf lc : Addr) (fvs cvs : List V), DrA K DC H M dr dx lf lc fvs cvs a
section
variable {K : PySem.W.Frag} {DC : Addr} {H H' : Hp} {M : List Addr} {dr dx lf lc : Addr} {fvs cvs : List V} {a : Dra} {v : V} {c : CD}
theorem LastT.keep (e : Same H H') (h : LastT K H M lf lc v c) : LastT K H' M lf lc v c := by
  obtain ⟨t, m, dl, sl, dvs, h0, h1, h2, h3, h4, h5, h6⟩ := h
  exact ⟨t, m, dl, sl, dvs, h0, hid_keep e _ _ h1, hid_keep e _ _ h2, h3, e _ _ h4, h5.mono fun _ _ h => DeT.keep (hid_keep e) h, e _ _ h6⟩
theorem CsT.keep {cs : List CD} (e : Same H H') (h : CsT K H M lf lc cvs cs) : CsT K H' M lf lc cvs cs := by
  rcases h with h | ⟨cvs0, v, cs0, c, h1, h2, h3, h4⟩
  · exact .inl h
  · exact .inr ⟨cvs0, v, cs0, c, h1, h2, h3.mono fun _ _ h => CdA.keep (hid_keep e) h, h4.keep e⟩
theorem DrA.keep (e : Same H H') (h : DrA K DC H M dr dx lf lc fvs cvs a) : DrA K DC H' M dr dx lf lc fvs cvs a where
  live := fun b hb q => by
    cases z : H b with
    | none => exact h.live b hb z
    | some o =>
      rw [e _ _ z] at q
      cases q
  mem := h.mem
  at_ := e _ _ h.at_
  fl := e _ _ h.fl
  fs := h.fs.mono fun _ _ h => FdT.keep (hid_keep e) h
  cl := e _ _ h.cl
  cs := h.cs.keep e
theorem DrA.t (h : DrA K DC H M dr dx lf lc fvs cvs a) : DrT K DC H M dr a := ⟨dx, lf, lc, fvs, cvs, h⟩
theorem DrA.nf (h : DrA K DC H M dr dx lf lc fvs cvs a) : lf ≠ dr := fun e => by
  have := h.at_
  rw [← e, h.fl] at this
  cases this
theorem DrA.nc (h : DrA K DC H M dr dx lf lc fvs cvs a) : lc ≠ dr := fun e => by
  have := h.at_
  rw [← e, h.cl] at this
  cases this
theorem DrA.new (h : DrA K DC H M dr dx lf lc fvs cvs a) {p : Addr} (hp : H p = none) : p ∉ M := fun m => h.live p m hp
/-- what stands elsewhere, when something of M is changed -/
theorem LastT.put {p : Addr} {o : HO} (hp : p ∈ M) (h : LastT K H M lf lc v c) (n : ∀ t m dl sl dvs, v = .ref t → H t = some (.tup [.str c.nm, .str c.hand, .ref m, .ref dl, .ref sl]) → H dl = some (.lst dvs) → dl ≠ p ∧ sl ≠ p) : LastT K (upd H p o) M lf lc v c := by
  obtain ⟨t, m, dl, sl, dvs, h0, h1, h2, h3, h4, h5, h6⟩ := h
  have e : Same (Hid M H) (Hid M (upd H p o)) := hid_put (Same.refl H) hp
  obtain ⟨n1, n2⟩ := n t m dl sl dvs h0 (hid_same _ _ h1) h4
  exact ⟨t, m, dl, sl, dvs, h0, e _ _ h1, e _ _ h2, h3, (upd_ne n1).trans h4, h5.mono fun _ _ h => DeT.keep e h, (upd_ne n2).trans h6⟩
end
end MK
set_option Elab.async false
set_option linter.all false
set_option autoImplicit false
set_option maxRecDepth 100000
set_option maxHeartbeats 1000000
namespace MK
open PySem PySem.Spec PyProof.Rows L2
section
variable {K : PySem.W.Frag} {a : Addr} {xs ys : List V} {g : TG} {te : TE} {vs : List Nat} {σ : L2.St} {H : Hp} {D : Addr} {Qd : Hp → Prop}
theorem take_val {i : Nat} {y : V} (h : ys[i]? = some y) : ys.take (i + 1) = ys.take i ++ [y] := by
  rw [List.take_succ, h]
  rfl
end
end MK
set_option Elab.async false
set_option linter.all false
set_option autoImplicit false
set_option maxRecDepth 100000
set_option maxHeartbeats 1000000
namespace MK
open PySem PySem.Spec PyProof.Rows L2
/-- the call that is being read: its lists of deeds and of same may be changed -/
def LastB (K : PySem.W.Frag) (H : Hp) (M : List Addr) (dr lf lc : Addr) (v : V) (c : CD) : Prop := ∃ (t m dl sl : Addr) (dvs : List V), v = .ref t ∧ Hid M H t = some (.tup [.str c.nm, .str c.hand, .ref m, .ref dl, .ref sl]) ∧ Hid M H m = some (.lst (c.moves.map V.int)) ∧
  (dl ∈ M ∧ sl ∈ M ∧ dl ≠ sl ∧ dl ≠ lf ∧ dl ≠ lc ∧ sl ≠ lf ∧ sl ≠ lc ∧ dl ≠ dr ∧ sl ≠ dr) ∧ H dl = some (.lst dvs) ∧ Al (DeT K (Hid M H)) dvs c.deeds ∧ H sl = some (.lst (c.same.map V.str))
def CsB (K : PySem.W.Frag) (H : Hp) (M : List Addr) (dr lf lc : Addr) (cvs : List V) (cs : List CD) : Prop := (cvs = [] ∧ cs = []) ∨ ∃ (cvs0 : List V) (v : V) (cs0 : List CD) (c : CD), cvs = cvs0 ++ [v] ∧ cs = cs0 ++ [c] ∧ Al (CdL K (Hid M H)) cvs0 cs0 ∧ LastB K H M dr lf lc v c
structure FR where
  nm : Str
  sort : Str
  need : Bool
def FrV (f : FR) : List V := [.str f.nm, .str f.sort, .bl f.need]
def FrT (K : PySem.W.Frag) (H : Hp) (v : V) (f : FR) : Prop := Tu K H v (FrV f)
theorem FrT.keep {K : PySem.W.Frag} {H H' : Hp} {v : V} {f : FR} (e : Same H H') (h : FrT K H v f) : FrT K H' v f := Tu.keep e h
/-- what has been read, under dr, of which M may be changed -/
structure DrB (K : PySem.W.Frag) (H : Hp) (M : List Addr) (dr : Addr) (ho : HO) (lf lc : Addr) (fvs cvs : List V) (fs : List FR) (cs : List CD) : Prop where
  live : ∀ b ∈ M, H b ≠ none
  mem : dr ∈ M ∧ lf ∈ M ∧ lc ∈ M ∧ lf ≠ lc
  nf : lf ≠ dr
  nc : lc ≠ dr
  at_ : H dr = some ho
  fl : H lf = some (.lst fvs)
  fs : Al (FrT K (Hid M H)) fvs fs
  cl : H lc = some (.lst cvs)
  cs : CsB K H M dr lf lc cvs cs
section
variable {K : PySem.W.Frag} {H H' : Hp} {M : List Addr} {dr lf lc : Addr} {ho : HO} {fvs cvs : List V} {fs : List FR} {cs : List CD} {v : V} {c : CD}
theorem LastB.keep (e : Same H H') (h : LastB K H M dr lf lc v c) : LastB K H' M dr lf lc v c := by
  obtain ⟨t, m, dl, sl, dvs, h0, h1, h2, h3, h4, h5, h6⟩ := h
  exact ⟨t, m, dl, sl, dvs, h0, hid_keep e _ _ h1, hid_keep e _ _ h2, h3, e _ _ h4, h5.mono fun _ _ h => DeT.keep (hid_keep e) h, e _ _ h6⟩
theorem CsB.keep {cs : List CD} (e : Same H H') (h : CsB K H M dr lf lc cvs cs) : CsB K H' M dr lf lc cvs cs := by
  rcases h with h | ⟨cvs0, v, cs0, c, h1, h2, h3, h4⟩
  · exact .inl h
  · exact .inr ⟨cvs0, v, cs0, c, h1, h2, h3.mono fun _ _ h => CdL.keep (hid_keep e) h, h4.keep e⟩
theorem DrB.keep (e : Same H H') (h : DrB K H M dr ho lf lc fvs cvs fs cs) : DrB K H' M dr ho lf lc fvs cvs fs cs where
  live := fun b hb q => by
    cases z : H b with
    | none => exact h.live b hb z
    | some o =>
      rw [e _ _ z] at q
      cases q
  mem := h.mem
  nf := h.nf
  nc := h.nc
  at_ := e _ _ h.at_
  fl := e _ _ h.fl
  fs := h.fs.mono fun _ _ h => FrT.keep (hid_keep e) h
  cl := e _ _ h.cl
  cs := h.cs.keep e
theorem DrB.new (h : DrB K H M dr ho lf lc fvs cvs fs cs) {p : Addr} (hp : H p = none) : p ∉ M := fun m => h.live p m hp
end
end MK
set_option Elab.async false
set_option linter.all false
set_option autoImplicit false
set_option maxRecDepth 100000
set_option maxHeartbeats 1000000
namespace MK
open PySem PySem.Spec PyProof.Rows L2 TL
def digB (c : Nat) : Bool := decide (48 ≤ c) && decide (c ≤ 57)
def numZ (z : Str) : Bool := !decide (z = ("" : Str)) && ((tl z).all digB && (decide (z = ("0" : Str)) || !decide ((tl z).head? = some 48)))
def valL (n : Nat) (cs : List Nat) : Nat := cs.foldl (fun n c => n * 10 + (c - 48)) n
def numN (z : Str) : Nat := valL 0 (tl z)
def movB (z : Str) : Bool := decide (z = ("-1" : Str)) || numZ z
def movI (z : Str) : Int := if z = ("-1" : Str) then -1 else (numN z : Nat)
structure Rd where
  modes : Option Nat
  fs : List FR
  cs : List CD
def putM (a : Rd) : List Str → Option Rd
  | [_, z] => if (a.modes.isNone && numZ z) = true then some ⟨some (numN z), a.fs, a.cs⟩ else none
  | _ => none
def putFi (a : Rd) : List Str → Option Rd
  | [_, x, y] => if (wordB x && (wordB y && a.cs.isEmpty)) = true then some ⟨a.modes, a.fs ++ [⟨x, y, false⟩], a.cs⟩ else none
  | [_, x, y, n] => if (decide (n = ("need" : Str)) && (wordB x && (wordB y && a.cs.isEmpty))) = true then some ⟨a.modes, a.fs ++ [⟨x, y, true⟩], a.cs⟩ else none
  | _ => none
def putC (a : Rd) : List Str → Option Rd
  | _ :: x :: y :: r => if (wordB x && (wordB y && r.all movB)) = true then some ⟨a.modes, a.fs, a.cs ++ [⟨x, y, r.map movI, [], []⟩]⟩ else none
  | _ => none
def putD (a : Rd) : List Str → Option Rd
  | [_, x, y] => if (wordB x && wordB y) = true then (match a.cs.getLast? with
    | some c => if c.same.isEmpty = true then some ⟨a.modes, a.fs, a.cs.dropLast ++ [⟨c.nm, c.hand, c.moves, c.deeds ++ [(x, y)], c.same⟩]⟩ else none
    | none => none) else none
  | _ => none
def putS (a : Rd) : List Str → Option Rd
  | [_, x] => if wordB x = true then (match a.cs.getLast? with
    | some c => some ⟨a.modes, a.fs, a.cs.dropLast ++ [⟨c.nm, c.hand, c.moves, c.deeds, c.same ++ [x]⟩]⟩
    | none => none) else none
  | _ => none
def putL (a : Rd) (ps : List Str) : Option Rd :=
  let h := ps.headD Str.empty
  if h = ("modes" : Str) then putM a ps else if a.modes.isNone = true then none else if h = ("field" : Str) then putFi a ps else if h = ("call" : Str) then putC a ps else if h = ("do" : Str) then putD a ps else if h = ("same" : Str) then putS a ps else none
def goes (a : Rd) : List (List Str) → Option Rd
  | [] => some a
  | p :: r => (putL a p).bind fun b => goes b r
theorem word_len' {z : Str} (h : wordB z = true) : z.length ≤ 8 := (word_part h).le
structure CdF (k : Nat) (c : CD) : Prop where
  nm : wordB c.nm = true
  hand : wordB c.hand = true
  mv : c.moves.length ≤ 20
  dl : c.deeds.length ≤ k
  ds : ∀ d ∈ c.deeds, wordB d.1 = true ∧ wordB d.2 = true
  sl : c.same.length ≤ k
  ss : ∀ x ∈ c.same, wordB x = true
structure RdF (k : Nat) (a : Rd) : Prop where
  fl : a.fs.length ≤ k
  fs : ∀ f ∈ a.fs, wordB f.nm = true ∧ wordB f.sort = true
  cl : a.cs.length ≤ k
  cs : ∀ c ∈ a.cs, CdF k c
def frD (f : FR) : Dt := .tup [.str f.nm, .str f.sort, .bl f.need]
def dpD (d : Str × Str) : Dt := .tup [.str d.1, .str d.2]
def cdD (c : CD) : Dt := .tup [.str c.nm, .str c.hand, .lst (c.moves.map .int), .lst (c.deeds.map dpD), .lst (c.same.map .str)]
theorem word_sz {z : Str} (h : wordB z = true) : z.length ≤ sizeLine := Nat.le_trans (word_len' h) (by decide)
theorem sh_al {α : Type} {K : PySem.W.Frag} {H : Hp} {a : Addr} {vs : List V} {xs : List α} {R : V → α → Prop} {f : α → Dt} (ha : H a = some (.lst vs)) (al : Al R vs xs) (l : xs.length < 1000) (h : ∀ v x, x ∈ xs → R v x → Sh K H v (f x)) : Sh K H (.ref a) (.lst (xs.map f)) := by
  refine .lst ha (by rw [al.1]; exact l) (by rw [al.1, List.length_map]) fun i x y hx hy => ?_
  rw [List.getElem?_map] at hy
  obtain ⟨z, hz, rfl⟩ := Option.map_eq_some_iff.mp hy
  exact h x z (List.mem_of_getElem? hz) (al.2 i x z hx hz)
theorem sh_tup {K : PySem.W.Frag} {H : Hp} {v : V} {vs : List V} {xs : List Dt} (ha : Tu K H v vs) (l : vs.length < 1000) (len : vs.length = xs.length) (h : ∀ (i : Nat) x y, vs[i]? = some x → xs[i]? = some y → Sh K H x y) : Sh K H v (.tup xs) := by
  obtain ⟨a, rfl, ha⟩ := ha
  exact .tup ha l len h
theorem FrT.sh {K : PySem.W.Frag} {H : Hp} {v : V} {f : FR} (h : FrT K H v f) (w : wordB f.nm = true ∧ wordB f.sort = true) : Sh K H v (frD f) := by
  refine sh_tup h (by show 3 < 1000; decide) rfl fun i x y hx hy => ?_
  match i with
  | 0 => cases hx; cases hy; exact .str _ (word_sz w.1)
  | 1 => cases hx; cases hy; exact .str _ (word_sz w.2)
  | 2 => cases hx; cases hy; exact .bl _
  | i + 3 => cases hx
theorem DeT.sh {K : PySem.W.Frag} {H : Hp} {v : V} {d : Str × Str} (h : DeT K H v d) (w : wordB d.1 = true ∧ wordB d.2 = true) : Sh K H v (dpD d) := by
  refine sh_tup h (by show 2 < 1000; decide) rfl fun i x y hx hy => ?_
  match i with
  | 0 => cases hx; cases hy; exact .str _ (word_sz w.1)
  | 1 => cases hx; cases hy; exact .str _ (word_sz w.2)
  | i + 2 => cases hx
theorem al_map {α : Type} {f : α → V} : ∀ xs : List α, Al (fun v x => v = f x) (xs.map f) xs := fun xs => Al.map fun _ => rfl
theorem CdL.sh {K : PySem.W.Frag} {H : Hp} {v : V} {c : CD} {k : Nat} (h : CdL K H v c) (w : CdF k c) (hk : k ≤ 100) : Sh K H v (cdD c) := by
  obtain ⟨m, d, s, ds, h1, ⟨ma, rfl, h2⟩, ⟨da, rfl, h3⟩, h4, ⟨sa, rfl, h5⟩⟩ := h
  have w1 := w.mv
  have w2 := w.dl
  have w3 := w.sl
  refine sh_tup h1 (by show 5 < 1000; decide) rfl fun i x y hx hy => ?_
  match i with
  | 0 => cases hx; cases hy; exact .str _ (word_sz w.nm)
  | 1 => cases hx; cases hy; exact .str _ (word_sz w.hand)
  | 2 => cases hx; cases hy; exact sh_al h2 (al_map c.moves) (by omega) fun v i _ e => by rw [e]; exact .int i
  | 3 => cases hx; cases hy; exact sh_al h3 h4 (by omega) fun v d m e => DeT.sh e (w.ds d m)
  | 4 => cases hx; cases hy; exact sh_al h5 (al_map c.same) (by omega) fun v z m e => by rw [e]; exact .str z (word_sz (w.ss z m))
  | i + 5 => cases hx
theorem RdF.sh {K : PySem.W.Frag} {H : Hp} {lf lc : Addr} {fvs cvs : List V} {a : Rd} {k : Nat} (w : RdF k a) (hk : k ≤ 100) (h1 : H lf = some (.lst fvs)) (h2 : Al (FrT K H) fvs a.fs) (h3 : H lc = some (.lst cvs)) (h4 : Al (CdL K H) cvs a.cs) :
    Sh K H (.ref lf) (.lst (a.fs.map frD)) ∧ Sh K H (.ref lc) (.lst (a.cs.map cdD)) := by
  have w1 := w.fl
  have w2 := w.cl
  exact ⟨sh_al h1 h2 (by omega) fun v f m e => FrT.sh e (w.fs f m), sh_al h3 h4 (by omega) fun v c m e => CdL.sh e (w.cs c m) hk⟩
end MK
set_option Elab.async false
set_option linter.all false
set_option autoImplicit false
set_option maxRecDepth 100000
set_option maxHeartbeats 1000000
namespace L2
open PySem PySem.Spec PyProof.Rows
section
variable {X : Cx}
def rInDT (K : PySem.W.Frag) : R2 := fun x y H Q => ∃ d ds, Dp K H x d ∧ Dp K H y (.tuple ds) ∧ SeqAt.shaped d = true ∧ SeqAt.shaped (.tuple ds) = true ∧ Q (.bl (ds.any fun z => PyData.eqv z d)) H
theorem op_inDT (hu : X.A.units + 65 < cLine) : OpR X (compareOp .In) (rInDT X.K) := by
  intro pins s σ H x y v u Q I rx ry h
  obtain ⟨d, ds, hd, he, sd, se, q⟩ := h
  obtain ⟨as, r1⟩ := Dp.reads I d x v hd rx
  obtain ⟨bs, r2⟩ := Dp.reads I (.tuple ds) y u he ry
  exact SeqAt.in_tuple_reads r2 r1 (SeqAt.canLay_of_shaped se) (SeqAt.canLay_of_shaped sd) (room_in_shaped sd hu) ⟨.bl _, H, I, rfl, q⟩
end
end L2
namespace MK
open PySem PySem.Spec PyProof.Rows L2 TL
theorem room65 {k : Nat} {A : Around} (r : Room k A) : A.units + 65 < cLine := by
  have := r.un
  omega
end MK
set_option Elab.async false
set_option linter.all false
set_option autoImplicit false
set_option maxRecDepth 100000
set_option maxHeartbeats 1000000
namespace MK
open PySem PySem.Spec PyProof.Rows L2
section
variable {K : PySem.W.Frag} {g : TG} {te : TE} {vs : List Nat} {σ : L2.St} {H : Hp} {D : Addr} {Qd : Hp → Prop} {J : It} {n : Nat} {G : Hp → Prop} {Y : Nat → Hp → V → Hp → Prop}
/-- each element is a value that is known -/
theorem lc_valS (wk : Walk J n G Y) {ys : List V} (len : ys.length = n) (few : n ≤ 1000) (hD : H D = none) (hG : ∀ H', Same H H' → G H')
    (hs : ∀ (i : Nat) x y H2 H3 (R : VK), i < n → ys[i]? = some y → Same H H2 → Y i H2 x H3 → (∀ H', Same H2 H' → R y H') → g x (wipe σ vs) H3 fun σ2 H4 => wipe σ2 vs = wipe σ vs ∧ te σ2 H4 R)
    (hd : ∀ H', Same H H' → H' D = some (.lst ys) → Qd H') :
    ∃ W : Nat → Nat → Hp → Prop, (∃ m, W 0 m (upd H D (.lst []))) ∧ ∀ i m H, W i m H →
      (J.stop i H ∧ Qd H) ∨ (J.go i H ∧ ∃ Nx : Hp → Prop, (∀ H', Nx H' → ∃ m', m' < m ∧ W (i + 1) m' H') ∧ ∀ x H', J.yld i H x H' → g x (wipe σ vs) H' fun σ2 H2 => wipe σ2 vs = wipe σ vs ∧ tYes σ2 H2 fun b H3 =>
        if b = true then te σ2 H3 fun y H4 => ∃ acc, H4 D = some (.lst acc) ∧ acc.length < sizeLine ∧ Nx (upd H4 D (.lst (acc ++ [y]))) else Nx H3) := by
  refine lc_it wk (fun i Z => Same H Z ∧ Z D = some (.lst (ys.take i))) ⟨same_new (Same.refl H) hD, upd_same⟩ (fun i Z _ e => hG Z e.1) (fun i x Z Z3 hi e hy => ?_) fun Z e => ?_
  · obtain ⟨e, d⟩ := e
    have hyi : ys[i]? = some ys[i] := List.getElem?_eq_getElem (by omega)
    refine hs i x _ Z Z3 _ hi hyi e hy fun H' e' => ⟨_, e' _ _ d, ?_, fun b o hb => ?_, ?_⟩
    · rw [List.length_take, sizeLine_eq]
      omega
    · rw [upd_ne (ne_of_none hb hD)]
      exact e' _ _ (e _ _ hb)
    · rw [upd_same, take_val hyi]
  · obtain ⟨e, d⟩ := e
    rw [← len, List.take_length] at d
    exact hd Z e d
end
end MK
set_option Elab.async false
set_option linter.all false
set_option autoImplicit false
set_option maxRecDepth 100000
set_option maxHeartbeats 1000000
namespace MK
open PySem PySem.Spec PyProof.Rows L2
/-- what is held for a field: a word or nothing, or the number of a list -/
inductive Sl where
  | w (o : Option Str)
  | l (n : Nat)
/-- what is told of it -/
inductive Ct where
  | w (o : Option Str)
  | l (ws : List Str)
/-- a maker, or, without a mode, a product -/
structure Ob where
  mode : Option Nat
  held : List Sl
instance : Inhabited Ob := ⟨⟨none, []⟩⟩
structure Bn where
  lists : List (List Str)
  obs : List Ob
  hand : List (Option Nat)
  early : List (Option (List Ct))
inductive Rw where
  | mk
  | call (nm : Str) (k : Nat) (wd : Option Str)
deriving DecidableEq
def getL (ls : List (List Str)) : Sl → List Str
  | .l n => ls.getD n []
  | .w _ => []
def ctOf (ls : List (List Str)) : Sl → Ct
  | .w o => .w o
  | .l n => .l (ls.getD n [])
def blStep (st : List (List Str) × List Sl) (f : FD) : List (List Str) × List Sl := if f.many = true then (st.1 ++ [[]], st.2 ++ [.l st.1.length]) else (st.1, st.2 ++ [.w none])
def blank (fs : List FD) (ls : List (List Str)) : List (List Str) × List Sl := fs.foldl blStep (ls, [])
def cpStep (same : List Str) (st : List (List Str) × List Sl) (x : Sl × FD) : List (List Str) × List Sl :=
  if x.2.many = true ∧ x.2.nm ∉ same then (st.1 ++ [getL st.1 x.1], st.2 ++ [.l st.1.length]) else (st.1, st.2 ++ [x.1])
def cp (same : List Str) (fs : List FD) (held : List Sl) (ls : List (List Str)) : List (List Str) × List Sl := (held.zip fs).foldl (cpStep same) (ls, [])
def spot (fs : List FD) (z : Str) : Nat := fs.findIdx fun f => decide (f.nm = z)
def Bn.ob (b : Bn) (j : Nat) : Ob := b.obs.getD j default
def Bn.setOb (b : Bn) (j : Nat) (o : Ob) : Bn := { b with obs := b.obs.set j o }
def Bn.setSlot (b : Bn) (j at_ : Nat) (s : Sl) : Bn := b.setOb j ⟨(b.ob j).mode, (b.ob j).held.set at_ s⟩
def Bn.setMode (b : Bn) (j m : Nat) : Bn := b.setOb j ⟨some m, (b.ob j).held⟩
def Bn.newOb (b : Bn) (m : Option Nat) (p : List (List Str) × List Sl) : Bn := { b with lists := p.1, obs := b.obs ++ [⟨m, p.2⟩] }
/-- a deed on what is held -/
def deStep (fs : List FD) (wd : Str) (j : Nat) (b : Bn) (d : Str × Str) : Bn :=
  match (b.ob j).held.getD (spot fs d.2) (.w none) with
  | .w _ => b.setSlot j (spot fs d.2) (.w (if d.1 = ("set" : Str) then some wd else none))
  | .l n =>
    if d.1 = ("fresh" : Str) then ({ b with lists := b.lists ++ [b.lists.getD n []] } : Bn).setSlot j (spot fs d.2) (.l b.lists.length)
    else { b with lists := b.lists.set n (if d.1 = ("add" : Str) then b.lists.getD n [] ++ [wd] else if d.1 = ("strike" : Str) then (b.lists.getD n []).filter (fun z => !decide (z = wd)) else []) }
def Bn.push (b : Bn) (h : Option Nat) (e : Option (List Ct)) : Bn := { b with hand := b.hand ++ [h], early := b.early ++ [e] }
/-- the object that a row's call works on -/
def pre (av : Bool) (fs : List FD) (c : CD) (b : Bn) (j m : Nat) : Bn × Nat :=
  if av = true then (b.newOb (some m) (cp [] fs (b.ob j).held b.lists), b.obs.length)
  else if c.hand = ("new" : Str) then (b.newOb (some m) (cp c.same fs (b.ob j).held b.lists), b.obs.length)
  else (b, j)
def mid (fs : List FD) (c : CD) (b : Bn) (j m : Nat) (wd : Str) : Bn := c.deeds.foldl (deStep fs wd j) (b.setMode j m)
def fin (fs : List FD) (c : CD) (b : Bn) (j : Nat) : Bn :=
  if c.hand = ("last" : Str) then
    let b1 := b.newOb none (cp c.same fs (b.ob j).held b.lists)
    b1.push (some b.obs.length) (some ((b1.ob b.obs.length).held.map (ctOf b1.lists)))
  else b.push (some j) none
def doCall (av : Bool) (fs : List FD) (c : CD) (b : Bn) (j m : Nat) (wd : Str) : Bn :=
  let p := pre av fs c b j m
  fin fs c (mid fs c p.1 p.2 m wd) p.2
def callOf (cs : List CD) (nm : Str) : Option CD := cs.find? fun c => decide (c.nm = nm)
/-- the mode to which the maker comes, none if it is refused -/
def nextM (c : CD) (b : Bn) (k : Nat) : Option (Nat × Nat) :=
  match b.hand.getD k none with
  | none => none
  | some j => match (b.ob j).mode with
    | none => none
    | some m => match c.moves.getD m (-1) with
      | .ofNat n => some (j, n)
      | .negSucc _ => none
def doRow (av : Bool) (fs : List FD) (cs : List CD) (b : Bn) : Rw → Bn
  | .mk => let p := blank fs b.lists; (b.newOb (some 0) p).push (some b.obs.length) none
  | .call nm k wd => match callOf cs nm with
    | none => b.push none none
    | some c => match nextM c b k with
      | none => b.push none none
      | some (j, m) => doCall av fs c b j m (wd.getD Str.empty)
def CD.takes (c : CD) : Bool := c.deeds.any fun d => decide (d.1 = ("set" : Str)) || (decide (d.1 = ("add" : Str)) || decide (d.1 = ("strike" : Str)))
def isLast (cs : List CD) : Rw → Bool
  | .mk => false
  | .call nm _ _ => match callOf cs nm with
    | some c => decide (c.hand = ("last" : Str))
    | none => false
/-- a row that can stand behind these -/
def RwOk (cs : List CD) (ahead : List Rw) : Rw → Prop
  | .mk => True
  | .call nm k wd => ∃ c, callOf cs nm = some c ∧ (∃ r, ahead[k]? = some r ∧ isLast cs r = false) ∧ (wd.isSome = c.takes) ∧ ∀ z, wd = some z → wordB z = true
def RwsOk (cs : List CD) (rs : List Rw) : Prop := ∀ (i : Nat) r, rs[i]? = some r → RwOk cs (rs.take i) r
def SlOk (n : Nat) (f : FD) : Sl → Prop
  | .w _ => f.many = false
  | .l k => f.many = true ∧ k < n
def HeldOk (n : Nat) (fs : List FD) (held : List Sl) : Prop := held.length = fs.length ∧ ∀ (i : Nat) s f, held[i]? = some s → fs[i]? = some f → SlOk n f s
/-- of the lists and the things -/
structure W0 (fs : List FD) (n A B C : Nat) (b : Bn) : Prop where
  held : ∀ o ∈ b.obs, HeldOk b.lists.length fs o.held
  mode : ∀ o ∈ b.obs, ∀ m, o.mode = some m → m < n
  ll : b.lists.length ≤ A
  ol : b.obs.length ≤ B
  wl : ∀ ws ∈ b.lists, ws.length ≤ C
  ws : ∀ ws ∈ b.lists, ∀ z ∈ ws, wordB z = true
  hw : ∀ o ∈ b.obs, ∀ z, Sl.w (some z) ∈ o.held → wordB z = true
structure Wf (fs : List FD) (n : Nat) (cs : List CD) (rs : List Rw) (b : Bn) : Prop where
  w : W0 fs n (10 * rs.length) (2 * rs.length) (4 * rs.length) b
  hl : b.hand.length = rs.length
  el : b.early.length = rs.length
  hand : ∀ (k : Nat) j, b.hand[k]? = some (some j) → j < b.obs.length
  /-- what a row hands has a mode just if it is none of a last -/
  mkr : ∀ (k : Nat) r j, rs[k]? = some r → b.hand[k]? = some (some j) → (b.ob j).mode.isSome = !isLast cs r
theorem HeldOk.mono {n n' : Nat} {fs : List FD} {held : List Sl} (h : HeldOk n fs held) (l : n ≤ n') : HeldOk n' fs held := ⟨h.1, fun i s f hs hf => by
  have := h.2 i s f hs hf
  cases s with
  | w o => exact this
  | l k => exact ⟨this.1, Nat.lt_of_lt_of_le this.2 l⟩⟩
theorem W0.mono {fs : List FD} {n A B C A' B' C' : Nat} {b : Bn} (h : W0 fs n A B C b) (a : A ≤ A') (bb : B ≤ B') (c : C ≤ C') : W0 fs n A' B' C' b :=
  ⟨h.held, h.mode, Nat.le_trans h.ll a, Nat.le_trans h.ol bb, fun ws m => Nat.le_trans (h.wl ws m) c, h.ws, h.hw⟩
theorem getD_mem {α : Type} {l : List α} {i : Nat} {d : α} (h : i < l.length) : l.getD i d ∈ l := by
  rw [List.getD_eq_getElem?_getD, List.getElem?_eq_getElem h]
  exact List.getElem_mem h
theorem ob_mem {b : Bn} {j : Nat} (h : j < b.obs.length) : b.ob j ∈ b.obs := getD_mem h
theorem ob_get {b : Bn} {j : Nat} (h : j < b.obs.length) : b.obs[j]? = some (b.ob j) := by
  rw [List.getElem?_eq_getElem h]
  unfold Bn.ob
  rw [List.getD_eq_getElem?_getD, List.getElem?_eq_getElem h]
  rfl
/-- a copy, or a blank one: the lists grow, what is held is as it should be -/
structure Grown (fs : List FD) (k C : Nat) (ls : List (List Str)) (p : List (List Str) × List Sl) : Prop where
  pre : ls <+: p.1
  ll : p.1.length ≤ ls.length + k
  held : p.2.length = k ∧ ∀ (i : Nat) s f, p.2[i]? = some s → fs[i]? = some f → SlOk p.1.length f s
  wl : ∀ ws ∈ p.1, ws.length ≤ C
  ws : ∀ ws ∈ p.1, ∀ z ∈ ws, wordB z = true
  hw : ∀ z, Sl.w (some z) ∈ p.2 → wordB z = true
theorem Grown.step {fs : List FD} {k C : Nat} {ls : List (List Str)} {p p' : List (List Str) × List Sl} {f : FD} (h : Grown fs k C ls p) (hf : fs[k]? = some f)
    (hp : (∃ ws, p' = (p.1 ++ [ws], p.2 ++ [.l p.1.length]) ∧ f.many = true ∧ ws.length ≤ C ∧ ∀ z ∈ ws, wordB z = true) ∨ (∃ s, p' = (p.1, p.2 ++ [s]) ∧ SlOk p.1.length f s ∧ ∀ z, s = .w (some z) → wordB z = true)) : Grown fs (k + 1) C ls p' := by
  have at_ : ∀ {s : Sl} {i : Nat} {s' : Sl}, (p.2 ++ [s])[i]? = some s' → (i < p.2.length ∧ p.2[i]? = some s') ∨ (i = k ∧ s' = s) := fun {s i s'} e => by
    by_cases q : i < p.2.length
    · rw [List.getElem?_append_left q] at e
      exact .inl ⟨q, e⟩
    · rw [List.getElem?_append_right (by omega)] at e
      have : i - p.2.length = 0 := by
        have := (List.getElem?_eq_some_iff.mp e).1
        simp only [List.length_cons, List.length_nil] at this
        omega
      rw [this] at e
      cases e
      exact .inr ⟨by have := h.held.1; omega, rfl⟩
  rcases hp with ⟨ws, rfl, hm, hl, hw⟩ | ⟨s, rfl, hs, hw⟩
  · refine ⟨h.pre.trans (List.prefix_append _ _), ?_, ⟨?_, fun i s f' e ef => ?_⟩, fun x m => ?_, fun x m => ?_, fun z m => ?_⟩
    · rw [List.length_append]
      have := h.ll
      show p.1.length + 1 ≤ _
      omega
    · rw [List.length_append, h.held.1]
      rfl
    · rcases at_ e with ⟨_, e⟩ | ⟨rfl, rfl⟩
      · have := h.held.2 i s f' e ef
        cases s with
        | w o => exact this
        | l k => exact ⟨this.1, by rw [List.length_append]; exact Nat.lt_of_lt_of_le this.2 (Nat.le_add_right ..)⟩
      · rw [hf] at ef
        cases ef
        exact ⟨hm, by rw [List.length_append]; exact Nat.lt_succ_self _⟩
    · rcases List.mem_append.mp m with m | m
      · exact h.wl x m
      · rw [List.mem_singleton.mp m]
        exact hl
    · rcases List.mem_append.mp m with m | m
      · exact h.ws x m
      · rw [List.mem_singleton.mp m]
        exact hw
    · rcases List.mem_append.mp m with m | m
      · exact h.hw z m
      · cases List.mem_singleton.mp m
  · refine ⟨h.pre, ?_, ⟨?_, fun i s' f' e ef => ?_⟩, h.wl, h.ws, fun z m => ?_⟩
    · have := h.ll
      show p.1.length ≤ _
      omega
    · rw [List.length_append, h.held.1]
      rfl
    · rcases at_ e with ⟨_, e⟩ | ⟨rfl, rfl⟩
      · exact h.held.2 i s' f' e ef
      · rw [hf] at ef
        cases ef
        exact hs
    · rcases List.mem_append.mp m with m | m
      · exact h.hw z m
      · exact hw z (List.mem_singleton.mp m).symm
theorem grown0 {fs : List FD} {C : Nat} {ls : List (List Str)} (wl : ∀ ws ∈ ls, ws.length ≤ C) (ws : ∀ ws ∈ ls, ∀ z ∈ ws, wordB z = true) : Grown fs 0 C ls (ls, []) := ⟨List.prefix_refl _, Nat.le_refl _, ⟨rfl, fun i s f h => by simp at h⟩, wl, ws, nofun⟩
theorem fold_take {α β : Type} (g : β → α → β) (z : β) {xs : List α} {i : Nat} {x : α} (h : xs[i]? = some x) : (xs.take (i + 1)).foldl g z = g ((xs.take i).foldl g z) x := by
  rw [List.take_succ, h, List.foldl_append]
  rfl
theorem bl_grown {fs : List FD} {C : Nat} {ls : List (List Str)} (wl : ∀ ws ∈ ls, ws.length ≤ C) (ws : ∀ ws ∈ ls, ∀ z ∈ ws, wordB z = true) : ∀ i, i ≤ fs.length → Grown fs i C ls ((fs.take i).foldl blStep (ls, []))
  | 0, _ => grown0 wl ws
  | i + 1, h => by
    have hf : fs[i]? = some fs[i] := List.getElem?_eq_getElem (by omega)
    rw [fold_take _ _ hf]
    refine (bl_grown wl ws i (by omega)).step hf ?_
    unfold blStep
    split
    · rename_i m
      exact .inl ⟨[], rfl, m, Nat.zero_le _, nofun⟩
    · rename_i m
      exact .inr ⟨.w none, rfl, by rw [Bool.not_eq_true] at m; exact m, nofun⟩
theorem cp_grown {same : List Str} {fs : List FD} {held : List Sl} {C : Nat} {ls : List (List Str)} (ho : HeldOk ls.length fs held) (hw : ∀ z, Sl.w (some z) ∈ held → wordB z = true) (wl : ∀ ws ∈ ls, ws.length ≤ C) (ws : ∀ ws ∈ ls, ∀ z ∈ ws, wordB z = true) :
    ∀ i, i ≤ fs.length → Grown fs i C ls (((held.zip fs).take i).foldl (cpStep same) (ls, []))
  | 0, _ => by rw [List.take_zero]; exact grown0 wl ws
  | i + 1, h => by
    have hf : fs[i]? = some fs[i] := List.getElem?_eq_getElem (by omega)
    have hh : held[i]? = some (held[i]'(by rw [ho.1]; omega)) := List.getElem?_eq_getElem (by rw [ho.1]; omega)
    have hz : (held.zip fs)[i]? = some (held[i]'(by rw [ho.1]; omega), fs[i]) := by rw [List.getElem?_zip_eq_some]; exact ⟨hh, hf⟩
    rw [fold_take _ _ hz]
    have ih := cp_grown (same := same) ho hw wl ws i (by omega)
    refine ih.step hf ?_
    have so := ho.2 i _ _ hh hf
    have mem := List.mem_of_getElem? hh
    revert so mem
    generalize held[i]'(by rw [ho.1]; omega) = s
    intro so mem
    unfold cpStep
    have hle : ls.length ≤ (((held.zip fs).take i).foldl (cpStep same) (ls, [])).1.length := ih.pre.length_le
    split
    · rename_i m
      refine .inl ⟨_, rfl, m.1, ?_, ?_⟩
      · cases s with
        | w o => exact Nat.zero_le _
        | l k => exact ih.wl _ (getD_mem (Nat.lt_of_lt_of_le so.2 hle))
      · cases s with
        | w o => exact nofun
        | l k => exact ih.ws _ (getD_mem (Nat.lt_of_lt_of_le so.2 hle))
    · refine .inr ⟨s, rfl, ?_, fun z e => hw z (e ▸ mem)⟩
      cases s with
      | w o => exact so
      | l k => exact ⟨so.1, Nat.lt_of_lt_of_le so.2 hle⟩
theorem blank_ok {fs : List FD} {C : Nat} {ls : List (List Str)} (wl : ∀ ws ∈ ls, ws.length ≤ C) (ws : ∀ ws ∈ ls, ∀ z ∈ ws, wordB z = true) : Grown fs fs.length C ls (blank fs ls) := by
  have := bl_grown wl ws fs.length (Nat.le_refl _)
  rw [List.take_length] at this
  exact this
theorem cp_ok {same : List Str} {fs : List FD} {held : List Sl} {C : Nat} {ls : List (List Str)} (ho : HeldOk ls.length fs held) (hw : ∀ z, Sl.w (some z) ∈ held → wordB z = true) (wl : ∀ ws ∈ ls, ws.length ≤ C) (ws : ∀ ws ∈ ls, ∀ z ∈ ws, wordB z = true) : Grown fs fs.length C ls (cp same fs held ls) := by
  have := cp_grown (same := same) ho hw wl ws fs.length (Nat.le_refl _)
  rw [List.take_of_length_le (by rw [List.length_zip, ho.1]; omega)] at this
  exact this
/-- a new thing -/
theorem W0.new {fs : List FD} {n A B C : Nat} {b : Bn} {m : Option Nat} {p : List (List Str) × List Sl} (h : W0 fs n A B C b) (g : Grown fs fs.length C b.lists p) (hm : ∀ m', m = some m' → m' < n) : W0 fs n (A + fs.length) (B + 1) C (b.newOb m p) where
  held := fun o mo => by
    rcases List.mem_append.mp mo with mo | mo
    · exact (h.held o mo).mono g.pre.length_le
    · rw [List.mem_singleton.mp mo]
      exact ⟨g.held.1, g.held.2⟩
  mode := fun o mo => by
    rcases List.mem_append.mp mo with mo | mo
    · exact h.mode o mo
    · rw [List.mem_singleton.mp mo]
      exact hm
  ll := by
    have h1 := g.ll
    have h2 := h.ll
    show p.1.length ≤ _
    omega
  ol := by
    show (b.obs ++ [_]).length ≤ _
    rw [List.length_append]
    have := h.ol
    show b.obs.length + 1 ≤ _
    omega
  wl := g.wl
  ws := g.ws
  hw := fun o mo => by
    rcases List.mem_append.mp mo with mo | mo
    · exact h.hw o mo
    · rw [List.mem_singleton.mp mo]
      exact g.hw
theorem W0.set {fs : List FD} {n A B C : Nat} {b : Bn} {j : Nat} {o : Ob} (h : W0 fs n A B C b) (hh : HeldOk b.lists.length fs o.held) (hm : ∀ m, o.mode = some m → m < n) (hw : ∀ z, Sl.w (some z) ∈ o.held → wordB z = true) : W0 fs n A B C (b.setOb j o) where
  held := fun o' mo => by
    rcases List.mem_or_eq_of_mem_set mo with mo | rfl
    · exact h.held o' mo
    · exact hh
  mode := fun o' mo => by
    rcases List.mem_or_eq_of_mem_set mo with mo | rfl
    · exact h.mode o' mo
    · exact hm
  ll := h.ll
  ol := by
    show (b.obs.set j o).length ≤ B
    rw [List.length_set]
    exact h.ol
  wl := h.wl
  ws := h.ws
  hw := fun o' mo => by
    rcases List.mem_or_eq_of_mem_set mo with mo | rfl
    · exact h.hw o' mo
    · exact hw
theorem HeldOk.set {n : Nat} {fs : List FD} {held : List Sl} {i : Nat} {s : Sl} (h : HeldOk n fs held) (hs : ∀ f, fs[i]? = some f → SlOk n f s) : HeldOk n fs (held.set i s) := by
  refine ⟨by rw [List.length_set]; exact h.1, fun k s' f e ef => ?_⟩
  rw [List.getElem?_set] at e
  split at e
  · split at e
    · cases e
      rename_i q _
      subst q
      exact hs f ef
    · cases e
  · exact h.2 k s' f e ef
theorem set_w {held : List Sl} {i : Nat} {s : Sl} {z : Str} (h : Sl.w (some z) ∈ held.set i s) : Sl.w (some z) ∈ held ∨ s = .w (some z) := by
  rcases List.mem_or_eq_of_mem_set h with h | h
  · exact .inl h
  · exact .inr h.symm
theorem spot_at {fs : List FD} {f : FD} (nd : (fs.map (·.nm)).Nodup) (m : f ∈ fs) : fs[spot fs f.nm]? = some f := by
  induction fs with
  | nil => cases m
  | cons g gs ih =>
    rw [List.map_cons, List.nodup_cons] at nd
    unfold spot
    rw [List.findIdx_cons]
    by_cases e : g.nm = f.nm
    · rw [decide_eq_true e]
      rcases List.mem_cons.mp m with rfl | m
      · rfl
      · exact absurd (List.mem_map.mpr ⟨f, m, e.symm⟩) nd.1
    · rw [decide_eq_false e]
      rcases List.mem_cons.mp m with rfl | m
      · exact absurd rfl e
      · exact ih nd.2 m
/-- what a deed's field holds -/
theorem deed_slot {fs : List FD} {n A B C : Nat} {b : Bn} {j : Nat} {d : Str × Str} (h : W0 fs n A B C b) (hj : j < b.obs.length) (nd : (fs.map (·.nm)).Nodup) (hd : DeOk fs d) :
    ∃ f s, f ∈ fs ∧ f.nm = d.2 ∧ f.many ∈ deedSorts d.1 ∧ fs[spot fs d.2]? = some f ∧ (b.ob j).held[spot fs d.2]? = some s ∧ SlOk b.lists.length f s := by
  obtain ⟨f, m, e, hm⟩ := hd
  have hf := spot_at nd m
  rw [e] at hf
  have ho := h.held _ (ob_mem hj)
  have l : spot fs d.2 < (b.ob j).held.length := by
    rw [ho.1]
    exact (List.getElem?_eq_some_iff.mp hf).1
  exact ⟨f, _, m, e, hm, hf, List.getElem?_eq_getElem l, ho.2 _ _ _ (List.getElem?_eq_getElem l) hf⟩
theorem deStep_ok {fs : List FD} {n A B C : Nat} {b : Bn} {j : Nat} {d : Str × Str} {wd : Str} (h : W0 fs n A B C b) (hj : j < b.obs.length) (nd : (fs.map (·.nm)).Nodup) (hd : DeOk fs d) (hw : d.1 = ("set" : Str) ∨ d.1 = ("add" : Str) → wordB wd = true) :
    W0 fs n (A + 1) B (C + 1) (deStep fs wd j b d) ∧ (deStep fs wd j b d).obs.length = b.obs.length := by
  obtain ⟨f, s, m, e, hm, hf, hs, so⟩ := deed_slot h hj nd hd
  have om := ob_mem hj
  have ho := h.held _ om
  unfold deStep
  rw [List.getD_eq_getElem?_getD, hs]
  cases s with
  | w o =>
    refine ⟨(h.set (j := j) (o := ⟨(b.ob j).mode, _⟩) (ho.set fun f' ef => ?_) (fun m e => h.mode (b.ob j) om m e) fun z mz => ?_).mono (Nat.le_succ _) (Nat.le_refl _) (Nat.le_succ _), by show (b.obs.set _ _).length = _; rw [List.length_set]⟩
    · rw [hf] at ef
      cases ef
      exact so
    · rcases set_w mz with q | q
      · exact h.hw _ om z q
      · split at q
        · rename_i ds
          cases q
          exact hw (.inl ds)
        · cases q
  | l k =>
    dsimp only [Option.getD_some]
    split
    · have gl : b.lists.getD k [] ∈ b.lists := getD_mem so.2
      have h1 : W0 fs n (A + 1) B C { b with lists := b.lists ++ [b.lists.getD k []] } := ⟨fun o mo => (h.held o mo).mono (by rw [List.length_append]; exact Nat.le_add_right ..), h.mode, by
          rw [List.length_append]
          have := h.ll
          show b.lists.length + 1 ≤ _
          omega, h.ol, fun ws m => by
          rcases List.mem_append.mp m with m | m
          · exact h.wl ws m
          · rw [List.mem_singleton.mp m]
            exact h.wl _ gl, fun ws m => by
          rcases List.mem_append.mp m with m | m
          · exact h.ws ws m
          · rw [List.mem_singleton.mp m]
            exact h.ws _ gl, h.hw⟩
      refine ⟨(h1.set (j := j) (o := ⟨(b.ob j).mode, _⟩) ((h1.held _ om).set fun f' ef => ?_) (fun m e => h.mode (b.ob j) om m e) fun z mz => ?_).mono (Nat.le_refl _) (Nat.le_refl _) (Nat.le_succ _), by show (b.obs.set _ _).length = _; rw [List.length_set]⟩
      · rw [hf] at ef
        cases ef
        exact ⟨so.1, by rw [List.length_append]; exact Nat.lt_succ_self _⟩
      · rcases set_w mz with q | q
        · exact h.hw _ om z q
        · cases q
    · refine ⟨⟨fun o mo => by rw [List.length_set]; exact h.held o mo, h.mode, by rw [List.length_set]; exact Nat.le_succ_of_le h.ll, h.ol, fun ws m => ?_, fun ws m => ?_, h.hw⟩, rfl⟩
      · rcases List.mem_or_eq_of_mem_set m with m | rfl
        · exact Nat.le_succ_of_le (h.wl ws m)
        · have := h.wl _ (getD_mem so.2 (d := []))
          split
          · rw [List.length_append]
            exact Nat.succ_le_succ this
          split
          · exact Nat.le_succ_of_le (Nat.le_trans (List.length_filter_le ..) this)
          · exact Nat.zero_le _
      · rcases List.mem_or_eq_of_mem_set m with m | rfl
        · exact h.ws ws m
        · have := h.ws _ (getD_mem so.2 (d := []))
          split
          · rename_i da
            intro z mz
            rcases List.mem_append.mp mz with mz | mz
            · exact this z mz
            · rw [List.mem_singleton.mp mz]
              exact hw (.inr da)
          split
          · exact fun z mz => this z (List.mem_filter.mp mz).1
          · exact nofun
theorem deeds_ok {fs : List FD} {n A B C : Nat} {b : Bn} {j : Nat} {ds : List (Str × Str)} {wd : Str} (h : W0 fs n A B C b) (hj : j < b.obs.length) (nd : (fs.map (·.nm)).Nodup) (hd : ∀ d ∈ ds, DeOk fs d) (hw : ∀ d ∈ ds, d.1 = ("set" : Str) ∨ d.1 = ("add" : Str) → wordB wd = true) :
    ∀ i, i ≤ ds.length → W0 fs n (A + i) B (C + i) ((ds.take i).foldl (deStep fs wd j) b) ∧ ((ds.take i).foldl (deStep fs wd j) b).obs.length = b.obs.length
  | 0, _ => ⟨h, rfl⟩
  | i + 1, l => by
    have hi : ds[i]? = some ds[i] := List.getElem?_eq_getElem (by omega)
    obtain ⟨ih, io⟩ := deeds_ok h hj nd hd hw i (by omega)
    rw [fold_take _ _ hi]
    have m := List.mem_of_getElem? hi
    obtain ⟨q1, q2⟩ := deStep_ok (wd := wd) ih (by rw [io]; exact hj) nd (hd _ m) (hw _ m)
    exact ⟨q1, q2.trans io⟩
end MK
set_option Elab.async false
set_option linter.all false
set_option autoImplicit false
set_option maxRecDepth 100000
set_option maxHeartbeats 1000000
namespace MK
open PySem PySem.Spec PyProof.Rows L2
/-- makers stay makers, products stay products -/
structure Md (b b' : Bn) : Prop where
  len : b.obs.length ≤ b'.obs.length
  md : ∀ i, i < b.obs.length → (b'.ob i).mode.isSome = (b.ob i).mode.isSome
theorem Md.refl (b : Bn) : Md b b := ⟨Nat.le_refl _, fun _ _ => rfl⟩
theorem Md.trans {b b1 b2 : Bn} (h : Md b b1) (g : Md b1 b2) : Md b b2 := ⟨Nat.le_trans h.len g.len, fun i hi => (g.md i (Nat.lt_of_lt_of_le hi h.len)).trans (h.md i hi)⟩
theorem ob_push (b : Bn) (h : Option Nat) (e : Option (List Ct)) (i : Nat) : (b.push h e).ob i = b.ob i := rfl
theorem ob_new_lt {b : Bn} {m : Option Nat} {p : List (List Str) × List Sl} {i : Nat} (hi : i < b.obs.length) : (b.newOb m p).ob i = b.ob i := by
  unfold Bn.ob
  show (b.obs ++ [_]).getD i default = _
  rw [List.getD_eq_getElem?_getD, List.getD_eq_getElem?_getD, List.getElem?_append_left hi]
theorem ob_new {b : Bn} {m : Option Nat} {p : List (List Str) × List Sl} : (b.newOb m p).ob b.obs.length = ⟨m, p.2⟩ := by
  unfold Bn.ob
  show (b.obs ++ [_]).getD _ default = _
  rw [List.getD_eq_getElem?_getD, List.getElem?_append_right (Nat.le_refl _), Nat.sub_self]
  rfl
theorem len_new {b : Bn} {m : Option Nat} {p : List (List Str) × List Sl} : (b.newOb m p).obs.length = b.obs.length + 1 := by
  show (b.obs ++ [_]).length = _
  rw [List.length_append]
  rfl
theorem len_setOb {b : Bn} {j : Nat} {o : Ob} : (b.setOb j o).obs.length = b.obs.length := List.length_set ..
theorem ob_set {b : Bn} {j i : Nat} {o : Ob} (hj : j < b.obs.length) : (b.setOb j o).ob i = if i = j then o else b.ob i := by
  unfold Bn.ob
  show (b.obs.set j o).getD i default = _
  rw [List.getD_eq_getElem?_getD, List.getElem?_set]
  by_cases e : j = i
  · subst e
    rw [if_pos rfl, if_pos hj, if_pos rfl]
    rfl
  · rw [if_neg e, if_neg (Ne.symm e), List.getD_eq_getElem?_getD]
theorem md_new {b : Bn} {m : Option Nat} {p : List (List Str) × List Sl} : Md b (b.newOb m p) := ⟨by rw [len_new]; omega, fun i hi => by rw [ob_new_lt hi]⟩
theorem md_set {b : Bn} {j : Nat} {o : Ob} (hj : j < b.obs.length) (h : o.mode.isSome = (b.ob j).mode.isSome) : Md b (b.setOb j o) := ⟨by rw [len_setOb]; exact Nat.le_refl _, fun i hi => by
  rw [ob_set hj]
  split
  · rename_i e
    rw [e, h]
  · rfl⟩
theorem md_lists {b : Bn} {ls : List (List Str)} : Md b { b with lists := ls } := ⟨Nat.le_refl _, fun _ _ => rfl⟩
theorem md_deed {fs : List FD} {wd : Str} {j : Nat} {b : Bn} {d : Str × Str} (hj : j < b.obs.length) : Md b (deStep fs wd j b d) := by
  unfold deStep
  split
  · exact md_set hj rfl
  · split
    · exact md_lists.trans (md_set (b := { b with lists := _ }) hj rfl)
    · exact md_lists
theorem md_deeds {fs : List FD} {wd : Str} {j : Nat} : ∀ {ds : List (Str × Str)} {b : Bn}, j < b.obs.length → Md b (ds.foldl (deStep fs wd j) b)
  | [], b, _ => Md.refl b
  | d :: ds, b, hj => by
    have h1 := md_deed (fs := fs) (wd := wd) (d := d) hj
    exact h1.trans (md_deeds (Nat.lt_of_lt_of_le hj h1.len))
/-- the rows handed stay as they are noted -/
theorem hand_deed {fs : List FD} {wd : Str} {j : Nat} {b : Bn} {d : Str × Str} : (deStep fs wd j b d).hand = b.hand ∧ (deStep fs wd j b d).early = b.early := by
  unfold deStep
  split
  · exact ⟨rfl, rfl⟩
  · split <;> exact ⟨rfl, rfl⟩
theorem hand_deeds {fs : List FD} {wd : Str} {j : Nat} : ∀ {ds : List (Str × Str)} {b : Bn}, (ds.foldl (deStep fs wd j) b).hand = b.hand ∧ (ds.foldl (deStep fs wd j) b).early = b.early
  | [], b => ⟨rfl, rfl⟩
  | d :: ds, b => by
    have h1 := hand_deed (fs := fs) (wd := wd) (j := j) (b := b) (d := d)
    have h2 := hand_deeds (fs := fs) (wd := wd) (j := j) (ds := ds) (b := deStep fs wd j b d)
    exact ⟨h2.1.trans h1.1, h2.2.trans h1.2⟩
theorem pre_hand {av : Bool} {fs : List FD} {c : CD} {b : Bn} {j m : Nat} : (pre av fs c b j m).1.hand = b.hand ∧ (pre av fs c b j m).1.early = b.early := by
  unfold pre
  split
  · exact ⟨rfl, rfl⟩
  · split <;> exact ⟨rfl, rfl⟩
theorem pre_md {av : Bool} {fs : List FD} {c : CD} {b : Bn} {j m : Nat} : Md b (pre av fs c b j m).1 := by
  unfold pre
  split
  · exact md_new
  · split
    · exact md_new
    · exact Md.refl b
theorem pre_lt {av : Bool} {fs : List FD} {c : CD} {b : Bn} {j m : Nat} (hj : j < b.obs.length) : (pre av fs c b j m).2 < (pre av fs c b j m).1.obs.length ∧ ((b.ob j).mode.isSome = true → ((pre av fs c b j m).1.ob (pre av fs c b j m).2).mode.isSome = true) := by
  unfold pre
  split
  · exact ⟨by rw [len_new]; exact Nat.lt_succ_self _, fun _ => by rw [ob_new]; rfl⟩
  · split
    · exact ⟨by rw [len_new]; exact Nat.lt_succ_self _, fun _ => by rw [ob_new]; rfl⟩
    · exact ⟨hj, fun h => h⟩
theorem pre_w {av : Bool} {fs : List FD} {n A B C : Nat} {c : CD} {b : Bn} {j m : Nat} (h : W0 fs n A B C b) (hj : j < b.obs.length) (hm : m < n) : W0 fs n (A + fs.length) (B + 1) C (pre av fs c b j m).1 := by
  have om := ob_mem hj
  have g : ∀ same, Grown fs fs.length C b.lists (cp same fs (b.ob j).held b.lists) := fun same => cp_ok (h.held _ om) (h.hw _ om) h.wl h.ws
  have hm' : ∀ m', some m = some m' → m' < n := fun m' e => by cases e; exact hm
  unfold pre
  split
  · exact h.new (g _) hm'
  · split
    · exact h.new (g _) hm'
    · exact h.mono (Nat.le_add_right ..) (Nat.le_succ _) (Nat.le_refl _)
theorem mid_w {fs : List FD} {n A B C : Nat} {c : CD} {b : Bn} {j m : Nat} {wd : Str} (h : W0 fs n A B C b) (hj : j < b.obs.length) (hm : m < n) (nd : (fs.map (·.nm)).Nodup) (hd : ∀ d ∈ c.deeds, DeOk fs d) (hw : ∀ d ∈ c.deeds, d.1 = ("set" : Str) ∨ d.1 = ("add" : Str) → wordB wd = true) :
    W0 fs n (A + c.deeds.length) B (C + c.deeds.length) (mid fs c b j m wd) ∧ (mid fs c b j m wd).obs.length = b.obs.length := by
  have om := ob_mem hj
  have h1 : W0 fs n A B C (b.setMode j m) := h.set (h.held (b.ob j) om) (fun m' e => by cases e; exact hm) (h.hw (b.ob j) om)
  have := deeds_ok h1 (j := j) (by rw [show (b.setMode j m).obs.length = _ from len_setOb]; exact hj) nd hd hw c.deeds.length (Nat.le_refl _)
  rw [List.take_length] at this
  exact ⟨this.1, this.2.trans len_setOb⟩
theorem mid_md {fs : List FD} {c : CD} {b : Bn} {j m : Nat} {wd : Str} (hj : j < b.obs.length) (hm : (b.ob j).mode.isSome = true) : Md b (mid fs c b j m wd) :=
  (md_set (o := ⟨some m, (b.ob j).held⟩) hj (by rw [hm]; rfl)).trans (md_deeds (b := b.setMode j m) (by rw [show (b.setMode j m).obs.length = _ from len_setOb]; exact hj))
theorem mid_hand {fs : List FD} {c : CD} {b : Bn} {j m : Nat} {wd : Str} : (mid fs c b j m wd).hand = b.hand ∧ (mid fs c b j m wd).early = b.early := hand_deeds (b := b.setMode j m)
theorem fin_w {fs : List FD} {n A B C : Nat} {c : CD} {b : Bn} {j : Nat} (h : W0 fs n A B C b) (hj : j < b.obs.length) : W0 fs n (A + fs.length) (B + 1) C (fin fs c b j) := by
  have om := ob_mem hj
  have pu : ∀ {A B : Nat} {b : Bn} {x e}, W0 fs n A B C b → W0 fs n A B C (b.push x e) := fun h => ⟨h.held, h.mode, h.ll, h.ol, h.wl, h.ws, h.hw⟩
  unfold fin
  split
  · exact pu (h.new (cp_ok (h.held _ om) (h.hw _ om) h.wl h.ws) nofun)
  · exact pu (h.mono (Nat.le_add_right ..) (Nat.le_succ _) (Nat.le_refl _))
theorem fin_md {fs : List FD} {c : CD} {b : Bn} {j : Nat} : Md b (fin fs c b j) := by
  unfold fin
  split
  · exact ⟨md_new.len, md_new.md⟩
  · exact ⟨Nat.le_refl _, fun _ _ => rfl⟩
/-- what the row hands, and whether that is a maker -/
theorem fin_hand {fs : List FD} {c : CD} {b : Bn} {j : Nat} (hj : j < b.obs.length) (hm : (b.ob j).mode.isSome = true) : ∃ h e, (fin fs c b j).hand = b.hand ++ [some h] ∧ (fin fs c b j).early = b.early ++ [e] ∧ h < (fin fs c b j).obs.length ∧ ((fin fs c b j).ob h).mode.isSome = !decide (c.hand = ("last" : Str)) := by
  unfold fin
  split
  · rename_i q
    refine ⟨_, _, rfl, rfl, ?_, ?_⟩
    · show _ < (b.newOb none _).obs.length
      rw [len_new]
      exact Nat.lt_succ_self _
    · rw [ob_push, ob_new, decide_eq_true q]
      rfl
  · rename_i q
    refine ⟨j, none, rfl, rfl, hj, ?_⟩
    rw [ob_push, hm, decide_eq_false q]
    rfl
theorem callOf_mem {cs : List CD} {nm : Str} {c : CD} (h : callOf cs nm = some c) : c ∈ cs ∧ c.nm = nm := ⟨List.mem_of_find?_eq_some h, by
  have := List.find?_some h
  exact of_decide_eq_true this⟩
theorem takes_w {c : CD} {d : Str × Str} (m : d ∈ c.deeds) (h : d.1 = ("set" : Str) ∨ d.1 = ("add" : Str) ∨ d.1 = ("strike" : Str)) : c.takes = true := by
  unfold CD.takes
  rw [List.any_eq_true]
  refine ⟨d, m, ?_⟩
  rcases h with h | h | h
  · rw [h]; rfl
  · rw [h]; rfl
  · rw [h]; rfl
/-- a row's word, where its call takes one -/
theorem row_word {c : CD} {wd : Option Str} (h1 : wd.isSome = c.takes) (h2 : ∀ z, wd = some z → wordB z = true) : ∀ d ∈ c.deeds, d.1 = ("set" : Str) ∨ d.1 = ("add" : Str) → wordB (wd.getD Str.empty) = true := fun d m h => by
  have t := takes_w m (h.imp id Or.inl)
  rw [t] at h1
  cases wd with
  | none => cases h1
  | some z => exact h2 z rfl
theorem nextM_some {c : CD} {b : Bn} {k j m : Nat} (h : nextM c b k = some (j, m)) : b.hand[k]? = some (some j) ∧ (b.ob j).mode.isSome = true ∧ ∃ m0, (b.ob j).mode = some m0 ∧ c.moves.getD m0 (-1) = (m : Int) := by
  unfold nextM at h
  split at h
  · cases h
  · rename_i j' e
    split at h
    · cases h
    · rename_i m0 e2
      split at h
      · rename_i n e3
        cases h
        refine ⟨?_, by rw [e2]; rfl, m0, e2, e3⟩
        rw [List.getD_eq_getElem?_getD] at e
        cases q : b.hand[k]? with
        | none => rw [q] at e; cases e
        | some x => rw [q] at e; exact congrArg some e
      · cases h
theorem snoc_at {α : Type} {xs : List α} {x : α} {k : Nat} {y : α} (h : (xs ++ [x])[k]? = some y) : (k < xs.length ∧ xs[k]? = some y) ∨ (k = xs.length ∧ y = x) := by
  by_cases q : k < xs.length
  · rw [List.getElem?_append_left q] at h
    exact .inl ⟨q, h⟩
  · rw [List.getElem?_append_right (by omega)] at h
    have : k - xs.length = 0 := by
      have := (List.getElem?_eq_some_iff.mp h).1
      simp only [List.length_cons, List.length_nil] at this
      omega
    rw [this] at h
    cases h
    exact .inr ⟨by omega, rfl⟩
/-- one row more -/
theorem Wf.step {fs : List FD} {n : Nat} {cs : List CD} {rs : List Rw} {r : Rw} {b b' : Bn} {x : Option Nat} {e : Option (List Ct)} (h : Wf fs n cs rs b) (w : W0 fs n (10 * rs.length + 10) (2 * rs.length + 2) (4 * rs.length + 4) b') (md : Md b b') (hh : b'.hand = b.hand ++ [x]) (he : b'.early = b.early ++ [e])
    (hx : ∀ j, x = some j → j < b'.obs.length ∧ (b'.ob j).mode.isSome = !isLast cs r) : Wf fs n cs (rs ++ [r]) b' := by
  have l : (rs ++ [r]).length = rs.length + 1 := by rw [List.length_append]; rfl
  refine ⟨?_, ?_, ?_, fun k j hk => ?_, fun k r' j hr hk => ?_⟩
  · rw [l]
    exact w.mono (by omega) (by omega) (by omega)
  · rw [hh, l, List.length_append, h.hl]
    rfl
  · rw [he, l, List.length_append, h.el]
    rfl
  · rw [hh] at hk
    rcases snoc_at hk with ⟨_, hk⟩ | ⟨_, e⟩
    · exact Nat.lt_of_lt_of_le (h.hand k j hk) md.len
    · exact (hx j e.symm).1
  · rw [hh] at hk
    rcases snoc_at hk with ⟨q, hk⟩ | ⟨q, e⟩
    · rw [h.hl] at q
      rw [List.getElem?_append_left q] at hr
      rw [md.md j (h.hand k j hk)]
      exact h.mkr k r' j hr hk
    · rw [h.hl] at q
      rw [q, List.getElem?_append_right (Nat.le_refl _), Nat.sub_self] at hr
      cases hr
      exact (hx j e.symm).2
theorem W0.push {fs : List FD} {n A B C : Nat} {b : Bn} {x : Option Nat} {e : Option (List Ct)} (h : W0 fs n A B C b) : W0 fs n A B C (b.push x e) := ⟨h.held, h.mode, h.ll, h.ol, h.wl, h.ws, h.hw⟩
theorem move_lt {fs : List FD} {n : Nat} {c : CD} {m0 m : Nat} (h : CdOk fs n c) (e : c.moves.getD m0 (-1) = (m : Int)) : m < n := by
  rw [List.getD_eq_getElem?_getD] at e
  cases q : c.moves[m0]? with
  | none => rw [q] at e; cases e
  | some i =>
    rw [q] at e
    have e : i = (m : Int) := e
    have := h.move i (List.mem_of_getElem? q)
    omega
theorem Wf.row {av : Bool} {fs : List FD} {n : Nat} {cs : List CD} {rs : List Rw} {r : Rw} {b : Bn} (h : Wf fs n cs rs b) (ok : KdOk fs n cs) (hr : RwOk cs rs r) : Wf fs n cs (rs ++ [r]) (doRow av fs cs b r) := by
  have f3 := ok.fields.le
  have none_ : Wf fs n cs (rs ++ [r]) (b.push none none) := h.step (h.w.push.mono (by omega) (by omega) (by omega)) ⟨Nat.le_refl _, fun _ _ => rfl⟩ rfl rfl nofun
  cases r with
  | mk =>
    show Wf fs n cs _ ((b.newOb (some 0) (blank fs b.lists)).push (some b.obs.length) none)
    refine h.step (x := some b.obs.length) (e := none) ((h.w.new (blank_ok h.w.wl h.w.ws) fun m' e => by cases e; exact ok.pos).push.mono (by omega) (by omega) (by omega)) ⟨md_new.len, md_new.md⟩ rfl rfl fun j e => ?_
    cases e
    refine ⟨?_, ?_⟩
    · show _ < (b.newOb _ _).obs.length
      rw [len_new]
      exact Nat.lt_succ_self _
    · rw [ob_push, ob_new]
      rfl
  | call nm k wd =>
    obtain ⟨c, hc, ⟨r0, hr0, hl⟩, hw1, hw2⟩ := hr
    obtain ⟨cm, rfl⟩ := callOf_mem hc
    have cok := ok.calls c cm
    show Wf fs n cs _ (match callOf cs c.nm with | none => b.push none none | some c => (match nextM c b k with | none => b.push none none | some (j, m) => doCall av fs c b j m (wd.getD Str.empty)))
    rw [hc]
    dsimp only
    cases hn : nextM c b k with
    | none => exact none_
    | some jm =>
      obtain ⟨j, m⟩ := jm
      obtain ⟨hk, hs, m0, hm0, hmv⟩ := nextM_some hn
      have hj := h.hand k j hk
      have hm : m < n := move_lt cok hmv
      have p1 := pre_w (av := av) (c := c) h.w hj hm
      obtain ⟨p2, p3⟩ := pre_lt (av := av) (fs := fs) (c := c) (m := m) hj
      have p4 := pre_hand (av := av) (fs := fs) (c := c) (b := b) (j := j) (m := m)
      have p5 := pre_md (av := av) (fs := fs) (c := c) (b := b) (j := j) (m := m)
      show Wf fs n cs _ (fin fs c (mid fs c (pre av fs c b j m).1 (pre av fs c b j m).2 m (wd.getD Str.empty)) (pre av fs c b j m).2)
      generalize (pre av fs c b j m).1 = b1 at p1 p2 p3 p4 p5
      generalize (pre av fs c b j m).2 = j1 at p2 p3
      obtain ⟨q1, q2⟩ := mid_w (wd := wd.getD Str.empty) (c := c) p1 p2 hm ok.fields.nd cok.deed (row_word hw1 hw2)
      have q3 := mid_md (fs := fs) (c := c) (m := m) (wd := wd.getD Str.empty) p2 (p3 hs)
      have q4 := mid_hand (fs := fs) (c := c) (b := b1) (j := j1) (m := m) (wd := wd.getD Str.empty)
      generalize mid fs c b1 j1 m (wd.getD Str.empty) = b2 at q1 q2 q3 q4
      have hj2 : j1 < b2.obs.length := by rw [q2]; exact p2
      have hs2 : (b2.ob j1).mode.isSome = true := by rw [q3.md j1 p2]; exact p3 hs
      obtain ⟨x, e, r1, r2, r3, r4⟩ := fin_hand (fs := fs) (c := c) hj2 hs2
      have d4 := cok.deeds
      refine h.step (x := some x) (e := e) ((fin_w q1 hj2).mono (by omega) (by omega) (by omega)) (p5.trans (q3.trans fin_md)) ?_ ?_ fun j' e' => ?_
      · rw [r1, q4.1, p4.1]
      · rw [r2, q4.2, p4.2]
      · cases e'
        refine ⟨r3, ?_⟩
        rw [r4]
        show _ = !(match callOf cs c.nm with | some c => decide (c.hand = ("last" : Str)) | none => false)
        rw [hc]
end MK
set_option Elab.async false
set_option linter.all false
set_option autoImplicit false
set_option maxRecDepth 100000
set_option maxHeartbeats 1000000
namespace MK
open PySem PySem.Spec PyProof.Rows L2
inductive Ro where
  | la
  | ha
  | ea
  | ls (i : Nat)
  | ox (j : Nat)
  | os (j : Nat)
abbrev Rl := Addr → Option Ro
def Rl.put (rl : Rl) (p : Addr) (r : Ro) : Rl := fun a => if a = p then some r else rl a
def Sl.v : Sl → V
  | .w none => .non
  | .w (some z) => .str z
  | .l n => .int (n : Nat)
abbrev Rep := Option Nat → Addr → Addr → HO
abbrev Os := List (Addr × Addr × Addr)
def handV (os : Os) : Option Nat → V
  | none => .non
  | some j => .ref (os.getD j (0, 0, 0)).1
structure BnI (rep : Rep) (rl : Rl) (H : Hp) (la ha ea : Addr) (eo : HO) (ls : List Addr) (os : Os) (b : Bn) : Prop where
  live : ∀ a, rl a ≠ none → H a ≠ none
  lar : rl la = some .la
  har : rl ha = some .ha
  ear : rl ea = some .ea
  lah : H la = some (.lst (ls.map V.ref))
  hah : H ha = some (.lst (b.hand.map (handV os)))
  eah : H ea = some eo
  ll : ls.length = b.lists.length
  lsr : ∀ (i : Nat) a, ls[i]? = some a → rl a = some (.ls i)
  lsh : ∀ (i : Nat) a ws, ls[i]? = some a → b.lists[i]? = some ws → H a = some (.lst (ws.map V.str))
  ol : os.length = b.obs.length
  oxr : ∀ (j : Nat) x, os[j]? = some x → rl x.1 = some (.ox j)
  osr : ∀ (j : Nat) x, os[j]? = some x → rl x.2.1 = some (.os j)
  oxh : ∀ (j : Nat) x o, os[j]? = some x → b.obs[j]? = some o → H x.1 = some (rep o.mode x.2.1 x.2.2)
  osh : ∀ (j : Nat) x o, os[j]? = some x → b.obs[j]? = some o → H x.2.1 = some (.lst (o.held.map Sl.v))
  hj : ∀ j, some j ∈ b.hand → j < os.length
section
variable {rep : Rep} {rl : Rl} {H H1 : Hp} {la ha ea : Addr} {eo : HO} {ls : List Addr} {os : Os} {b : Bn}
theorem BnI.keep (h : BnI rep rl H la ha ea eo ls os b) (e : Same H H1) : BnI rep rl H1 la ha ea eo ls os b := { h with
  live := fun a n z => by
    cases q : H a with
    | none => exact h.live a n q
    | some o =>
      rw [e _ _ q] at z
      cases z
  lah := e _ _ h.lah
  hah := e _ _ h.hah
  eah := e _ _ h.eah
  lsh := fun i a ws h1 h2 => e _ _ (h.lsh i a ws h1 h2)
  oxh := fun j x o h1 h2 => e _ _ (h.oxh j x o h1 h2)
  osh := fun j x o h1 h2 => e _ _ (h.osh j x o h1 h2) }
theorem BnI.fresh (h : BnI rep rl H la ha ea eo ls os b) {p : Addr} (hp : H p = none) : rl p = none := by
  cases q : rl p with
  | none => rfl
  | some r => exact absurd hp (h.live p (by rw [q]; exact nofun))
theorem BnI.x {j : Nat} (h : BnI rep rl H la ha ea eo ls os b) (hj : j < b.obs.length) : ∃ x, os[j]? = some x ∧ H x.1 = some (rep (b.ob j).mode x.2.1 x.2.2) ∧ H x.2.1 = some (.lst ((b.ob j).held.map Sl.v)) ∧ handV os (some j) = .ref x.1 := by
  have hx : os[j]? = some (os[j]'(by rw [h.ol]; exact hj)) := List.getElem?_eq_getElem (by rw [h.ol]; exact hj)
  refine ⟨_, hx, h.oxh j _ _ hx (ob_get hj), h.osh j _ _ hx (ob_get hj), ?_⟩
  show V.ref (os.getD j _).1 = _
  rw [List.getD_eq_getElem?_getD, hx]
  rfl
theorem BnI.l {n : Nat} (h : BnI rep rl H la ha ea eo ls os b) (hn : n < b.lists.length) : ∃ a, ls[n]? = some a ∧ (ls.map V.ref)[n]? = some (.ref a) ∧ H a = some (.lst ((b.lists.getD n []).map V.str)) := by
  have hx : ls[n]? = some (ls[n]'(by rw [h.ll]; exact hn)) := List.getElem?_eq_getElem (by rw [h.ll]; exact hn)
  refine ⟨_, hx, by rw [List.getElem?_map, hx]; rfl, ?_⟩
  rw [List.getD_eq_getElem?_getD, List.getElem?_eq_getElem hn]
  exact h.lsh n _ _ hx (List.getElem?_eq_getElem hn)
end
end MK
set_option Elab.async false
set_option linter.all false
set_option autoImplicit false
set_option maxRecDepth 100000
set_option maxHeartbeats 1000000
namespace MK
open PySem PySem.Spec PyProof.Rows L2
def ItzLT (K : PySem.W.Frag) (a b : Addr) : It :=
  ⟨fun i H => ∃ (xs ys : List V) (x y : V), SqL K H a xs ∧ SqT K H b ys ∧ xs[i]? = some x ∧ ys[i]? = some y,
    fun i H v H' => ∃ T x y, v = .ref T ∧ H T = none ∧ H' = upd H T (.tup [x, y]) ∧ (∀ xs, SqL K H a xs → xs[i]? = some x) ∧ ∀ ys, SqT K H b ys → ys[i]? = some y,
    fun i H => ∃ xs ys : List V, SqL K H a xs ∧ SqT K H b ys ∧ i ≤ xs.length ∧ i ≤ ys.length ∧ (xs.length = i ∨ ys.length = i)⟩
theorem turn_zipLT {P : Program} {w : World} {K : PySem.W.Frag} {elts : List Expr} {kk : Nat} {tpos : Pos} {a b z TI TO i1 i2 : Addr} (S : ZipSep2 z TI TO i1 i2 [i1, a] [i2, b]) (na : a ≠ i1) (nb : b ≠ i2) :
    Turn P w K (.Tuple elts kk tpos) (ItzLT K a b) [z, TI, TO, i1, i2] z (fun i h => IsZip h z TI TO .none ∧ IsTupOf2 h TI (.ref i1) (.ref i2) ∧ (∃ x y, IsTupOf2 h TO x y) ∧ h.IsListIter i1 a i ∧ h.IsTupleIter i2 b i) where
  mem := by simp
  obj := fun i h st c hc => by
    obtain ⟨hz, hTI, ⟨x, y, hTO⟩, ⟨o1, e1, _, d1⟩, ⟨o2, e2, _, d2⟩⟩ := st
    have e' : c = z ∨ c = TI ∨ c = TO ∨ c = i1 ∨ c = i2 := by simpa using hc
    rcases e' with q | q | q | q | q
    · rw [q]; exact ⟨_, hz, fun v q => nomatch q⟩
    · rw [q]; exact ⟨_, hTI, fun v q => nomatch q⟩
    · rw [q]; exact ⟨_, hTO, fun v q => nomatch q⟩
    · rw [q]; exact ⟨o1, e1, fun v q => by rw [d1] at q; cases q⟩
    · rw [q]; exact ⟨o2, e2, fun v q => by rw [d2] at q; cases q⟩
  keep := fun i h h' st k => by
    obtain ⟨hz, hTI, ⟨x, y, hTO⟩, h1, h2⟩ := st
    exact ⟨k z (by simp) _ hz, k TI (by simp) _ hTI, ⟨x, y, k TO (by simp) _ hTO⟩, h1.at fun o q => k i1 (by simp) o q, h2.at fun o q => k i2 (by simp) o q⟩
  item := by
    intro X hP hw hK hc i pins s σ H E I hf st hg
    subst hP hw hK
    obtain ⟨hz, hTI, ⟨x0, y0, hTO⟩, h1, h2⟩ := st
    obtain ⟨xs, ys, x, y, hqx, hqy, hx, hy⟩ := hg
    obtain ⟨its, rv, p, _⟩ := I.list hqx
    obtain ⟨its2, rv2, p2, _⟩ := I.tuple hqy
    obtain ⟨u, hu, ru⟩ := rv.get hx
    obtain ⟨u2, hu2, ru2⟩ := rv2.get hy
    have hh : X.A.in1.handled = none := I.ok.hd hc
    have D1 := Draws.list (prog := X.prog) (w := X.w) hh i1 a na its.toArray
    have D2 := Draws.tuple (prog := X.prog) (w := X.w) hh i2 b nb its2.toArray
    have hzl : z < s.heap.objs.size := Heap.lt_size hz
    have hu' : its.toArray[i]? = some u := by simpa using hu
    have hu2' : its2.toArray[i]? = some u2 := by simpa using hu2
    refine wpAny_pyNext_zipD2_item S D1 D2 hz hTI hTO ⟨h1, p.isList⟩ ⟨h2, p2⟩ (Array.getElem?_eq_some_iff.mp hu').1 (Array.getElem?_eq_some_iff.mp hu2').1 fun v1 v2 h' tk hv1 hv2 z' TO' h1' h2' hT hsz hk => ?_
    obtain rfl : v1 = u := Option.some.inj ((show its.toArray[i]? = some v1 from hv1).symm.trans hu')
    obtain rfl : v2 = u2 := Option.some.inj ((show its2.toArray[i]? = some v2 from hv2).symm.trans hu2')
    refine ⟨_, rfl, wpAny_letOwnedTupleGo_zip (s := { s with heap := h', toks := tk }) z' fun h'' z'' sb => ?_⟩
    have hT2 : h''.get? s.heap.objs.size = some { cls := .type "tuple", data := .seq #[v1, v2] } := (sb.2 _ (Nat.ne_of_gt hzl)).trans hT
    have new : ObjOk X.prog X.w (upd H s.heap.objs.size (.tup [x, y])) h'' s.heap.objs.size (.tup [x, y]) :=
      ⟨by show 2 ≤ sizeLine; decide, [v1, v2], .cons ru (.cons ru2 .nil), ⟨_, hT2, rfl, _, rfl⟩⟩
    have I1 : Inv X pins σ (upd H s.heap.objs.size (.tup [x, y])) { s with heap := h'', toks := tk } :=
      I.turnedNew (t' := tk) (ch := [z, TI, TO, i1, i2]) (fun c o hb q => (sb.2 c (fun q' => hb (by simp [q']))).trans (hk c o (fun q' => hb (by simp [q'])) (fun q' => hb (by simp [q'])) (fun q' => hb (by simp [q'])) (fun q' => hb (by simp [q'])) q)) hf (Nat.le_refl _) new
    refine ⟨.ref s.heap.objs.size, _, I1, rfl, ⟨_, x, y, rfl, I.hok.fresh (Nat.le_refl _), rfl, fun l hl => by rw [I.list_inj hl hqx]; exact hx, fun l hl => by rw [I.tuple_inj hl hqy]; exact hy⟩, ⟨z'', ?_, ⟨v1, v2, ?_⟩, ?_, ?_⟩, fun c hcm => ?_⟩
    · exact (sb.2 _ S.TIz).trans (hk _ _ S.TIz S.TITO S.TIi1 S.TIi2 hTI)
    · exact (sb.2 _ S.TOz).trans TO'
    · exact h1'.1.at fun o q => (sb.2 _ (Ne.symm S.zi1)).trans q
    · exact h2'.1.at fun o q => (sb.2 _ (Ne.symm S.zi2)).trans q
    · have hlt : c < s.heap.objs.size := by
        have e' : c = z ∨ c = TI ∨ c = TO ∨ c = i1 ∨ c = i2 := by simpa using hcm
        rcases e' with q | q | q | q | q
        · rw [q]; exact hzl
        · rw [q]; exact Heap.lt_size hTI
        · rw [q]; exact Heap.lt_size hTO
        · rw [q]; obtain ⟨_, e1, _⟩ := h1; exact Heap.lt_size e1
        · rw [q]; obtain ⟨_, e2, _⟩ := h2; exact Heap.lt_size e2
      rw [upd_ne (Nat.ne_of_lt hlt)]
      exact (hf c hcm).1
  done := by
    intro X hP hw hK hc i pins s σ H E I hf st hg
    subst hP hw hK
    obtain ⟨hz, hTI, ⟨x0, y0, hTO⟩, h1, h2⟩ := st
    obtain ⟨xs, ys, hqx, hqy, l1, l2, hend⟩ := hg
    obtain ⟨its, rv, p, _⟩ := I.list hqx
    obtain ⟨its2, rv2, p2, _⟩ := I.tuple hqy
    have e1 := rv.length
    have e2 := rv2.length
    have hh : X.A.in1.handled = none := I.ok.hd hc
    have D1 := Draws.list (prog := X.prog) (w := X.w) hh i1 a na its.toArray
    have D2 := Draws.tuple (prog := X.prog) (w := X.w) hh i2 b nb its2.toArray
    exact wpAny_pyNext_zipD2_end S D1 D2 hz hTI hTO ⟨h1, p.isList⟩ ⟨h2, p2⟩ (by simp; omega) (by simp; omega) (by simp; omega) fun h' tk hk => ⟨rfl, I.turnedL (t' := tk) (ch := [z, TI, TO, i1, i2]) (fun c o hb q =>
      hk c o (fun q' => hb (by simp [q'])) (fun q' => hb (by simp [q'])) (fun q' => hb (by simp [q'])) (fun q' => hb (by simp [q'])) q) hf⟩
  self := fun A i s Q E st h => wpAny_pyIter_zip st.1 h
theorem apartLT (I l1 l2 : Nat) (h1 : l1 < I) (h2 : l2 < I) : ZipSep2 (I + 4) (I + 2) (I + 3) I (I + 1) [I, l1] [I + 1, l2] := by
  have ne : ∀ {x y : Nat}, x ≠ y → (show Addr from x) ≠ y := fun h => h
  have no : ∀ {x y z : Nat}, x ≠ y → x ≠ z → (show Addr from x) ∉ ([y, z] : List Addr) := fun h g m => by
    rcases List.mem_cons.mp m with e | m
    · exact h e
    · exact g (List.mem_singleton.mp m)
  exact ⟨ne (by omega), ne (by omega), ne (by omega), ne (by omega), List.mem_cons_self, no (by omega) (by omega), no (by omega) (by omega), ne (by omega), List.mem_cons_self, no (by omega) (by omega), no (by omega) (by omega), no (by omega) (by omega), no (by omega) (by omega)⟩
def iZipLT (K : PySem.W.Frag) (ta : TA) : TI := fun σ H R => ta σ H fun vs H1 => ∃ a b xs ys, vs = [.ref a, .ref b] ∧ SqL K H1 a xs ∧ SqT K H1 b ys ∧ R (ItzLT K a b) H1
theorem pi_zipLT {X : Cx} {e e2 : Expr} {ta : TA} {p pos tpos : Pos} {elts : List Expr} {kk : Nat} (hg : Gl X "zip") (hm : X.mg "zip" = none) (ha : PA X [e, e2] ta)
    (hs : starEach [e, e2] X.env = (false, eval e X.env) :: starEach [e2] X.env := by rfl) (hpl : (backTo pos (starEach [e2] X.env)).any (·.1) = false := by rfl) :
    PI X (.Tuple elts kk tpos) (.Call (.Name "zip" p) [e, e2] [] pos) (iZipLT X.K ta) := by
  refine ⟨fun pins s σ H R I h => ?_⟩
  refine Call_ (ld_blt I hg hm PyProof.Rows.boot_zip (PyProof.Rows.callWith_type1 (thn (ha.run pos pins s σ H _ I h) fun us s1 ⟨vs, H1, I1, r1, q1⟩ => ?_) hs hpl))
  obtain ⟨a, b, xs, ys, ex, hqx, hqy, q⟩ := q1
  subst ex
  cases r1 with
  | cons r rr =>
    cases rr with
    | cons r' rr =>
      cases rr
      cases r
      cases r'
      have fresh5 : ∀ c, c ∈ [s1.heap.objs.size + 4, s1.heap.objs.size + 2, s1.heap.objs.size + 3, s1.heap.objs.size, s1.heap.objs.size + 1] → FpOk X pins H1 c := fun c hcm => by
        have e' : c = s1.heap.objs.size + 4 ∨ c = s1.heap.objs.size + 2 ∨ c = s1.heap.objs.size + 3 ∨ c = s1.heap.objs.size ∨ c = s1.heap.objs.size + 1 := by simpa using hcm
        have hle : s1.heap.objs.size ≤ c := by
          rcases e' with z | z | z | z | z
          · rw [z]; exact Nat.le_add_right _ _
          · rw [z]; exact Nat.le_add_right _ _
          · rw [z]; exact Nat.le_add_right _ _
          · rw [z]; exact Nat.le_refl _
          · rw [z]; exact Nat.le_add_right _ _
        exact I1.fpOk hle (I1.hok.fresh hle)
      obtain ⟨its, rv, p1, _⟩ := I1.list hqx
      obtain ⟨its2, rv2, p2, _⟩ := I1.tuple hqy
      obtain ⟨o2, ho2, _⟩ := id p2
      have la : a < s1.heap.objs.size := p1.lt
      have lb : b < s1.heap.objs.size := Heap.lt_size ho2
      refine zip_begins2 (begins_list a its.toArray) (begins_tuple b its2.toArray) p1.isList p2 fun h' hz hTI hTO h1 h2 hsz hk => wpAny_pyIter_zip hz ?_
      have I2 : Inv X pins σ H1 { s1 with heap := h' } := I1.kept (t' := s1.toks) hk
      exact ⟨s1.heap.objs.size + 4, [s1.heap.objs.size + 4, s1.heap.objs.size + 2, s1.heap.objs.size + 3, s1.heap.objs.size, s1.heap.objs.size + 1], _, _, H1, rfl, I2, turn_zipLT (a := a) (b := b) (apartLT s1.heap.objs.size a b la lb) (Nat.ne_of_lt la) (Nat.ne_of_lt (Nat.lt_succ_of_lt lb)), ⟨hz, hTI, ⟨_, _, hTO⟩, ⟨_, h1, rfl, rfl⟩, ⟨_, h2, rfl, rfl⟩⟩, fresh5, q⟩
theorem walk_zipLT {K : PySem.W.Frag} {a b : Addr} {xs ys : List V} {n : Nat} (h1 : xs.length = n) (h2 : ys.length = n) : Walk (ItzLT K a b) n (fun H => SqL K H a xs ∧ SqT K H b ys) (YPair (fun i => xs[i]?) (fun i => ys[i]?)) := by
  refine ⟨fun i _ hi q => ⟨xs, ys, _, _, q.1, q.2, List.getElem?_eq_getElem (by omega), List.getElem?_eq_getElem (by omega)⟩, fun _ q => ⟨xs, ys, q.1, q.2, by omega, by omega, .inl h1⟩, fun i H v H' _ q y => ?_⟩
  obtain ⟨T, x, y, e1, e2, e3, e4, e5⟩ := y
  exact ⟨T, x, y, e1, e2, e3, e4 _ q.1, e5 _ q.2⟩
end MK
set_option Elab.async false
set_option linter.all false
set_option autoImplicit false
set_option maxRecDepth 100000
set_option maxHeartbeats 1000000
namespace MK
open PySem PySem.Spec PyProof.Rows L2
theorem upd_upd {H : Hp} {a : Addr} {x y : HO} : upd (upd H a x) a y = upd H a y := funext fun c => by
  by_cases q : c = a
  · rw [q, upd_same, upd_same]
  · rw [upd_ne q, upd_ne q, upd_ne q]
end MK
set_option Elab.async false
set_option linter.all false
set_option autoImplicit false
set_option maxRecDepth 100000
set_option maxHeartbeats 1000000
namespace MK
open PySem PySem.Spec PyProof.Rows L2
/-- lists by their addresses: L holds those of the items of xs, item by item -/
def AlL {α : Type} (R : V → α → List Addr → Prop) : List V → List α → List Addr → Prop
  | [], [], L => L = []
  | x :: xs, y :: ys, L => ∃ L1 L2, L = L1 ++ L2 ∧ R x y L1 ∧ AlL R xs ys L2
  | _, _, _ => False
theorem AlL.snoc {α : Type} {R : V → α → List Addr → Prop} : ∀ {xs : List V} {ys : List α} {L : List Addr} {x : V} {y : α} {L1 : List Addr}, AlL R xs ys L → R x y L1 → AlL R (xs ++ [x]) (ys ++ [y]) (L ++ L1)
  | [], [], L, x, y, L1, h, r => ⟨L1, [], by rw [show L = [] from h]; simp, r, rfl⟩
  | a :: xs, b :: ys, L, x, y, L1, ⟨M1, M2, e, r1, h⟩, r => ⟨M1, M2 ++ L1, by rw [e, List.append_assoc], r1, h.snoc r⟩
  | [], _ :: _, _, _, _, _, h, _ => h.elim
  | _ :: _, [], _, _, _, _, h, _ => h.elim
theorem AlL.mono {α : Type} {R S : V → α → List Addr → Prop} (f : ∀ x y L, R x y L → S x y L) : ∀ {xs : List V} {ys : List α} {L : List Addr}, AlL R xs ys L → AlL S xs ys L
  | [], [], _, h => h
  | _ :: _, _ :: _, _, ⟨M1, M2, e, r, h⟩ => ⟨M1, M2, e, f _ _ _ r, h.mono f⟩
  | [], _ :: _, _, h => h.elim
  | _ :: _, [], _, h => h.elim
theorem AlL.len {α : Type} {R : V → α → List Addr → Prop} : ∀ {xs : List V} {ys : List α} {L : List Addr}, AlL R xs ys L → xs.length = ys.length
  | [], [], _, _ => rfl
  | _ :: _, _ :: _, _, ⟨_, _, _, _, h⟩ => congrArg Nat.succ h.len
  | [], _ :: _, _, h => h.elim
  | _ :: _, [], _, h => h.elim
/-- what is told of a slot: a word or nothing, or a list of its own -/
def CtW (H : Hp) (v : V) (c : Ct) (L : List Addr) : Prop := match c with
  | .w o => v = (Sl.w o).v ∧ L = []
  | .l ws => ∃ a, v = .ref a ∧ H a = some (.lst (ws.map V.str)) ∧ L = [a]
theorem CtW.keep {H H' : Hp} {v : V} {c : Ct} {L : List Addr} (e : Same H H') (h : CtW H v c L) : CtW H' v c L := by
  cases c with
  | w o => exact h
  | l ws =>
    obtain ⟨a, h1, h2, h3⟩ := h
    exact ⟨a, h1, e _ _ h2, h3⟩
/-- a list of what is told: its addresses -/
def CsW (H : Hp) (p : Addr) (cts : List Ct) (L : List Addr) : Prop := ∃ (cvs : List V) (M : List Addr), H p = some (.lst cvs) ∧ AlL (CtW H) cvs cts M ∧ L = p :: M ∧ (p :: M).Nodup
theorem CsW.keep {H H' : Hp} {p : Addr} {cts : List Ct} {L : List Addr} (e : Same H H') (h : CsW H p cts L) : CsW H' p cts L := by
  obtain ⟨cvs, M, h1, h2, h3⟩ := h
  exact ⟨cvs, M, e _ _ h1, h2.mono fun _ _ _ h => h.keep e, h3⟩
theorem sl_sqA {X : Cx} {K : PySem.W.Frag} (h : X.K = K) : SlR X (fun x lo hi H Q => rSlL K x lo hi H Q ∨ rSlA K x lo hi H Q) := by
  subst h
  exact fun pins s σ H x v vl vu lo hi sl Q I r hs h1 h2 h => h.elim (sl_list pins s σ H x v vl vu lo hi sl Q I r hs h1 h2) (sl_tupA pins s σ H x v vl vu lo hi sl Q I r hs h1 h2)
end MK
set_option Elab.async false
set_option linter.all false
set_option autoImplicit false
set_option maxRecDepth 100000
set_option maxHeartbeats 1000000
namespace MK
open PySem PySem.Spec PyProof.Rows L2 ItX
end MK
set_option Elab.async false
set_option linter.all false
set_option autoImplicit false
set_option maxRecDepth 100000
set_option maxHeartbeats 1000000
namespace MK
open PySem PySem.Spec PyProof.Rows L2
end MK
set_option Elab.async false
set_option linter.all false
set_option autoImplicit false
set_option maxRecDepth 100000
set_option maxHeartbeats 1000000
namespace MK
open PySem PySem.Spec PyProof.Rows L2
structure FunU (K : PySem.W.Frag) (x qual : Str) (st : Stmt) (f : Addr) (fd : FuncData) : Prop where
  ex : ∃ (oc : Value) (od : Option Addr) (dV kV doc pm : Value) (an : Option Addr) (cdv ct : Value) (osl : Array (Option Value)),
    fd = PySem.W.fnOf x qual (defArgs st) (defBody st) (defScope st) dV kV doc pm an cdv ct ∧ K.lookup f = some ⟨oc, od, .func fd, osl⟩ ∧ PySem.W.codeIn K cdv qual = true
theorem FunU.of {K : PySem.W.Frag} {x qual : Str} {st : Stmt} {f : Addr} {fd : FuncData} {dvs : List V} {kws : List (Str × V)} (F : FunD K x qual (defArgs st) (defBody st) (defScope st) dvs kws f fd) : FunU K x qual st f fd := by
  obtain ⟨oc, od, dV, kV, doc, pm, an, cdv, ct, osl, e, l, c, _, _⟩ := F.ex
  exact ⟨oc, od, dV, kV, doc, pm, an, cdv, ct, osl, e, l, c⟩
section
variable {P : Program} {w : World} {K : PySem.W.Frag} {mg : Str → Option Value} {base : Heap}
theorem FunU.ok {x qual : Str} {st : Stmt} {f : Addr} {fd : FuncData} {N ps : List Str} {k : Nat} {sp : Sp} (F : FunU K x qual st f fd) (S : FnScope N ps (defScope st)) (len : ∀ vs H Q E, sp vs H Q E → vs.length = ps.length)
    (hbody : ∀ (cdv : Value) (A : Around) (outer : List Env) (s : Shared) (H : Hp) (vs : List V) (Q : VK) (E : XK), Room k (A.deeper (envOfC qual (defScope st) s.heap.objs.size f cdv)) → sp vs H Q E →
      ∃ t, PSs (cxOf CX0 P w K mg base N qual (defScope st) f cdv A outer s H E).nox (defBody st) t ∧ t { nx := fun _ H' => Q .non H', rt := Q } (start N vs) H) : FnOk P w K mg base CX0 (k + 1) f fd ps sp := by
  obtain ⟨oc, od, dV, kV, doc, pm, an, cdv, ct, osl, rfl, lk, hcd⟩ := F.ex
  refine fn_of lk hcd S len fun A outer s H vs Q E hr hsp => ?_
  obtain ⟨t, h, q⟩ := hbody cdv A outer s H vs Q E hr hsp
  exact ⟨t, h.nox, q⟩
end
/-- all is written: none of the defaults -/
theorem mak_all {P : Program} {w : World} {K : PySem.W.Frag} {mg : Str → Option Value} {base : Heap} {k : Nat} {x : Str} {C f : Addr} {fd : FuncData} {ps : List Str} {sp : Sp} (M : Mk K C f) (F : FnOk P w K mg base CX0 k f fd ps sp) (g : mg x = some (.ref C)) (b : ∃ ds, Vals [] ds ∧ Binds K fd ps ds) : C8.Mak P w K mg base k x C sp [] := by
  obtain ⟨ds, r, b⟩ := b
  exact ⟨f, fd, ps, ds, M, F, g, b, r⟩
end MK
set_option Elab.async false
set_option linter.all false
set_option autoImplicit false
set_option maxRecDepth 100000
set_option maxHeartbeats 1000000
namespace MK
open PySem PySem.Spec PyProof.Rows L2
/-- what an object names: a code's fields are left out (the law's table of codes is not to be held) -/
def refsM (o : Obj) : List Addr := He.refV o.cls ++ match o.data with
  | .seq its _ => its.toList.flatMap He.refV
  | .dict es _ => es.toList.flatMap fun e => He.refV e.val
  | .func fd => He.refV fd.code ++ He.refV fd.defaults
  | .cls cd => cd.ns :: cd.mro.flatMap He.refV
  | .fields vs => (match o.cls with
    | .type "staticmethod" => vs.toList.flatMap He.refV
    | _ => [])
  | _ => []
/-- m: a set of addresses as bits -/
def newM (m : Nat) : List Addr → List Addr → (Nat → List Addr → List Addr) → List Addr
  | [], acc, k => k m acc
  | a :: r, acc, k => match Nat.beq (Nat.land (Nat.shiftRight m a) 1) 1 with
    | true => newM m r acc k
    | false => HandSHeadRun.frNat (Nat.lor m (Nat.shiftLeft 1 a)) fun m2 => newM m2 r (a :: acc) k
def growM (g : Addr → Option Obj) : Nat → Nat → List Addr → List Addr → List Addr
  | 0, _, _, all => all
  | n + 1, m, fr, all => newM m (fr.flatMap fun a => match g a with
    | some o => refsM o
    | none => []) [] fun m2 nw => growM g n m2 nw (all ++ nw)
def asM (g : Addr → Option Obj) (n : Nat) : List Addr := growM g n (Nat.shiftLeft 1 mainGlobals) [mainGlobals] [mainGlobals] ++ [cStatics]
abbrev BsM : Type := List (List (PySem.W.Frag → Bool))
abbrev DsM : Type := List (List He5.DefA)
abbrev AlM : Type := Bool × List (List He.FnW) × List (Option (List (Option (Str × Int))))
def obsM (bs : BsM) (fn : DsM) (ts : List He.Tab) (K : PySem.W.Frag) : AlM := ((bs.all fun l => l.all fun f => f K) && fn.all fun l => l.all fun d => d.ok K, fn.map fun l => l.map fun d => He5.fnA K (d.at_ K), ts.map fun t => He.dicW K (t.1 K))
def valM (fn : DsM) (ts : List He.Tab) (w : World) : AlM := (true, fn.map fun l => l.map He5.DefA.val, ts.map fun t => some (He.keysIn w.params t.2))
def SaysM (bs : BsM) (fn : DsM) (ts : List He.Tab) (w : World) (K : PySem.W.Frag) : Prop := obsM bs fn ts K = valM fn ts w
def obsMG (n : Nat) (bs : BsM) (fn : DsM) (ts : List He.Tab) (g : Addr → Option Obj) : AlM := obsM bs fn ts (He.frG g (asM g n))
def hookM (n : Nat) (bs : BsM) (fn : DsM) (ts : List He.Tab) : PySem.W.Hook where
  α := AlM
  obs := fun s => obsMG n bs fn ts s.heap.get?
  val := fun w => valM fn ts w
  says := fun w h => ∃ K : PySem.W.Frag, K.In h ∧ SaysM bs fn ts w K
  of := fun _ _ e => ⟨_, He.frG_in, e⟩
  keeps := fun _ _ _ ⟨K, hK, c⟩ k => ⟨K, PySem.W.Frag.In.keeps hK k, c⟩
theorem obsMG_eq {n : Nat} {bs : BsM} {fn : DsM} {ts : List He.Tab} {g : Addr → Option Obj} {s : Shared} (h : ∀ a, g a = s.heap.get? a) : obsMG n bs fn ts g = (hookM n bs fn ts).obs s := by
  have e : g = s.heap.get? := funext h
  rw [e] <;> rfl
section
variable {bs : BsM} {fn : DsM} {ts : List He.Tab} {w : World} {K : PySem.W.Frag}
theorem SaysM.f (c : SaysM bs fn ts w K) (j i : Nat) {l : List (PySem.W.Frag → Bool)} {f : PySem.W.Frag → Bool} (h : bs[j]? = some l) (h2 : l[i]? = some f) : f K = true := by
  have c1 := (He.ba (show ((bs.all fun l => l.all fun f => f K) && fn.all fun l => l.all fun d => d.ok K) = true from congrArg (fun z : AlM => z.1) c)).1
  exact List.all_eq_true.mp (List.all_eq_true.mp c1 l (List.mem_of_getElem? h)) f (List.mem_of_getElem? h2)
theorem SaysM.d (c : SaysM bs fn ts w K) (j i : Nat) {l : List He5.DefA} {d : He5.DefA} (h : fn[j]? = some l) (h2 : l[i]? = some d) : ∃ fd, FunD K d.name d.qual d.params d.body d.scope (d.dvs K) (d.kws K) (d.at_ K) fd := by
  have c2 := (He.ba (show ((bs.all fun l => l.all fun f => f K) && fn.all fun l => l.all fun d => d.ok K) = true from congrArg (fun z : AlM => z.1) c)).2
  have e : (fn.map fun l => l.map fun d => He5.fnA K (d.at_ K)) = fn.map fun l => l.map He5.DefA.val := congrArg (fun z : AlM => z.2.1) c
  have e2 : (fn.map fun l => l.map fun d => He5.fnA K (d.at_ K))[j]? = (fn.map fun l => l.map He5.DefA.val)[j]? := by rw [e]
  rw [List.getElem?_map, List.getElem?_map, h] at e2
  have e3 : l.map (fun d => He5.fnA K (d.at_ K)) = l.map He5.DefA.val := Option.some.inj e2
  have e4 : (l.map fun d => He5.fnA K (d.at_ K))[i]? = (l.map He5.DefA.val)[i]? := by rw [e3]
  rw [List.getElem?_map, List.getElem?_map, h2] at e4
  exact He5.DefA.funD (Option.some.inj e4) (List.all_eq_true.mp (List.all_eq_true.mp c2 l (List.mem_of_getElem? h)) d (List.mem_of_getElem? h2))
theorem SaysM.t (c : SaysM bs fn ts w K) (i : Nat) {t : He.Tab} (h : ts[i]? = some t) : He.dicW K (t.1 K) = some (He.keysIn w.params t.2) := by
  have e : ts.map (fun t => He.dicW K (t.1 K)) = ts.map fun t => some (He.keysIn w.params t.2) := congrArg (fun z : AlM => z.2.2) c
  have e2 : (ts.map fun t => He.dicW K (t.1 K))[i]? = (ts.map fun t => some (He.keysIn w.params t.2))[i]? := by rw [e]
  rw [List.getElem?_map, List.getElem?_map, h] at e2
  exact Option.some.inj e2
end
/-- the object that a dict's text key stands for -/
def da (K : PySem.W.Frag) (a : Addr) (z : Str) : Addr := match PySem.W.nsIn K a z with
  | some (some (.ref b)) => b
  | _ => 0
def intB (K : PySem.W.Frag) (x : Str) (n : Int) : Bool := match PySem.W.nsIn K mainGlobals x with
  | some (some (.int j _)) => decide (j = n)
  | _ => false
theorem intB_ok {K : PySem.W.Frag} {x : Str} {n : Int} (h : intB K x n = true) : ∃ t, PySem.W.nsIn K mainGlobals x = some (some (.int n t)) := by
  unfold intB at h
  cases e : PySem.W.nsIn K mainGlobals x with
  | none =>
    rw [e] at h
    cases h
  | some o =>
    rw [e] at h
    cases o with
    | none => cases h
    | some v => cases v with
      | int j t => exact ⟨t, by rw [of_decide_eq_true (show decide (j = n) = true from h)]⟩
      | _ => cases h
theorem def_mkE {K : PySem.W.Frag} {h : Heap} {mg : Str → Option Value} {x : Str} {st : Stmt} {ps : List Str} {f : Addr} {fd : FuncData} (X : K.In h) (G : h.Ns mainGlobals mg) (a : PySem.W.nsIn K mainGlobals x = some (some (.ref f)))
    (D : FunD K x x (defArgs st) (defBody st) (defScope st) [] [] f fd)
    (b : ∀ (kV doc pm : Value) (an : Option Addr) (cdv ct : Value) (us : List Value), us.length = ps.length → bindArgs (PySem.W.fnOf x x (defArgs st) (defBody st) (defScope st) .none kV doc pm an cdv ct) ⟨us, []⟩ = pure (ps.zip us)) : DefX K mg x st ps f fd :=
  ⟨He5.fun_of D, PySem.W.mg_of X G a, D.bindsN b⟩
theorem fn_isD {K : PySem.W.Frag} {x qual : Str} {params : Arguments} {body : List Stmt} {scope : Scope} {f : Addr} {fd : FuncData} (D : FunD K x qual params body scope [] [] f fd) :
    ∃ (kV doc pm : Value) (an : Option Addr) (cdv ct : Value), fd = PySem.W.fnOf x qual params body scope .none kV doc pm an cdv ct := by
  obtain ⟨oc, od, dV, kV, doc, pm, an, cdv, ct, osl, e, l, cc, hd, _⟩ := D.ex
  rcases hd with ⟨_, e2⟩ | ⟨e2, _⟩
  · subst e2
    exact ⟨kV, doc, pm, an, cdv, ct, e⟩
  · exact absurd rfl e2
/-- a law of no codes -/
theorem walk_plE {l : PySem.W.OpenLaw} {k : Nat} {q : Program} {loose : List Str} {XP : (Str → Option Value) → Heap → Prop} {YP : World → Heap → Prop} {d : DefRec} {x : Str}
    (hn : l.most = some 63) (hdf : d.params.defaults = []) (hr : Room k callerA) (hd : d.name = ("law" : Str))
    (F : ∀ (w : World) (mg : Str → Option Value) (fa : Addr) (h : Heap), YP w h → h.Ns mainGlobals mg → mg ("law" : Str) = some (.ref fa) → ∃ K : PySem.W.Frag, K.In h ∧
      ∃ (fd : FuncData) (sp : Sp), (∀ (s : Shared) (u : Value), BindsTo s fd ⟨[u], []⟩ [(x, u)]) ∧
        (∀ (H : Hp) (a : Addr) (ns : List Int), ns.length ≤ 63 → SqL K H a (ns.map V.int) → sp [.ref a] H (fun v _ => v = .bl true) fun _ _ _ => False) ∧
        ∀ base : Heap, K.In base → base.Ns mainGlobals mg → FnOk l.prog w K mg base CX0 k fa fd [x] sp) :
    PySem.W.WalkO q loose XP YP l.row.toRowW d [] (fun f vs => PySem.call f vs) := by
  refine L2.walk_ofE (n := 63) (k := k) (x := x) (CX := CX0) hn (by decide) hdf hr (fun w mg fa h Y G hmg => ?_) (fun _ _ _ _ z => z)
  rw [hd] at hmg
  obtain ⟨K, KX, fd, sp, hb, hsp, hF⟩ := F w mg fa h Y G hmg
  exact ⟨K, fd, sp, KX, hb, fun H a ns hl _ hS => hsp H a ns hl hS, hF⟩
end MK
set_option Elab.async false
set_option linter.all false
set_option autoImplicit false
set_option maxRecDepth 100000
set_option maxHeartbeats 1000000
namespace MK
open PySem PySem.Spec PyProof.Rows L2
def nameC (cs : List CD) : Dt → Option CD
  | .str nm => callOf cs nm
  | _ => none
/-- whether a row stands at k that one may call on -/
def okAt (cs : List CD) (rs : List Rw) (k : Nat) : Bool := match rs[k]? with
  | some r => !isLast cs r
  | none => false
def numK (cs : List CD) (rs : List Rw) : Dt → Option Nat
  | .int i => if 0 ≤ i ∧ okAt cs rs i.toNat = true then some i.toNat else none
  | _ => none
def wordR (c : CD) (nm : Str) (k : Nat) : List Dt → Option Rw
  | [] => if c.takes = true then none else some (.call nm k none)
  | [.str z] => if c.takes = true ∧ wordB z = true then some (.call nm k (some z)) else none
  | _ => none
def makeR : Dt → Option Rw
  | .str z => if z = "make" then some .mk else none
  | _ => none
def strOf : Dt → Str
  | .str z => z
  | _ => ""
def rwLx (cs : List CD) (rs : List Rw) : List Dt → Option Rw
  | [] => none
  | [x] => makeR x
  | x :: y :: rest => match nameC cs x with
    | none => none
    | some c => match numK cs rs y with
      | none => none
      | some k => wordR c (strOf x) k rest
/-- the row that data is, behind these -/
def rwD (cs : List CD) (rs : List Rw) (d : Dt) : Option Rw := match sqD d with
  | some xs => rwLx cs rs xs
  | none => none
theorem numK_at {cs : List CD} {rs : List Rw} {d : Dt} {k : Nat} (h : numK cs rs d = some k) : d = .int (k : Nat) ∧ ∃ r, rs[k]? = some r ∧ isLast cs r = false := by
  cases d with
  | int i =>
    simp only [numK] at h
    split at h
    · rename_i g
      cases h
      refine ⟨congrArg Dt.int (Int.toNat_of_nonneg g.1).symm, ?_⟩
      have g2 := g.2
      unfold okAt at g2
      split at g2
      · rename_i r e
        exact ⟨r, e, by simpa using g2⟩
      · cases g2
    · cases h
  | _ => cases h
theorem nameC_at {cs : List CD} {d : Dt} {c : CD} (h : nameC cs d = some c) : d = .str (strOf d) ∧ callOf cs (strOf d) = some c := by
  cases d with
  | str z => exact ⟨rfl, h⟩
  | _ => cases h
theorem makeR_at {d : Dt} {r : Rw} (h : makeR d = some r) : d = .str "make" ∧ r = .mk := by
  cases d with
  | str z =>
    simp only [makeR] at h
    split at h
    · rename_i g
      cases h
      exact ⟨by rw [g], rfl⟩
    · cases h
  | _ => cases h
theorem wordR_at {c : CD} {nm : Str} {k : Nat} {xs : List Dt} {r : Rw} (h : wordR c nm k xs = some r) : ∃ wd : Option Str, r = .call nm k wd ∧ wd.isSome = c.takes ∧ (∀ z, wd = some z → wordB z = true) ∧ xs = match wd with
    | none => []
    | some z => [.str z] := by
  match xs, h with
  | [], h =>
    simp only [wordR] at h
    split at h
    · cases h
    · rename_i g
      cases h
      exact ⟨none, rfl, by rw [Bool.not_eq_true] at g; rw [g]; rfl, nofun, rfl⟩
  | [.str z], h =>
    simp only [wordR] at h
    split at h
    · rename_i g
      cases h
      exact ⟨some z, rfl, by rw [g.1]; rfl, fun y e => by cases e; exact g.2, rfl⟩
    · cases h
  | [.non], h => cases h
  | [.bl _], h => cases h
  | [.int _], h => cases h
  | [.lst _], h => cases h
  | [.tup _], h => cases h
  | [.dic], h => cases h
  | _ :: _ :: _, h => simp [wordR] at h
def RwDs : Rw → List Dt
  | .mk => [.str "make"]
  | .call nm k none => [.str nm, .int (k : Nat)]
  | .call nm k (some z) => [.str nm, .int (k : Nat), .str z]
theorem rwD_at {cs : List CD} {rs : List Rw} {d : Dt} {r : Rw} (h : rwD cs rs d = some r) : RwOk cs rs r ∧ sqD d = some (RwDs r) := by
  unfold rwD at h
  cases hq : sqD d with
  | none => rw [hq] at h; cases h
  | some xs =>
    rw [hq] at h
    match xs, h with
    | [], h => cases h
    | [x], h =>
      obtain ⟨rfl, rfl⟩ := makeR_at h
      exact ⟨trivial, rfl⟩
    | x :: y :: rest, h =>
      simp only [rwLx] at h
      cases hn : nameC cs x with
      | none => rw [hn] at h; cases h
      | some c =>
        rw [hn] at h
        cases hk : numK cs rs y with
        | none => rw [hk] at h; cases h
        | some k =>
          rw [hk] at h
          obtain ⟨wd, rfl, tk, wok, e⟩ := wordR_at h
          obtain ⟨rfl, r', hr', hl⟩ := numK_at hk
          obtain ⟨ex, hc⟩ := nameC_at hn
          refine ⟨⟨c, hc, ⟨r', hr', hl⟩, tk, wok⟩, congrArg some ?_⟩
          cases wd with
          | none =>
            show x :: _ :: rest = _
            rw [e]
            exact congrArg (· :: _) ex
          | some z =>
            show x :: _ :: rest = _
            rw [e]
            exact congrArg (· :: _) ex
/-- the first of ds are these rows -/
structure PreR (cs : List CD) (ds : List Dt) (rs : List Rw) : Prop where
  le : rs.length ≤ ds.length
  all : ∀ (j : Nat) r, rs[j]? = some r → ∃ d, ds[j]? = some d ∧ rwD cs (rs.take j) d = some r
theorem PreR.ok {cs : List CD} {ds : List Dt} {rs : List Rw} (h : PreR cs ds rs) : RwsOk cs rs := fun j r hr => by
  obtain ⟨d, _, hd⟩ := h.all j r hr
  exact (rwD_at hd).1
end MK
set_option Elab.async false
set_option linter.all false
set_option autoImplicit false
set_option maxRecDepth 100000
set_option maxHeartbeats 1000000
namespace MK
open PySem PySem.Spec PyProof.Rows L2
theorem op_inDTK {X : Cx} {K : PySem.W.Frag} {A : Around} (hk : X.K = K) (ha : X.A = A) (hu : A.units + 65 < cLine) : OpR X (compareOp .In) (rInDT K) := by
  subst hk ha
  exact op_inDT hu
end MK
set_option Elab.async false
set_option linter.all false
set_option autoImplicit false
set_option maxRecDepth 100000
set_option maxHeartbeats 1000000
namespace L2
open PySem PySem.Spec PyProof.Rows
end L2
namespace MK
open PySem PySem.Spec PyProof.Rows L2
end MK
set_option Elab.async false
set_option linter.all false
set_option autoImplicit false
set_option maxRecDepth 100000
set_option maxHeartbeats 1000000
namespace MK
open PySem PySem.Spec PyProof.Rows L2
end MK
set_option Elab.async false
set_option linter.all false
set_option autoImplicit false
set_option maxRecDepth 100000
set_option maxHeartbeats 2000000
namespace MK
open PySem PySem.Spec PyProof.Rows L2
/-- the table at B; none of the codes it tells of lies in Z -/
def TabZ (Z : Addr → Prop) (H : Hp) (B : Addr) (q : Str) : Prop := ∃ tb : Array Value, H B = some (.tbl tb) ∧ TriplesOk tb.toList ∧ ∀ (at_ : Pos) (v : Value), codeAmong at_ tb.toList = some v → ∃ k, v = .ref k ∧ H k = some (LamX.CodeO k q) ∧ ¬ Z k
theorem TabZ.nil {Z : Addr → Prop} {H : Hp} {B : Addr} {q : Str} (h : H B = some (.tbl #[])) : TabZ Z H B q := ⟨#[], h, True.intro, fun at_ v hv => by
  have z : codeAmong at_ [] = some v := hv
  simp [codeAmong] at z⟩
/-- what is no table, and lies not in Z, is as it was -/
theorem TabZ.step {Z Z' : Addr → Prop} {H H' : Hp} {B : Addr} {q : Str} (h : TabZ Z H B q) (hB : H' B = H B) (e : ∀ b, H b = some (LamX.CodeO b q) → ¬ Z b → H' b = some (LamX.CodeO b q) ∧ ¬ Z' b) : TabZ Z' H' B q := by
  obtain ⟨tb, h1, h2, h3⟩ := h
  refine ⟨tb, hB.trans h1, h2, fun at_ v hv => ?_⟩
  obtain ⟨k, e1, e2, e3⟩ := h3 at_ v hv
  obtain ⟨g1, g2⟩ := e k e2 e3
  exact ⟨k, e1, g1, g2⟩
end MK
set_option Elab.async false
set_option linter.all false
set_option autoImplicit false
set_option maxRecDepth 100000
set_option maxHeartbeats 2000000
namespace MK
open PySem PySem.Spec PyProof.Rows L2
abbrev NRaw := List (NestedKey × Addr × Value)
/-- the object of such a dict -/
structure GoodN (P : Program) (w : World) (o : Obj) (xs : NRaw) : Prop where
  ex : o.ExactDict
  ent : ∃ es ep, o.data = .dict es ep ∧ es.toList = xs.map (entryOfKey (nestedKind P w))
  nd : (xs.map (·.1)).Nodup
  sz : xs.length ≤ sizeLine
def DnO (P : Program) (w : World) (a : Addr) (o : Obj) (xs : NRaw) : HO := .ext fun h => h.get? a = some o ∧ GoodN P w o xs ∧ (a == sysModules) = false
/-- the value is the key -/
inductive Nk (K : PySem.W.Frag) (H : Hp) : NestedKey → V → Prop
  | non : Nk K H .none .non
  | int (i : Int) : Nk K H (.num i) (.int i)
  | str (z : Str) : Nk K H (.text z) (.str z)
  | tup {a : Addr} {xs : List V} {ks : List NestedKey} : SqT K H a xs → xs.length = ks.length → (∀ (i : Nat) k x, ks[i]? = some k → xs[i]? = some x → Nk K H k x) → Nk K H (.tup ks) (.ref a)
theorem Nk.keep {K : PySem.W.Frag} {H H' : Hp} (e : Same H H') {k : NestedKey} {v : V} (h : Nk K H k v) : Nk K H' k v := by
  induction h with
  | non => exact .non
  | int i => exact .int i
  | str z => exact .str z
  | tup ha hl _ ih => exact .tup (same_t e ha) hl ih
theorem nestedAll_of {h : Heap} : ∀ {ks : List NestedKey} {xs : List V} {us : List Value}, Vals xs us → xs.length = ks.length → (∀ (i : Nat) k x u, ks[i]? = some k → xs[i]? = some x → RelV x u → NestedIs h k u) → NestedAll h ks us
  | [], [], _, .nil, _, _ => .nil
  | k :: ks, x :: xs, _, .cons r t, hl, f => .cons (f 0 k x _ rfl rfl r) (nestedAll_of t (Nat.succ.inj hl) fun i k x u h1 h2 r => f (i + 1) k x u h1 h2 r)
section
variable {X : Cx} {pins : List (Addr × Obj)} {σ : L2.St} {H : Hp} {s : Shared}
theorem Nk.is (I : Inv X pins σ H s) {k : NestedKey} {v : V} (h : Nk X.K H k v) : ∀ {u : Value}, RelV v u → NestedIs s.heap k u := by
  induction h with
  | non => intro u r; cases r; exact .none
  | int i => intro u r; obtain ⟨t, rfl⟩ := r; exact .int _ _
  | str z => intro u r; obtain ⟨t, rfl⟩ := r; exact .text _ _
  | @tup a xs ks ha hl _ ih =>
    intro u r
    obtain rfl : u = Value.ref a := r
    obtain ⟨its, r2, ⟨o, e1, e2, n, e3⟩, _⟩ := I.tuple ha
    exact .tup e1 e2 e3 (nestedAll_of r2 hl fun i k x u h1 h2 r => ih i k x h1 h2 r)
end
/-- one of its entries -/
def EnN (K : PySem.W.Frag) (H : Hp) (p : NestedKey × V) (x : NestedKey × Addr × Value) : Prop := p.1 = x.1 ∧ p.1.depth ≤ 8 ∧ Nk K H p.1 (.ref x.2.1) ∧ RelV p.2 x.2.2
/-- at d stands such a dict, as the object o -/
structure DNo (P : Program) (w : World) (K : PySem.W.Frag) (H : Hp) (d : Addr) (o : Obj) (xs : NRaw) (kvs : List (NestedKey × V)) : Prop where
  at_ : H d = some (DnO P w d o xs)
  len : kvs.length = xs.length
  ent : ∀ (i : Nat) p x, kvs[i]? = some p → xs[i]? = some x → EnN K H p x
def DN (P : Program) (w : World) (K : PySem.W.Frag) (H : Hp) (d : Addr) (kvs : List (NestedKey × V)) : Prop := ∃ o xs, DNo P w K H d o xs kvs
theorem DNo.keep {P : Program} {w : World} {K : PySem.W.Frag} {H H' : Hp} {d : Addr} {o : Obj} {xs : NRaw} {kvs : List (NestedKey × V)} (e : Same H H') (h : DNo P w K H d o xs kvs) : DNo P w K H' d o xs kvs :=
  ⟨e _ _ h.at_, h.len, fun i p x h1 h2 => let ⟨a, b, c, d⟩ := h.ent i p x h1 h2; ⟨a, b, c.keep e, d⟩⟩
theorem DN.keep {P : Program} {w : World} {K : PySem.W.Frag} {H H' : Hp} {d : Addr} {kvs : List (NestedKey × V)} (e : Same H H') (h : DN P w K H d kvs) : DN P w K H' d kvs := let ⟨o, xs, g⟩ := h; ⟨o, xs, g.keep e⟩
def valN (kvs : List (NestedKey × V)) (k : NestedKey) : Option V := (kvs.find? fun p => decide (p.1 = k)).map (·.2)
def putN (kvs : List (NestedKey × V)) (k : NestedKey) (v : V) : List (NestedKey × V) := if (valN kvs k).isSome then kvs.map fun p => if p.1 = k then (p.1, v) else p else kvs ++ [(k, v)]
section
variable {P : Program} {w : World} {K : PySem.W.Frag} {H : Hp}
theorem valN_rel : ∀ {kvs : List (NestedKey × V)} {xs : NRaw} {k : NestedKey}, kvs.length = xs.length → (∀ (i : Nat) p x, kvs[i]? = some p → xs[i]? = some x → EnN K H p x) → RelO (valN kvs k) ((atKey xs k).map (·.2))
  | [], [], _, _, _ => trivial
  | p :: kvs, x :: xs, k, hl, f => by
    obtain ⟨e1, _, _, r⟩ := f 0 p x rfl rfl
    unfold valN atKey
    by_cases q : p.1 = k
    · rw [List.find?_cons_of_pos (by exact decide_eq_true q), List.find?_cons_of_pos (by exact decide_eq_true (e1 ▸ q))]
      exact r
    · rw [List.find?_cons_of_neg (by simpa using q), List.find?_cons_of_neg (by simpa [← e1] using q)]
      exact valN_rel (Nat.succ.inj hl) fun i p x h1 h2 => f (i + 1) p x h1 h2
theorem DNo.ok {X : Cx} {pins : List (Addr × Obj)} {σ : L2.St} {s : Shared} {d : Addr} {o : Obj} {xs : NRaw} {kvs : List (NestedKey × V)} (I : Inv X pins σ H s) (h : DNo X.prog X.w X.K H d o xs kvs) :
    s.heap.get? d = some o ∧ (d == sysModules) = false ∧ s.heap.DictOfH (nestedKind X.prog X.w) d xs ∧ xs.length ≤ sizeLine := by
  obtain ⟨⟨e1, g, e2⟩, _, _⟩ := (show ObjOk X.prog X.w H s.heap d (DnO X.prog X.w d o xs) from I.hok d _ h.at_)
  obtain ⟨es, ep, q1, q2⟩ := g.ent
  refine ⟨e1, e2, ⟨o, es, ep, e1, g.ex, q1, q2, fun x hx => ?_, g.nd⟩, g.sz⟩
  obtain ⟨i, hi⟩ := List.mem_iff_getElem?.mp hx
  have hp : kvs[i]? = some (kvs[i]'(by rw [h.len]; exact (List.getElem?_eq_some_iff.mp hi).1)) := List.getElem?_eq_getElem _
  obtain ⟨a1, a2, a3, _⟩ := h.ent i _ _ hp hi
  rw [a1] at a2 a3
  exact ⟨Nk.is I a3 rfl, a2⟩
end
/-- the heap behind d[k] = v: whatever object stands there now -/
theorem dn_obj {P : Program} {w : World} {H : Hp} {h : Heap} {d : Addr} {o : Obj} {xs : NRaw} (e : h.get? d = some o) (g : GoodN P w o xs) (hd : (d == sysModules) = false) : ObjOk P w H h d (DnO P w d o xs) :=
  ⟨⟨e, g, hd⟩, ⟨o, e⟩, fun h1 h2 q st => ⟨st _ q.1, q.2⟩⟩
section
variable {X : Cx} {pos : Pos}
/-- {} whose keys will be such tuples -/
def tDNewN (P : Program) (w : World) : TE := fun _ H Q => ∀ p o, H p = none → GoodN P w o [] → Q (.ref p) (upd H p (DnO P w p o []))
theorem pe_dnewN : PE X (.Dict [] [] pos) (tDNewN X.prog X.w) := ⟨fun pins s σ H Q I h => by
  have g : GoodN X.prog X.w { cls := .type "dict", data := .dict #[] } [] := ⟨⟨rfl, rfl, rfl⟩, ⟨#[], 0, rfl, rfl⟩, List.nodup_nil, Nat.zero_le _⟩
  have hd : (s.heap.objs.size == sysModules) = false := beq_eq_false_iff_ne.mpr (Ne.symm (Nat.ne_of_lt I.big))
  exact wpAny_Dict_empty ⟨.ref s.heap.objs.size, _, I.laid (a := s.heap.objs.size) (o := DnO X.prog X.w s.heap.objs.size _ []) (t' := s.toks) (fun _ _ q => Heap.get?_push_of_some _ q) (Nat.le_refl _) (dn_obj (Heap.get?_push_size _ rfl) g hd), rfl, h _ _ (I.hok.fresh (Nat.le_refl _)) g⟩⟩
def rNotInN (P : Program) (w : World) (K : PySem.W.Frag) : R2 := fun x y H Q => ∃ (d b : Addr) (kvs : List (NestedKey × V)) (k : NestedKey), x = .ref b ∧ y = .ref d ∧ DN P w K H d kvs ∧ Nk K H k (.ref b) ∧ k.depth ≤ 8 ∧ Q (.bl (!(valN kvs k).isSome)) H
theorem op_notInN (hu : X.A.units + 9 < cLine) : OpR X (compareOp .NotIn) (rNotInN X.prog X.w X.K) := by
  intro pins s σ H x y v u Q I rx ry ⟨d, b, kvs, k, ex, ey, ⟨o, xs, g⟩, hk, hdp, q⟩
  subst ex ey
  obtain rfl : v = Value.ref b := rx
  obtain rfl : u = Value.ref d := ry
  obtain ⟨e1, e2, e3, e4⟩ := g.ok I
  have rel := (valN_rel (k := k) g.len g.ent).isSome_eq
  rw [Option.isSome_map] at rel
  refine wpAny_notIn_heap (knd := nestedKind X.prog X.w) (by show X.A.units + 1 + 8 < cLine; omega) ⟨hk.is I rfl, hdp⟩ e2 e3 ⟨.bl _, H, I.tok _, ?_, q⟩
  rw [rel]
  rfl
/-- d[k], there -/
def rIxN (P : Program) (w : World) (K : PySem.W.Frag) : R2 := fun x y H Q => ∃ (d b : Addr) (kvs : List (NestedKey × V)) (k : NestedKey) (v : V), x = .ref d ∧ y = .ref b ∧ DN P w K H d kvs ∧ Nk K H k (.ref b) ∧ k.depth ≤ 8 ∧ valN kvs k = some v ∧ Q v H
theorem pe_ixN {a b : Expr} {ta tb : TE} (hu : X.A.units + 9 < cLine) (ha : PE X a ta) (hb : PE X b tb) (hs : PlainIx b) : PE X (.Subscript a b pos) (tOp (rIxN X.prog X.w X.K) ta tb) := by
  refine ⟨fun pins s σ H Q I h => ?_⟩
  refine Subscript_ (binT ha hb I h fun v u s2 x y H2 I2 rx ry ⟨d, c, kvs, k, vv, ex, ey, ⟨o, xs, g⟩, hk, hdp, hv, q⟩ => ?_)
  subst ex ey
  obtain rfl : v = Value.ref d := rx
  obtain rfl : u = Value.ref c := ry
  obtain ⟨e1, e2, e3, e4⟩ := g.ok I2
  have rel := valN_rel (k := k) g.len g.ent
  rw [hv] at rel
  obtain ⟨w', hw, rw'⟩ := RelO.some_of rel
  obtain ⟨pr, hp, hp2⟩ := Option.map_eq_some_iff.mp hw
  refine subscriptTail_builtinR (x := w') e3.typeIs PySem.F.slot_dict_getitem.lookup (wpAny_getItem_heap (knd := nestedKind X.prog X.w) (Q := fun r s' => r = w' ∧ EP X pins σ Q r s') (by show X.A.units + 1 + 8 < cLine; omega) ⟨hk.is I2 rfl, hdp⟩ e3 hp ?_) (hs _ _)
  rw [hp2]
  exact ⟨rfl, vv, H2, I2.tok _, rw', q⟩
theorem sqt_upd {K : PySem.W.Frag} {H : Hp} {a d : Addr} {xs : List V} {φ : Heap → Prop} {o : HO} (hd : H d = some (.ext φ)) (h : SqT K H a xs) : SqT K (upd H d o) a xs := by
  have ne : ∀ {u : HO}, H a = some u → (∀ ψ, u ≠ .ext ψ) → a ≠ d := fun e n z => by
    rw [z, hd] at e
    exact n φ (Option.some.inj e).symm
  rcases h with (h | ⟨ob, h⟩) | h
  · exact .inl (.inl ((upd_ne (ne h nofun)).trans h))
  · exact .inl (.inr ⟨ob, (upd_ne (ne h nofun)).trans h⟩)
  · exact .inr h
theorem Nk.upd {K : PySem.W.Frag} {H : Hp} {d : Addr} {φ : Heap → Prop} {o : HO} (hd : H d = some (.ext φ)) {k : NestedKey} {v : V} (h : Nk K H k v) : Nk K (upd H d o) k v := by
  induction h with
  | non => exact .non
  | int i => exact .int i
  | str z => exact .str z
  | tup ha hl _ ih => exact .tup (sqt_upd hd ha) hl ih
theorem en_stored {K : PySem.W.Frag} {H H' : Hp} {kvs : List (NestedKey × V)} {xs : NRaw} {k : NestedKey} {b : Addr} {v : V} {u : Value} (hl : kvs.length = xs.length) (f : ∀ (i : Nat) p x, kvs[i]? = some p → xs[i]? = some x → EnN K H p x)
    (e : ∀ k v, Nk K H k v → Nk K H' k v) (hk : Nk K H k (.ref b)) (hdp : k.depth ≤ 8) (r : RelV v u) : (putN kvs k v).length = (storedH xs k b u).length ∧ ∀ (i : Nat) p x, (putN kvs k v)[i]? = some p → (storedH xs k b u)[i]? = some x → EnN K H' p x := by
  have g : ∀ (i : Nat) p x, kvs[i]? = some p → xs[i]? = some x → EnN K H' p x := fun i p x h1 h2 => let ⟨a, b, c, d⟩ := f i p x h1 h2; ⟨a, b, e _ _ c, d⟩
  have rel := (valN_rel (k := k) hl f).isSome_eq
  rw [Option.isSome_map] at rel
  unfold putN storedH
  rw [rel]
  split
  · refine ⟨by rw [List.length_map, List.length_map, hl], fun i p x h1 h2 => ?_⟩
    rw [List.getElem?_map] at h1 h2
    obtain ⟨p0, hp0, rfl⟩ := Option.map_eq_some_iff.mp h1
    obtain ⟨x0, hx0, rfl⟩ := Option.map_eq_some_iff.mp h2
    obtain ⟨e1, e2, e3, e4⟩ := g i p0 x0 hp0 hx0
    unfold putAt
    by_cases q : p0.1 = k
    · rw [if_pos q, if_pos (e1 ▸ q)]
      exact ⟨e1, e2, e3, r⟩
    · rw [if_neg q, if_neg (fun z => q (e1.trans z))]
      exact ⟨e1, e2, e3, e4⟩
  · refine ⟨by rw [List.length_append, List.length_append, hl]; rfl, fun i p x h1 h2 => ?_⟩
    by_cases q : i < kvs.length
    · rw [List.getElem?_append_left q] at h1
      rw [List.getElem?_append_left (by omega)] at h2
      exact g i p x h1 h2
    · rw [List.getElem?_append_right (by omega)] at h1
      rw [List.getElem?_append_right (by omega), ← hl] at h2
      have z : i - kvs.length = 0 := by
        have := (List.getElem?_eq_some_iff.mp h1).1
        simp only [List.length_cons, List.length_nil] at this
        omega
      rw [z] at h1 h2
      cases h1
      cases h2
      exact ⟨rfl, hdp, e _ _ hk, r⟩
def rSetN (P : Program) (w : World) (K : PySem.W.Frag) : TSet := fun o i v H Q => ∃ (d b : Addr) (kvs : List (NestedKey × V)) (k : NestedKey), o = .ref d ∧ i = .ref b ∧ DN P w K H d kvs ∧ Nk K H k (.ref b) ∧ k.depth ≤ 8 ∧ kvs.length < sizeLine ∧
  ∀ φ, DN P w K (upd H d (.ext φ)) d (putN kvs k v) → Q (upd H d (.ext φ))
theorem dn_set {X : Cx} {pins : List (Addr × Obj)} {σ : L2.St} {H : Hp} {s : Shared} {d b : Addr} {o : Obj} {xs : NRaw} {kvs : List (NestedKey × V)} {k : NestedKey} {v : V} {u : Value} {h' : Heap} (t : Nat) (I : Inv X pins σ H s) (g : DNo X.prog X.w X.K H d o xs kvs) (hk : Nk X.K H k (.ref b)) (hdp : k.depth ≤ 8) (hz : kvs.length < sizeLine) (r : RelV v u)
    (hm : h'.DictOfH (nestedKind X.prog X.w) d (storedH xs k b u)) (hs : Heap.SameBut d s.heap h') : ∃ o', Inv X pins σ (upd H d (DnO X.prog X.w d o' (storedH xs k b u))) { s with heap := h', toks := t } ∧ DNo X.prog X.w X.K (upd H d (DnO X.prog X.w d o' (storedH xs k b u))) d o' (storedH xs k b u) (putN kvs k v) := by
  obtain ⟨e1, e2, e3, e4⟩ := g.ok I
  obtain ⟨o', es, ep, q1, q2, q3, q4, _, q6⟩ := hm
  have en := en_stored (H' := upd H d (DnO X.prog X.w d o' (storedH xs k b u))) g.len g.ent (fun _ _ h => h.upd g.at_) hk hdp r
  have sz : (storedH xs k b u).length ≤ sizeLine := by
    rw [← en.1]
    unfold putN
    split
    · rw [List.length_map]
      omega
    · rw [List.length_append]
      exact hz
  refine ⟨o', I.write (x := d) (e := d) (by rw [g.at_]; exact True.intro) (.inl rfl) (fun c q hc z => (hs.2 c hc).trans z) ⟨o', q1⟩ (dn_obj q1 ⟨q2, ⟨es, ep, q3, q4⟩, q6, sz⟩ e2), upd_same, en.1, en.2⟩
theorem set_dn {X : Cx} (hu : X.A.units + 9 < cLine) : PSet X (rSetN X.prog X.w X.K) := by
  intro pins s σ H o i v ov iv u Q I ro ri rv ⟨d, b, kvs, k, eo, ei, ⟨ob, xs, g⟩, hk, hdp, hz, q⟩
  subst eo ei
  obtain rfl : ov = Value.ref d := ro
  obtain rfl : iv = Value.ref b := ri
  obtain ⟨e1, e2, e3, e4⟩ := g.ok I
  refine wpAny_setItem_heap (hsz := e4) (knd := nestedKind X.prog X.w) (by show X.A.units + 1 + 8 < cLine; omega) ⟨hk.is I rfl, hdp⟩ e3 fun h' hm hs => ?_
  obtain ⟨o', J, g'⟩ := dn_set (s.toks + (nestedKind X.prog X.w).draws k) I g hk hdp hz rv hm hs
  exact ⟨_, J, q _ ⟨o', _, g'⟩⟩
end
end MK
set_option Elab.async false
set_option linter.all false
set_option autoImplicit false
set_option maxRecDepth 100000
set_option maxHeartbeats 2000000
namespace MK
open PySem PySem.Spec PyProof.Rows L2
theorem DNo.raw {X : Cx} {pins : List (Addr × Obj)} {σ : L2.St} {H : Hp} {s : Shared} {d : Addr} {o : Obj} {xs : NRaw} (I : Inv X pins σ H s) (h : H d = some (DnO X.prog X.w d o xs)) :
    s.heap.get? d = some o ∧ (d == sysModules) = false ∧ o.ExactDict ∧ xs.length ≤ sizeLine ∧ ∃ es ep, o.data = .dict es ep ∧ es.size = xs.length ∧ es.toList = xs.map (entryOfKey (nestedKind X.prog X.w)) := by
  obtain ⟨⟨e1, g, e2⟩, _, _⟩ := (show ObjOk X.prog X.w H s.heap d (DnO X.prog X.w d o xs) from I.hok d _ h)
  obtain ⟨es, ep, q1, q2⟩ := g.ent
  exact ⟨e1, e2, g.ex, g.sz, es, ep, q1, size_of_entries q2, q2⟩
/-- the keys of such a dict: the tuples themselves -/
def ItN (P : Program) (w : World) (d : Addr) (o : Obj) (xs : NRaw) : It :=
  ⟨fun i H => H d = some (DnO P w d o xs) ∧ i < xs.length, fun i H x H' => H' = H ∧ ∃ z, xs[i]? = some z ∧ x = .ref z.2.1, fun i H => H d = some (DnO P w d o xs) ∧ xs.length ≤ i⟩
theorem turnN {P : Program} {w : World} {K : PySem.W.Frag} {tg : Expr} {d : Addr} {o : Obj} {es : Array DictEntry} {ep : Nat} {xs : NRaw} (it : Addr) (hod : o.data = .dict es ep) : Turn P w K tg (ItN P w d o xs) [it] it (fun i h => h.IsKeyIter it d i xs.length ep) where
  mem := List.mem_singleton_self it
  obj := fun i h st b hb => by
    obtain rfl : b = it := List.mem_singleton.mp hb
    obtain ⟨oi, e, c, dd⟩ := st
    exact ⟨oi, e, fun v z => nomatch dd.symm.trans z⟩
  keep := fun i h h' st k => st.at fun oi e => k it (List.mem_singleton_self it) oi e
  item := by
    intro X hP hw hK hc i pins s σ H E I hf st ⟨hd, hi⟩
    subst hP hw hK
    obtain ⟨f0, f1, f2, f3, f4, f5⟩ := hf it (List.mem_singleton_self it)
    obtain ⟨hgd, hs, hx, _, es', ep', hdt, hsz, ent⟩ := DNo.raw I hd
    obtain ⟨rfl, rfl⟩ := dict_ep hod hdt
    have hz : xs[i]? = some xs[i] := List.getElem?_eq_getElem hi
    have hen : es'[i]? = some (entryOfKey (nestedKind X.prog X.w) xs[i]) := by rw [entry_at ent, hz]; rfl
    refine next_key_item st hgd hdt hsz hen fun h' st' sb => ?_
    have I1 : Inv X pins σ H { s with heap := h' } := I.turned (t' := s.toks) (fun b ob hb e => (sb.2 b hb).trans e) f0 f1 f3 f4 f5
    obtain ⟨oi, e, c, dd⟩ := id st'
    exact ⟨_, rfl, go_of (s := { s with heap := h' }) e c dd (by decide) ⟨.ref xs[i].2.1, H, I1, rfl, ⟨rfl, xs[i], hz, rfl⟩, st', fun b hb => (hf b hb).1⟩⟩
  done := by
    intro X hP hw hK hc i pins s σ H E I hf st ⟨hd, hi⟩
    subst hP hw hK
    obtain ⟨f0, f1, f2, f3, f4, f5⟩ := hf it (List.mem_singleton_self it)
    obtain ⟨hgd, hs, hx, _, es', ep', hdt, hsz, ent⟩ := DNo.raw I hd
    obtain ⟨rfl, rfl⟩ := dict_ep hod hdt
    exact next_key_end (I.ok.hd hc) st hgd hdt hsz hi fun h' eb => ⟨rfl, I.turned (t' := s.toks) (fun b ob hb e => eb b ob hb e) f0 f1 f3 f4 f5⟩
  self := fun A i s Q E st h => wpAny_pyIter_keyiter st h
def iKeysN (P : Program) (w : World) (td : TE) : TI := fun σ H R => td σ H fun x H1 => ∃ d o xs, x = .ref d ∧ H1 d = some (DnO P w d o xs) ∧ R (ItN P w d o xs) H1
theorem pi_keysN {X : Cx} {tg e : Expr} {td : TE} (he : PE X e td) : PI X tg e (iKeysN X.prog X.w td) := by
  refine ⟨fun pins s σ H R I h => thn (he.run pins s σ H _ I h) fun u s1 ⟨x, H1, I1, rx, d, o, xs, ex, hd, q⟩ => ?_⟩
  subst ex
  obtain rfl : u = Value.ref d := rx
  obtain ⟨hgd, hs, hx, _, es, ep, hdt, hsz, ent⟩ := DNo.raw I1 hd
  refine iter_keys hs hgd hx hdt (pi_one (tk := s1.toks) I1 _ (turnN _ hdt) ⟨_, Heap.get?_push_size _ rfl, rfl, ?_⟩ q)
  rw [hsz] <;> rfl
end MK
set_option Elab.async false
set_option linter.all false
set_option autoImplicit false
set_option maxRecDepth 100000
set_option maxHeartbeats 2000000
namespace MK
open PySem PySem.Spec PyProof.Rows L2
end MK
set_option Elab.async false
set_option linter.all false
set_option autoImplicit false
set_option maxRecDepth 100000
set_option maxHeartbeats 2000000
namespace MK
open PySem PySem.Spec PyProof.Rows L2
section
variable {α : Type}
def getA (ks : List (NestedKey × α)) (k : NestedKey) : Option α := (ks.find? fun p => decide (p.1 = k)).map (·.2)
def putA (ks : List (NestedKey × α)) (k : NestedKey) (a : α) : List (NestedKey × α) := if (getA ks k).isSome then ks.map fun p => if p.1 = k then (p.1, a) else p else ks ++ [(k, a)]
theorem getA_cons (p : NestedKey × α) (ks : List (NestedKey × α)) (k : NestedKey) : getA (p :: ks) k = if p.1 = k then some p.2 else getA ks k := by
  unfold getA
  by_cases e : p.1 = k
  · rw [List.find?_cons_of_pos (by exact decide_eq_true e), if_pos e]
    rfl
  · rw [List.find?_cons_of_neg (by simpa using e), if_neg e]
theorem getA_some {ks : List (NestedKey × α)} {k : NestedKey} {a : α} (h : getA ks k = some a) : (k, a) ∈ ks := by
  obtain ⟨p, hp, rfl⟩ := Option.map_eq_some_iff.mp h
  have e : p.1 = k := by simpa using List.find?_some hp
  rw [← e]
  exact List.mem_of_find?_eq_some hp
theorem getA_isSome {ks : List (NestedKey × α)} {k : NestedKey} : (getA ks k).isSome = decide (k ∈ ks.map (·.1)) := by
  induction ks with
  | nil => rfl
  | cons p ks ih =>
    rw [getA_cons]
    by_cases e : p.1 = k
    · rw [if_pos e, List.map_cons, decide_eq_true (e ▸ List.mem_cons_self)]
      rfl
    · rw [if_neg e, ih, List.map_cons, Bool.eq_iff_iff, decide_eq_true_iff, decide_eq_true_iff, List.mem_cons]
      exact ⟨.inr, fun h => h.resolve_left fun q => e q.symm⟩
theorem getA_of {ks : List (NestedKey × α)} (nd : (ks.map (·.1)).Nodup) {k : NestedKey} {a : α} (h : (k, a) ∈ ks) : getA ks k = some a := by
  induction ks with
  | nil => cases h
  | cons p ks ih =>
    rw [getA_cons]
    rw [List.map_cons, List.nodup_cons] at nd
    rcases List.mem_cons.mp h with e | h
    · subst e
      rw [if_pos rfl]
    · rw [if_neg (fun q : p.1 = k => nd.1 (by rw [q]; exact List.mem_map_of_mem (f := (·.1)) h))]
      exact ih nd.2 h
end
/-- entry by entry -/
def Pr {α β : Type} (R : α → β → Prop) (xs : List (NestedKey × α)) (ys : List (NestedKey × β)) : Prop := xs.length = ys.length ∧ ∀ (i : Nat) p q, xs[i]? = some p → ys[i]? = some q → p.1 = q.1 ∧ R p.2 q.2
section
variable {α β : Type} {R S : α → β → Prop} {xs : List (NestedKey × α)} {ys : List (NestedKey × β)}
theorem Pr.nil : Pr R ([] : List (NestedKey × α)) ([] : List (NestedKey × β)) := ⟨rfl, fun i p q h => by simp at h⟩
theorem Pr.mono (h : Pr R xs ys) (f : ∀ a b, R a b → S a b) : Pr S xs ys := ⟨h.1, fun i p q h1 h2 => let ⟨e, r⟩ := h.2 i p q h1 h2; ⟨e, f _ _ r⟩⟩
theorem Pr.tail {p : NestedKey × α} {q : NestedKey × β} (h : Pr R (p :: xs) (q :: ys)) : (p.1 = q.1 ∧ R p.2 q.2) ∧ Pr R xs ys := ⟨h.2 0 p q rfl rfl, Nat.succ.inj h.1, fun i a b h1 h2 => h.2 (i + 1) a b h1 h2⟩
theorem Pr.keys (h : Pr R xs ys) : xs.map (·.1) = ys.map (·.1) := by
  induction xs generalizing ys with
  | nil =>
    cases ys with
    | nil => rfl
    | cons q ys => exact absurd h.1 (by simp)
  | cons p xs ih =>
    cases ys with
    | nil => exact absurd h.1 (by simp)
    | cons q ys => rw [List.map_cons, List.map_cons, h.tail.1.1, ih h.tail.2]
theorem Pr.get (h : Pr R xs ys) (k : NestedKey) : (getA xs k = none ∧ getA ys k = none) ∨ ∃ a b, getA xs k = some a ∧ getA ys k = some b ∧ R a b := by
  induction xs generalizing ys with
  | nil =>
    cases ys with
    | nil => exact .inl ⟨rfl, rfl⟩
    | cons q ys => exact absurd h.1 (by simp)
  | cons p xs ih =>
    cases ys with
    | nil => exact absurd h.1 (by simp)
    | cons q ys =>
      obtain ⟨⟨e, r⟩, t⟩ := h.tail
      rw [getA_cons, getA_cons, ← e]
      by_cases z : p.1 = k
      · rw [if_pos z, if_pos z]
        exact .inr ⟨_, _, rfl, rfl, r⟩
      · rw [if_neg z, if_neg z]
        exact ih t
theorem Pr.some (h : Pr R xs ys) {k : NestedKey} {b : β} (e : getA ys k = .some b) : ∃ a, getA xs k = .some a ∧ R a b := by
  rcases h.get k with ⟨_, q⟩ | ⟨a, b', q1, q2, r⟩
  · rw [q] at e
    cases e
  · rw [q2] at e
    cases e
    exact ⟨a, q1, r⟩
theorem Pr.isSome (h : Pr R xs ys) (k : NestedKey) : (getA xs k).isSome = (getA ys k).isSome := by
  rcases h.get k with ⟨q1, q2⟩ | ⟨a, b, q1, q2, _⟩ <;> rw [q1, q2] <;> rfl
theorem Pr.put (h : Pr R xs ys) {k : NestedKey} {a : α} {b : β} (r : R a b) : Pr R (putA xs k a) (putA ys k b) := by
  unfold putA
  rw [h.isSome k]
  split
  · refine ⟨by rw [List.length_map, List.length_map, h.1], fun i p q h1 h2 => ?_⟩
    rw [List.getElem?_map] at h1 h2
    obtain ⟨p0, hp, rfl⟩ := Option.map_eq_some_iff.mp h1
    obtain ⟨q0, hq, rfl⟩ := Option.map_eq_some_iff.mp h2
    obtain ⟨e, r0⟩ := h.2 i p0 q0 hp hq
    by_cases z : p0.1 = k
    · rw [if_pos z, if_pos (e ▸ z)]
      exact ⟨e, r⟩
    · rw [if_neg z, if_neg (fun q => z (e.trans q))]
      exact ⟨e, r0⟩
  · refine ⟨by rw [List.length_append, List.length_append, h.1]; rfl, fun i p q h1 h2 => ?_⟩
    by_cases z : i < xs.length
    · rw [List.getElem?_append_left z] at h1
      rw [List.getElem?_append_left (h.1 ▸ z)] at h2
      exact h.2 i p q h1 h2
    · rw [List.getElem?_append_right (by omega)] at h1
      rw [List.getElem?_append_right (by have := h.1; omega), ← h.1] at h2
      have z0 : i - xs.length = 0 := by
        have := (List.getElem?_eq_some_iff.mp h1).1
        simp only [List.length_cons, List.length_nil] at this
        omega
      rw [z0] at h1 h2
      cases h1
      cases h2
      exact ⟨rfl, r⟩
end
theorem valN_getA (kvs : List (NestedKey × V)) (k : NestedKey) : valN kvs k = getA kvs k := rfl
theorem putN_putA (kvs : List (NestedKey × V)) (k : NestedKey) (v : V) : putN kvs k v = putA kvs k v := rfl
/-- every tuple stays -/
def Tk (H H' : Hp) : Prop := ∀ a xs, L2.Rd H a (.tup xs) → L2.Rd H' a (.tup xs)
theorem Tk.refl (H : Hp) : Tk H H := fun _ _ h => h
theorem Tk.trans {H H1 H2 : Hp} (a : Tk H H1) (b : Tk H1 H2) : Tk H H2 := fun _ _ h => b _ _ (a _ _ h)
theorem Tk.of {H H' : Hp} (e : Same H H') : Tk H H' := fun a xs h => by
  rcases h with h | ⟨o, h⟩
  · exact .inl (e _ _ h)
  · exact .inr ⟨o, e _ _ h⟩
/-- what may be written: no tuple -/
def NoT (H : Hp) (d : Addr) : Prop := ∀ xs, ¬ L2.Rd H d (.tup xs)
theorem NoT.lst {H : Hp} {d : Addr} {xs : List V} (h : H d = some (.lst xs)) : NoT H d := fun ys r => by
  rcases r with r | ⟨o, r⟩ <;> rw [h] at r <;> cases r
theorem NoT.ext {H : Hp} {d : Addr} {φ : Heap → Prop} (h : H d = some (.ext φ)) : NoT H d := fun ys r => by
  rcases r with r | ⟨o, r⟩ <;> rw [h] at r <;> exact HO.noConfusion (Option.some.inj r)
theorem NoT.non {H : Hp} {d : Addr} (h : H d = none) : NoT H d := fun ys r => by
  rcases r with r | ⟨o, r⟩ <;> rw [h] at r <;> cases r
theorem Tk.upd {H : Hp} {d : Addr} {o : HO} (n : NoT H d) : Tk H (upd H d o) := fun a xs h => by
  have ne : a ≠ d := fun z => n xs (z ▸ h)
  rcases h with h | ⟨ob, h⟩
  · exact .inl ((upd_ne ne).trans h)
  · exact .inr ⟨ob, (upd_ne ne).trans h⟩
section
variable {K : PySem.W.Frag} {H H' : Hp}
theorem Tk.sqt (t : Tk H H') {a : Addr} {xs : List V} (h : SqT K H a xs) : SqT K H' a xs := h.imp (t a xs) id
theorem Nk.tk (t : Tk H H') {k : NestedKey} {v : V} (h : Nk K H k v) : Nk K H' k v := by
  induction h with
  | non => exact .non
  | int i => exact .int i
  | str z => exact .str z
  | tup ha hl _ ih => exact .tup (t.sqt ha) hl ih
theorem EnN.tk (t : Tk H H') {p : NestedKey × V} {x : NestedKey × Addr × Value} (h : EnN K H p x) : EnN K H' p x := ⟨h.1, h.2.1, h.2.2.1.tk t, h.2.2.2⟩
theorem DNo.tk {P : Program} {w : World} {d : Addr} {o : Obj} {xs : NRaw} {kvs : List (NestedKey × V)} (t : Tk H H') (e : H' d = H d) (h : DNo P w K H d o xs kvs) : DNo P w K H' d o xs kvs :=
  ⟨e.trans h.at_, h.len, fun i p x h1 h2 => (h.ent i p x h1 h2).tk t⟩
theorem DN.tk {P : Program} {w : World} {d : Addr} {kvs : List (NestedKey × V)} (t : Tk H H') (e : H' d = H d) (h : DN P w K H d kvs) : DN P w K H' d kvs := let ⟨o, xs, g⟩ := h; ⟨o, xs, g.tk t e⟩
end
def rEqI (K : PySem.W.Frag) : R2 := fun x y H Q => ∃ j : Int, y = .int j ∧ ((∃ i : Int, x = .int i ∧ Q (.bl (decide (i = j))) H) ∨ ∃ a xs, x = .ref a ∧ SqT K H a xs ∧ Q (.bl false) H)
section
variable {X : Cx}
theorem op_eqI {K : PySem.W.Frag} (hK : X.K = K) (hu : X.A.units < cLine) : OpR X (compareOp .Eq) (rEqI K) := by
  subst hK
  intro pins s σ H x y v u Q I rx ry ⟨j, ey, h⟩
  subst ey
  obtain ⟨t, rfl⟩ := ry
  rcases h with ⟨i, rfl, q⟩ | ⟨a, xs, rfl, ha, q⟩
  · obtain ⟨t1, rfl⟩ := rx
    refine SeqAt.RcAt.int_int i t1 j t _ _ _ _ ⟨.bl _, H, I, rfl, ?_⟩
    have e : (i == j) = decide (i = j) := rfl
    rw [e]
    exact q
  · obtain rfl : v = Value.ref a := rx
    obtain ⟨its, r, p, _⟩ := I.tuple ha
    exact SeqAt.RcAt.tuple_int j t p hu _ _ _ _ ⟨.bl false, H, I, rfl, q⟩
variable {P : Program} {w : World} {K : PySem.W.Frag}
theorem op_notInNK (hP : X.prog = P) (hw : X.w = w) (hK : X.K = K) (hu : X.A.units + 9 < cLine) : OpR X (compareOp .NotIn) (rNotInN P w K) := by subst hP hw hK; exact op_notInN hu
theorem pe_ixNK {pos : Pos} {a b : Expr} {ta tb : TE} (hP : X.prog = P) (hw : X.w = w) (hK : X.K = K) (hu : X.A.units + 9 < cLine) (ha : PE X a ta) (hb : PE X b tb) (hs : PlainIx b) : PE X (.Subscript a b pos) (tOp (rIxN P w K) ta tb) := by subst hP hw hK; exact pe_ixN hu ha hb hs
theorem pi_keysNK {tg e : Expr} {td : TE} (hP : X.prog = P) (hw : X.w = w) (he : PE X e td) : PI X tg e (iKeysN P w td) := by subst hP hw; exact pi_keysN he
theorem u9 {k : Nat} {A : Around} (r : Room k A) : A.units + 9 < cLine := by have := r.un; omega
end
end MK
set_option Elab.async false
set_option linter.all false
set_option autoImplicit false
set_option maxRecDepth 100000
set_option maxHeartbeats 2000000
namespace MK
open PySem PySem.Spec PyProof.Rows L2
abbrev Pl := NestedKey
abbrev Way := Str × Pl
/-- the end of a row -/
def dn : Pl := .num (-1)
/-- a place that is no end -/
def IsPl (k : Pl) : Prop := (∃ ks, k = .tup ks) ∧ k.depth ≤ 5
theorem IsPl.ne {k : Pl} (h : IsPl k) : k ≠ dn := fun e => by
  obtain ⟨⟨ks, rfl⟩, _⟩ := h
  cases e
theorem Nk.ref {K : PySem.W.Frag} {H : Hp} {k : Pl} {v : V} (h : Nk K H k v) (p : IsPl k) : ∃ b xs, v = .ref b ∧ SqT K H b xs := by
  obtain ⟨⟨ks, rfl⟩, _⟩ := p
  cases h with
  | tup ha _ _ => exact ⟨_, _, rfl, ha⟩
theorem Nk.dn {K : PySem.W.Frag} {H : Hp} {v : V} (h : Nk K H dn v) : v = .int (-1) := by
  unfold MK.dn at h
  cases h
  rfl
section
variable {K : PySem.W.Frag} {H H' : Hp}
/-- a pair (name, place) -/
def WyV (K : PySem.W.Frag) (H : Hp) (v : V) (p : Way) : Prop := ∃ t x, v = .ref t ∧ SqT K H t [.str p.1, x] ∧ Nk K H p.2 x
theorem WyV.tk (t : Tk H H') {v : V} {p : Way} (h : WyV K H v p) : WyV K H' v p := let ⟨a, x, e, h1, h2⟩ := h; ⟨a, x, e, t.sqt h1, h2.tk t⟩
end
/-- the walk: each way of a place of U ends or leads to one of U -/
structure WkOk (st : Pl) (W : Pl → List Way) (U : List Pl) : Prop where
  st : st ∈ U
  cl : ∀ k ∈ U, ∀ p ∈ W k, p.2 = dn ∨ p.2 ∈ U
  pl : ∀ k ∈ U, IsPl k
  few : U.length ≤ 300
  ws : ∀ k ∈ U, (W k).length ≤ 10
/-- a list of ways, at an address that is not changed -/
def WsV (K : PySem.W.Frag) (G H : Hp) (v : V) (ws : List Way) : Prop := ∃ l xs, v = .ref l ∧ G l = some (.lst xs) ∧ Al (WyV K H) xs ws
theorem WsV.tk {K : PySem.W.Frag} {G G' H H' : Hp} (e : Same G G') (t : Tk H H') {v : V} {ws : List Way} (h : WsV K G H v ws) : WsV K G' H' v ws := let ⟨l, xs, e1, h1, h2⟩ := h; ⟨l, xs, e1, e _ _ h1, h2.mono fun _ _ r => r.tk t⟩
def pairsOf (W : Pl → List Way) (ks : List Pl) : List (NestedKey × List Way) := ks.map fun k => (k, W k)
/-- without the objects at M -/
def Wt (M : List Addr) (H : Hp) : Hp := fun a => if a ∈ M then none else H a
theorem wt_get {M : List Addr} {H : Hp} {a : Addr} (n : a ∉ M) : Wt M H a = H a := if_neg n
theorem wt_some {M : List Addr} {H : Hp} {a : Addr} {o : HO} (h : Wt M H a = some o) : a ∉ M ∧ H a = some o := by
  unfold Wt at h
  split at h
  · cases h
  · exact ⟨by assumption, h⟩
theorem wt_same {M : List Addr} {H : Hp} : Same (Wt M H) H := fun a o h => (wt_some h).2
theorem wt_keep {M : List Addr} {H H' : Hp} (e : Same H H') : Same (Wt M H) (Wt M H') := fun a o h => by
  obtain ⟨n, h⟩ := wt_some h
  rw [wt_get n]
  exact e _ _ h
theorem wt_upd {M : List Addr} {H : Hp} {d : Addr} {o : HO} (h : d ∈ M) : Wt M (upd H d o) = Wt M H := by
  funext a
  unfold Wt
  by_cases n : a ∈ M
  · rw [if_pos n, if_pos n]
  · rw [if_neg n, if_neg n, upd_ne (fun e : a = d => n (by rw [e]; exact h))]
/-- a table of ways at d; its lists stand in G -/
def TbI (P : Program) (w : World) (K : PySem.W.Frag) (G H : Hp) (d : Addr) (T : List (NestedKey × List Way)) : Prop := ∃ kvs, DN P w K H d kvs ∧ Pr (WsV K G H) kvs T
theorem TbI.tk {P : Program} {w : World} {K : PySem.W.Frag} {G G' H H' : Hp} {d : Addr} {T : List (NestedKey × List Way)} (e : Same G G') (t : Tk H H') (ed : H' d = H d) (h : TbI P w K G H d T) : TbI P w K G' H' d T :=
  let ⟨kvs, h1, h2⟩ := h; ⟨kvs, h1.tk t ed, h2.mono fun _ _ r => r.tk e t⟩
/-- walks of some class: their data, what they look like, their ways -/
structure WalkT where
  D : Type
  I : D → Hp → Addr → Prop
  W : D → Pl → List Way
  st : D → Pl
  U : D → List Pl
def spStart (K : PySem.W.Frag) (T : WalkT) : Sp := fun vs H Q _ => ∃ (d : T.D) (a : Addr), vs = [.ref a] ∧ T.I d H a ∧ ∀ H' b, Same H H' → Nk K H' (T.st d) (.ref b) → Q (.ref b) H'
/-- the constants of the machines -/
structure MCst (mg : Str → Option Value) : Prop where
  DONE : ∃ u, mg "DONE" = some u ∧ RelV (.int (-1)) u
  THE_WORD : ∃ u, mg "THE_WORD" = some u ∧ RelV (.int 1) u
theorem nodup_le {α : Type} [DecidableEq α] : ∀ {xs ys : List α}, xs.Nodup → (∀ x ∈ xs, x ∈ ys) → xs.length ≤ ys.length
  | [], _, _, _ => Nat.zero_le _
  | x :: xs, ys, nd, h => by
    rw [List.nodup_cons] at nd
    have hx := h x List.mem_cons_self
    have := nodup_le (ys := ys.erase x) nd.2 fun z hz => (List.mem_erase_of_ne (fun e : z = x => nd.1 (by rw [← e]; exact hz))).mpr (h z (List.mem_cons_of_mem _ hz))
    rw [List.length_erase_of_mem hx] at this
    have l := List.length_pos_of_mem hx
    rw [List.length_cons]
    omega
theorem last_split {α : Type} {xs : List α} {x : α} (h : xs[xs.length - 1]? = some x) : xs = xs.dropLast ++ [x] := by
  have hn : xs ≠ [] := fun e => by rw [e] at h; cases h
  have := List.dropLast_concat_getLast hn
  rw [← List.getLast?_eq_getElem?, List.getLast?_eq_some_getLast hn] at h
  rw [← Option.some.inj h]
  exact this.symm
theorem al_append {α : Type} {R : V → α → Prop} {xs xs' : List V} {ys ys' : List α} (h : Al R xs ys) (h' : Al R xs' ys') : Al R (xs ++ xs') (ys ++ ys') := by
  refine ⟨by rw [List.length_append, List.length_append, h.1, h'.1], fun i x y h1 h2 => ?_⟩
  by_cases q : i < xs.length
  · rw [List.getElem?_append_left q] at h1
    rw [List.getElem?_append_left (h.1 ▸ q)] at h2
    exact h.2 i x y h1 h2
  · rw [List.getElem?_append_right (by omega)] at h1
    rw [List.getElem?_append_right (by have := h.1; omega), ← h.1] at h2
    exact h'.2 _ x y h1 h2
theorem getA_put {α : Type} (ks : List (NestedKey × α)) (k : NestedKey) (a : α) : getA (putA ks k a) k = some a := by
  unfold putA
  rw [getA_isSome]
  by_cases h : k ∈ ks.map (·.1)
  · rw [if_pos (decide_eq_true h)]
    induction ks with
    | nil => cases h
    | cons p ks ih =>
      rw [List.map_cons, getA_cons]
      by_cases e : p.1 = k
      · rw [if_pos e, if_pos e]
      · rw [if_neg e, if_neg e]
        exact ih ((List.mem_cons.mp h).resolve_left fun q => e q.symm)
  · rw [if_neg (by simpa using h)]
    have e := getA_isSome (ks := ks) (k := k)
    rw [decide_eq_false h] at e
    induction ks with
    | nil => rw [List.nil_append, getA_cons, if_pos rfl]
    | cons p ks ih =>
      rw [List.map_cons, List.mem_cons] at h
      have ne : p.1 ≠ k := fun q => h (.inl q.symm)
      rw [List.cons_append, getA_cons, if_neg ne]
      rw [getA_cons, if_neg ne] at e
      exact ih (fun q => h (.inr q)) e
theorem TbI.keep {P : Program} {w : World} {K : PySem.W.Frag} {G H H' : Hp} {d : Addr} {T : List (NestedKey × List Way)} (e : Same H H') (h : TbI P w K G H d T) : TbI P w K G H' d T :=
  let ⟨kvs, h1, h2⟩ := h; ⟨kvs, h1.keep e, h2.mono fun _ _ r => r.tk (Same.refl G) (Tk.of e)⟩
end MK
set_option Elab.async false
set_option linter.all false
set_option autoImplicit false
set_option maxRecDepth 100000
set_option maxHeartbeats 2000000
namespace MK
open PySem PySem.Spec PyProof.Rows L2
abbrev Edge := Pl × Way
/-- from where one comes to u -/
def SE (E : List Edge) (u : Pl) : List Pl := (E.filter fun e => decide (e.2.2 = u)).map (·.1)
/-- at D, under each place, its own list, at L -/
structure SrcI (P : Program) (w : World) (K : PySem.W.Frag) (H : Hp) (D : Addr) (L : List Addr) (ks : List Pl) (S : Pl → List Pl) : Prop where
  dn : DN P w K H D (ks.zip (L.map V.ref))
  len : L.length = ks.length
  nd : L.Nodup
  off : D ∉ L
  at_ : ∀ (i : Nat) k p, ks[i]? = some k → L[i]? = some p → ∃ xs, H p = some (.lst xs) ∧ Al (fun v x => Nk K H x v) xs (S k)
section
variable {P : Program} {w : World} {K : PySem.W.Frag} {H H' : Hp} {D : Addr} {L : List Addr} {ks : List Pl} {S : Pl → List Pl}
theorem SrcI.keep (h : SrcI P w K H D L ks S) (e : Same H H') : SrcI P w K H' D L ks S := ⟨h.dn.keep e, h.len, h.nd, h.off, fun i k p h1 h2 => let ⟨xs, a, b⟩ := h.at_ i k p h1 h2; ⟨xs, e _ _ a, b.mono fun _ _ h => h.keep e⟩⟩
theorem SrcI.put {q : Addr} {o : HO} (h : SrcI P w K H D L ks S) (n1 : q ∉ L) (n2 : q ≠ D) (nt : NoT H q) : SrcI P w K (upd H q o) D L ks S := ⟨h.dn.tk (Tk.upd nt) (upd_ne n2.symm), h.len, h.nd, h.off, fun i k p h1 h2 => let ⟨xs, a, b⟩ := h.at_ i k p h1 h2;
  ⟨xs, (upd_ne fun e => n1 (by rw [← e]; exact List.mem_of_getElem? h2)).trans a, b.mono fun _ _ h => h.tk (Tk.upd nt)⟩⟩
theorem SrcI.congr {S' : Pl → List Pl} (h : SrcI P w K H D L ks S) (e : ∀ k ∈ ks, S' k = S k) : SrcI P w K H D L ks S' := ⟨h.dn, h.len, h.nd, h.off, fun i k p h1 h2 => by
  rw [e k (List.mem_of_getElem? h1)]
  exact h.at_ i k p h1 h2⟩
theorem zip_fst {α β : Type} : ∀ {xs : List α} {ys : List β}, ys.length = xs.length → (xs.zip ys).map (·.1) = xs
  | [], [], _ => rfl
  | x :: xs, y :: ys, h => by
    show x :: (xs.zip ys).map (·.1) = x :: xs
    rw [zip_fst (Nat.succ.inj h)]
  | [], _ :: _, h => by cases h
  | _ :: _, [], h => by cases h
theorem SrcI.get (h : SrcI P w K H D L ks S) (nd : ks.Nodup) {k : Pl} (hk : k ∈ ks) : ∃ (i : Nat) (p : Addr) (xs : List V), ks[i]? = some k ∧ L[i]? = some p ∧ valN (ks.zip (L.map V.ref)) k = some (.ref p) ∧ H p = some (.lst xs) ∧ Al (fun v x => Nk K H x v) xs (S k) := by
  obtain ⟨i, hi⟩ := List.mem_iff_getElem?.mp hk
  have lt := (List.getElem?_eq_some_iff.mp hi).1
  have hp : L[i]? = some (L[i]'(by rw [h.len]; exact lt)) := List.getElem?_eq_getElem _
  obtain ⟨xs, a, b⟩ := h.at_ i k _ hi hp
  refine ⟨i, _, xs, hi, hp, ?_, a, b⟩
  rw [valN_getA]
  refine getA_of (by rw [zip_fst (by rw [List.length_map]; exact h.len)]; exact nd) (List.mem_of_getElem? (i := i) ?_)
  rw [List.getElem?_zip_eq_some]
  exact ⟨hi, by rw [List.getElem?_map, hp]; rfl⟩
theorem SrcI.app (h : SrcI P w K H D L ks S) (nd : ks.Nodup) {i : Nat} {k x : Pl} {p : Addr} {xs : List V} {v : V} (hi : ks[i]? = some k) (hp : L[i]? = some p) (hx : H p = some (.lst xs)) (al : Al (fun v x => Nk K H x v) xs (S k)) (hv : Nk K H x v) :
    SrcI P w K (upd H p (.lst (xs ++ [v]))) D L ks fun u => if u = k then S u ++ [x] else S u := by
  have nt : NoT H p := NoT.lst hx
  have mp := List.mem_of_getElem? hp
  refine ⟨h.dn.tk (Tk.upd nt) (upd_ne fun e => h.off (by rw [e]; exact mp)), h.len, h.nd, h.off, fun j k' p' h1 h2 => ?_⟩
  by_cases e : j = i
  · subst e
    rw [hi] at h1
    rw [hp] at h2
    cases h1
    cases h2
    rw [if_pos rfl]
    exact ⟨_, upd_same, (al.mono fun _ _ h => h.tk (Tk.upd nt)).snoc (hv.tk (Tk.upd nt))⟩
  · have ne : k' ≠ k := fun z => by
      subst z
      exact e ((List.getElem?_inj (List.getElem?_eq_some_iff.mp h1).1 nd).mp (h1.trans hi.symm))
    have np : p' ≠ p := fun z => by
      subst z
      exact e ((List.getElem?_inj (List.getElem?_eq_some_iff.mp h2).1 h.nd).mp (h2.trans hp.symm))
    rw [if_neg ne]
    obtain ⟨ys, a, b⟩ := h.at_ j k' p' h1 h2
    exact ⟨ys, (upd_ne np).trans a, b.mono fun _ _ h => h.tk (Tk.upd nt)⟩
/-- a dict of keys -/
def UsI (P : Program) (w : World) (K : PySem.W.Frag) (H : Hp) (d : Addr) (us : List Pl) : Prop := ∃ kvs, DN P w K H d kvs ∧ kvs.map (·.1) = us
theorem UsI.tk (t : Tk H H') (e : H' D = H D) {us : List Pl} (h : UsI P w K H D us) : UsI P w K H' D us := let ⟨kvs, a, b⟩ := h; ⟨kvs, a.tk t e, b⟩
theorem UsI.keep (e : Same H H') {us : List Pl} (h : UsI P w K H D us) : UsI P w K H' D us := let ⟨kvs, a, b⟩ := h; ⟨kvs, a.keep e, b⟩
end
theorem walk_keysN {P : Program} {w : World} {d : Addr} {o : Obj} {xs : NRaw} : Walk (ItN P w d o xs) xs.length (fun H => H d = some (DnO P w d o xs)) (fun i H x H' => H' = H ∧ ∃ z, xs[i]? = some z ∧ x = .ref z.2.1) :=
  ⟨fun _ _ hi q => ⟨q, hi⟩, fun _ q => ⟨q, Nat.le_refl _⟩, fun _ _ _ _ _ _ y => y⟩
theorem take_next' {α : Type} {xs : List α} {i : Nat} {x : α} (h : xs[i]? = some x) : xs.take (i + 1) = xs.take i ++ [x] := by rw [List.take_succ, h]; rfl
/-- what is known of a table's key as it is walked -/
theorem TbI.walk {P : Program} {w : World} {K : PySem.W.Frag} {G H : Hp} {d : Addr} {W : Pl → List Way} {ks : List Pl} (h : TbI P w K G H d (pairsOf W ks)) : ∃ o xs kvs, DNo P w K H d o xs kvs ∧ Pr (WsV K G H) kvs (pairsOf W ks) ∧ xs.length = ks.length ∧
    ∀ (i : Nat) z, xs[i]? = some z → ∃ k, ks[i]? = some k ∧ Nk K H k (.ref z.2.1) ∧ k.depth ≤ 8 := by
  obtain ⟨kvs, ⟨o, xs, g⟩, pr⟩ := h
  have l1 := pr.1
  unfold pairsOf at l1
  rw [List.length_map] at l1
  have l2 := g.len
  refine ⟨o, xs, kvs, g, pr, by omega, fun i z hz => ?_⟩
  have lt := (List.getElem?_eq_some_iff.mp hz).1
  have hk : kvs[i]? = some (kvs[i]'(by omega)) := List.getElem?_eq_getElem _
  have hks : ks[i]? = some (ks[i]'(by omega)) := List.getElem?_eq_getElem _
  have hp : (pairsOf W ks)[i]? = some (ks[i]'(by omega), W (ks[i]'(by omega))) := by
    unfold pairsOf
    rw [List.getElem?_map, hks]
    rfl
  obtain ⟨e, _⟩ := pr.2 i _ _ hk hp
  obtain ⟨e1, e2, e3, _⟩ := g.ent i _ z hk hz
  rw [e] at e2 e3
  exact ⟨_, hks, e3, e2⟩
theorem filter_next {α : Type} {f : α → Bool} {xs : List α} {i : Nat} {x : α} (h : xs[i]? = some x) : (xs.take (i + 1)).filter f = (xs.take i).filter f ++ if f x = true then [x] else [] := by
  rw [take_next' h, List.filter_append]
  by_cases e : f x = true
  · rw [if_pos e, List.filter_cons_of_pos e]
    rfl
  · rw [if_neg e, List.filter_cons_of_neg e]
    rfl
end MK
set_option Elab.async false
set_option linter.all false
set_option autoImplicit false
set_option maxRecDepth 100000
set_option maxHeartbeats 4000000
namespace MK
open PySem PySem.Spec PyProof.Rows L2
/-- how many there are, each counted once -/
def dcount : List Int → Nat
  | [] => 0
  | x :: xs => (if x ∈ xs then 0 else 1) + dcount xs
end MK
set_option Elab.async false
set_option linter.all false
set_option autoImplicit false
set_option maxRecDepth 100000
set_option maxHeartbeats 2000000
namespace MK
open PySem PySem.Spec PyProof.Rows L2
theorem call_lenN {X : Cx} {P : Program} {w : World} {K : PySem.W.Frag} (hP : X.prog = P) (hw : X.w = w) (hK : X.K = K) : CallR X (.builtin "len") (fun xs H Q => ∃ d kvs, xs = [V.ref d] ∧ DN P w K H d kvs ∧ Q (.int kvs.length) H) := by
  subst hP hw hK
  intro pins s σ H vs us Q I r ⟨d, kvs, e, ⟨o, xs, g⟩, q⟩
  subst e
  obtain ⟨u, rfl, rx⟩ := r.one
  obtain rfl : u = Value.ref d := rx
  obtain ⟨hgd, hs, hx, hz, es, ep, hdt, hsz, ent⟩ := DNo.raw I g.at_
  have le : es.size = kvs.length := by rw [hsz, g.len]
  have hl := line63
  have hb : sizeLine = 16777216 := sizeLine_eq
  refine Calls.call_function_entry kind_len plain_len entry_len (args_len1 _) ?_
  unfold Builtin.«len»
  refine wpAny_bind (m := oneArg "len" _) (wpAny_pure ?_)
  refine wpAny_bind (m := callSpecial? (.ref d) (Str.ofString "__len__")) (wpAny_callSpecial?_slot (name := Str.ofString "__len__") ⟨o, hgd, hx.1⟩ F.slot_dict_len (call_len_raw hs ⟨o, hgd, hx, hdt⟩ ?_))
  refine wpAny_bind (wpAny_holding (wpAny_pure ?_))
  refine wpAny_bind (wpAny_letGo ?_)
  show wpAny _ _ (if ((es.size : Nat) : Int) < 0 then _ else _) _ _ _
  rw [if_neg (by omega)]
  show wpAny _ _ (if ((es.size : Nat) : Int) ≥ 2 ^ 63 then _ else _) _ _ _
  rw [if_neg (by omega)]
  refine wpAny_bind (wpAny_mkInt (wpAny_pure ⟨_, rfl, .int kvs.length, H, I.tok _, ⟨_, by rw [le]⟩, q⟩))
def dd (xs : List NestedKey) : List NestedKey := xs.foldl (fun a x => if x ∈ a then a else a ++ [x]) []
theorem dd_snoc (xs : List NestedKey) (x : NestedKey) : dd (xs ++ [x]) = if x ∈ dd xs then dd xs else dd xs ++ [x] := by
  unfold dd
  rw [List.foldl_append]
  rfl
theorem dd_pre (xs : List NestedKey) : ∀ ys : List NestedKey, ∃ zs, dd (xs ++ ys) = dd xs ++ zs := by
  intro ys
  induction ys generalizing xs with
  | nil => exact ⟨[], by rw [List.append_nil, List.append_nil]⟩
  | cons y ys ih =>
    obtain ⟨zs, e⟩ := ih (xs ++ [y])
    rw [List.append_assoc] at e
    rw [show xs ++ y :: ys = xs ++ ([y] ++ ys) from rfl, e, dd_snoc]
    split
    · exact ⟨zs, rfl⟩
    · exact ⟨y :: zs, by rw [List.append_assoc]; rfl⟩
theorem mem_dd {x : NestedKey} : ∀ {xs : List NestedKey}, x ∈ xs → x ∈ dd xs := by
  intro xs m
  obtain ⟨a, b, rfl⟩ := List.append_of_mem m
  obtain ⟨zs, e⟩ := dd_pre (a ++ [x]) b
  rw [show a ++ x :: b = (a ++ [x]) ++ b by rw [List.append_assoc]; rfl, e, dd_snoc]
  split
  · exact List.mem_append_left _ (by assumption)
  · exact List.mem_append_left _ (List.mem_append_right _ (List.mem_singleton.mpr rfl))
theorem idx_inj {xs : List NestedKey} {x y : NestedKey} (hx : x ∈ xs) (hy : y ∈ xs) (e : xs.idxOf x = xs.idxOf y) : x = y := by
  have h1 := List.getElem_idxOf (List.idxOf_lt_length_of_mem hx)
  have h2 := List.getElem_idxOf (List.idxOf_lt_length_of_mem hy)
  rw [← h1, ← h2]
  congr 1
/-- what a way is worth, by the classes so far -/
def sigW (c : Pl → Nat) (p : Way) : NestedKey := .tup [.text p.1, .num (if p.2 = dn then -1 else (c p.2 : Int))]
def sig (W : Pl → List Way) (c : Pl → Nat) (k : Pl) : NestedKey := .tup [.num (c k : Int), .tup ((W k).map (sigW c))]
def refine' (W : Pl → List Way) (ks : List Pl) (c : Pl → Nat) (k : Pl) : Nat := (dd (ks.map (sig W c))).idxOf (sig W c k)
def noc (ks : List Pl) (c : Pl → Nat) : Nat := dcount (ks.map fun k => (c k : Int))
theorem refine_sig {W : Pl → List Way} {ks : List Pl} {c : Pl → Nat} {k k' : Pl} (hk : k ∈ ks) (hk' : k' ∈ ks) (e : refine' W ks c k = refine' W ks c k') : sig W c k = sig W c k' :=
  idx_inj (mem_dd (List.mem_map_of_mem hk)) (mem_dd (List.mem_map_of_mem hk')) e
theorem sig_class {W : Pl → List Way} {c : Pl → Nat} {k k' : Pl} (e : sig W c k = sig W c k') : c k = c k' := by
  unfold sig at e
  injection e with e
  injection e with e1 e2
  injection e1 with e1
  exact Int.ofNat.inj e1
/-- as many behind as ahead: nothing was parted -/
theorem dcount_map {α : Type} (f g : α → Int) (L : List α) (h : ∀ a ∈ L, ∀ b ∈ L, f a = f b → g a = g b) : dcount (L.map g) ≤ dcount (L.map f) ∧ (dcount (L.map f) ≤ dcount (L.map g) → ∀ a ∈ L, ∀ b ∈ L, g a = g b → f a = f b) := by
  induction L with
  | nil => exact ⟨Nat.le_refl _, fun _ a ha => by cases ha⟩
  | cons x L ih =>
    obtain ⟨i1, i2⟩ := ih fun a ha b hb => h a (List.mem_cons_of_mem _ ha) b (List.mem_cons_of_mem _ hb)
    show (if g x ∈ L.map g then 0 else 1) + dcount (L.map g) ≤ (if f x ∈ L.map f then 0 else 1) + dcount (L.map f) ∧ ((if f x ∈ L.map f then 0 else 1) + dcount (L.map f) ≤ (if g x ∈ L.map g then 0 else 1) + dcount (L.map g) → _)
    by_cases m : f x ∈ L.map f
    · obtain ⟨y, hy, e⟩ := List.mem_map.mp m
      have mg : g x ∈ L.map g := List.mem_map.mpr ⟨y, hy, h y (List.mem_cons_of_mem _ hy) x List.mem_cons_self e⟩
      rw [if_pos m, if_pos mg]
      refine ⟨by omega, fun le a ha b hb q => ?_⟩
      have inj := i2 (by omega)
      have gy : g y = g x := h y (List.mem_cons_of_mem _ hy) x List.mem_cons_self e
      have rep : ∀ a ∈ x :: L, ∃ a' ∈ L, f a = f a' ∧ g a = g a' := fun a ha => (List.mem_cons.mp ha).elim (fun z => ⟨y, hy, by rw [z, e], by rw [z, gy]⟩) fun z => ⟨a, z, rfl, rfl⟩
      obtain ⟨a', ha', fa, ga⟩ := rep a ha
      obtain ⟨b', hb', fb, gb⟩ := rep b hb
      rw [fa, fb]
      exact inj a' ha' b' hb' (by rw [← ga, ← gb, q])
    · rw [if_neg m]
      by_cases mg : g x ∈ L.map g
      · rw [if_pos mg]
        exact ⟨by omega, fun le => by omega⟩
      · rw [if_neg mg]
        refine ⟨by omega, fun le a ha b hb q => ?_⟩
        have inj := i2 (by omega)
        rcases List.mem_cons.mp ha with e1 | ha1 <;> rcases List.mem_cons.mp hb with e2 | hb1
        · rw [e1, e2]
        · exact absurd (List.mem_map.mpr ⟨b, hb1, by rw [← q, e1]⟩) mg
        · exact absurd (List.mem_map.mpr ⟨a, ha1, by rw [q, e2]⟩) mg
        · exact inj a ha1 b hb1 q
/-- classes that a round doesn't part -/
def Stable (W : Pl → List Way) (ks : List Pl) (c : Pl → Nat) : Prop := ∀ k ∈ ks, ∀ k' ∈ ks, c k = c k' → sig W c k = sig W c k'
theorem sig_mono {W : Pl → List Way} {ks : List Pl} {c c' : Pl → Nat} (cl : ∀ k ∈ ks, ∀ p ∈ W k, p.2 = dn ∨ p.2 ∈ ks) (h : ∀ k ∈ ks, ∀ k' ∈ ks, c k = c k' → c' k = c' k') {k k' : Pl} (hk : k ∈ ks) (hk' : k' ∈ ks) (e : sig W c k = sig W c k') : sig W c' k = sig W c' k' := by
  have e0 := h k hk k' hk' (sig_class e)
  unfold sig at e ⊢
  injection e with e
  injection e with _ e
  injection e with e _
  injection e with e
  have e1 : (W k).map (sigW c') = (W k').map (sigW c') := by
    apply List.ext_getElem?
    intro i
    have ei : ((W k).map (sigW c))[i]? = ((W k').map (sigW c))[i]? := by rw [e]
    rw [List.getElem?_map, List.getElem?_map] at ei ⊢
    cases h1 : (W k)[i]? with
    | none =>
      rw [h1] at ei
      cases h2 : (W k')[i]? with
      | none => rfl
      | some q =>
        rw [h2] at ei
        cases ei
    | some p =>
      rw [h1] at ei
      cases h2 : (W k')[i]? with
      | none =>
        rw [h2] at ei
        cases ei
      | some q =>
        rw [h2] at ei
        have ew : sigW c p = sigW c q := Option.some.inj ei
        show some (sigW c' p) = some (sigW c' q)
        unfold sigW at ew ⊢
        injection ew with ew
        injection ew with a1 ew
        injection a1 with a1
        injection ew with a2 _
        injection a2 with a2
        have cp := cl k hk p (List.mem_of_getElem? h1)
        have cq := cl k' hk' q (List.mem_of_getElem? h2)
        by_cases z1 : p.2 = dn
        · by_cases z2 : q.2 = dn
          · rw [a1, if_pos z1, if_pos z2]
          · rw [if_pos z1, if_neg z2] at a2
            omega
        · by_cases z2 : q.2 = dn
          · rw [if_neg z1, if_pos z2] at a2
            omega
          · rw [if_neg z1, if_neg z2] at a2
            rw [a1, if_neg z1, if_neg z2, h p.2 (cp.resolve_left z1) q.2 (cq.resolve_left z2) (by omega)]
  rw [e0, e1]
theorem Stable.of {W : Pl → List Way} {ks : List Pl} {c : Pl → Nat} (cl : ∀ k ∈ ks, ∀ p ∈ W k, p.2 = dn ∨ p.2 ∈ ks) (h : noc ks (refine' W ks c) ≤ noc ks c) : Stable W ks (refine' W ks c) := by
  have r1 : ∀ k ∈ ks, ∀ k' ∈ ks, refine' W ks c k = refine' W ks c k' → c k = c k' := fun k hk k' hk' e => sig_class (refine_sig hk hk' e)
  have r2 := (dcount_map (fun k => (refine' W ks c k : Int)) (fun k => (c k : Int)) ks fun a ha b hb e => by rw [r1 a ha b hb (Int.ofNat.inj e)]).2 h
  exact fun k hk k' hk' e => sig_mono cl (fun a ha b hb q => Int.ofNat.inj (r2 a ha b hb (by show (c a : Int) = c b; rw [q]))) hk hk' (refine_sig hk hk' e)
theorem depth_allN {α : Type} {f : α → NestedKey} {n : Nat} : ∀ {xs : List α}, (∀ x ∈ xs, (f x).depth ≤ n) → NestedKey.depthAll (xs.map f) ≤ n
  | [], _ => Nat.zero_le _
  | x :: xs, h => by
    show NestedKey.depthAll (f x :: xs.map f) ≤ n
    have h1 := h x List.mem_cons_self
    have h2 := depth_allN (f := f) (n := n) (xs := xs) fun y hy => h y (List.mem_cons_of_mem _ hy)
    simp only [NestedKey.depthAll]
    omega
end MK
set_option Elab.async false
set_option linter.all false
set_option autoImplicit false
set_option maxRecDepth 100000
set_option maxHeartbeats 2000000
namespace MK
open PySem PySem.Spec PyProof.Rows L2
theorem NoT.dk {H : Hp} {d : Addr} {kvs : List (L2.Key × V)} (h : H d = some (.dK kvs)) : NoT H d := fun ys r => by
  rcases r with r | ⟨o, r⟩ <;> rw [h] at r <;> cases r
/-- a place that is named, if its class has no number yet -/
def addW (c : Pl → Nat) (pls : List Pl) (p : Way) : List Pl := if p.2 = dn ∨ (c p.2 : Int) ∈ pls.map (fun k => (c k : Int)) then pls else pls ++ [p.2]
def grow (W : Pl → List Way) (c : Pl → Nat) (st : Pl) : Nat → List Pl
  | 0 => [st]
  | i + 1 => match (grow W c st i)[i]? with
    | some k => (W k).foldl (addW c) (grow W c st i)
    | none => grow W c st i
/-- the way has its number -/
def Has (c : Pl → Nat) (pls : List Pl) (p : Way) : Prop := p.2 = dn ∨ (c p.2 : Int) ∈ pls.map fun k => (c k : Int)
section
variable {W : Pl → List Way} {c : Pl → Nat} {pls : List Pl} {p : Way}
theorem Has.pre (h : Has c pls p) (zs : List Pl) : Has c (pls ++ zs) p := h.imp id fun m => by rw [List.map_append]; exact List.mem_append_left _ m
/-- places of ks with distinct classes -/
def PlsOk (c : Pl → Nat) (ks pls : List Pl) : Prop := (pls.map fun k => (c k : Int)).Nodup ∧ ∀ k ∈ pls, k ∈ ks
theorem nodup_of_map {α β : Type} {f : α → β} : ∀ {xs : List α}, (xs.map f).Nodup → xs.Nodup
  | [], _ => List.nodup_nil
  | x :: xs, h => by
    rw [List.map_cons, List.nodup_cons] at h
    exact List.nodup_cons.mpr ⟨fun m => h.1 (List.mem_map_of_mem m), nodup_of_map h.2⟩
theorem PlsOk.le {ks : List Pl} (h : PlsOk c ks pls) : pls.length ≤ ks.length := nodup_le (nodup_of_map h.1) h.2
end
section
variable {B B' : Hp} {K : PySem.W.Frag}
def PairV (K : PySem.W.Frag) (B : Hp) (x : V) (q : Str × Int) : Prop := ∃ t, x = .ref t ∧ SqT K B t [.str q.1, .int q.2]
def RowV (K : PySem.W.Frag) (B : Hp) (v : V) (row : List (Str × Int)) : Prop := ∃ l ps, v = .ref l ∧ B l = some (.lst ps) ∧ Al (PairV K B) ps row
theorem PairV.keep (e : Same B B') {x : V} {q : Str × Int} (h : PairV K B x q) : PairV K B' x q := let ⟨t, a, b⟩ := h; ⟨t, a, same_t e b⟩
theorem RowV.keep (e : Same B B') {v : V} {row : List (Str × Int)} (h : RowV K B v row) : RowV K B' v row := let ⟨l, ps, a, b, d⟩ := h; ⟨l, ps, a, e _ _ b, d.mono fun _ _ h => h.keep e⟩
end
end MK
set_option Elab.async false
set_option linter.all false
set_option autoImplicit false
set_option maxRecDepth 100000
set_option maxHeartbeats 2000000
namespace MK
open PySem PySem.Spec PyProof.Rows L2
def oV : Option Int → V
  | none => .non
  | some i => .int i
def markOf (deed : Str) (word : Int) : Option Int := if deed = "clear" then some 0 else if deed = "set" then some word else if deed = "add" ∧ word = 1 then some 1 else if deed = "strike" ∧ word = 1 then some 0 else none
structure Mk3 where
  very : Option Int
  held : Option Int
  isv : Bool
def mkStep (field : Str) (word : Int) (m : Mk3) (d : Str × Str) : Mk3 :=
  if d.2 ≠ field then m else
    let v := if d.1 = "fresh" then false else m.isv
    match markOf d.1 word with
    | none => ⟨m.very, m.held, v⟩
    | some x => ⟨if v then some x else m.very, some x, v⟩
def marksOf (ds : List (Str × Str)) (field : Str) (word : Int) : Mk3 := ds.foldl (mkStep field word) ⟨none, none, true⟩
def markedI (c : Int) : Option Int → Int
  | none => c
  | some m => m
def Bit (i : Int) : Prop := i = 0 ∨ i = 1
theorem mark_bit {deed : Str} {m : Int} (h : markOf deed 1 = some m) : Bit m := by
  unfold markOf at h
  split at h
  · exact .inl (Option.some.inj h).symm
  split at h
  · exact .inr (Option.some.inj h).symm
  split at h
  · exact .inr (Option.some.inj h).symm
  split at h
  · exact .inl (Option.some.inj h).symm
  · cases h
theorem step_bit {field : Str} {m : Mk3} {d : Str × Str} (h : ∀ x, m.held = some x → Bit x) : ∀ x, (mkStep field 1 m d).held = some x → Bit x := by
  intro x hx
  unfold mkStep at hx
  split at hx
  · exact h x hx
  · dsimp only at hx
    split at hx
    · exact h x hx
    · rename_i y hy
      cases hx
      exact mark_bit hy
theorem marks_bit (field : Str) : ∀ (ds : List (Str × Str)) (m : Mk3), (∀ x, m.held = some x → Bit x) → ∀ x, (ds.foldl (mkStep field 1) m).held = some x → Bit x
  | [], m, h => h
  | d :: ds, m, h => marks_bit field ds (mkStep field 1 m d) (step_bit h)
theorem marked_bit {c : Int} (hc : Bit c) (ds : List (Str × Str)) (field : Str) : Bit (markedI c (marksOf ds field 1).held) := by
  have h := marks_bit field ds ⟨none, none, true⟩ (fun x e => by cases e)
  cases q : (marksOf ds field 1).held with
  | none => exact hc
  | some m => exact h m q
structure RU where
  tag : Str
  a : Str
  b : Str
deriving DecidableEq
structure OD where
  fs : List FD
  n : Nat
  cs : List CD
  rs : List RU
def wantL (rs : List RU) (z : Str) : List Str := (rs.filter fun r => decide (r.tag = Str.ofString "ahead") && decide (r.b = z)).map (·.a)
def barL (rs : List RU) (z : Str) : List Str := (rs.filter fun r => !decide (r.tag = Str.ofString "ahead") && decide (r.b = z)).map (·.a)
def countL (cs : List CD) (rs : List RU) : List Str := (cs.map (·.nm)).filter fun z => decide (z ∈ rs.map (·.a))
def keepsB (rs : List RU) (z : Str) (seen : List Str) : Bool := (wantL rs z).all (fun x => decide (x ∈ seen)) && !(barL rs z).any (fun x => decide (x ∈ seen))
def contB (fs : List FD) (cd : CD) (cts : List Int) : List Int := (cts.zip fs).map fun p => if p.2.need then markedI p.1 (marksOf cd.deeds p.2.nm 1).held else 0
def plK (m : Int) (cts : List Int) (seen : List Str) : Pl := .tup [.num m, .tup (cts.map NestedKey.num), .tup (seen.map NestedKey.text)]
def lacksC (fs : List FD) (cts : List Int) : Bool := (cts.zip (fs.map (·.need))).any fun p => p.2 && decide (p.1 = 0)
def placeB (D : OD) (mode : Nat) (cts : List Int) (seen : List Str) (cd : CD) : Option Pl :=
  if (cd.moves.getD mode (-1)) = -1 ∨ keepsB D.rs cd.nm seen = false then none
  else if cd.hand = Str.ofString "last" then (if lacksC D.fs (contB D.fs cd cts) then none else some dn)
  else some (plK (cd.moves.getD mode (-1)) (contB D.fs cd cts) ((countL D.cs D.rs).filter fun o => decide (o = cd.nm) || decide (o ∈ seen)))
def intN : NestedKey → Int
  | .num i => i
  | _ => 0
def textN : NestedKey → Str
  | .text z => z
  | _ => Str.empty
/-- the ways from a place -/
def waysO (D : OD) : Pl → List Way
  | .tup [.num m, .tup cts, .tup seen] => D.cs.filterMap fun cd => (placeB D m.toNat (cts.map intN) (seen.map textN) cd).map fun p => (cd.nm, p)
  | _ => []
theorem waysO_pl (D : OD) (m : Nat) (cts : List Int) (seen : List Str) : waysO D (plK m cts seen) = D.cs.filterMap fun cd => (placeB D m cts seen cd).map fun p => (cd.nm, p) := by
  have e1 : (cts.map NestedKey.num).map intN = cts := by
    rw [List.map_map]
    exact List.map_id cts
  have e2 : (seen.map NestedKey.text).map textN = seen := by
    rw [List.map_map]
    exact List.map_id seen
  show (D.cs.filterMap fun cd => (placeB D (m : Int).toNat ((cts.map NestedKey.num).map intN) ((seen.map NestedKey.text).map textN) cd).map fun p => (cd.nm, p)) = _
  rw [e1, e2, Int.toNat_natCast]
def startO (D : OD) : Pl := plK 0 (D.fs.map fun _ => 0) []
def bitsL : Nat → List (List Int)
  | 0 => [[]]
  | n + 1 => (bitsL n).map (0 :: ·) ++ (bitsL n).map (1 :: ·)
def subsL : List Str → List (List Str)
  | [] => [[]]
  | x :: xs => subsL xs ++ (subsL xs).map (x :: ·)
theorem bits_mem : ∀ {cts : List Int} {n : Nat}, cts.length = n → (∀ c ∈ cts, Bit c) → cts ∈ bitsL n
  | [], 0, _, _ => List.mem_singleton.mpr rfl
  | c :: cts, n + 1, e, h => by
    have ih := bits_mem (cts := cts) (n := n) (Nat.succ.inj e) fun x hx => h x (List.mem_cons_of_mem _ hx)
    show c :: cts ∈ (bitsL n).map (0 :: ·) ++ (bitsL n).map (1 :: ·)
    rw [List.mem_append]
    rcases h c List.mem_cons_self with rfl | rfl
    · exact .inl (List.mem_map_of_mem ih)
    · exact .inr (List.mem_map_of_mem ih)
  | [], _ + 1, e, _ => by cases e
  | _ :: _, 0, e, _ => by cases e
theorem bits_of : ∀ {n : Nat} {cts : List Int}, cts ∈ bitsL n → cts.length = n ∧ ∀ c ∈ cts, Bit c
  | 0, cts, h => by
    rw [List.mem_singleton.mp h]
    exact ⟨rfl, nofun⟩
  | n + 1, cts, h => by
    rcases List.mem_append.mp (show cts ∈ (bitsL n).map (0 :: ·) ++ (bitsL n).map (1 :: ·) from h) with h | h <;> obtain ⟨t, ht, rfl⟩ := List.mem_map.mp h <;> obtain ⟨l, b⟩ := bits_of ht
    · exact ⟨by rw [List.length_cons, l], fun c hc => (List.mem_cons.mp hc).elim (fun e => .inl e) (b c)⟩
    · exact ⟨by rw [List.length_cons, l], fun c hc => (List.mem_cons.mp hc).elim (fun e => .inr e) (b c)⟩
theorem bits_len : ∀ n : Nat, (bitsL n).length = 2 ^ n
  | 0 => rfl
  | n + 1 => by
    show ((bitsL n).map (0 :: ·) ++ (bitsL n).map (1 :: ·)).length = _
    rw [List.length_append, List.length_map, List.length_map, bits_len n, Nat.pow_succ]
    omega
theorem subs_mem (f : Str → Bool) : ∀ xs : List Str, xs.filter f ∈ subsL xs
  | [] => List.mem_singleton.mpr rfl
  | x :: xs => by
    show _ ∈ subsL xs ++ (subsL xs).map (x :: ·)
    rw [List.mem_append]
    by_cases h : f x = true
    · rw [List.filter_cons_of_pos h]
      exact .inr (List.mem_map_of_mem (subs_mem f xs))
    · rw [List.filter_cons_of_neg h]
      exact .inl (subs_mem f xs)
theorem subs_nil : ∀ xs : List Str, [] ∈ subsL xs
  | [] => List.mem_singleton.mpr rfl
  | _ :: xs => List.mem_append_left _ (subs_nil xs)
theorem subs_len : ∀ xs : List Str, (subsL xs).length = 2 ^ xs.length
  | [] => rfl
  | x :: xs => by
    show (subsL xs ++ (subsL xs).map (x :: ·)).length = _
    rw [List.length_append, List.length_map, subs_len xs, List.length_cons, Nat.pow_succ]
    omega
theorem subs_le : ∀ {xs ys : List Str}, ys ∈ subsL xs → ys.length ≤ xs.length
  | [], ys, h => by
    rw [List.mem_singleton.mp h]
    exact Nat.le_refl _
  | x :: xs, ys, h => by
    rcases List.mem_append.mp (show ys ∈ subsL xs ++ (subsL xs).map (x :: ·) from h) with h | h
    · exact Nat.le_succ_of_le (subs_le h)
    · obtain ⟨t, ht, rfl⟩ := List.mem_map.mp h
      exact Nat.succ_le_succ (subs_le ht)
def allO (D : OD) : List Pl := (List.range D.n).flatMap fun m => (bitsL D.fs.length).flatMap fun cts => (subsL (countL D.cs D.rs)).map fun seen => plK (m : Nat) cts seen
theorem mem_allO {D : OD} {k : Pl} : k ∈ allO D ↔ ∃ (m : Nat) (cts : List Int) (seen : List Str), m < D.n ∧ cts ∈ bitsL D.fs.length ∧ seen ∈ subsL (countL D.cs D.rs) ∧ k = plK m cts seen := by
  unfold allO
  rw [List.mem_flatMap]
  constructor
  · rintro ⟨m, hm, h⟩
    obtain ⟨cts, hc, h⟩ := List.mem_flatMap.mp h
    obtain ⟨seen, hs, rfl⟩ := List.mem_map.mp h
    exact ⟨m, cts, seen, List.mem_range.mp hm, hc, hs, rfl⟩
  · rintro ⟨m, cts, seen, hm, hc, hs, rfl⟩
    exact ⟨m, List.mem_range.mpr hm, List.mem_flatMap.mpr ⟨cts, hc, List.mem_map_of_mem hs⟩⟩
theorem flat_lenN {α β : Type} {f : α → List β} {n : Nat} : ∀ {xs : List α}, (∀ x ∈ xs, (f x).length = n) → (xs.flatMap f).length = xs.length * n
  | [], _ => by simp
  | x :: xs, h => by
    rw [List.flatMap_cons, List.length_append, h x List.mem_cons_self, flat_lenN fun y hy => h y (List.mem_cons_of_mem _ hy), List.length_cons, Nat.succ_mul]
    omega
theorem allO_len (D : OD) : (allO D).length = D.n * (2 ^ D.fs.length * 2 ^ (countL D.cs D.rs).length) := by
  unfold allO
  rw [flat_lenN (n := 2 ^ D.fs.length * 2 ^ (countL D.cs D.rs).length) fun m _ => ?_, List.length_range]
  rw [flat_lenN (n := 2 ^ (countL D.cs D.rs).length) fun c _ => by rw [List.length_map, subs_len], bits_len]
structure ODOk (D : OD) : Prop where
  kd : KdOk D.fs D.n D.cs
  few : D.n * (2 ^ D.fs.length * 2 ^ (countL D.cs D.rs).length) ≤ 300
  rs : D.rs.length ≤ 10
theorem contB_len {fs : List FD} {cd : CD} {cts : List Int} (h : cts.length = fs.length) : (contB fs cd cts).length = fs.length := by
  unfold contB
  rw [List.length_map, List.length_zip, h, Nat.min_self]
theorem contB_bit {fs : List FD} {cd : CD} {cts : List Int} (h : ∀ c ∈ cts, Bit c) : ∀ c ∈ contB fs cd cts, Bit c := by
  intro c hc
  obtain ⟨⟨x, f⟩, hp, rfl⟩ := List.mem_map.mp hc
  have hx := (List.of_mem_zip hp).1
  dsimp only
  split
  · exact marked_bit (h x hx) _ _
  · exact .inl rfl
theorem place_in {D : OD} (ok : ODOk D) {m : Nat} {cts : List Int} {seen : List Str} {cd : CD} {p : Pl} (hm : m < D.n) (hc : cts ∈ bitsL D.fs.length) (hcd : cd ∈ D.cs) (h : placeB D m cts seen cd = some p) : p = dn ∨ p ∈ allO D := by
  unfold placeB at h
  obtain ⟨lc, bc⟩ := bits_of hc
  split at h
  · cases h
  rename_i g
  split at h
  · split at h
    · cases h
    · exact .inl (Option.some.inj h).symm
  · obtain rfl := Option.some.inj h
    have co := ok.kd.calls cd hcd
    have lm : m < cd.moves.length := by rw [co.len]; exact hm
    have em : cd.moves.getD m (-1) = cd.moves[m] := by rw [List.getD_eq_getElem?_getD, List.getElem?_eq_getElem lm]; rfl
    obtain ⟨h1, h2⟩ := co.move _ (List.getElem_mem lm)
    have h3 : cd.moves.getD m (-1) ≠ -1 := fun e => g (.inl e)
    rw [em] at h3
    refine .inr (mem_allO.mpr ⟨(cd.moves[m]).toNat, contB D.fs cd cts, (countL D.cs D.rs).filter fun o => decide (o = cd.nm) || decide (o ∈ seen), by omega, bits_mem (contB_len lc) (contB_bit bc), subs_mem _ _, ?_⟩)
    rw [em, Int.toNat_of_nonneg (by omega)]
theorem plK_ok (m : Int) (cts : List Int) (seen : List Str) : IsPl (plK m cts seen) := by
  refine ⟨⟨_, rfl⟩, ?_⟩
  have h1 := depth_allN (f := NestedKey.num) (n := 0) (xs := cts) fun _ _ => Nat.le_refl _
  have h2 := depth_allN (f := NestedKey.text) (n := 0) (xs := seen) fun _ _ => Nat.le_refl _
  unfold plK
  simp only [NestedKey.depth, NestedKey.depthAll]
  omega
theorem walkO {D : OD} (ok : ODOk D) : WkOk (startO D) (waysO D) (allO D) := by
  refine ⟨mem_allO.mpr ⟨0, _, [], ok.kd.pos, bits_mem (by rw [List.length_map]) (fun c hc => ?_), subs_nil _, rfl⟩, fun k hk p hp => ?_, fun k hk => ?_, by rw [allO_len]; exact ok.few, fun k hk => ?_⟩
  · obtain ⟨f, _, rfl⟩ := List.mem_map.mp hc
    exact .inl rfl
  · obtain ⟨m, cts, seen, hm, hc, hs, rfl⟩ := mem_allO.mp hk
    rw [waysO_pl, List.mem_filterMap] at hp
    obtain ⟨cd, hcd, e⟩ := hp
    obtain ⟨q, hq, rfl⟩ := Option.map_eq_some_iff.mp e
    exact place_in ok hm hc hcd hq
  · obtain ⟨m, cts, seen, hm, hc, hs, rfl⟩ := mem_allO.mp hk
    exact plK_ok _ _ _
  · obtain ⟨m, cts, seen, hm, hc, hs, rfl⟩ := mem_allO.mp hk
    rw [waysO_pl]
    have := List.length_filterMap_le (fun cd => (placeB D m cts seen cd).map fun p => (cd.nm, p)) D.cs
    have := ok.kd.cle
    omega
section
variable {K : PySem.W.Frag} {H : Hp}
theorem nk_nums {cts : List Int} {v : V} (h : Nk K H (.tup (cts.map NestedKey.num)) v) : ∃ p, v = .ref p ∧ SqT K H p (cts.map V.int) := by
  cases h with
  | @tup a xs _ ha hl f =>
    refine ⟨a, rfl, ?_⟩
    have e : xs = cts.map V.int := by
      rw [List.length_map] at hl
      apply List.ext_getElem (by rw [List.length_map]; exact hl)
      intro i h1 h2
      have := f i (.num (cts[i]'(by rw [List.length_map] at h2; exact h2))) xs[i] (by rw [List.getElem?_map, List.getElem?_eq_getElem]; rfl) (List.getElem?_eq_getElem h1)
      rw [List.getElem_map]
      generalize xs[i] = y at this
      cases this
      rfl
    rw [← e]
    exact ha
theorem nk_texts {seen : List Str} {v : V} (h : Nk K H (.tup (seen.map NestedKey.text)) v) : ∃ p, v = .ref p ∧ SqT K H p (seen.map V.str) := by
  cases h with
  | @tup a xs _ ha hl f =>
    refine ⟨a, rfl, ?_⟩
    have e : xs = seen.map V.str := by
      rw [List.length_map] at hl
      apply List.ext_getElem (by rw [List.length_map]; exact hl)
      intro i h1 h2
      have := f i (.text (seen[i]'(by rw [List.length_map] at h2; exact h2))) xs[i] (by rw [List.getElem?_map, List.getElem?_eq_getElem]; rfl) (List.getElem?_eq_getElem h1)
      rw [List.getElem_map]
      generalize xs[i] = y at this
      cases this
      rfl
    rw [← e]
    exact ha
theorem nums_nk {cts : List Int} {p : Addr} (h : SqT K H p (cts.map V.int)) : Nk K H (.tup (cts.map NestedKey.num)) (.ref p) := .tup h (by rw [List.length_map, List.length_map]) fun i k x h1 h2 => by
  rw [List.getElem?_map] at h1 h2
  obtain ⟨a, ha, rfl⟩ := Option.map_eq_some_iff.mp h1
  rw [ha] at h2
  cases h2
  exact .int _
theorem texts_nk {seen : List Str} {p : Addr} (h : SqT K H p (seen.map V.str)) : Nk K H (.tup (seen.map NestedKey.text)) (.ref p) := .tup h (by rw [List.length_map, List.length_map]) fun i k x h1 h2 => by
  rw [List.getElem?_map] at h1 h2
  obtain ⟨a, ha, rfl⟩ := Option.map_eq_some_iff.mp h1
  rw [ha] at h2
  cases h2
  exact .str _
theorem nk_pl {m : Int} {cts : List Int} {seen : List Str} {v : V} (h : Nk K H (plK m cts seen) v) : ∃ b p q, v = .ref b ∧ SqT K H b [.int m, .ref p, .ref q] ∧ SqT K H p (cts.map V.int) ∧ SqT K H q (seen.map V.str) := by
  unfold plK at h
  cases h with
  | @tup a xs _ ha hl f =>
    match xs, hl, ha, f with
    | [x, y, z], _, ha, f =>
      have f0 := f 0 _ _ rfl rfl
      have f1 := f 1 _ _ rfl rfl
      have f2 := f 2 _ _ rfl rfl
      obtain ⟨p, rfl, hp⟩ := nk_nums f1
      obtain ⟨q, rfl, hq⟩ := nk_texts f2
      cases f0
      exact ⟨a, p, q, rfl, ha, hp, hq⟩
theorem pl_nk {m : Int} {cts : List Int} {seen : List Str} {b p q : Addr} (h : SqT K H b [.int m, .ref p, .ref q]) (hp : SqT K H p (cts.map V.int)) (hq : SqT K H q (seen.map V.str)) : Nk K H (plK m cts seen) (.ref b) := .tup h rfl fun i k x h1 h2 => by
  match i, h1, h2 with
  | 0, h1, h2 =>
    cases h1
    cases h2
    exact .int _
  | 1, h1, h2 =>
    cases h1
    cases h2
    exact nums_nk hp
  | 2, h1, h2 =>
    cases h1
    cases h2
    exact texts_nk hq
  | n + 3, h1, h2 => simp at h1
end
end MK
set_option Elab.async false
set_option linter.all false
set_option autoImplicit false
set_option maxRecDepth 100000
set_option maxHeartbeats 1000000
namespace MK
open PySem PySem.Spec PyProof.Rows L2
def ItzTL (K : PySem.W.Frag) (a b : Addr) : It :=
  ⟨fun i H => ∃ (xs ys : List V) (x y : V), SqT K H a xs ∧ SqL K H b ys ∧ xs[i]? = some x ∧ ys[i]? = some y,
    fun i H v H' => ∃ T x y, v = .ref T ∧ H T = none ∧ H' = upd H T (.tup [x, y]) ∧ (∀ xs, SqT K H a xs → xs[i]? = some x) ∧ ∀ ys, SqL K H b ys → ys[i]? = some y,
    fun i H => ∃ xs ys : List V, SqT K H a xs ∧ SqL K H b ys ∧ i ≤ xs.length ∧ i ≤ ys.length ∧ (xs.length = i ∨ ys.length = i)⟩
theorem turn_zipTL {P : Program} {w : World} {K : PySem.W.Frag} {elts : List Expr} {kk : Nat} {tpos : Pos} {a b z TI TO i1 i2 : Addr} (S : ZipSep2 z TI TO i1 i2 [i1, a] [i2, b]) (na : a ≠ i1) (nb : b ≠ i2) :
    Turn P w K (.Tuple elts kk tpos) (ItzTL K a b) [z, TI, TO, i1, i2] z (fun i h => IsZip h z TI TO .none ∧ IsTupOf2 h TI (.ref i1) (.ref i2) ∧ (∃ x y, IsTupOf2 h TO x y) ∧ h.IsTupleIter i1 a i ∧ h.IsListIter i2 b i) where
  mem := by simp
  obj := fun i h st c hc => by
    obtain ⟨hz, hTI, ⟨x, y, hTO⟩, ⟨o1, e1, _, d1⟩, ⟨o2, e2, _, d2⟩⟩ := st
    have e' : c = z ∨ c = TI ∨ c = TO ∨ c = i1 ∨ c = i2 := by simpa using hc
    rcases e' with q | q | q | q | q
    · rw [q]; exact ⟨_, hz, fun v q => nomatch q⟩
    · rw [q]; exact ⟨_, hTI, fun v q => nomatch q⟩
    · rw [q]; exact ⟨_, hTO, fun v q => nomatch q⟩
    · rw [q]; exact ⟨o1, e1, fun v q => by rw [d1] at q; cases q⟩
    · rw [q]; exact ⟨o2, e2, fun v q => by rw [d2] at q; cases q⟩
  keep := fun i h h' st k => by
    obtain ⟨hz, hTI, ⟨x, y, hTO⟩, h1, h2⟩ := st
    exact ⟨k z (by simp) _ hz, k TI (by simp) _ hTI, ⟨x, y, k TO (by simp) _ hTO⟩, h1.at fun o q => k i1 (by simp) o q, h2.at fun o q => k i2 (by simp) o q⟩
  item := by
    intro X hP hw hK hc i pins s σ H E I hf st hg
    subst hP hw hK
    obtain ⟨hz, hTI, ⟨x0, y0, hTO⟩, h1, h2⟩ := st
    obtain ⟨xs, ys, x, y, hqx, hqy, hx, hy⟩ := hg
    obtain ⟨its, rv, p, _⟩ := I.tuple hqx
    obtain ⟨its2, rv2, p2, _⟩ := I.list hqy
    obtain ⟨u, hu, ru⟩ := rv.get hx
    obtain ⟨u2, hu2, ru2⟩ := rv2.get hy
    have hh : X.A.in1.handled = none := I.ok.hd hc
    have D1 := Draws.tuple (prog := X.prog) (w := X.w) hh i1 a na its.toArray
    have D2 := Draws.list (prog := X.prog) (w := X.w) hh i2 b nb its2.toArray
    have hzl : z < s.heap.objs.size := Heap.lt_size hz
    have hu' : its.toArray[i]? = some u := by simpa using hu
    have hu2' : its2.toArray[i]? = some u2 := by simpa using hu2
    refine wpAny_pyNext_zipD2_item S D1 D2 hz hTI hTO ⟨h1, p⟩ ⟨h2, p2.isList⟩ (Array.getElem?_eq_some_iff.mp hu').1 (Array.getElem?_eq_some_iff.mp hu2').1 fun v1 v2 h' tk hv1 hv2 z' TO' h1' h2' hT hsz hk => ?_
    obtain rfl : v1 = u := Option.some.inj ((show its.toArray[i]? = some v1 from hv1).symm.trans hu')
    obtain rfl : v2 = u2 := Option.some.inj ((show its2.toArray[i]? = some v2 from hv2).symm.trans hu2')
    refine ⟨_, rfl, wpAny_letOwnedTupleGo_zip (s := { s with heap := h', toks := tk }) z' fun h'' z'' sb => ?_⟩
    have hT2 : h''.get? s.heap.objs.size = some { cls := .type "tuple", data := .seq #[v1, v2] } := (sb.2 _ (Nat.ne_of_gt hzl)).trans hT
    have new : ObjOk X.prog X.w (upd H s.heap.objs.size (.tup [x, y])) h'' s.heap.objs.size (.tup [x, y]) :=
      ⟨by show 2 ≤ sizeLine; decide, [v1, v2], .cons ru (.cons ru2 .nil), ⟨_, hT2, rfl, _, rfl⟩⟩
    have I1 : Inv X pins σ (upd H s.heap.objs.size (.tup [x, y])) { s with heap := h'', toks := tk } :=
      I.turnedNew (t' := tk) (ch := [z, TI, TO, i1, i2]) (fun c o hb q => (sb.2 c (fun q' => hb (by simp [q']))).trans (hk c o (fun q' => hb (by simp [q'])) (fun q' => hb (by simp [q'])) (fun q' => hb (by simp [q'])) (fun q' => hb (by simp [q'])) q)) hf (Nat.le_refl _) new
    refine ⟨.ref s.heap.objs.size, _, I1, rfl, ⟨_, x, y, rfl, I.hok.fresh (Nat.le_refl _), rfl, fun l hl => by rw [I.tuple_inj hl hqx]; exact hx, fun l hl => by rw [I.list_inj hl hqy]; exact hy⟩, ⟨z'', ?_, ⟨v1, v2, ?_⟩, ?_, ?_⟩, fun c hcm => ?_⟩
    · exact (sb.2 _ S.TIz).trans (hk _ _ S.TIz S.TITO S.TIi1 S.TIi2 hTI)
    · exact (sb.2 _ S.TOz).trans TO'
    · exact h1'.1.at fun o q => (sb.2 _ (Ne.symm S.zi1)).trans q
    · exact h2'.1.at fun o q => (sb.2 _ (Ne.symm S.zi2)).trans q
    · have hlt : c < s.heap.objs.size := by
        have e' : c = z ∨ c = TI ∨ c = TO ∨ c = i1 ∨ c = i2 := by simpa using hcm
        rcases e' with q | q | q | q | q
        · rw [q]; exact hzl
        · rw [q]; exact Heap.lt_size hTI
        · rw [q]; exact Heap.lt_size hTO
        · rw [q]; obtain ⟨_, e1, _⟩ := h1; exact Heap.lt_size e1
        · rw [q]; obtain ⟨_, e2, _⟩ := h2; exact Heap.lt_size e2
      rw [upd_ne (Nat.ne_of_lt hlt)]
      exact (hf c hcm).1
  done := by
    intro X hP hw hK hc i pins s σ H E I hf st hg
    subst hP hw hK
    obtain ⟨hz, hTI, ⟨x0, y0, hTO⟩, h1, h2⟩ := st
    obtain ⟨xs, ys, hqx, hqy, l1, l2, hend⟩ := hg
    obtain ⟨its, rv, p, _⟩ := I.tuple hqx
    obtain ⟨its2, rv2, p2, _⟩ := I.list hqy
    have e1 := rv.length
    have e2 := rv2.length
    have hh : X.A.in1.handled = none := I.ok.hd hc
    have D1 := Draws.tuple (prog := X.prog) (w := X.w) hh i1 a na its.toArray
    have D2 := Draws.list (prog := X.prog) (w := X.w) hh i2 b nb its2.toArray
    exact wpAny_pyNext_zipD2_end S D1 D2 hz hTI hTO ⟨h1, p⟩ ⟨h2, p2.isList⟩ (by simp; omega) (by simp; omega) (by simp; omega) fun h' tk hk => ⟨rfl, I.turnedL (t' := tk) (ch := [z, TI, TO, i1, i2]) (fun c o hb q =>
      hk c o (fun q' => hb (by simp [q'])) (fun q' => hb (by simp [q'])) (fun q' => hb (by simp [q'])) (fun q' => hb (by simp [q'])) q) hf⟩
  self := fun A i s Q E st h => wpAny_pyIter_zip st.1 h
def iZipTL (K : PySem.W.Frag) (ta : TA) : TI := fun σ H R => ta σ H fun vs H1 => ∃ a b xs ys, vs = [.ref a, .ref b] ∧ SqT K H1 a xs ∧ SqL K H1 b ys ∧ R (ItzTL K a b) H1
theorem pi_zipTL {X : Cx} {e e2 : Expr} {ta : TA} {p pos tpos : Pos} {elts : List Expr} {kk : Nat} (hg : Gl X "zip") (hm : X.mg "zip" = none) (ha : PA X [e, e2] ta)
    (hs : starEach [e, e2] X.env = (false, eval e X.env) :: starEach [e2] X.env := by rfl) (hpl : (backTo pos (starEach [e2] X.env)).any (·.1) = false := by rfl) :
    PI X (.Tuple elts kk tpos) (.Call (.Name "zip" p) [e, e2] [] pos) (iZipTL X.K ta) := by
  refine ⟨fun pins s σ H R I h => ?_⟩
  refine Call_ (ld_blt I hg hm PyProof.Rows.boot_zip (PyProof.Rows.callWith_type1 (thn (ha.run pos pins s σ H _ I h) fun us s1 ⟨vs, H1, I1, r1, q1⟩ => ?_) hs hpl))
  obtain ⟨a, b, xs, ys, ex, hqx, hqy, q⟩ := q1
  subst ex
  cases r1 with
  | cons r rr =>
    cases rr with
    | cons r' rr =>
      cases rr
      cases r
      cases r'
      have fresh5 : ∀ c, c ∈ [s1.heap.objs.size + 4, s1.heap.objs.size + 2, s1.heap.objs.size + 3, s1.heap.objs.size, s1.heap.objs.size + 1] → FpOk X pins H1 c := fun c hcm => by
        have e' : c = s1.heap.objs.size + 4 ∨ c = s1.heap.objs.size + 2 ∨ c = s1.heap.objs.size + 3 ∨ c = s1.heap.objs.size ∨ c = s1.heap.objs.size + 1 := by simpa using hcm
        have hle : s1.heap.objs.size ≤ c := by
          rcases e' with z | z | z | z | z
          · rw [z]; exact Nat.le_add_right _ _
          · rw [z]; exact Nat.le_add_right _ _
          · rw [z]; exact Nat.le_add_right _ _
          · rw [z]; exact Nat.le_refl _
          · rw [z]; exact Nat.le_add_right _ _
        exact I1.fpOk hle (I1.hok.fresh hle)
      obtain ⟨its, rv, p1, _⟩ := I1.tuple hqx
      obtain ⟨its2, rv2, p2, _⟩ := I1.list hqy
      obtain ⟨o2, ho2, _⟩ := id p1
      have la : a < s1.heap.objs.size := Heap.lt_size ho2
      have lb : b < s1.heap.objs.size := p2.lt
      refine zip_begins2 (begins_tuple a its.toArray) (begins_list b its2.toArray) p1 p2.isList fun h' hz hTI hTO h1 h2 hsz hk => wpAny_pyIter_zip hz ?_
      have I2 : Inv X pins σ H1 { s1 with heap := h' } := I1.kept (t' := s1.toks) hk
      exact ⟨s1.heap.objs.size + 4, [s1.heap.objs.size + 4, s1.heap.objs.size + 2, s1.heap.objs.size + 3, s1.heap.objs.size, s1.heap.objs.size + 1], _, _, H1, rfl, I2, turn_zipTL (a := a) (b := b) (apartLT s1.heap.objs.size a b la lb) (Nat.ne_of_lt la) (Nat.ne_of_lt (Nat.lt_succ_of_lt lb)), ⟨hz, hTI, ⟨_, _, hTO⟩, ⟨_, h1, rfl, rfl⟩, ⟨_, h2, rfl, rfl⟩⟩, fresh5, q⟩
theorem walk_zipTL {K : PySem.W.Frag} {a b : Addr} {xs ys : List V} {n : Nat} (h1 : xs.length = n) (h2 : ys.length = n) : Walk (ItzTL K a b) n (fun H => SqT K H a xs ∧ SqL K H b ys) (YPair (fun i => xs[i]?) (fun i => ys[i]?)) := by
  refine ⟨fun i _ hi q => ⟨xs, ys, _, _, q.1, q.2, List.getElem?_eq_getElem (by omega), List.getElem?_eq_getElem (by omega)⟩, fun _ q => ⟨xs, ys, q.1, q.2, by omega, by omega, .inl h1⟩, fun i H v H' _ q y => ?_⟩
  obtain ⟨T, x, y, e1, e2, e3, e4, e5⟩ := y
  exact ⟨T, x, y, e1, e2, e3, e4 _ q.1, e5 _ q.2⟩
end MK
set_option Elab.async false
set_option linter.all false
set_option autoImplicit false
set_option maxRecDepth 100000
set_option maxHeartbeats 2000000
namespace MK
open PySem PySem.Spec PyProof.Rows L2
end MK
set_option Elab.async false
set_option linter.all false
set_option autoImplicit false
set_option maxRecDepth 100000
set_option maxHeartbeats 2000000
namespace MK
open PySem PySem.Spec PyProof.Rows L2
abbrev VRaw := List (NestedKey × Value × Value)
def entV (w : World) (x : NestedKey × Value × Value) : DictEntry := { hash := NestedKey.hash w x.1, key := x.2.1, val := x.2.2 }
theorem nk_beq (x y : NestedKey) : x.beq y = decide (x = y) := by
  by_cases e : x = y
  · subst e
    rw [NestedKey.beq_self, decide_eq_true rfl]
  · rw [decide_eq_false e]
    cases h : x.beq y with
    | false => rfl
    | true => exact absurd (NestedKey.eq_of_beq _ _ h) e
/-- where the key stands -/
def posV (xs : VRaw) (k : NestedKey) : Option Nat := xs.findIdx? fun x => decide (x.1 = k)
/-- all that a look for a key asks -/
structure FindV (w : World) (A : Around) (h : Heap) (d : Addr) (key : Value) (k : NestedKey) (o : Obj) (es : Array DictEntry) (ep : Nat) (xs : VRaw) : Prop where
  room : A.units + 8 < cLine
  is : NestedIs h k key
  dep : k.depth ≤ 8
  at_ : h.get? d = some o
  dat : o.data = .dict es ep
  ent : es.toList = xs.map (entV w)
  all : ∀ x ∈ xs, NestedIs h x.1 x.2.1 ∧ x.1.depth ≤ 8
  nd : (xs.map (·.1)).Nodup
section
variable {prog : Program} {w : World} {A : Around} {E : Value → Shared → Prop} {s : Shared} {d : Addr} {key : Value} {k : NestedKey} {o : Obj} {es : Array DictEntry} {ep : Nat} {xs : VRaw}
theorem FindV.getE (F : FindV w A s.heap d key k o es ep xs) (i : Nat) : es[i]? = (xs[i]?).map (entV w) := by
  rw [← Array.getElem?_toList, F.ent, List.getElem?_map]
theorem FindV.size (F : FindV w A s.heap d key k o es ep xs) : es.size = xs.length := by
  rw [← Array.length_toList, F.ent, List.length_map]
theorem FindV.uniq (F : FindV w A s.heap d key k o es ep xs) {i j : Nat} {x y : NestedKey × Value × Value} (hi : xs[i]? = some x) (hj : xs[j]? = some y) (e : x.1 = y.1) : i = j := by
  have h1 : (xs.map (·.1))[i]? = some x.1 := by rw [List.getElem?_map, hi]; rfl
  have h2 : (xs.map (·.1))[j]? = some x.1 := by rw [List.getElem?_map, hj, e]; rfl
  obtain ⟨l1, g1⟩ := List.getElem?_eq_some_iff.mp h1
  obtain ⟨l2, g2⟩ := List.getElem?_eq_some_iff.mp h2
  exact (List.getElem_inj F.nd).mp (g1.trans g2.symm)
theorem posV_some {i : Nat} (h : posV xs k = some i) : ∃ x, xs[i]? = some x ∧ x.1 = k := by
  obtain ⟨l, h1, _⟩ := List.findIdx?_eq_some_iff_getElem.mp h
  exact ⟨xs[i], List.getElem?_eq_getElem l, of_decide_eq_true h1⟩
theorem posV_none (h : posV xs k = none) {i : Nat} {x : NestedKey × Value × Value} (hi : xs[i]? = some x) : x.1 ≠ k := fun e => by
  have := List.findIdx?_eq_none_iff.mp h x (List.mem_of_getElem? hi)
  rw [decide_eq_true e] at this
  cases this
theorem FindV.pos (F : FindV w A s.heap d key k o es ep xs) {i : Nat} {x : NestedKey × Value × Value} (hi : xs[i]? = some x) (e : x.1 = k) : posV xs k = some i := by
  cases h : posV xs k with
  | none => exact absurd e (posV_none h hi)
  | some j =>
    obtain ⟨y, hy, ey⟩ := posV_some h
    rw [F.uniq hi hy (e.trans ey.symm)]
/-- one stored key is asked for -/
theorem FindV.eqb (F : FindV w A s.heap d key k o es ep xs) {i : Nat} {x : NestedKey × Value × Value} (hi : xs[i]? = some x) {Q : Bool → Shared → Prop} (h : Q (decide (x.1 = k)) s) : wpAny (model prog w) A (eqBool (entV w x).key key) Q E s := by
  obtain ⟨h1, h2⟩ := F.all x (List.mem_of_getElem? hi)
  refine eqAt_key x.1 k A s x.2.1 key h1 F.is ?_ prog w E Q ?_
  · have := F.room
    have := Nat.min_le_right x.1.depth k.depth
    have := F.dep
    omega
  · rw [nk_beq]
    exact h
/-- the found place, if it is one of these -/
def ansV (xs : VRaw) (k : NestedKey) (L : List Nat) : Option Nat := (posV xs k).filter fun i => decide (i ∈ L)
theorem ansV_all {L : List Nat} (h : ∀ i, posV xs k = some i → i ∈ L) : ansV xs k L = posV xs k := by
  unfold ansV
  cases e : posV xs k with
  | none => rfl
  | some i => exact if_pos (decide_eq_true (h i e))
theorem FindV.ans_hit (F : FindV w A s.heap d key k o es ep xs) {i : Nat} {x : NestedKey × Value × Value} (hi : xs[i]? = some x) (e : x.1 = k) (L : List Nat) : ansV xs k (i :: L) = some i := by
  unfold ansV
  rw [F.pos hi e]
  exact if_pos (decide_eq_true (List.mem_cons_self))
theorem ans_miss {i : Nat} {x : NestedKey × Value × Value} (hi : xs[i]? = some x) (e : x.1 ≠ k) (L : List Nat) : ansV xs k (i :: L) = ansV xs k L := by
  unfold ansV
  cases h : posV xs k with
  | none => rfl
  | some j =>
    have n : j ≠ i := fun q => by
      obtain ⟨y, hy, ey⟩ := posV_some h
      rw [q, hi] at hy
      cases hy
      exact e ey
    have : (j ∈ i :: L) = (j ∈ L) := propext ⟨fun m => (List.mem_cons.mp m).resolve_left n, fun m => List.mem_cons_of_mem _ m⟩
    show (if decide (j ∈ i :: L) = true then some j else none) = (if decide (j ∈ L) = true then some j else none)
    simp only [this]
theorem FindV.plain (F : FindV w A s.heap d key k o es ep xs) {Q : Option Nat → Shared → Prop} : ∀ (L : List Nat), (∀ i ∈ L, i < xs.length) → Q (ansV xs k L) s → wpAny (model prog w) A (dictWalkPlain d key (NestedKey.hash w k) es L) Q E s := by
  intro L hL hq
  unfold dictWalkPlain
  refine wpAny_bind ?_
  induction L with
  | nil =>
    rw [List.forIn_nil]
    refine wpAny_pure (wpAny_pure ?_)
    have : ansV xs k [] = none := by
      unfold ansV
      cases posV xs k with
      | none => rfl
      | some i => rfl
    rw [← this]
    exact hq
  | cons i L ih =>
    obtain ⟨x, hx⟩ : ∃ x, xs[i]? = some x := ⟨_, List.getElem?_eq_getElem (hL i List.mem_cons_self)⟩
    have he : es[i]? = some (entV w x) := by rw [F.getE, hx]; rfl
    have hL' : ∀ j ∈ L, j < xs.length := fun j m => hL j (List.mem_cons_of_mem _ m)
    rw [List.forIn_cons]
    refine wpAny_bind ?_
    simp only [he]
    by_cases hh : ((entV w x).hash == NestedKey.hash w k) = true
    · rw [if_pos hh]
      refine wpAny_bind (wpAny_dictEpoch F.at_ F.dat (wpAny_bind (F.eqb hx (wpAny_bind (wpAny_dictEpoch F.at_ F.dat ?_)))))
      rw [if_neg (by simp)]
      by_cases e : x.1 = k
      · rw [decide_eq_true e, if_pos rfl]
        refine wpAny_bind (wpAny_rule (wpAny_pure (wpAny_pure (wpAny_pure ?_))))
        rw [← F.ans_hit hx e L]
        exact hq
      · rw [decide_eq_false e, if_neg (by simp)]
        refine wpAny_bind (wpAny_rule (wpAny_pure (ih hL' ?_)))
        rw [← ans_miss hx e L]
        exact hq
    · rw [if_neg hh]
      have e : x.1 ≠ k := fun e => hh (by subst e; exact beq_self_eq_true _)
      refine wpAny_pure (ih hL' ?_)
      rw [← ans_miss hx e L]
      exact hq
theorem wp_ite {α : Type} {M : Model} {c : Prop} [Decidable c] {a b : Sem α} {Q : α → Shared → Prop} (h1 : c → wpAny M A a Q E s) (h2 : ¬ c → wpAny M A b Q E s) : wpAny M A (if c then a else b) Q E s := by
  by_cases h : c
  · rw [if_pos h]; exact h1 h
  · rw [if_neg h]; exact h2 h
/-- one turn of a look: what it must hold -/
def TurnV (prog : Program) (w : World) (A : Around) (E : Value → Shared → Prop) (s : Shared) (xs : VRaw) (k : NestedKey) (short : Bool) (body : Nat → Option (Option Nat) × Option Nat → Sem (ForInStep (Option (Option Nat) × Option Nat))) : Prop :=
  ∀ (i : Nat) (x : NestedKey × Value × Value) (hit : Option Nat) (Q : ForInStep (Option (Option Nat) × Option Nat) → Shared → Prop), xs[i]? = some x →
    (x.1 = k → hit = none ∧ (if short = true then Q (.done (some (some i), none)) s else Q (.yield (none, some i)) s)) → (x.1 ≠ k → Q (.yield (none, hit)) s) → wpAny (model prog w) A (body i (none, hit)) Q E s
theorem ansV_nil : ansV xs k [] = none := by
  unfold ansV
  cases posV xs k with
  | none => rfl
  | some i => rfl
theorem turn_after {short : Bool} {body : Nat → Option (Option Nat) × Option Nat → Sem (ForInStep (Option (Option Nat) × Option Nat))} (hb : TurnV prog w A E s xs k short body) {j : Nat} (hj : posV xs k = some j) {Q : Option (Option Nat) × Option Nat → Shared → Prop} (hq : Q (none, some j) s) :
    ∀ (L : List Nat), (∀ i ∈ L, i < xs.length) → j ∉ L → (∀ (i : Nat) x, xs[i]? = some x → x.1 = k → i = j) → wpAny (model prog w) A (forIn L ((none, some j) : Option (Option Nat) × Option Nat) body) Q E s
  | [], _, _, _ => by rw [List.forIn_nil]; exact wpAny_pure hq
  | i :: L, hL, hn, hu => by
    obtain ⟨x, hx⟩ : ∃ x, xs[i]? = some x := ⟨_, List.getElem?_eq_getElem (hL i List.mem_cons_self)⟩
    have e : x.1 ≠ k := fun e => hn (by rw [← hu i x hx e]; exact List.mem_cons_self)
    rw [List.forIn_cons]
    refine wpAny_bind (hb i x (some j) _ hx (fun q => absurd q e) fun _ => ?_)
    exact turn_after hb hj hq L (fun a m => hL a (List.mem_cons_of_mem _ m)) (fun m => hn (List.mem_cons_of_mem _ m)) hu
theorem turn_all {short : Bool} {body : Nat → Option (Option Nat) × Option Nat → Sem (ForInStep (Option (Option Nat) × Option Nat))} (hb : TurnV prog w A E s xs k short body) {Q : Option (Option Nat) × Option Nat → Shared → Prop} (F : FindV w A s.heap d key k o es ep xs) :
    ∀ (L : List Nat), (∀ i ∈ L, i < xs.length) → L.Nodup → (ansV xs k L = none → Q (none, none) s) → (∀ i, ansV xs k L = some i → if short = true then Q (some (some i), none) s else Q (none, some i) s) →
      wpAny (model prog w) A (forIn L ((none, none) : Option (Option Nat) × Option Nat) body) Q E s
  | [], _, _, h1, _ => by rw [List.forIn_nil]; exact wpAny_pure (h1 ansV_nil)
  | i :: L, hL, hn, h1, h2 => by
    obtain ⟨x, hx⟩ : ∃ x, xs[i]? = some x := ⟨_, List.getElem?_eq_getElem (hL i List.mem_cons_self)⟩
    have hL' : ∀ j ∈ L, j < xs.length := fun j m => hL j (List.mem_cons_of_mem _ m)
    rw [List.forIn_cons]
    refine wpAny_bind (hb i x none _ hx (fun e => ⟨rfl, ?_⟩) fun e => ?_)
    · have q := h2 i (F.ans_hit hx e L)
      cases short with
      | true => exact wpAny_pure q
      | false => exact turn_after hb (F.pos hx e) q L hL' (List.nodup_cons.mp hn).1 fun j y hy ey => F.uniq hy hx (ey.trans e.symm)
    · exact turn_all hb F L hL' (List.nodup_cons.mp hn).2 (fun q => h1 (by rw [ans_miss hx e]; exact q)) fun j q => h2 j (by rw [ans_miss hx e]; exact q)
/-- nobody is asked who may tell -/
theorem tells_not {stored : List Value} (hk : NestedIs s.heap k key) (hd : k.depth ≤ 8) (hs : ∀ v ∈ stored, ∃ k', NestedIs s.heap k' v ∧ k'.depth ≤ 8) {Q : Bool → Shared → Prop} (h : Q false s) : wpAny (model prog w) A (tableMayTell key stored) Q E s := by
  unfold tableMayTell
  refine wp_ite (fun _ => wpAny_pure h) fun hy => wpAny_bind (quiet_key k key 8 s hk hd A E _ ?_)
  clear hy
  refine wp_ite (fun h => absurd h (by simp)) fun hz => wpAny_bind ?_
  clear hk hd hz
  induction stored with
  | nil => rw [List.forIn_nil]; exact wpAny_pure (wpAny_pure h)
  | cons v vs ih =>
    obtain ⟨k', h1, h2⟩ := hs v List.mem_cons_self
    rw [List.forIn_cons]
    refine wpAny_bind (wpAny_bind (quiet_key k' v 8 s h1 h2 A E _ ?_))
    refine wp_ite (fun h => absurd h (by simp)) fun _ => wpAny_pure ?_
    exact ih fun u m => hs u (List.mem_cons_of_mem _ m)
theorem FindV.places (F : FindV w A s.heap d key k o es ep xs) (hh : Int) : (∀ i ∈ placesWithHash es.size (fun i => Option.map (fun x => x.hash) es[i]?) hh, i < xs.length) ∧ (placesWithHash es.size (fun i => Option.map (fun x => x.hash) es[i]?) hh).Nodup := by
  unfold placesWithHash
  refine ⟨fun i m => ?_, List.Pairwise.filter _ List.nodup_range⟩
  have := List.mem_range.mp (List.mem_filter.mp m).1
  rwa [F.size] at this
theorem FindV.there (F : FindV w A s.heap d key k o es ep xs) : ansV xs k (placesWithHash es.size (fun i => Option.map (fun x => x.hash) es[i]?) (NestedKey.hash w k)) = posV xs k := by
  refine ansV_all fun i h => ?_
  obtain ⟨x, hx, e⟩ := posV_some h
  unfold placesWithHash
  refine List.mem_filter.mpr ⟨List.mem_range.mpr ?_, ?_⟩
  · rw [F.size]
    exact (List.getElem?_eq_some_iff.mp hx).1
  · dsimp only
    rw [F.getE, hx]
    subst e
    exact beq_self_eq_true _
theorem FindV.stored (F : FindV w A s.heap d key k o es ep xs) (L : List Nat) : ∀ v ∈ List.filterMap (fun i => Option.map (fun x => x.key) es[i]?) L, ∃ k', NestedIs s.heap k' v ∧ k'.depth ≤ 8 := by
  intro v m
  obtain ⟨i, _, h⟩ := List.mem_filterMap.mp m
  rw [F.getE] at h
  cases hx : xs[i]? with
  | none => rw [hx] at h; cases h
  | some x =>
    rw [hx] at h
    cases h
    exact ⟨x.1, F.all x (List.mem_of_getElem? hx)⟩
theorem FindV.find0 (F : FindV w A s.heap d key k o es ep xs) (hns : (∃ z t, key = .str z t) → (es.all fun e => isExactStrKey e.key) = false) {Q : Option Nat → Shared → Prop} (h : Q (posV xs k) s) : wpAny (model prog w) A (dictFind d key (NestedKey.hash w k)) Q E s := by
  have hk := F.is
  have hr : ∀ a, key = .ref a → (es.any fun e => e.key == key && e.hash != NestedKey.hash w k) = false := by
    intro a ea
    rw [Array.any_eq_false']
    intro e m
    have m' : e ∈ es.toList := by simpa using m
    rw [F.ent] at m'
    obtain ⟨x, hx, rfl⟩ := List.mem_map.mp m'
    by_cases q : x.2.1 = key
    · have : x.1 = k := NestedIs.inj _ _ _ (F.all x hx).1 (q ▸ F.is)
      subst this
      simp [entV]
    · have : ((entV w x).key == key) = false := beq_eq_false_iff_ne.mpr q
      rw [this]
      simp
  obtain ⟨st, hst⟩ : ∃ st, st = decide ((List.filterMap (fun i => Option.map (fun x => x.key) es[i]?) (placesWithHash es.size (fun i => Option.map (fun x => x.hash) es[i]?) (NestedKey.hash w k))).length < 2) := ⟨_, rfl⟩
  unfold dictFind
  refine wpAny_holding (wpAny_bind (wpAny_dictEntries F.at_ F.dat ?_))
  cases hk
  case' text z t => refine wp_ite (fun q => absurd (hns ⟨_, _, rfl⟩) (by rw [q]; simp)) fun _ => ?_
  all_goals refine wp_ite (fun _ => F.plain _ (F.places _).1 (by rw [F.there]; exact h)) fun _ => ?_
  case' tup => refine wp_ite (fun q => absurd (hr _ rfl) (by rw [q]; simp)) fun _ => ?_
  all_goals refine wp_ite (fun _ => wpAny_bind (wpAny_pure ?_)) (fun _ => wpAny_bind (tells_not F.is F.dep (F.stored _) ?_))
  all_goals refine wp_ite (fun q => absurd q (by simp)) fun _ => wpAny_bind ?_
  all_goals refine turn_all (short := st) (fun i x hit Q' hx h1 h2 => ?_) F _ (F.places _).1 (F.places _).2 (fun q => wpAny_pure ?_) (fun i q => ?_)
  all_goals first
    | (rw [F.there] at q
       rw [q] at h
       first
         | exact h
         | (cases st with
            | true => exact wpAny_pure h
            | false => exact wpAny_pure h))
    | skip
  all_goals
    have he : es[i]? = some (entV w x) := by rw [F.getE, hx]; rfl
    simp only [he]
    refine wp_ite (fun hh => ?_) (fun hh => wpAny_pure (h2 fun e => hh (by show (NestedKey.hash w x.1 == _) = true; rw [e]; exact beq_self_eq_true _)))
    refine wpAny_bind (wpAny_dictEpoch F.at_ F.dat (wpAny_bind (F.eqb hx (wpAny_bind (wpAny_dictEpoch F.at_ F.dat ?_)))))
    refine wp_ite (fun q => absurd q (by simp)) fun _ => ?_
    refine wp_ite (fun e => ?_) (fun e => ?_)
    · obtain ⟨rfl, q⟩ := h1 (of_decide_eq_true e)
      refine wp_ite (fun q => by cases q) fun _ => ?_
      refine wpAny_bind (wpAny_rule ?_)
      refine wp_ite (fun hl => wpAny_pure ?_) (fun hl => wpAny_pure ?_)
      · rw [hst, if_pos (decide_eq_true hl)] at q
        exact q
      · rw [hst, if_neg (by rw [decide_eq_false hl]; simp)] at q
        exact q
    · refine wpAny_bind (wpAny_rule ?_)
      refine wp_ite (fun q => absurd q (by simp)) fun _ => wpAny_pure (h2 fun q => e (decide_eq_true q))
theorem findIdx_congr {α : Type} {f g : α → Bool} : ∀ {l : List α}, (∀ x ∈ l, f x = g x) → l.findIdx? f = l.findIdx? g
  | [], _ => rfl
  | x :: l, h => by
    rw [List.findIdx?_cons, List.findIdx?_cons, h x List.mem_cons_self, findIdx_congr fun y m => h y (List.mem_cons_of_mem _ m)]
theorem findIdx_arr {α : Type} (es : Array α) (f : α → Bool) : es.findIdx? f = es.toList.findIdx? f := by rcases es with ⟨l⟩; simp
theorem FindV.find (F : FindV w A s.heap d key k o es ep xs) {Q : Option Nat → Shared → Prop} (h : Q (posV xs k) s) : wpAny (model prog w) A (dictFind d key (NestedKey.hash w k)) Q E s := by
  by_cases hs : (∃ z t, key = .str z t) ∧ (es.all fun e => isExactStrKey e.key) = true
  · obtain ⟨⟨z, t, rfl⟩, ha⟩ := hs
    have hk : k = .text z := NestedIs.inj _ _ _ F.is (.text z t)
    subst hk
    have ht : ∀ x ∈ xs, ∃ y u, x.1 = .text y ∧ x.2.1 = .str y u := by
      intro x hx
      have m : entV w x ∈ es := by
        rw [← Array.mem_toList_iff, F.ent]
        exact List.mem_map_of_mem hx
      have q := Array.all_eq_true'.mp ha _ m
      have n := (F.all x hx).1
      cases hv : x.2.1 with
      | str y u => exact ⟨y, u, NestedIs.inj _ _ _ n (hv ▸ .text y u), rfl⟩
      | _ => rw [show (entV w x).key = x.2.1 from rfl, hv] at q; cases q
    refine wpAny_dictFind_of (knd := PySem.strKind prog w) (k := z) (by show (z == z) = true; exact beq_self_eq_true _) F.at_ F.dat ?_ ?_
    · intro e m
      have m' : e ∈ es.toList := Array.mem_toList_iff.mpr m
      rw [F.ent] at m'
      obtain ⟨x, hx, rfl⟩ := List.mem_map.mp m'
      obtain ⟨y, u, e1, e2⟩ := ht x hx
      refine ⟨y, ?_, ?_⟩
      · rw [show (entV w x).key = x.2.1 from rfl, e2]
        exact beq_self_eq_true _
      · rw [show (entV w x).hash = NestedKey.hash w x.1 from rfl, e1]
        rfl
    · rw [findIdx_arr, F.ent, List.findIdx?_map]
      rw [findIdx_congr (g := fun x => decide (x.1 = .text z)) fun x hx => ?_]
      · exact h
      · obtain ⟨y, u, e1, e2⟩ := ht x hx
        show Value.isStrOf z x.2.1 = _
        rw [e2, e1]
        show (y == z) = decide (NestedKey.text y = .text z)
        by_cases q : y = z
        · subst q
          rw [decide_eq_true rfl]
          exact beq_self_eq_true _
        · rw [decide_eq_false fun e => q (by cases e; rfl)]
          exact beq_eq_false_iff_ne.mpr q
  · refine F.find0 (fun e => ?_) h
    cases hb : (es.all fun e => isExactStrKey e.key) with
    | false => rfl
    | true => exact absurd ⟨e, hb⟩ hs
/-- such a dict -/
structure DictV (w : World) (h : Heap) (d : Addr) (o : Obj) (xs : VRaw) : Prop where
  at_ : h.get? d = some o
  ex : o.ExactDict
  ent : ∃ es ep, o.data = .dict es ep ∧ es.toList = xs.map (entV w)
  all : ∀ x ∈ xs, NestedIs h x.1 x.2.1 ∧ x.1.depth ≤ 8
  nd : (xs.map (·.1)).Nodup
theorem DictV.typeIs {s : Shared} (D : DictV w s.heap d o xs) : s.TypeIs (.ref d) "dict" := ⟨o, D.at_, D.ex.1⟩
def lookV (xs : VRaw) (k : NestedKey) : Option Value := (xs.find? fun x => decide (x.1 = k)).map (·.2.2)
theorem lookV_pos : lookV xs k = (posV xs k).bind fun i => (xs[i]?).map (·.2.2) := by
  unfold lookV posV
  rw [List.find?_eq_bind_findIdx?_getElem?, Option.map_bind]
  rfl
theorem wp_dictGetV {A : Around} (hr : A.units + 8 < cLine) (D : DictV w s.heap d o xs) (hk : NestedIs s.heap k key) (hd : k.depth ≤ 8) {Q : Option Value → Shared → Prop} (h : Q (lookV xs k) { s with toks := s.toks + k.draws }) :
    wpAny (model prog w) A (dictGet d key) Q E s := by
  obtain ⟨es, ep, e1, e2⟩ := D.ent
  unfold dictGet
  refine wpAny_holding (wpAny_bind (pyHash_key k key A s _ hk (by omega) (wpAny_bind ?_)))
  have F : FindV w A { s with toks := s.toks + k.draws }.heap d key k o es ep xs := ⟨hr, hk, hd, D.at_, e1, e2, D.all, D.nd⟩
  refine F.find ?_
  rw [lookV_pos] at h
  cases hp : posV xs k with
  | none =>
    rw [hp] at h
    exact wpAny_pure h
  | some i =>
    rw [hp] at h
    refine wpAny_bind (wpAny_dictEntries D.at_ e1 (wpAny_pure ?_))
    rw [F.getE, Option.map_map]
    exact h
theorem keyArg_two (name : String) (key : Value) : Builtin.Dict.keyArg name { pos := [.ref d, key] } = pure (d, key) := by
  unfold Builtin.Dict.keyArg Builtin.Dict.nameIsSure
  rfl
theorem wp_containsV {A : Around} (hr : A.in1.units + 8 < cLine) (hsys : (d == sysModules) = false) (D : DictV w s.heap d o xs) (hk : NestedIs s.heap k key) (hd : k.depth ≤ 8) {Q : Bool → Shared → Prop} (h : Q (lookV xs k).isSome { s with toks := s.toks + k.draws }) :
    wpAny (model prog w) A (contains (.ref d) key) Q E s := by
  refine wpAny_contains_slot D.typeIs PySem.F.slot_dict_contains (call_meetsIn (S := fun A R s => A.in1.units + 8 < cLine ∧ DictV w s.heap d o xs ∧ NestedIs s.heap k key ∧ R (.ok (.ret (.bool (lookV xs k).isSome))) { s with toks := s.toks + k.draws }) PySem.F.slot_dict_contains D.typeIs PySem.F.entry_dict_contains (PySem.F.args_dict_contains_2 _ _) ?_ ⟨hr, D, hk, wpAny_truthy_bool h⟩)
  intro A R s ⟨g1, g2, g3, g4⟩
  unfold PySem.Builtin.«dict.__contains__»
  rw [keyArg_two]
  refine wpAny_bind (wpAny_pure (wpAny_bind (wp_dictGetV g1 g2 g3 hd ?_)))
  cases hl : lookV xs k with
  | some v =>
    rw [hl] at g4
    exact wpAny_pure g4
  | none =>
    rw [hl] at g4
    exact wpAny_bind (wpAny_pendingKey_other hsys (wpAny_pure g4))
/-- the entries behind d[k] = v -/
def storedV (xs : VRaw) (k : NestedKey) (key u : Value) : VRaw := if (lookV xs k).isSome then xs.map fun x => if x.1 = k then (x.1, x.2.1, u) else x else xs ++ [(k, key, u)]
theorem pos_look : (posV xs k).isSome = (lookV xs k).isSome := by
  rw [lookV_pos]
  cases h : posV xs k with
  | none => rfl
  | some i =>
    obtain ⟨x, hx, _⟩ := posV_some h
    show true = ((xs[i]?).map (·.2.2)).isSome
    rw [hx]
    rfl
theorem mapK_dat {f : Array DictEntry → Array DictEntry} (h : o.data = .dict es ep) : (Obj.mapDictKeys f o).data = .dict (f es) (ep + 1) ∧ (Obj.mapDictKeys f o).isFreed = false := by
  rcases o with ⟨c, di, da, sl⟩
  cases h
  exact ⟨rfl, rfl⟩
theorem map_dat {f : Array DictEntry → Array DictEntry} (h : o.data = .dict es ep) : (Obj.mapDict f o).data = .dict (f es) ep ∧ (Obj.mapDict f o).isFreed = false := by
  rcases o with ⟨c, di, da, sl⟩
  cases h
  exact ⟨rfl, rfl⟩
theorem wp_dictSetV {A : Around} {u : Value} (hr : A.units + 8 < cLine) (D : DictV w s.heap d o xs) (hz : xs.length ≤ sizeLine) (hk : NestedIs s.heap k key) (hd : k.depth ≤ 8) {Q : Unit → Shared → Prop}
    (h : ∀ (h' : Heap) (o' : Obj), h'.get? d = some o' → o'.ExactDict → (∃ es ep, o'.data = .dict es ep ∧ es.toList = (storedV xs k key u).map (entV w)) → Heap.SameBut d s.heap h' → Q () { s with heap := h', toks := s.toks + k.draws }) :
    wpAny (model prog w) A (dictSet d key u) Q E s := by
  obtain ⟨es, ep, e1, e2⟩ := D.ent
  unfold dictSet
  refine wpAny_holding (wpAny_bind (pyHash_key k key A s _ hk (by omega) ?_))
  unfold dictSetHashed
  have F : FindV w A { s with toks := s.toks + k.draws }.heap d key k o es ep xs := ⟨hr, hk, hd, D.at_, e1, e2, D.all, D.nd⟩
  refine wpAny_holding (wpAny_bind (F.find ?_))
  have hl := pos_look (xs := xs) (k := k)
  have hsz : es.size = xs.length := F.size
  obtain ⟨x1, x2, x3⟩ := D.ex
  cases hp : posV xs k with
  | none =>
    rw [hp] at hl
    refine wpAny_bind (wpAny_rule (wpAny_updateDictKeys (hz := by omega) (hf := by rw [Array.size_push]; exact Nat.le_refl _) D.at_ e1 ?_))
    refine h _ _ (Heap.get?_update_self _ D.at_ (mapK_dat e1).2) (Obj.ExactDict.mapDictKeys D.ex _) ⟨_, _, (mapK_dat e1).1, ?_⟩ (Heap.SameBut.update _ _ _)
    unfold storedV
    rw [if_neg (by rw [← hl]; simp), Array.toList_push, e2, List.map_append]
    rfl
  | some i =>
    rw [hp] at hl
    refine wpAny_bind (wpAny_rule (wpAny_bind (wpAny_updateDict (hz := by rw [Array.size_modify]; exact Nat.le_refl _) D.at_ e1 (wpAny_point ?_))))
    refine h _ _ (Heap.get?_update_self _ D.at_ (map_dat e1).2) (Obj.ExactDict.mapDict D.ex _) ⟨_, _, (map_dat e1).1, ?_⟩ (Heap.SameBut.update _ _ _)
    unfold storedV
    rw [if_pos (by rw [← hl]; rfl), Array.toList_modify, e2]
    refine List.ext_getElem? fun j => ?_
    rw [List.getElem?_modify, List.getElem?_map, List.getElem?_map, List.getElem?_map]
    cases hx : xs[j]? with
    | none => rfl
    | some x =>
      have q : (i = j) ↔ (x.1 = k) := by
        obtain ⟨y, hy, ey⟩ := posV_some hp
        constructor
        · intro e
          subst e
          rw [hx] at hy
          cases hy
          exact ey
        · intro e
          exact F.uniq hy hx (ey.trans e.symm)
      show some _ = some _
      dsimp only
      by_cases e : x.1 = k
      · rw [if_pos (q.mpr e), if_pos e]
        rfl
      · rw [if_neg (fun z => e (q.mp z)), if_neg e]
/-- d[k] = v -/
theorem wp_setV {A : Around} {u : Value} (hr : A.in1.units + 8 < cLine) (D : DictV w s.heap d o xs) (hz : xs.length ≤ sizeLine) (hk : NestedIs s.heap k key) (hd : k.depth ≤ 8) {Q : Unit → Shared → Prop}
    (h : ∀ (h' : Heap) (o' : Obj), h'.get? d = some o' → o'.ExactDict → (∃ es ep, o'.data = .dict es ep ∧ es.toList = (storedV xs k key u).map (entV w)) → Heap.SameBut d s.heap h' → Q () { s with heap := h', toks := s.toks + k.draws }) :
    wpAny (model prog w) A (setItem (.ref d) key u) Q E s := by
  unfold setItem
  refine wpAny_holding (wpAny_bind (wpAny_sequenceKey D.typeIs (by decide) (wpAny_bind (wpAny_callSpecial?_slot D.typeIs PySem.F.slot_dict_setitem ?_))))
  refine call_meetsIn (S := fun A R s => A.in1.units + 8 < cLine ∧ DictV w s.heap d o xs ∧ NestedIs s.heap k key ∧ ∀ (h' : Heap) (o' : Obj), h'.get? d = some o' → o'.ExactDict → (∃ es ep, o'.data = .dict es ep ∧ es.toList = (storedV xs k key u).map (entV w)) → Heap.SameBut d s.heap h' → R (.ok (.ret .none)) { s with heap := h', toks := s.toks + k.draws })
    PySem.F.slot_dict_setitem D.typeIs PySem.F.entry_dict_setitem (PySem.F.args_dict_setitem_3 _ _ _) ?_ ⟨hr, D, hk, fun h' o' g1 g2 g3 g4 => wpAny_pure (h h' o' g1 g2 g3 g4)⟩
  intro A R s ⟨g1, g2, g3, g4⟩
  unfold PySem.Builtin.«dict.__setitem__»
  refine wpAny_bind (wpAny_notOrdered_dict g2.typeIs ?_)
  refine wp_ite (fun q => Bool.noConfusion (show false = true from q)) fun _ => ?_
  refine wpAny_bind (wpAny_pure (wpAny_bind (wpAny_pure (wpAny_bind (wp_dictSetV g1 g2 hz g3 hd fun h' o' q1 q2 q3 q4 => wpAny_pure (g4 h' o' q1 q2 q3 q4))))))
end
structure GoodV (w : World) (o : Obj) (xs : VRaw) : Prop where
  ex : o.ExactDict
  ent : ∃ es ep, o.data = .dict es ep ∧ es.toList = xs.map (entV w)
  nd : (xs.map (·.1)).Nodup
  sz : xs.length ≤ sizeLine
def DvO (w : World) (a : Addr) (o : Obj) (xs : VRaw) : HO := .ext fun h => h.get? a = some o ∧ GoodV w o xs ∧ (a == sysModules) = false
/-- one of its entries -/
def EnV (K : PySem.W.Frag) (H : Hp) (p : NestedKey × V) (x : NestedKey × Value × Value) : Prop := p.1 = x.1 ∧ p.1.depth ≤ 8 ∧ (∃ v, Nk K H p.1 v ∧ RelV v x.2.1) ∧ RelV p.2 x.2.2
structure DVo (w : World) (K : PySem.W.Frag) (H : Hp) (d : Addr) (o : Obj) (xs : VRaw) (kvs : List (NestedKey × V)) : Prop where
  at_ : H d = some (DvO w d o xs)
  len : kvs.length = xs.length
  ent : ∀ (i : Nat) p x, kvs[i]? = some p → xs[i]? = some x → EnV K H p x
/-- a dict whose keys are of many types; one whose keys are texts, or such tuples, is one too -/
def Mx (P : Program) (w : World) (K : PySem.W.Frag) (H : Hp) (d : Addr) (kvs : List (NestedKey × V)) : Prop :=
  (∃ o xs, DVo w K H d o xs kvs) ∨ (∃ kz : List (Str × V), H d = some (.dK (kz.map fun p => (.inr p.1, p.2))) ∧ kvs = kz.map fun p => (.text p.1, p.2)) ∨ DN P w K H d kvs
/-- what the heap holds of it -/
structure MxIn (w : World) (K : PySem.W.Frag) (H : Hp) (h : Heap) (d : Addr) (o : Obj) (xs : VRaw) (kvs : List (NestedKey × V)) : Prop where
  dv : DictV w h d o xs
  sz : xs.length ≤ sizeLine
  sys : (d == sysModules) = false
  len : kvs.length = xs.length
  ent : ∀ (i : Nat) p x, kvs[i]? = some p → xs[i]? = some x → EnV K H p x
theorem EnV.is {X : Cx} {pins : List (Addr × Obj)} {σ : L2.St} {H : Hp} {s : Shared} (I : Inv X pins σ H s) {p : NestedKey × V} {x : NestedKey × Value × Value} (h : EnV X.K H p x) : NestedIs s.heap x.1 x.2.1 ∧ x.1.depth ≤ 8 := by
  obtain ⟨e, d, ⟨v, n, r⟩, _⟩ := h
  rw [e] at n d
  exact ⟨n.is I r, d⟩
theorem mx_ent {X : Cx} {pins : List (Addr × Obj)} {σ : L2.St} {H : Hp} {s : Shared} (I : Inv X pins σ H s) {kvs : List (NestedKey × V)} {xs : VRaw} (hl : kvs.length = xs.length) (f : ∀ (i : Nat) p x, kvs[i]? = some p → xs[i]? = some x → EnV X.K H p x) : ∀ x ∈ xs, NestedIs s.heap x.1 x.2.1 ∧ x.1.depth ≤ 8 := by
  intro x hx
  obtain ⟨i, hi⟩ := List.mem_iff_getElem?.mp hx
  have hp : kvs[i]? = some (kvs[i]'(by rw [hl]; exact (List.getElem?_eq_some_iff.mp hi).1)) := List.getElem?_eq_getElem _
  exact (f i _ x hp hi).is I
theorem paired_keys {kvs : List (L2.Key × V)} {vs : List (L2.Key × Value)} (h : KV kvs vs) : kvs.map (·.1) = vs.map (·.1) := by
  unfold KV at h
  induction h with
  | nil => rfl
  | cons a _ ih => rw [List.map_cons, List.map_cons, a.1, ih]
theorem mx_text {P : Program} {w : World} {K : PySem.W.Frag} {H : Hp} : ∀ {kz : List (Str × V)} {vs : List (L2.Key × Value)} {es : List DictEntry}, KV (kz.map fun p => ((.inr p.1, p.2) : L2.Key × V)) vs → Pairs (mixKind P w) es vs → (∀ e ∈ es, ∃ k, (mixKind P w).is k e.key = true ∧ e.hash = (mixKind P w).hash k) →
    ∃ xs : VRaw, es = xs.map (entV w) ∧ xs.map (·.1) = kz.map (fun p => .text p.1) ∧ ∀ (i : Nat) p x, (kz.map fun p => ((.text p.1, p.2) : NestedKey × V))[i]? = some p → xs[i]? = some x → EnV K H p x
  | [], _, _, h1, h2, _ => by
    cases h1
    cases h2
    exact ⟨[], rfl, rfl, fun i p x h => by cases h⟩
  | (z, v) :: kz, _, _, h1, h2, h3 => by
    cases h1 with
    | cons a r =>
      cases h2 with
      | @cons e kv es kvs b c d =>
        obtain ⟨xs, x1, x2, x3⟩ := mx_text (K := K) (H := H) r d fun e m => h3 e (List.mem_cons_of_mem _ m)
        obtain ⟨a1, a2⟩ := a
        obtain ⟨k, k1, k2⟩ := h3 _ List.mem_cons_self
        rw [← a1] at b
        have ek : k = .inr z := (mixKind P w).inj _ _ _ k1 b
        subst ek
        obtain ⟨tk, ht⟩ : ∃ tk, e.key = .str z tk := by
          cases hv : e.key with
          | str y u =>
            rw [hv] at b
            have : y = z := eq_of_beq (show (y == z) = true from b)
            exact ⟨u, by rw [this]⟩
          | _ => rw [hv] at b; cases b
        refine ⟨(.text z, e.key, e.val) :: xs, ?_, ?_, ?_⟩
        · rw [List.map_cons, ← x1]
          congr 1
          rcases e with ⟨eh, ek, ev⟩
          show DictEntry.mk _ _ _ = DictEntry.mk _ _ _
          congr 1
        · rw [List.map_cons, List.map_cons, x2]
        · intro i p x g1 g2
          cases i with
          | zero =>
            cases g1
            cases g2
            refine ⟨rfl, ?_, ⟨_, .str z, ?_⟩, ?_⟩
            · exact Nat.zero_le _
            · exact ⟨tk, ht⟩
            · rw [c]
              exact a2
          | succ i => exact x3 i p x g1 g2
theorem Mx.ok {X : Cx} {pins : List (Addr × Obj)} {σ : L2.St} {H : Hp} {s : Shared} {d : Addr} {kvs : List (NestedKey × V)} (I : Inv X pins σ H s) (h : Mx X.prog X.w X.K H d kvs) : ∃ o xs, MxIn X.w X.K H s.heap d o xs kvs := by
  rcases h with ⟨o, xs, g⟩ | ⟨kz, g, rfl⟩ | ⟨o, xs, g⟩
  · obtain ⟨⟨e1, q, e2⟩, _, _⟩ := (show ObjOk X.prog X.w H s.heap d (DvO X.w d o xs) from I.hok d _ g.at_)
    exact ⟨o, xs, ⟨e1, q.ex, q.ent, mx_ent I g.len g.ent, q.nd⟩, q.sz, e2, g.len, g.ent⟩
  · have q := I.hok d _ g
    rw [ObjOk.eq_3] at q
    obtain ⟨q1, q2, vs, q3, o, es, ep, q4, q5, q6, q7, q8, q9⟩ := q
    obtain ⟨xs, x1, x2, x3⟩ := mx_text (K := X.K) (H := H) q3 q8 fun e m => q7 e (Array.mem_toList_iff.mp m)
    have l : (kz.map fun p => ((.text p.1, p.2) : NestedKey × V)).length = xs.length := by
      have := congrArg List.length x2
      rw [List.length_map, List.length_map] at this
      rw [List.length_map, this]
    refine ⟨o, xs, ⟨q4, q5, ⟨es, ep, q6, x1⟩, mx_ent I l x3, ?_⟩, ?_, q2, l, x3⟩
    · rw [x2]
      have n : ((kz.map fun p => ((.inr p.1, p.2) : L2.Key × V)).map (·.1)).Nodup := by
        rw [paired_keys q3]
        exact q9
      rw [List.map_map] at n
      unfold List.Nodup at n ⊢
      rw [List.pairwise_map] at n ⊢
      exact n.imp fun h e => h (congrArg Sum.inr (NestedKey.text.inj e))
    · rw [← l, List.length_map]
      rwa [List.length_map] at q1
  · obtain ⟨e1, e2, e3, e4⟩ := g.ok I
    obtain ⟨⟨_, q, _⟩, _, _⟩ := (show ObjOk X.prog X.w H s.heap d (DnO X.prog X.w d o xs) from I.hok d _ g.at_)
    obtain ⟨es, ep, q1, q2⟩ := q.ent
    have f : ∀ (i : Nat) p x, kvs[i]? = some p → (xs.map fun x => (x.1, Value.ref x.2.1, x.2.2))[i]? = some x → EnV X.K H p x := by
      intro i p x h1 h2
      rw [List.getElem?_map] at h2
      obtain ⟨y, hy, rfl⟩ := Option.map_eq_some_iff.mp h2
      obtain ⟨a1, a2, a3, a4⟩ := g.ent i p y h1 hy
      exact ⟨a1, a2, ⟨_, a3, rfl⟩, a4⟩
    have l : kvs.length = (xs.map fun x => (x.1, Value.ref x.2.1, x.2.2)).length := by rw [List.length_map, g.len]
    refine ⟨o, xs.map fun x => (x.1, Value.ref x.2.1, x.2.2), ⟨e1, q.ex, ⟨es, ep, q1, by rw [q2, List.map_map]; rfl⟩, mx_ent I l f, ?_⟩, by rw [List.length_map]; exact e4, e2, l, f⟩
    rw [List.map_map]
    exact q.nd
theorem valX_rel {K : PySem.W.Frag} {H : Hp} : ∀ {kvs : List (NestedKey × V)} {xs : VRaw} {k : NestedKey}, kvs.length = xs.length → (∀ (i : Nat) p x, kvs[i]? = some p → xs[i]? = some x → EnV K H p x) → RelO (valN kvs k) (lookV xs k)
  | [], [], _, _, _ => trivial
  | p :: kvs, x :: xs, k, hl, f => by
    obtain ⟨e1, _, _, r⟩ := f 0 p x rfl rfl
    unfold valN lookV
    by_cases q : p.1 = k
    · rw [List.find?_cons_of_pos (by exact decide_eq_true q), List.find?_cons_of_pos (by exact decide_eq_true (e1 ▸ q))]
      exact r
    · rw [List.find?_cons_of_neg (by simpa using q), List.find?_cons_of_neg (by simpa [← e1] using q)]
      exact valX_rel (Nat.succ.inj hl) fun i p x h1 h2 => f (i + 1) p x h1 h2
section
variable {X : Cx}
/-- k in d, k not in d -/
def rInX (P : Program) (w : World) (K : PySem.W.Frag) : R2 := fun x y H Q => ∃ (d : Addr) (kvs : List (NestedKey × V)) (k : NestedKey), y = .ref d ∧ Mx P w K H d kvs ∧ Nk K H k x ∧ k.depth ≤ 8 ∧ Q (.bl (valN kvs k).isSome) H
theorem op_inX (hu : X.A.units + 9 < cLine) : OpR X (compareOp .In) (rInX X.prog X.w X.K) := by
  intro pins s σ H x y v u Q I rx ry ⟨d, kvs, k, ey, hm, hk, hdp, q⟩
  subst ey
  obtain rfl : u = Value.ref d := ry
  obtain ⟨o, xs, M⟩ := hm.ok I
  have rel := (valX_rel (k := k) M.len M.ent).isSome_eq
  unfold compareOp
  refine wpAny_bind (wp_containsV (by show X.A.units + 1 + 8 < cLine; omega) M.sys M.dv (hk.is I rx) hdp (wpAny_pure ⟨.bl _, H, I.tok _, ?_, q⟩))
  rw [rel]
  rfl
theorem sqt_mut {K : PySem.W.Frag} {H : Hp} {a d : Addr} {xs : List V} {o : HO} (hd : ∀ ys, H d ≠ some (.lst ys) ∧ H d ≠ some (.tup ys) ∧ ∀ ob, H d ≠ some (.frz ob (.tup ys))) (h : SqT K H a xs) : SqT K (upd H d o) a xs := by
  rcases h with (h | ⟨ob, h⟩) | h
  · have n : a ≠ d := fun z => (hd xs).2.1 (by rw [← z]; exact h)
    exact .inl (.inl ((upd_ne n).trans h))
  · have n : a ≠ d := fun z => (hd xs).2.2 ob (by rw [← z]; exact h)
    exact .inl (.inr ⟨ob, (upd_ne n).trans h⟩)
  · exact .inr h
theorem nk_mut {K : PySem.W.Frag} {H : Hp} {d : Addr} {o : HO} (hd : ∀ ys, H d ≠ some (.lst ys) ∧ H d ≠ some (.tup ys) ∧ ∀ ob, H d ≠ some (.frz ob (.tup ys))) {k : NestedKey} {v : V} (h : Nk K H k v) : Nk K (upd H d o) k v := by
  induction h with
  | non => exact .non
  | int i => exact .int i
  | str z => exact .str z
  | tup ha hl _ ih => exact .tup (sqt_mut hd ha) hl ih
theorem ext_no {φ : Heap → Prop} (ys : List V) : some (HO.ext φ) ≠ some (.lst ys) ∧ some (HO.ext φ) ≠ some (.tup ys) ∧ ∀ ob, some (HO.ext φ) ≠ some (.frz ob (.tup ys)) :=
  ⟨fun e => HO.noConfusion (Option.some.inj e), fun e => HO.noConfusion (Option.some.inj e), fun _ e => HO.noConfusion (Option.some.inj e)⟩
theorem dK_no {kvs : List (L2.Key × V)} (ys : List V) : some (HO.dK kvs) ≠ some (.lst ys) ∧ some (HO.dK kvs) ≠ some (.tup ys) ∧ ∀ ob, some (HO.dK kvs) ≠ some (.frz ob (.tup ys)) :=
  ⟨fun e => HO.noConfusion (Option.some.inj e), fun e => HO.noConfusion (Option.some.inj e), fun _ e => HO.noConfusion (Option.some.inj e)⟩
theorem Mx.noT {P : Program} {w : World} {K : PySem.W.Frag} {H : Hp} {d : Addr} {kvs : List (NestedKey × V)} (h : Mx P w K H d kvs) : Mut (H d) ∧ ∀ ys, H d ≠ some (.lst ys) ∧ H d ≠ some (.tup ys) ∧ ∀ ob, H d ≠ some (.frz ob (.tup ys)) := by
  rcases h with ⟨o, xs, g⟩ | ⟨kz, g, _⟩ | ⟨o, xs, g⟩
  · rw [g.at_]
    exact ⟨True.intro, fun ys => ext_no ys⟩
  · rw [g]
    exact ⟨True.intro, fun ys => dK_no ys⟩
  · rw [g.at_]
    exact ⟨True.intro, fun ys => ext_no ys⟩
theorem en_storedX {K : PySem.W.Frag} {H H' : Hp} {kvs : List (NestedKey × V)} {xs : VRaw} {k : NestedKey} {y v : V} {key u : Value} (hl : kvs.length = xs.length) (f : ∀ (i : Nat) p x, kvs[i]? = some p → xs[i]? = some x → EnV K H p x)
    (e : ∀ k v, Nk K H k v → Nk K H' k v) (hk : Nk K H k y) (ry : RelV y key) (hdp : k.depth ≤ 8) (r : RelV v u) : (putN kvs k v).length = (storedV xs k key u).length ∧ ∀ (i : Nat) p x, (putN kvs k v)[i]? = some p → (storedV xs k key u)[i]? = some x → EnV K H' p x := by
  have g : ∀ (i : Nat) p x, kvs[i]? = some p → xs[i]? = some x → EnV K H' p x := fun i p x h1 h2 => let ⟨a, b, ⟨c, c1, c2⟩, d⟩ := f i p x h1 h2; ⟨a, b, ⟨c, e _ _ c1, c2⟩, d⟩
  have rel := (valX_rel (k := k) hl f).isSome_eq
  unfold putN storedV
  rw [rel]
  split
  · refine ⟨by rw [List.length_map, List.length_map, hl], fun i p x h1 h2 => ?_⟩
    rw [List.getElem?_map] at h1 h2
    obtain ⟨p0, hp0, rfl⟩ := Option.map_eq_some_iff.mp h1
    obtain ⟨x0, hx0, rfl⟩ := Option.map_eq_some_iff.mp h2
    obtain ⟨e1, e2, e3, e4⟩ := g i p0 x0 hp0 hx0
    by_cases q : p0.1 = k
    · rw [if_pos q, if_pos (e1 ▸ q)]
      exact ⟨e1, e2, e3, r⟩
    · rw [if_neg q, if_neg (fun z => q (e1.trans z))]
      exact ⟨e1, e2, e3, e4⟩
  · refine ⟨by rw [List.length_append, List.length_append, hl]; rfl, fun i p x h1 h2 => ?_⟩
    by_cases q : i < kvs.length
    · rw [List.getElem?_append_left q] at h1
      rw [List.getElem?_append_left (by omega)] at h2
      exact g i p x h1 h2
    · rw [List.getElem?_append_right (by omega)] at h1
      rw [List.getElem?_append_right (by omega), ← hl] at h2
      have z : i - kvs.length = 0 := by
        have := (List.getElem?_eq_some_iff.mp h1).1
        simp only [List.length_cons, List.length_nil] at this
        omega
      rw [z] at h1 h2
      cases h1
      cases h2
      exact ⟨rfl, hdp, ⟨_, e _ _ hk, ry⟩, r⟩
theorem stored_nd {xs : VRaw} {k : NestedKey} {key u : Value} (h : (xs.map (·.1)).Nodup) : ((storedV xs k key u).map (·.1)).Nodup := by
  unfold storedV
  split
  · rw [List.map_map]
    have : ((fun x : NestedKey × Value × Value => x.1) ∘ fun x => if x.1 = k then (x.1, x.2.1, u) else x) = fun x => x.1 := by
      funext x
      show (if x.1 = k then (x.1, x.2.1, u) else x).1 = x.1
      split <;> rfl
    rw [this]
    exact h
  · rename_i q
    rw [List.map_append]
    refine List.nodup_append.mpr ⟨h, List.nodup_cons.mpr ⟨List.not_mem_nil, List.nodup_nil⟩, fun a ha b hb => ?_⟩
    obtain ⟨x, hx, rfl⟩ := List.mem_map.mp ha
    rw [List.mem_singleton.mp hb]
    intro e
    apply q
    unfold lookV
    rw [Option.isSome_map, List.find?_isSome]
    exact ⟨x, hx, decide_eq_true e⟩
theorem dv_obj {P : Program} {w : World} {H : Hp} {h : Heap} {d : Addr} {o : Obj} {xs : VRaw} (e : h.get? d = some o) (g : GoodV w o xs) (hd : (d == sysModules) = false) : ObjOk P w H h d (DvO w d o xs) :=
  ⟨⟨e, g, hd⟩, ⟨o, e⟩, fun h1 h2 q st => ⟨st _ q.1, q.2⟩⟩
/-- d[k] = v -/
def rSetX (P : Program) (w : World) (K : PySem.W.Frag) : TSet := fun o i v H Q => ∃ (d : Addr) (kvs : List (NestedKey × V)) (k : NestedKey), o = .ref d ∧ Mx P w K H d kvs ∧ Nk K H k i ∧ k.depth ≤ 8 ∧ kvs.length < sizeLine ∧
  ∀ φ, Mx P w K (upd H d (.ext φ)) d (putN kvs k v) → Q (upd H d (.ext φ))
theorem set_mx (hu : X.A.units + 9 < cLine) : PSet X (rSetX X.prog X.w X.K) := by
  intro pins s σ H o i v ov iv u Q I ro ri rv ⟨d, kvs, k, eo, hm, hk, hdp, hz, q⟩
  subst eo
  obtain rfl : ov = Value.ref d := ro
  obtain ⟨ob, xs, M⟩ := hm.ok I
  obtain ⟨n1, n2⟩ := hm.noT
  refine wp_setV (by show X.A.units + 1 + 8 < cLine; omega) M.dv M.sz (hk.is I ri) hdp fun h' o' g1 g2 g3 g4 => ?_
  have en := en_storedX (H' := upd H d (DvO X.w d o' (storedV xs k iv u))) M.len M.ent (fun _ _ h => nk_mut n2 h) hk ri hdp rv
  have sz : (storedV xs k iv u).length ≤ sizeLine := by
    rw [← en.1]
    unfold putN
    split
    · rw [List.length_map]
      omega
    · rw [List.length_append]
      exact hz
  exact ⟨_, I.write (x := d) (e := d) n1 (.inl rfl) (fun c q hc z => (g4.2 c hc).trans z) ⟨o', g1⟩ (dv_obj g1 ⟨g2, g3, stored_nd M.dv.nd, sz⟩ M.sys), q _ (.inl ⟨o', _, upd_same, en.1, en.2⟩)⟩
variable {P : Program} {w : World} {K : PySem.W.Frag}
theorem op_inXK (hP : X.prog = P) (hw : X.w = w) (hK : X.K = K) (hu : X.A.units + 9 < cLine) : OpR X (compareOp .In) (rInX P w K) := by subst hP hw hK; exact op_inX hu
end
end MK
set_option Elab.async false
set_option linter.all false
set_option autoImplicit false
set_option maxRecDepth 100000
set_option maxHeartbeats 2000000
namespace MK
open PySem PySem.Spec PyProof.Rows L2
def tPar3 (i j k : Nat) (ta : TA) : TS := fun D σ H => ta σ H fun vs H1 => ∃ v w u, vs = [v, w, u] ∧ D.nx (((σ.set k (some u)).set j (some w)).set i (some v)) H1
theorem ps_par3 {X : Cx} {pos : Pos} {i j k : Nat} {x y z : Str} {a b c : Expr} {ta : TA} {px py pz pt : Pos} {kt k2 : Nat} {pt2 : Pos} (hc : X.calm = true) (hN : X.N.Nodup) (hi : X.N[i]? = some x) (hj : X.N[j]? = some y) (hk : X.N[k]? = some z)
    (hx : X.env.scope.names.lookup x = some .local) (hy : X.env.scope.names.lookup y = some .local) (hz : X.env.scope.names.lookup z = some .local) (ha : PA X [a, b, c] ta)
    (hw : swappedStores [.Tuple [.Name x px, .Name y py, .Name z pz] kt pt] (.Tuple [a, b, c] k2 pt2) X.env = pure (some [x, y, z]))
    (hs : swapsWithSole [.Tuple [.Name x px, .Name y py, .Name z pz] kt pt] (.Tuple [a, b, c] k2 pt2) pos.line X.env = pure false := by rfl) :
    PS X (.Assign [.Tuple [.Name x px, .Name y py, .Name z pz] kt pt] (.Tuple [a, b, c] k2 pt2) pos) (tPar3 i j k ta) := ⟨fun pins s σ H D I h => by
  refine PyProof.Rows.Assign_Tuple_swapped (names := [x, y, z]) (PyProof.Rows.Tuple_ (thn (ha.run pt2 pins s σ H _ I h) fun us s1 ⟨vs, H1, I1, r1, v, w, u, e1, q1⟩ => ?_)) hs hw
  subst e1
  cases r1 with
  | cons rv r1 =>
  cases r1 with
  | cons rw' r1 =>
  cases r1 with
  | cons ru r1 =>
  cases r1
  rename_i u1 u2 u3 _
  refine wpAny_newObj_type ?_ (show sizeOk (Data.seq #[u1, u2, u3]) from by show 3 ≤ sizeLine; decide)
  have I2 := I1.kept (h' := s1.heap.push { cls := Value.type "tuple", data := Data.seq #[u1, u2, u3] }) (t' := s1.toks) fun b o e => Heap.get?_push_of_some _ e
  refine PyProof.Rows.unpackItems_tuple (items := #[u1, u2, u3]) (I.ok.hd hc) (PyProof.Rows.IsTup.new s1.heap #[u1, u2, u3]) fun h' hx' => ?_
  have I3 := I2.kept (h' := h') (t' := s1.toks) fun b o e => hx' b o (Nat.ne_of_lt (Heap.lt_size e)) e
  refine PyProof.Rows.assignInOrder_cons (wpAny_bindName (store_ok I3 hN hk (.inl hz) ru (fun s2 I4 => ?_) (.inr hz)))
  refine PyProof.Rows.assignInOrder_cons (wpAny_bindName (store_ok I4 hN hj (.inl hy) rw' (fun s3 I5 => ?_) (.inr hy)))
  refine PyProof.Rows.assignInOrder_cons (wpAny_bindName (store_ok I5 hN hi (.inl hx) rv (fun s4 I6 => ?_) (.inr hx)))
  exact wpAny_pure ⟨_, _, I6, q1⟩⟩
end MK
set_option Elab.async false
set_option linter.all false
set_option autoImplicit false
set_option maxRecDepth 100000
set_option maxHeartbeats 2000000
namespace MK
open PySem PySem.Spec PyProof.Rows L2
section
variable {prog : Program} {w : World} {A : Around} {E : Value → Shared → Prop} {s : Shared} {d : Addr} {key : Value} {k : NestedKey} {o : Obj} {xs : VRaw}
theorem wp_getItemV {v : Value} (hr : A.in1.units + 8 < cLine) (D : DictV w s.heap d o xs) (hk : NestedIs s.heap k key) (hd : k.depth ≤ 8) (hv : lookV xs k = some v) {Q : Value → Shared → Prop} (h : Q v { s with toks := s.toks + k.draws }) :
    wpAny (model prog w) A (getItem (.ref d) key) Q E s := by
  unfold getItem
  try with_reducible refine wpAny_holding ?_
  refine wpAny_bind (wpAny_sequenceKey D.typeIs (by decide) ?_)
  refine wpAny_bind (wpAny_callSpecial?_slot (name := Str.ofString "__getitem__") D.typeIs F.slot_dict_getitem
    (wpAny_call_entry F.slot_dict_getitem D.typeIs F.entry_dict_getitem ?_ (args_dict_getitem _ _)))
  show wpAny _ _ (dictGet d key >>= _) _ _ s
  refine wpAny_bind (wp_dictGetV hr D hk hd ?_)
  rw [hv]
  exact wpAny_pure ⟨v, rfl, wpAny_pure h⟩
end
section
variable {X : Cx}
/-- d[k], there -/
def rIxX (P : Program) (w : World) (K : PySem.W.Frag) : R2 := fun x y H Q => ∃ (d : Addr) (kvs : List (NestedKey × V)) (k : NestedKey) (v : V), x = .ref d ∧ Mx P w K H d kvs ∧ Nk K H k y ∧ k.depth ≤ 8 ∧ valN kvs k = some v ∧ Q v H
theorem ix_mx (hu : X.A.units + 9 < cLine) : IxR X (rIxX X.prog X.w X.K) := by
  intro value slice pins s σ H x y v u Q I rx ry ⟨d, kvs, k, vv, ex, hm, hk, hdp, hv, q⟩ hs
  subst ex
  obtain rfl : v = Value.ref d := rx
  obtain ⟨ob, xs, M⟩ := hm.ok I
  have rel := valX_rel (k := k) M.len M.ent
  rw [hv] at rel
  obtain ⟨w', hw, rw'⟩ := RelO.some_of rel
  exact subscriptTail_builtinR (x := w') M.dv.typeIs PySem.F.slot_dict_getitem.lookup (wp_getItemV (Q := fun r s' => r = w' ∧ EP X pins σ Q r s') (by show X.A.units + 1 + 8 < cLine; omega) M.dv (hk.is I ry) hdp hw ⟨rfl, vv, H, I.tok _, rw', q⟩) hs
end
end MK
set_option Elab.async false
set_option linter.all false
set_option autoImplicit false
set_option maxRecDepth 100000
set_option maxHeartbeats 4000000
namespace MK
open PySem PySem.Spec PyProof.Rows L2
local macro_rules | `(tactic| walk_at "x") => `(tactic| dsimp only [tSeq, tAsg, tRet, tDrop, tLst, tTup, tCons, tOp, tUn, tIfS])
def topS (i : Nat) : Stmt := PySem.Challenge.pw_makerlines_k31_good_rows.main.body.getD i (.Pass ⟨0, 0, 0, 0⟩)
structure Txt (K : PySem.W.Frag) (mg : Str → Option Value) : Prop where
  len : mg "len" = none
  int : mg "int" = none
  enumerate : mg "enumerate" = none
  list : mg "list" = none
  tuple : mg "tuple" = none
  isinstance : mg "isinstance" = none
  range : mg "range" = none
  all : mg "all" = none
  zip : mg "zip" = none
  ValueError : mg "ValueError" = none
  bool : mg "bool" = none
  str : mg "str" = none
  set : mg "set" = none
  any : mg "any" = none
/-- what stands at the names of the program's own constants -/
structure Cst where
  sorts : Addr
  hands : Addr
  sod : Addr
  wd : Addr
  lwd : Addr
def sodOf (z : Str) : Option (List Str) :=
  if z = "set" then some ["one"] else if z = "add" then some ["many"] else if z = "strike" then some ["many"] else if z = "fresh" then some ["many"] else if z = "clear" then some ["one", "many"] else none
structure Csts (K : PySem.W.Frag) (w : World) (mg : Str → Option Value) (C : Cst) : Prop where
  MOST_LETTERS : ∃ u, mg "MOST_LETTERS" = some u ∧ RelV (.int 8) u
  MOST_FIELDS : ∃ u, mg "MOST_FIELDS" = some u ∧ RelV (.int 3) u
  MOST_MODES : ∃ u, mg "MOST_MODES" = some u ∧ RelV (.int 4) u
  MOST_CALLS : ∃ u, mg "MOST_CALLS" = some u ∧ RelV (.int 6) u
  MOST_DEEDS : ∃ u, mg "MOST_DEEDS" = some u ∧ RelV (.int 4) u
  SORTS : ∃ u, mg "SORTS" = some u ∧ RelV (.ref C.sorts) u
  HANDS : ∃ u, mg "HANDS" = some u ∧ RelV (.ref C.hands) u
  SORTS_OF_DEEDS : ∃ u, mg "SORTS_OF_DEEDS" = some u ∧ RelV (.ref C.sod) u
  LIST_WORD_DEEDS : ∃ u, mg "LIST_WORD_DEEDS" = some u ∧ RelV (.ref C.lwd) u
  t_sorts : ∀ H, SqT K H C.sorts [.str "one", .str "many"]
  t_hands : ∀ H, SqT K H C.hands [.str "self", .str "new", .str "last"]
  t_lwd : ∀ H, SqT K H C.lwd [.str "add", .str "strike"]
  sodD : ∃ es n, KDict K w C.sod es n
  sodN : ∀ z : Str, (PySem.W.nsIn K C.sod z = some none ∧ sodOf z = none) ∨ ∃ a l, PySem.W.nsIn K C.sod z = some (some (.ref a)) ∧ sodOf z = some l ∧ ∀ H, SqT K H a (l.map V.str)
abbrev s_fresh : Stmt := topS 48
abbrev s_fill : Stmt := topS 49
abbrev s_take : Stmt := topS 50
abbrev s_one : Stmt := topS 51
abbrev s_is_word : Stmt := topS 16
abbrev s_is_integer : Stmt := topS 17
abbrev s_is_list : Stmt := topS 18
abbrev s_is_modes : Stmt := topS 34
abbrev s_is_field : Stmt := topS 33
abbrev s_kept_fields : Stmt := topS 32
abbrev s_is_many : Stmt := topS 42
abbrev s_is_deed : Stmt := topS 40
abbrev s_are_moves : Stmt := topS 38
abbrev s_has_call_form : Stmt := topS 37
abbrev s_are_deeds : Stmt := topS 39
abbrev s_is_same : Stmt := topS 41
abbrev s_kept_call : Stmt := topS 43
abbrev s_wrong_part : Stmt := topS 36
abbrev s_kept_calls : Stmt := topS 35
abbrev s_Kind_init : Stmt := inClass (topS 46) 0
abbrev s_mix : Stmt := topS 52
abbrev s_deeds : Stmt := topS 56
abbrev s_call : Stmt := topS 57
abbrev s_plan : Stmt := topS 54
abbrev s_kind : Stmt := topS 58
abbrev s_alone : Stmt := topS 59
abbrev s_row_of : Stmt := topS 55
abbrev s_rules : Stmt := topS 60
abbrev s_same : Stmt := topS 53
abbrev s_good_start : Stmt := topS 61
abbrev s_good_step : Stmt := topS 62
abbrev s_l_is_good : Stmt := topS 64
abbrev s_good_states : Stmt := topS 63
abbrev s_led_row : Stmt := topS 65
abbrev s_mark_of : Stmt := topS 12
abbrev s_marks_of : Stmt := topS 11
abbrev s_marked : Stmt := topS 13
abbrev s_Orders_keeps_rules : Stmt := inClass (topS 22) 4
abbrev s_Orders_start : Stmt := inClass (topS 22) 1
abbrev s_Orders_contents_behind : Stmt := inClass (topS 22) 3
abbrev s_Orders_place_behind : Stmt := inClass (topS 22) 2
abbrev s_Kind_contains : Stmt := inClass (topS 46) 4
abbrev s_is_rule : Stmt := topS 21
abbrev s_Orders_init : Stmt := inClass (topS 22) 0
abbrev s_is_good : Stmt := topS 20
abbrev s_Kind_iter : Stmt := inClass (topS 46) 3
abbrev s_law : Stmt := topS 66
section
open TL ClX
def fs0 : List (PySem.W.Frag → Bool) := [fun K => decide (PySem.W.nsIn K mainGlobals "_law_fresh" = some (some (.ref (He.ga K "_law_fresh")))),
  fun K => decide (PySem.W.nsIn K mainGlobals "_law_fill" = some (some (.ref (He.ga K "_law_fill")))),
  fun K => decide (PySem.W.nsIn K mainGlobals "_law_take" = some (some (.ref (He.ga K "_law_take")))),
  fun K => decide (PySem.W.nsIn K mainGlobals "_law_one" = some (some (.ref (He.ga K "_law_one")))),
  fun K => decide (PySem.W.nsIn K mainGlobals "_law_mix" = some (some (.ref (He.ga K "_law_mix")))),
  fun K => decide (PySem.W.nsIn K mainGlobals "_law_same" = some (some (.ref (He.ga K "_law_same")))),
  fun K => decide (PySem.W.nsIn K mainGlobals "_law_plan" = some (some (.ref (He.ga K "_law_plan")))),
  fun K => decide (PySem.W.nsIn K mainGlobals "_law_row_of" = some (some (.ref (He.ga K "_law_row_of")))),
  fun K => decide (PySem.W.nsIn K mainGlobals "_law_deeds" = some (some (.ref (He.ga K "_law_deeds")))),
  fun K => decide (PySem.W.nsIn K mainGlobals "_law_call" = some (some (.ref (He.ga K "_law_call")))),
  fun K => decide (PySem.W.nsIn K mainGlobals "_law_kind" = some (some (.ref (He.ga K "_law_kind")))),
  fun K => decide (PySem.W.nsIn K mainGlobals "_law_alone" = some (some (.ref (He.ga K "_law_alone")))),
  fun K => decide (PySem.W.nsIn K mainGlobals "_law_rules" = some (some (.ref (He.ga K "_law_rules")))),
  fun K => decide (PySem.W.nsIn K mainGlobals "_law_good_start" = some (some (.ref (He.ga K "_law_good_start")))),
  fun K => decide (PySem.W.nsIn K mainGlobals "_law_good_step" = some (some (.ref (He.ga K "_law_good_step")))),
  fun K => decide (PySem.W.nsIn K mainGlobals "_law_good_states" = some (some (.ref (He.ga K "_law_good_states")))),
  fun K => decide (PySem.W.nsIn K mainGlobals "_law_is_good" = some (some (.ref (He.ga K "_law_is_good")))),
  fun K => decide (PySem.W.nsIn K mainGlobals "_law_led_row" = some (some (.ref (He.ga K "_law_led_row")))),
  fun K => decide (PySem.W.nsIn K mainGlobals "is_word" = some (some (.ref (He.ga K "is_word")))),
  fun K => decide (PySem.W.nsIn K mainGlobals "is_integer" = some (some (.ref (He.ga K "is_integer"))))]
def fs1 : List (PySem.W.Frag → Bool) := [fun K => decide (PySem.W.nsIn K mainGlobals "is_list" = some (some (.ref (He.ga K "is_list")))),
  fun K => decide (PySem.W.nsIn K mainGlobals "is_modes" = some (some (.ref (He.ga K "is_modes")))),
  fun K => decide (PySem.W.nsIn K mainGlobals "is_field" = some (some (.ref (He.ga K "is_field")))),
  fun K => decide (PySem.W.nsIn K mainGlobals "kept_fields" = some (some (.ref (He.ga K "kept_fields")))),
  fun K => decide (PySem.W.nsIn K mainGlobals "is_many" = some (some (.ref (He.ga K "is_many")))),
  fun K => decide (PySem.W.nsIn K mainGlobals "is_deed" = some (some (.ref (He.ga K "is_deed")))),
  fun K => decide (PySem.W.nsIn K mainGlobals "are_moves" = some (some (.ref (He.ga K "are_moves")))),
  fun K => decide (PySem.W.nsIn K mainGlobals "has_call_form" = some (some (.ref (He.ga K "has_call_form")))),
  fun K => decide (PySem.W.nsIn K mainGlobals "are_deeds" = some (some (.ref (He.ga K "are_deeds")))),
  fun K => decide (PySem.W.nsIn K mainGlobals "is_same" = some (some (.ref (He.ga K "is_same")))),
  fun K => decide (PySem.W.nsIn K mainGlobals "kept_call" = some (some (.ref (He.ga K "kept_call")))),
  fun K => decide (PySem.W.nsIn K mainGlobals "wrong_part" = some (some (.ref (He.ga K "wrong_part")))),
  fun K => decide (PySem.W.nsIn K mainGlobals "kept_calls" = some (some (.ref (He.ga K "kept_calls")))),
  fun K => decide (PySem.W.nsIn K mainGlobals "mark_of" = some (some (.ref (He.ga K "mark_of")))),
  fun K => decide (PySem.W.nsIn K mainGlobals "marks_of" = some (some (.ref (He.ga K "marks_of")))),
  fun K => decide (PySem.W.nsIn K mainGlobals "marked" = some (some (.ref (He.ga K "marked")))),
  fun K => decide (PySem.W.nsIn K mainGlobals "is_rule" = some (some (.ref (He.ga K "is_rule")))),
  fun K => decide (PySem.W.nsIn K mainGlobals "is_good" = some (some (.ref (He.ga K "is_good")))),
  fun K => decide (PySem.W.nsIn K mainGlobals "law" = some (some (.ref (He.ga K "law")))),
  fun K => decide (PySem.W.nsIn K mainGlobals "Kind" = some (some (.ref (He.ga K "Kind"))))]
def fs2 : List (PySem.W.Frag → Bool) := [fun K => decide (PySem.W.nsIn K mainGlobals "Orders" = some (some (.ref (He.ga K "Orders")))),
  fun K => decide (PySem.W.findIn K (.ref (He.ga K "Kind")) "__init__" = some (some (.ref (He.ma K (He.ga K "Kind") "__init__")))),
  fun K => PySem.W.isFn K (.ref (He.ma K (He.ga K "Kind") "__init__")),
  fun K => decide (PySem.W.findIn K (.ref (He.ga K "Kind")) "__contains__" = some (some (.ref (He.ma K (He.ga K "Kind") "__contains__")))),
  fun K => PySem.W.isFn K (.ref (He.ma K (He.ga K "Kind") "__contains__")),
  fun K => decide (PySem.W.findIn K (.ref (He.ga K "Kind")) "__iter__" = some (some (.ref (He.ma K (He.ga K "Kind") "__iter__")))),
  fun K => PySem.W.isFn K (.ref (He.ma K (He.ga K "Kind") "__iter__")),
  fun K => decide (PySem.W.nsIn K mainGlobals "iter" = some none),
  fun K => decide (PySem.W.findIn K (.ref (He.ga K "Orders")) "__init__" = some (some (.ref (He.ma K (He.ga K "Orders") "__init__")))),
  fun K => PySem.W.isFn K (.ref (He.ma K (He.ga K "Orders") "__init__")),
  fun K => decide (PySem.W.findIn K (.ref (He.ga K "Orders")) "start" = some (some (.ref (He.ma K (He.ga K "Orders") "start")))),
  fun K => PySem.W.isFn K (.ref (He.ma K (He.ga K "Orders") "start")),
  fun K => decide (PySem.W.findIn K (.ref (He.ga K "Orders")) "place_behind" = some (some (.ref (He.ma K (He.ga K "Orders") "place_behind")))),
  fun K => PySem.W.isFn K (.ref (He.ma K (He.ga K "Orders") "place_behind")),
  fun K => decide (PySem.W.findIn K (.ref (He.ga K "Orders")) "contents_behind" = some (some (.ref (He.ma K (He.ga K "Orders") "contents_behind")))),
  fun K => PySem.W.isFn K (.ref (He.ma K (He.ga K "Orders") "contents_behind")),
  fun K => decide (PySem.W.findIn K (.ref (He.ga K "Orders")) "keeps_rules" = some (some (.ref (He.ma K (He.ga K "Orders") "keeps_rules")))),
  fun K => PySem.W.isFn K (.ref (He.ma K (He.ga K "Orders") "keeps_rules")),
  fun K => PySem.W.makesIn K (He.ga K "Kind"),
  fun K => PySem.W.keepIn K (.ref (He.ga K "Kind"))]
def fs3 : List (PySem.W.Frag → Bool) := [fun K => PySem.W.plainGet K (He.ga K "Kind") Str.empty,
  fun K => PySem.W.hasDictIn K (He.ga K "Kind"),
  fun K => PySem.W.plainOver K (He.ga K "Kind"),
  fun K => decide (PySem.W.findIn K (.ref (He.ga K "Kind")) "__setattr__" = some (some (.builtin "object.__setattr__"))),
  fun K => decide (PySem.W.findIn K (.ref (He.ga K "Kind")) "triples" = some none),
  fun K => decide (PySem.W.findIn K (.ref (He.ga K "Kind")) "sorts" = some none),
  fun K => decide (PySem.W.findIn K (.ref (He.ga K "Kind")) "spots" = some none),
  fun K => decide (PySem.W.findIn K (.ref (He.ga K "Kind")) "modes" = some none),
  fun K => decide (PySem.W.findIn K (.ref (He.ga K "Kind")) "steps" = some none),
  fun K => decide (PySem.W.findIn K (.ref (He.ga K "Kind")) "table" = some none),
  fun K => PySem.W.makesIn K (He.ga K "Orders"),
  fun K => PySem.W.keepIn K (.ref (He.ga K "Orders")),
  fun K => PySem.W.plainGet K (He.ga K "Orders") Str.empty,
  fun K => PySem.W.hasDictIn K (He.ga K "Orders"),
  fun K => PySem.W.plainOver K (He.ga K "Orders"),
  fun K => decide (PySem.W.findIn K (.ref (He.ga K "Orders")) "__setattr__" = some (some (.builtin "object.__setattr__"))),
  fun K => decide (PySem.W.findIn K (.ref (He.ga K "Orders")) "kind" = some none),
  fun K => decide (PySem.W.findIn K (.ref (He.ga K "Orders")) "needed" = some none),
  fun K => decide (PySem.W.findIn K (.ref (He.ga K "Orders")) "wanted" = some none),
  fun K => decide (PySem.W.findIn K (.ref (He.ga K "Orders")) "barred" = some none)]
def fs4 : List (PySem.W.Frag → Bool) := [fun K => decide (PySem.W.findIn K (.ref (He.ga K "Orders")) "counted" = some none),
  fun K => decide (PySem.W.nsIn K mainGlobals "len" = some none),
  fun K => decide (PySem.W.nsIn K mainGlobals "int" = some none),
  fun K => decide (PySem.W.nsIn K mainGlobals "enumerate" = some none),
  fun K => decide (PySem.W.nsIn K mainGlobals "list" = some none),
  fun K => decide (PySem.W.nsIn K mainGlobals "tuple" = some none),
  fun K => decide (PySem.W.nsIn K mainGlobals "isinstance" = some none),
  fun K => decide (PySem.W.nsIn K mainGlobals "range" = some none),
  fun K => decide (PySem.W.nsIn K mainGlobals "all" = some none),
  fun K => decide (PySem.W.nsIn K mainGlobals "zip" = some none),
  fun K => decide (PySem.W.nsIn K mainGlobals "ValueError" = some none),
  fun K => decide (PySem.W.nsIn K mainGlobals "bool" = some none),
  fun K => decide (PySem.W.nsIn K mainGlobals "str" = some none),
  fun K => decide (PySem.W.nsIn K mainGlobals "set" = some none),
  fun K => decide (PySem.W.nsIn K mainGlobals "any" = some none),
  fun K => intB K "MOST_LETTERS" (8),
  fun K => intB K "MOST_FIELDS" (3),
  fun K => intB K "MOST_MODES" (4),
  fun K => intB K "MOST_CALLS" (6),
  fun K => intB K "MOST_DEEDS" (4)]
def fs5 : List (PySem.W.Frag → Bool) := [fun K => intB K "DONE" (-1),
  fun K => intB K "THE_WORD" (1),
  fun K => decide (PySem.W.nsIn K mainGlobals "SORTS" = some (some (.ref (He.ga K "SORTS")))),
  fun K => tupB K (He.ga K "SORTS") ["one", "many"],
  fun K => decide (PySem.W.nsIn K mainGlobals "HANDS" = some (some (.ref (He.ga K "HANDS")))),
  fun K => tupB K (He.ga K "HANDS") ["self", "new", "last"],
  fun K => decide (PySem.W.nsIn K mainGlobals "LIST_WORD_DEEDS" = some (some (.ref (He.ga K "LIST_WORD_DEEDS")))),
  fun K => tupB K (He.ga K "LIST_WORD_DEEDS") ["add", "strike"],
  fun K => decide (PySem.W.nsIn K mainGlobals "SORTS_OF_DEEDS" = some (some (.ref (He.ga K "SORTS_OF_DEEDS")))),
  fun K => decide (PySem.W.nsIn K (He.ga K "SORTS_OF_DEEDS") "set" = some (some (.ref (da K (He.ga K "SORTS_OF_DEEDS") "set")))),
  fun K => tupB K (da K (He.ga K "SORTS_OF_DEEDS") "set") ["one"],
  fun K => decide (PySem.W.nsIn K (He.ga K "SORTS_OF_DEEDS") "add" = some (some (.ref (da K (He.ga K "SORTS_OF_DEEDS") "add")))),
  fun K => tupB K (da K (He.ga K "SORTS_OF_DEEDS") "add") ["many"],
  fun K => decide (PySem.W.nsIn K (He.ga K "SORTS_OF_DEEDS") "strike" = some (some (.ref (da K (He.ga K "SORTS_OF_DEEDS") "strike")))),
  fun K => tupB K (da K (He.ga K "SORTS_OF_DEEDS") "strike") ["many"],
  fun K => decide (PySem.W.nsIn K (He.ga K "SORTS_OF_DEEDS") "fresh" = some (some (.ref (da K (He.ga K "SORTS_OF_DEEDS") "fresh")))),
  fun K => tupB K (da K (He.ga K "SORTS_OF_DEEDS") "fresh") ["many"],
  fun K => decide (PySem.W.nsIn K (He.ga K "SORTS_OF_DEEDS") "clear" = some (some (.ref (da K (He.ga K "SORTS_OF_DEEDS") "clear")))),
  fun K => tupB K (da K (He.ga K "SORTS_OF_DEEDS") "clear") ["one", "many"]]
def fsAll : BsM := [fs0, fs1, fs2, fs3, fs4, fs5]
def dA_fresh : He5.DefA := ⟨fun K => (He.ga K "_law_fresh"), "_law_fresh", "_law_fresh", defArgs s_fresh, defBody s_fresh, defScope s_fresh, [], []⟩
def dA_fill : He5.DefA := ⟨fun K => (He.ga K "_law_fill"), "_law_fill", "_law_fill", defArgs s_fill, defBody s_fill, defScope s_fill, [], []⟩
def dA_take : He5.DefA := ⟨fun K => (He.ga K "_law_take"), "_law_take", "_law_take", defArgs s_take, defBody s_take, defScope s_take, [], []⟩
def dA_one : He5.DefA := ⟨fun K => (He.ga K "_law_one"), "_law_one", "_law_one", defArgs s_one, defBody s_one, defScope s_one, [], []⟩
def dA_mix : He5.DefA := ⟨fun K => (He.ga K "_law_mix"), "_law_mix", "_law_mix", defArgs s_mix, defBody s_mix, defScope s_mix, [], []⟩
def dA_same : He5.DefA := ⟨fun K => (He.ga K "_law_same"), "_law_same", "_law_same", defArgs s_same, defBody s_same, defScope s_same, [], []⟩
def dA_plan : He5.DefA := ⟨fun K => (He.ga K "_law_plan"), "_law_plan", "_law_plan", defArgs s_plan, defBody s_plan, defScope s_plan, [], []⟩
def dA_row_of : He5.DefA := ⟨fun K => (He.ga K "_law_row_of"), "_law_row_of", "_law_row_of", defArgs s_row_of, defBody s_row_of, defScope s_row_of, [], []⟩
def dA_deeds : He5.DefA := ⟨fun K => (He.ga K "_law_deeds"), "_law_deeds", "_law_deeds", defArgs s_deeds, defBody s_deeds, defScope s_deeds, [], []⟩
def dA_call : He5.DefA := ⟨fun K => (He.ga K "_law_call"), "_law_call", "_law_call", defArgs s_call, defBody s_call, defScope s_call, [], []⟩
def dA_kind : He5.DefA := ⟨fun K => (He.ga K "_law_kind"), "_law_kind", "_law_kind", defArgs s_kind, defBody s_kind, defScope s_kind, [], []⟩
def dA_alone : He5.DefA := ⟨fun K => (He.ga K "_law_alone"), "_law_alone", "_law_alone", defArgs s_alone, defBody s_alone, defScope s_alone, [], []⟩
def dA_rules : He5.DefA := ⟨fun K => (He.ga K "_law_rules"), "_law_rules", "_law_rules", defArgs s_rules, defBody s_rules, defScope s_rules, [], []⟩
def dA_good_start : He5.DefA := ⟨fun K => (He.ga K "_law_good_start"), "_law_good_start", "_law_good_start", defArgs s_good_start, defBody s_good_start, defScope s_good_start, [], []⟩
def dA_good_step : He5.DefA := ⟨fun K => (He.ga K "_law_good_step"), "_law_good_step", "_law_good_step", defArgs s_good_step, defBody s_good_step, defScope s_good_step, [], []⟩
def dA_good_states : He5.DefA := ⟨fun K => (He.ga K "_law_good_states"), "_law_good_states", "_law_good_states", defArgs s_good_states, defBody s_good_states, defScope s_good_states, [], []⟩
def dA_l_is_good : He5.DefA := ⟨fun K => (He.ga K "_law_is_good"), "_law_is_good", "_law_is_good", defArgs s_l_is_good, defBody s_l_is_good, defScope s_l_is_good, [], []⟩
def dA_led_row : He5.DefA := ⟨fun K => (He.ga K "_law_led_row"), "_law_led_row", "_law_led_row", defArgs s_led_row, defBody s_led_row, defScope s_led_row, [], []⟩
def dA_is_word : He5.DefA := ⟨fun K => (He.ga K "is_word"), "is_word", "is_word", defArgs s_is_word, defBody s_is_word, defScope s_is_word, [], []⟩
def dA_is_integer : He5.DefA := ⟨fun K => (He.ga K "is_integer"), "is_integer", "is_integer", defArgs s_is_integer, defBody s_is_integer, defScope s_is_integer, [], []⟩
def dA_is_list : He5.DefA := ⟨fun K => (He.ga K "is_list"), "is_list", "is_list", defArgs s_is_list, defBody s_is_list, defScope s_is_list, [], []⟩
def dA_is_modes : He5.DefA := ⟨fun K => (He.ga K "is_modes"), "is_modes", "is_modes", defArgs s_is_modes, defBody s_is_modes, defScope s_is_modes, [], []⟩
def dA_is_field : He5.DefA := ⟨fun K => (He.ga K "is_field"), "is_field", "is_field", defArgs s_is_field, defBody s_is_field, defScope s_is_field, [], []⟩
def dA_kept_fields : He5.DefA := ⟨fun K => (He.ga K "kept_fields"), "kept_fields", "kept_fields", defArgs s_kept_fields, defBody s_kept_fields, defScope s_kept_fields, [], []⟩
def dA_is_many : He5.DefA := ⟨fun K => (He.ga K "is_many"), "is_many", "is_many", defArgs s_is_many, defBody s_is_many, defScope s_is_many, [], []⟩
def dA_is_deed : He5.DefA := ⟨fun K => (He.ga K "is_deed"), "is_deed", "is_deed", defArgs s_is_deed, defBody s_is_deed, defScope s_is_deed, [], []⟩
def dA_are_moves : He5.DefA := ⟨fun K => (He.ga K "are_moves"), "are_moves", "are_moves", defArgs s_are_moves, defBody s_are_moves, defScope s_are_moves, [], []⟩
def dA_has_call_form : He5.DefA := ⟨fun K => (He.ga K "has_call_form"), "has_call_form", "has_call_form", defArgs s_has_call_form, defBody s_has_call_form, defScope s_has_call_form, [], []⟩
def dA_are_deeds : He5.DefA := ⟨fun K => (He.ga K "are_deeds"), "are_deeds", "are_deeds", defArgs s_are_deeds, defBody s_are_deeds, defScope s_are_deeds, [], []⟩
def dA_is_same : He5.DefA := ⟨fun K => (He.ga K "is_same"), "is_same", "is_same", defArgs s_is_same, defBody s_is_same, defScope s_is_same, [], []⟩
def dA_kept_call : He5.DefA := ⟨fun K => (He.ga K "kept_call"), "kept_call", "kept_call", defArgs s_kept_call, defBody s_kept_call, defScope s_kept_call, [], []⟩
def dA_wrong_part : He5.DefA := ⟨fun K => (He.ga K "wrong_part"), "wrong_part", "wrong_part", defArgs s_wrong_part, defBody s_wrong_part, defScope s_wrong_part, [], []⟩
def dA_kept_calls : He5.DefA := ⟨fun K => (He.ga K "kept_calls"), "kept_calls", "kept_calls", defArgs s_kept_calls, defBody s_kept_calls, defScope s_kept_calls, [], []⟩
def dA_mark_of : He5.DefA := ⟨fun K => (He.ga K "mark_of"), "mark_of", "mark_of", defArgs s_mark_of, defBody s_mark_of, defScope s_mark_of, [], []⟩
def dA_marks_of : He5.DefA := ⟨fun K => (He.ga K "marks_of"), "marks_of", "marks_of", defArgs s_marks_of, defBody s_marks_of, defScope s_marks_of, [], []⟩
def dA_marked : He5.DefA := ⟨fun K => (He.ga K "marked"), "marked", "marked", defArgs s_marked, defBody s_marked, defScope s_marked, [], []⟩
def dA_is_rule : He5.DefA := ⟨fun K => (He.ga K "is_rule"), "is_rule", "is_rule", defArgs s_is_rule, defBody s_is_rule, defScope s_is_rule, [], []⟩
def dA_is_good : He5.DefA := ⟨fun K => (He.ga K "is_good"), "is_good", "is_good", defArgs s_is_good, defBody s_is_good, defScope s_is_good, [], []⟩
def dA_law : He5.DefA := ⟨fun K => (He.ga K "law"), "law", "law", defArgs s_law, defBody s_law, defScope s_law, [], []⟩
def dA_kinit : He5.DefA := ⟨fun K => (He.ma K (He.ga K "Kind") "__init__"), "__init__", "Kind.__init__", defArgs s_Kind_init, defBody s_Kind_init, defScope s_Kind_init, [], []⟩
def dA_khas : He5.DefA := ⟨fun K => (He.ma K (He.ga K "Kind") "__contains__"), "__contains__", "Kind.__contains__", defArgs s_Kind_contains, defBody s_Kind_contains, defScope s_Kind_contains, [], []⟩
def dA_kiter : He5.DefA := ⟨fun K => (He.ma K (He.ga K "Kind") "__iter__"), "__iter__", "Kind.__iter__", defArgs s_Kind_iter, defBody s_Kind_iter, defScope s_Kind_iter, [], []⟩
def dA_oinit : He5.DefA := ⟨fun K => (He.ma K (He.ga K "Orders") "__init__"), "__init__", "Orders.__init__", defArgs s_Orders_init, defBody s_Orders_init, defScope s_Orders_init, [], []⟩
def dA_o_start : He5.DefA := ⟨fun K => (He.ma K (He.ga K "Orders") "start"), "start", "Orders.start", defArgs s_Orders_start, defBody s_Orders_start, defScope s_Orders_start, [], []⟩
def dA_o_place_behind : He5.DefA := ⟨fun K => (He.ma K (He.ga K "Orders") "place_behind"), "place_behind", "Orders.place_behind", defArgs s_Orders_place_behind, defBody s_Orders_place_behind, defScope s_Orders_place_behind, [], []⟩
def dA_o_contents_behind : He5.DefA := ⟨fun K => (He.ma K (He.ga K "Orders") "contents_behind"), "contents_behind", "Orders.contents_behind", defArgs s_Orders_contents_behind, defBody s_Orders_contents_behind, defScope s_Orders_contents_behind, [], []⟩
def dA_o_keeps_rules : He5.DefA := ⟨fun K => (He.ma K (He.ga K "Orders") "keeps_rules"), "keeps_rules", "Orders.keeps_rules", defArgs s_Orders_keeps_rules, defBody s_Orders_keeps_rules, defScope s_Orders_keeps_rules, [], []⟩
def ds0 : List He5.DefA := [dA_fresh, dA_fill, dA_take, dA_one, dA_mix, dA_same, dA_plan, dA_row_of, dA_deeds, dA_call, dA_kind, dA_alone, dA_rules, dA_good_start, dA_good_step, dA_good_states, dA_l_is_good, dA_led_row, dA_is_word, dA_is_integer]
def ds1 : List He5.DefA := [dA_is_list, dA_is_modes, dA_is_field, dA_kept_fields, dA_is_many, dA_is_deed, dA_are_moves, dA_has_call_form, dA_are_deeds, dA_is_same, dA_kept_call, dA_wrong_part, dA_kept_calls, dA_mark_of, dA_marks_of, dA_marked, dA_is_rule, dA_is_good, dA_law, dA_kinit]
def ds2 : List He5.DefA := [dA_khas, dA_kiter, dA_oinit, dA_o_start, dA_o_place_behind, dA_o_contents_behind, dA_o_keeps_rules]
def dsAll : DsM := [ds0, ds1, ds2]
def tsAll : List He.Tab := [(fun K => (He.ga K "SORTS_OF_DEEDS"), ["set", "add", "strike", "fresh", "clear"])]
set_option maxRecDepth 100000 in
def nm0 : List Str := ["_wall", "__name__", "MakerError", "BadField", "BadModes", "BadCall", "UnknownCall", "BadRule", "DONE", "THE_WORD", "marks_of", "mark_of", "marked", "MOST_LETTERS", "is_word", "is_integer"]
def nm1 : List Str := ["is_list", "is_good", "is_rule", "Orders", "MOST_FIELDS", "MOST_MODES", "MOST_CALLS", "MOST_DEEDS", "SORTS", "HANDS", "SORTS_OF_DEEDS", "LIST_WORD_DEEDS", "kept_fields", "is_field", "is_modes", "kept_calls"]
def nm2 : List Str := ["wrong_part", "has_call_form", "are_moves", "are_deeds", "is_deed", "is_same", "is_many", "kept_call", "told_call", "Kind", "_law_fresh", "_law_fill", "_law_take", "_law_one", "_law_mix", "_law_same"]
def nm3 : List Str := ["_law_plan", "_law_row_of", "_law_deeds", "_law_call", "_law_kind", "_law_alone", "_law_rules", "_law_good_start", "_law_good_step", "_law_good_states", "_law_is_good", "_law_led_row"]
def names : List Str := nm0 ++ nm1 ++ nm2 ++ nm3
abbrev R : PySem.W.OpenRow := PySem.W.OpenLaw.row PySem.Challenge.rw_makerlines_k31_good_rows
abbrev hk : PySem.W.Hook := hookM 6 fsAll dsAll tsAll
def ob (s : PySem.W.SharedT) : AlM := obsMG 6 fsAll dsAll tsAll (HandSHeadRun.getT s)
theorem ob_eq (s : PySem.W.SharedT) : ob s = hk.obs s.abs := obsMG_eq (HandSHeadRun.getT_eq s)
theorem runF (w : World) : HandSHeadRun.RunEq R (PySem.W.view R.prog [66]) hk ob 15000 names (w.withFollow "special-get-raises" false) := by
  intro os
  kernel_rfl
theorem runT (w : World) : HandSHeadRun.RunEq R (PySem.W.view R.prog [66]) hk ob 15000 names (w.withFollow "special-get-raises" true) := by
  intro os
  kernel_rfl
theorem run (w : World) : HandSHeadRun.RunEq R (PySem.W.view R.prog [66]) hk ob 15000 names w := PySem.W.byRow2 "special-get-raises" (P := fun w => HandSHeadRun.RunEq R (PySem.W.view R.prog [66]) hk ob 15000 names w) runF runT w
end
theorem sc_fresh : FnScope ["_law_script"] ["_law_script"] (defScope s_fresh) := ⟨rfl, rfl, rfl, by decide +kernel, rfl, by decide +kernel, by decide +kernel⟩
theorem sc_fill : FnScope ["_law_state", "_law_cells", "_law_nth", "_law_seed", "_law_k", "_law_prime", "_law_far"] ["_law_state"] (defScope s_fill) := ⟨rfl, rfl, rfl, by decide +kernel, rfl, by decide +kernel, by decide +kernel⟩
theorem sc_take : FnScope ["_law_state", "_law_many", "_law_laps", "_law_digit"] ["_law_state", "_law_many"] (defScope s_take) := ⟨rfl, rfl, rfl, by decide +kernel, rfl, by decide +kernel, by decide +kernel⟩
theorem sc_one : FnScope ["_law_state", "_law_things"] ["_law_state", "_law_things"] (defScope s_one) := ⟨rfl, rfl, rfl, by decide +kernel, rfl, by decide +kernel, by decide +kernel⟩
/-- the state of the draws: at s, its cells ns at c -/
def StA (H : Hp) (s c : Addr) (ns : List Int) : Prop := c ≠ s ∧ H c = some (.lst (ns.map V.int)) ∧ ∃ (a b : Int) (m : Bool), H s = some (.lst [.ref c, .int a, .int b, .bl m])
theorem StA.keep {H H' : Hp} {s c : Addr} {ns : List Int} (x : StA H s c ns) (e : Same H H') : StA H' s c ns := by
  obtain ⟨n, h1, a, b, m, h2⟩ := x
  exact ⟨n, e _ _ h1, a, b, m, e _ _ h2⟩
theorem cut63 (ns : List Int) (h : ns.length ≤ 63) : cutV (ns.map V.int) none (some 63) = ns.map V.int := by
  have e : HT.sIx (ns.map V.int).length (ns.map V.int).length (some 63) = min 63 (ns.map V.int).length := HT.sIx_nat _ _ 63
  unfold cutV
  rw [HT.sIx_none, e, List.drop_zero, Nat.sub_zero]
  exact List.take_of_length_le (by rw [List.length_map]; omega)
def primes : List V := [.int 2147483647, .int 2147483629, .int 2147483587, .int 2147483579, .int 2147483563]
theorem primes_ok {i : Nat} {y : V} (h : primes[i]? = some y) : ∃ p : Int, y = .int p ∧ 0 < p ∧ p < 4294967296 := by
  have m := List.mem_of_getElem? h
  simp only [primes, List.mem_cons, List.not_mem_nil, or_false] at m
  rcases m with rfl | rfl | rfl | rfl | rfl <;> exact ⟨_, rfl, by decide, by decide⟩
def spFresh (K : PySem.W.Frag) : Sp := fun vs H Q _ => ∃ (a : Addr) (ns : List Int), vs = [.ref a] ∧ SqL K H a (ns.map V.int) ∧ ns.length ≤ 63 ∧
  ∀ s c H', Same H H' → H s = none → H c = none → StA H' s c ns → Q (.ref s) H'
def spFill : Sp := fun vs H Q _ => ∃ (s c : Addr) (ns : List Int), vs = [.ref s] ∧ StA H s c ns ∧ ns.length ≤ 63 ∧ ∀ H', SameX s H H' → StA H' s c ns → Q .non H'
def spTake : Sp := fun vs H Q _ => ∃ (s c : Addr) (ns : List Int) (n : Int), vs = [.ref s, .int n] ∧ StA H s c ns ∧ ns.length ≤ 63 ∧ 0 < n ∧ n < 1000000 ∧
  ∀ (d : Nat) H', (d : Int) < n → SameX s H H' → StA H' s c ns → Q (.int d) H'
def spOne (K : PySem.W.Frag) : Sp := fun vs H Q _ => ∃ (s c l : Addr) (ns : List Int) (xs : List V), vs = [.ref s, .ref l] ∧ StA H s c ns ∧ ns.length ≤ 63 ∧ l ≠ s ∧ (SqL K H l xs ∨ SqT K H l xs) ∧ 0 < xs.length ∧ xs.length < 1000000 ∧
  ∀ (d : Nat) (x : V) H', xs[d]? = some x → SameX s H H' → StA H' s c ns → Q x H'
section
variable {P : Program} {w : World} {K : PySem.W.Frag} {mg : Str → Option Value} {base : Heap}
theorem ok_fresh {f : Addr} {fd : FuncData} (F : DefX K mg "_law_fresh" s_fresh ["_law_script"] f fd) (T : Txt K mg) : Cal P w K mg base CX0 1 "_law_fresh" (spFresh K) := by
  refine cal_mk F sc_fresh (fun vs H Q E h => ?_) (fun cdv A outer s H vs Q E hr h => ?_)
  · obtain ⟨a, ns, rfl, _⟩ := h
    rfl
  · obtain ⟨a, ns, rfl, hs, hl, k⟩ := h
    refine ⟨_, (pss_one (ps_ret (pe_lst (pa_cons (pe_slice sl_list (pv 0) po_none (po_some pe_int)) (pa_cons pe_int (pa_cons pe_int (pa_cons pe_bl pa_nil))))))), ?_⟩
    refine ⟨_, rfl, _, rfl, a, _, rfl, hs, fun c hc => ⟨(by show 4 ≤ sizeLine; decide), fun t ht => ?_⟩⟩
    rw [cut63 ns hl] at ht ⊢
    obtain ⟨tc, htn⟩ := upd_none ht
    refine k t c _ (same_new (same_new (Same.refl H) hc) ht) htn hc ⟨tc.symm, ?_, 0, 0, false, upd_same⟩
    rw [upd_ne tc.symm, upd_same]
theorem ok_fill {f : Addr} {fd : FuncData} (F : DefX K mg "_law_fill" s_fill ["_law_state"] f fd) (T : Txt K mg) : Cal P w K mg base CX0 1 "_law_fill" spFill := by
  refine cal_mk F sc_fill (fun vs H Q E h => ?_) (fun cdv A outer s H vs Q E hr h => ?_)
  · obtain ⟨s, c, ns, rfl, _⟩ := h
    rfl
  · obtain ⟨s, c, ns, rfl, ⟨cs, hc, a, b, m, hs⟩, hl, k⟩ := h
    refine ⟨_, (pss_cons (ps_par (i := 1) (j := 2) (by rfl) sc_fill.nd rfl rfl (by decide) rfl rfl (pa_cons (pe_ix ix_list (pv 0) pe_int (fun _ _ => rfl)) (pa_cons (pe_ix ix_list (pv 0) pe_int (fun _ _ => rfl)) pa_nil)) (by rfl))
(pss_cons (ps_set (i := 3) sc_fill.nd rfl (Or.inl rfl) (pe_op op_add (pe_op op_mul pe_int (pv 2)) pe_int))
(pss_cut (ps_if (pt_cmpR op_gt (pe_callB call_len_seq (by rfl) T.len (by decide +kernel) (pa_cons (pv 1) pa_nil)) pe_int (nomark _))
(pss_one (ps_set (i := 3) sc_fill.nd rfl (Or.inl rfl) (pe_op op_add (pe_op op_mul pe_int (pe_op op_fdivN (pv 2) (pe_callB call_len_seq (by rfl) T.len (by decide +kernel) (pa_cons (pv 1) pa_nil)))) (pe_ix ix_list (pv 1) (pe_op op_modN (pe_callTy call_int1 (by rfl) T.int (by decide +kernel) (pa_cons (pv 2) pa_nil)) (pe_callB call_len_seq (by rfl) T.len (by decide +kernel) (pa_cons (pv 1) pa_nil))) (fun _ _ => rfl)))))
pss_nil)
(pss_cons (ps_asg (pe_op op_add (pv 2) pe_int) (pg_sub (pv 0) pe_int set_list))
(pss_cons (ps_asg (pe_cut (pe_or (pe_cmpR op_ge (pv 2) (pe_callB call_len_seq (by rfl) T.len (by decide +kernel) (pa_cons (pv 1) pa_nil)) (nomark _)) (pe_one (pe_cmpR op_lt (pv 3) (pe_op op_pow pe_int pe_int) (nomark _))))) (pg_sub (pv 0) pe_int set_list))
(pss_cons (ps_asg (pe_op op_sub (pv 3) (pe_op op_pow pe_int pe_int)) (pg_sub (pv 0) pe_int set_list))
(pss_one (ps_if (pt_val (pe_ix ix_list (pv 0) pe_int (fun _ _ => rfl)))
(pss_cons (ps_asg pe_int (pg_sub (pv 0) pe_int set_list))
(pss_one (ps_for PassesOwn.never rfl (pi_enumT (by rfl) T.enumerate (pa_cons (pe_tup (pa_cons pe_int (pa_cons pe_int (pa_cons pe_int (pa_cons pe_int (pa_cons pe_int pa_nil)))))) pa_nil)) (pg_tup (by rfl) (pgs_cons (pg_name (i := 4) sc_fill.nd rfl (Or.inl rfl)) (pgs_cons (pg_name (i := 5) sc_fill.nd rfl (Or.inl rfl)) pgs_nil)))
(pss_cons (ps_set (i := 6) sc_fill.nd rfl (Or.inl rfl) (pe_op op_modN (pe_callTy call_int1 (by rfl) T.int (by decide +kernel) (pa_cons (pe_op op_mul (pe_op op_add (pe_op op_add (pv 3) (pe_op op_mul (pe_op op_mul pe_int (pv 4)) (pv 4))) (pe_op op_mul pe_int (pv 4))) (pe_op op_add pe_int (pe_op op_mul pe_int (pv 4)))) pa_nil)) (pv 5)))
(pss_one (ps_asg (pe_op op_add (pe_op op_mul (pe_ix ix_list (pv 0) pe_int (fun _ _ => rfl)) (pv 5)) (pe_op op_modN (pe_callTy call_int1 (by rfl) T.int (by decide +kernel) (pa_cons (pe_op op_pow (pv 6) pe_int) pa_nil)) (pv 5))) (pg_sub (pv 0) pe_int set_list)))))))
pss_nil)))))))), ?_⟩
    have sq : ∀ {H' : Hp}, SameX s H H' → SqL K H' c (ns.map V.int) := fun e => .inl (.inl (e _ _ hc cs))
    have kd : ∀ (H' : Hp) (b' : Int) (m' : Bool) (a' : Int), SameX s H H' → H' s = some (.lst [.ref c, .int a', .int b', .bl m']) → Q .non H' := fun H' b' m' a' e h => k H' e ⟨cs, e _ _ hc cs, a', b', m', h⟩
    -- cells, nth = state[0], state[1]
    refine ⟨_, rfl, s, _, 0, .ref c, rfl, rfl, SqL.of hs, rfl, _, rfl, s, _, 1, .int a, rfl, rfl, SqL.of hs, rfl, _, _, rfl, ?_⟩
    refine ⟨_, rfl, _, _, rfl, rfl, .inl (by decide), _, _, rfl, rfl, ?_⟩
    -- the seed is some int
    refine ⟨fun σ' H' => H' = H ∧ ∃ z : Int, σ' = [some (.ref s), some (.ref c), some (.int a), some (.int z), none, none, none], ?_, ?_⟩
    · refine ⟨_, rfl, c, _, rfl, .inl (sq (SameX.refl s H)), _, _, rfl, rfl, _, rfl, ?_⟩
      refine ite2 (fun hp => ?_) (fun hn => ?_)
      · have hpos : 0 < ns.length := by
          have q : (0 : Int) < ((ns.map V.int).length : Int) := of_decide_eq_true hp
          rw [List.length_map] at q
          omega
        have hne : ((ns.map V.int).length : Int) ≠ 0 := by rw [List.length_map]; omega
        have hsm : ((ns.map V.int).length : Int).natAbs < 1073741824 := by rw [List.length_map]; omega
        have sq0 := sq (SameX.refl s H)
        obtain ⟨v, hv⟩ : ∃ v, atI (ns.map V.int) (a.fmod ((ns.map V.int).length : Int)) = some (V.int v) := by
          have h0 := Int.fmod_nonneg_of_pos a (b := ((ns.map V.int).length : Int)) (by rw [List.length_map]; omega)
          have h1 := Int.fmod_lt_of_pos a (b := ((ns.map V.int).length : Int)) (by rw [List.length_map]; omega)
          obtain ⟨j, hj⟩ := Int.eq_ofNat_of_zero_le h0
          rw [hj] at h1 ⊢
          rw [List.length_map] at h1
          have hjl : j < ns.length := by omega
          exact ⟨ns[j], atI_nat (by rw [List.getElem?_map, List.getElem?_eq_getElem hjl]; rfl)⟩
        refine ⟨_, rfl, _, rfl, c, _, rfl, .inl sq0, _, _, rfl, rfl, ⟨hne, hsm⟩, _, _, rfl, rfl, .inl (by decide), ?_⟩
        refine ⟨_, rfl, _, rfl, .inl ⟨_, rfl, _, rfl, c, _, rfl, .inl sq0, _, _, rfl, rfl, hne, ?_⟩⟩
        exact ⟨c, _, _, _, rfl, rfl, sq0, hv, _, _, rfl, rfl, rfl, _, rfl⟩
      · exact ⟨rfl, _, rfl⟩
    · rintro σ' H' ⟨rfl, z, rfl⟩
      have e1 : SameX s H' (upd H' s (.lst [.ref c, .int (a + 1), .int b, .bl m])) := (SameX.refl s H').put
      -- state[1] = nth + 1; state[3] = ..
      refine ⟨_, rfl, _, _, rfl, rfl, _, rfl, s, _, 1, 1, rfl, rfl, hs, rfl, ?_⟩
      refine ⟨fun v H2 => H2 = _ ∧ ∃ d : Bool, v = .bl d, ⟨_, rfl, _, rfl, c, _, rfl, .inl (sq e1), _, _, rfl, rfl, _, rfl, ite2 (fun _ => ⟨rfl, _, rfl⟩) (fun _ => ?_)⟩, ?_⟩
      · exact ⟨_, rfl, _, _, rfl, rfl, ⟨by decide, by decide, by decide⟩, _, _, rfl, rfl, rfl, _, rfl⟩
      rintro _ _ ⟨rfl, d, rfl⟩
      refine ⟨_, rfl, s, _, 3, 3, rfl, rfl, upd_same, rfl, ?_⟩
      rw [upd_upd]
      -- state[2] = seed - 10 ** 18
      refine ⟨_, rfl, _, _, rfl, rfl, ⟨by decide, by decide, by decide⟩, _, _, rfl, rfl, _, rfl, s, _, 2, 2, rfl, rfl, upd_same, rfl, ?_⟩
      rw [upd_upd]
      refine ⟨_, rfl, s, _, 3, .bl d, rfl, rfl, SqL.of upd_same, rfl, d, rfl, ite2 (fun _ => ?_) (fun _ => ?_)⟩
      · -- mixed
        refine ⟨_, rfl, s, _, 2, 2, rfl, rfl, upd_same, rfl, ?_⟩
        rw [upd_upd]
        refine ⟨by show 5 ≤ sizeLine; decide, fun t ht => ⟨t, _, rfl, SqT.of upd_same, ?_⟩⟩
        obtain ⟨ts, ht'⟩ := upd_none ht
        refine for_it walk_enumT (fun i σ H2 => SameX s H' H2 ∧ H2 t = some (.tup primes) ∧ (∃ b2 : Int, H2 s = some (.lst [.ref c, .int (a + 1), .int b2, .bl d])) ∧ ∃ x4 x5 x6, σ = [some (.ref s), some (.ref c), some (.int a), some (.int z), x4, x5, x6])
          ⟨((SameX.refl s H').put).new ht, upd_same, ⟨0, (upd_ne ts.symm).trans upd_same⟩, none, none, none, rfl⟩ (fun i σ H2 _ q => SqT.of q.2.1) ?_ ?_
        · rintro i x σ H2 H3 hi ⟨e2, e3, ⟨b2, e4⟩, x4, x5, x6, rfl⟩ ⟨U, _, y, rfl, hU, rfl, h1, hy⟩
          obtain rfl := Option.some.inj h1
          obtain ⟨p, rfl, p0, p1⟩ := primes_ok (i := i) hy
          have us : s ≠ U := fun q => by rw [q, hU] at e4; cases e4
          refine ⟨U, _, rfl, SqT.of upd_same, rfl, _, _, rfl, _, _, rfl, rfl, ?_⟩
          have hf0 : p ≠ 0 := by omega
          have hi5 : i < 5 := hi
          -- far
          refine ⟨_, rfl, _, rfl, _, _, rfl, rfl, .inl (by decide), _, rfl, _, _, rfl, rfl, .inr (by omega), _, _, rfl, rfl, _, rfl, _, _, rfl, rfl, .inl (by decide), _, _, rfl, rfl, ?_⟩
          refine ⟨_, rfl, _, _, rfl, rfl, .inl (by decide), _, _, rfl, rfl, _, _, rfl, rfl, .inr (by omega), .inl ⟨_, rfl, _, rfl, _, _, rfl, rfl, hf0, ?_⟩⟩
          have f0 := Int.fmod_nonneg_of_pos ((z + 10007 * (i : Int) * (i : Int) + 101 * (i : Int)) * (48271 + 2 * (i : Int))) (b := p) (by omega)
          have f1 := Int.fmod_lt_of_pos ((z + 10007 * (i : Int) * (i : Int) + 101 * (i : Int)) * (48271 + 2 * (i : Int))) (b := p) (by omega)
          have e5 : upd H2 U (.tup [.int (i : Nat), .int p]) s = some (.lst [.ref c, .int (a + 1), .int b2, .bl d]) := by rw [upd_ne us]; exact e4
          refine ⟨_, rfl, s, _, 2, .int b2, rfl, rfl, SqL.of e5, rfl, _, rfl, _, _, rfl, rfl, .inr (by omega), ?_⟩
          refine ⟨_, rfl, _, _, rfl, rfl, ⟨by decide, by decide, by omega⟩, .inl ⟨_, rfl, _, rfl, _, _, rfl, rfl, hf0, _, _, rfl, rfl, _, rfl, s, _, 2, 2, rfl, rfl, e5, rfl, ?_⟩⟩
          have tU : t ≠ U := fun q => by rw [q, hU] at e3; cases e3
          exact ⟨(e2.new hU).put, by rw [upd_ne ts, upd_ne tU]; exact e3, ⟨_, upd_same⟩, _, _, _, rfl⟩
        · rintro σ H2 ⟨e2, _, ⟨b2, e4⟩, _⟩
          exact kd _ _ _ _ e2 e4
      · exact kd _ _ _ _ (SameX.refl s H').put upd_same
def lapsOf (σ : L2.St) (_ : Hp) : Nat := match (σ[2]? : Option (Option V)) with
  | some (some (V.int l)) => (64 - l).toNat
  | _ => 0
theorem ok_take {f : Addr} {fd : FuncData} (F : DefX K mg "_law_take" s_take ["_law_state", "_law_many"] f fd) (T : Txt K mg) (c_fill : Cal P w K mg base CX0 1 "_law_fill" spFill) : Cal P w K mg base CX0 2 "_law_take" spTake := by
  refine cal_mk F sc_take (fun vs H Q E h => ?_) (fun cdv A outer s H vs Q E hr h => ?_)
  · obtain ⟨s, c, ns, n, rfl, _⟩ := h
    rfl
  · obtain ⟨s, c, ns, n, rfl, h0, hl, n0, n1, k⟩ := h
    refine ⟨_, (pss_cons (ps_set (i := 2) sc_take.nd rfl (Or.inl rfl) pe_int)
(pss_cons (ps_while PassesOwn.never (pt_cut (PW.pt (pw_and (pt_cmpR op_lt (pv 2) pe_int (nomark _)) (pw_and1 (pt_cut (PW.pt (pw_or (pt_cmpR op_eq (pe_ix ix_list (pv 0) pe_int (fun _ _ => rfl)) pe_int (nomark _)) (pw_or1 (pt_cut (PW.pt (pw_and (pt_val (pe_ix ix_list (pv 0) pe_int (fun _ _ => rfl))) (pw_and1 (pt_cmpR op_lt (pe_ix ix_list (pv 0) pe_int (fun _ _ => rfl)) (pe_op op_mul (pv 1) pe_int) (nomark _))))))))))))))
(pss_cons (ps_expr (pe_c c_fill hr (by first | decide | assumption) rfl (pa_cons (pv 0) pa_nil)))
(pss_cons (ps_aug (i := 2) sc_take.nd rfl (Or.inl rfl) pe_int ip_add)
(pss_one (ps_if (pt_cut (PW.pt (pw_and (pt_val (pe_ix ix_list (pv 0) pe_int (fun _ _ => rfl))) (pw_and1 (pt_cmpR op_lt (pe_ix ix_list (pv 0) pe_int (fun _ _ => rfl)) (pe_op op_mul (pv 1) pe_int) (nomark _))))))
(pss_one (ps_asg (pe_op op_add (pe_ix ix_list (pv 0) pe_int (fun _ _ => rfl)) (pe_op op_mul (pe_op op_mul (pv 1) pe_int) (pe_op op_add pe_int (pe_op op_modN (pe_callTy call_int1 (by rfl) T.int (by decide +kernel) (pa_cons (pe_ix ix_list (pv 0) pe_int (fun _ _ => rfl)) pa_nil)) pe_int)))) (pg_sub (pv 0) pe_int set_list)))
pss_nil)))))
(pss_cons (ps_set (i := 3) sc_take.nd rfl (Or.inl rfl) (pe_op op_modN (pe_callTy call_int1 (by rfl) T.int (by decide +kernel) (pa_cons (pe_ix ix_list (pv 0) pe_int (fun _ _ => rfl)) pa_nil)) (pv 1)))
(pss_cons (ps_asg (pe_op op_fdivN (pe_ix ix_list (pv 0) pe_int (fun _ _ => rfl)) (pv 1)) (pg_sub (pv 0) pe_int set_list))
(pss_one (ps_ret (pv 3))))))), ?_⟩
    show tWhile _ _ _ [some (.ref s), some (.int n), some (.int 0), none] H
    refine while_by (fun σ H2 => SameX s H H2 ∧ StA H2 s c ns ∧ ∃ l : Int, σ = [some (.ref s), some (.int n), some (.int l), none]) lapsOf ⟨SameX.refl s H, h0, 0, rfl⟩ ?_ (fun σ H Q Q' h x => ?_)
    · rintro σ H2 ⟨e2, ⟨cs, hc, a, b, m, hs⟩, l, rfl⟩
      refine ⟨fun t H3 => H3 = H2 ∧ (t = true → l < 64), ?_, ?_⟩
      · refine ⟨_, rfl, _, _, rfl, rfl, _, rfl, ite2 (fun h1 => ?_) (fun h1 => ⟨rfl, fun h => nomatch h⟩)⟩
        have hl64 : l < 64 := of_decide_eq_true h1
        refine ⟨fun t H3 => H3 = H2, ⟨_, rfl, s, _, 2, _, rfl, rfl, SqL.of hs, rfl, rfl, _, rfl, ite2 (fun _ => rfl) (fun _ => ?_)⟩, fun t H3 e => ⟨e, fun _ => hl64⟩⟩
        refine ⟨fun t H3 => H3 = H2, ⟨_, rfl, s, _, 3, _, rfl, rfl, SqL.of hs, rfl, m, rfl, ite2 (fun _ => ?_) (fun _ => rfl)⟩, fun t H3 e => e⟩
        exact ⟨_, rfl, s, _, 2, _, rfl, rfl, SqL.of hs, rfl, _, rfl, _, _, rfl, rfl, .inr (by decide), _, _, rfl, rfl, _, rfl, rfl⟩
      · rintro t H3 ⟨rfl, ht⟩
        refine ite2 (fun h1 => ?_) (fun h1 => ?_)
        · have hl64 := ht h1
          have dec : ∀ x : Option V, lapsOf [some (.ref s), some (.int n), some (.int (l + 1)), x] H3 < lapsOf [some (.ref s), some (.int n), some (.int l), none] H3 := fun x => by
            show (64 - (l + 1)).toNat < (64 - l).toNat
            omega
          refine ⟨_, rfl, s, c, ns, rfl, ⟨cs, hc, a, b, m, hs⟩, hl, fun H4 e4 h4 => ?_⟩
          obtain ⟨_, hc4, a4, b4, m4, hs4⟩ := id h4
          refine ⟨_, rfl, _, _, rfl, rfl, ?_⟩
          refine ⟨fun t H5 => H5 = H4, ⟨_, rfl, s, _, 3, _, rfl, rfl, SqL.of hs4, rfl, m4, rfl, ite2 (fun _ => ?_) (fun _ => rfl)⟩, ?_⟩
          · exact ⟨_, rfl, s, _, 2, _, rfl, rfl, SqL.of hs4, rfl, _, rfl, _, _, rfl, rfl, .inr (by decide), _, _, rfl, rfl, _, rfl, rfl⟩
          rintro t5 H5 rfl
          refine ite2 (fun _ => ?_) (fun _ => ?_)
          · refine ⟨_, rfl, s, _, 2, _, rfl, rfl, SqL.of hs4, rfl, _, rfl, _, _, rfl, rfl, .inr (by decide), ?_⟩
            refine ⟨_, rfl, s, _, 2, _, rfl, rfl, SqL.of hs4, rfl, .inl ⟨_, rfl, _, _, rfl, rfl, (by show (4093 : Int) ≠ 0; decide), _, _, rfl, rfl, _, _, rfl, rfl, .inl ?_, _, _, rfl, rfl, ?_⟩⟩
            · show -(2 ^ 64) < n * 4096 ∧ n * 4096 < 2 ^ 64
              omega
            refine ⟨_, rfl, s, _, 2, 2, rfl, rfl, hs4, rfl, ⟨(e2.trans e4).put, ⟨cs, ?_, _, _, _, upd_same⟩, _, rfl⟩, dec none⟩
            rw [upd_ne cs]
            exact hc4
          · exact ⟨⟨e2.trans e4, h4, _, rfl⟩, dec none⟩
        · refine ⟨_, rfl, s, _, 2, _, rfl, rfl, SqL.of hs, rfl, .inl ⟨_, rfl, _, rfl, _, _, rfl, rfl, by omega, ?_⟩⟩
          refine ⟨_, rfl, s, _, 2, _, rfl, rfl, SqL.of hs, rfl, _, rfl, _, _, rfl, rfl, ⟨by omega, by omega⟩, _, rfl, s, _, 2, 2, rfl, rfl, hs, rfl, _, rfl, ?_⟩
          have d0 := Int.fmod_nonneg_of_pos b (b := n) n0
          have d1 := Int.fmod_lt_of_pos b (b := n) n0
          obtain ⟨d, hd⟩ := Int.eq_ofNat_of_zero_le d0
          show Q (.int (b.fmod n)) _
          rw [hd]
          refine k d _ (by omega) e2.put ⟨cs, ?_, _, _, _, upd_same⟩
          rw [upd_ne cs]
          exact hc
    · obtain ⟨M, a, b⟩ := x
      exact ⟨M, a, fun b' H' m => h _ _ (b b' H' m)⟩
theorem ok_one {f : Addr} {fd : FuncData} (F : DefX K mg "_law_one" s_one ["_law_state", "_law_things"] f fd) (T : Txt K mg) (c_take : Cal P w K mg base CX0 2 "_law_take" spTake) : Cal P w K mg base CX0 3 "_law_one" (spOne K) := by
  refine cal_mk F sc_one (fun vs H Q E h => ?_) (fun cdv A outer s H vs Q E hr h => ?_)
  · obtain ⟨s, c, l, ns, xs, rfl, _⟩ := h
    rfl
  · obtain ⟨s, c, l, ns, xs, rfl, h0, hl, ls, hx, x0, x1, k⟩ := h
    refine ⟨_, (pss_one (ps_ret (pe_ix ix_seq (pv 1) (pe_c c_take hr (by first | decide | assumption) rfl (pa_cons (pv 0) (pa_cons (pe_callB call_len_seq (by rfl) T.len (by decide +kernel) (pa_cons (pv 1) pa_nil)) pa_nil))) (fun _ _ => rfl)))), ?_⟩
    refine ⟨_, rfl, _, rfl, _, rfl, l, xs, rfl, hx, s, c, ns, _, rfl, h0, hl, by omega, by omega, fun d H2 hd e2 h2 => ?_⟩
    have hdl : d < xs.length := by omega
    have hv : xs[d]? = some xs[d] := List.getElem?_eq_getElem hdl
    rcases hx with hx | hx
    · exact .inl ⟨l, xs, _, _, rfl, rfl, e2.l ls hx, atI_nat hv, k d _ H2 hv e2 h2⟩
    · exact .inr (.inl ⟨l, xs, _, _, rfl, rfl, e2.t ls hx, atI_nat hv, k d _ H2 hv e2 h2⟩)
end
end MK
set_option Elab.async false
set_option linter.all false
set_option autoImplicit false
set_option maxRecDepth 100000
set_option maxHeartbeats 4000000
namespace MK
open PySem PySem.Spec PyProof.Rows L2
local macro_rules | `(tactic| walk_at "x") => `(tactic| dsimp only [tSeq, tAsg, tRet, tDrop, tLst, tTup, tCons, tOp, tUn, tIfS])
theorem sc_is_word : FnScope ["thing", "letter"] ["thing"] (defScope s_is_word) := ⟨rfl, rfl, rfl, by decide +kernel, rfl, by decide +kernel, by decide +kernel⟩
theorem sc_is_integer : FnScope ["thing"] ["thing"] (defScope s_is_integer) := ⟨rfl, rfl, rfl, by decide +kernel, rfl, by decide +kernel, by decide +kernel⟩
theorem sc_is_list : FnScope ["thing"] ["thing"] (defScope s_is_list) := ⟨rfl, rfl, rfl, by decide +kernel, rfl, by decide +kernel, by decide +kernel⟩
theorem sc_is_modes : FnScope ["modes"] ["modes"] (defScope s_is_modes) := ⟨rfl, rfl, rfl, by decide +kernel, rfl, by decide +kernel, by decide +kernel⟩
def NoStr (K : PySem.W.Frag) (H : Hp) (x : V) : Prop := ∃ t, TyX K H x (.type t) ∧ kitB t "str" = some false
def spWord (K : PySem.W.Frag) : Sp := fun vs H Q _ => ∃ x, vs = [x] ∧ ((∃ z, x = .str z ∧ z.length ≤ sizeLine ∧ ∀ H', Same H H' → Q (.bl (wordB z)) H') ∨ (NoStr K H x ∧ Q (.bl false) H))
def spInt : Sp := fun vs H Q _ => ∃ i, vs = [.int i] ∧ Q (.bl true) H
def spList (K : PySem.W.Frag) : Sp := fun vs H Q _ => ∃ x xs, vs = [x] ∧ Sq K H x xs ∧ ∀ H', Same H H' → Q (.bl true) H'
def spModes : Sp := fun vs H Q _ => ∃ i : Int, vs = [.int i] ∧ Q (.bl (decide (1 ≤ i) && decide (i ≤ 4))) H
section
variable {P : Program} {w : World} {K : PySem.W.Frag} {mg : Str → Option Value} {base : Heap} {C : Cst}
theorem ok_word {f : Addr} {fd : FuncData} (F : DefX K mg "is_word" s_is_word ["thing"] f fd) (T : Txt K mg) (Cs : Csts K w mg C) : Cal P w K mg base CX0 1 "is_word" (spWord K) := by
  refine cal_mk F sc_is_word (fun vs H Q E h => ?_) (fun cdv A outer sh H vs Q E hr h => ?_)
  · obtain ⟨x, rfl, _⟩ := h
    rfl
  · obtain ⟨x, rfl, h⟩ := h
    refine ⟨_, (pss_cons (ps_if (pt_cut (PW.pt (pw_or (pt_not (pt_val (pe_callB call_isi (by rfl) T.isinstance (by decide +kernel) (pa_cons (pv 0) (pa_cons (pe_tyv (n := "str") (by rfl) T.str (by decide +kernel)) pa_nil))))) (pw_or1 (pt_not (pt_chain op_le op_le pe_int (pe_callB call_len_str (by rfl) T.len (by decide +kernel) (pa_cons (pv 0) pa_nil)) (pe_cst rfl Cs.MOST_LETTERS)))))))
(pss_one (ps_ret pe_bl))
pss_nil)
(pss_one (ps_ret (pe_callB (cr_all rfl) (by rfl) T.all (by decide +kernel) (pa_cons (pe_lc (own := [("letter", 1)]) (g := (gName 1)) (tt := tYes) rfl sc_is_word.nd (pi_str (pv 0)) (blkOk_by (own := [("letter", 1)]) (N := ["thing", "letter"]) (sc := defScope s_is_word) (by decide +kernel)) (fun _ _ _ _ _ => (pg_name (i := 1) sc_is_word.nd rfl (Or.inl rfl))) (fun _ _ _ _ _ => pts_nil) (fun _ _ _ _ _ => (pe_chain op_le_str op_le_str pe_str (pv 1) pe_str))) pa_nil))))), ?_⟩
    rcases h with ⟨z, rfl, hz, q⟩ | ⟨⟨t, ty, kt⟩, q⟩
    · refine ⟨fun t H' => H' = H ∧ t = !(decide (1 ≤ z.cps.size) && decide (z.cps.size ≤ 8)), ?_, ?_⟩
      · refine ⟨_, rfl, _, _, _, _, true, rfl, .ty _, .base (.str z), kit_ty (by decide +kernel), true, rfl, iteF ?_⟩
        refine ⟨_, rfl, z, rfl, hz, _, _, rfl, rfl, _, rfl, ?_⟩
        have e1 : decide ((1 : Int) ≤ (z.length : Int)) = decide (1 ≤ z.cps.size) := decide_eq_decide.mpr (by show ((1 : Int) ≤ (z.cps.size : Int)) ↔ _; omega)
        have e2 : decide ((z.length : Int) ≤ 8) = decide (z.cps.size ≤ 8) := decide_eq_decide.mpr (by show (((z.cps.size : Nat) : Int) ≤ 8) ↔ _; omega)
        rw [e1]
        refine ite2 (fun h1 => ?_) (fun h1 => ?_)
        · refine ⟨_, _, rfl, rfl, _, rfl, rfl, ?_⟩
          rw [e2, h1, Bool.true_and]
        · refine ⟨_, rfl, rfl, ?_⟩
          rw [Bool.not_eq_true] at h1
          rw [h1, Bool.false_and]
      · rintro t H' ⟨rfl, rfl⟩
        refine ite2 (fun h1 => ?_) (fun h1 => ?_)
        · have e : wordB z = false := by
            rw [Bool.not_eq_true'] at h1
            unfold wordB
            rw [h1, Bool.false_and]
          have := q _ (Same.refl H')
          rw [e] at this
          exact this
        · rw [Bool.not_eq_true', Bool.not_eq_false] at h1
          have hs : z.cps.toList.length < 9 := by
            have := of_decide_eq_true (Bool.and_eq_true_iff.mp h1).2
            rw [Array.length_toList]
            omega
          refine ⟨_, rfl, z, rfl, fun D hD => ?_⟩
          refine lc_it walk_str (fun i H2 => Same H' H2 ∧ H2 D = some (.lst (((z.cps.toList.take i).map letterB).map V.bl))) ⟨same_new (Same.refl H') hD, by rw [upd_same]; rfl⟩ (fun _ _ _ _ => trivial) ?_ ?_
          · rintro i x H3 H2 hi ⟨e2, d2⟩ ⟨rfl, c, hc, rfl⟩
            refine ⟨rfl, ?_⟩
            refine ⟨_, rfl, _, _, rfl, rfl, _, rfl, ?_⟩
            rw [letter_le]
            have step : Same H' (upd H2 D (.lst (((z.cps.toList.take i).map letterB).map V.bl ++ [V.bl (letterB c)]))) ∧ upd H2 D (.lst (((z.cps.toList.take i).map letterB).map V.bl ++ [V.bl (letterB c)])) D = some (.lst (((z.cps.toList.take (i + 1)).map letterB).map V.bl)) := by
              refine ⟨fun b o hb => ?_, ?_⟩
              · rw [upd_ne (ne_of_none hb hD)]
                exact e2 _ _ hb
              · rw [upd_same, letters_take _ i c (by rw [Array.getElem?_toList]; exact hc), List.map_append]
                rfl
            have short : (((z.cps.toList.take i).map letterB).map V.bl).length < sizeLine := by
              rw [List.length_map, List.length_map]
              exact Nat.lt_of_le_of_lt (List.length_take_le' ..) (Nat.lt_trans hs (by decide))
            refine ite2 (fun h2 => ?_) (fun h2 => ?_)
            · refine ⟨_, _, rfl, rfl, _, d2, short, ?_⟩
              rw [letter_ge, show decide (c ≤ 122) = letterB c by unfold letterB; rw [h2, Bool.true_and]]
              exact step
            · refine ⟨_, d2, short, ?_⟩
              rw [Bool.not_eq_true] at h2
              rw [show false = letterB c by unfold letterB; rw [h2, Bool.false_and]]
              exact step
          · rintro H2 ⟨e2, d2⟩
            refine ⟨D, _, rfl, SqL.of d2, ?_⟩
            have := q _ e2
            unfold wordB at this
            rw [h1, Bool.true_and] at this
            have ev : ((z.cps.toList.take z.cps.size).map letterB).all id = z.cps.toList.all letterB := by
              rw [← Array.length_toList, List.take_length, List.all_map]
              rfl
            rw [ev]
            exact this
    · refine ⟨fun t H' => H' = H ∧ t = true, ?_, ?_⟩
      · refine ⟨_, rfl, _, _, _, _, false, rfl, .ty _, ty, kit_ty kt, false, rfl, iteT ⟨rfl, rfl⟩⟩
      · rintro _ _ ⟨rfl, rfl⟩
        exact iteT q
theorem ok_integer {f : Addr} {fd : FuncData} (F : DefX K mg "is_integer" s_is_integer ["thing"] f fd) (T : Txt K mg) : Cal P w K mg base CX0 1 "is_integer" spInt := by
  refine cal_mk F sc_is_integer (fun vs H Q E h => ?_) (fun cdv A outer sh H vs Q E hr h => ?_)
  · obtain ⟨i, rfl, _⟩ := h
    rfl
  · obtain ⟨i, rfl, q⟩ := h
    refine ⟨_, (pss_one (ps_ret (pe_cut (pe_and (pe_callB call_isi (by rfl) T.isinstance (by decide +kernel) (pa_cons (pv 0) (pa_cons (pe_tyv (n := "int") (by rfl) T.int (by decide +kernel)) pa_nil))) (pe_one (pe_not (pe_callB call_isi (by rfl) T.isinstance (by decide +kernel) (pa_cons (pv 0) (pa_cons (pe_tyv (n := "bool") (by rfl) T.bool (by decide +kernel)) pa_nil))))))))), ?_⟩
    refine ⟨fun v H2 => v = .bl true ∧ H2 = H, ?_, fun v H2 e => by rw [e.1, e.2]; exact q⟩
    refine ⟨_, rfl, _, _, _, _, true, rfl, .ty _, .base (.int i), kit_ty (by decide +kernel), true, rfl, iteT ?_⟩
    exact ⟨_, rfl, _, _, _, _, false, rfl, .ty _, .base (.int i), kit_ty (by decide +kernel), _, rfl, rfl, rfl⟩
theorem ok_list {f : Addr} {fd : FuncData} (F : DefX K mg "is_list" s_is_list ["thing"] f fd) (T : Txt K mg) : Cal P w K mg base CX0 1 "is_list" (spList K) := by
  refine cal_mk F sc_is_list (fun vs H Q E h => ?_) (fun cdv A outer sh H vs Q E hr h => ?_)
  · obtain ⟨x, xs, rfl, _⟩ := h
    rfl
  · obtain ⟨x, xs, rfl, ⟨a, rfl, sq⟩, q⟩ := h
    refine ⟨_, (pss_one (ps_ret (pe_callB call_isiT (by rfl) T.isinstance (by decide +kernel) (pa_cons (pv 0) (pa_cons (pe_tup (pa_cons (pe_tyv (n := "list") (by rfl) T.list (by decide +kernel)) (pa_cons (pe_tyv (n := "tuple") (by rfl) T.tuple (by decide +kernel)) pa_nil))) pa_nil))))), ?_⟩
    obtain ⟨t, ty, kt⟩ := sq_ty sq
    refine ⟨_, rfl, by show 2 ≤ sizeLine; decide, fun p hp => ?_⟩
    have e1 : Same H (upd H p (.tup [.ty "list", .ty "tuple"])) := same_new (Same.refl H) hp
    exact ⟨_, p, _, _, _, true, rfl, upd_same, .cons (.ty _) (.cons (.ty _) .nil), tyx_keep e1 ty, kt, q _ e1⟩
theorem ok_modes {f : Addr} {fd : FuncData} (F : DefX K mg "is_modes" s_is_modes ["modes"] f fd) (T : Txt K mg) (Cs : Csts K w mg C) (c_is_integer : Cal P w K mg base CX0 1 "is_integer" spInt) : Cal P w K mg base CX0 2 "is_modes" spModes := by
  refine cal_mk F sc_is_modes (fun vs H Q E h => ?_) (fun cdv A outer sh H vs Q E hr h => ?_)
  · obtain ⟨i, rfl, _⟩ := h
    rfl
  · obtain ⟨i, rfl, q⟩ := h
    refine ⟨_, (pss_one (ps_ret (pe_cut (pe_and (pe_c c_is_integer hr (by first | decide | assumption) rfl (pa_cons (pv 0) pa_nil)) (pe_one (pe_chain op_le op_le pe_int (pv 0) (pe_cst rfl Cs.MOST_MODES))))))), ?_⟩
    refine ⟨fun v H2 => v = .bl (decide (1 ≤ i) && decide (i ≤ 4)) ∧ H2 = H, ?_, fun v H2 e => by rw [e.1, e.2]; exact q⟩
    refine ⟨_, rfl, i, rfl, true, rfl, iteT ?_⟩
    refine ⟨_, rfl, _, _, rfl, rfl, _, rfl, ite2 (fun h1 => ?_) (fun h1 => ?_)⟩
    · refine ⟨_, _, rfl, rfl, ?_, rfl⟩
      rw [h1, Bool.true_and]
    · refine ⟨?_, rfl⟩
      rw [Bool.not_eq_true] at h1
      rw [h1, Bool.false_and]
end
end MK
set_option Elab.async false
set_option linter.all false
set_option autoImplicit false
set_option maxRecDepth 100000
set_option maxHeartbeats 4000000
namespace MK
open PySem PySem.Spec PyProof.Rows L2
local macro_rules | `(tactic| walk_at "x") => `(tactic| dsimp only [tSeq, tAsg, tRet, tDrop, tLst, tTup, tCons, tOp, tUn, tIfS])
theorem sc_is_field : FnScope ["item", "earlier", "name", "sort", "need"] ["item", "earlier"] (defScope s_is_field) := ⟨rfl, rfl, rfl, by decide +kernel, rfl, by decide +kernel, by decide +kernel⟩
theorem sc_kept_fields : FnScope ["fields", "kept", "index", "item", "field", "earlier"] ["fields"] (defScope s_kept_fields) := ⟨rfl, rfl, rfl, by decide +kernel, rfl, by decide +kernel, by decide +kernel⟩
/-- a field -/
def spField (K : PySem.W.Frag) : Sp := fun vs H Q _ => ∃ (v : V) (e : Addr) (fd : FD) (ys : List Str), vs = [v, .ref e] ∧ FdA K H v fd ∧ SqL K H e (ys.map V.str) ∧ wordB fd.nm = true ∧ fd.nm ∉ ys ∧ ∀ H', Same H H' → Q (.bl true) H'
def spFields (K : PySem.W.Frag) : Sp := fun vs H Q _ => ∃ (s : Addr) (v : V) (fvs : List V) (fs : List FD), vs = [v] ∧ H s ≠ none ∧ Sq K (Off s H) v fvs ∧ Al (FdA K (Off s H)) fvs fs ∧ FsOk fs ∧
  ∀ r rvs H', Same H H' → Tu K (Off s H') r rvs → Al (FdT K (Off s H')) rvs fs → Q r H'
theorem word_len {z : Str} (h : wordB z = true) : z.length ≤ sizeLine := by
  unfold wordB at h
  have h1 := (Bool.and_eq_true_iff.mp h).1
  have h2 := of_decide_eq_true (Bool.and_eq_true_iff.mp h1).2
  exact Nat.le_trans (show z.cps.size ≤ 8 from h2) (by decide)
theorem nm_new {zs : List Str} {i : Nat} {z : Str} (nd : zs.Nodup) (h : zs[i]? = some z) : z ∉ zs.take i := by
  have hi := (List.getElem?_eq_some_iff.mp h).1
  have := not_ahead nd hi
  rw [List.getD_eq_getElem?_getD, h] at this
  exact this
section
variable {P : Program} {w : World} {K : PySem.W.Frag} {mg : Str → Option Value} {base : Heap} {C : Cst}
theorem ok_field {f : Addr} {fd : FuncData} (F : DefX K mg "is_field" s_is_field ["item", "earlier"] f fd) (T : Txt K mg) (Cs : Csts K w mg C) (c_is_list : Cal P w K mg base CX0 1 "is_list" (spList K)) (c_is_word : Cal P w K mg base CX0 1 "is_word" (spWord K)) : Cal P w K mg base CX0 2 "is_field" (spField K) := by
  refine cal_mk F sc_is_field (fun vs H Q E h => ?_) (fun cdv A outer sh H vs Q E hr h => ?_)
  · obtain ⟨v, e, fd, ys, rfl, _⟩ := h
    rfl
  · obtain ⟨v, e, fd, ys, rfl, ⟨a, rfl, hf⟩, he, hw, hn, q⟩ := h
    refine ⟨_, (pss_cons (ps_if (pt_cut (PW.pt (pw_or (pt_not (pt_val (pe_c c_is_list hr (by first | decide | assumption) rfl (pa_cons (pv 0) pa_nil)))) (pw_or1 (pt_cmpR op_ne (pe_callB call_len_seq (by rfl) T.len (by decide +kernel) (pa_cons (pv 0) pa_nil)) pe_int (nomark _))))))
(pss_one (ps_ret pe_bl))
pss_nil)
(pss_cons (ps_asg (pv 0) (pg_sq (by rfl) (pgs_cons (pg_name (i := 2) sc_is_field.nd rfl (Or.inl rfl)) (pgs_cons (pg_name (i := 3) sc_is_field.nd rfl (Or.inl rfl)) (pgs_cons (pg_name (i := 4) sc_is_field.nd rfl (Or.inl rfl)) pgs_nil)))))
(pss_one (ps_ret (pe_cut (pe_and (pe_c c_is_word hr (by first | decide | assumption) rfl (pa_cons (pv 2) pa_nil)) (pe_and (pe_cmpR op_notIn_seq (pv 2) (pv 1) (by rfl)) (pe_and (pe_cmpR op_in_seq (pv 3) (pe_cst rfl Cs.SORTS) (by rfl)) (pe_one (pe_callB call_isi (by rfl) T.isinstance (by decide +kernel) (pa_cons (pv 4) (pa_cons (pe_tyv (n := "bool") (by rfl) T.bool (by decide +kernel)) pa_nil)))))))))))), ?_⟩
    refine ⟨fun t H' => t = false ∧ Same H H', ⟨_, rfl, .ref a, _, rfl, ⟨a, rfl, hf⟩, fun H1 e1 => ⟨true, rfl, iteF ?_⟩⟩, ?_⟩
    · exact ⟨_, rfl, a, _, rfl, hf.elim (fun h => .inl (e1.seq h)) (fun h => .inr (same_t e1 h)), rfl, _, rfl, rfl, e1⟩
    rintro _ H1 ⟨rfl, e1⟩
    refine iteF ?_
    have hf1 : SqL K H1 a (FdV fd) ∨ SqT K H1 a (FdV fd) := hf.elim (fun h => .inl (e1.seq h)) (fun h => .inr (same_t e1 h))
    refine ⟨_, rfl, _, ⟨a, rfl, hf1⟩, rfl, _, _, rfl, _, _, rfl, _, _, rfl, rfl, ?_⟩
    refine ⟨fun v H2 => v = .bl true ∧ Same H H2, ?_, fun v H2 e => by rw [e.1]; exact q _ e.2⟩
    refine ⟨_, rfl, _, rfl, .inl ⟨_, rfl, word_len hw, fun H2 e2 => ?_⟩⟩
    rw [hw]
    refine ⟨_, rfl, iteT ?_⟩
    have e02 := e1.trans e2
    refine ⟨_, rfl, _, rfl, e, _, rfl, .inl (e02.seq he), rfl, flat_strs _, ?_⟩
    rw [inV_strs, decide_eq_false hn]
    refine ⟨_, rfl, iteT ?_⟩
    refine ⟨_, rfl, C.sorts, _, rfl, .inr (Cs.t_sorts _), rfl, rfl, true, ?_, iteT ?_⟩
    · cases fd.many <;> decide
    · exact ⟨_, rfl, _, _, _, _, true, rfl, .ty _, .base (.bl _), kit_ty (by decide +kernel), rfl, e02⟩
theorem ok_fields {f : Addr} {fd : FuncData} (F : DefX K mg "kept_fields" s_kept_fields ["fields"] f fd) (T : Txt K mg) (Cs : Csts K w mg C) (c_is_list : Cal P w K mg base CX0 1 "is_list" (spList K)) (c_is_field : Cal P w K mg base CX0 2 "is_field" (spField K)) : Cal P w K mg base CX0 3 "kept_fields" (spFields K) := by
  refine cal_mk F sc_kept_fields (fun vs H Q E h => ?_) (fun cdv A outer sh H vs Q E hr h => ?_)
  · obtain ⟨s, v, fvs, fs, rfl, _⟩ := h
    rfl
  · obtain ⟨s, v, fvs, fs, rfl, hs, ⟨a, rfl, hv⟩, hal, hok, k⟩ := h
    refine ⟨_, (pss_cons (ps_if (pt_cut (PW.pt (pw_or (pt_not (pt_val (pe_c c_is_list hr (by first | decide | assumption) rfl (pa_cons (pv 0) pa_nil)))) (pw_or1 (pt_cmpR op_eq (pe_callB call_len_seq (by rfl) T.len (by decide +kernel) (pa_cons (pv 0) pa_nil)) pe_int (nomark _))))))
(pss_one (ps_never))
pss_nil)
(pss_cons (ps_set (i := 1) sc_kept_fields.nd rfl (Or.inl rfl) (pe_lst pa_nil))
(pss_cons (ps_for PassesOwn.never rfl (pi_enV (by rfl) T.enumerate (pa_cons (pv 0) pa_nil)) (pg_tup (by rfl) (pgs_cons (pg_name (i := 2) sc_kept_fields.nd rfl (Or.inl rfl)) (pgs_cons (pg_name (i := 3) sc_kept_fields.nd rfl (Or.inl rfl)) pgs_nil)))
(pss_cons (ps_setLc (i := 5) (own := [("field", 4)]) (g := (gName 4)) (tt := tYes) rfl sc_kept_fields.nd rfl rfl (sw_true rfl rfl rfl (by decide +kernel)) (pi_list (pv 1)) (blkOk_by (own := [("field", 4)]) (N := ["fields", "kept", "index", "item", "field", "earlier"]) (sc := defScope s_kept_fields) (by decide +kernel)) (fun _ _ _ _ _ => (pg_name (i := 4) sc_kept_fields.nd rfl (Or.inl rfl))) (fun _ _ _ _ _ => pts_nil) (fun _ _ _ _ _ => (pe_ix (ix_tupK (K := K) rfl) (pv 4) pe_int (fun _ _ => rfl))))
(pss_cons (ps_if (pt_cut (PW.pt (pw_or (pt_cmpR op_ge (pv 2) (pe_cst rfl Cs.MOST_FIELDS) (nomark _)) (pw_or1 (pt_not (pt_val (pe_c c_is_field hr (by first | decide | assumption) rfl (pa_cons (pv 3) (pa_cons (pv 5) pa_nil)))))))))
(pss_one (ps_never))
pss_nil)
(pss_one (ps_expr (pe_bm PySem.F.plainAttrs_list PySem.F.slot_list_append PySem.F.type_list_append mt_append (pv 1) (pa_cons (pe_callTy call_tuple_of (by rfl) T.tuple (by decide +kernel) (pa_cons (pv 3) pa_nil)) pa_nil)))))))
(pss_one (ps_ret (pe_callTy call_tuple_of (by rfl) T.tuple (by decide +kernel) (pa_cons (pv 1) pa_nil))))))), ?_⟩
    have hv0 : SqL K H a fvs ∨ SqT K H a fvs := hv.elim (fun h => .inl (off_same.seq h)) (fun h => .inr (same_t off_same h))
    have len3 : fvs.length = fs.length := hal.1
    have l1 := hok.pos
    have l3 := hok.le
    refine ⟨fun t H' => t = false ∧ Same H H', ⟨_, rfl, .ref a, _, rfl, ⟨a, rfl, hv0⟩, fun H1 e1 => ⟨true, rfl, iteF ?_⟩⟩, ?_⟩
    · exact ⟨_, rfl, a, _, rfl, hv0.elim (fun h => .inl (e1.seq h)) (fun h => .inr (same_t e1 h)), rfl, _, rfl, decide_eq_false (fun e => by have := V.int.inj e; omega), e1⟩
    rintro _ H1 ⟨rfl, e1⟩
    refine iteF ?_
    refine ⟨by show 0 ≤ sizeLine; decide, fun D hD => ?_⟩
    have hsD : D ≠ s := fun e => by
      cases q : H s with
      | none => exact hs q
      | some o => rw [e, e1 _ _ q] at hD; cases hD
    have hD0 := none_of e1 hD
    refine ⟨_, rfl, a, fvs, Off s H, rfl, hv, off_same.trans (same_new e1 hD), fun J G wk hG => ?_⟩
    refine for_it wk (fun i σ H2 => Same H H2 ∧ ∃ kvs : List V, H2 D = some (.lst kvs) ∧ Al (FdT K (Off D (Off s H2))) kvs (fs.take i) ∧ ∃ x2 x3 x4 x5, σ = [some (.ref a), some (.ref D), x2, x3, x4, x5])
      ⟨same_new e1 hD, [], upd_same, Al.nil, none, none, none, none, rfl⟩ (fun i σ H2 _ h => hG _ (off_same.trans h.1)) ?_ ?_
    · rintro i x σ H2 H3 hi ⟨e2, kvs, d2, al, x2, x3, x4, x5, rfl⟩ ⟨U, _, y, rfl, hU, rfl, h1, hy⟩
      obtain rfl := Option.some.inj h1
      obtain ⟨f, hf, hfa⟩ := hal.get hy
      have hfm := List.mem_of_getElem? hf
      have e3 : Same H2 (upd H2 U (.tup [.int (i : Nat), y])) := same_new (Same.refl H2) hU
      refine ⟨U, _, rfl, SqT.of upd_same, rfl, _, _, rfl, _, _, rfl, rfl, ?_⟩
      refine ⟨_, rfl, D, rfl, ⟨_, SqL.of (e3 _ _ d2)⟩, fun D2 hD2 => ?_⟩
      refine lc_list (K := K) (a := D) (xs := kvs) (fun j H4 => Same H2 H4 ∧ H4 D2 = some (.lst ((((fs.take i).take j).map (·.nm)).map V.str))) ⟨same_new e3 hD2, upd_same⟩ (fun j H4 _ h => SqL.of (h.1 _ _ d2)) ?_ ?_
      · rintro j v H4 hv4 ⟨e4, d4⟩
        obtain ⟨g, hg, u, rfl, hu⟩ := al.get hv4
        have hu4 : SqT K H4 u (FdV g) := same_t (off_same.trans (off_same.trans e4)) hu
        refine ⟨rfl, ?_⟩
        refine ⟨_, rfl, u, _, 0, .str g.nm, rfl, rfl, hu4, rfl, _, d4, ?_, fun b o hb => ?_, ?_⟩
        · rw [List.length_map, List.length_map, List.length_take, List.length_take]
          exact Nat.lt_of_le_of_lt (by omega : _ ≤ 3) (by decide)
        · rw [upd_ne (ne_of_none (e3 _ _ hb) hD2)]
          exact e4 _ _ hb
        · rw [upd_same, List.take_succ (i := j), hg]
          simp
      rintro H4 ⟨e4, d4⟩
      rw [show kvs.length = (fs.take i).length from al.1, List.take_length] at d4
      have hi3 : i < fs.length := by
        have : i < fvs.length := hi
        omega
      have e24 := e2.trans e4
      refine ⟨fun t H' => t = false ∧ Same H4 H', ⟨_, rfl, _, _, rfl, rfl, _, rfl, iteB (decide_eq_false (by omega)) ?_⟩, ?_⟩
      · refine ⟨_, rfl, _, rfl, y, D2, f, _, rfl, FdA.keep (off_same.trans e24) hfa, SqL.of d4, hok.word f hfm, ?_, fun H5 e5 => ⟨true, rfl, rfl, e5⟩⟩
        rw [List.map_take]
        exact nm_new hok.nd (by rw [List.getElem?_map, hf]; rfl)
      rintro _ H5 ⟨rfl, e5⟩
      refine iteF ?_
      have e25 := e24.trans e5
      have d5 := (e4.trans e5) _ _ d2
      have kl : kvs.length < sizeLine := by
        rw [al.1, List.length_take]
        exact Nat.lt_of_le_of_lt (by omega : _ ≤ 3) (by decide)
      have tk : fs.take (i + 1) = fs.take i ++ [f] := by
        rw [List.take_succ, hf]
        rfl
      have fin : ∀ v H6, Same H5 H6 → FdT K (Off D (Off s H6)) v f → Same H (upd H6 D (.lst (kvs ++ [v]))) ∧ upd H6 D (.lst (kvs ++ [v])) D = some (.lst (kvs ++ [v])) ∧ Al (FdT K (Off D (Off s (upd H6 D (.lst (kvs ++ [v])))))) (kvs ++ [v]) (fs.take (i + 1)) := fun v H6 e6 hf6 => by
        refine ⟨fun b o hb => ?_, upd_same, ?_⟩
        · rw [upd_ne (ne_of_none hb hD0)]
          exact e6 _ _ (e25 _ _ hb)
        · rw [off_upd hsD, off_put, tk]
          exact (al.mono fun _ _ h => FdT.keep (same_off (same_off (e4.trans (e5.trans e6)))) h).snoc hf6
      refine ⟨_, rfl, .inl ⟨rfl, _, SqL.of d5⟩, _, rfl, ?_⟩
      obtain ⟨b, rfl, hb⟩ := hfa
      rcases hb with hb | hb
      · refine ⟨b, _, rfl, .inl ⟨(off_same.trans e25).seq hb, fun l hl => ?_⟩⟩
        have ls : l ≠ s := fun e => by
          cases q : H s with
          | none => exact hs q
          | some o => rw [e, e25 _ _ q] at hl; cases hl
        have lD : l ≠ D := fun e => by rw [e, d5] at hl; cases hl
        obtain ⟨p1, p2, p3⟩ := fin (.ref l) (upd H5 l (.tup (FdV f))) (same_new (Same.refl H5) hl) (Tu.tup (by rw [off_ne lD, off_ne ls, upd_same]))
        exact ⟨D, kvs, _, rfl, rfl, (upd_ne (Ne.symm lD)).trans d5, kl, p1, _, p2, p3, _, _, _, _, rfl⟩
      · obtain ⟨p1, p2, p3⟩ := fin (.ref b) H5 (Same.refl H5) ⟨b, rfl, same_t (same_offN (same_off e25) (off_none hD0)) hb⟩
        exact ⟨b, _, rfl, .inr ⟨same_t (off_same.trans e25) hb, ⟨D, kvs, _, rfl, rfl, d5, kl, p1, _, p2, p3, _, _, _, _, rfl⟩⟩⟩
    · rintro σ H2 ⟨e2, kvs, d2, al, x2, x3, x4, x5, rfl⟩
      refine ⟨_, rfl, D, kvs, rfl, .inl ⟨SqL.of d2, fun p hp => ?_⟩⟩
      have ps : p ≠ s := fun e => by
        cases q : H s with
        | none => exact hs q
        | some o => rw [e, e2 _ _ q] at hp; cases hp
      rw [len3, List.take_length] at al
      have e3 : Same H2 (upd H2 p (.tup kvs)) := same_new (Same.refl H2) hp
      refine k _ kvs _ (e2.trans e3) (Tu.tup (by rw [off_ne ps, upd_same])) (al.mono fun _ _ h => FdT.keep (off_same.trans (same_off e3)) h)
end
end MK
set_option Elab.async false
set_option linter.all false
set_option autoImplicit false
set_option maxRecDepth 100000
set_option maxHeartbeats 4000000
namespace MK
open PySem PySem.Spec PyProof.Rows L2
local macro_rules | `(tactic| walk_at "x") => `(tactic| dsimp only [tSeq, tAsg, tRet, tDrop, tLst, tTup, tCons, tOp, tUn, tIfS])
theorem sc_is_many : FnScope ["field", "sorts"] ["field", "sorts"] (defScope s_is_many) := ⟨rfl, rfl, rfl, by decide +kernel, rfl, by decide +kernel, by decide +kernel⟩
theorem sc_is_deed : FnScope ["pair", "sorts", "deed", "field"] ["pair", "sorts"] (defScope s_is_deed) := ⟨rfl, rfl, rfl, by decide +kernel, rfl, by decide +kernel, by decide +kernel⟩
theorem sc_are_moves : FnScope ["moves", "modes", "move"] ["moves", "modes"] (defScope s_are_moves) := ⟨rfl, rfl, rfl, by decide +kernel, rfl, by decide +kernel, by decide +kernel⟩
theorem sc_has_call_form : FnScope ["item", "name", "hand", "moves", "deeds", "same"] ["item"] (defScope s_has_call_form) := ⟨rfl, rfl, rfl, by decide +kernel, rfl, by decide +kernel, by decide +kernel⟩
def spMany : Sp := fun vs H Q _ => ∃ (z : Str) (so : Addr) (fs : List FD), vs = [.str z, .ref so] ∧ H so = some (.dK (sortsV fs)) ∧ (fs.map (·.nm)).Nodup ∧ (∃ f ∈ fs, f.nm = z ∧ f.many = true) ∧ Q (.bl true) H
def spDeed (K : PySem.W.Frag) : Sp := fun vs H Q _ => ∃ (v : V) (so : Addr) (fs : List FD) (d : Str × Str), vs = [v, .ref so] ∧ DeA K H v d ∧ H so = some (.dK (sortsV fs)) ∧ (fs.map (·.nm)).Nodup ∧ DeOk fs d ∧ ∀ H', Same H H' → Q (.bl true) H'
def spMoves (K : PySem.W.Frag) : Sp := fun vs H Q _ => ∃ (v : V) (n : Nat) (ms : List Int), vs = [v, .int n] ∧ Sq K H v (ms.map V.int) ∧ ms.length = n ∧ n ≤ 4 ∧ (∀ m ∈ ms, -1 ≤ m ∧ m < n) ∧ ∀ H', Same H H' → Q (.bl true) H'
def spCallForm (K : PySem.W.Frag) : Sp := fun vs H Q _ => ∃ (v : V) (cd : CD), vs = [v] ∧ CdA K H v cd ∧ ∀ H', Same H H' → Q (.bl true) H'
theorem sod_deed {z : Str} {b : Bool} (h : b ∈ deedSorts z) : ∃ l, sodOf z = some l ∧ sortS b ∈ l := by
  unfold deedSorts at h
  unfold sodOf
  split at h
  · rw [if_pos (by assumption)]
    exact ⟨_, rfl, by rw [List.mem_singleton.mp h]; decide⟩
  rw [if_neg (by assumption)]
  split at h
  · rw [if_pos (by assumption)]
    exact ⟨_, rfl, by rw [List.mem_singleton.mp h]; decide⟩
  rw [if_neg (by assumption)]
  split at h
  · rw [if_pos (by assumption)]
    exact ⟨_, rfl, by rw [List.mem_singleton.mp h]; decide⟩
  rw [if_neg (by assumption)]
  split at h
  · rw [if_pos (by assumption)]
    exact ⟨_, rfl, by rw [List.mem_singleton.mp h]; decide⟩
  rw [if_neg (by assumption)]
  split at h
  · rw [if_pos (by assumption)]
    exact ⟨_, rfl, by cases b <;> decide⟩
  · cases h
theorem sq_at {K : PySem.W.Frag} {H H' : Hp} {a : Addr} {xs : List V} (e : Same H H') (h : SqL K H a xs ∨ SqT K H a xs) : SqL K H' a xs ∨ SqT K H' a xs := h.elim (fun h => .inl (e.seq h)) (fun h => .inr (same_t e h))
section
variable {P : Program} {w : World} {K : PySem.W.Frag} {mg : Str → Option Value} {base : Heap} {C : Cst}
theorem ok_many {f : Addr} {fd : FuncData} (F : DefX K mg "is_many" s_is_many ["field", "sorts"] f fd) (T : Txt K mg) : Cal P w K mg base CX0 1 "is_many" spMany := by
  refine cal_mk F sc_is_many (fun vs H Q E h => ?_) (fun cdv A outer sh H vs Q E hr h => ?_)
  · obtain ⟨z, so, fs, rfl, _⟩ := h
    rfl
  · obtain ⟨z, so, fs, rfl, hso, nd, ⟨g, gm, rfl, gt⟩, q⟩ := h
    refine ⟨_, (pss_one (ps_ret (pe_cut (pe_and (pe_callB call_isi (by rfl) T.isinstance (by decide +kernel) (pa_cons (pv 0) (pa_cons (pe_tyv (n := "str") (by rfl) T.str (by decide +kernel)) pa_nil))) (pe_and (pe_cmp (pc_din (hu_of hr) (pv 0) (pv 1)) rfl) (pe_one (pe_cmpR op_eq (pe_dget (hu_of hr) (pv 1) (pv 0) (fun _ _ => rfl)) pe_str (nomark _)))))))), ?_⟩
    refine ⟨fun v H2 => v = .bl true ∧ H2 = H, ?_, fun v H2 e => by rw [e.1, e.2]; exact q⟩
    have hg : DGet H so (.str g.nm) (some (.str (sortS g.many))) := by
      have := DGet.k (k := .inr g.nm) hso
      rw [sorts_get nd gm] at this
      exact this
    refine ⟨_, rfl, _, _, _, _, true, rfl, .ty _, .base (.str _), kit_ty (by decide +kernel), true, rfl, iteT ?_⟩
    refine ⟨_, rfl, _, rfl, so, _, rfl, hg, true, rfl, iteT ?_⟩
    refine ⟨_, rfl, _, rfl, so, _, rfl, hg, rfl, ?_, rfl⟩
    rw [gt]
    rfl
theorem ok_deed {f : Addr} {fd : FuncData} (F : DefX K mg "is_deed" s_is_deed ["pair", "sorts"] f fd) (T : Txt K mg) (Cs : Csts K w mg C) (c_is_list : Cal P w K mg base CX0 1 "is_list" (spList K)) : Cal P w K mg base CX0 2 "is_deed" (spDeed K) := by
  obtain ⟨es, n, KD⟩ := Cs.sodD
  refine cal_mk F sc_is_deed (fun vs H Q E h => ?_) (fun cdv A outer sh H vs Q E hr h => ?_)
  · obtain ⟨v, so, fs, d, rfl, _⟩ := h
    rfl
  · obtain ⟨v, so, fs, d, rfl, ⟨a, rfl, hd⟩, hso, nd, ⟨g, gm, ge, gd⟩, q⟩ := h
    refine ⟨_, (pss_cons (ps_if (pt_cut (PW.pt (pw_or (pt_not (pt_val (pe_c c_is_list hr (by first | decide | assumption) rfl (pa_cons (pv 0) pa_nil)))) (pw_or1 (pt_cmpR op_ne (pe_callB call_len_seq (by rfl) T.len (by decide +kernel) (pa_cons (pv 0) pa_nil)) pe_int (nomark _))))))
(pss_one (ps_ret pe_bl))
pss_nil)
(pss_cons (ps_asg (pv 0) (pg_sq (by rfl) (pgs_cons (pg_name (i := 2) sc_is_deed.nd rfl (Or.inl rfl)) (pgs_cons (pg_name (i := 3) sc_is_deed.nd rfl (Or.inl rfl)) pgs_nil))))
(pss_cons (ps_if (pt_cut (PW.pt (pw_or (pt_not (pt_val (pe_callB call_isi (by rfl) T.isinstance (by decide +kernel) (pa_cons (pv 2) (pa_cons (pe_tyv (n := "str") (by rfl) T.str (by decide +kernel)) pa_nil))))) (pw_or1 (pt_cmpR (op_notIn_kd KD) (pv 2) (pe_cst rfl Cs.SORTS_OF_DEEDS) (by rfl))))))
(pss_one (ps_ret pe_bl))
pss_nil)
(pss_one (ps_ret (pe_cut (pe_and (pe_callB call_isi (by rfl) T.isinstance (by decide +kernel) (pa_cons (pv 3) (pa_cons (pe_tyv (n := "str") (by rfl) T.str (by decide +kernel)) pa_nil))) (pe_and (pe_cmp (pc_din (hu_of hr) (pv 3) (pv 1)) rfl) (pe_one (pe_cmpR op_in_seq (pe_dget (hu_of hr) (pv 1) (pv 3) (fun _ _ => rfl)) (pe_kget KD (pe_cst rfl Cs.SORTS_OF_DEEDS) (pv 2) (fun _ _ => rfl)) (by rfl))))))))))), ?_⟩
    refine ⟨fun t H' => t = false ∧ Same H H', ⟨_, rfl, .ref a, _, rfl, ⟨a, rfl, hd⟩, fun H1 e1 => ⟨true, rfl, iteF ⟨_, rfl, a, _, rfl, sq_at e1 hd, rfl, _, rfl, rfl, e1⟩⟩⟩, ?_⟩
    rintro _ H1 ⟨rfl, e1⟩
    refine iteF ?_
    refine ⟨_, rfl, _, ⟨a, rfl, sq_at e1 hd⟩, rfl, _, _, rfl, _, _, rfl, rfl, ?_⟩
    obtain ⟨l, hl, hml⟩ := sod_deed gd
    obtain ⟨sa, l', hns, hl', hsa⟩ := (Cs.sodN d.1).resolve_left fun q => by rw [q.2] at hl; cases hl
    obtain rfl : l' = l := by rw [hl'] at hl; exact Option.some.inj hl
    refine ⟨fun t H' => t = false ∧ H' = H1, ⟨_, rfl, _, _, _, _, true, rfl, .ty _, .base (.str _), kit_ty (by decide +kernel), true, rfl, iteF ⟨_, rfl, _, _, rfl, rfl, hns, _, rfl, rfl, rfl⟩⟩, ?_⟩
    rintro _ H1 ⟨rfl, rfl⟩
    refine iteF ?_
    have hg : DGet H1 so (.str d.2) (some (.str (sortS g.many))) := by
      have := DGet.k (k := .inr g.nm) (e1 _ _ hso)
      rw [sorts_get nd gm] at this
      rw [← ge]
      exact this
    refine ⟨fun v H2 => v = .bl true ∧ H2 = H1, ?_, fun v H2 e => by rw [e.1, e.2]; exact q _ e1⟩
    refine ⟨_, rfl, _, _, _, _, true, rfl, .ty _, .base (.str _), kit_ty (by decide +kernel), true, rfl, iteT ?_⟩
    refine ⟨_, rfl, _, rfl, so, _, rfl, hg, true, rfl, iteT ?_⟩
    refine ⟨_, rfl, _, rfl, so, _, rfl, hg, _, rfl, _, _, .ref sa, rfl, rfl, hns, rfl, ?_⟩
    refine ⟨sa, _, rfl, .inr (hsa _), rfl, flat_strs _, ?_, rfl⟩
    rw [inV_strs, decide_eq_true hml]
    rfl
theorem ok_moves {f : Addr} {fd : FuncData} (F : DefX K mg "are_moves" s_are_moves ["moves", "modes"] f fd) (T : Txt K mg) (c_is_integer : Cal P w K mg base CX0 1 "is_integer" spInt) : Cal P w K mg base CX0 2 "are_moves" (spMoves K) := by
  refine cal_mk F sc_are_moves (fun vs H Q E h => ?_) (fun cdv A outer sh H vs Q E hr h => ?_)
  · obtain ⟨v, n, ms, rfl, _⟩ := h
    rfl
  · obtain ⟨v, n, ms, rfl, ⟨a, rfl, hm⟩, rfl, n4, hz, q⟩ := h
    refine ⟨_, (pss_cons (ps_if (pt_cmpR op_ne (pe_callB call_len_seq (by rfl) T.len (by decide +kernel) (pa_cons (pv 0) pa_nil)) (pv 1) (nomark _))
(pss_one (ps_ret pe_bl))
pss_nil)
(pss_one (ps_ret (pe_callB (cr_all rfl) (by rfl) T.all (by decide +kernel) (pa_cons (pe_lc (own := [("move", 2)]) (g := (gName 2)) (tt := tYes) rfl sc_are_moves.nd (pi_sqV (pv 0)) (blkOk_by (own := [("move", 2)]) (N := ["moves", "modes", "move"]) (sc := defScope s_are_moves) (by decide +kernel)) (fun _ _ _ _ _ => (pg_name (i := 2) sc_are_moves.nd rfl (Or.inl rfl))) (fun _ _ _ _ _ => pts_nil) (fun _ _ _ _ _ => (pe_cut (pe_and (pe_c c_is_integer hr (by first | decide | assumption) rfl (pa_cons (pv 2) pa_nil)) (pe_one (pe_chain op_le op_lt (pe_un un_neg pe_int) (pv 2) (pv 1))))))) pa_nil))))), ?_⟩
    refine ⟨_, rfl, a, _, rfl, hm, _, rfl, rfl, _, rfl, iteB ?_ ?_⟩
    · rw [List.length_map, decide_eq_true rfl]
      rfl
    refine ⟨_, rfl, a, _, H, rfl, hm, Same.refl H, fun J G wk hG D hD => ?_⟩
    refine lc_it wk (fun i H2 => Same H H2 ∧ H2 D = some (.lst ((List.replicate i true).map V.bl))) ⟨same_new (Same.refl H) hD, upd_same⟩ (fun i H2 _ h => hG _ h.1) ?_ ?_
    · rintro i x H3 H2 hi ⟨e2, d2⟩ ⟨rfl, hx⟩
      rw [List.getElem?_map] at hx
      obtain ⟨m, hm2, rfl⟩ := Option.map_eq_some_iff.mp hx
      have hmz := hz m (List.mem_of_getElem? hm2)
      have hi4 : i < 4 := by
        have : i < (ms.map V.int).length := hi
        rw [List.length_map] at this
        omega
      refine ⟨rfl, ?_⟩
      refine ⟨fun v H4 => v = .bl true ∧ H4 = H2, ?_, ?_⟩
      · refine ⟨_, rfl, m, rfl, true, rfl, iteT ?_⟩
        refine ⟨_, rfl, _, rfl, _, _, rfl, rfl, _, rfl, iteA (decide_eq_true (by omega)) ⟨_, rfl, _, _, rfl, rfl, ?_, rfl⟩⟩
        exact congrArg V.bl (decide_eq_true hmz.2)
      · rintro _ _ ⟨rfl, rfl⟩
        refine ⟨_, d2, ?_, fun b o hb => ?_, ?_⟩
        · rw [List.length_map, List.length_replicate]
          exact Nat.lt_trans hi4 (by decide)
        · rw [upd_ne (ne_of_none hb hD)]
          exact e2 _ _ hb
        · rw [upd_same, List.replicate_succ', List.map_append]
          rfl
    · rintro H2 ⟨e2, d2⟩
      refine ⟨D, _, rfl, SqL.of d2, ?_⟩
      rw [show (List.replicate (ms.map V.int).length true).all id = true by simp]
      exact q _ e2
theorem ok_callForm {f : Addr} {fd : FuncData} (F : DefX K mg "has_call_form" s_has_call_form ["item"] f fd) (T : Txt K mg) (c_is_list : Cal P w K mg base CX0 1 "is_list" (spList K)) : Cal P w K mg base CX0 2 "has_call_form" (spCallForm K) := by
  refine cal_mk F sc_has_call_form (fun vs H Q E h => ?_) (fun cdv A outer sh H vs Q E hr h => ?_)
  · obtain ⟨v, cd, rfl, _⟩ := h
    rfl
  · obtain ⟨v, cd, rfl, ⟨m, d, s, ds, ⟨a, rfl, h1⟩, h2, h3, h4, h5⟩, q⟩ := h
    refine ⟨_, (pss_cons (ps_if (pt_cut (PW.pt (pw_or (pt_not (pt_val (pe_c c_is_list hr (by first | decide | assumption) rfl (pa_cons (pv 0) pa_nil)))) (pw_or1 (pt_cmpR op_ne (pe_callB call_len_seq (by rfl) T.len (by decide +kernel) (pa_cons (pv 0) pa_nil)) pe_int (nomark _))))))
(pss_one (ps_ret pe_bl))
pss_nil)
(pss_cons (ps_asg (pv 0) (pg_sq (by rfl) (pgs_cons (pg_name (i := 1) sc_has_call_form.nd rfl (Or.inl rfl)) (pgs_cons (pg_name (i := 2) sc_has_call_form.nd rfl (Or.inl rfl)) (pgs_cons (pg_name (i := 3) sc_has_call_form.nd rfl (Or.inl rfl)) (pgs_cons (pg_name (i := 4) sc_has_call_form.nd rfl (Or.inl rfl)) (pgs_cons (pg_name (i := 5) sc_has_call_form.nd rfl (Or.inl rfl)) pgs_nil)))))))
(pss_cons (ps_if (pt_cut (PW.pt (pw_or (pt_not (pt_val (pe_callB call_isi (by rfl) T.isinstance (by decide +kernel) (pa_cons (pv 1) (pa_cons (pe_tyv (n := "str") (by rfl) T.str (by decide +kernel)) pa_nil))))) (pw_or1 (pt_not (pt_val (pe_callB call_isi (by rfl) T.isinstance (by decide +kernel) (pa_cons (pv 2) (pa_cons (pe_tyv (n := "str") (by rfl) T.str (by decide +kernel)) pa_nil)))))))))
(pss_one (ps_ret pe_bl))
pss_nil)
(pss_one (ps_ret (pe_cut (pe_and (pe_c c_is_list hr (by first | decide | assumption) rfl (pa_cons (pv 3) pa_nil)) (pe_and (pe_c c_is_list hr (by first | decide | assumption) rfl (pa_cons (pv 4) pa_nil)) (pe_one (pe_c c_is_list hr (by first | decide | assumption) rfl (pa_cons (pv 5) pa_nil))))))))))), ?_⟩
    obtain ⟨ma, rfl, h2⟩ := h2
    obtain ⟨da, rfl, h3⟩ := h3
    obtain ⟨sa, rfl, h5⟩ := h5
    refine ⟨fun t H' => t = false ∧ Same H H', ⟨_, rfl, .ref a, _, rfl, ⟨a, rfl, h1⟩, fun H1 e1 => ⟨true, rfl, iteF ⟨_, rfl, a, _, rfl, sq_at e1 h1, rfl, _, rfl, rfl, e1⟩⟩⟩, ?_⟩
    rintro _ H1 ⟨rfl, e1⟩
    refine iteF ?_
    refine ⟨_, rfl, _, ⟨a, rfl, sq_at e1 h1⟩, rfl, _, _, rfl, _, _, rfl, _, _, rfl, _, _, rfl, _, _, rfl, rfl, ?_⟩
    refine ⟨fun t H' => t = false ∧ H' = H1, ⟨_, rfl, _, _, _, _, true, rfl, .ty _, .base (.str _), kit_ty (by decide +kernel), true, rfl, iteF ⟨_, rfl, _, _, _, _, true, rfl, .ty _, .base (.str _), kit_ty (by decide +kernel), true, rfl, rfl, rfl⟩⟩, ?_⟩
    rintro _ H1 ⟨rfl, rfl⟩
    refine iteF ?_
    refine ⟨fun v H2 => v = .bl true ∧ Same H H2, ?_, fun v H2 e => by rw [e.1]; exact q _ e.2⟩
    refine ⟨_, rfl, .ref ma, _, rfl, ⟨ma, rfl, sq_at e1 h2⟩, fun H2 e2 => ⟨true, rfl, iteT ?_⟩⟩
    refine ⟨_, rfl, .ref da, _, rfl, ⟨da, rfl, sq_at (e1.trans e2) h3⟩, fun H3 e3 => ⟨true, rfl, iteT ?_⟩⟩
    exact ⟨_, rfl, .ref sa, _, rfl, ⟨sa, rfl, sq_at ((e1.trans e2).trans e3) h5⟩, fun H4 e4 => ⟨rfl, ((e1.trans e2).trans e3).trans e4⟩⟩
end
end MK
set_option Elab.async false
set_option linter.all false
set_option autoImplicit false
set_option maxRecDepth 100000
set_option maxHeartbeats 4000000
namespace MK
open PySem PySem.Spec PyProof.Rows L2
local macro_rules | `(tactic| walk_at "x") => `(tactic| dsimp only [tSeq, tAsg, tRet, tDrop, tLst, tTup, tCons, tOp, tUn, tIfS])
theorem sc_are_deeds : FnScope ["deeds", "sorts", "pair", "deed", "field", "worded"] ["deeds", "sorts"] (defScope s_are_deeds) := ⟨rfl, rfl, rfl, by decide +kernel, rfl, by decide +kernel, by decide +kernel⟩
theorem sc_is_same : FnScope ["same", "hand", "sorts", "field"] ["same", "hand", "sorts"] (defScope s_is_same) := ⟨rfl, rfl, rfl, by decide +kernel, rfl, by decide +kernel, by decide +kernel⟩
theorem sc_kept_call : FnScope ["call", "name", "hand", "moves", "deeds", "same", "pair"] ["call"] (defScope s_kept_call) := ⟨rfl, rfl, rfl, by decide +kernel, rfl, by decide +kernel, by decide +kernel⟩
theorem sc_wrong_part : FnScope ["item", "earlier", "sorts", "modes", "name", "hand", "moves", "deeds", "same"] ["item", "earlier", "sorts", "modes"] (defScope s_wrong_part) := ⟨rfl, rfl, rfl, by decide +kernel, rfl, by decide +kernel, by decide +kernel⟩
def spDeedsOk (K : PySem.W.Frag) : Sp := fun vs H Q _ => ∃ (v : V) (so : Addr) (fs : List FD) (dvs : List V) (ds : List (Str × Str)), vs = [v, .ref so] ∧ Sq K H v dvs ∧ Al (DeA K H) dvs ds ∧ H so = some (.dK (sortsV fs)) ∧ (fs.map (·.nm)).Nodup ∧ (∀ d ∈ ds, DeOk fs d) ∧ ds.length ≤ 4 ∧ (worded ds).Nodup ∧ ∀ H', Same H H' → Q (.bl true) H'
def spSameOk (K : PySem.W.Frag) : Sp := fun vs H Q _ => ∃ (v : V) (so : Addr) (fs : List FD) (hd : Str) (zs : List Str), vs = [v, .str hd, .ref so] ∧ Sq K H v (zs.map V.str) ∧ H so = some (.dK (sortsV fs)) ∧ (fs.map (·.nm)).Nodup ∧ (∀ z ∈ zs, ∃ f ∈ fs, f.nm = z ∧ f.many = true) ∧ zs.length < 100 ∧ (hd = "self" → zs = []) ∧ zs.Nodup ∧ ∀ H', Same H H' → Q (.bl true) H'
def spKeptCall (K : PySem.W.Frag) : Sp := fun vs H Q _ => ∃ (s : Addr) (v : V) (cd : CD), vs = [v] ∧ H s ≠ none ∧ CdA K (Off s H) v cd ∧ cd.deeds.length ≤ 4 ∧ ∀ r H', Same H H' → CdT K (Off s H') r cd → Q r H'
def spWrong (K : PySem.W.Frag) : Sp := fun vs H Q _ => ∃ (v : V) (e so : Addr) (n : Nat) (fs : List FD) (ys : List Str) (cd : CD), vs = [v, .ref e, .ref so, .int n] ∧ CdA K H v cd ∧ SqL K H e (ys.map V.str) ∧ H so = some (.dK (sortsV fs)) ∧ FsOk fs ∧ n ≤ 4 ∧ CdOk fs n cd ∧ cd.nm ∉ ys ∧ ∀ H', Same H H' → Q .non H'
section
variable {P : Program} {w : World} {K : PySem.W.Frag} {mg : Str → Option Value} {base : Heap} {C : Cst}
theorem ok_deedsOk {f : Addr} {fd : FuncData} (F : DefX K mg "are_deeds" s_are_deeds ["deeds", "sorts"] f fd) (T : Txt K mg) (Cs : Csts K w mg C) (c_is_deed : Cal P w K mg base CX0 2 "is_deed" (spDeed K)) : Cal P w K mg base CX0 3 "are_deeds" (spDeedsOk K) := by
  refine cal_mk F sc_are_deeds (fun vs H Q E h => ?_) (fun cdv A outer sh H vs Q E hr h => ?_)
  · obtain ⟨v, so, fs, dvs, ds, rfl, _⟩ := h
    rfl
  · obtain ⟨v, so, fs, dvs, ds, rfl, ⟨a, rfl, hd⟩, hal, hso, nd, hok, d4, wnd, q⟩ := h
    refine ⟨_, (pss_cons (ps_if (pt_cut (PW.pt (pw_or (pt_cmpR op_gt (pe_callB call_len_seq (by rfl) T.len (by decide +kernel) (pa_cons (pv 0) pa_nil)) (pe_cst rfl Cs.MOST_DEEDS) (nomark _)) (pw_or1 (pt_not (pt_val (pe_callB (cr_all rfl) (by rfl) T.all (by decide +kernel) (pa_cons (pe_lc (own := [("pair", 2)]) (g := (gName 2)) (tt := tYes) rfl sc_are_deeds.nd (pi_sqV (pv 0)) (blkOk_by (own := [("pair", 2)]) (N := ["deeds", "sorts", "pair", "deed", "field", "worded"]) (sc := defScope s_are_deeds) (by decide +kernel)) (fun _ _ _ _ _ => (pg_name (i := 2) sc_are_deeds.nd rfl (Or.inl rfl))) (fun _ _ _ _ _ => pts_nil) (fun _ _ _ _ _ => (pe_c c_is_deed hr (by first | decide | assumption) rfl (pa_cons (pv 2) (pa_cons (pv 1) pa_nil))))) pa_nil))))))))
(pss_one (ps_ret pe_bl))
pss_nil)
(pss_cons (ps_setLc (i := 5) (own := [("deed", 3), ("field", 4)]) (g := (gSq K 2 (gCons (gName 3) (gCons (gName 4) gNil)))) rfl sc_are_deeds.nd rfl rfl (sw_true rfl rfl rfl (by decide +kernel)) (pi_sqV (pv 0)) (blkOk_by (own := [("deed", 3), ("field", 4)]) (N := ["deeds", "sorts", "pair", "deed", "field", "worded"]) (sc := defScope s_are_deeds) (by decide +kernel)) (fun _ _ _ _ _ => (pg_sq (by rfl) (pgs_cons (pg_name (i := 3) sc_are_deeds.nd rfl (Or.inl rfl)) (pgs_cons (pg_name (i := 4) sc_are_deeds.nd rfl (Or.inl rfl)) pgs_nil)))) (fun _ _ _ _ _ => (pts_one (pt_cmpR (op_in_seqK (K := K) rfl) (pv 3) (pe_cst rfl Cs.LIST_WORD_DEEDS) (by rfl)))) (fun _ _ _ _ _ => (pv 4)))
(pss_one (ps_ret (pe_cmpR op_eq (pe_lenS rfl (by rfl) T.len (by rfl) T.set (pv 5)) (pe_callB call_len_seq (by rfl) T.len (by decide +kernel) (pa_cons (pv 5) pa_nil)) (nomark _)))))), ?_⟩
    have dl : dvs.length ≤ 4 := by rw [hal.1]; exact d4
    refine ⟨fun t H' => t = false ∧ Same H H', ⟨_, rfl, a, _, rfl, hd, _, _, rfl, rfl, _, rfl, iteB (decide_eq_false (by omega)) ?_⟩, ?_⟩
    · refine ⟨_, rfl, a, _, H, rfl, hd, Same.refl H, fun J G wk hG D hD => ?_⟩
      refine lc_it wk (fun i H2 => Same H H2 ∧ H2 D = some (.lst ((List.replicate i true).map V.bl))) ⟨same_new (Same.refl H) hD, upd_same⟩ (fun i H2 _ h => hG _ h.1) ?_ ?_
      · rintro i x H3 H2 hi ⟨e2, d2⟩ ⟨rfl, hx⟩
        obtain ⟨dd, hdd, hda⟩ := hal.get hx
        refine ⟨rfl, ?_⟩
        refine ⟨_, rfl, _, rfl, x, so, fs, dd, rfl, DeA.keep e2 hda, e2 _ _ hso, nd, hok dd (List.mem_of_getElem? hdd), fun H4 e4 => ⟨_, e4 _ _ d2, ?_, fun b o hb => ?_, ?_⟩⟩
        · rw [List.length_map, List.length_replicate]
          exact Nat.lt_trans (Nat.lt_of_lt_of_le hi dl) (by decide)
        · rw [upd_ne (ne_of_none hb hD)]
          exact e4 _ _ (e2 _ _ hb)
        · rw [upd_same, List.replicate_succ', List.map_append]
          rfl
      · rintro H2 ⟨e2, d2⟩
        refine ⟨D, _, rfl, SqL.of d2, true, ?_, rfl, e2⟩
        simp
    rintro _ H1 ⟨rfl, e1⟩
    refine iteF ?_
    refine ⟨_, rfl, a, _, H, rfl, hd, e1, fun J G wk hG D hD => ?_⟩
    refine lc_it wk (fun i H2 => Same H H2 ∧ H2 D = some (.lst ((worded (ds.take i)).map V.str))) ⟨same_new e1 hD, upd_same⟩ (fun i H2 _ h => hG _ h.1) ?_ ?_
    · rintro i x H3 H2 hi ⟨e2, d2⟩ ⟨rfl, hx⟩
      obtain ⟨dd, hdd, hda⟩ := hal.get hx
      have tk : worded (ds.take (i + 1)) = worded (ds.take i) ++ (if dd.1 = ("add" : Str) ∨ dd.1 = ("strike" : Str) then [dd.2] else []) := by
        rw [List.take_succ, hdd]
        exact worded_snoc _ _
      refine ⟨DeV dd, DeA.keep e2 hda, rfl, _, _, rfl, _, _, rfl, rfl, rfl, ?_⟩
      refine ⟨_, rfl, C.lwd, _, rfl, .inr (Cs.t_lwd _), rfl, rfl, _, rfl, ?_⟩
      rw [show ([.str "add", .str "strike"] : List V) = (["add", "strike"] : List Str).map V.str from rfl, inV_strs]
      refine ite2 (fun h1 => ?_) (fun h1 => ?_)
      · have hm : dd.1 = ("add" : Str) ∨ dd.1 = ("strike" : Str) := by
          have := of_decide_eq_true h1
          simpa using this
        refine ⟨_, rfl, _, d2, ?_, fun b o hb => ?_, ?_⟩
        · rw [List.length_map]
          have : (worded (ds.take i)).length ≤ (ds.take i).length := by unfold worded; rw [List.length_map]; exact List.length_filter_le ..
          have h2 : (ds.take i).length ≤ ds.length := List.length_take_le' ..
          exact Nat.lt_of_le_of_lt (by omega : _ ≤ 4) (by decide)
        · rw [upd_ne (ne_of_none hb (none_of e1 hD))]
          exact e2 _ _ hb
        · rw [upd_same, tk, if_pos hm, List.map_append]
          rfl
      · have hm : ¬ (dd.1 = ("add" : Str) ∨ dd.1 = ("strike" : Str)) := fun q => h1 (decide_eq_true (by simpa using q))
        refine ⟨e2, ?_⟩
        rw [tk, if_neg hm, List.append_nil]
        exact d2
    · rintro H2 ⟨e2, d2⟩
      rw [hal.1, List.take_length] at d2
      have wl : (worded ds).length < 1000 := by
        have : (worded ds).length ≤ ds.length := by unfold worded; rw [List.length_map]; exact List.length_filter_le ..
        omega
      refine ⟨_, rfl, worded ds, Sq.lst d2, wnd, wl, _, rfl, D, _, rfl, .inl (SqL.of d2), rfl, ?_⟩
      rw [List.length_map, decide_eq_true rfl]
      exact q _ e2
theorem ok_sameOk {f : Addr} {fd : FuncData} (F : DefX K mg "is_same" s_is_same ["same", "hand", "sorts"] f fd) (T : Txt K mg) (c_is_many : Cal P w K mg base CX0 1 "is_many" spMany) : Cal P w K mg base CX0 2 "is_same" (spSameOk K) := by
  refine cal_mk F sc_is_same (fun vs H Q E h => ?_) (fun cdv A outer sh H vs Q E hr h => ?_)
  · obtain ⟨v, so, fs, hd, zs, rfl, _⟩ := h
    rfl
  · obtain ⟨v, so, fs, hd, zs, rfl, ⟨a, rfl, hz⟩, hso, nd, hok, z9, hself, znd, q⟩ := h
    refine ⟨_, (pss_cons (ps_if (pt_not (pt_val (pe_callB (cr_all rfl) (by rfl) T.all (by decide +kernel) (pa_cons (pe_lc (own := [("field", 3)]) (g := (gName 3)) (tt := tYes) rfl sc_is_same.nd (pi_sqV (pv 0)) (blkOk_by (own := [("field", 3)]) (N := ["same", "hand", "sorts", "field"]) (sc := defScope s_is_same) (by decide +kernel)) (fun _ _ _ _ _ => (pg_name (i := 3) sc_is_same.nd rfl (Or.inl rfl))) (fun _ _ _ _ _ => pts_nil) (fun _ _ _ _ _ => (pe_c c_is_many hr (by first | decide | assumption) rfl (pa_cons (pv 3) (pa_cons (pv 2) pa_nil))))) pa_nil))))
(pss_one (ps_ret pe_bl))
pss_nil)
(pss_cons (ps_if (pt_cut (PW.pt (pw_and (pt_cmpR op_eq (pv 1) pe_str (nomark _)) (pw_and1 (pt_cmpR op_gt (pe_callB call_len_seq (by rfl) T.len (by decide +kernel) (pa_cons (pv 0) pa_nil)) pe_int (nomark _))))))
(pss_one (ps_ret pe_bl))
pss_nil)
(pss_one (ps_ret (pe_cmpR op_eq (pe_lenS rfl (by rfl) T.len (by rfl) T.set (pv 0)) (pe_callB call_len_seq (by rfl) T.len (by decide +kernel) (pa_cons (pv 0) pa_nil)) (nomark _)))))), ?_⟩
    refine ⟨_, rfl, a, _, H, rfl, hz, Same.refl H, fun J G wk hG D hD => ?_⟩
    refine lc_it wk (fun i H2 => Same H H2 ∧ H2 D = some (.lst ((List.replicate i true).map V.bl))) ⟨same_new (Same.refl H) hD, upd_same⟩ (fun i H2 _ h => hG _ h.1) ?_ ?_
    · rintro i x H3 H2 hi ⟨e2, d2⟩ ⟨rfl, hx⟩
      rw [List.getElem?_map] at hx
      obtain ⟨z, hz2, rfl⟩ := Option.map_eq_some_iff.mp hx
      have hi9 : i < 100 := by
        have : i < (zs.map V.str).length := hi
        rw [List.length_map] at this
        omega
      refine ⟨rfl, ?_⟩
      refine ⟨_, rfl, _, rfl, z, so, fs, rfl, e2 _ _ hso, nd, hok z (List.mem_of_getElem? hz2), _, d2, ?_, fun b o hb => ?_, ?_⟩
      · rw [List.length_map, List.length_replicate]
        exact Nat.lt_trans hi9 (by decide)
      · rw [upd_ne (ne_of_none hb hD)]
        exact e2 _ _ hb
      · rw [upd_same, List.replicate_succ', List.map_append]
        rfl
    · rintro H2 ⟨e2, d2⟩
      refine ⟨D, _, rfl, SqL.of d2, true, by simp, iteF ?_⟩
      refine ⟨fun t H' => t = false ∧ H' = H2, ⟨_, rfl, rfl, _, rfl, ite2 (fun h1 => ?_) (fun h1 => ⟨rfl, rfl⟩)⟩, ?_⟩
      · obtain rfl := hself (V.str.inj (of_decide_eq_true h1))
        exact ⟨_, rfl, a, _, rfl, sq_at e2 hz, _, _, rfl, rfl, _, rfl, rfl, rfl⟩
      rintro _ H2 ⟨rfl, rfl⟩
      refine iteF ?_
      refine ⟨_, rfl, zs, ⟨a, rfl, sq_at e2 hz⟩, znd, by omega, _, rfl, a, _, rfl, sq_at e2 hz, rfl, ?_⟩
      rw [List.length_map, decide_eq_true rfl]
      exact q _ e2
theorem ok_keptCall {f : Addr} {fd : FuncData} (F : DefX K mg "kept_call" s_kept_call ["call"] f fd) (T : Txt K mg) : Cal P w K mg base CX0 1 "kept_call" (spKeptCall K) := by
  refine cal_mk F sc_kept_call (fun vs H Q E h => ?_) (fun cdv A outer sh H vs Q E hr h => ?_)
  · obtain ⟨s, v, cd, rfl, _⟩ := h
    rfl
  · obtain ⟨s, v, cd, rfl, hs, ⟨m, d, sm, ds, ⟨a, rfl, h1⟩, h2, h3, h4, h5⟩, d4, k⟩ := h
    refine ⟨_, (pss_cons (ps_asg (pv 0) (pg_sq (by rfl) (pgs_cons (pg_name (i := 1) sc_kept_call.nd rfl (Or.inl rfl)) (pgs_cons (pg_name (i := 2) sc_kept_call.nd rfl (Or.inl rfl)) (pgs_cons (pg_name (i := 3) sc_kept_call.nd rfl (Or.inl rfl)) (pgs_cons (pg_name (i := 4) sc_kept_call.nd rfl (Or.inl rfl)) (pgs_cons (pg_name (i := 5) sc_kept_call.nd rfl (Or.inl rfl)) pgs_nil)))))))
(pss_one (ps_ret (pe_tup (pa_cons (pv 1) (pa_cons (pv 2) (pa_cons (pe_cut (pe_callTy call_tuple_of (by rfl) T.tuple (by decide +kernel) (pa_cons (pv 3) pa_nil))) (pa_cons (pe_cut (pe_callTy call_tuple_of (by rfl) T.tuple (by decide +kernel) (pa_cons (pe_lc (own := [("pair", 6)]) (g := (gName 6)) (tt := tYes) rfl sc_kept_call.nd (pi_sqV (pv 4)) (blkOk_by (own := [("pair", 6)]) (N := ["call", "name", "hand", "moves", "deeds", "same", "pair"]) (sc := defScope s_kept_call) (by decide +kernel)) (fun _ _ _ _ _ => (pg_name (i := 6) sc_kept_call.nd rfl (Or.inl rfl))) (fun _ _ _ _ _ => pts_nil) (fun _ _ _ _ _ => (pe_cut (pe_callTy (call_tuple_ofK (K := K) rfl) (by rfl) T.tuple (by decide +kernel) (pa_cons (pv 6) pa_nil))))) pa_nil))) (pa_cons (pe_cut (pe_callTy call_tuple_of (by rfl) T.tuple (by decide +kernel) (pa_cons (pv 5) pa_nil))) pa_nil))))))))), ?_⟩
    have h10 : SqL K H a [.str cd.nm, .str cd.hand, m, d, sm] ∨ SqT K H a [.str cd.nm, .str cd.hand, m, d, sm] := sq_at off_same h1
    obtain ⟨da, rfl, h3⟩ := h3
    obtain ⟨ma, rfl, h2⟩ := h2
    obtain ⟨sa, rfl, h5⟩ := h5
    refine ⟨_, rfl, _, ⟨a, rfl, h10⟩, rfl, _, _, rfl, _, _, rfl, _, _, rfl, _, _, rfl, _, _, rfl, rfl, ?_⟩
    refine ⟨_, rfl, _, rfl, fun v H1 => Same H H1 ∧ Tu K (Off s H1) v (cd.moves.map V.int), ⟨_, rfl, rd_tupM (K := K) hs ⟨ma, rfl, h2⟩⟩, ?_⟩
    rintro mv H1 ⟨e1, tm⟩
    refine ⟨fun v H4 => Same H1 H4 ∧ ∃ tvs, Tu K (Off s H4) v tvs ∧ Al (DeT K (Off s H4)) tvs cd.deeds, ?_, ?_⟩
    · refine ⟨_, rfl, da, ds, Off s H, rfl, h3, off_same.trans e1, fun J G wk hG D hD => ?_⟩
      have Ds := ne_s hs e1 hD
      refine lc_it wk (fun i H2 => Same H1 H2 ∧ ∃ tvs : List V, H2 D = some (.lst tvs) ∧ Al (DeT K (Off D (Off s H2))) tvs (cd.deeds.take i)) ⟨same_new (Same.refl H1) hD, [], upd_same, Al.nil⟩ (fun i H2 _ h => hG _ ((off_same.trans e1).trans h.1)) ?_ ?_
      · rintro i x H3 H2 hi ⟨e2, tvs, d2, al⟩ ⟨rfl, hx⟩
        obtain ⟨dd, hdd, hda⟩ := h4.get hx
        have e12 := e1.trans e2
        refine ⟨rfl, ?_⟩
        refine ⟨fun v H4 => Same H2 H4 ∧ DeT K (Off s H4) v dd, ⟨_, rfl, rd_tupM (K := K) (kept_s hs e12) (DeA.keep (same_off e12) hda)⟩, ?_⟩
        rintro v H4 ⟨e4, tv⟩
        have d4' := e4 _ _ d2
        refine ⟨_, d4', ?_, fun b o hb => ?_, tvs ++ [v], upd_same, ?_⟩
        · rw [al.1]
          have : (cd.deeds.take i).length ≤ cd.deeds.length := List.length_take_le' ..
          exact Nat.lt_of_le_of_lt (by omega : _ ≤ 4) (by decide)
        · rw [upd_ne (ne_of_none hb hD)]
          exact e4 _ _ (e2 _ _ hb)
        · rw [off_upd Ds, off_put, List.take_succ, hdd]
          exact (al.mono fun _ _ h => DeT.keep (same_off (same_off e4)) h).snoc (Tu.offL tv ((off_ne Ds).trans d4'))
      · rintro H2 ⟨e2, tvs, d2, al⟩
        have e12 := e1.trans e2
        have al : Al (DeT K (Off D (Off s H2))) tvs cd.deeds := by
          have h := al
          rw [h4.1, List.take_length] at h
          exact h
        refine ⟨D, _, rfl, .inl ⟨SqL.of d2, fun l hl => ?_⟩⟩
        have e3 := same_new (Same.refl H2) hl (o := .tup tvs)
        refine ⟨e2.trans e3, tvs, Tu.tup ?_, al.mono fun _ _ h => DeT.keep (off_same.trans (same_off e3)) h⟩
        rw [off_ne (ne_s hs e12 hl), upd_same]
    rintro dv H2 ⟨e2, tvs, td, al⟩
    have e12 := e1.trans e2
    refine ⟨fun v H4 => Same H2 H4 ∧ Tu K (Off s H4) v (cd.same.map V.str), ⟨_, rfl, rd_tupM (K := K) (kept_s hs e12) (Sq.keep (same_off e12) ⟨sa, rfl, h5⟩)⟩, ?_⟩
    rintro sv H4 ⟨e4, ts⟩
    refine ⟨by show 5 ≤ sizeLine; decide, fun p hp => ?_⟩
    have e14 := e12.trans e4
    have e5 := same_new (Same.refl H4) hp (o := .tup [.str cd.nm, .str cd.hand, mv, dv, sv])
    refine k (.ref p) _ (e14.trans e5) ⟨mv, dv, sv, tvs, Tu.tup ?_, tm.keep (same_off (e2.trans (e4.trans e5))), td.keep (same_off (e4.trans e5)), al.mono fun _ _ h => DeT.keep (same_off (e4.trans e5)) h, ts.keep (same_off e5)⟩
    rw [off_ne (ne_s hs e14 hp), upd_same]
theorem ok_wrong {f : Addr} {fd : FuncData} (F : DefX K mg "wrong_part" s_wrong_part ["item", "earlier", "sorts", "modes"] f fd) (T : Txt K mg) (Cs : Csts K w mg C) (c_has_call_form : Cal P w K mg base CX0 2 "has_call_form" (spCallForm K)) (c_is_word : Cal P w K mg base CX0 1 "is_word" (spWord K))
    (c_are_moves : Cal P w K mg base CX0 2 "are_moves" (spMoves K)) (c_are_deeds : Cal P w K mg base CX0 3 "are_deeds" (spDeedsOk K)) (c_is_same : Cal P w K mg base CX0 2 "is_same" (spSameOk K)) : Cal P w K mg base CX0 4 "wrong_part" (spWrong K) := by
  refine cal_mk F sc_wrong_part (fun vs H Q E h => ?_) (fun cdv A outer sh H vs Q E hr h => ?_)
  · obtain ⟨v, e, so, n, fs, ys, cd, rfl, _⟩ := h
    rfl
  · obtain ⟨v, e, so, n, fs, ys, cd, rfl, ⟨m, d, sm, ds, ⟨a, rfl, h1⟩, ⟨ma, rfl, h2⟩, ⟨da, rfl, h3⟩, h4, ⟨sa, rfl, h5⟩⟩, he, hso, fok, n4, ok, hn, q⟩ := h
    refine ⟨_, (pss_cons (ps_if (pt_not (pt_val (pe_c c_has_call_form hr (by first | decide | assumption) rfl (pa_cons (pv 0) pa_nil))))
(pss_one (ps_ret pe_str))
pss_nil)
(pss_cons (ps_asg (pv 0) (pg_sq (by rfl) (pgs_cons (pg_name (i := 4) sc_wrong_part.nd rfl (Or.inl rfl)) (pgs_cons (pg_name (i := 5) sc_wrong_part.nd rfl (Or.inl rfl)) (pgs_cons (pg_name (i := 6) sc_wrong_part.nd rfl (Or.inl rfl)) (pgs_cons (pg_name (i := 7) sc_wrong_part.nd rfl (Or.inl rfl)) (pgs_cons (pg_name (i := 8) sc_wrong_part.nd rfl (Or.inl rfl)) pgs_nil)))))))
(pss_cons (ps_if (pt_cut (PW.pt (pw_or (pt_not (pt_val (pe_c c_is_word hr (by first | decide | assumption) rfl (pa_cons (pv 4) pa_nil)))) (pw_or1 (pt_cmpR op_in_seq (pv 4) (pv 1) (by rfl))))))
(pss_one (ps_ret pe_str))
pss_nil)
(pss_cons (ps_if (pt_cmpR op_notIn_seq (pv 5) (pe_cst rfl Cs.HANDS) (by rfl))
(pss_one (ps_ret pe_str))
pss_nil)
(pss_cons (ps_if (pt_not (pt_val (pe_c c_are_moves hr (by first | decide | assumption) rfl (pa_cons (pv 6) (pa_cons (pv 3) pa_nil)))))
(pss_one (ps_ret pe_str))
pss_nil)
(pss_cons (ps_if (pt_not (pt_val (pe_c c_are_deeds hr (by first | decide | assumption) rfl (pa_cons (pv 7) (pa_cons (pv 2) pa_nil)))))
(pss_one (ps_ret pe_str))
pss_nil)
(pss_cons (ps_if (pt_not (pt_val (pe_c c_is_same hr (by first | decide | assumption) rfl (pa_cons (pv 8) (pa_cons (pv 5) (pa_cons (pv 2) pa_nil))))))
(pss_one (ps_ret pe_str))
pss_nil)
(pss_one (ps_ret pe_non))))))))), ?_⟩
    have hcd : CdA K H (.ref a) cd := ⟨_, _, _, ds, ⟨a, rfl, h1⟩, ⟨ma, rfl, h2⟩, ⟨da, rfl, h3⟩, h4, ⟨sa, rfl, h5⟩⟩
    refine ⟨_, rfl, .ref a, cd, rfl, hcd, fun H1 e1 => ⟨true, rfl, iteF ?_⟩⟩
    refine ⟨_, rfl, _, ⟨a, rfl, sq_at e1 h1⟩, rfl, _, _, rfl, _, _, rfl, _, _, rfl, _, _, rfl, _, _, rfl, rfl, ?_⟩
    refine ⟨fun t H' => t = false ∧ Same H H', ⟨_, rfl, _, rfl, .inl ⟨_, rfl, word_len ok.word, fun H2 e2 => ?_⟩⟩, ?_⟩
    · rw [ok.word]
      refine ⟨true, rfl, iteF ⟨_, rfl, _, rfl, e, _, rfl, .inl ((e1.trans e2).seq he), rfl, flat_strs _, ?_⟩⟩
      rw [inV_strs, decide_eq_false hn]
      exact ⟨_, rfl, rfl, e1.trans e2⟩
    rintro _ H2 ⟨rfl, e2⟩
    refine iteF ?_
    refine ⟨_, rfl, C.hands, _, rfl, .inr (Cs.t_hands _), rfl, rfl, false, ?_, iteF ?_⟩
    · rcases ok.hand with h | h | h <;> rw [h] <;> decide
    refine ⟨_, rfl, _, rfl, .ref ma, n, cd.moves, rfl, ⟨ma, rfl, sq_at e2 h2⟩, ok.len, n4, ok.move, fun H3 e3 => ⟨true, rfl, iteF ?_⟩⟩
    have e23 := e2.trans e3
    refine ⟨_, rfl, _, rfl, .ref da, so, fs, ds, cd.deeds, rfl, ⟨da, rfl, sq_at e23 h3⟩, h4.mono fun _ _ h => DeA.keep e23 h, e23 _ _ hso, fok.nd, ok.deed, ok.deeds, ok.once, fun H4 e4 => ⟨true, rfl, iteF ?_⟩⟩
    have e24 := e23.trans e4
    have sl : cd.same.length < 100 := by
      have : cd.same.length ≤ (fs.map (·.nm)).length := len_sub ok.nd fun z hz => by
        obtain ⟨g, gm, rfl, _⟩ := ok.same z hz
        exact List.mem_map_of_mem gm
      rw [List.length_map] at this
      have := fok.le
      omega
    refine ⟨_, rfl, _, rfl, _, rfl, .ref sa, so, fs, cd.hand, cd.same, rfl, ⟨sa, rfl, sq_at e24 h5⟩, e24 _ _ hso, fok.nd, ok.same, sl, ok.self, ok.nd, fun H5 e5 => ⟨true, rfl, iteF ?_⟩⟩
    exact q _ (e24.trans e5)
end
end MK
set_option Elab.async false
set_option linter.all false
set_option autoImplicit false
set_option maxRecDepth 100000
set_option maxHeartbeats 4000000
namespace MK
open PySem PySem.Spec PyProof.Rows L2
local macro_rules | `(tactic| walk_at "x") => `(tactic| dsimp only [tSeq, tAsg, tRet, tDrop, tLst, tTup, tCons, tOp, tUn, tIfS])
theorem sc_kept_calls : FnScope ["calls", "sorts", "modes", "kept", "index", "item", "call", "reason"] ["calls", "sorts", "modes"] (defScope s_kept_calls) := ⟨rfl, rfl, rfl, by decide +kernel, rfl, by decide +kernel, by decide +kernel⟩
def spCalls (K : PySem.W.Frag) : Sp := fun vs H Q _ => ∃ (s : Addr) (v : V) (so : Addr) (n : Nat) (fs : List FD) (cvs : List V) (cs : List CD), vs = [v, .ref so, .int n] ∧ H s ≠ none ∧ Sq K (Off s H) v cvs ∧ Al (CdA K (Off s H)) cvs cs ∧ H so = some (.dK (sortsV fs)) ∧ FsOk fs ∧ n ≤ 4 ∧
  1 ≤ cs.length ∧ cs.length ≤ 6 ∧ (∀ c ∈ cs, CdOk fs n c) ∧ (cs.map (·.nm)).Nodup ∧ ∀ r rvs H', Same H H' → Tu K (Off s H') r rvs → Al (CdT K (Off s H')) rvs cs → Q r H'
section
variable {P : Program} {w : World} {K : PySem.W.Frag} {mg : Str → Option Value} {base : Heap} {C : Cst}
theorem ok_calls {f : Addr} {fd : FuncData} (F : DefX K mg "kept_calls" s_kept_calls ["calls", "sorts", "modes"] f fd) (T : Txt K mg) (Cs : Csts K w mg C) (c_is_list : Cal P w K mg base CX0 1 "is_list" (spList K)) (c_wrong_part : Cal P w K mg base CX0 4 "wrong_part" (spWrong K)) (c_kept_call : Cal P w K mg base CX0 1 "kept_call" (spKeptCall K)) :
    Cal P w K mg base CX0 5 "kept_calls" (spCalls K) := by
  refine cal_mk F sc_kept_calls (fun vs H Q E h => ?_) (fun cdv A outer sh H vs Q E hr h => ?_)
  · obtain ⟨s, v, so, n, fs, cvs, cs, rfl, _⟩ := h
    rfl
  · obtain ⟨s, v, so, n, fs, cvs, cs, rfl, hs, ⟨a, rfl, hv⟩, hal, hso, fok, n4, c1, c6, cok, cnd, k⟩ := h
    refine ⟨_, (pss_cons (ps_if (pt_cut (PW.pt (pw_or (pt_not (pt_val (pe_c c_is_list hr (by first | decide | assumption) rfl (pa_cons (pv 0) pa_nil)))) (pw_or1 (pt_cmpR op_eq (pe_callB call_len_seq (by rfl) T.len (by decide +kernel) (pa_cons (pv 0) pa_nil)) pe_int (nomark _))))))
(pss_one (ps_never))
pss_nil)
(pss_cons (ps_set (i := 3) sc_kept_calls.nd rfl (Or.inl rfl) (pe_lst pa_nil))
(pss_cons (ps_for PassesOwn.never rfl (pi_enV (by rfl) T.enumerate (pa_cons (pv 0) pa_nil)) (pg_tup (by rfl) (pgs_cons (pg_name (i := 4) sc_kept_calls.nd rfl (Or.inl rfl)) (pgs_cons (pg_name (i := 5) sc_kept_calls.nd rfl (Or.inl rfl)) pgs_nil)))
(pss_cons (ps_if (pt_cmpR op_ge (pv 4) (pe_cst rfl Cs.MOST_CALLS) (nomark _))
(pss_one (ps_never))
pss_nil)
(pss_cons (ps_set (i := 7) sc_kept_calls.nd rfl (Or.inl rfl) (pe_c c_wrong_part hr (by first | decide | assumption) rfl (pa_cons (pv 5) (pa_cons (pe_lc (own := [("call", 6)]) (g := (gName 6)) (tt := tYes) rfl sc_kept_calls.nd (pi_list (pv 3)) (blkOk_by (own := [("call", 6)]) (N := ["calls", "sorts", "modes", "kept", "index", "item", "call", "reason"]) (sc := defScope s_kept_calls) (by decide +kernel)) (fun _ _ _ _ _ => (pg_name (i := 6) sc_kept_calls.nd rfl (Or.inl rfl))) (fun _ _ _ _ _ => pts_nil) (fun _ _ _ _ _ => (pe_ix (ix_tupK (K := K) rfl) (pv 6) pe_int (fun _ _ => rfl)))) (pa_cons (pv 1) (pa_cons (pv 2) pa_nil))))))
(pss_cons (ps_if (pt_cmpR op_notN (pv 7) pe_non (nomark _))
(pss_one (ps_never))
pss_nil)
(pss_one (ps_expr (pe_bm PySem.F.plainAttrs_list PySem.F.slot_list_append PySem.F.type_list_append mt_append (pv 3) (pa_cons (pe_c c_kept_call hr (by first | decide | assumption) rfl (pa_cons (pv 5) pa_nil)) pa_nil))))))))
(pss_one (ps_ret (pe_callTy call_tuple_of (by rfl) T.tuple (by decide +kernel) (pa_cons (pv 3) pa_nil))))))), ?_⟩
    have hv0 : SqL K H a cvs ∨ SqT K H a cvs := sq_at off_same hv
    have len3 : cvs.length = cs.length := hal.1
    refine ⟨fun t H' => t = false ∧ Same H H', ⟨_, rfl, .ref a, _, rfl, ⟨a, rfl, hv0⟩, fun H1 e1 => ⟨true, rfl, iteF ?_⟩⟩, ?_⟩
    · exact ⟨_, rfl, a, _, rfl, sq_at e1 hv0, rfl, _, rfl, decide_eq_false (fun e => by have := V.int.inj e; omega), e1⟩
    rintro _ H1 ⟨rfl, e1⟩
    refine iteF ?_
    refine ⟨by show 0 ≤ sizeLine; decide, fun D hD => ?_⟩
    have hsD : D ≠ s := ne_s hs e1 hD
    have hD0 := none_of e1 hD
    refine ⟨_, rfl, a, cvs, Off s H, rfl, hv, off_same.trans (same_new e1 hD), fun J G wk hG => ?_⟩
    refine for_it wk (fun i σ H2 => Same H H2 ∧ ∃ kvs : List V, H2 D = some (.lst kvs) ∧ Al (CdT K (Off D (Off s H2))) kvs (cs.take i) ∧ ∃ x4 x5 x6 x7, σ = [some (.ref a), some (.ref so), some (.int n), some (.ref D), x4, x5, x6, x7])
      ⟨same_new e1 hD, [], upd_same, Al.nil, none, none, none, none, rfl⟩ (fun i σ H2 _ h => hG _ (off_same.trans h.1)) ?_ ?_
    · rintro i x σ H2 H3 hi ⟨e2, kvs, d2, al, x4, x5, x6, x7, rfl⟩ ⟨U, _, y, rfl, hU, rfl, h1, hy⟩
      obtain rfl := Option.some.inj h1
      obtain ⟨c, hc, hca⟩ := hal.get hy
      have hcm := List.mem_of_getElem? hc
      have hi6 : i < cs.length := by
        have : i < cvs.length := hi
        omega
      have e3 : Same H2 (upd H2 U (.tup [.int (i : Nat), y])) := same_new (Same.refl H2) hU
      refine ⟨U, _, rfl, SqT.of upd_same, rfl, _, _, rfl, _, _, rfl, rfl, ?_⟩
      refine ⟨_, rfl, _, _, rfl, rfl, _, rfl, iteB (decide_eq_false (by omega)) ?_⟩
      refine ⟨_, rfl, _, rfl, D, rfl, ⟨_, SqL.of (e3 _ _ d2)⟩, fun D2 hD2 => ?_⟩
      refine lc_list (K := K) (a := D) (xs := kvs) (fun j H4 => Same H2 H4 ∧ H4 D2 = some (.lst ((((cs.take i).take j).map (·.nm)).map V.str))) ⟨same_new e3 hD2, upd_same⟩ (fun j H4 _ h => SqL.of (h.1 _ _ d2)) ?_ ?_
      · rintro j v H4 hv4 ⟨e4, d4⟩
        obtain ⟨g, hg, m', d', s', ds', ⟨u, rfl, hu⟩, _⟩ := al.get hv4
        have hu4 := same_t (off_same.trans (off_same.trans e4)) hu
        refine ⟨rfl, ?_⟩
        refine ⟨_, rfl, u, _, 0, .str g.nm, rfl, rfl, hu4, rfl, _, d4, ?_, fun b o hb => ?_, ?_⟩
        · rw [List.length_map, List.length_map, List.length_take, List.length_take]
          exact Nat.lt_of_le_of_lt (by omega : _ ≤ 6) (by decide)
        · rw [upd_ne (ne_of_none (e3 _ _ hb) hD2)]
          exact e4 _ _ hb
        · rw [upd_same, List.take_succ (i := j), hg]
          simp
      rintro H4 ⟨e4, d4⟩
      rw [show kvs.length = (cs.take i).length from al.1, List.take_length] at d4
      have e24 := e2.trans e4
      refine ⟨_, rfl, _, rfl, y, D2, so, n, fs, _, c, rfl, CdA.keep (off_same.trans e24) hca, SqL.of d4, e24 _ _ hso, fok, n4, cok c hcm, ?_, fun H5 e5 => ?_⟩
      · rw [List.map_take]
        exact nm_new cnd (by rw [List.getElem?_map, hc]; rfl)
      refine ⟨_, rfl, rfl, _, rfl, iteF ?_⟩
      have e25 := e24.trans e5
      have d5 := (e4.trans e5) _ _ d2
      refine ⟨_, rfl, .inl ⟨rfl, _, SqL.of d5⟩, _, rfl, s, y, c, rfl, kept_s hs e25, CdA.keep (same_off e25) hca, (cok c hcm).deeds, fun r H6 e6 hr6 => ?_⟩
      have kl : kvs.length < sizeLine := by
        rw [al.1, List.length_take]
        exact Nat.lt_of_le_of_lt (by omega : _ ≤ 6) (by decide)
      have d6 := e6 _ _ d5
      refine ⟨D, kvs, _, rfl, rfl, d6, kl, fun b o hb => ?_, _, upd_same, ?_, _, _, _, _, rfl⟩
      · rw [upd_ne (ne_of_none hb hD0)]
        exact e6 _ _ (e25 _ _ hb)
      · rw [off_upd hsD, off_put, List.take_succ, hc]
        exact (al.mono fun _ _ h => CdT.keep (same_off (same_off (e4.trans (e5.trans e6)))) h).snoc (CdT.off hr6 ((off_ne hsD).trans d6) no_lst)
    · rintro σ H2 ⟨e2, kvs, d2, al, x4, x5, x6, x7, rfl⟩
      refine ⟨_, rfl, D, kvs, rfl, .inl ⟨SqL.of d2, fun p hp => ?_⟩⟩
      have ps : p ≠ s := ne_s hs e2 hp
      rw [len3, List.take_length] at al
      have e3 : Same H2 (upd H2 p (.tup kvs)) := same_new (Same.refl H2) hp
      refine k _ kvs _ (e2.trans e3) (Tu.tup (by rw [off_ne ps, upd_same])) (al.mono fun _ _ h => CdT.keep (off_same.trans (same_off e3)) h)
end
end MK
set_option Elab.async false
set_option linter.all false
set_option autoImplicit false
set_option maxRecDepth 100000
set_option maxHeartbeats 4000000
namespace MK
open PySem PySem.Spec PyProof.Rows L2
local macro_rules | `(tactic| walk_at "x") => `(tactic| dsimp only [tSeq, tAsg, tRet, tDrop, tLst, tTup, tCons, tOp, tUn, tIfS])
theorem sc_Kind_init : FnScope ["self", "fields", "calls", "modes", "name", "sort", "need", "at", "field", "call"] ["self", "fields", "calls", "modes"] (defScope s_Kind_init) := ⟨rfl, rfl, rfl, by decide +kernel, rfl, by decide +kernel, by decide +kernel⟩
/-- the class of kinds -/
structure KCls (K : PySem.W.Frag) (KC : Addr) : Prop where
  cls : Cls K KC
  triples : NoAttr K KC "triples"
  sorts : NoAttr K KC "sorts"
  spots : NoAttr K KC "spots"
  modes : NoAttr K KC "modes"
  steps : NoAttr K KC "steps"
  table : NoAttr K KC "table"
def spKInit (K : PySem.W.Frag) (KC : Addr) : Sp := fun vs H Q _ => ∃ (s x dx : Addr) (fv cv : V) (n : Nat) (fvs cvs : List V) (fs : List FD) (cs : List CD), vs = [.ref x, fv, cv, .int n] ∧ x ≠ s ∧ H s ≠ none ∧ H x = some (.ins KC dx []) ∧
  Sq K (Off x (Off s H)) fv fvs ∧ Al (FdA K (Off x (Off s H))) fvs fs ∧ Sq K (Off x (Off s H)) cv cvs ∧ Al (CdA K (Off x (Off s H))) cvs cs ∧ KdOk fs n cs ∧ ∀ H', SameX x H H' → KdA K KC (Off s H') (.ref x) fs n cs → Q .non H'
section
variable {P : Program} {w : World} {K : PySem.W.Frag} {mg : Str → Option Value} {base : Heap} {C : Cst} {KC : Addr}
theorem run_kinit (T : Txt K mg) (Z : KCls K KC) (c_kept_fields : Cal P w K mg base CX0 3 "kept_fields" (spFields K)) (c_is_modes : Cal P w K mg base CX0 2 "is_modes" spModes) (c_kept_calls : Cal P w K mg base CX0 5 "kept_calls" (spCalls K))
    {f : Addr} {cdv : Value} {A : Around} {outer : List Env} {sh : Shared} {H : Hp} {vs : List V} {Q : VK} {E : XK} (hr : Room 5 (A.deeper (envOfC "Kind.__init__" (defScope s_Kind_init) sh.heap.objs.size f cdv))) (h : spKInit K KC vs H Q E) :
    ∃ t, PSs (cxOf CX0 P w K mg base ["self", "fields", "calls", "modes", "name", "sort", "need", "at", "field", "call"] "Kind.__init__" (defScope s_Kind_init) f cdv A outer sh H E).nox (defBody s_Kind_init) t ∧ t { nx := fun _ H' => Q .non H', rt := Q } (start ["self", "fields", "calls", "modes", "name", "sort", "need", "at", "field", "call"] vs) H := by
  obtain ⟨s, x, dx, fv, cv, n, fvs, cvs, fs, cs, rfl, xs, hs, hx, hf, hfs, hc, hcs, ok, k⟩ := h
  refine ⟨_, (pss_cons (ps_fld (pv 0) (pe_c c_kept_fields hr (by first | decide | assumption) rfl (pa_cons (pv 1) pa_nil)) rfl)
(pss_cons (ps_fld (pv 0) (pe_dc (own := [("name", 4), ("sort", 5), ("need", 6)]) (g := (gTup K 3 (gCons (gName 4) (gCons (gName 5) (gCons (gName 6) gNil))))) (tt := tYes) rfl sc_Kind_init.nd (pi_tup (pe_fld (pv 0) rfl)) (blkOk_by (own := [("name", 4), ("sort", 5), ("need", 6)]) (N := ["self", "fields", "calls", "modes", "name", "sort", "need", "at", "field", "call"]) (sc := defScope s_Kind_init) (by decide +kernel)) (fun _ _ _ _ _ => (pg_tup (by rfl) (pgs_cons (pg_name (i := 4) sc_Kind_init.nd rfl (Or.inl rfl)) (pgs_cons (pg_name (i := 5) sc_Kind_init.nd rfl (Or.inl rfl)) (pgs_cons (pg_name (i := 6) sc_Kind_init.nd rfl (Or.inl rfl)) pgs_nil))))) (fun _ _ _ _ _ => pts_nil) (fun _ _ _ _ _ => (pv 4)) (fun _ _ _ _ _ => (pv 5))) rfl)
(pss_cons (ps_fld (pv 0) (pe_dc (own := [("at", 7), ("field", 8)]) (g := (gTup K 2 (gCons (gName 7) (gCons (gName 8) gNil)))) (tt := tYes) rfl sc_Kind_init.nd (pi_enumT (by rfl) T.enumerate (pa_cons (pe_fld (pv 0) rfl) pa_nil)) (blkOk_by (own := [("at", 7), ("field", 8)]) (N := ["self", "fields", "calls", "modes", "name", "sort", "need", "at", "field", "call"]) (sc := defScope s_Kind_init) (by decide +kernel)) (fun _ _ _ _ _ => (pg_tup (by rfl) (pgs_cons (pg_name (i := 7) sc_Kind_init.nd rfl (Or.inl rfl)) (pgs_cons (pg_name (i := 8) sc_Kind_init.nd rfl (Or.inl rfl)) pgs_nil)))) (fun _ _ _ _ _ => pts_nil) (fun _ _ _ _ _ => (pe_ix (ix_tupK (K := K) rfl) (pv 8) pe_int (fun _ _ => rfl))) (fun _ _ _ _ _ => (pv 7))) rfl)
(pss_cons (ps_if (pt_not (pt_val (pe_c c_is_modes hr (by first | decide | assumption) rfl (pa_cons (pv 3) pa_nil))))
(pss_one (ps_never))
pss_nil)
(pss_cons (ps_fld (pv 0) (pv 3) rfl)
(pss_cons (ps_fld (pv 0) (pe_c c_kept_calls hr (by first | decide | assumption) rfl (pa_cons (pv 2) (pa_cons (pe_fld (pv 0) rfl) (pa_cons (pv 3) pa_nil)))) rfl)
(pss_one (ps_fld (pv 0) (pe_dc (own := [("call", 9)]) (g := (gName 9)) (tt := tYes) rfl sc_Kind_init.nd (pi_tup (pe_fld (pv 0) rfl)) (blkOk_by (own := [("call", 9)]) (N := ["self", "fields", "calls", "modes", "name", "sort", "need", "at", "field", "call"]) (sc := defScope s_Kind_init) (by decide +kernel)) (fun _ _ _ _ _ => (pg_name (i := 9) sc_Kind_init.nd rfl (Or.inl rfl))) (fun _ _ _ _ _ => pts_nil) (fun _ _ _ _ _ => (pe_ix (ix_tupK (K := K) rfl) (pv 9) pe_int (fun _ _ => rfl))) (fun _ _ _ _ _ => (pv 9))) rfl)))))))), ?_⟩
  have n1 := ok.pos
  have n4 := ok.le
  -- triples
  refine ⟨_, rfl, s, fv, fvs, fs, rfl, hs, hf.keep off_same, hfs.mono fun _ _ h => FdA.keep off_same h, ok.fields, fun r rvs H1 e1 tr al => ?_⟩
  have x1 := e1 _ _ hx
  refine ⟨_, rfl, x, KC, dx, [], rfl, x1, Z.cls, Z.triples, by decide, ?_⟩
  have hB1 : Off s H1 x = some (.ins KC dx []) := (off_ne xs).trans x1
  have tr1 : Tu K (Off x (Off s H1)) r rvs := tr.off hB1 no_ins
  have al1 : Al (FdT K (Off x (Off s H1))) rvs fs := al.mono fun _ _ h => Tu.off h hB1 no_ins
  obtain ⟨ra, rfl, tra⟩ := tr1
  have e01 : SameX x H (upd H1 x (.ins KC dx [("triples", .ref ra)])) := (same_sx e1).put
  have hB : ∀ {H' : Hp} {o : HO}, Off x (Off s (upd H' x o)) = Off x (Off s H') := by
    intro H' o
    rw [off_upd xs, off_put]
  have hs2 : upd H1 x (.ins KC dx [("triples", .ref ra)]) s ≠ none := by
    rw [upd_ne (Ne.symm xs)]
    exact kept_s hs e1
  have F2 : SqT K (Off x (Off s (upd H1 x (.ins KC dx [("triples", .ref ra)])))) ra rvs ∧ Al (FdT K (Off x (Off s (upd H1 x (.ins KC dx [("triples", .ref ra)]))))) rvs fs := by
    rw [hB]
    exact ⟨tra, al1⟩
  have C2 : Sq K (Off x (Off s (upd H1 x (.ins KC dx [("triples", .ref ra)])))) cv cvs ∧ Al (CdA K (Off x (Off s (upd H1 x (.ins KC dx [("triples", .ref ra)]))))) cvs cs := by
    rw [hB]
    exact ⟨hc.keep (same_off (same_off e1)), hcs.mono fun _ _ h => CdA.keep (same_off (same_off e1)) h⟩
  have x2 : upd H1 x (.ins KC dx [("triples", .ref ra)]) x = some (.ins KC dx [("triples", .ref ra)]) := upd_same
  show tSeq _ _ _ _ (upd H1 x (.ins KC dx [("triples", .ref ra)]))
  generalize upd H1 x (.ins KC dx [("triples", .ref ra)]) = H2 at e01 hs2 F2 C2 x2
  have rl : rvs.length ≤ 3 := by rw [al.1]; exact ok.fields.le
  -- sorts
  refine ⟨_, rfl, x, KC, dx, _, .ref ra, rfl, x2, Z.cls, Z.triples, rfl, ra, rfl, ⟨rvs, same_t (off_same.trans off_same) F2.1⟩, fun D hD => ?_⟩
  refine dc_it (walk_tup (K := K) (a := ra) (xs := rvs)) (fun i H' => Same H2 H' ∧ H' D = some (.dK ((sortsV fs).take i))) ⟨same_new (Same.refl H2) hD, upd_same⟩ (fun i H' _ h => same_t ((off_same.trans off_same).trans h.1) F2.1) ?_ ?_
  · rintro i v H3' H3 hi ⟨e3, d3⟩ ⟨rfl, hv⟩
    obtain ⟨f', hf', u, rfl, hu⟩ := F2.2.get hv
    refine ⟨u, FdV f', rfl, same_t ((off_same.trans off_same).trans e3) hu, rfl, _, _, rfl, _, _, rfl, _, _, rfl, rfl, rfl, ?_⟩
    refine ⟨_, rfl, _, rfl, _, .inr f'.nm, rfl, d3, ?_, fun b o hb => ?_, ?_⟩
    · exact Nat.lt_of_le_of_lt (Nat.le_trans (List.length_take_le' ..) (by rw [sorts_len]; exact ok.fields.le)) (by decide)
    · rw [upd_ne (ne_of_none hb hD)]
      exact e3 _ _ hb
    · rw [upd_same, put_take (sorts_nd ok.fields.nd) (sorts_at hf')]
  rintro H3 ⟨e3, d3⟩
  rw [show rvs.length = (sortsV fs).length by rw [sorts_len]; exact F2.2.1, List.take_length] at d3
  have x3 := e3 _ _ x2
  refine ⟨_, rfl, x, KC, dx, _, rfl, x3, Z.cls, Z.sorts, by simp, ?_⟩
  show tSeq _ _ _ _ (upd H3 x (.ins KC dx [("triples", .ref ra), ("sorts", .ref D)]))
  have Dx : D ≠ x := fun e => by rw [e, x3] at d3; cases d3
  have Ds : D ≠ s := ne_s hs2 (Same.refl H2) hD
  have e04 : SameX x H (upd H3 x (.ins KC dx [("triples", .ref ra), ("sorts", .ref D)])) := (e01.trans (same_sx e3)).put
  have b24 : Same (Off x (Off s H2)) (Off x (Off s (upd H3 x (.ins KC dx [("triples", .ref ra), ("sorts", .ref D)])))) := by
    rw [hB]
    exact same_off (same_off e3)
  have hs4 : upd H3 x (.ins KC dx [("triples", .ref ra), ("sorts", .ref D)]) s ≠ none := by
    rw [upd_ne (Ne.symm xs)]
    exact kept_s hs2 e3
  have d4 : Off x (Off s (upd H3 x (.ins KC dx [("triples", .ref ra), ("sorts", .ref D)]))) D = some (.dK (sortsV fs)) := by
    rw [hB, off_ne Dx, off_ne Ds]
    exact d3
  have x4 : upd H3 x (.ins KC dx [("triples", .ref ra), ("sorts", .ref D)]) x = some (.ins KC dx [("triples", .ref ra), ("sorts", .ref D)]) := upd_same
  generalize upd H3 x (.ins KC dx [("triples", .ref ra), ("sorts", .ref D)]) = H4 at e04 b24 hs4 d4 x4
  -- spots
  refine ⟨_, rfl, x, KC, dx, _, .ref ra, rfl, x4, Z.cls, Z.triples, rfl, ra, rvs, rfl, same_t (b24.trans (off_same.trans off_same)) F2.1, fun D2 hD2 => ?_⟩
  refine dc_it (walk_enumT (K := K) (a := ra) (xs := rvs)) (fun i H' => Same H4 H' ∧ H' D2 = some (.dK ((spotsV fs).take i))) ⟨same_new (Same.refl H4) hD2, upd_same⟩ (fun i H' _ h => same_t ((b24.trans (off_same.trans off_same)).trans h.1) F2.1) ?_ ?_
  · rintro i v H5 H5' hi ⟨e5, d5⟩ ⟨U, _, y, rfl, hU, rfl, h1, hy⟩
    obtain rfl := Option.some.inj h1
    obtain ⟨f', hf', u, rfl, hu⟩ := F2.2.get hy
    have e6 : Same H5 (upd H5 U (.tup [.int (i : Nat), .ref u])) := same_new (Same.refl H5) hU
    have hu6 : SqT K (upd H5 U (.tup [.int (i : Nat), .ref u])) u (FdV f') := same_t ((b24.trans (off_same.trans off_same)).trans (e5.trans e6)) hu
    refine ⟨U, _, rfl, SqT.of upd_same, rfl, _, _, rfl, _, _, rfl, rfl, rfl, ?_⟩
    refine ⟨_, rfl, u, _, 0, .str f'.nm, rfl, rfl, hu6, rfl, _, rfl, _, .inr f'.nm, rfl, e6 _ _ d5, ?_, fun b o hb => ?_, ?_⟩
    · exact Nat.lt_of_le_of_lt (Nat.le_trans (List.length_take_le' ..) (by rw [spots_len]; exact ok.fields.le)) (by decide)
    · rw [upd_ne (ne_of_none hb hD2)]
      exact e6 _ _ (e5 _ _ hb)
    · rw [upd_same, put_take (spots_nd ok.fields.nd) (spots_at hf')]
  rintro H5 ⟨e5, d5⟩
  rw [show rvs.length = (spotsV fs).length by rw [spots_len]; exact F2.2.1, List.take_length] at d5
  have x5 := e5 _ _ x4
  refine ⟨_, rfl, x, KC, dx, _, rfl, x5, Z.cls, Z.spots, by simp, ?_⟩
  show tSeq _ _ _ _ (upd H5 x (.ins KC dx [("triples", .ref ra), ("sorts", .ref D), ("spots", .ref D2)]))
  have D2x : D2 ≠ x := fun e => by rw [e, x5] at d5; cases d5
  have D2s : D2 ≠ s := ne_s hs4 (Same.refl H4) hD2
  have e06 : SameX x H (upd H5 x (.ins KC dx [("triples", .ref ra), ("sorts", .ref D), ("spots", .ref D2)])) := (e04.trans (same_sx e5)).put
  have b26 : Same (Off x (Off s H4)) (Off x (Off s (upd H5 x (.ins KC dx [("triples", .ref ra), ("sorts", .ref D), ("spots", .ref D2)])))) := by
    rw [hB]
    exact same_off (same_off e5)
  have hs6 : upd H5 x (.ins KC dx [("triples", .ref ra), ("sorts", .ref D), ("spots", .ref D2)]) s ≠ none := by
    rw [upd_ne (Ne.symm xs)]
    exact kept_s hs4 e5
  have d6 : Off x (Off s (upd H5 x (.ins KC dx [("triples", .ref ra), ("sorts", .ref D), ("spots", .ref D2)]))) D2 = some (.dK (spotsV fs)) := by
    rw [hB, off_ne D2x, off_ne D2s]
    exact d5
  have x6 : upd H5 x (.ins KC dx [("triples", .ref ra), ("sorts", .ref D), ("spots", .ref D2)]) x = some (.ins KC dx [("triples", .ref ra), ("sorts", .ref D), ("spots", .ref D2)]) := upd_same
  generalize upd H5 x (.ins KC dx [("triples", .ref ra), ("sorts", .ref D), ("spots", .ref D2)]) = H6 at e06 b26 hs6 d6 x6
  -- modes
  refine ⟨_, rfl, (n : Int), rfl, ?_⟩
  rw [decide_eq_true (by omega : (1 : Int) ≤ n), decide_eq_true (by omega : (n : Int) ≤ 4)]
  refine ⟨true, rfl, iteF ?_⟩
  refine ⟨_, rfl, _, rfl, x, KC, dx, _, rfl, x6, Z.cls, Z.modes, by simp, ?_⟩
  show tSeq _ _ _ _ (upd H6 x (.ins KC dx [("triples", .ref ra), ("sorts", .ref D), ("spots", .ref D2), ("modes", .int n)]))
  have e07 : SameX x H (upd H6 x (.ins KC dx [("triples", .ref ra), ("sorts", .ref D), ("spots", .ref D2), ("modes", .int n)])) := e06.put
  have b67 : Off x (Off s (upd H6 x (.ins KC dx [("triples", .ref ra), ("sorts", .ref D), ("spots", .ref D2), ("modes", .int n)]))) = Off x (Off s H6) := hB
  have hs7 : upd H6 x (.ins KC dx [("triples", .ref ra), ("sorts", .ref D), ("spots", .ref D2), ("modes", .int n)]) s ≠ none := by
    rw [upd_ne (Ne.symm xs)]
    exact hs6
  have x7 : upd H6 x (.ins KC dx [("triples", .ref ra), ("sorts", .ref D), ("spots", .ref D2), ("modes", .int n)]) x = some (.ins KC dx [("triples", .ref ra), ("sorts", .ref D), ("spots", .ref D2), ("modes", .int n)]) := upd_same
  generalize upd H6 x (.ins KC dx [("triples", .ref ra), ("sorts", .ref D), ("spots", .ref D2), ("modes", .int n)]) = H7 at e07 b67 hs7 x7
  have b47 : Same (Off x (Off s H4)) (Off x (Off s H7)) := by
    rw [b67]
    exact b26
  have b27 := b24.trans b47
  rw [← b67] at d6
  -- steps
  refine ⟨_, rfl, _, rfl, x, KC, dx, _, .ref D, rfl, x7, Z.cls, Z.sorts, rfl, _, rfl, s, cv, D, n, fs, cvs, cs, rfl, hs7, C2.1.keep (b27.trans off_same), C2.2.mono fun _ _ h => CdA.keep (b27.trans off_same) h, (b47.trans (off_same.trans off_same)) _ _ d4, ok.fields, n4, ok.cpos, ok.cle, ok.calls, ok.nd, fun r8 svs H8 e8 tr8 al8 => ?_⟩
  have x8 := e8 _ _ x7
  refine ⟨_, rfl, x, KC, dx, _, rfl, x8, Z.cls, Z.steps, by simp, ?_⟩
  have hB8 : Off s H8 x = some (.ins KC dx [("triples", .ref ra), ("sorts", .ref D), ("spots", .ref D2), ("modes", .int n)]) := (off_ne xs).trans x8
  have tr9 : Tu K (Off x (Off s H8)) r8 svs := tr8.off hB8 no_ins
  have al9 : Al (CdT K (Off x (Off s H8))) svs cs := al8.mono fun _ _ h => CdT.off h hB8 no_ins
  obtain ⟨rb, rfl, trb⟩ := tr9
  rw [show putF ("steps" : Str) (V.ref rb) ([("triples", .ref ra), ("sorts", .ref D), ("spots", .ref D2), ("modes", .int n)] : List (Str × V)) = ([("triples", .ref ra), ("sorts", .ref D), ("spots", .ref D2), ("modes", .int n), ("steps", .ref rb)] : List (Str × V)) from rfl]
  have e09 : SameX x H (upd H8 x (.ins KC dx [("triples", .ref ra), ("sorts", .ref D), ("spots", .ref D2), ("modes", .int n), ("steps", .ref rb)])) := (e07.trans (same_sx e8)).put
  have b89 : Off x (Off s (upd H8 x (.ins KC dx [("triples", .ref ra), ("sorts", .ref D), ("spots", .ref D2), ("modes", .int n), ("steps", .ref rb)]))) = Off x (Off s H8) := hB
  have hs9 : upd H8 x (.ins KC dx [("triples", .ref ra), ("sorts", .ref D), ("spots", .ref D2), ("modes", .int n), ("steps", .ref rb)]) s ≠ none := by
    rw [upd_ne (Ne.symm xs)]
    exact kept_s hs7 e8
  have x9 : upd H8 x (.ins KC dx [("triples", .ref ra), ("sorts", .ref D), ("spots", .ref D2), ("modes", .int n), ("steps", .ref rb)]) x = some (.ins KC dx [("triples", .ref ra), ("sorts", .ref D), ("spots", .ref D2), ("modes", .int n), ("steps", .ref rb)]) := upd_same
  generalize upd H8 x (.ins KC dx [("triples", .ref ra), ("sorts", .ref D), ("spots", .ref D2), ("modes", .int n), ("steps", .ref rb)]) = H9 at e09 b89 hs9 x9
  have b79 : Same (Off x (Off s H7)) (Off x (Off s H9)) := by
    rw [b89]
    exact same_off (same_off e8)
  rw [← b89] at trb al9
  have sl : svs.length ≤ 6 := by rw [al9.1]; exact ok.cle
  -- table
  refine ⟨_, rfl, x, KC, dx, _, .ref rb, rfl, x9, Z.cls, Z.steps, rfl, rb, rfl, ⟨svs, same_t (off_same.trans off_same) trb⟩, fun D3 hD3 => ?_⟩
  refine dc_it (walk_tup (K := K) (a := rb) (xs := svs)) (fun i H' => Same H9 H' ∧ H' D3 = some (.dK ((tableV cs svs).take i))) ⟨same_new (Same.refl H9) hD3, upd_same⟩ (fun i H' _ h => same_t ((off_same.trans off_same).trans h.1) trb) ?_ ?_
  · rintro i v Ha' Ha hi ⟨ea, da⟩ ⟨rfl, hv⟩
    obtain ⟨c', hc', m', d', s', ds', ⟨u, rfl, hu⟩, _⟩ := al9.get hv
    refine ⟨rfl, ?_⟩
    refine ⟨_, rfl, u, _, 0, .str c'.nm, rfl, rfl, same_t ((off_same.trans off_same).trans ea) hu, rfl, _, rfl, _, .inr c'.nm, rfl, da, ?_, fun b o hb => ?_, ?_⟩
    · exact Nat.lt_of_le_of_lt (Nat.le_trans (List.length_take_le' ..) (by rw [table_len al9.1]; exact ok.cle)) (by decide)
    · rw [upd_ne (ne_of_none hb hD3)]
      exact ea _ _ hb
    · rw [upd_same, put_take (table_nd ok.nd al9.1) (table_at hc' hv)]
  rintro Ha ⟨ea, da⟩
  rw [show svs.length = (tableV cs svs).length by rw [table_len al9.1]; exact al9.1, List.take_length] at da
  have xa := ea _ _ x9
  refine ⟨_, rfl, x, KC, dx, _, rfl, xa, Z.cls, Z.table, by simp, ?_⟩
  have D3x : D3 ≠ x := fun e => by rw [e, xa] at da; cases da
  have D3s : D3 ≠ s := ne_s hs9 (Same.refl H9) hD3
  show Q .non (upd Ha x (.ins KC dx [("triples", .ref ra), ("sorts", .ref D), ("spots", .ref D2), ("modes", .int n), ("steps", .ref rb), ("table", .ref D3)]))
  have b9a : Same (Off x (Off s H9)) (Off s (upd Ha x (.ins KC dx [("triples", .ref ra), ("sorts", .ref D), ("spots", .ref D2), ("modes", .int n), ("steps", .ref rb), ("table", .ref D3)]))) := by
    refine Same.trans (H1 := Off x (Off s (upd Ha x (.ins KC dx [("triples", .ref ra), ("sorts", .ref D), ("spots", .ref D2), ("modes", .int n), ("steps", .ref rb), ("table", .ref D3)])))) ?_ off_same
    rw [hB]
    exact same_off (same_off ea)
  refine k _ ((e09.trans (same_sx ea)).put) ⟨x, dx, D, D2, D3, .ref ra, .ref rb, rvs, svs, rfl, ?_, ⟨ra, rfl, same_t ((b27.trans b79).trans b9a) F2.1⟩, F2.2.mono fun _ _ h => FdT.keep ((b27.trans b79).trans b9a) h, ((b47.trans b79).trans b9a) _ _ d4, (b79.trans b9a) _ _ d6, ⟨rb, rfl, same_t b9a trb⟩, al9.mono fun _ _ h => CdT.keep b9a h, ?_⟩
  · rw [off_ne xs, upd_same]
  · rw [off_ne D3s, upd_ne D3x]
    exact da
end
end MK
set_option Elab.async false
set_option linter.all false
set_option autoImplicit false
set_option maxRecDepth 100000
set_option maxHeartbeats 4000000
namespace MK
open PySem PySem.Spec PyProof.Rows L2
local macro_rules | `(tactic| walk_at "x") => `(tactic| dsimp only [tSeq, tAsg, tRet, tDrop, tLst, tTup, tCons, tOp, tUn, tIfS])
theorem sc_mix : FnScope ["_law_state", "_law_things", "_law_left", "_law_found"] ["_law_state", "_law_things"] (defScope s_mix) := ⟨rfl, rfl, rfl, by decide +kernel, rfl, by decide +kernel, by decide +kernel⟩
def spMix (K : PySem.W.Frag) : Sp := fun vs H Q _ => ∃ (s c l : Addr) (ns : List Int) (zs : List Str), vs = [.ref s, .ref l] ∧ StA H s c ns ∧ ns.length ≤ 63 ∧ SqL K H l (zs.map V.str) ∧ zs.length < 1000 ∧ (∀ z ∈ zs, PyData.strOk z = true) ∧
  ∀ (a : Addr) (ys : List Str) H', ys.Perm zs → H a = none → H' a = some (.lst (ys.map V.str)) → SameX s H H' → StA H' s c ns → Q (.ref a) H'
section
variable {P : Program} {w : World} {K : PySem.W.Frag} {mg : Str → Option Value} {base : Heap}
def lenAt (a : Addr) (H : Hp) : Nat := match H a with
  | some (.lst xs) => xs.length
  | _ => 0
theorem StA.put {H : Hp} {s c a : Addr} {ns : List Int} {o : HO} (x : StA H s c ns) (h1 : a ≠ s) (h2 : a ≠ c) : StA (upd H a o) s c ns := by
  obtain ⟨n, e1, p, q, m, e2⟩ := x
  exact ⟨n, (upd_ne (Ne.symm h2)).trans e1, p, q, m, (upd_ne (Ne.symm h1)).trans e2⟩
theorem StA.ne {H : Hp} {s c a : Addr} {ns : List Int} (x : StA H s c ns) (h : H a = none) : a ≠ s ∧ a ≠ c := by
  obtain ⟨n, e1, p, q, m, e2⟩ := x
  exact ⟨fun e => (by rw [e, e2] at h; cases h), fun e => (by rw [e, e1] at h; cases h)⟩
theorem ok_mix {f : Addr} {fd : FuncData} (F : DefX K mg "_law_mix" s_mix ["_law_state", "_law_things"] f fd) (T : Txt K mg) (c_take : Cal P w K mg base CX0 2 "_law_take" spTake) : Cal P w K mg base CX0 3 "_law_mix" (spMix K) := by
  refine cal_mk F sc_mix (fun vs H Q E h => ?_) (fun cdv A outer sh H vs Q E hr h => ?_)
  · obtain ⟨s, c, l, ns, zs, rfl, _⟩ := h
    rfl
  · obtain ⟨s, c, l, ns, zs, rfl, h0, hl, hx, hz, hok, k⟩ := h
    refine ⟨_, (pss_cons (ps_par (i := 2) (j := 3) (by rfl) sc_mix.nd rfl rfl (by decide) rfl rfl (pa_cons (pe_callTy call_list_of (by rfl) T.list (by decide +kernel) (pa_cons (pv 1) pa_nil)) (pa_cons (pe_lst pa_nil) pa_nil)) (by rfl))
(pss_cons (ps_while PassesOwn.never (pt_cmpR (op_neD hr.units) (pv 2) (pe_lst pa_nil) (nomark _))
(pss_one (ps_expr (pe_bm PySem.F.plainAttrs_list PySem.F.slot_list_append PySem.F.type_list_append mt_append (pv 3) (pa_cons (pe_bm PySem.F.plainAttrs_list PySem.F.slot_list_pop PySem.F.type_list_pop mt_popAt (pv 2) (pa_cons (pe_c c_take hr (by first | decide | assumption) rfl (pa_cons (pv 0) (pa_cons (pe_callB call_len_seq (by rfl) T.len (by decide +kernel) (pa_cons (pv 2) pa_nil)) pa_nil))) pa_nil)) pa_nil)))))
(pss_one (ps_ret (pv 3))))), ?_⟩
    refine ⟨_, rfl, l, _, rfl, .inl hx, fun a ha => ?_⟩
    refine ⟨by show 0 ≤ sizeLine; decide, fun b hb => ?_⟩
    obtain ⟨ba, hb0⟩ := upd_none hb
    have hs0 : H s ≠ none := by
      obtain ⟨_, _, _, _, _, e⟩ := h0
      rw [e]
      exact nofun
    have sa : a ≠ s := fun e => hs0 (e ▸ ha)
    have sb : b ≠ s := fun e => hs0 (e ▸ hb0)
    have hb1 : upd (upd H a (.lst (zs.map V.str))) b (.lst []) a = some (.lst (zs.map V.str)) := by rw [upd_ne (Ne.symm ba), upd_same]
    refine ⟨_, _, rfl, ?_⟩
    refine while_by (fun σ H2 => SameX s H H2 ∧ StA H2 s c ns ∧ ∃ ls fs : List Str, (fs ++ ls).Perm zs ∧ H2 a = some (.lst (ls.map V.str)) ∧ H2 b = some (.lst (fs.map V.str)) ∧ σ = [some (.ref s), some (.ref l), some (.ref a), some (.ref b)]) (fun _ H2 => lenAt a H2) ?_ ?_ (fun σ H Q Q' h x => ?_)
    · refine ⟨((SameX.refl s H).putN ha).putN hb0, h0.keep (same_new (same_new (Same.refl H) ha) hb), zs, [], by simp, hb1, upd_same, rfl⟩
    · rintro σ H2 ⟨e2, h2, ls, fs, hp, ea, eb, rfl⟩
      have okl : ∀ z ∈ ls, PyData.strOk z = true := fun z m => hok z (hp.mem_iff.mp (List.mem_append_right _ m))
      refine ⟨_, rfl, by show 0 ≤ sizeLine; decide, fun p hp2 => ?_⟩
      have e3 : Same H2 (upd H2 p (.lst [])) := same_new (Same.refl H2) hp2
      refine ⟨_, _, .lst (SqL.of (e3 _ _ ea)) (dp_strs ls), .lst (SqL.of upd_same) .nil, strs_shaped ls okl, strs_shaped [] nofun, _, rfl, ?_⟩
      rw [eqv_nil]
      refine ite2 (fun h1 => ?_) (fun h1 => ?_)
      · cases ls with
        | nil => cases h1
        | cons z0 ls =>
        have lz : (z0 :: ls).length < 1000 := by
          have := hp.length_eq
          rw [List.length_append] at this
          omega
        refine ⟨_, rfl, (.inl ⟨rfl, _, SqL.of (e3 _ _ eb)⟩), _, rfl, (.inl ⟨rfl, _, SqL.of (e3 _ _ ea)⟩), _, rfl, _, rfl, a, _, rfl, .inl (SqL.of (e3 _ _ ea)), s, c, ns, _, rfl, h2.keep e3, hl, by rw [List.length_map, List.length_cons]; omega, by rw [List.length_map]; omega, fun d H4 hd e4 h4 => ?_⟩
        rw [List.length_map] at hd
        have hdl : d < (z0 :: ls).length := by omega
        have a4 := e4 _ _ (e3 _ _ ea) sa
        have b4 := e4 _ _ (e3 _ _ eb) sb
        refine ⟨a, _, _, d, .str (z0 :: ls)[d], rfl, rfl, a4, by omega, by omega, seqIndex_nat (by rw [List.length_map]; exact hdl), by rw [List.getElem?_map, List.getElem?_eq_getElem hdl]; rfl, ?_⟩
        have fl : fs.length < 1000 := by
          have := hp.length_eq
          rw [List.length_append] at this
          omega
        refine ⟨b, _, _, rfl, rfl, (upd_ne ba).trans b4, by rw [List.length_map]; exact Nat.lt_of_lt_of_le fl (by decide), ?_⟩
        refine ⟨⟨(((e2.trans (same_sx e3)).trans e4).putN ha).putN hb0, ?_, (z0 :: ls).eraseIdx d, fs ++ [(z0 :: ls)[d]], ?_, ?_, ?_, rfl⟩, ?_⟩
        · exact (h4.put (h0.ne ha).1 (h0.ne ha).2).put (h0.ne hb0).1 (h0.ne hb0).2
        · rw [List.append_assoc]
          exact ((perm_erase (z0 :: ls) d hdl).append_left fs).trans hp
        · rw [upd_ne (Ne.symm ba), upd_same, eraseIdx_mapV]
        · rw [upd_same, List.map_append]
          rfl
        · show lenAt a _ < lenAt a _
          unfold lenAt
          rw [upd_ne (Ne.symm ba), upd_same, ea]
          show (List.eraseIdx _ _).length < (List.map V.str (z0 :: ls)).length
          rw [List.length_eraseIdx, List.length_map, if_pos hdl]
          omega
      · cases ls with
        | cons z0 ls => exact absurd rfl h1
        | nil =>
        refine ⟨_, rfl, ?_⟩
        exact k b fs _ (by simpa using hp) hb0 (e3 _ _ eb) (e2.trans (same_sx e3)) (h2.keep e3)
    · obtain ⟨v, h1, h2, h3⟩ := x
      exact ⟨v, h1, h2, fun p hp => by
        obtain ⟨d, e, a1, a2, a3, a4, k, a5, a6⟩ := h3 p hp
        exact ⟨d, e, a1, a2, a3, a4, k, a5, h _ _ a6⟩⟩
end
end MK
set_option Elab.async false
set_option linter.all false
set_option autoImplicit false
set_option maxRecDepth 100000
set_option maxHeartbeats 4000000
namespace MK
open PySem PySem.Spec PyProof.Rows L2
local macro_rules | `(tactic| walk_at "x") => `(tactic| dsimp only [tSeq, tAsg, tRet, tDrop, tLst, tTup, tCons, tOp, tUn, tIfS])
theorem sc_deeds : FnScope ["_law_state", "_law_fields", "_law_many", "_law_found", "_law_busy", "_law_k", "_law_name", "_law_sort", "_law_need", "_law_some", "_law_deed"] ["_law_state", "_law_fields", "_law_many"] (defScope s_deeds) := ⟨rfl, rfl, rfl, by decide +kernel, rfl, by decide +kernel, by decide +kernel⟩
def spDeeds (K : PySem.W.Frag) : Sp := fun vs H Q _ => ∃ (s c l : Addr) (ns : List Int) (n : Int) (fvs : List V) (fs : List FD), vs = [.ref s, .ref l, .int n] ∧ StA H s c ns ∧ ns.length ≤ 63 ∧ Off s H l = some (.lst fvs) ∧ Al (FdT K (Off s H)) fvs fs ∧ 0 < fs.length ∧ fs.length < 10 ∧ 0 ≤ n ∧ n < 10 ∧
  ∀ (a : Addr) (ds : List (Str × Str)) (dvs : List V) H', H a = none → Off s H' a = some (.lst dvs) → Al (DeT K (Off s H')) dvs ds → (ds.length : Int) ≤ n → (∀ d ∈ ds, DeOk fs d) → (worded ds).Nodup → SameX s H H' → StA H' s c ns → Q (.ref a) H'
section
variable {P : Program} {w : World} {K : PySem.W.Frag} {mg : Str → Option Value} {base : Heap}
theorem ok_deeds {f : Addr} {fd : FuncData} (F : DefX K mg "_law_deeds" s_deeds ["_law_state", "_law_fields", "_law_many"] f fd) (T : Txt K mg) (c_take : Cal P w K mg base CX0 2 "_law_take" spTake) (c_one : Cal P w K mg base CX0 3 "_law_one" (spOne K)) : Cal P w K mg base CX0 4 "_law_deeds" (spDeeds K) := by
  refine cal_mk F sc_deeds (fun vs H Q E h => ?_) (fun cdv A outer sh H vs Q E hr h => ?_)
  · obtain ⟨s, c, l, ns, n, fvs, fs, rfl, _⟩ := h
    rfl
  · obtain ⟨s, c, l, ns, n, fvs, fs, rfl, h0, hl, hx, hfs, f0, f1, n0, n1, k⟩ := h
    refine ⟨_, (pss_cons (ps_par (i := 3) (j := 4) (by rfl) sc_deeds.nd rfl rfl (by decide) rfl rfl (pa_cons (pe_lst pa_nil) (pa_cons (pe_lst pa_nil) pa_nil)) (by rfl))
(pss_cons (ps_for PassesOwn.never rfl (pi_range1 (by rfl) T.range (pa_cons (pe_c c_take hr (by first | decide | assumption) rfl (pa_cons (pv 0) (pa_cons (pe_op op_add (pv 2) pe_int) pa_nil))) pa_nil)) (pg_name (i := 5) sc_deeds.nd rfl (Or.inl rfl))
(pss_cons (ps_asg (pe_c c_one hr (by first | decide | assumption) rfl (pa_cons (pv 0) (pa_cons (pv 1) pa_nil))) (pg_tup (by rfl) (pgs_cons (pg_name (i := 6) sc_deeds.nd rfl (Or.inl rfl)) (pgs_cons (pg_name (i := 7) sc_deeds.nd rfl (Or.inl rfl)) (pgs_cons (pg_name (i := 8) sc_deeds.nd rfl (Or.inl rfl)) pgs_nil)))))
(pss_cons (ps_set (i := 9) sc_deeds.nd rfl (Or.inl rfl) (pe_cut (pe_ifExp (pt_cmpR op_eq (pv 7) pe_str (nomark _)) (pe_lst (pa_cons pe_str (pa_cons pe_str pa_nil))) (pe_lst (pa_cons pe_str (pa_cons pe_str (pa_cons pe_str (pa_cons pe_str (pa_cons pe_str pa_nil)))))))))
(pss_cons (ps_set (i := 10) sc_deeds.nd rfl (Or.inl rfl) (pe_c c_one hr (by first | decide | assumption) rfl (pa_cons (pv 0) (pa_cons (pv 9) pa_nil))))
(pss_one (ps_if (pt_cut (PW.pt (pw_or (pt_cmpR op_notIn_seq (pv 10) (pe_tup (pa_cons pe_str (pa_cons pe_str pa_nil))) (by rfl)) (pw_or1 (pt_cmpR op_notIn_seq (pv 6) (pv 4) (by rfl))))))
(pss_cons (ps_set (i := 4) sc_deeds.nd rfl (Or.inl rfl) (pe_op op_cat (pv 4) (pe_op op_rep (pe_lst (pa_cons (pv 6) pa_nil)) (pe_callTy call_int1 (by rfl) T.int (by decide +kernel) (pa_cons (pe_cmpR op_in_seq (pv 10) (pe_tup (pa_cons pe_str (pa_cons pe_str pa_nil))) (by rfl)) pa_nil)))))
(pss_one (ps_expr (pe_bm PySem.F.plainAttrs_list PySem.F.slot_list_append PySem.F.type_list_append mt_append (pv 3) (pa_cons (pe_tup (pa_cons (pv 10) (pa_cons (pv 6) pa_nil))) pa_nil)))))
pss_nil))))))
(pss_one (ps_ret (pv 3))))), ?_⟩
    have ls : l ≠ s := fun e => by rw [e, off_s] at hx; cases hx
    refine ⟨by show 0 ≤ sizeLine; decide, fun a ha => ⟨by show 0 ≤ sizeLine; decide, fun b hb => ⟨_, _, rfl, ?_⟩⟩⟩
    obtain ⟨ba, hb0⟩ := upd_none hb
    obtain ⟨as, ac⟩ := h0.ne ha
    obtain ⟨bs, bc⟩ := h0.ne hb0
    have e1 : SameX s H (upd (upd H a (.lst [])) b (.lst [])) := ((SameX.refl s H).putN ha).putN hb0
    refine ⟨_, rfl, _, rfl, _, _, rfl, rfl, s, c, ns, n + 1, rfl, (h0.put as ac).put bs bc, hl, by omega, by omega, fun d H2 hd e2 h2 => ?_⟩
    have a2 := e2 _ _ ((upd_ne (Ne.symm ba)).trans upd_same) as
    have b2 := e2 _ _ upd_same bs
    refine ⟨(d : Int), rfl, by omega, by omega, ?_⟩
    refine for_it walk_range (fun i σ H2 => SameX s H H2 ∧ StA H2 s c ns ∧ ∃ (ds : List (Str × Str)) (dvs : List V) (b : Addr), H2 a = some (.lst dvs) ∧ H2 b = some (.lst ((worded ds).map V.str)) ∧ b ≠ s ∧ b ≠ a ∧
      Al (DeT K (Off a (Off s H2))) dvs ds ∧ ds.length ≤ i ∧ (∀ d ∈ ds, DeOk fs d) ∧ (worded ds).Nodup ∧ ∃ x5 x6 x7 x8 x9 x10, σ = [some (.ref s), some (.ref l), some (.int n), some (.ref a), some (.ref b), x5, x6, x7, x8, x9, x10])
      ⟨e1.trans e2, h2, [], [], b, a2, b2, bs, ba, Al.nil, Nat.le_refl _, nofun, List.nodup_nil, none, none, none, none, none, none, rfl⟩ (fun _ _ _ _ _ => trivial) ?_ ?_
    · rintro i x σ H3' H3 hi ⟨e3, h3, ds, dvs, b, ea, eb, bs, ba, hal, hln, hok, hnd, x5, x6, x7, x8, x9, x10, rfl⟩ ⟨rfl, rfl⟩
      have hi10 : i < 10 := by
        have : i < d := hi
        omega
      have fl : fvs.length < 10 := by rw [hfs.1]; exact f1
      refine ⟨_, rfl, _, rfl, s, c, l, ns, fvs, rfl, h3, hl, ls, .inl (SqL.of (e3 _ _ (off_get hx) ls)), by rw [hfs.1]; exact f0, by omega, fun j v H4 hj e4 h4 => ?_⟩
      obtain ⟨f, hfj, hft⟩ := hfs.get hj
      have e04 := e3.trans e4
      obtain ⟨u, rfl, hu⟩ := (FdT.keep e04.off hft)
      have hu : SqT K H4 u (FdV f) := same_t off_same hu
      refine ⟨u, _, rfl, hu, rfl, _, _, rfl, _, _, rfl, _, _, rfl, rfl, ?_⟩
      refine ⟨fun v H5 => ∃ (q : Addr) (zs : List Str), v = .ref q ∧ H4 q = none ∧ H5 = upd H4 q (.lst (zs.map V.str)) ∧ 0 < zs.length ∧ zs.length < 10 ∧ ∀ z ∈ zs, f.many ∈ deedSorts z, ?_, ?_⟩
      · refine ⟨_, rfl, rfl, _, rfl, ?_⟩
        refine ite2 (fun h1 => ⟨by show 2 ≤ sizeLine; decide, fun q hq => ⟨q, ["set", "clear"], rfl, hq, rfl, by decide, by decide, ?_⟩⟩) (fun h1 => ⟨by show 5 ≤ sizeLine; decide, fun q hq => ⟨q, ["add", "add", "strike", "clear", "fresh"], rfl, hq, rfl, by decide, by decide, ?_⟩⟩)
        · have h2 : sortS f.many = "one" := by
            have := of_decide_eq_true h1
            exact V.str.inj this
          have : f.many = false := by
            cases e : f.many with
            | false => rfl
            | true =>
              rw [e] at h2
              exact absurd h2 (by decide)
          rw [this]
          decide
        · have : f.many = true := by
            cases e : f.many with
            | true => rfl
            | false =>
              rw [e] at h1
              exact absurd rfl (fun h => h1 (decide_eq_true h))
          rw [this]
          decide
      rintro _ _ ⟨q, zs, rfl, hq, rfl, z0, z1, hz⟩
      have e5 : Same H4 (upd H4 q (.lst (zs.map V.str))) := same_new (Same.refl H4) hq
      have qs := (h4.ne hq).1
      -- the deed
      refine ⟨_, rfl, _, rfl, s, c, q, ns, _, rfl, h4.keep e5, hl, qs, .inl (SqL.of upd_same), by rw [List.length_map]; exact z0, by rw [List.length_map]; omega, fun j2 v H6 hj2 e6 h6 => ?_⟩
      rw [List.getElem?_map] at hj2
      obtain ⟨z, hz2, rfl⟩ := Option.map_eq_some_iff.mp hj2
      have hzm := hz z (List.mem_of_getElem? hz2)
      have e46 : SameX s H3 H6 := (e4.trans (same_sx e5)).trans e6
      have a6 := e46 _ _ ea as
      have b6 := e46 _ _ eb bs
      have hal6 : Al (DeT K (Off a (Off s H6))) dvs ds := hal.mono fun _ _ h => DeT.keep (same_off e46.off) h
      have kp : ∀ {H' : Hp}, Same H6 H' → SameX s H H' ∧ StA H' s c ns ∧ Al (DeT K (Off a (Off s H'))) dvs ds := fun e => ⟨(e3.trans e46).trans (same_sx e), h6.keep e, hal6.mono fun _ _ h => DeT.keep (same_off (same_off e)) h⟩
      have dl : dvs.length < 1000 := by rw [hal.1]; omega
      have wl : (worded ds).length < 1000 := by
        have : (worded ds).length ≤ ds.length := by unfold worded; rw [List.length_map]; exact List.length_filter_le ..
        omega
      -- the test
      refine ⟨fun t H7 => Same H6 H7 ∧ (t = true → (z = "add" ∨ z = "strike") → f.nm ∉ worded ds), ?_, ?_⟩
      · refine ⟨_, rfl, by show 2 ≤ sizeLine; decide, fun p hp => ?_⟩
        have e7 : Same H6 (upd H6 p (.tup [.str "add", .str "strike"])) := same_new (Same.refl H6) hp
        refine ⟨p, _, rfl, .inr (SqT.of upd_same), rfl, rfl, _, rfl, ?_⟩
        rw [show ([.str "add", .str "strike"] : List V) = (["add", "strike"] : List Str).map V.str from rfl, inV_strs]
        refine ite2 (fun h1 => ⟨e7, fun _ h2 => ?_⟩) (fun h1 => ?_)
        · have hm : z ∈ (["add", "strike"] : List Str) := by rcases h2 with rfl | rfl <;> decide
          rw [decide_eq_true hm] at h1
          cases h1
        · refine ⟨_, rfl, _, rfl, b, _, rfl, .inl (SqL.of (e7 _ _ b6)), rfl, flat_strs _, ?_⟩
          rw [inV_strs]
          refine ⟨_, rfl, e7, fun h2 _ hm => ?_⟩
          rw [decide_eq_true hm] at h2
          cases h2
      rintro t H7 ⟨e7, ht⟩
      refine ite2 (fun h1 => ?_) (fun h1 => ?_)
      · refine ⟨_, rfl, _, rfl, by show 1 ≤ sizeLine; decide, fun p hp => ?_⟩
        refine ⟨_, rfl, by show 2 ≤ sizeLine; decide, fun p2 hp2 => ⟨p2, _, rfl, .inr (SqT.of upd_same), rfl, rfl, .inr ⟨_, rfl, ?_⟩⟩⟩
        rw [show ([.str "add", .str "strike"] : List V) = (["add", "strike"] : List Str).map V.str from rfl, inV_strs]
        have e8 : Same H6 (upd (upd H7 p (.lst [.str f.nm])) p2 (.tup ((["add", "strike"] : List Str).map V.str))) := same_new (same_new e7 hp) hp2
        have p8 : upd (upd H7 p (.lst [.str f.nm])) p2 (.tup ((["add", "strike"] : List Str).map V.str)) p = some (.lst [.str f.nm]) := by
          rw [upd_ne (Ne.symm (upd_none hp2).1), upd_same]
        obtain ⟨m, hm, m1, hw⟩ : ∃ m : Nat, (if (if false = true then !decide (z ∈ (["add", "strike"] : List Str)) else decide (z ∈ (["add", "strike"] : List Str))) = true then (1 : Int) else 0) = (m : Int) ∧ m ≤ 1 ∧ worded (ds ++ [(z, f.nm)]) = worded ds ++ List.replicate m f.nm := by
          rw [worded_snoc]
          by_cases q : z ∈ (["add", "strike"] : List Str)
          · refine ⟨1, by rw [decide_eq_true q]; rfl, Nat.le_refl _, ?_⟩
            rw [if_pos (by simpa using q)]
            rfl
          · refine ⟨0, by rw [decide_eq_false q]; rfl, by decide, ?_⟩
            rw [if_neg (by simpa using q)]
            rfl
        refine ⟨p, m, _, rfl, congrArg V.int hm, p8, by omega, by omega, ?_, fun p3 hp3 => ?_⟩
        · rw [Int.toNat_natCast]
          show 1 * m ≤ sizeLine
          exact Nat.le_trans (by omega : 1 * m ≤ 1) (by decide)
        rw [Int.toNat_natCast, rep_flat]
        have e9 := same_new e8 hp3 (o := .lst ((List.replicate m f.nm).map V.str))
        refine ⟨b, p3, _, _, rfl, rfl, e9 _ _ b6, upd_same, ?_, fun p4 hp4 => ?_⟩
        · rw [List.length_map, List.length_map, List.length_replicate]
          exact Nat.le_trans (by omega : (worded ds).length + m ≤ 1001) (by decide)
        rw [← List.map_append, ← hw]
        have e10 := same_new e9 hp4 (o := .lst ((worded (ds ++ [(z, f.nm)])).map V.str))
        refine ⟨_, rfl, .inl ⟨rfl, _, SqL.of (e10 _ _ a6)⟩, _, rfl, _, rfl, by show 2 ≤ sizeLine; decide, fun p5 hp5 => ?_⟩
        have e11 := same_new e10 hp5 (o := .tup [.str z, .str f.nm])
        refine ⟨a, _, _, rfl, rfl, e11 _ _ a6, Nat.lt_of_lt_of_le dl (by decide), ?_⟩
        obtain ⟨k1, k2, k3⟩ := kp e11
        have n4 := (h6.keep e9).ne hp4
        have n4a : p4 ≠ a := fun e => by rw [e, e9 _ _ a6] at hp4; cases hp4
        have n5 := (h6.keep e10).ne hp5
        have n5a : p5 ≠ a := fun e => by rw [e, e10 _ _ a6] at hp5; cases hp5
        refine ⟨k1.putN ha, k2.put as ac, ds ++ [(z, f.nm)], dvs ++ [.ref p5], p4, upd_same, ?_, n4.1, n4a, ?_, ?_, ?_, ?_, _, _, _, _, _, _, rfl⟩
        · rw [upd_ne n4a, upd_ne (fun e => by rw [← e, upd_same] at hp5; cases hp5), upd_same]
        · rw [off_upd as, off_put]
          exact k3.snoc (Tu.tup (by rw [off_ne n5a, off_ne n5.1, upd_same]; rfl))
        · rw [List.length_append]
          exact Nat.succ_le_succ hln
        · intro d' hd'
          rcases List.mem_append.mp hd' with h | h
          · exact hok d' h
          · obtain rfl := List.mem_singleton.mp h
            exact ⟨f, List.mem_of_getElem? hfj, rfl, hzm⟩
        · rw [worded_snoc]
          by_cases q : z = ("add" : Str) ∨ z = ("strike" : Str)
          · rw [if_pos q]
            exact List.nodup_append.mpr ⟨hnd, by simp, fun x hx y hy e => ht h1 q (by have e2 : y = f.nm := List.mem_singleton.mp hy; rw [← e2, ← e]; exact hx)⟩
          · rw [if_neg q, List.append_nil]
            exact hnd
      · obtain ⟨k1, k2, k3⟩ := kp e7
        exact ⟨k1, k2, ds, dvs, b, e7 _ _ a6, e7 _ _ b6, bs, ba, k3, Nat.le_succ_of_le hln, hok, hnd, _, _, _, _, _, _, rfl⟩
    · rintro σ H3 ⟨e3, h3, ds, dvs, b, ea, eb, bs, ba, hal, hln, hok, hnd, x5, x6, x7, x8, x9, x10, rfl⟩
      refine ⟨_, rfl, ?_⟩
      have hd' : ds.length ≤ d := hln
      exact k a ds dvs H3 ha ((off_ne as).trans ea) (hal.mono fun _ _ h => DeT.keep off_same h) (by omega) hok hnd e3 h3
end
end MK
set_option Elab.async false
set_option linter.all false
set_option autoImplicit false
set_option maxRecDepth 100000
set_option maxHeartbeats 4000000
namespace MK
open PySem PySem.Spec PyProof.Rows L2
local macro_rules | `(tactic| walk_at "x") => `(tactic| dsimp only [tSeq, tAsg, tRet, tDrop, tLst, tTup, tCons, tOp, tUn, tIfS])
theorem sc_call : FnScope ["_law_state", "_law_name", "_law_hand", "_law_fields", "_law_far", "_law_some", "_law_k", "_law_moves", "_law_x", "_law_lists", "_law_deeds_here"] ["_law_state", "_law_name", "_law_hand", "_law_fields", "_law_far"] (defScope s_call) := ⟨rfl, rfl, rfl, by decide +kernel, rfl, by decide +kernel, by decide +kernel⟩
def spCall (K : PySem.W.Frag) : Sp := fun vs H Q _ => ∃ (s c l : Addr) (ns : List Int) (nm hd : Str) (far : Nat) (fvs : List V) (fs : List FD), vs = [.ref s, .str nm, .str hd, .ref l, .int far] ∧ StA H s c ns ∧ ns.length ≤ 63 ∧ Off s H l = some (.lst fvs) ∧ Al (FdT K (Off s H)) fvs fs ∧ 0 < fs.length ∧ fs.length < 10 ∧
  (fs.map (·.nm)).Nodup ∧ 1 ≤ far ∧ far ≤ 4 ∧ wordB nm = true ∧ (hd = "self" ∨ hd = "new" ∨ hd = "last") ∧
  ∀ (v : V) (cd : CD) H', cd.nm = nm → cd.hand = hd → CdN K H (Off s H') v cd → CdOk fs far cd → SameX s H H' → StA H' s c ns → Q v H'
section
variable {P : Program} {w : World} {K : PySem.W.Frag} {mg : Str → Option Value} {base : Heap}
theorem ok_call {f : Addr} {fd : FuncData} (F : DefX K mg "_law_call" s_call ["_law_state", "_law_name", "_law_hand", "_law_fields", "_law_far"] f fd) (T : Txt K mg) (c_take : Cal P w K mg base CX0 2 "_law_take" spTake) (c_one : Cal P w K mg base CX0 3 "_law_one" (spOne K)) (c_deeds : Cal P w K mg base CX0 4 "_law_deeds" (spDeeds K)) : Cal P w K mg base CX0 5 "_law_call" (spCall K) := by
  refine cal_mk F sc_call (fun vs H Q E h => ?_) (fun cdv A outer sh H vs Q E hr h => ?_)
  · obtain ⟨s, c, l, ns, nm, hd, far, fvs, fs, rfl, _⟩ := h
    rfl
  · obtain ⟨s, c, l, ns, nm, hd, far, fvs, fs, rfl, h0, hl, hx, hfs, f0, f1, fnd, far0, far1, hw, hh, k⟩ := h
    refine ⟨_, (pss_cut (ps_set (i := 5) sc_call.nd rfl (Or.inr rfl) (pe_op op_cat (pe_op op_rep (pe_listRg rfl (by rfl) T.list (prg_1 (by rfl) T.range (pv 4))) pe_int) (pe_op op_rep (pe_lst (pa_cons (pe_un un_neg pe_int) pa_nil)) (pe_callTy call_int1 (by rfl) T.int (by decide +kernel) (pa_cons (pe_cmpR op_gt (pv 4) pe_int (nomark _)) pa_nil)))))
(pss_cut (ps_setLc (i := 7) (own := [("_law_k", 6)]) (g := (gName 6)) (tt := tYes) rfl sc_call.nd rfl rfl (sw_true rfl rfl rfl (by decide +kernel)) (pi_range1 (by rfl) T.range (pa_cons (pv 4) pa_nil)) (blkOk_by (own := [("_law_k", 6)]) (N := ["_law_state", "_law_name", "_law_hand", "_law_fields", "_law_far", "_law_some", "_law_k", "_law_moves", "_law_x", "_law_lists", "_law_deeds_here"]) (sc := defScope s_call) (by decide +kernel)) (fun _ _ _ _ _ => (pg_name (i := 6) sc_call.nd rfl (Or.inl rfl))) (fun _ _ _ _ _ => pts_nil) (fun _ _ _ _ _ => (pe_c c_one hr (by first | decide | assumption) rfl (pa_cons (pv 0) (pa_cons (pv 5) pa_nil)))))
(pss_cut (ps_setLc (i := 9) (own := [("_law_x", 8)]) (g := (gName 8)) rfl sc_call.nd rfl rfl (sw_true rfl rfl rfl (by decide +kernel)) (pi_list (pv 3)) (blkOk_by (own := [("_law_x", 8)]) (N := ["_law_state", "_law_name", "_law_hand", "_law_fields", "_law_far", "_law_some", "_law_k", "_law_moves", "_law_x", "_law_lists", "_law_deeds_here"]) (sc := defScope s_call) (by decide +kernel)) (fun _ _ _ _ _ => (pg_name (i := 8) sc_call.nd rfl (Or.inl rfl))) (fun _ _ _ _ _ => (pts_one (pt_cut (PW.pt (pw_and (pt_cmpR op_eq (pe_ix (ix_tupK (K := K) rfl) (pv 8) pe_int (fun _ _ => rfl)) pe_str (nomark _)) (pw_and1 (pt_cmpR op_eq (pe_c c_take hr (by first | decide | assumption) rfl (pa_cons (pv 0) (pa_cons pe_int pa_nil))) pe_int (nomark _)))))))) (fun _ _ _ _ _ => (pe_ix (ix_tupK (K := K) rfl) (pv 8) pe_int (fun _ _ => rfl))))
(pss_cons (ps_set (i := 10) sc_call.nd rfl (Or.inl rfl) (pe_c c_deeds hr (by first | decide | assumption) rfl (pa_cons (pv 0) (pa_cons (pv 3) (pa_cons (pe_c c_one hr (by first | decide | assumption) rfl (pa_cons (pv 0) (pa_cons (pe_lst (pa_cons pe_int (pa_cons pe_int (pa_cons pe_int (pa_cons pe_int pa_nil))))) pa_nil))) pa_nil)))))
(pss_one (ps_ret (pe_tup (pa_cons (pv 1) (pa_cons (pv 2) (pa_cons (pv 7) (pa_cons (pv 10) (pa_cons (pe_cut (pe_ifExp (pt_cmpR op_ne (pv 2) pe_str (nomark _)) (pv 9) (pe_lst pa_nil))) pa_nil)))))))))))), ?_⟩
    have ls : l ≠ s := fun e => by rw [e, off_s] at hx; cases hx
    have fl : fvs.length < 10 := by rw [hfs.1]; exact f1
    refine ⟨fun σ H5 => ∃ q5 x6 x7 x8 x9 x10, ∃ m : Nat, m ≤ 1 ∧ Same H H5 ∧ q5 ≠ s ∧ H5 q5 = some (.lst (smV (far : Int) m)) ∧ σ = [some (.ref s), some (.str nm), some (.str hd), some (.ref l), some (.int far), some (.ref q5), x6, x7, x8, x9, x10], ?_, ?_⟩
    · refine ⟨_, rfl, (far : Int), rfl, RgOk.of_le (by omega) (by omega) (by omega) (by omega), fun q hq => ?_⟩
      have e1 := same_new (Same.refl H) hq (o := .lst (rgV 0 (far : Int)))
      have rl : (rgV 0 (far : Int)).length = far := by rw [rgV_length, Int.sub_zero, Int.toNat_natCast]
      refine ⟨q, 3, _, rfl, rfl, upd_same, by decide, by decide, ?_, fun q2 hq2 => ?_⟩
      · rw [rl]
        exact Nat.le_trans (by show far * 3 ≤ 12; omega) (by decide)
      have e2 := same_new e1 hq2 (o := .lst (List.replicate 3 (rgV 0 (far : Int))).flatten)
      refine ⟨_, rfl, by show 1 ≤ sizeLine; decide, fun q3 hq3 => ?_⟩
      have e3 := same_new e2 hq3 (o := .lst [V.int (-1)])
      refine ⟨_, rfl, _, _, rfl, rfl, .inr ⟨_, rfl, ?_⟩⟩
      obtain ⟨m, hm, m1⟩ : ∃ m : Nat, (if decide ((far : Int) > 1) = true then (1 : Int) else 0) = (m : Int) ∧ m ≤ 1 := by
        by_cases q : (far : Int) > 1
        · exact ⟨1, by rw [decide_eq_true q]; rfl, Nat.le_refl _⟩
        · exact ⟨0, by rw [decide_eq_false q]; rfl, by decide⟩
      refine ⟨q3, m, _, rfl, congrArg V.int hm, upd_same, by omega, by omega, ?_, fun q4 hq4 => ?_⟩
      · rw [Int.toNat_natCast]
        exact Nat.le_trans (by show 1 * m ≤ 1; omega) (by decide)
      rw [Int.toNat_natCast]
      have e4 := same_new e3 hq4 (o := .lst (List.replicate m [V.int (-1)]).flatten)
      have z3 : q2 ≠ q3 := fun e => by rw [← e, upd_same] at hq3; cases hq3
      have z4 : q2 ≠ q4 := fun e => by rw [← e, upd_ne z3, upd_same] at hq4; cases hq4
      have sml := smV_len (far := (far : Int)) (m := m) (by omega)
      refine ⟨q2, q4, _, _, rfl, rfl, by rw [upd_ne z4, upd_ne z3, upd_same], upd_same, ?_, fun q5 hq5 => ?_⟩
      · have : (smV (far : Int) m).length ≤ sizeLine := Nat.le_trans (by omega : _ ≤ 13) (by decide)
        unfold smV at this
        rw [List.length_append] at this
        exact this
      exact ⟨q5, _, _, _, _, _, m, m1, same_new e4 hq5, ((h0.keep e4).ne hq5).1, upd_same, rfl⟩
    rintro _ H5 ⟨q5, x6, x7, x8, x9, x10, m, m1, e5, q5s, s5, rfl⟩
    have h5 := h0.keep e5
    have sml := smV_len (far := (far : Int)) (m := m) (by omega)
    have smm : ∀ x ∈ smV (far : Int) m, ∃ z : Int, x = .int z ∧ -1 ≤ z ∧ z < far := fun x h => smV_mem (by omega) h
    -- the moves
    refine ⟨fun σ H6 => ∃ (D : Addr) (ms : List Int) (x6 x8 x9 x10 : Option V), SameX s H H6 ∧ StA H6 s c ns ∧ D ≠ s ∧ H D = none ∧ H6 D = some (.lst (ms.map V.int)) ∧ ms.length = far ∧ (∀ z ∈ ms, -1 ≤ z ∧ z < far) ∧
      σ = [some (.ref s), some (.str nm), some (.str hd), some (.ref l), some (.int far), some (.ref q5), x6, some (.ref D), x8, x9, x10], ?_, ?_⟩
    · refine ⟨_, rfl, (far : Int), rfl, by omega, by omega, fun D hD => ?_⟩
      obtain ⟨Ds, Dc⟩ := h5.ne hD
      refine lc_it walk_range (fun i H6 => SameX s H H6 ∧ StA H6 s c ns ∧ H6 q5 = some (.lst (smV (far : Int) m)) ∧ ∃ ms : List Int, H6 D = some (.lst (ms.map V.int)) ∧ ms.length = i ∧ ∀ z ∈ ms, -1 ≤ z ∧ z < far)
        ⟨same_sx (same_new e5 hD), h5.put Ds Dc, same_new (Same.refl H5) hD _ _ s5, [], upd_same, rfl, nofun⟩ (fun _ _ _ _ => trivial) ?_ ?_
      · rintro i x H6' H6 hi ⟨e6, h6, s6, ms, hms, hlen, hz⟩ ⟨rfl, rfl⟩
        have hi4 : i < far := by
          have : i < (far : Int).toNat := hi
          omega
        refine ⟨rfl, ?_⟩
        refine ⟨_, rfl, _, rfl, s, c, q5, ns, _, rfl, h6, hl, q5s, .inl (SqL.of s6), by rw [sml]; omega, by rw [sml]; omega, fun d v H7 hd7 e7 h7 => ?_⟩
        obtain ⟨z, rfl, z0, z1⟩ := smm v (List.mem_of_getElem? hd7)
        refine ⟨_, e7 _ _ hms Ds, by rw [List.length_map]; exact Nat.lt_of_lt_of_le (by omega : ms.length < 4) (by decide), ?_⟩
        have q5D : q5 ≠ D := fun e => by rw [e, hD] at s5; cases s5
        refine ⟨(e6.trans e7).putN (none_of e5 hD), h7.put Ds Dc, (upd_ne q5D).trans (e7 _ _ s6 q5s), ms ++ [z], ?_, by rw [List.length_append, hlen]; rfl, ?_⟩
        · rw [upd_same, List.map_append]
          rfl
        · intro y hy
          rcases List.mem_append.mp hy with hy | hy
          · exact hz y hy
          · rw [List.mem_singleton.mp hy]
            exact ⟨z0, z1⟩
      · rintro H6 ⟨e6, h6, _, ms, hms, hlen, hz⟩
        exact ⟨D, ms, _, _, _, _, e6, h6, Ds, none_of e5 hD, hms, by rw [hlen]; exact Int.toNat_natCast far, hz, rfl⟩
    rintro _ H6 ⟨D, ms, x6, x8, x9, x10, e6, h6, Ds, Dn, hms, hml, hmz, rfl⟩
    -- the lists in common
    refine ⟨fun σ H7 => ∃ (D2 : Addr) (zs : List Str) (x6 x8 x10 : Option V), SameX s H H7 ∧ StA H7 s c ns ∧ D2 ≠ s ∧ H D2 = none ∧ H7 D = some (.lst (ms.map V.int)) ∧ H7 D2 = some (.lst (zs.map V.str)) ∧ zs.Nodup ∧ (∀ z ∈ zs, ∃ f ∈ fs, f.nm = z ∧ f.many = true) ∧
      σ = [some (.ref s), some (.str nm), some (.str hd), some (.ref l), some (.int far), some (.ref q5), x6, some (.ref D), x8, some (.ref D2), x10], ?_, ?_⟩
    · refine ⟨_, rfl, l, rfl, ⟨_, SqL.of (e6 _ _ (off_get hx) ls)⟩, fun D2 hD2 => ?_⟩
      obtain ⟨D2s, D2c⟩ := h6.ne hD2
      have D2D : D ≠ D2 := fun e => by rw [← e, hms] at hD2; cases hD2
      refine lc_list (K := K) (a := l) (xs := fvs) (fun i H7 => SameX s H6 H7 ∧ StA H7 s c ns ∧ ∃ zs : List Str, H7 D2 = some (.lst (zs.map V.str)) ∧ zs.length ≤ i ∧ zs.Sublist ((fs.take i).map (·.nm)) ∧ ∀ z ∈ zs, ∃ f ∈ fs, f.nm = z ∧ f.many = true)
        ⟨same_sx (same_new (Same.refl H6) hD2), h6.put D2s D2c, [], upd_same, Nat.le_refl _, List.nil_sublist _, nofun⟩ (fun i H7 _ h => SqL.of (h.1 _ _ (e6 _ _ (off_get hx) ls) ls)) ?_ ?_
      · rintro i v H7 hv7 ⟨e7, h7, zs, hzs, hzl, hsub, hzm⟩
        obtain ⟨f, hfi, hft⟩ := hfs.get hv7
        have il : i < fvs.length := (List.getElem?_eq_some_iff.mp hv7).1
        obtain ⟨u, rfl, hu0⟩ := FdT.keep (e6.trans e7).off hft
        have hu : SqT K H7 u (FdV f) := same_t off_same hu0
        refine ⟨rfl, ?_⟩
        refine ⟨fun t H8 => SameX s H7 H8 ∧ StA H8 s c ns ∧ (t = true → f.many = true), ?_, ?_⟩
        · refine ⟨_, rfl, u, _, 1, .str (sortS f.many), rfl, rfl, hu, rfl, rfl, _, rfl, ite2 (fun h1 => ?_) (fun h1 => ⟨SameX.refl s H7, h7, nofun⟩)⟩
          refine ⟨_, rfl, s, c, ns, 2, rfl, h7, hl, by decide, by decide, fun d H8 hd e8 h8 => ⟨rfl, _, rfl, e8, h8, fun _ => ?_⟩⟩
          cases e : f.many with
          | true => rfl
          | false =>
            rw [e] at h1
            exact absurd (V.str.inj (of_decide_eq_true h1)) (by decide)
        rintro t H8 ⟨e8, h8, ht⟩
        have fi : (fs.take (i + 1)).map (·.nm) = (fs.take i).map (·.nm) ++ [f.nm] := by
          rw [List.take_succ, hfi]
          simp
        refine ite2 (fun h1 => ?_) (fun h1 => ?_)
        · refine ⟨_, rfl, u, _, 0, .str f.nm, rfl, rfl, same_t off_same (same_t e8.off hu0), rfl, ?_⟩
          refine ⟨_, e8 _ _ hzs D2s, by rw [List.length_map]; exact Nat.lt_of_lt_of_le (by omega : zs.length < 10) (by decide), ?_⟩
          refine ⟨(e7.trans e8).putN hD2, h8.put D2s D2c, zs ++ [f.nm], ?_, by rw [List.length_append]; exact Nat.succ_le_succ hzl, ?_, ?_⟩
          · rw [upd_same, List.map_append]
            rfl
          · rw [fi]
            exact hsub.append (List.Sublist.refl _)
          · intro y hy
            rcases List.mem_append.mp hy with hy | hy
            · exact hzm y hy
            · rw [List.mem_singleton.mp hy]
              exact ⟨f, List.mem_of_getElem? hfi, rfl, ht h1⟩
        · refine ⟨e7.trans e8, h8, zs, e8 _ _ hzs D2s, Nat.le_succ_of_le hzl, ?_, hzm⟩
          rw [fi]
          exact hsub.trans (List.sublist_append_left _ _)
      · rintro H7 ⟨e7, h7, zs, hzs, hzl, hsub, hzm⟩
        refine ⟨D2, zs, _, _, _, e6.trans e7, h7, D2s, noneX e6 D2s hD2, e7 _ _ hms Ds, hzs, ?_, hzm, rfl⟩
        refine hsub.nodup (List.Nodup.sublist ?_ fnd)
        exact (List.take_sublist _ _).map _
    rintro _ H7 ⟨D2, zs, x6, x8, x10, e7, h7, D2s, D2n, hms7, hzs, hznd, hzm, rfl⟩
    -- the deeds
    refine ⟨_, rfl, _, rfl, _, rfl, by show 4 ≤ sizeLine; decide, fun b hb => ?_⟩
    have e8 := same_new (Same.refl H7) hb (o := .lst [.int 1, .int 2, .int 2, .int 4])
    refine ⟨s, c, b, ns, _, rfl, h7.keep e8, hl, (h7.ne hb).1, .inl (SqL.of upd_same), by decide, by decide, fun d v H8 hd8 e9 h8 => ?_⟩
    obtain ⟨n, rfl, n0, n1⟩ : ∃ n : Int, v = .int n ∧ 0 ≤ n ∧ n ≤ 4 := by
      have m := List.mem_of_getElem? hd8
      simp only [List.mem_cons, List.not_mem_nil, or_false] at m
      rcases m with rfl | rfl | rfl | rfl <;> exact ⟨_, rfl, by decide, by decide⟩
    have e78 := (same_sx (s := s) e8).trans e9
    have e08 := e7.trans e78
    refine ⟨s, c, l, ns, n, fvs, fs, rfl, h8, hl, ?_, hfs.mono fun _ _ h => FdT.keep e08.off h, f0, f1, n0, by omega, fun a ds dvs H9 ha hda hal hdl hdok hdnd e10 h9 => ?_⟩
    · rw [off_ne ls]
      exact e08 _ _ (off_get hx) ls
    have e79 := e78.trans e10
    -- what is handed
    refine ⟨_, rfl, _, rfl, _, rfl, _, rfl, ?_⟩
    refine ⟨fun v H10 => Same H9 H10 ∧ ∃ ys : List Str, LsN H (Off s H10) v (ys.map V.str) ∧ ys.Nodup ∧ (∀ z ∈ ys, ∃ f ∈ fs, f.nm = z ∧ f.many = true) ∧ (hd = "self" → ys = []), ?_, ?_⟩
    · refine ⟨_, rfl, rfl, _, rfl, ite2 (fun h1 => ?_) (fun h1 => ?_)⟩
      · refine ⟨_, rfl, Same.refl H9, zs, ⟨D2, rfl, D2n, ?_⟩, hznd, hzm, fun e => ?_⟩
        · rw [off_ne D2s]
          exact e79 _ _ hzs D2s
        · subst e
          exact absurd h1 (by decide)
      · refine ⟨by show 0 ≤ sizeLine; decide, fun p hp => ⟨same_new (Same.refl H9) hp, [], ⟨p, rfl, noneX (e08.trans e10) (h9.ne hp).1 hp, ?_⟩, List.nodup_nil, nofun, fun _ => rfl⟩⟩
        rw [off_ne (h9.ne hp).1, upd_same]
        rfl
    rintro v H10 ⟨e11, ys, hys, ynd, hym, hself⟩
    refine ⟨by show 5 ≤ sizeLine; decide, fun p hp => ?_⟩
    have e12 := same_new e11 hp (o := .tup [.str nm, .str hd, .ref D, .ref a, v])
    have ps := ((h9.keep e11).ne hp).1
    have e13 : Same (Off s H10) (Off s (upd H10 p (.tup [.str nm, .str hd, .ref D, .ref a, v]))) := same_off (same_new (Same.refl H10) hp)
    refine k (.ref p) ⟨nm, hd, ms, ds, ys⟩ _ rfl rfl ⟨.ref D, .ref a, v, dvs, Tu.tup ?_, ⟨D, rfl, Dn, ?_⟩, ⟨a, rfl, noneX e08 (h8.ne ha).1 ha, same_off e12 _ _ hda⟩, hal.mono fun _ _ h => DeT.keep (same_off e12) h, hys.keep e13⟩ ?_ (((e08.trans e10).trans (same_sx e12))) (h9.keep e12)
    · rw [off_ne ps, upd_same]
    · rw [off_ne Ds]
      exact e12 _ _ (e79 _ _ hms7 Ds)
    · exact ⟨hw, hh, hml, hmz, (by have : (ds.length : Int) ≤ 4 := Int.le_trans hdl n1; exact Int.ofNat_le.mp this), hdok, hdnd, hym, hself, ynd⟩
end
end MK
set_option Elab.async false
set_option linter.all false
set_option autoImplicit false
set_option maxRecDepth 100000
set_option maxHeartbeats 4000000
namespace MK
open PySem PySem.Spec PyProof.Rows L2
local macro_rules | `(tactic| walk_at "x") => `(tactic| dsimp only [tSeq, tAsg, tRet, tDrop, tLst, tTup, tCons, tOp, tUn, tIfS])
theorem sc_plan : FnScope ["_law_fields", "_law_calls", "_law_far"] ["_law_fields", "_law_calls", "_law_far"] (defScope s_plan) := ⟨rfl, rfl, rfl, by decide +kernel, rfl, by decide +kernel, by decide +kernel⟩
structure KMk (P : Program) (w : World) (K : PySem.W.Frag) (mg : Str → Option Value) (base : Heap) (KC : Addr) : Prop where
  ex : ∃ (f : Addr) (fd : FuncData), Mk K KC f ∧ FnOk P w K mg base CX0 6 f fd ["self", "fields", "calls", "modes"] (spKInit K KC) ∧ KBn K fd ["self", "fields", "calls", "modes"] 3 ["modes"] (fun us ws => us ++ ws) (fun vs zs => vs ++ zs)
  g : mg "Kind" = some (.ref KC)
theorem pe_kind {X : Cx} {KC : Addr} {j : Nat} {p pos : Pos} {e : Expr} {es : List Expr} {kws : List Keyword} {t tk : TA} (c : KMk X.prog X.w X.K X.mg X.base KC) (hr : Room j X.A) (hk : 7 ≤ j) (hg : Gl X "Kind") (ha : PA X (e :: es) t) (hkw : PK X kws tk)
    (hall : (backToKw pos (keywordEach kws X.env)).all (·.1.isSome) = true := by rfl) (hks : (backToKw pos (keywordEach kws X.env)).filterMap (·.1) = (["modes"] : List Str) := by rfl)
    (he : starEach (e :: es) X.env = (false, eval e X.env) :: starEach es X.env := by rfl) (hpl : ((backTo pos (starEach (e :: es) X.env)).any (·.1) || (backToKw pos (keywordEach kws X.env)).any (·.1.isNone)) = false := by rfl) :
    PE X (.Call (.Name "Kind" p) (e :: es) kws pos) (tCutE (tMakeK KC 2 1 (spKInit X.K KC) (fun vs zs => vs ++ zs) E0 t tk)) := by
  obtain ⟨f, fd, M, F, hb⟩ := c.ex
  exact pe_cut <| pe_makeK (n := 2) M F (hr.mono hk) hg c.g hb pass0 ha hkw hall hks (by decide) he hpl
theorem rd_kind {K : PySem.W.Frag} {KC s : Addr} {H : Hp} {fv cv : V} {n : Nat} {fvs cvs : List V} {fs : List FD} {cs : List CD} {Q : VK} {E : XK} (hs : H s ≠ none) (hf : Sq K (Off s H) fv fvs) (hfs : Al (FdA K (Off s H)) fvs fs) (hc : Sq K (Off s H) cv cvs) (hcs : Al (CdA K (Off s H)) cvs cs) (ok : KdOk fs n cs)
    (q : ∀ v H', Same H H' → KdA K KC (Off s H') v fs n cs → Q v H') : ∀ x dx, H x = none → H dx = none → dx ≠ x → spKInit K KC (.ref x :: ([fv, cv] ++ [.int n])) (upd (upd H dx (.own x)) x (.ins KC dx [])) (fun v H3 => v = .non ∧ Q (.ref x) H3) E := by
  intro x dx hx hd ne
  have xs : x ≠ s := fun e => hs (e ▸ hx)
  have ds : dx ≠ s := fun e => hs (e ▸ hd)
  have b : Same (Off s H) (Off x (Off s (upd (upd H dx (.own x)) x (.ins KC dx [])))) := by
    rw [off_upd xs, off_put]
    exact same_offN (same_off (same_new (Same.refl H) hd)) (off_none hx)
  refine ⟨s, x, dx, fv, cv, n, fvs, cvs, fs, cs, rfl, xs, ?_, upd_same, hf.keep b, hfs.mono fun _ _ h => FdA.keep b h, hc.keep b, hcs.mono fun _ _ h => CdA.keep b h, ok, fun H' e kd => ⟨rfl, q _ _ (fun a o ha => ?_) kd⟩⟩
  · rw [upd_ne (Ne.symm xs), upd_ne (Ne.symm ds)]
    exact hs
  · refine e a o ?_ (fun z => by rw [z, hx] at ha; cases ha)
    rw [upd_ne (fun z => by rw [z, hx] at ha; cases ha), upd_ne (fun z => by rw [z, hd] at ha; cases ha)]
    exact ha
theorem rd_kindM {K : PySem.W.Frag} {KC s : Addr} {H : Hp} {fv cv : V} {n : Nat} {fvs cvs : List V} {fs : List FD} {cs : List CD} {E : XK} (hs : H s ≠ none) (hf : Sq K (Off s H) fv fvs) (hfs : Al (FdA K (Off s H)) fvs fs) (hc : Sq K (Off s H) cv cvs) (hcs : Al (CdA K (Off s H)) cvs cs) (ok : KdOk fs n cs) :
    ∀ x dx, H x = none → H dx = none → dx ≠ x → spKInit K KC (.ref x :: ([fv, cv] ++ [.int n])) (upd (upd H dx (.own x)) x (.ins KC dx [])) (fun v H3 => v = .non ∧ Same H H3 ∧ KdA K KC (Off s H3) (.ref x) fs n cs) E :=
  rd_kind (Q := fun v H' => Same H H' ∧ KdA K KC (Off s H') v fs n cs) hs hf hfs hc hcs ok fun _ _ e k => ⟨e, k⟩
theorem KdA.off {K : PySem.W.Frag} {KC p : Addr} {H : Hp} {v : V} {fs : List FD} {n : Nat} {cs : List CD} (h : KdA K KC H v fs n cs) (hp : H p = some (.dK [])) (f0 : 0 < fs.length) (c0 : 0 < cs.length) : KdA K KC (Off p H) v fs n cs := by
  obtain ⟨x, dx, so, sp, tb, t, st, tv, sv, h0, h1, h2, h3, h4, h5, h6, h7, h8⟩ := h
  have full : ∀ {a : Addr} {kvs : List (Key × V)}, H a = some (.dK kvs) → 0 < kvs.length → Off p H a = some (.dK kvs) := fun {a kvs} ha hl => by
    rw [off_ne (fun e => by
      rw [e, hp] at ha
      have := HO.dK.inj (Option.some.inj ha)
      rw [← this] at hl
      cases hl)]
    exact ha
  refine ⟨x, dx, so, sp, tb, t, st, tv, sv, h0, ?_, h2.off hp no_dK, h3.mono fun _ _ h => Tu.off h hp no_dK, full h4 (by rw [sorts_len]; exact f0), full h5 (by rw [spots_len]; exact f0), h6.off hp no_dK, h7.mono fun _ _ h => CdT.off h hp no_dK, full h8 (by rw [table_len h7.1]; exact c0)⟩
  rw [off_ne (fun e => by rw [e, hp] at h1; cases h1)]
  exact h1
/-- what the law holds of a kind -/
def planV (l1 l2 : Addr) (n : Nat) (kv : V) : List (Key × V) := [(.inr "fields", .ref l1), (.inr "calls", .ref l2), (.inr "modes", .int n), (.inr "known", kv)]
def PlanA (K : PySem.W.Frag) (KC : Addr) (H : Hp) (v : V) (fs : List FD) (n : Nat) (cs : List CD) : Prop := ∃ (p l1 l2 : Addr) (kv : V) (fvs cvs : List V), v = .ref p ∧ H p = some (.dK (planV l1 l2 n kv)) ∧ H l1 = some (.lst fvs) ∧ Al (FdT K H) fvs fs ∧ H l2 = some (.lst cvs) ∧ Al (CdL K H) cvs cs ∧
  KdA K KC H kv fs n cs
theorem PlanA.keep {K : PySem.W.Frag} {KC : Addr} {H H' : Hp} {v : V} {fs : List FD} {n : Nat} {cs : List CD} (e : Same H H') (h : PlanA K KC H v fs n cs) : PlanA K KC H' v fs n cs := by
  obtain ⟨p, l1, l2, kv, fvs, cvs, h0, h1, h2, h3, h4, h5, h6⟩ := h
  exact ⟨p, l1, l2, kv, fvs, cvs, h0, e _ _ h1, e _ _ h2, h3.mono fun _ _ h => FdT.keep e h, e _ _ h4, h5.mono fun _ _ h => CdL.keep e h, h6.keep e⟩
def spPlan (K : PySem.W.Frag) (KC : Addr) : Sp := fun vs H Q _ => ∃ (s l1 l2 : Addr) (n : Nat) (fvs cvs : List V) (fs : List FD) (cs : List CD), vs = [.ref l1, .ref l2, .int n] ∧ H s ≠ none ∧ Off s H l1 = some (.lst fvs) ∧ Al (FdT K (Off s H)) fvs fs ∧ Off s H l2 = some (.lst cvs) ∧ Al (CdL K (Off s H)) cvs cs ∧ KdOk fs n cs ∧
  ∀ v H', Same H H' → PlanA K KC (Off s H') v fs n cs → Q v H'
section
variable {P : Program} {w : World} {K : PySem.W.Frag} {mg : Str → Option Value} {base : Heap} {C : Cst} {KC : Addr}
theorem ok_plan {f : Addr} {fd : FuncData} (F : DefX K mg "_law_plan" s_plan ["_law_fields", "_law_calls", "_law_far"] f fd) (T : Txt K mg) (c_Kind : KMk P w K mg base KC) : Cal P w K mg base CX0 8 "_law_plan" (spPlan K KC) := by
  refine cal_mk F sc_plan (fun vs H Q E h => ?_) (fun cdv A outer sh H vs Q E hr h => ?_)
  · obtain ⟨s, l1, l2, n, fvs, cvs, fs, cs, rfl, _⟩ := h
    rfl
  · obtain ⟨s, l1, l2, n, fvs, cvs, fs, cs, rfl, hs, h1, hfs, h2, hcs, ok, k⟩ := h
    refine ⟨_, (pss_one (ps_ret (pe_disp (pps_cons pe_str (pv 0) (pps_cons pe_str (pv 1) (pps_cons pe_str (pv 2) (pps_cons pe_str (pe_kind c_Kind hr (by first | decide | assumption) rfl (pa_cons (pv 0) (pa_cons (pv 1) pa_nil)) (pk_cons (pv 2) pk_nil)) pps_nil)))) (by rfl) (by rfl) (fun z => by cases z) (by decide)))), ?_⟩
    intro p hp
    have e1 : Same H (upd H p (.dK [])) := same_new (Same.refl H) hp
    have ps : p ≠ s := ne_s hs (Same.refl H) hp
    have b1 := same_off (s := s) e1
    refine ⟨_, rfl, _, rfl, _, rfl, fun v H3 => Same (upd H p (.dK [])) H3 ∧ KdA K KC (Off s H3) v fs n cs, ⟨_, rfl, _, rfl, _, rfl, rfl, rfl, rd_kindM (s := s) (kept_s hs e1) (Ls.sq ⟨l1, rfl, b1 _ _ h1⟩) (hfs.mono fun _ _ h => FdT.a (FdT.keep b1 h)) (Ls.sq ⟨l2, rfl, b1 _ _ h2⟩) (hcs.mono fun _ _ h => CdL.a (CdL.keep b1 h)) ok⟩, ?_⟩
    rintro v H3 ⟨e3, kd⟩
    refine ⟨e3 _ _ upd_same, planV l1 l2 n v, rfl, by show 4 ≤ 15; decide, ?_⟩
    rw [show mergeK [] (planV l1 l2 n v) = planV l1 l2 n v from rfl]
    have pv := off_ne (s := s) (H := H3) ps
    have kd2 : KdA K KC (Off p (Off s H3)) v fs n cs := kd.off (pv.trans (e3 _ _ upd_same)) ok.fields.pos ok.cpos
    have b2 : Same (Off p (Off s H3)) (Off s (upd H3 p (.dK (planV l1 l2 n v)))) := by
      refine Same.trans (H1 := Off p (Off s (upd H3 p (.dK (planV l1 l2 n v))))) ?_ off_same
      rw [off_upd ps, off_put]
      exact fun _ _ h => h
    have b3 : Same (Off s H) (Off s (upd H3 p (.dK (planV l1 l2 n v)))) := by
      refine Same.trans (H1 := Off p (Off s H3)) (same_offN (same_off (e1.trans e3)) (off_none hp)) b2
    refine k _ _ (fun a o ha => ?_) ⟨p, l1, l2, v, fvs, cvs, rfl, ?_, b3 _ _ h1, hfs.mono fun _ _ h => FdT.keep b3 h, b3 _ _ h2, hcs.mono fun _ _ h => CdL.keep b3 h, kd2.keep b2⟩
    · rw [upd_ne (ne_of_none ha hp)]
      exact e3 _ _ (e1 _ _ ha)
    · rw [off_ne ps, upd_same]
end
end MK
set_option Elab.async false
set_option linter.all false
set_option autoImplicit false
set_option maxRecDepth 100000
set_option maxHeartbeats 4000000
namespace MK
open PySem PySem.Spec PyProof.Rows L2
local macro_rules | `(tactic| walk_at "x") => `(tactic| dsimp only [tSeq, tAsg, tRet, tDrop, tLst, tTup, tCons, tOp, tUn, tIfS])
theorem sc_kind : FnScope ["_law_state", "_law_wide", "_law_many", "_law_far", "_law_fields", "_law_names", "_law_k", "_law_top", "_law_calls", "_law_name"] ["_law_state", "_law_wide", "_law_many", "_law_far"] (defScope s_kind) := ⟨rfl, rfl, rfl, by decide +kernel, rfl, by decide +kernel, by decide +kernel⟩
def fieldNames : List Str := ["a", "need", "many", "do", "quantity"]
def callNames : List Str := ["add", "put", "cut", "make", "jqzxvkgw"]
def spLawKind (K : PySem.W.Frag) (KC : Addr) : Sp := fun vs H Q _ => ∃ (s c : Addr) (ns : List Int) (wide many far : Nat), vs = [.ref s, .int wide, .int many, .int far] ∧ StA H s c ns ∧ ns.length ≤ 63 ∧ 1 ≤ wide ∧ wide ≤ 3 ∧ 2 ≤ many ∧ many ≤ 6 ∧ 1 ≤ far ∧ far ≤ 3 ∧
  ∀ v H' fs n cs, SameX s H H' → StA H' s c ns → KdOk fs n cs → fs.length ≤ wide → (∀ f ∈ fs, f.nm ∈ fieldNames) → n ≤ far → (∃ j, j < many ∧ cs.map (·.nm) = callNames.take j ++ (["build"] : List Str)) → (∃ cs' b, cs = cs' ++ [b] ∧ b.hand = ("last" : Str)) → PlanA K KC (Off s H') v fs n cs → Q v H'
section
variable {P : Program} {w : World} {K : PySem.W.Frag} {mg : Str → Option Value} {base : Heap} {C : Cst} {KC : Addr}
theorem ok_kind {f : Addr} {fd : FuncData} (F : DefX K mg "_law_kind" s_kind ["_law_state", "_law_wide", "_law_many", "_law_far"] f fd) (T : Txt K mg) (c_take : Cal P w K mg base CX0 2 "_law_take" spTake) (c_one : Cal P w K mg base CX0 3 "_law_one" (spOne K)) (c_mix : Cal P w K mg base CX0 3 "_law_mix" (spMix K))
    (c_call : Cal P w K mg base CX0 5 "_law_call" (spCall K)) (c_plan : Cal P w K mg base CX0 8 "_law_plan" (spPlan K KC)) : Cal P w K mg base CX0 9 "_law_kind" (spLawKind K KC) := by
  refine cal_mk F sc_kind (fun vs H Q E h => ?_) (fun cdv A outer sh H vs Q E hr h => ?_)
  · obtain ⟨s, c, ns, wide, many, far, rfl, _⟩ := h
    rfl
  · obtain ⟨s, c, ns, wide, many, far, rfl, h0, hl, w1, w3, m2, m6, f1, f3, k⟩ := h
    refine ⟨_, (pss_cons (ps_par (i := 4) (j := 5) (by rfl) sc_kind.nd rfl rfl (by decide) rfl rfl (pa_cons (pe_lst pa_nil) (pa_cons (pe_c c_mix hr (by first | decide | assumption) rfl (pa_cons (pv 0) (pa_cons (pe_lst (pa_cons pe_str (pa_cons pe_str (pa_cons pe_str (pa_cons pe_str (pa_cons pe_str pa_nil)))))) pa_nil))) pa_nil)) (by rfl))
(pss_cons (ps_for PassesOwn.never rfl (pi_range1 (by rfl) T.range (pa_cons (pe_op op_add pe_int (pe_c c_take hr (by first | decide | assumption) rfl (pa_cons (pv 0) (pa_cons (pv 1) pa_nil)))) pa_nil)) (pg_name (i := 6) sc_kind.nd rfl (Or.inl rfl))
(pss_one (ps_expr (pe_bm PySem.F.plainAttrs_list PySem.F.slot_list_append PySem.F.type_list_append mt_append (pv 4) (pa_cons (pe_tup (pa_cons (pe_ix ix_list (pv 5) (pv 6) (fun _ _ => rfl)) (pa_cons (pe_c c_one hr (by first | decide | assumption) rfl (pa_cons (pv 0) (pa_cons (pe_lst (pa_cons pe_str (pa_cons pe_str (pa_cons pe_str pa_nil)))) pa_nil))) (pa_cons (pe_cmpR op_eq (pe_c c_take hr (by first | decide | assumption) rfl (pa_cons (pv 0) (pa_cons pe_int pa_nil))) pe_int (nomark _)) pa_nil)))) pa_nil)))))
(pss_cons (ps_par (i := 7) (j := 8) (by rfl) sc_kind.nd rfl rfl (by decide) rfl rfl (pa_cons (pe_op op_add pe_int (pe_c c_take hr (by first | decide | assumption) rfl (pa_cons (pv 0) (pa_cons (pv 3) pa_nil)))) (pa_cons (pe_lst pa_nil) pa_nil)) (by rfl))
(pss_cons (ps_for PassesOwn.never rfl (pi_list (pe_slice sl_list (pe_lst (pa_cons pe_str (pa_cons pe_str (pa_cons pe_str (pa_cons pe_str (pa_cons pe_str pa_nil)))))) po_none (po_some (pe_op op_add pe_int (pe_c c_take hr (by first | decide | assumption) rfl (pa_cons (pv 0) (pa_cons (pe_op op_sub (pv 2) pe_int) pa_nil))))))) (pg_name (i := 9) sc_kind.nd rfl (Or.inl rfl))
(pss_one (ps_expr (pe_bm PySem.F.plainAttrs_list PySem.F.slot_list_append PySem.F.type_list_append mt_append (pv 8) (pa_cons (pe_c c_call hr (by first | decide | assumption) rfl (pa_cons (pv 0) (pa_cons (pv 9) (pa_cons (pe_c c_one hr (by first | decide | assumption) rfl (pa_cons (pv 0) (pa_cons (pe_lst (pa_cons pe_str (pa_cons pe_str (pa_cons pe_str (pa_cons pe_str (pa_cons pe_str pa_nil)))))) pa_nil))) (pa_cons (pv 4) (pa_cons (pv 7) pa_nil)))))) pa_nil)))))
(pss_cons (ps_expr (pe_bm PySem.F.plainAttrs_list PySem.F.slot_list_append PySem.F.type_list_append mt_append (pv 8) (pa_cons (pe_c c_call hr (by first | decide | assumption) rfl (pa_cons (pv 0) (pa_cons pe_str (pa_cons pe_str (pa_cons (pv 4) (pa_cons (pv 7) pa_nil)))))) pa_nil)))
(pss_one (ps_ret (pe_c c_plan hr (by first | decide | assumption) rfl (pa_cons (pv 4) (pa_cons (pv 8) (pa_cons (pv 7) pa_nil))))))))))), ?_⟩
    refine ⟨by show 0 ≤ sizeLine; decide, fun fa hfa => ?_⟩
    have e1 := same_new (Same.refl H) hfa (o := .lst [])
    have h1 := h0.keep e1
    obtain ⟨fas, fac⟩ := h0.ne hfa
    refine ⟨_, rfl, by show 5 ≤ sizeLine; decide, fun q hq => ?_⟩
    have e2 := same_new e1 hq (o := .lst (fieldNames.map V.str))
    have h2 := h0.keep e2
    refine ⟨s, c, q, ns, fieldNames, rfl, h2, hl, SqL.of upd_same, by decide, by decide +kernel, fun an ys H3 hp han hys e3 h3 => ⟨_, _, rfl, ?_⟩⟩
    have e03 : SameX s H H3 := (same_sx e2).trans e3
    have fq : fa ≠ q := fun e => by rw [← e, upd_same] at hq; cases hq
    have fan : fa ≠ an := fun e => by rw [← e, upd_ne fq, upd_same] at han; cases han
    have ans : an ≠ s := (h2.ne han).1
    have fa3 : H3 fa = some (.lst []) := e3 _ _ ((upd_ne fq).trans upd_same) fas
    -- the fields
    refine ⟨_, rfl, _, rfl, s, c, ns, wide, rfl, h3, hl, by omega, by omega, fun d H4 hd e4 h4 => ?_⟩
    refine ⟨_, _, rfl, rfl, _, rfl, by omega, by omega, ?_⟩
    refine for_it walk_range (fun i σ H2 => SameX s H H2 ∧ StA H2 s c ns ∧ H2 an = some (.lst (ys.map V.str)) ∧ ∃ (fs : List FD) (fvs : List V), H2 fa = some (.lst fvs) ∧ Al (FdT K (Off fa (Off s H2))) fvs fs ∧ fs.map (·.nm) = ys.take i ∧
      ∃ x6 x7 x8 x9, σ = [some (.ref s), some (.int wide), some (.int many), some (.int far), some (.ref fa), some (.ref an), x6, x7, x8, x9])
      ⟨e03.trans e4, h4, e4 _ _ hys ans, [], [], e4 _ _ fa3 fas, Al.nil, rfl, none, none, none, none, rfl⟩ (fun _ _ _ _ _ => trivial) ?_ ?_
    · rintro i x σ H5' H5 hi ⟨e5, h5, an5, fs, fvs, fa5, al, hnm, x6, x7, x8, x9, rfl⟩ ⟨rfl, rfl⟩
      have yl : ys.length = 5 := hp.length_eq
      have hi5 : i < 5 := by
        have : i < (1 + (d : Int)).toNat := hi
        omega
      have hiy : i < ys.length := by omega
      have fl : fs.length ≤ 5 := by
        have := congrArg List.length hnm
        rw [List.length_map, List.length_take] at this
        omega
      refine ⟨_, rfl, .inl ⟨rfl, _, SqL.of fa5⟩, _, rfl, _, rfl, an, _, _, .str ys[i], rfl, rfl, SqL.of an5, ?_, ?_⟩
      · rw [Int.zero_add]
        exact atI_nat (by rw [List.getElem?_map, List.getElem?_eq_getElem hiy]; rfl)
      refine ⟨_, rfl, by show 3 ≤ sizeLine; decide, fun q2 hq2 => ?_⟩
      have e6 := same_new (Same.refl H5) hq2 (o := .lst [.str "many", .str "many", .str "one"])
      refine ⟨s, c, q2, ns, _, rfl, h5.keep e6, hl, (h5.ne hq2).1, .inl (SqL.of upd_same), by decide, by decide, fun d2 v H7 hd7 e7 h7 => ?_⟩
      obtain ⟨b, rfl⟩ : ∃ b : Bool, v = .str (sortS b) := by
        have m := List.mem_of_getElem? hd7
        simp only [List.mem_cons, List.not_mem_nil, or_false] at m
        rcases m with rfl | rfl | rfl
        · exact ⟨true, rfl⟩
        · exact ⟨true, rfl⟩
        · exact ⟨false, rfl⟩
      refine ⟨_, rfl, s, c, ns, 2, rfl, h7, hl, by decide, by decide, fun d3 H8 _ e8 h8 => ⟨rfl, ?_⟩⟩
      refine ⟨by show 3 ≤ sizeLine; decide, fun p hp8 => ?_⟩
      have e58 : SameX s H5 H8 := ((same_sx e6).trans e7).trans e8
      have fa8 := e58 _ _ fa5 fas
      have ps := (h8.ne hp8).1
      have pfa : p ≠ fa := fun e => by rw [e, fa8] at hp8; cases hp8
      have pan : p ≠ an := fun e => by rw [e, e58 _ _ an5 ans] at hp8; cases hp8
      refine ⟨fa, _, _, rfl, rfl, (upd_ne (Ne.symm pfa)).trans fa8, by rw [al.1]; exact Nat.lt_of_le_of_lt fl (by decide), ?_⟩
      refine ⟨((e5.trans e58).trans (same_sx (same_new (Same.refl H8) hp8))).putN hfa, (h8.keep (same_new (Same.refl H8) hp8)).put fas fac, ?_, fs ++ [⟨ys[i], b, decide (V.int d3 = V.int 0)⟩], _, upd_same, ?_, ?_, _, _, _, _, rfl⟩
      · rw [upd_ne (Ne.symm fan), upd_ne (Ne.symm pan)]
        exact e58 _ _ an5 ans
      · rw [off_upd fas, off_put]
        have e9 : Same (Off fa (Off s H5)) (Off fa (Off s (upd H8 p (.tup [.str ys[i], .str (sortS b), .bl (decide (V.int d3 = V.int 0))])))) := same_off ((e58.trans (same_sx (same_new (Same.refl H8) hp8))).off)
        exact (al.mono fun _ _ h => FdT.keep e9 h).snoc (Tu.tup (by rw [off_ne pfa, off_ne ps, upd_same]; rfl))
      · rw [List.map_append, hnm, List.take_succ, List.getElem?_eq_getElem hiy]
        rfl
    rintro σ H5 ⟨e5, h5, _, fs, fvs, fa5, al, hnm, x6, x7, x8, x9, rfl⟩
    have yl : ys.length = 5 := hp.length_eq
    have dl : d < 3 := by omega
    have fsl : fs.length = d + 1 := by
      have := congrArg List.length hnm
      rw [List.length_map, List.length_take] at this
      omega
    have ynd : ys.Nodup := hp.nodup_iff.mpr (by decide +kernel)
    have hfn : ∀ f ∈ fs, f.nm ∈ fieldNames := fun f hf => by
      have m : f.nm ∈ fs.map (·.nm) := List.mem_map_of_mem hf
      rw [hnm] at m
      exact hp.mem_iff.mp (List.mem_of_mem_take m)
    have fok : FsOk fs := ⟨by omega, by omega, fun f hf => (by decide +kernel : ∀ z ∈ fieldNames, wordB z = true) _ (hfn f hf), by rw [hnm]; exact ynd.sublist (List.take_sublist _ _)⟩
    have al5 : Al (FdT K (Off s H5)) fvs fs := al.mono fun _ _ h => FdT.keep off_same h
    refine ⟨_, rfl, _, rfl, s, c, ns, far, rfl, h5, hl, by omega, by omega, fun d2 H6 hd2 e6 h6 => ⟨_, _, rfl, rfl, by show 0 ≤ sizeLine; decide, fun ca hca => ⟨_, _, rfl, ?_⟩⟩⟩
    obtain ⟨cas, cac⟩ := h6.ne hca
    have e7 := same_new (Same.refl H6) hca (o := .lst [])
    -- the calls
    refine ⟨by show 5 ≤ sizeLine; decide, fun q3 hq3 => ?_⟩
    have e8 := same_new e7 hq3 (o := .lst (callNames.map V.str))
    refine ⟨_, rfl, _, rfl, _, _, rfl, rfl, s, c, ns, (many : Int) - 1, rfl, h6.keep e8, hl, by omega, by omega, fun d4 H9 hd4 e9 h9 => ?_⟩
    have e79 : SameX s H6 H9 := (same_sx e8).trans e9
    have caq : ca ≠ q3 := fun e => by rw [← e, upd_same] at hq3; cases hq3
    have ca9 : H9 ca = some (.lst []) := e9 _ _ ((upd_ne caq).trans upd_same) cas
    have qs : q3 ≠ s := ((h6.keep e7).ne hq3).1
    refine ⟨_, _, rfl, rfl, _, rfl, q3, _, rfl, SqL.of (e9 _ _ upd_same qs), fun q4 hq4 => ?_⟩
    obtain ⟨q4s, q4c⟩ := h9.ne hq4
    have ca4 : ca ≠ q4 := fun e => by rw [← e, ca9] at hq4; cases hq4
    have cut : cutV (callNames.map V.str) none (some (1 + (d4 : Int))) = (callNames.take (d4 + 1)).map V.str := by
      have e : HT.sIx (callNames.map V.str).length (callNames.map V.str).length (some (1 + (d4 : Int))) = min (1 + d4) (callNames.map V.str).length := by
        rw [show (1 + (d4 : Int)) = ((1 + d4 : Nat) : Int) by omega]
        exact HT.sIx_nat _ _ _
      unfold cutV
      rw [HT.sIx_none, e, List.drop_zero, Nat.sub_zero, show min (1 + d4) (callNames.map V.str).length = d4 + 1 from (by show min (1 + d4) 5 = d4 + 1; omega), List.map_take]
    have e10 : Same H9 (upd H9 q4 (.lst (cutV (callNames.map V.str) none (some (1 + (d4 : Int)))))) := same_new (Same.refl H9) hq4
    have e610 := e79.trans (same_sx e10)
    have e510 := e6.trans e610
    refine ⟨q4, rfl, ⟨_, SqL.of upd_same⟩, ?_⟩
    refine for_list (K := K) (a := q4) (xs := (callNames.take (d4 + 1)).map V.str) (fun i σ H2 => SameX s H5 H2 ∧ StA H2 s c ns ∧ H2 q4 = some (.lst ((callNames.take (d4 + 1)).map V.str)) ∧ ∃ (cs : List CD) (cvs : List V), H2 ca = some (.lst cvs) ∧
      Al (CdL K (Off ca (Off s H2))) cvs cs ∧ (∀ c ∈ cs, CdOk fs (d2 + 1) c) ∧ cs.map (·.nm) = (callNames.take (d4 + 1)).take i ∧ ∃ x6 x9, σ = [some (.ref s), some (.int wide), some (.int many), some (.int far), some (.ref fa), some (.ref an), x6, some (.int ((d2 + 1 : Nat) : Int)), some (.ref ca), x9])
      ⟨e510, h9.keep e10, (by rw [upd_same]; exact congrArg (fun l => some (HO.lst l)) cut), [], [], (upd_ne ca4).trans ca9, Al.nil, nofun, rfl, _, _, (by rw [show ((d2 + 1 : Nat) : Int) = 1 + (d2 : Int) by omega]; rfl)⟩ (fun i σ H2 _ h => SqL.of h.2.2.1) ?_ ?_
    · rintro i x σ H2 hx' ⟨e2, h2, q42, cs, cvs, ca2, al, cok, hnm, x6, x9, rfl⟩
      rw [List.getElem?_map] at hx'
      obtain ⟨z, hz, rfl⟩ := Option.map_eq_some_iff.mp hx'
      have zm : z ∈ callNames := List.mem_of_mem_take (List.mem_of_getElem? hz)
      have cl : cs.length ≤ 5 := by
        have := congrArg List.length hnm
        rw [List.length_map, List.length_take, List.length_take] at this
        have : callNames.length = 5 := rfl
        omega
      refine ⟨_, rfl, .inl ⟨rfl, _, SqL.of ca2⟩, _, rfl, _, rfl, _, rfl, by show 5 ≤ sizeLine; decide, fun q5 hq5 => ?_⟩
      have e3 := same_new (Same.refl H2) hq5 (o := .lst [.str "self", .str "new", .str "self", .str "new", .str "last"])
      refine ⟨s, c, q5, ns, _, rfl, h2.keep e3, hl, (h2.ne hq5).1, .inl (SqL.of upd_same), by decide, by decide, fun d5 v Ha hda ea ha => ?_⟩
      obtain ⟨hd, rfl, hhd⟩ : ∃ hd : Str, v = .str hd ∧ (hd = "self" ∨ hd = "new" ∨ hd = "last") := by
        have m := List.mem_of_getElem? hda
        simp only [List.mem_cons, List.not_mem_nil, or_false] at m
        rcases m with rfl | rfl | rfl | rfl | rfl
        · exact ⟨_, rfl, .inl rfl⟩
        · exact ⟨_, rfl, .inr (.inl rfl)⟩
        · exact ⟨_, rfl, .inl rfl⟩
        · exact ⟨_, rfl, .inr (.inl rfl)⟩
        · exact ⟨_, rfl, .inr (.inr rfl)⟩
      have e2a : SameX s H2 Ha := (same_sx e3).trans ea
      have e5a := e2.trans e2a
      have caa := e2a _ _ ca2 cas
      refine ⟨_, rfl, _, rfl, s, c, fa, ns, z, hd, d2 + 1, fvs, fs, rfl, ha, hl, ?_, al5.mono fun _ _ h => FdT.keep e5a.off h, by omega, by omega, fok.nd, by omega, by omega, (by decide +kernel : ∀ z ∈ callNames, wordB z = true) z zm, hhd, fun v cd Hb cn ch cdn cdok eb hb => ?_⟩
      · rw [off_ne fas]
        exact e5a _ _ fa5 fas
      have cab := eb _ _ caa cas
      have e2b := e2a.trans eb
      refine ⟨ca, cvs, v, rfl, rfl, cab, by rw [al.1]; exact Nat.lt_of_le_of_lt cl (by decide), ?_⟩
      have q4ca : q4 ≠ ca := Ne.symm ca4
      refine ⟨(e2.trans e2b).putN (noneX e6 cas hca), hb.put cas cac, (upd_ne q4ca).trans (e2b _ _ q42 q4s), cs ++ [cd], cvs ++ [v], upd_same, ?_, ?_, ?_, _, _, rfl⟩
      · rw [off_upd cas, off_put]
        exact (al.mono fun _ _ h => CdL.keep (same_off e2b.off) h).snoc (cdn.off (caa) ((off_ne cas).trans cab)).l
      · intro c' hc'
        rcases List.mem_append.mp hc' with h | h
        · exact cok c' h
        · rw [List.mem_singleton.mp h]
          exact cdok
      · rw [List.map_append, hnm, List.take_succ (i := i), hz, ← cn]
        rfl
    · rintro σ H2 ⟨e2, h2, q42, cs, cvs, ca2, al, cok, hnm, x6, x9, rfl⟩
      rw [List.length_map, List.take_length] at hnm
      have jl : (callNames.take (d4 + 1)).length = d4 + 1 := by
        rw [List.length_take]
        show min (d4 + 1) 5 = d4 + 1
        omega
      have cl : cs.length = d4 + 1 := by
        have := congrArg List.length hnm
        rw [List.length_map, jl] at this
        exact this
      refine ⟨_, rfl, .inl ⟨rfl, _, SqL.of ca2⟩, _, rfl, _, rfl, _, rfl, s, c, fa, ns, "build", "last", d2 + 1, fvs, fs, rfl, h2, hl, ?_, al5.mono fun _ _ h => FdT.keep e2.off h, by omega, by omega, fok.nd, by omega, by omega, by decide +kernel, .inr (.inr rfl), fun v cd Hb cn ch cdn cdok eb hb => ?_⟩
      · rw [off_ne fas]
        exact e2 _ _ fa5 fas
      have cab := eb _ _ ca2 cas
      refine ⟨ca, cvs, v, rfl, rfl, cab, by rw [al.1, cl]; exact Nat.lt_of_le_of_lt (by omega : _ ≤ 6) (by decide), ?_⟩
      have faca : fa ≠ ca := fun e => by
        have := noneX e6 cas hca
        rw [← e, fa5] at this
        cases this
      have e5b := e2.trans eb
      have e5c : SameX s H5 (upd Hb ca (.lst (cvs ++ [v]))) := e5b.putN (noneX e6 cas hca)
      have hc := hb.put (o := .lst (cvs ++ [v])) cas cac
      have hsc : upd Hb ca (.lst (cvs ++ [v])) s ≠ none := by
        obtain ⟨_, _, _, _, _, e⟩ := hc
        rw [e]
        exact nofun
      have alc : Al (CdL K (Off s (upd Hb ca (.lst (cvs ++ [v]))))) (cvs ++ [v]) (cs ++ [cd]) := by
        have : Al (CdL K (Off ca (Off s (upd Hb ca (.lst (cvs ++ [v])))))) (cvs ++ [v]) (cs ++ [cd]) := by
          rw [off_upd cas, off_put]
          exact (al.mono fun _ _ h => CdL.keep (same_off eb.off) h).snoc (cdn.off ca2 ((off_ne cas).trans cab)).l
        exact this.mono fun _ _ h => CdL.keep off_same h
      have nms : (cs ++ [cd]).map (·.nm) = callNames.take (d4 + 1) ++ (["build"] : List Str) := by
        rw [List.map_append, hnm, ← cn]
        rfl
      have kok : KdOk fs (d2 + 1) (cs ++ [cd]) := by
        refine ⟨fok, by omega, by omega, by rw [List.length_append]; exact Nat.le_add_left .., by rw [List.length_append, cl]; show d4 + 1 + 1 ≤ 6; omega, fun c' hc' => ?_, ?_⟩
        · rcases List.mem_append.mp hc' with h | h
          · exact cok c' h
          · rw [List.mem_singleton.mp h]
            exact cdok
        · rw [nms]
          exact ((by decide +kernel : (callNames ++ (["build"] : List Str)).Nodup)).sublist ((List.take_sublist _ _).append (List.Sublist.refl _))
      refine ⟨_, rfl, _, rfl, _, rfl, s, fa, ca, d2 + 1, fvs, cvs ++ [v], fs, cs ++ [cd], rfl, hsc, ?_, al5.mono fun _ _ h => FdT.keep e5c.off h, ?_, alc, kok, fun v' H' e' pa => ?_⟩
      · rw [off_ne fas]
        exact e5c _ _ fa5 fas
      · rw [off_ne cas, upd_same]
      · exact k v' H' fs (d2 + 1) (cs ++ [cd]) ((e5.trans e5c).trans (same_sx e')) (hc.keep e') kok (by omega) hfn (by omega) ⟨d4 + 1, by omega, nms⟩ ⟨cs, cd, rfl, ch⟩ pa
end
end MK
set_option Elab.async false
set_option linter.all false
set_option autoImplicit false
set_option maxRecDepth 100000
set_option maxHeartbeats 4000000
namespace MK
open PySem PySem.Spec PyProof.Rows L2
open C8 (Met pe_mt pe_mt0 Mak pe_mk)
local macro_rules | `(tactic| walk_at "x") => `(tactic| dsimp only [tSeq, tAsg, tRet, tDrop, tLst, tTup, tCons, tOp, tUn, tIfS])
theorem sc_alone : FnScope ["_law_row", "_law_name", "_law_content", "_law_word", "_law_deed", "_law_field"] ["_law_row", "_law_name", "_law_content", "_law_word"] (defScope s_alone) := ⟨rfl, rfl, rfl, by decide +kernel, rfl, by decide +kernel, by decide +kernel⟩
def aloneI (c : Int) (ds : List (Str × Str)) (f : Str) : Int := markedI c (marksOf ds f 1).held
theorem held_fold {f : Str} : ∀ (ds : List (Str × Str)) (m : Mk3) (c : Int), markedI c (ds.foldl (mkStep f 1) m).held = ds.foldl (fun c d => if d.2 = f then markedI c (markOf d.1 1) else c) (markedI c m.held)
  | [], _, _ => rfl
  | d :: ds, m, c => by
    rw [List.foldl_cons, List.foldl_cons, held_fold ds]
    congr 1
    unfold mkStep
    by_cases e : d.2 = f
    · rw [if_pos e, if_neg (fun z => z e)]
      dsimp only
      cases markOf d.1 1 <;> rfl
    · rw [if_neg e, if_pos e]
theorem alone_fold {c : Int} {ds : List (Str × Str)} {f : Str} : aloneI c ds f = ds.foldl (fun c d => if d.2 = f then markedI c (markOf d.1 1) else c) c := held_fold ds ⟨none, none, true⟩ c
def spAlone (K : PySem.W.Frag) : Sp := fun vs H Q _ => ∃ (v : V) (cd : CD) (f : Str) (c : Int), vs = [v, .str f, .int c, .int 1] ∧ CdL K H v cd ∧ (∀ d ∈ cd.deeds, d.1 ∈ ([("set" : Str), "clear", "add", "strike", "fresh"] : List Str)) ∧ ∀ H', Same H H' → Q (.int (aloneI c cd.deeds f)) H'
section
variable {P : Program} {w : World} {K : PySem.W.Frag} {mg : Str → Option Value} {base : Heap}
theorem ok_alone {f : Addr} {fd : FuncData} (F : DefX K mg "_law_alone" s_alone ["_law_row", "_law_name", "_law_content", "_law_word"] f fd) (T : Txt K mg) : Cal P w K mg base CX0 1 "_law_alone" (spAlone K) := by
  refine cal_mk F sc_alone (fun vs H Q E h => ?_) (fun cdv A outer sh H vs Q E hr h => ?_)
  · obtain ⟨v, cd, f, c, rfl, _⟩ := h
    rfl
  · obtain ⟨v, cd, fl, c, rfl, hcd, okd, q⟩ := h
    refine ⟨_, (pss_cons (ps_for PassesOwn.never rfl (pi_list (pe_ix ix_tup (pv 0) pe_int (fun _ _ => rfl))) (pg_tup (by rfl) (pgs_cons (pg_name (i := 4) sc_alone.nd rfl (Or.inl rfl)) (pgs_cons (pg_name (i := 5) sc_alone.nd rfl (Or.inl rfl)) pgs_nil)))
(pss_one (ps_if (pt_cut (PW.pt (pw_and (pt_cmpR op_eq (pv 5) (pv 1) (nomark _)) (pw_and1 (pt_cut (PW.pt (pw_or (pt_cmpR op_in_seq (pv 4) (pe_tup (pa_cons pe_str (pa_cons pe_str pa_nil))) (by rfl)) (pw_or1 (pt_cut (PW.pt (pw_and (pt_cmpR op_ne (pv 4) pe_str (nomark _)) (pw_and1 (pt_cmpR op_eq (pv 3) pe_int (nomark _))))))))))))))
(pss_one (ps_set (i := 2) sc_alone.nd rfl (Or.inl rfl) (pe_dget (hu_of hr) (pe_disp (pps_cons pe_str (pv 3) (pps_cons pe_str pe_int (pps_cons pe_str pe_int (pps_cons pe_str pe_int pps_nil)))) (by rfl) (by rfl) (fun z => by cases z) (by decide)) (pv 4) (fun _ _ => rfl))))
pss_nil)))
(pss_one (ps_ret (pv 2)))), ?_⟩
    obtain ⟨m', d', s', ds, ⟨u, rfl, hu⟩, h2, h3, h4, h5⟩ := hcd
    obtain ⟨da, rfl, hda⟩ := h3
    refine ⟨_, rfl, u, _, 3, .ref da, rfl, rfl, hu, rfl, da, rfl, ⟨_, SqL.of hda⟩, ?_⟩
    refine for_it (walk_list (K := K) (a := da) (xs := ds)) (fun j σ H2 => Same H H2 ∧ ∃ x5 x6, σ = [some (.ref u), some (.str fl), some (.int (aloneI c (cd.deeds.take j) fl)), some (.int 1), x5, x6]) ⟨Same.refl H, none, none, rfl⟩ (fun j σ H2 _ h => SqL.of (h.1 _ _ hda)) ?_ ?_
    · rintro j x σ H2 H3 hj ⟨e2, x5, x6, rfl⟩ ⟨rfl, hx⟩
      obtain ⟨⟨deed, name⟩, hp, tt, rfl, hT⟩ := h4.get hx
      have ef : aloneI c (cd.deeds.take (j + 1)) fl = if name = fl then markedI (aloneI c (cd.deeds.take j) fl) (markOf deed 1) else aloneI c (cd.deeds.take j) fl := by
        rw [alone_fold, alone_fold, List.take_succ, hp, List.foldl_append]
        rfl
      have hd := okd _ (List.mem_of_getElem? hp)
      rw [ef]
      generalize aloneI c (cd.deeds.take j) fl = m
      refine ⟨tt, _, rfl, same_t e2 hT, rfl, _, _, rfl, _, _, rfl, rfl, ?_⟩
      refine ⟨fun b H4 => b = (decide (name = fl) && !decide (deed = ("fresh" : Str))) ∧ Same H3 H4, ?_, ?_⟩
      · refine ⟨_, rfl, _, rfl, rfl, _, rfl, ite2 (fun g => ?_) (fun g => ?_)⟩
        · have g : name = fl := by simpa using g
          rw [decide_eq_true g, Bool.true_and]
          refine ⟨fun b H4 => b = !decide (deed = ("fresh" : Str)) ∧ Same H3 H4, ?_, fun b H4 h => h⟩
          refine ⟨_, rfl, by show 2 ≤ sizeLine; decide, fun p hp => ?_⟩
          have e4 : Same H3 (upd H3 p (.tup [.str "set", .str "clear"])) := same_new (Same.refl H3) hp
          refine ⟨p, _, rfl, .inr (SqT.of upd_same), rfl, rfl, _, rfl, ?_⟩
          rw [show ([.str "set", .str "clear"] : List V) = (["set", "clear"] : List Str).map V.str from rfl, inV_strs]
          refine ite2 (fun g2 => ⟨?_, e4⟩) (fun g2 => ?_)
          · have g2 : deed ∈ (["set", "clear"] : List Str) := of_decide_eq_true g2
            have : ¬ deed = "fresh" := fun e => by
              rw [e] at g2
              revert g2
              decide
            rw [decide_eq_false this]
            rfl
          · refine ⟨fun b H4 => b = !decide (deed = ("fresh" : Str)) ∧ Same H3 H4, ?_, fun b H4 h => h⟩
            refine ⟨_, rfl, rfl, _, rfl, ite2 (fun g3 => ?_) (fun g3 => ?_)⟩
            · refine ⟨_, rfl, rfl, _, rfl, ?_, e4⟩
              have g3 : ¬ deed = "fresh" := by simpa using g3
              rw [decide_eq_false g3]
              rfl
            · have g3 : deed = "fresh" := by simpa using g3
              exact ⟨by simp [g3], e4⟩
        · have g : ¬ name = fl := by simpa using g
          exact ⟨by simp [g], Same.refl H3⟩
      rintro b H4 ⟨rfl, e4⟩
      have e24 := e2.trans e4
      refine ite2 (fun g => ?_) (fun g => ?_)
      · rw [Bool.and_eq_true] at g
        have g1 : name = fl := of_decide_eq_true g.1
        have g2 : ¬ deed = "fresh" := by simpa using g.2
        rw [if_pos g1]
        intro p hp
        refine ⟨_, rfl, upd_same, [(.inr "set", .int 1), (.inr "clear", .int 0), (.inr "add", .int 1), (.inr "strike", .int 0)], rfl, by decide, ?_⟩
        have e5 : Same H4 (upd (upd H4 p (.dK [])) p (.dK (mergeK [] [((.inr "set" : L2.Key), V.int 1), (.inr "clear", .int 0), (.inr "add", .int 1), (.inr "strike", .int 0)]))) := fun a o ha => by
          have n : a ≠ p := ne_of_none ha hp
          rw [upd_ne n, upd_ne n]
          exact ha
        obtain ⟨i, hv, hm⟩ : ∃ i : Int, valV (mergeK [] [((.inr "set" : L2.Key), V.int 1), (.inr "clear", .int 0), (.inr "add", .int 1), (.inr "strike", .int 0)]) (.inr deed) = some (.int i) ∧ markedI m (markOf deed 1) = i := by
          have hd : deed ∈ ([("set" : Str), "clear", "add", "strike", "fresh"] : List Str) := hd
          simp only [List.mem_cons, List.not_mem_nil, or_false] at hd
          rcases hd with rfl | rfl | rfl | rfl | rfl
          · exact ⟨1, rfl, rfl⟩
          · exact ⟨0, rfl, rfl⟩
          · exact ⟨1, rfl, rfl⟩
          · exact ⟨0, rfl, rfl⟩
          · exact absurd rfl g2
        refine ⟨_, rfl, p, .int i, rfl, hv ▸ DGet.k (k := .inr deed) upd_same, ?_⟩
        rw [hm]
        exact ⟨e24.trans e5, _, _, rfl⟩
      · have : (if name = fl then markedI m (markOf deed 1) else m) = m := by
          by_cases g1 : name = fl
          · have g2 : deed = "fresh" := by simpa [g1] using g
            rw [if_pos g1, g2]
            rfl
          · rw [if_neg g1]
        rw [this]
        exact ⟨e24, _, _, rfl⟩
    · rintro σ H2 ⟨e2, x5, x6, rfl⟩
      rw [h4.1, List.take_length]
      exact ⟨_, rfl, q _ e2⟩
end
end MK
set_option Elab.async false
set_option linter.all false
set_option autoImplicit false
set_option maxRecDepth 100000
set_option maxHeartbeats 4000000
namespace MK
open PySem PySem.Spec PyProof.Rows L2
open C8 (Met pe_mt pe_mt0 Mak pe_mk)
local macro_rules | `(tactic| walk_at "x") => `(tactic| dsimp only [tSeq, tAsg, tRet, tDrop, tLst, tTup, tCons, tOp, tUn, tIfS])
theorem callOf_at {cs : List CD} {nm : Str} {c : CD} (h : callOf cs nm = some c) : ∃ i : Nat, cs[i]? = some c ∧ c.nm = nm := by
  obtain ⟨m, e⟩ := callOf_mem h
  obtain ⟨i, hi⟩ := List.mem_iff_getElem?.mp m
  exact ⟨i, hi, e⟩
theorem sc_row_of : FnScope ["_law_p", "_law_name", "_law_x"] ["_law_p", "_law_name"] (defScope s_row_of) := ⟨rfl, rfl, rfl, by decide +kernel, rfl, by decide +kernel, by decide +kernel⟩
/-- the law's plan, in what has no role: calls -/
def LpC (K : PySem.W.Frag) (B : Hp) (v : V) (cs : List CD) : Prop := ∃ (p l2 : Addr) (cvs : List V) (kvs : List (Key × V)), v = .ref p ∧ B p = some (.dK kvs) ∧ valV kvs (.inr "calls") = some (.ref l2) ∧ B l2 = some (.lst cvs) ∧ Al (CdL K B) cvs cs
def spRowOf (K : PySem.W.Frag) : Sp := fun vs H Q _ => ∃ (B : Hp) (pv : V) (nm : Str) (cs : List CD) (c : CD), vs = [pv, .str nm] ∧ Same B H ∧ LpC K B pv cs ∧ (cs.map (·.nm)).Nodup ∧ cs.length ≤ 6 ∧ callOf cs nm = some c ∧ ∀ H' v, Same H H' → CdL K B v c → Q v H'
section
variable {P : Program} {w : World} {K : PySem.W.Frag} {mg : Str → Option Value} {base : Heap}
theorem ok_rowof {f : Addr} {fd : FuncData} (F : DefX K mg "_law_row_of" s_row_of ["_law_p", "_law_name"] f fd) (T : Txt K mg) : Cal P w K mg base CX0 1 "_law_row_of" (spRowOf K) := by
  refine cal_mk F sc_row_of (fun vs H Q E h => ?_) (fun cdv A outer sh H vs Q E hr h => ?_)
  · obtain ⟨B, pv, nm, cs, c, rfl, _⟩ := h
    rfl
  · obtain ⟨B, pv, nm, cs, c, rfl, eB, ⟨p, l2, cvs, kvs, rfl, p1, p2, p3, p4⟩, nd, c6, hc, q⟩ := h
    have p1 := eB _ _ p1
    have p3 := eB _ _ p3
    refine ⟨_, (pss_one (ps_ret (pe_ix ix_list (pe_lc (own := [("_law_x", 2)]) (g := (gName 2)) rfl sc_row_of.nd (pi_list (pe_dget (hu_of hr) (pv 0) pe_str (fun _ _ => rfl))) (blkOk_by (own := [("_law_x", 2)]) (N := ["_law_p", "_law_name", "_law_x"]) (sc := defScope s_row_of) (by decide +kernel)) (fun _ _ _ _ _ => (pg_name (i := 2) sc_row_of.nd rfl (Or.inl rfl))) (fun _ _ _ _ _ => (pts_one (pt_cmpR op_eq (pe_ix (ix_tupK (K := K) rfl) (pv 2) pe_int (fun _ _ => rfl)) (pv 1) (nomark _)))) (fun _ _ _ _ _ => (pv 2))) pe_int (fun _ _ => rfl)))), ?_⟩
    obtain ⟨i0, hi0, en⟩ := callOf_at hc
    obtain ⟨v0, hv0, cd0⟩ := p4.get' hi0
    have lc : cvs.length = cs.length := p4.1
    have l0 : i0 < cs.length := (List.getElem?_eq_some_iff.mp hi0).1
    have hpd : DGet H p (.str "calls") (some (.ref l2)) := p2 ▸ DGet.k (k := .inr "calls") p1
    refine ⟨_, rfl, p, .ref l2, rfl, hpd, l2, rfl, ⟨_, SqL.of p3⟩, fun D hD => ?_⟩
    refine lc_it (walk_list (K := K) (a := l2) (xs := cvs)) (fun i H2 => Same H H2 ∧ H2 D = some (.lst (if i ≤ i0 then [] else [v0]))) ⟨same_new (Same.refl H) hD, by rw [upd_same, if_pos (Nat.zero_le _)]⟩ (fun i H2 _ h => SqL.of (h.1 _ _ p3)) ?_ ?_
    · rintro i v H3 H2 hi ⟨e2, d2⟩ ⟨rfl, hv⟩
      obtain ⟨c', hc', m', d', s', ds', ⟨u, rfl, hu⟩, _⟩ := p4.get hv
      refine ⟨rfl, ?_⟩
      have uniq : c'.nm = nm → i = i0 := fun e => by
        have h1 : (cs.map (·.nm))[i]? = some nm := by rw [List.getElem?_map, hc', ← e]; rfl
        have h2 : (cs.map (·.nm))[i0]? = some nm := by rw [List.getElem?_map, hi0, ← en]; rfl
        obtain ⟨g1, g2⟩ := List.getElem?_eq_some_iff.mp h1
        obtain ⟨g3, g4⟩ := List.getElem?_eq_some_iff.mp h2
        rcases Nat.lt_trichotomy i i0 with h | h | h
        · exact absurd (g2.trans g4.symm) (List.pairwise_iff_getElem.mp nd i i0 g1 g3 h)
        · exact h
        · exact absurd (g4.trans g2.symm) (List.pairwise_iff_getElem.mp nd i0 i g3 g1 h)
      refine ⟨_, rfl, u, _, 0, .str c'.nm, rfl, rfl, same_t (eB.trans e2) hu, rfl, _, rfl, rfl, _, rfl, ite2 (fun g => ?_) (fun g => ?_)⟩
      · have e := uniq (V.str.inj (of_decide_eq_true g))
        subst e
        rw [hv0] at hv
        cases hv
        rw [if_pos (Nat.le_refl _)] at d2
        refine ⟨_, rfl, _, d2, by show 0 < sizeLine; decide, fun b o hb => ?_, ?_⟩
        · rw [upd_ne (ne_of_none hb hD)]
          exact e2 _ _ hb
        · rw [upd_same, if_neg (by omega)]
          rfl
      · refine ⟨e2, ?_⟩
        rw [d2]
        have ne : i ≠ i0 := fun e => by
          subst e
          rw [hi0] at hc'
          cases hc'
          exact g (by rw [en]; exact decide_eq_true rfl)
        by_cases h : i ≤ i0
        · rw [if_pos h, if_pos (by omega)]
        · rw [if_neg h, if_neg (by omega)]
    · rintro H2 ⟨e2, d2⟩
      rw [if_neg (by omega)] at d2
      exact ⟨D, _, _, v0, rfl, rfl, SqL.of d2, rfl, q H2 v0 e2 cd0⟩
end
theorem LpC.keep {K : PySem.W.Frag} {H H' : Hp} {v : V} {cs : List CD} (e : Same H H') (h : LpC K H v cs) : LpC K H' v cs := by
  obtain ⟨p, l2, cvs, kvs, h0, h1, h2, h3, h4⟩ := h
  exact ⟨p, l2, cvs, kvs, h0, e _ _ h1, h2, e _ _ h3, h4.mono fun _ _ h => CdL.keep e h⟩
end MK
set_option Elab.async false
set_option linter.all false
set_option autoImplicit false
set_option maxRecDepth 100000
set_option maxHeartbeats 4000000
namespace MK
open PySem PySem.Spec PyProof.Rows L2
open C8 (Met pe_mt pe_mt0 Mak pe_mk)
local macro_rules | `(tactic| walk_at "x") => `(tactic| dsimp only [tSeq, tAsg, tRet, tDrop, tLst, tTup, tCons, tOp, tUn, tIfS])
theorem sc_rules : FnScope ["_law_state", "_law_p", "_law_x", "_law_names", "_law_found", "_law_k", "_law_a", "_law_b"] ["_law_state", "_law_p"] (defScope s_rules) := ⟨rfl, rfl, rfl, by decide +kernel, rfl, by decide +kernel, by decide +kernel⟩
/-- a drawn rule, as its texts -/
def RlOk (cs : List CD) (zs : List Str) : Prop := (∃ a ∈ cs.map (·.nm), zs = ([("once" : Str), a] : List Str)) ∨ ∃ t a b, (t = ("ahead" : Str) ∨ t = ("bar" : Str)) ∧ a ∈ cs.map (·.nm) ∧ b ∈ cs.map (·.nm) ∧ a ≠ b ∧ zs = ([t, a, b] : List Str)
abbrev RuT (K : PySem.W.Frag) (H : Hp) (v : V) (zs : List Str) : Prop := Tu K H v (zs.map V.str)
def spLRules (K : PySem.W.Frag) : Sp := fun vs H Q _ => ∃ (s c : Addr) (ns : List Int) (pq : V) (fs : List FD) (n : Nat) (cs : List CD), vs = [.ref s, pq] ∧ StA H s c ns ∧ ns.length ≤ 63 ∧ LpC K (Off s H) pq cs ∧ KdOk fs n cs ∧
  ∀ H' ra rvs rs, SameX s H H' → StA H' s c ns → H ra = none → Off s H' ra = some (.lst rvs) → Al (RuT K (Off s H')) rvs rs → (∀ r ∈ rs, RlOk cs r) → rs.length ≤ 3 → Q (.ref ra) H'
section
variable {P : Program} {w : World} {K : PySem.W.Frag} {mg : Str → Option Value} {base : Heap}
theorem ok_lrules {f : Addr} {fd : FuncData} (F : DefX K mg "_law_rules" s_rules ["_law_state", "_law_p"] f fd) (T : Txt K mg) (c_take : Cal P w K mg base CX0 2 "_law_take" spTake) (c_one : Cal P w K mg base CX0 3 "_law_one" (spOne K)) :
    Cal P w K mg base CX0 4 "_law_rules" (spLRules K) := by
  refine cal_mk F sc_rules (fun vs H Q E h => ?_) (fun cdv A outer sh H vs Q E hr h => ?_)
  · obtain ⟨s, c, ns, pq, _, _, _, rfl, _⟩ := h
    rfl
  · obtain ⟨s, c, ns, pq, fs, n, cs, rfl, h0, hl, pC, ok, q⟩ := h
    refine ⟨_, (pss_cons (ps_par (i := 3) (j := 4) (by rfl) sc_rules.nd rfl rfl (by decide) rfl rfl (pa_cons (pe_lc (own := [("_law_x", 2)]) (g := (gName 2)) (tt := tYes) rfl sc_rules.nd (pi_list (pe_dget (hu_of hr) (pv 1) pe_str (fun _ _ => rfl))) (blkOk_by (own := [("_law_x", 2)]) (N := ["_law_state", "_law_p", "_law_x", "_law_names", "_law_found", "_law_k", "_law_a", "_law_b"]) (sc := defScope s_rules) (by decide +kernel)) (fun _ _ _ _ _ => (pg_name (i := 2) sc_rules.nd rfl (Or.inl rfl))) (fun _ _ _ _ _ => pts_nil) (fun _ _ _ _ _ => (pe_ix (ix_tupK (K := K) rfl) (pv 2) pe_int (fun _ _ => rfl)))) (pa_cons (pe_lst pa_nil) pa_nil)) (by rfl))
(pss_cons (ps_for PassesOwn.never rfl (pi_range1 (by rfl) T.range (pa_cons (pe_c c_take hr (by first | decide | assumption) rfl (pa_cons (pv 0) (pa_cons pe_int pa_nil))) pa_nil)) (pg_name (i := 5) sc_rules.nd rfl (Or.inl rfl))
(pss_cons (ps_par (i := 6) (j := 7) (by rfl) sc_rules.nd rfl rfl (by decide) rfl rfl (pa_cons (pe_c c_one hr (by first | decide | assumption) rfl (pa_cons (pv 0) (pa_cons (pv 3) pa_nil))) (pa_cons (pe_c c_one hr (by first | decide | assumption) rfl (pa_cons (pv 0) (pa_cons (pv 3) pa_nil))) pa_nil)) (by rfl))
(pss_one (ps_if (pt_cmpR op_eq (pv 6) (pv 7) (nomark _))
(pss_one (ps_expr (pe_bm PySem.F.plainAttrs_list PySem.F.slot_list_append PySem.F.type_list_append mt_append (pv 4) (pa_cons (pe_tup (pa_cons pe_str (pa_cons (pv 6) pa_nil))) pa_nil))))
(pss_one (ps_expr (pe_bm PySem.F.plainAttrs_list PySem.F.slot_list_append PySem.F.type_list_append mt_append (pv 4) (pa_cons (pe_tup (pa_cons (pe_c c_one hr (by first | decide | assumption) rfl (pa_cons (pv 0) (pa_cons (pe_lst (pa_cons pe_str (pa_cons pe_str pa_nil))) pa_nil))) (pa_cons (pv 6) (pa_cons (pv 7) pa_nil)))) pa_nil))))))))
(pss_one (ps_ret (pv 4))))), ?_⟩
    obtain ⟨p, l2, cvs, kvs, rfl, p1, p2, p3, p4⟩ := id pC
    have nS : ∀ {a : Addr} {o : HO}, Off s H a = some o → a ≠ s := fun h e => by rw [e, off_s] at h; cases h
    have lcs : cvs.length = cs.length := p4.1
    have c0 := ok.cpos
    have c6 := ok.cle
    have hpd : DGet H p (.str "calls") (some (.ref l2)) := p2 ▸ DGet.k (k := .inr "calls") (off_same _ _ p1)
    refine ⟨_, rfl, p, .ref l2, rfl, hpd, l2, rfl, ⟨cvs, SqL.of (off_same _ _ p3)⟩, fun la hla => ?_⟩
    refine lc_valS (walk_list (K := K) (a := l2) (xs := cvs)) (ys := cs.map fun c => V.str c.nm) (by rw [List.length_map, lcs]) (by omega) hla (fun H' e => SqL.of (e _ _ (off_same _ _ p3))) (fun i x y H2 H3 R hi hy e hY k => ?_) fun H1 e1 hD1 => ?_
    · obtain ⟨rfl, hx⟩ := hY
      obtain ⟨c, hc, mv, dv, sv, ds, ⟨ca, rfl, c1⟩, _⟩ := p4.get hx
      rw [List.getElem?_map, hc] at hy
      cases hy
      exact ⟨rfl, _, rfl, ca, _, 0, .str c.nm, rfl, rfl, same_t (off_same.trans e) c1, rfl, k _ (Same.refl _)⟩
    obtain ⟨las, lac⟩ := h0.ne hla
    have h1 := h0.keep e1
    refine ⟨by show 0 ≤ sizeLine; decide, fun ra hra => ?_⟩
    obtain ⟨ras, rac⟩ := h1.ne hra
    have ra0 : H ra = none := none_of e1 hra
    have e2 := same_new e1 hra (o := .lst [])
    have lara : la ≠ ra := fun e => by rw [← e, hD1] at hra; cases hra
    have hD2 : upd H1 ra (.lst []) la = some (.lst (cs.map fun c => V.str c.nm)) := (upd_ne lara).trans hD1
    have hR2 : upd H1 ra (.lst []) ra = some (.lst []) := upd_same
    generalize upd H1 ra (.lst []) = H2 at e2 hD2 hR2
    have h2 := h0.keep e2
    refine ⟨_, _, rfl, ?_⟩
    refine ⟨_, rfl, s, c, ns, 4, rfl, h2, hl, by decide, by decide, fun d H3 hd e3 h3 => ?_⟩
    refine ⟨(d : Int), rfl, by omega, by omega, ?_⟩
    have nmw : ∀ z ∈ cs.map (·.nm), z.length ≤ sizeLine := fun z hz => by
      obtain ⟨c, hc, rfl⟩ := List.mem_map.mp hz
      exact word_sz (ok.calls c hc).word
    refine for_it walk_range (fun i σ Hi => SameX s H Hi ∧ StA Hi s c ns ∧ Hi la = some (.lst (cs.map fun c => V.str c.nm)) ∧ ∃ (rs : List (List Str)) (rvs : List V) (x5 x6 x7 : Option V), σ = [some (.ref s), some (.ref p), none, some (.ref la), some (.ref ra), x5, x6, x7] ∧ Hi ra = some (.lst rvs) ∧ Al (RuT K (Off ra (Off s Hi))) rvs rs ∧ (∀ r ∈ rs, RlOk cs r) ∧ rs.length ≤ i)
      ⟨(same_sx e2).trans e3, h3, e3 _ _ hD2 las, [], [], _, _, _, rfl, e3 _ _ hR2 ras, Al.nil, nofun, Nat.le_refl _⟩ (fun _ _ _ _ _ => trivial) ?_ ?_
    · rintro i x σ H4' H4 hi ⟨e4, h4, la4, rs, rvs, x5, x6, x7, rfl, r4, al, rok, rl⟩ ⟨rfl, rfl⟩
      have hi4 : i < 4 := by
        have : i < d := hi
        omega
      have nl : (cs.map fun c => V.str c.nm).length = cs.length := List.length_map ..
      refine ⟨_, rfl, _, rfl, s, c, la, ns, _, rfl, h4, hl, las, .inl (SqL.of la4), by omega, by omega, fun d1 v1 H5 hd1 e5 h5 => ?_⟩
      refine ⟨_, rfl, _, rfl, s, c, la, ns, _, rfl, h5, hl, las, .inl (SqL.of (e5 _ _ la4 las)), by omega, by omega, fun d2 v2 H6 hd2 e6 h6 => ?_⟩
      rw [List.getElem?_map] at hd1 hd2
      obtain ⟨c1, hc1, rfl⟩ := Option.map_eq_some_iff.mp hd1
      obtain ⟨c2, hc2, rfl⟩ := Option.map_eq_some_iff.mp hd2
      have m1 : c1.nm ∈ cs.map (·.nm) := List.mem_map_of_mem (List.mem_of_getElem? hc1)
      have m2 : c2.nm ∈ cs.map (·.nm) := List.mem_map_of_mem (List.mem_of_getElem? hc2)
      have e46 := e5.trans e6
      have al6 : Al (RuT K (Off ra (Off s H6))) rvs rs := al.mono fun _ _ h => Tu.keep (same_off e46.off) h
      have rlv : rvs.length < 1000 := by have := al.1; omega
      refine ⟨_, _, rfl, ?_⟩
      -- the rule, put on the list
      have put : ∀ (H7 : Hp) (t : Addr) (zs : List Str), SameX s H6 H7 → StA H7 s c ns → RlOk cs zs → H7 t = none → ∃ rs rvs' x5 x6 x7, [some (V.ref s), some (.ref p), none, some (.ref la), some (.ref ra), some (.int (0 + (i : Int))), some (.str c1.nm), some (.str c2.nm)] = [some (V.ref s), some (.ref p), none, some (.ref la), some (.ref ra), x5, x6, x7] ∧
          upd (upd H7 t (.tup (zs.map V.str))) ra (.lst (rvs ++ [.ref t])) ra = some (.lst rvs') ∧ Al (RuT K (Off ra (Off s (upd (upd H7 t (.tup (zs.map V.str))) ra (.lst (rvs ++ [.ref t])))))) rvs' rs ∧ (∀ r ∈ rs, RlOk cs r) ∧ rs.length ≤ i + 1 := fun H7 t zs e7 h7 okz ht => by
        have r7 := (e46.trans e7) _ _ r4 ras
        have tra : t ≠ ra := fun e => by rw [e, r7] at ht; cases ht
        obtain ⟨ts, _⟩ := h7.ne ht
        refine ⟨rs ++ [zs], rvs ++ [.ref t], _, _, _, rfl, upd_same, ?_, ?_, ?_⟩
        · rw [off_upd ras, off_put]
          refine Al.snoc ?_ ?_
          · exact al6.mono fun _ _ h => Tu.keep (same_off (e7.trans (same_sx (same_new (Same.refl H7) ht))).off) h
          · exact Tu.tup (by rw [off_ne tra, off_ne ts, upd_same])
        · intro r hr
          rcases List.mem_append.mp hr with h | h
          · exact rok r h
          · rw [List.mem_singleton.mp h]
            exact okz
        · rw [List.length_append]
          exact Nat.succ_le_succ rl
      have stp : ∀ (H7 : Hp) (t : Addr) (o : HO), SameX s H6 H7 → StA H7 s c ns → H7 t = none → SameX s H (upd (upd H7 t o) ra (.lst (rvs ++ [.ref t]))) ∧ StA (upd (upd H7 t o) ra (.lst (rvs ++ [.ref t]))) s c ns ∧ upd (upd H7 t o) ra (.lst (rvs ++ [.ref t])) la = some (.lst (cs.map fun c => V.str c.nm)) := fun H7 t o e7 h7 ht => by
        obtain ⟨ts, tc⟩ := h7.ne ht
        have la7 := (e46.trans e7) _ _ la4 las
        have tla : t ≠ la := fun e => by rw [e, la7] at ht; cases ht
        have t0 : H t = none := by
          cases z : H t with
          | none => rfl
          | some u => rw [((e4.trans e46).trans e7) _ _ z ts] at ht; cases ht
        exact ⟨(((e4.trans e46).trans e7).putN t0).putN ra0, (h7.put ts tc).put ras rac, (upd_ne lara).trans ((upd_ne (Ne.symm tla)).trans la7)⟩
      have r6 := e46 _ _ r4 ras
      refine ⟨_, rfl, _, rfl, rfl, _, rfl, ite2 (fun g => ?_) (fun g => ?_)⟩
      · have e := V.str.inj (of_decide_eq_true g)
        refine ⟨_, rfl, .inl ⟨rfl, _, SqL.of r6⟩, _, rfl, by show 2 ≤ sizeLine; decide, fun t ht => ?_⟩
        have r7 := same_new (Same.refl H6) ht (o := .tup [.str "once", .str c1.nm]) _ _ r6
        refine ⟨ra, _, _, rfl, rfl, r7, Nat.lt_of_lt_of_le rlv (by decide), ?_⟩
        obtain ⟨k1, k2, k3⟩ := stp H6 t (.tup [.str "once", .str c1.nm]) (SameX.refl s H6) h6 ht
        exact ⟨k1, k2, k3, put H6 t [("once" : Str), c1.nm] (SameX.refl s H6) h6 (.inl ⟨_, m1, rfl⟩) ht⟩
      · have ne : c1.nm ≠ c2.nm := fun e => g (decide_eq_true (by rw [e]))
        refine ⟨_, rfl, .inl ⟨rfl, _, SqL.of r6⟩, _, rfl, by show 2 ≤ sizeLine; decide, fun lb hlb => ?_⟩
        have e7 := same_new (Same.refl H6) hlb (o := .lst [.str "ahead", .str "bar"])
        have h7 := h6.keep e7
        refine ⟨s, c, lb, ns, _, rfl, h7, hl, (h6.ne hlb).1, .inl (SqL.of upd_same), by decide, by decide, fun d3 v3 H8 hd3 e8 h8 => ?_⟩
        have e68 := (same_sx e7).trans e8
        obtain ⟨tg, rfl, htg⟩ : ∃ tg : Str, v3 = .str tg ∧ (tg = ("ahead" : Str) ∨ tg = ("bar" : Str)) := by
          have m := List.mem_of_getElem? hd3
          simp only [List.mem_cons, List.not_mem_nil, or_false] at m
          rcases m with rfl | rfl
          · exact ⟨_, rfl, .inl rfl⟩
          · exact ⟨_, rfl, .inr rfl⟩
        refine ⟨_, rfl, _, rfl, by show 3 ≤ sizeLine; decide, fun t ht => ?_⟩
        have r9 := same_new (Same.refl H8) ht (o := .tup [.str tg, .str c1.nm, .str c2.nm]) _ _ (e68 _ _ r6 ras)
        refine ⟨ra, _, _, rfl, rfl, r9, Nat.lt_of_lt_of_le rlv (by decide), ?_⟩
        obtain ⟨k1, k2, k3⟩ := stp H8 t (.tup [.str tg, .str c1.nm, .str c2.nm]) e68 h8 ht
        exact ⟨k1, k2, k3, put H8 t [tg, c1.nm, c2.nm] e68 h8 (.inr ⟨_, _, _, htg, m1, m2, ne, rfl⟩) ht⟩
    · rintro σ H4 ⟨e4, h4, la4, rs, rvs, x5, x6, x7, rfl, r4, al, rok, rl⟩
      refine ⟨_, rfl, ?_⟩
      have hd' : rs.length ≤ d := rl
      refine q H4 ra rvs rs e4 h4 ra0 ((off_ne ras).trans r4) (al.mono fun _ _ h => Tu.keep off_same h) rok (by omega)
end
end MK
set_option Elab.async false
set_option linter.all false
set_option autoImplicit false
set_option maxRecDepth 100000
set_option maxHeartbeats 4000000
namespace MK
open PySem PySem.Spec PyProof.Rows L2
local macro_rules | `(tactic| walk_at "x") => `(tactic| dsimp only [tSeq, tAsg, tRet, tDrop, tLst, tTup, tCons, tOp, tUn, tIfS])
theorem sc_same : FnScope ["_law_found", "_law_due", "_law_a", "_law_b"] ["_law_found", "_law_due"] (defScope s_same) := ⟨rfl, rfl, rfl, by decide +kernel, rfl, by decide +kernel, by decide +kernel⟩
def spSame (K : PySem.W.Frag) (n : Nat) : Sp := fun vs H Q _ => ∃ x y, vs = [x, y] ∧ Sm K H n x y ∧ ∀ H', Same H H' → Q (.bl true) H'
section
variable {P : Program} {w : World} {K : PySem.W.Frag} {mg : Str → Option Value} {base : Heap}
theorem any2 {t a b : String} {r1 r2 : Bool} (h1 : kitB t a = some r1) (h2 : kitB t b = some r2) : PySem.W.kitAny K (.type t) [.type a, .type b] = some (r1 || r2) := by
  refine kitAny_cons (kit_ty h1) (fun e => ?_) (fun e => by rw [e]; rfl)
  refine kitAny_cons (kit_ty h2) (fun e2 => ?_) (fun e2 => by rw [e2, Bool.or_true])
  rw [e, e2]
  rfl
theorem any4 {t a b c d : String} (h1 : kitB t a = some false) (h2 : kitB t b = some false) (h3 : kitB t c = some false) (h4 : kitB t d = some false) : PySem.W.kitAny K (.type t) [.type a, .type b, .type c, .type d] = some false :=
  kitAny_cons (kit_ty h1) (fun _ => kitAny_cons (kit_ty h2) (fun _ => kitAny_cons (kit_ty h3) (fun _ => kitAny_cons (kit_ty h4) (fun _ => rfl) nofun) nofun) nofun) nofun
/-- what the last rows of it see of flat things -/
structure FlatT (K : PySem.W.Frag) (H : Hp) (x y : V) (t : String) : Prop where
  tx : TyX K H x (.type t)
  ty : TyX K H y (.type t)
  l : kitB t "list" = some false
  u : kitB t "tuple" = some false
  i : (kitB t "int" = some false ∧ kitB t "bool" = some false) ∨ (kitB t "int" = some true ∧ ∃ b, kitB t "bool" = some b)
  eq : ∀ H', Same H H' → ∀ Q : VK, Q (.bl true) H' → (rEq x y H' Q ∨ ∃ a b kvs, x = .ref a ∧ y = .ref b ∧ H' a = some (.dK kvs) ∧ H' b = some (.dK kvs) ∧ (kvs.map (·.1)).Nodup ∧ (∀ p ∈ kvs, flatB p.2 = true) ∧ Q (.bl true) H')
theorem eq_refl {x : V} {H : Hp} {Q : VK} (h : scal x x = true) (q : Q (.bl true) H) : rEq x x H Q := ⟨h, by rw [decide_eq_true rfl]; exact q⟩
theorem flat_t {H : Hp} {x y : V} (h : Flat H x y) : ∃ t, FlatT K H x y t := by
  rcases h with ⟨rfl, h⟩ | ⟨a, b, kvs, rfl, rfl, ha, hb, hd, hv⟩
  · rcases h with rfl | ⟨b, rfl⟩ | ⟨i, rfl⟩ | ⟨z, rfl⟩
    · exact ⟨"NoneType", .base .non, .base .non, by decide +kernel, by decide +kernel, .inl ⟨by decide +kernel, by decide +kernel⟩, fun H' _ Q q => .inl (eq_refl rfl q)⟩
    · exact ⟨"bool", .base (.bl b), .base (.bl b), by decide +kernel, by decide +kernel, .inr ⟨by decide +kernel, true, by decide +kernel⟩, fun H' _ Q q => .inl (eq_refl rfl q)⟩
    · exact ⟨"int", .base (.int i), .base (.int i), by decide +kernel, by decide +kernel, .inr ⟨by decide +kernel, false, by decide +kernel⟩, fun H' _ Q q => .inl (eq_refl rfl q)⟩
    · exact ⟨"str", .base (.str z), .base (.str z), by decide +kernel, by decide +kernel, .inl ⟨by decide +kernel, by decide +kernel⟩, fun H' _ Q q => .inl (eq_refl rfl q)⟩
  · exact ⟨"dict", .base (.dK ha), .base (.dK hb), by decide +kernel, by decide +kernel, .inl ⟨by decide +kernel, by decide +kernel⟩, fun H' e Q q => .inr ⟨a, b, kvs, rfl, rfl, e _ _ ha, e _ _ hb, hd, hv, q⟩⟩
theorem ok_same0 {f : Addr} {fd : FuncData} (F : DefX K mg "_law_same" s_same ["_law_found", "_law_due"] f fd) (T : Txt K mg) (n k : Nat) (sp' : Sp) (c_same : Cal P w K mg base CX0 k "_law_same" sp') (hk : k ≤ n) (hsp : ∀ m, n = m + 1 → sp' = spSame K m) :
    Cal P w K mg base CX0 (n + 1) "_law_same" (spSame K n) := by
  refine cal_mk F sc_same (fun vs H Q E h => ?_) (fun cdv A outer s H vs Q E hr h => ?_)
  · obtain ⟨x, y, rfl, _⟩ := h
    rfl
  · obtain ⟨x, y, rfl, h, q⟩ := h
    refine ⟨_, (pss_cons (ps_if (pt_val (pe_callB call_isiT (by rfl) T.isinstance (by decide +kernel) (pa_cons (pv 1) (pa_cons (pe_tup (pa_cons (pe_tyv (n := "list") (by rfl) T.list (by decide +kernel)) (pa_cons (pe_tyv (n := "tuple") (by rfl) T.tuple (by decide +kernel)) pa_nil))) pa_nil))))
(pss_cons (ps_if (pt_cut (PW.pt (pw_or (pt_cmpR op_ne (pe_callB call_isi (by rfl) T.isinstance (by decide +kernel) (pa_cons (pv 0) (pa_cons (pe_tyv (n := "list") (by rfl) T.list (by decide +kernel)) pa_nil))) (pe_callB call_isi (by rfl) T.isinstance (by decide +kernel) (pa_cons (pv 1) (pa_cons (pe_tyv (n := "list") (by rfl) T.list (by decide +kernel)) pa_nil))) (nomark _)) (pw_or1 (pt_cmpR op_ne (pe_callB call_isi (by rfl) T.isinstance (by decide +kernel) (pa_cons (pv 0) (pa_cons (pe_tyv (n := "tuple") (by rfl) T.tuple (by decide +kernel)) pa_nil))) (pe_callB call_isi (by rfl) T.isinstance (by decide +kernel) (pa_cons (pv 1) (pa_cons (pe_tyv (n := "tuple") (by rfl) T.tuple (by decide +kernel)) pa_nil))) (nomark _))))))
(pss_one (ps_ret pe_bl))
pss_nil)
(pss_one (ps_ret (pe_cut (pe_and (pe_cmpR op_eq (pe_callB call_len_seq (by rfl) T.len (by decide +kernel) (pa_cons (pv 0) pa_nil)) (pe_callB call_len_seq (by rfl) T.len (by decide +kernel) (pa_cons (pv 1) pa_nil)) (nomark _)) (pe_one (pe_callB (cr_all rfl) (by rfl) T.all (by decide +kernel) (pa_cons (pe_lc (own := [("_law_a", 2), ("_law_b", 3)]) (g := (gTup K 2 (gCons (gName 2) (gCons (gName 3) gNil)))) (tt := tYes) rfl sc_same.nd (RZ.pi_zipA (by rfl) T.zip (pa_cons (pv 0) (pa_cons (pv 1) pa_nil))) (blkOk_by (own := [("_law_a", 2), ("_law_b", 3)]) (N := ["_law_found", "_law_due", "_law_a", "_law_b"]) (sc := defScope s_same) (by decide +kernel)) (fun _ _ _ _ _ => (pg_tup (by rfl) (pgs_cons (pg_name (i := 2) sc_same.nd rfl (Or.inl rfl)) (pgs_cons (pg_name (i := 3) sc_same.nd rfl (Or.inl rfl)) pgs_nil)))) (fun _ _ _ _ _ => pts_nil) (fun _ _ _ _ _ => (pe_c c_same hr (by first | decide | assumption) rfl (pa_cons (pv 2) (pa_cons (pv 3) pa_nil))))) pa_nil))))))))
pss_nil)
(pss_cons (ps_if (pt_val (pe_callB call_isi (by rfl) T.isinstance (by decide +kernel) (pa_cons (pv 1) (pa_cons (pe_tyv (n := "int") (by rfl) T.int (by decide +kernel)) pa_nil))))
(pss_one (ps_ret (pe_cut (pe_and (pe_callB call_isi (by rfl) T.isinstance (by decide +kernel) (pa_cons (pv 0) (pa_cons (pe_tyv (n := "int") (by rfl) T.int (by decide +kernel)) pa_nil))) (pe_and (pe_cmpR op_eq (pe_callB call_isi (by rfl) T.isinstance (by decide +kernel) (pa_cons (pv 0) (pa_cons (pe_tyv (n := "bool") (by rfl) T.bool (by decide +kernel)) pa_nil))) (pe_callB call_isi (by rfl) T.isinstance (by decide +kernel) (pa_cons (pv 1) (pa_cons (pe_tyv (n := "bool") (by rfl) T.bool (by decide +kernel)) pa_nil))) (nomark _)) (pe_one (pe_cmpR (OpR.or op_eq (op_eq_dict hr.units0)) (pv 0) (pv 1) (nomark _))))))))
pss_nil)
(pss_one (ps_ret (pe_cut (pe_and (pe_cmpR op_is_bl (pe_callB call_isiT (by rfl) T.isinstance (by decide +kernel) (pa_cons (pv 0) (pa_cons (pe_tup (pa_cons (pe_tyv (n := "bool") (by rfl) T.bool (by decide +kernel)) (pa_cons (pe_tyv (n := "int") (by rfl) T.int (by decide +kernel)) (pa_cons (pe_tyv (n := "list") (by rfl) T.list (by decide +kernel)) (pa_cons (pe_tyv (n := "tuple") (by rfl) T.tuple (by decide +kernel)) pa_nil))))) pa_nil))) pe_bl (nomark _)) (pe_one (pe_cmpR (OpR.or op_eq (op_eq_dict hr.units0)) (pv 0) (pv 1) (nomark _))))))))), ?_⟩
    have spl : Flat H x y ∨ ∃ m, n = m + 1 ∧ ∃ a b xs ys, x = V.ref a ∧ y = V.ref b ∧ ((SqL K H a xs ∧ SqL K H b ys) ∨ (SqT K H a xs ∧ SqT K H b ys)) ∧ xs.length = ys.length ∧ xs.length < 100000 ∧ ∀ (i : Nat) x y, xs[i]? = some x → ys[i]? = some y → Sm K H m x y := by
      cases n with
      | zero => exact .inl h
      | succ m =>
        rcases h with h | h
        · exact .inl h
        · exact .inr ⟨m, rfl, h⟩
    refine ⟨_, rfl, by show 2 ≤ sizeLine; decide, fun p hp => ?_⟩
    have e1 : Same H (upd H p (.tup [.ty "list", .ty "tuple"])) := same_new (Same.refl H) hp
    rcases spl with hf | ⟨m, hn, a, b, xs, ys, rfl, rfl, hs, hl, hz, hi⟩
    · obtain ⟨t, ft⟩ := flat_t (K := K) hf
      refine ⟨_, p, _, _, _, false, rfl, upd_same, .cons (.ty _) (.cons (.ty _) .nil), tyx_keep e1 ft.ty, any2 ft.l ft.u, false, rfl, iteF ?_⟩
      rcases ft.i with ⟨hi, hb⟩ | ⟨hi, bb, hb⟩
      · refine ⟨_, rfl, _, _, _, _, false, rfl, .ty _, tyx_keep e1 ft.ty, kit_ty hi, false, rfl, iteF ?_⟩
        refine ⟨fun v H2 => v = .bl true ∧ Same H H2, ?_, fun v H2 e => by rw [e.1]; exact q _ e.2⟩
        refine ⟨_, rfl, by show 4 ≤ sizeLine; decide, fun p2 hp2 => ?_⟩
        have e2 := same_new e1 hp2 (o := .tup [.ty "bool", .ty "int", .ty "list", .ty "tuple"])
        refine ⟨_, p2, _, _, _, false, rfl, upd_same, .cons (.ty _) (.cons (.ty _) (.cons (.ty _) (.cons (.ty _) .nil))), tyx_keep e2 ft.tx, any4 hb hi ft.l ft.u, _, _, rfl, rfl, _, rfl, iteT ?_⟩
        exact ⟨_, rfl, _, rfl, ft.eq _ e2 _ ⟨rfl, e2⟩⟩
      · refine ⟨_, rfl, _, _, _, _, true, rfl, .ty _, tyx_keep e1 ft.ty, kit_ty hi, true, rfl, iteT ?_⟩
        refine ⟨fun v H2 => v = .bl true ∧ Same H H2, ?_, fun v H2 e => by rw [e.1]; exact q _ e.2⟩
        refine ⟨_, rfl, _, _, _, _, true, rfl, .ty _, tyx_keep e1 ft.tx, kit_ty hi, true, rfl, iteT ?_⟩
        refine ⟨_, rfl, _, _, _, _, bb, rfl, .ty _, tyx_keep e1 ft.tx, kit_ty hb, _, rfl, _, _, _, _, bb, rfl, .ty _, tyx_keep e1 ft.ty, kit_ty hb, rfl, _, rfl, ?_⟩
        rw [decide_eq_true rfl]
        exact iteT ⟨_, rfl, _, rfl, ft.eq _ e1 _ ⟨rfl, e1⟩⟩
    · have hsp := hsp m hn
      subst hsp
      obtain ⟨t, tx, ty, h1, bl, bu⟩ : ∃ t, TyX K H (.ref a) (.type t) ∧ TyX K H (.ref b) (.type t) ∧ (∀ r1 r2, kitB t "list" = some r1 → kitB t "tuple" = some r2 → (r1 || r2) = true) ∧ (∃ r1, kitB t "list" = some r1) ∧ ∃ r2, kitB t "tuple" = some r2 := by
        rcases hs with ⟨h1, h2⟩ | ⟨h1, h2⟩
        · refine ⟨"list", tyx_l h1, tyx_l h2, fun r1 r2 q1 q2 => ?_, ⟨true, by decide +kernel⟩, ⟨false, by decide +kernel⟩⟩
          have z : kitB "list" "list" = some true := by decide +kernel
          rw [z] at q1
          cases q1
          rfl
        · refine ⟨"tuple", tyx_t h1, tyx_t h2, fun r1 r2 q1 q2 => ?_, ⟨false, by decide +kernel⟩, ⟨true, by decide +kernel⟩⟩
          have z : kitB "tuple" "tuple" = some true := by decide +kernel
          rw [z] at q2
          cases q2
          rw [Bool.or_true]
      obtain ⟨r1, b1⟩ := bl
      obtain ⟨r2, b2⟩ := bu
      refine ⟨_, p, _, _, _, true, rfl, upd_same, .cons (.ty _) (.cons (.ty _) .nil), tyx_keep e1 ty, by rw [← h1 r1 r2 b1 b2]; exact any2 b1 b2, true, rfl, iteT ?_⟩
      -- of the same kinds
      refine ⟨fun t H2 => t = false ∧ H2 = upd H p (.tup [.ty "list", .ty "tuple"]), ?_, ?_⟩
      · refine ⟨_, rfl, _, _, _, _, r1, rfl, .ty _, tyx_keep e1 tx, kit_ty b1, _, rfl, _, _, _, _, r1, rfl, .ty _, tyx_keep e1 ty, kit_ty b1, rfl, _, rfl, ?_⟩
        rw [decide_eq_true rfl]
        refine iteF ?_
        refine ⟨_, rfl, _, _, _, _, r2, rfl, .ty _, tyx_keep e1 tx, kit_ty b2, _, rfl, _, _, _, _, r2, rfl, .ty _, tyx_keep e1 ty, kit_ty b2, rfl, _, rfl, ?_⟩
        rw [decide_eq_true rfl]
        exact ⟨rfl, rfl⟩
      rintro _ _ ⟨rfl, rfl⟩
      refine iteF ?_
      have hs1 : (SqL K (upd H p (.tup [.ty "list", .ty "tuple"])) a xs ∧ SqL K (upd H p (.tup [.ty "list", .ty "tuple"])) b ys) ∨ (SqT K (upd H p (.tup [.ty "list", .ty "tuple"])) a xs ∧ SqT K (upd H p (.tup [.ty "list", .ty "tuple"])) b ys) := by
        rcases hs with ⟨q1, q2⟩ | ⟨q1, q2⟩
        · exact .inl ⟨e1.seq q1, e1.seq q2⟩
        · exact .inr ⟨same_t e1 q1, same_t e1 q2⟩
      refine ⟨fun v H2 => v = .bl true ∧ Same H H2, ?_, fun v H2 e => by rw [e.1]; exact q _ e.2⟩
      refine ⟨_, rfl, a, xs, rfl, hs1.imp (·.1) (·.1), _, rfl, b, ys, rfl, hs1.imp (·.2) (·.2), rfl, _, rfl, ?_⟩
      rw [hl, decide_eq_true rfl]
      refine iteT ?_
      have kp : ∀ H2 : Hp, Same H H2 → (SqL K H2 a xs ∧ SqL K H2 b ys) ∨ (SqT K H2 a xs ∧ SqT K H2 b ys) := fun H2 e => by
        rcases hs with ⟨q1, q2⟩ | ⟨q1, q2⟩
        · exact .inl ⟨e.seq q1, e.seq q2⟩
        · exact .inr ⟨same_t e q1, same_t e q2⟩
      rcases hs with ⟨q1, q2⟩ | ⟨q1, q2⟩
      all_goals
        refine ⟨_, rfl, _, rfl, a, b, xs, ys, rfl, ?_⟩
        first
          | refine .inl ⟨e1.seq q1, e1.seq q2, fun D hD => lc_it (walk_zip (n := xs.length) (by omega)) (fun i H2 => Same H H2 ∧ H D = none ∧ H2 D = some (.lst (List.replicate i (.bl true)))) ⟨same_new e1 hD, (upd_none hD).2, upd_same⟩ (fun i H2 _ e => ⟨e.1.seq q1, e.1.seq q2⟩) ?_ ?_⟩
          | refine .inr ⟨same_t e1 q1, same_t e1 q2, fun D hD => lc_it (walk_zipT (n := xs.length) (by omega)) (fun i H2 => Same H H2 ∧ H D = none ∧ H2 D = some (.lst (List.replicate i (.bl true)))) ⟨same_new e1 hD, (upd_none hD).2, upd_same⟩ (fun i H2 _ e => ⟨same_t e.1 q1, same_t e.1 q2⟩) ?_ ?_⟩
        · rintro i v H2 H3 hlt ⟨e2, d0, d2⟩ ⟨U, x', y', rfl, hU, rfl, hx, hy⟩
          refine ⟨U, _, rfl, SqT.of upd_same, rfl, _, _, rfl, _, _, rfl, rfl, rfl, ?_⟩
          have e3 := same_new e2 hU (o := .tup [x', y'])
          have ud : U ≠ D := fun z => by rw [z, d2] at hU; cases hU
          refine ⟨_, rfl, _, rfl, x', y', rfl, (hi i x' y' hx hy).keep e3, fun H4 e4 => ⟨List.replicate i (.bl true), e4 _ _ ((upd_ne ud.symm).trans d2), by rw [List.length_replicate, sizeLine_eq]; omega, fun c o hc => ?_, d0, ?_⟩⟩
          · have dc : c ≠ D := fun z => by rw [z, d0] at hc; cases hc
            rw [upd_ne dc]
            exact e4 _ _ (e3 _ _ hc)
          · rw [upd_same, List.replicate_succ']
        · rintro H2 ⟨e2, d0, d2⟩
          refine ⟨D, List.replicate xs.length true, rfl, ?_, ?_, e2⟩
          · rw [List.map_replicate]
            exact SqL.of d2
          · simp
theorem ok_same {f : Addr} {fd : FuncData} (F : DefX K mg "_law_same" s_same ["_law_found", "_law_due"] f fd) (T : Txt K mg) : ∀ n : Nat, Cal P w K mg base CX0 (n + 1) "_law_same" (spSame K n)
  | 0 => ok_same0 F T 0 0 _ (cal_bot F) (Nat.le_refl _) (fun _ h => nomatch h)
  | n + 1 => ok_same0 F T (n + 1) (n + 1) _ (ok_same F T n) (Nat.le_refl _) (fun m h => by cases h; rfl)
end
end MK
set_option Elab.async false
set_option linter.all false
set_option autoImplicit false
set_option maxRecDepth 100000
set_option maxHeartbeats 4000000
namespace MK
open PySem PySem.Spec PyProof.Rows L2
open C8 (Met pe_mt pe_mt0 Mak pe_mk)
local macro_rules | `(tactic| walk_at "x") => `(tactic| dsimp only [tSeq, tAsg, tRet, tDrop, tLst, tTup, tCons, tOp, tUn, tIfS])
theorem sc_good_start : FnScope ["_law_p", "_law_rules_here", "_law_x"] ["_law_p", "_law_rules_here"] (defScope s_good_start) := ⟨rfl, rfl, rfl, by decide +kernel, rfl, by decide +kernel, by decide +kernel⟩
theorem sc_good_step : FnScope ["_law_p", "_law_rules_here", "_law_state", "_law_row", "_law_rule", "_law_come", "_law_is_second", "_law_x", "_law_bit", "_law_bits"] ["_law_p", "_law_rules_here", "_law_state", "_law_row"] (defScope s_good_step) := ⟨rfl, rfl, rfl, by decide +kernel, rfl, by decide +kernel, by decide +kernel⟩
def LpFg (K : PySem.W.Frag) (B : Hp) (v : V) (fs : List FD) : Prop := ∃ (p l1 : Addr) (fvs : List V) (kvs : List (Key × V)), v = .ref p ∧ B p = some (.dK kvs) ∧ valV kvs (.inr "fields") = some (.ref l1) ∧ B l1 = some (.lst fvs) ∧ Al (FdT K B) fvs fs
theorem LpFg.keep {K : PySem.W.Frag} {H H' : Hp} {v : V} {fs : List FD} (e : Same H H') (h : LpFg K H v fs) : LpFg K H' v fs := by
  obtain ⟨p, l1, fvs, kvs, h0, h1, h2, h3, h4⟩ := h
  exact ⟨p, l1, fvs, kvs, h0, e _ _ h1, h2, e _ _ h3, h4.mono fun _ _ h => Tu.keep e h⟩
/-- a state as a key -/
def lsK (m : Int) (bits come : List Int) : NestedKey := .tup [.num m, .tup (bits.map NestedKey.num), .tup (come.map NestedKey.num)]
theorem ls_nk {K : PySem.W.Frag} {H : Hp} {m : Int} {bits come : List Int} {b p q : Addr} (h : SqT K H b [.int m, .ref p, .ref q]) (hp : SqT K H p (bits.map V.int)) (hq : SqT K H q (come.map V.int)) : Nk K H (lsK m bits come) (.ref b) := .tup h rfl fun i k x h1 h2 => by
  match i, h1, h2 with
  | 0, h1, h2 =>
    cases h1
    cases h2
    exact .int _
  | 1, h1, h2 =>
    cases h1
    cases h2
    exact nums_nk hp
  | 2, h1, h2 =>
    cases h1
    cases h2
    exact nums_nk hq
theorem nk_ls {K : PySem.W.Frag} {H : Hp} {m : Int} {bits come : List Int} {v : V} (h : Nk K H (lsK m bits come) v) : ∃ b p q, v = .ref b ∧ SqT K H b [.int m, .ref p, .ref q] ∧ SqT K H p (bits.map V.int) ∧ SqT K H q (come.map V.int) := by
  unfold lsK at h
  cases h with
  | @tup a xs _ ha hl f =>
    match xs, hl, ha, f with
    | [x, y, z], _, ha, f =>
      have f0 := f 0 _ _ rfl rfl
      have f1 := f 1 _ _ rfl rfl
      have f2 := f 2 _ _ rfl rfl
      obtain ⟨p, rfl, hp⟩ := nk_nums f1
      obtain ⟨q, rfl, hq⟩ := nk_nums f2
      cases f0
      exact ⟨a, p, q, rfl, ha, hp, hq⟩
/-- what refuses a call: a rule, and whether its first call has come -/
def ruleNo (nm : Str) (p : List Str × Int) : Bool := decide (p.1.getLast? = some nm) && (decide (p.1.head? = some ("ahead" : Str)) != decide (p.2 = 1))
def comeB (nm : Str) (p : List Str × Int) : Int := if p.2 = 1 ∨ p.1[1]? = some nm then 1 else 0
def bitsB (fs : List FD) (cd : CD) (bits : List Int) : List Int := (fs.zip bits).map fun p => aloneI p.2 cd.deeds p.1.nm
def lackB (fs : List FD) (bits : List Int) : Bool := (fs.zip bits).any fun p => p.1.need && decide (p.2 = 0)
/-- the state behind a call, "made", or None -/
def goodK (fs : List FD) (rls : List (List Str)) (m : Nat) (bits come : List Int) (cd : CD) : NestedKey :=
  if cd.moves.getD m (-1) = -1 then .none
  else if (rls.zip come).any (ruleNo cd.nm) = true then .none
  else if cd.hand = ("last" : Str) then (if lackB fs (bitsB fs cd bits) = true then .none else .text ("made" : Str))
  else lsK (cd.moves.getD m (-1)) (bitsB fs cd bits) ((rls.zip come).map (comeB cd.nm))
def spGStart (K : PySem.W.Frag) : Sp := fun vs H Q _ => ∃ (pq : V) (ra : Addr) (rvs : List V) (fs : List FD), vs = [pq, .ref ra] ∧ LpFg K H pq fs ∧ H ra = some (.lst rvs) ∧ fs.length ≤ 3 ∧ rvs.length ≤ 3 ∧
  ∀ H' v, Same H H' → Nk K H' (lsK 0 (fs.map fun _ => 0) (rvs.map fun _ => 0)) v → Q v H'
def spGStep (K : PySem.W.Frag) : Sp := fun vs H Q _ => ∃ (pq st rv : V) (ra : Addr) (rvs : List V) (fs : List FD) (rls : List (List Str)) (m : Nat) (bits come : List Int) (cd : CD), vs = [pq, .ref ra, st, rv] ∧ LpFg K H pq fs ∧ H ra = some (.lst rvs) ∧ Al (RuT K H) rvs rls ∧ (∀ r ∈ rls, r.length = 2 ∨ r.length = 3) ∧ fs.length ≤ 3 ∧ rls.length ≤ 3 ∧
  Nk K H (lsK m bits come) st ∧ m < cd.moves.length ∧ bits.length = fs.length ∧ come.length = rls.length ∧ CdL K H rv cd ∧ (∀ d ∈ cd.deeds, d.1 ∈ ([("set" : Str), "clear", "add", "strike", "fresh"] : List Str)) ∧
  ∀ H' v, Same H H' → Nk K H' (goodK fs rls m bits come cd) v → Q v H'
section
variable {P : Program} {w : World} {K : PySem.W.Frag} {mg : Str → Option Value} {base : Heap}
theorem ok_gstart {f : Addr} {fd : FuncData} (F : DefX K mg "_law_good_start" s_good_start ["_law_p", "_law_rules_here"] f fd) (T : Txt K mg) : Cal P w K mg base CX0 1 "_law_good_start" (spGStart K) := by
  refine cal_mk F sc_good_start (fun vs H Q E h => ?_) (fun cdv A outer sh H vs Q E hr h => ?_)
  · obtain ⟨pq, ra, rvs, fs, rfl, _⟩ := h
    rfl
  · obtain ⟨pq, ra, rvs, fs, rfl, ⟨p, l1, fvs, kvs, rfl, p1, p2, p3, p4⟩, hra, lf, lr, q⟩ := h
    refine ⟨_, (pss_one (ps_ret (pe_tup (pa_cons pe_int (pa_cons (pe_callTy call_tuple_of (by rfl) T.tuple (by decide +kernel) (pa_cons (pe_lc (own := [("_law_x", 2)]) (g := (gName 2)) (tt := tYes) rfl sc_good_start.nd (pi_list (pe_dget (hu_of hr) (pv 0) pe_str (fun _ _ => rfl))) (blkOk_by (own := [("_law_x", 2)]) (N := ["_law_p", "_law_rules_here", "_law_x"]) (sc := defScope s_good_start) (by decide +kernel)) (fun _ _ _ _ _ => (pg_name (i := 2) sc_good_start.nd rfl (Or.inl rfl))) (fun _ _ _ _ _ => pts_nil) (fun _ _ _ _ _ => pe_int)) pa_nil)) (pa_cons (pe_callTy call_tuple_of (by rfl) T.tuple (by decide +kernel) (pa_cons (pe_lc (own := [("_law_x", 2)]) (g := (gName 2)) (tt := tYes) rfl sc_good_start.nd (pi_list (pv 1)) (blkOk_by (own := [("_law_x", 2)]) (N := ["_law_p", "_law_rules_here", "_law_x"]) (sc := defScope s_good_start) (by decide +kernel)) (fun _ _ _ _ _ => (pg_name (i := 2) sc_good_start.nd rfl (Or.inl rfl))) (fun _ _ _ _ _ => pts_nil) (fun _ _ _ _ _ => pe_int)) pa_nil)) pa_nil)))))), ?_⟩
    have hpd : DGet H p (.str "fields") (some (.ref l1)) := p2 ▸ DGet.k (k := .inr "fields") p1
    refine ⟨_, rfl, p, .ref l1, rfl, hpd, l1, rfl, ⟨_, SqL.of p3⟩, fun L hL => ?_⟩
    refine lc_it (walk_list (K := K) (a := l1) (xs := fvs)) (fun i H2 => Same H H2 ∧ H2 L = some (.lst ((fs.take i).map fun _ => V.int 0))) ⟨same_new (Same.refl H) hL, upd_same⟩ (fun i H2 _ h => SqL.of (h.1 _ _ p3)) ?_ ?_
    · rintro i x H2 H3 hi ⟨e2, l2⟩ ⟨rfl, hx⟩
      rw [p4.1] at hi
      refine ⟨rfl, _, l2, ?_, fun c o hc => (upd_ne (fun z => by rw [z, hL] at hc; cases hc)).trans (e2 _ _ hc), ?_⟩
      · rw [List.length_map, List.length_take]
        show _ < 2 ^ 24
        omega
      · rw [upd_same, List.take_succ, List.getElem?_eq_getElem hi, List.map_append]
        rfl
    · rintro H2 ⟨e2, l2⟩
      rw [p4.1, List.take_length] at l2
      refine ⟨L, _, rfl, .inl ⟨SqL.of l2, fun r hr => ?_⟩⟩
      have e3 := same_new (o := .tup (fs.map fun _ => V.int 0)) e2 hr
      have r3 : upd H2 r (.tup (fs.map fun _ => V.int 0)) r = some (.tup (fs.map fun _ => V.int 0)) := upd_same
      generalize upd H2 r (.tup (fs.map fun _ => V.int 0)) = H3 at e3 r3 ⊢
      refine ⟨_, rfl, ra, rfl, ⟨_, SqL.of (e3 _ _ hra)⟩, fun L2 hL2 => ?_⟩
      refine lc_it (walk_list (K := K) (a := ra) (xs := rvs)) (fun i H4 => Same H3 H4 ∧ H4 L2 = some (.lst ((rvs.take i).map fun _ => V.int 0))) ⟨same_new (Same.refl H3) hL2, upd_same⟩ (fun i H4 _ h => SqL.of (h.1 _ _ (e3 _ _ hra))) ?_ ?_
      · rintro i x H4 H5 hi ⟨e4, l4⟩ ⟨rfl, hx⟩
        refine ⟨rfl, _, l4, ?_, fun c o hc => (upd_ne (fun z => by rw [z, hL2] at hc; cases hc)).trans (e4 _ _ hc), ?_⟩
        · rw [List.length_map, List.length_take]
          show _ < 2 ^ 24
          omega
        · rw [upd_same, List.take_succ, List.getElem?_eq_getElem hi, List.map_append]
          rfl
      · rintro H4 ⟨e4, l4⟩
        rw [List.take_length] at l4
        refine ⟨L2, _, rfl, .inl ⟨SqL.of l4, fun r2 hr2 => ⟨by show 3 ≤ sizeLine; decide, fun T hT => ?_⟩⟩⟩
        have e5 := same_new (o := .tup (rvs.map fun _ => V.int 0)) (Same.refl H4) hr2
        have r5 : upd H4 r2 (.tup (rvs.map fun _ => V.int 0)) r2 = some (.tup (rvs.map fun _ => V.int 0)) := upd_same
        generalize upd H4 r2 (.tup (rvs.map fun _ => V.int 0)) = H5 at e5 r5 hT ⊢
        have e6 := same_new (o := .tup [.int 0, .ref r, .ref r2]) (Same.refl H5) hT
        refine q _ (.ref T) (e3.trans (e4.trans (e5.trans e6))) (ls_nk (p := r) (q := r2) (SqT.of upd_same) ?_ ?_)
        · rw [List.map_map]
          exact SqT.of (e6 _ _ (e5 _ _ (e4 _ _ r3)))
        · rw [List.map_map]
          exact SqT.of (e6 _ _ r5)
theorem ok_gstep {f : Addr} {fd : FuncData} (F : DefX K mg "_law_good_step" s_good_step ["_law_p", "_law_rules_here", "_law_state", "_law_row"] f fd) (T : Txt K mg) (c_alone : Cal P w K mg base CX0 1 "_law_alone" (spAlone K)) : Cal P w K mg base CX0 2 "_law_good_step" (spGStep K) := by
  refine cal_mk F sc_good_step (fun vs H Q E h => ?_) (fun cdv A outer sh H vs Q E hr h => ?_)
  · obtain ⟨pq, st, rv, ra, rvs, fs, rls, m, bits, come, cd, rfl, _⟩ := h
    rfl
  · obtain ⟨pq, st, rv, ra, rvs, fs, rls, m, bits, come, cd, rfl, ⟨p, l1, fvs, kvs, rfl, p1, p2, p3, p4⟩, hra, al, rl23, lf, lr, nst, hm, lb, lc, hcd, okd, q⟩ := h
    refine ⟨_, (pss_cons (ps_if (pt_cmpR op_eq (pe_ix ix_list (pe_ix ix_tup (pv 3) pe_int (fun _ _ => rfl)) (pe_ix ix_tup (pv 2) pe_int (fun _ _ => rfl)) (fun _ _ => rfl)) (pe_un un_neg pe_int) (nomark _))
(pss_one (ps_ret pe_non))
pss_nil)
(pss_cons (ps_for PassesOwn.never rfl (pi_zipLT (by rfl) T.zip (pa_cons (pv 1) (pa_cons (pe_ix ix_tup (pv 2) pe_int (fun _ _ => rfl)) pa_nil))) (pg_tup (by rfl) (pgs_cons (pg_name (i := 4) sc_good_step.nd rfl (Or.inl rfl)) (pgs_cons (pg_name (i := 5) sc_good_step.nd rfl (Or.inl rfl)) pgs_nil)))
(pss_cons (ps_set (i := 6) sc_good_step.nd rfl (Or.inl rfl) (pe_cmpR op_eq (pe_ix ix_tup (pv 4) (pe_un un_neg pe_int) (fun _ _ => rfl)) (pe_ix ix_tup (pv 3) pe_int (fun _ _ => rfl)) (nomark _)))
(pss_one (ps_if (pt_cut (PW.pt (pw_and (pt_val (pv 6)) (pw_and1 (pt_cmpR op_ne (pe_cmpR op_eq (pe_ix ix_tup (pv 4) pe_int (fun _ _ => rfl)) pe_str (nomark _)) (pe_cmpR op_eq (pv 5) pe_int (nomark _)) (nomark _))))))
(pss_one (ps_ret pe_non))
pss_nil))))
(pss_cons (ps_set (i := 9) sc_good_step.nd rfl (Or.inl rfl) (pe_callTy call_tuple_of (by rfl) T.tuple (by decide +kernel) (pa_cons (pe_lc (own := [("_law_x", 7), ("_law_bit", 8)]) (g := (gTup K 2 (gCons (gName 7) (gCons (gName 8) gNil)))) (tt := tYes) rfl sc_good_step.nd (pi_zipLT (by rfl) T.zip (pa_cons (pe_dget (hu_of hr) (pv 0) pe_str (fun _ _ => rfl)) (pa_cons (pe_ix ix_tup (pv 2) pe_int (fun _ _ => rfl)) pa_nil))) (blkOk_by (own := [("_law_x", 7), ("_law_bit", 8)]) (N := ["_law_p", "_law_rules_here", "_law_state", "_law_row", "_law_rule", "_law_come", "_law_is_second", "_law_x", "_law_bit", "_law_bits"]) (sc := defScope s_good_step) (by decide +kernel)) (fun _ _ _ _ _ => (pg_tup (by rfl) (pgs_cons (pg_name (i := 7) sc_good_step.nd rfl (Or.inl rfl)) (pgs_cons (pg_name (i := 8) sc_good_step.nd rfl (Or.inl rfl)) pgs_nil)))) (fun _ _ _ _ _ => pts_nil) (fun _ _ _ _ _ => (pe_c c_alone hr (by first | decide | assumption) rfl (pa_cons (pv 3) (pa_cons (pe_ix (ix_tupK (K := K) rfl) (pv 7) pe_int (fun _ _ => rfl)) (pa_cons (pv 8) (pa_cons pe_int pa_nil))))))) pa_nil)))
(pss_cons (ps_if (pt_cmpR op_eq (pe_ix ix_tup (pv 3) pe_int (fun _ _ => rfl)) pe_str (nomark _))
(pss_one (ps_ret (pe_cut (pe_ifExp (pt_cmpR op_in_seq pe_int (pe_lc (own := [("_law_x", 7), ("_law_bit", 8)]) (g := (gTup K 2 (gCons (gName 7) (gCons (gName 8) gNil)))) rfl sc_good_step.nd (pi_zipLT (by rfl) T.zip (pa_cons (pe_dget (hu_of hr) (pv 0) pe_str (fun _ _ => rfl)) (pa_cons (pv 9) pa_nil))) (blkOk_by (own := [("_law_x", 7), ("_law_bit", 8)]) (N := ["_law_p", "_law_rules_here", "_law_state", "_law_row", "_law_rule", "_law_come", "_law_is_second", "_law_x", "_law_bit", "_law_bits"]) (sc := defScope s_good_step) (by decide +kernel)) (fun _ _ _ _ _ => (pg_tup (by rfl) (pgs_cons (pg_name (i := 7) sc_good_step.nd rfl (Or.inl rfl)) (pgs_cons (pg_name (i := 8) sc_good_step.nd rfl (Or.inl rfl)) pgs_nil)))) (fun _ _ _ _ _ => (pts_one (pt_val (pe_ix (ix_tupK (K := K) rfl) (pv 7) pe_int (fun _ _ => rfl))))) (fun _ _ _ _ _ => (pv 8))) (by rfl)) pe_non pe_str))))
pss_nil)
(pss_cons (ps_set (i := 5) sc_good_step.nd rfl (Or.inl rfl) (pe_callTy call_tuple_of (by rfl) T.tuple (by decide +kernel) (pa_cons (pe_lc (own := [("_law_rule", 4), ("_law_bit", 8)]) (g := (gTup K 2 (gCons (gName 4) (gCons (gName 8) gNil)))) (tt := tYes) rfl sc_good_step.nd (pi_zipLT (by rfl) T.zip (pa_cons (pv 1) (pa_cons (pe_ix ix_tup (pv 2) pe_int (fun _ _ => rfl)) pa_nil))) (blkOk_by (own := [("_law_rule", 4), ("_law_bit", 8)]) (N := ["_law_p", "_law_rules_here", "_law_state", "_law_row", "_law_rule", "_law_come", "_law_is_second", "_law_x", "_law_bit", "_law_bits"]) (sc := defScope s_good_step) (by decide +kernel)) (fun _ _ _ _ _ => (pg_tup (by rfl) (pgs_cons (pg_name (i := 4) sc_good_step.nd rfl (Or.inl rfl)) (pgs_cons (pg_name (i := 8) sc_good_step.nd rfl (Or.inl rfl)) pgs_nil)))) (fun _ _ _ _ _ => pts_nil) (fun _ _ _ _ _ => (pe_callTy call_int1 (by rfl) T.int (by decide +kernel) (pa_cons (pe_cut (pe_or (pe_cmpR op_eq (pv 8) pe_int (nomark _)) (pe_one (pe_cmpR op_eq (pe_ix (ix_tupK (K := K) rfl) (pv 4) pe_int (fun _ _ => rfl)) (pe_ix (ix_tupK (K := K) rfl) (pv 3) pe_int (fun _ _ => rfl)) (nomark _))))) pa_nil)))) pa_nil)))
(pss_one (ps_ret (pe_tup (pa_cons (pe_ix ix_list (pe_ix ix_tup (pv 3) pe_int (fun _ _ => rfl)) (pe_ix ix_tup (pv 2) pe_int (fun _ _ => rfl)) (fun _ _ => rfl)) (pa_cons (pv 9) (pa_cons (pv 5) pa_nil))))))))))), ?_⟩
    obtain ⟨sb, sp, sq, rfl, t1, t2, t3⟩ := nk_ls nst
    obtain ⟨mv, dv, sv5, ds, ⟨u, rfl, c1⟩, ⟨tm, rfl, c2⟩, c3, c4, c5⟩ := id hcd
    have em : cd.moves.getD m (-1) = cd.moves[m] := by rw [List.getD_eq_getElem?_getD, List.getElem?_eq_getElem hm]; rfl
    have hat : atI (cd.moves.map V.int) ((m : Nat) : Int) = some (.int (cd.moves.getD m (-1))) := atI_nat (by rw [List.getElem?_map, List.getElem?_eq_getElem hm, em]; rfl)
    unfold goodK at q
    generalize hM : cd.moves.getD m (-1) = M at hat q
    have dgf : ∀ {H'}, Same H H' → DGet H' p (.str "fields") (some (.ref l1)) := fun e => p2 ▸ DGet.k (k := .inr "fields") (e _ _ p1)
    refine ⟨_, rfl, u, _, 2, .ref tm, rfl, rfl, c1, rfl, _, rfl, sb, _, 0, .int m, rfl, rfl, t1, rfl, tm, _, (m : Int), .int M, rfl, rfl, SqL.of c2, hat, ?_⟩
    refine ⟨1, rfl, rfl, _, rfl, ite2 (fun g => ?_) (fun g => ?_)⟩
    · have g : M = -1 := by simpa using g
      rw [if_pos g] at q
      exact q H .non (Same.refl H) .non
    have gM : ¬ M = -1 := by simpa using g
    rw [if_neg gM] at q
    -- the rules
    refine ⟨_, rfl, _, rfl, sb, _, 2, .ref sq, rfl, rfl, t1, rfl, ra, sq, _, _, rfl, SqL.of hra, t3, ?_⟩
    have lz : (come.map V.int).length = rls.length := by rw [List.length_map, lc]
    refine for_it (walk_zipLT (n := rls.length) al.1 lz) (fun i σ H2 => Same H H2 ∧ (∀ x ∈ (rls.zip come).take i, ruleNo cd.nm x = false) ∧ ∃ x5 x6 x7 x8 x9 x10, σ = [some (.ref p), some (.ref ra), some (.ref sb), some (.ref u), x5, x6, x7, x8, x9, x10])
      ⟨Same.refl H, fun x hx => by rw [List.take_zero] at hx; exact absurd hx List.not_mem_nil, none, none, none, none, none, none, rfl⟩ (fun i σ H2 _ h => ⟨SqL.of (h.1 _ _ hra), same_t h.1 t3⟩) ?_ ?_
    · rintro i v σ H2 H3 hi ⟨e2, hno, x5, x6, x7, x8, x9, x10, rfl⟩ ⟨U, y1, y2, rfl, hU, rfl, h1, h2⟩
      have h1 : rvs[i]? = some y1 := h1
      have h2 : (come.map V.int)[i]? = some y2 := h2
      obtain ⟨zs, hzs, ru, rfl, hru⟩ := al.get h1
      rw [List.getElem?_map] at h2
      obtain ⟨c, hc, rfl⟩ := Option.map_eq_some_iff.mp h2
      have hz : (rls.zip come)[i]? = some (zs, c) := by rw [List.getElem?_zip_eq_some]; exact ⟨hzs, hc⟩
      have e3 := same_new (o := .tup [.ref ru, .int c]) (Same.refl H2) hU
      have tU : upd H2 U (.tup [.ref ru, .int c]) U = some (.tup [.ref ru, .int c]) := upd_same
      generalize upd H2 U (.tup [.ref ru, .int c]) = H3 at e3 tU ⊢
      have e13 := e2.trans e3
      refine ⟨U, _, rfl, SqT.of tU, rfl, _, _, rfl, _, _, rfl, rfl, ?_⟩
      obtain ⟨hd, lst, q1, q2, q3, q4⟩ : ∃ hd lst, zs.head? = some hd ∧ zs.getLast? = some lst ∧ atI (zs.map V.str) 0 = some (.str hd) ∧ atI (zs.map V.str) (-1) = some (.str lst) := by
        match zs, rl23 zs (List.mem_of_getElem? hzs) with
        | [a, b], _ => exact ⟨a, b, rfl, rfl, rfl, rfl⟩
        | [a, b, c], _ => exact ⟨a, c, rfl, rfl, rfl, rfl⟩
      have hr0 : ruleNo cd.nm (zs, c) = (decide (lst = cd.nm) && (decide (hd = ("ahead" : Str)) != decide (c = 1))) := by
        unfold ruleNo
        rw [q1, q2]
        congr 1
        · exact decide_eq_decide.mpr ⟨fun e => Option.some.inj e, fun e => by rw [e]⟩
        · congr 1
          exact decide_eq_decide.mpr ⟨fun e => Option.some.inj e, fun e => by rw [e]⟩
      refine ⟨_, rfl, 1, rfl, ru, _, -1, .str lst, rfl, rfl, same_t e13 hru, q4, ?_⟩
      refine ⟨_, rfl, u, _, 0, .str cd.nm, rfl, rfl, same_t e13 c1, rfl, rfl, ?_⟩
      refine ⟨fun b H4 => b = ruleNo cd.nm (zs, c) ∧ H4 = H3, ?_, ?_⟩
      · rw [hr0]
        refine ⟨_, rfl, decide (V.str lst = V.str cd.nm), rfl, ite2 (fun g => ?_) (fun g => ?_)⟩
        · have g : lst = cd.nm := by simpa using g
          rw [decide_eq_true g, Bool.true_and]
          refine ⟨_, rfl, ru, _, 0, .str hd, rfl, rfl, same_t e13 hru, q3, rfl, _, rfl, rfl, rfl, _, rfl, ?_, rfl⟩
          cases h1 : decide (hd = ("ahead" : Str)) <;> cases h2 : decide (c = 1) <;> simp_all
        · have g : ¬ lst = cd.nm := by simpa using g
          exact ⟨by rw [decide_eq_false g]; rfl, rfl⟩
      rintro b _ ⟨rfl, rfl⟩
      refine ite2 (fun g => ?_) (fun g => ?_)
      · rw [if_pos (List.any_eq_true.mpr ⟨_, List.mem_of_getElem? hz, g⟩)] at q
        exact q _ .non e13 .non
      · refine ⟨e13, fun x hx => ?_, _, _, _, _, _, _, rfl⟩
        rw [List.take_succ, hz] at hx
        rcases List.mem_append.mp hx with hx | hx
        · exact hno x hx
        · rw [List.mem_singleton.mp hx]
          simpa using g
    · rintro σ H2 ⟨e2, hno, x5, x6, x7, x8, x9, x10, rfl⟩
      have lzz : (rls.zip come).length = rls.length := by rw [List.length_zip, lc, Nat.min_self]
      rw [← lzz, List.take_length] at hno
      have nany : ¬ (rls.zip come).any (ruleNo cd.nm) = true := fun h => by
        obtain ⟨x, hx, hx2⟩ := List.any_eq_true.mp h
        rw [hno x hx] at hx2
        cases hx2
      rw [if_neg nany] at q
      -- the bits
      refine ⟨_, rfl, p, .ref l1, rfl, dgf e2, _, rfl, sb, _, 1, .ref sp, rfl, rfl, same_t e2 t1, rfl, l1, sp, _, _, rfl, SqL.of (e2 _ _ p3), same_t e2 t2, fun L hL => ?_⟩
      have lbz : (bits.map V.int).length = fs.length := by rw [List.length_map, lb]
      refine lc_it (walk_zipLT (n := fs.length) p4.1 lbz) (fun i H3 => Same H2 H3 ∧ H3 L = some (.lst (((bitsB fs cd bits).take i).map V.int))) ⟨same_new (Same.refl H2) hL, upd_same⟩ (fun i H3 _ h => ⟨SqL.of (h.1 _ _ (e2 _ _ p3)), same_t (e2.trans h.1) t2⟩) ?_ ?_
      · rintro i v H3 H4 hi ⟨e3, l3⟩ ⟨U, y1, y2, rfl, hU, rfl, h1, h2⟩
        have h1 : fvs[i]? = some y1 := h1
        have h2 : (bits.map V.int)[i]? = some y2 := h2
        obtain ⟨fd0, hfd, fu, rfl, hfu⟩ := p4.get h1
        rw [List.getElem?_map] at h2
        obtain ⟨c, hc, rfl⟩ := Option.map_eq_some_iff.mp h2
        have e4 := same_new (o := .tup [.ref fu, .int c]) (Same.refl H3) hU
        have tU : upd H3 U (.tup [.ref fu, .int c]) U = some (.tup [.ref fu, .int c]) := upd_same
        have l4 := e4 _ _ l3
        generalize upd H3 U (.tup [.ref fu, .int c]) = H4 at e4 tU l4 ⊢
        have e24 := e3.trans e4
        have e04 := e2.trans e24
        refine ⟨U, _, rfl, SqT.of tU, rfl, _, _, rfl, _, _, rfl, rfl, rfl, ?_⟩
        unfold tYes
        show if true = true then _ else _
        rw [if_pos rfl]
        refine ⟨_, rfl, _, rfl, fu, _, 0, .str fd0.nm, rfl, rfl, same_t e04 hfu, rfl, _, rfl, .ref u, cd, fd0.nm, c, rfl, CdL.keep e04 hcd, okd, fun H5 e5 => ⟨_, e5 _ _ l4, ?_, fun a o ha => (upd_ne (fun z => by rw [z, hL] at ha; cases ha)).trans (e5 _ _ (e24 _ _ ha)), ?_⟩⟩
        · rw [List.length_map, List.length_take]
          show _ < 2 ^ 24
          omega
        · have hz : (bitsB fs cd bits)[i]? = some (aloneI c cd.deeds fd0.nm) := by
            unfold bitsB
            rw [List.getElem?_map, List.getElem?_zip_eq_some.mpr (show fs[i]? = some (fd0, c).1 ∧ bits[i]? = some (fd0, c).2 from ⟨hfd, hc⟩)]
            rfl
          rw [upd_same, List.take_succ, hz, List.map_append]
          rfl
      · rintro H3 ⟨e3, l3⟩
        have lbB : (bitsB fs cd bits).length = fs.length := by
          unfold bitsB
          rw [List.length_map, List.length_zip, lb, Nat.min_self]
        rw [← lbB, List.take_length] at l3
        generalize hB : bitsB fs cd bits = B at l3 q lbB
        refine ⟨L, _, rfl, .inl ⟨SqL.of l3, fun bt hbt => ?_⟩⟩
        have e4 := same_new (o := .tup (B.map V.int)) (e2.trans e3) hbt
        have b4 : upd H3 bt (.tup (B.map V.int)) bt = some (.tup (B.map V.int)) := upd_same
        generalize upd H3 bt (.tup (B.map V.int)) = H4 at e4 b4 ⊢
        refine ⟨_, rfl, u, _, 1, .str cd.hand, rfl, rfl, same_t e4 c1, rfl, rfl, _, rfl, ite2 (fun g => ?_) (fun g => ?_)⟩
        · have g : cd.hand = ("last" : Str) := by simpa using g
          rw [if_pos g] at q
          have e04 := e4
          refine ⟨fun v H5 => Same H H5 ∧ Nk K H5 (if lackB fs B = true then .none else .text ("made" : Str)) v, ?_, fun v H5 h => q H5 v h.1 h.2⟩
          refine ⟨_, rfl, p, .ref l1, rfl, dgf e04, _, rfl, l1, bt, _, _, rfl, SqL.of (e04 _ _ p3), SqT.of b4, fun L2 hL2 => ?_⟩
          have lBz : (B.map V.int).length = fs.length := by rw [List.length_map, lbB]
          refine lc_it (walk_zipLT (n := fs.length) p4.1 lBz) (fun i H5 => Same H4 H5 ∧ H5 L2 = some (.lst ((((fs.zip B).take i).filter (·.1.need)).map fun p => V.int p.2))) ⟨same_new (Same.refl H4) hL2, upd_same⟩ (fun i H5 _ h => ⟨SqL.of (h.1 _ _ (e04 _ _ p3)), SqT.of (h.1 _ _ b4)⟩) ?_ ?_
          · rintro i v H5 H6 hi ⟨e5, l5⟩ ⟨U, y1, y2, rfl, hU, rfl, h1, h2⟩
            have h1 : fvs[i]? = some y1 := h1
            have h2 : (B.map V.int)[i]? = some y2 := h2
            obtain ⟨fd0, hfd, fu, rfl, hfu⟩ := p4.get h1
            rw [List.getElem?_map] at h2
            obtain ⟨c, hc, rfl⟩ := Option.map_eq_some_iff.mp h2
            have hz : (fs.zip B)[i]? = some (fd0, c) := by rw [List.getElem?_zip_eq_some]; exact ⟨hfd, hc⟩
            have e6 := same_new (o := .tup [.ref fu, .int c]) (Same.refl H5) hU
            have tU : upd H5 U (.tup [.ref fu, .int c]) U = some (.tup [.ref fu, .int c]) := upd_same
            have l6 := e6 _ _ l5
            generalize upd H5 U (.tup [.ref fu, .int c]) = H6 at e6 tU l6 ⊢
            have e46 := e5.trans e6
            refine ⟨U, _, rfl, SqT.of tU, rfl, _, _, rfl, _, _, rfl, rfl, rfl, ?_⟩
            refine ⟨_, rfl, fu, _, 2, .bl fd0.need, rfl, rfl, same_t (e04.trans e46) hfu, rfl, fd0.need, rfl, ite2 (fun g2 => ?_) (fun g2 => ?_)⟩
            · refine ⟨_, rfl, _, l6, ?_, fun a o ha => (upd_ne (fun z => by rw [z, hL2] at ha; cases ha)).trans (e46 _ _ ha), ?_⟩
              · rw [List.length_map]
                have := List.length_filter_le (fun p : FD × Int => p.1.need) ((fs.zip B).take i)
                rw [List.length_take] at this
                show _ < 2 ^ 24
                omega
              · rw [upd_same, List.take_succ, hz, List.filter_append, List.map_append]
                show _ = some (HO.lst (_ ++ (List.filter (fun p : FD × Int => p.1.need) [(fd0, c)]).map _))
                rw [List.filter_cons_of_pos (by exact g2)]
                rfl
            · refine ⟨e46, ?_⟩
              rw [l6, List.take_succ, hz, List.filter_append, List.map_append]
              show _ = some (HO.lst (_ ++ (List.filter (fun p : FD × Int => p.1.need) [(fd0, c)]).map _))
              rw [List.filter_cons_of_neg (by exact g2)]
              simp
          · rintro H5 ⟨e5, l5⟩
            have lzB : (fs.zip B).length = fs.length := by rw [List.length_zip, lbB, Nat.min_self]
            rw [← lzB, List.take_length] at l5
            refine ⟨L2, _, rfl, .inl (SqL.of l5), rfl, ?_⟩
            have fl : ((List.filter (fun p : FD × Int => p.1.need) (fs.zip B)).map fun p => V.int p.2).all flatV = true := List.all_eq_true.mpr fun x hx => by
              obtain ⟨y, _, rfl⟩ := List.mem_map.mp hx
              rfl
            refine ⟨fl, ?_⟩
            have hl : inV (.int 0) ((List.filter (fun p : FD × Int => p.1.need) (fs.zip B)).map fun p => V.int p.2) = lackB fs B := by
              unfold inV lackB
              rw [List.any_map, List.any_filter]
              congr 1
            rw [hl]
            refine ⟨_, rfl, ite2 (fun g => ?_) (fun g => ?_)⟩
            · have e45 := e4.trans e5
              refine ⟨e45, ?_⟩
              rw [if_pos (show lackB fs B = true from g)]
              exact .non
            · have e45 := e4.trans e5
              refine ⟨e45, ?_⟩
              rw [if_neg (show ¬ lackB fs B = true from g)]
              exact .str _
        · have g : ¬ cd.hand = ("last" : Str) := by simpa using g
          rw [if_neg g] at q
          refine ⟨_, rfl, _, rfl, sb, _, 2, .ref sq, rfl, rfl, same_t e4 t1, rfl, ra, sq, _, _, rfl, SqL.of (e4 _ _ hra), same_t e4 t3, fun L2 hL2 => ?_⟩
          refine lc_it (walk_zipLT (n := rls.length) al.1 lz) (fun i H5 => Same H4 H5 ∧ H5 L2 = some (.lst ((((rls.zip come).map (comeB cd.nm)).take i).map V.int))) ⟨same_new (Same.refl H4) hL2, upd_same⟩ (fun i H5 _ h => ⟨SqL.of (h.1 _ _ (e4 _ _ hra)), same_t (e4.trans h.1) t3⟩) ?_ ?_
          · rintro i v H5 H6 hi ⟨e5, l5⟩ ⟨U, y1, y2, rfl, hU, rfl, h1, h2⟩
            have h1 : rvs[i]? = some y1 := h1
            have h2 : (come.map V.int)[i]? = some y2 := h2
            obtain ⟨zs, hzs, ru, rfl, hru⟩ := al.get h1
            rw [List.getElem?_map] at h2
            obtain ⟨c, hc, rfl⟩ := Option.map_eq_some_iff.mp h2
            have hz : (rls.zip come)[i]? = some (zs, c) := by rw [List.getElem?_zip_eq_some]; exact ⟨hzs, hc⟩
            have e6 := same_new (o := .tup [.ref ru, .int c]) (Same.refl H5) hU
            have tU : upd H5 U (.tup [.ref ru, .int c]) U = some (.tup [.ref ru, .int c]) := upd_same
            have l6 := e6 _ _ l5
            generalize upd H5 U (.tup [.ref ru, .int c]) = H6 at e6 tU l6 ⊢
            have e46 := e5.trans e6
            have e06 := e4.trans e46
            obtain ⟨z1, q1, q2⟩ : ∃ z1, zs[1]? = some z1 ∧ (zs.map V.str)[1]? = some (.str z1) := by
              match zs, rl23 zs (List.mem_of_getElem? hzs) with
              | [a, b], _ => exact ⟨b, rfl, rfl⟩
              | [a, b, c], _ => exact ⟨b, rfl, rfl⟩
            refine ⟨U, _, rfl, SqT.of tU, rfl, _, _, rfl, _, _, rfl, rfl, rfl, ?_⟩
            unfold tYes
            show if true = true then _ else _
            rw [if_pos rfl]
            refine ⟨fun v H7 => v = .bl (decide (c = 1) || decide (z1 = cd.nm)) ∧ H7 = H6, ?_, ?_⟩
            · refine ⟨_, rfl, rfl, decide (V.int c = V.int 1), rfl, ite2 (fun g => ?_) (fun g => ?_)⟩
              · have g : c = 1 := by simpa using g
                exact ⟨by rw [decide_eq_true g]; rfl, rfl⟩
              · have g : ¬ c = 1 := by simpa using g
                refine ⟨_, rfl, ru, _, 1, .str z1, rfl, rfl, same_t e06 hru, atI_nat q2, _, rfl, u, _, 0, .str cd.nm, rfl, rfl, same_t e06 c1, rfl, rfl, ?_, rfl⟩
                rw [decide_eq_false g, Bool.false_or]
                exact congrArg V.bl (decide_eq_decide.mpr ⟨fun e => V.str.inj e, fun e => by rw [e]⟩)
            rintro _ _ ⟨rfl, rfl⟩
            refine .inr ⟨_, rfl, _, l6, ?_, fun a o ha => (upd_ne (fun z => by rw [z, hL2] at ha; cases ha)).trans (e46 _ _ ha), ?_⟩
            · rw [List.length_map, List.length_take]
              show _ < 2 ^ 24
              omega
            · have hC : ((rls.zip come).map (comeB cd.nm))[i]? = some (if (decide (c = 1) || decide (z1 = cd.nm)) = true then 1 else 0) := by
                rw [List.getElem?_map, hz]
                show some (comeB cd.nm (zs, c)) = _
                unfold comeB
                rw [q1]
                congr 1
                have : ((decide (c = 1) || decide (z1 = cd.nm)) = true) = (c = 1 ∨ (some z1 = some cd.nm)) := by
                  rw [Bool.or_eq_true, decide_eq_true_iff, decide_eq_true_iff, Option.some.injEq]
                simp only [this]
              rw [upd_same, List.take_succ, hC, List.map_append]
              rfl
          · rintro H5 ⟨e5, l5⟩
            have lzz2 : rls.length = ((rls.zip come).map (comeB cd.nm)).length := by rw [List.length_map, lzz]
            rw [lzz2, List.take_length] at l5
            refine ⟨L2, _, rfl, .inl ⟨SqL.of l5, fun ct hct => ?_⟩⟩
            generalize (rls.zip come).map (comeB cd.nm) = C at l5 q
            have e6 := same_new (o := .tup (C.map V.int)) e5 hct
            have c6 : upd H5 ct (.tup (C.map V.int)) ct = some (.tup (C.map V.int)) := upd_same
            generalize upd H5 ct (.tup (C.map V.int)) = H6 at e6 c6 ⊢
            have e06 := e4.trans e6
            refine ⟨_, rfl, u, _, 2, .ref tm, rfl, rfl, same_t e06 c1, rfl, _, rfl, sb, _, 0, .int m, rfl, rfl, same_t e06 t1, rfl, tm, _, (m : Int), .int M, rfl, rfl, SqL.of (e06 _ _ c2), hat, _, rfl, _, rfl, by show 3 ≤ sizeLine; decide, fun Tt hTt => ?_⟩
            have e7 := same_new (o := .tup [.int M, .ref bt, .ref ct]) (Same.refl H6) hTt
            exact q _ (.ref Tt) (e06.trans e7) (ls_nk (p := bt) (q := ct) (SqT.of upd_same) (SqT.of (e7 _ _ (e6 _ _ b4))) (SqT.of (e7 _ _ c6)))
end
end MK
set_option Elab.async false
set_option linter.all false
set_option autoImplicit false
set_option maxRecDepth 100000
set_option maxHeartbeats 4000000
namespace MK
open PySem PySem.Spec PyProof.Rows L2
local macro_rules | `(tactic| walk_at "x") => `(tactic| dsimp only [tSeq, tAsg, tRet, tDrop, tLst, tTup, tCons, tOp, tUn, tIfS])
def spListX (K : PySem.W.Frag) : Sp := fun vs H Q _ => ∃ v d, vs = [v] ∧ Sh K H v d ∧ ∀ H', Same H H' → Q (.bl (isSq d)) H'
theorem len3 {α : Type} {vs : List α} (h : vs.length = 3) : ∃ a b c, vs = [a, b, c] := by
  match vs, h with
  | [a, b, c], _ => exact ⟨a, b, c, rfl⟩
theorem len2 {α : Type} {vs : List α} (h : vs.length = 2) : ∃ a b, vs = [a, b] := by
  match vs, h with
  | [a, b], _ => exact ⟨a, b, rfl⟩
section
variable {P : Program} {w : World} {K : PySem.W.Frag} {mg : Str → Option Value} {base : Heap} {C : Cst}
theorem ok_listX {f : Addr} {fd : FuncData} (F : DefX K mg "is_list" s_is_list ["thing"] f fd) (T : Txt K mg) : Cal P w K mg base CX0 1 "is_list" (spListX K) := by
  refine cal_mk F sc_is_list (fun vs H Q E h => ?_) (fun cdv A outer sh H vs Q E hr h => ?_)
  · obtain ⟨v, d, rfl, _⟩ := h
    rfl
  · obtain ⟨v, d, rfl, s, q⟩ := h
    refine ⟨_, (pss_one (ps_ret (pe_callB call_isiT (by rfl) T.isinstance (by decide +kernel) (pa_cons (pv 0) (pa_cons (pe_tup (pa_cons (pe_tyv (n := "list") (by rfl) T.list (by decide +kernel)) (pa_cons (pe_tyv (n := "tuple") (by rfl) T.tuple (by decide +kernel)) pa_nil))) pa_nil))))), ?_⟩
    obtain ⟨t, ty, _, _, _, kl, kt⟩ := s.ty
    refine ⟨_, rfl, by show 2 ≤ sizeLine; decide, fun p hp => ?_⟩
    have e1 : Same H (upd H p (.tup [.ty "list", .ty "tuple"])) := same_new (Same.refl H) hp
    exact ⟨_, p, _, _, _, isSq d, rfl, upd_same, .cons (.ty _) (.cons (.ty _) .nil), tyx_keep e1 ty, any2 kl kt, q _ e1⟩
end
end MK
set_option Elab.async false
set_option linter.all false
set_option autoImplicit false
set_option maxRecDepth 100000
set_option maxHeartbeats 4000000
namespace MK
open PySem PySem.Spec PyProof.Rows L2
open C8 (Met pe_mt pe_mt0 Mak pe_mk)
local macro_rules | `(tactic| walk_at "x") => `(tactic| dsimp only [tSeq, tAsg, tRet, tDrop, tLst, tTup, tCons, tOp, tUn, tIfS])
theorem room64 {k : Nat} {A : Around} (r : Room k A) : A.units + 64 < cLine := by
  have := room65 r
  omega
theorem op_eqDK {X : Cx} {K : PySem.W.Frag} (hk : X.K = K) (hu : X.A.units + 64 < cLine) : OpR X (compareOp .Eq) (rEqD K) := by subst hk; exact op_eqD hu
theorem sc_l_is_good : FnScope ["_law_p", "_law_rules_here", "_law_names", "_law_x", "_law_state", "_law_known", "_law_name"] ["_law_p", "_law_rules_here", "_law_names"] (defScope s_l_is_good) := ⟨rfl, rfl, rfl, by decide +kernel, rfl, by decide +kernel, by decide +kernel⟩
/-- a state, "made", or None -/
def StK (k : NestedKey) : Prop := k = .none ∨ k = .text ("made" : Str) ∨ ∃ m bits come, k = lsK m bits come
theorem st_dp {K : PySem.W.Frag} {H : Hp} {k : NestedKey} {v : V} (s : StK k) (h : Nk K H k v) : ∃ d, Dp K H v d ∧ SeqAt.shaped d = true ∧ PyData.eqv d (.str ("made" : Str)) = decide (k = .text ("made" : Str)) ∧ ([PyData.none, .str ("made" : Str)].any fun z => PyData.eqv z d) = (decide (k = .none) || decide (k = .text ("made" : Str))) := by
  rcases s with rfl | rfl | ⟨m, bits, come, rfl⟩
  · cases h
    exact ⟨.none, .non, rfl, rfl, rfl⟩
  · cases h
    exact ⟨.str "made", .str _, by decide +kernel, by decide +kernel, by decide +kernel⟩
  · obtain ⟨b, p, q, rfl, h1, h2, h3⟩ := nk_ls h
    refine ⟨.tuple [.int m, .tuple (bits.map PyData.int), .tuple (come.map PyData.int)], .tup h1 (.cons (.int m) (.cons (.tup h2 (dp_ints bits)) (.cons (.tup h3 (dp_ints come)) .nil))), ?_, rfl, rfl⟩
    have d1 := ints_depth bits
    have d2 := ints_depth come
    rw [SeqAt.shaped.eq_1, Bool.and_eq_true]
    refine ⟨?_, decide_eq_true ?_⟩
    · simp only [PyData.canLay0, PyData.canLayAll0, ints_lay, Bool.and_true]
    · simp only [PyData.depth, PyData.depthAll]
      omega
def goodOf (fs : List FD) (rls : List (List Str)) (k : NestedKey) (cd : CD) : NestedKey := match k with
  | .tup [.num m, .tup bs, .tup qs] => goodK fs rls m.toNat (bs.map intN) (qs.map intN) cd
  | _ => .none
theorem goodOf_ls {fs : List FD} {rls : List (List Str)} {m : Nat} {bits come : List Int} {cd : CD} : goodOf fs rls (lsK m bits come) cd = goodK fs rls m bits come cd := by
  have e : ∀ zs : List Int, (zs.map NestedKey.num).map intN = zs := fun zs => by
    rw [List.map_map]
    exact List.map_id zs
  show goodK fs rls (m : Int).toNat ((bits.map NestedKey.num).map intN) ((come.map NestedKey.num).map intN) cd = _
  rw [e, e, Int.toNat_natCast]
/-- one name on -/
def lawStep (fs : List FD) (rls : List (List Str)) (cs : List CD) (k : NestedKey) (d : Dt) : Option NestedKey := match d with
  | .str z => if k = .none ∨ k = .text ("made" : Str) then none else (cs.find? fun c => decide (c.nm = z)).map (goodOf fs rls k)
  | _ => none
def startK (fs : List FD) (rls : List (List Str)) : NestedKey := lsK 0 (fs.map fun _ => 0) (rls.map fun _ => 0)
def lawGood (fs : List FD) (rls : List (List Str)) (cs : List CD) (d : Dt) : Bool := match sqD d with
  | none => false
  | some xs => decide (xs.foldlM (lawStep fs rls cs) (startK fs rls) = some (.text ("made" : Str)))
/-- a state that may be -/
def OkSt (fs : List FD) (n : Nat) (rls : List (List Str)) (k : NestedKey) : Prop := k = .none ∨ k = .text ("made" : Str) ∨ ∃ (m : Nat) (bits come : List Int), k = lsK m bits come ∧ m < n ∧ bits.length = fs.length ∧ come.length = rls.length
theorem OkSt.st {fs : List FD} {n : Nat} {rls : List (List Str)} {k : NestedKey} (h : OkSt fs n rls k) : StK k := h.imp id fun h => h.imp id fun ⟨m, b, c, e, _⟩ => ⟨m, b, c, e⟩
theorem foldL_next {fs : List FD} {rls : List (List Str)} {cs : List CD} {k0 : NestedKey} {xs : List Dt} {i : Nat} {x : Dt} {p : NestedKey} (h : (xs.take i).foldlM (lawStep fs rls cs) k0 = some p) (hx : xs[i]? = some x) : (xs.take (i + 1)).foldlM (lawStep fs rls cs) k0 = lawStep fs rls cs p x := by
  rw [List.take_succ, hx, List.foldlM_append, h]
  show (lawStep fs rls cs p x).bind (fun q => some q) = _
  cases lawStep fs rls cs p x <;> rfl
theorem foldL_none {fs : List FD} {rls : List (List Str)} {cs : List CD} {k0 : NestedKey} {xs : List Dt} {i : Nat} {x : Dt} {p : NestedKey} (h : (xs.take i).foldlM (lawStep fs rls cs) k0 = some p) (hx : xs[i]? = some x) (hn : lawStep fs rls cs p x = none) : xs.foldlM (lawStep fs rls cs) k0 = none := by
  have e := foldL_next h hx
  rw [hn] at e
  rw [← List.take_append_drop (i + 1) xs, List.foldlM_append, e]
  rfl
theorem deeds5 {fs : List FD} {n : Nat} {cd : CD} (h : CdOk fs n cd) : ∀ d ∈ cd.deeds, d.1 ∈ ([("set" : Str), "clear", "add", "strike", "fresh"] : List Str) := by
  intro d hd
  obtain ⟨f, hf, e2, hm⟩ := h.deed d hd
  unfold deedSorts at hm
  split at hm
  · rename_i e; rw [e]; decide
  split at hm
  · rename_i e; rw [e]; decide
  split at hm
  · rename_i e; rw [e]; decide
  split at hm
  · rename_i e; rw [e]; decide
  split at hm
  · rename_i e; rw [e]; decide
  · cases hm
theorem goodK_ok {fs : List FD} {n : Nat} {rls : List (List Str)} {m : Nat} {bits come : List Int} {cd : CD} (h : CdOk fs n cd) (hm : m < n) (lb : bits.length = fs.length) (lc : come.length = rls.length) : OkSt fs n rls (goodK fs rls m bits come cd) := by
  unfold goodK
  split
  · exact .inl rfl
  split
  · exact .inl rfl
  split
  · split
    · exact .inl rfl
    · exact .inr (.inl rfl)
  · rename_i h1 _ _
    have hl : m < cd.moves.length := by rw [h.len]; exact hm
    have e : cd.moves.getD m (-1) = cd.moves[m] := by rw [List.getD_eq_getElem?_getD, List.getElem?_eq_getElem hl]; rfl
    have b := h.move _ (List.getElem_mem hl)
    rw [← e] at b
    generalize cd.moves.getD m (-1) = M at h1 b
    have n0 : 0 ≤ M := by omega
    refine .inr (.inr ⟨M.toNat, _, _, by rw [Int.toNat_of_nonneg n0], by omega, ?_, ?_⟩)
    · unfold bitsB
      rw [List.length_map, List.length_zip, lb, Nat.min_self]
    · rw [List.length_map, List.length_zip, lc, Nat.min_self]
def spLGood (K : PySem.W.Frag) : Sp := fun vs H Q _ => ∃ (pq nv : V) (ra : Addr) (rvs : List V) (fs : List FD) (n : Nat) (cs : List CD) (rls : List (List Str)) (N0 : Dt), vs = [pq, .ref ra, nv] ∧ LpFg K H pq fs ∧ LpC K H pq cs ∧ KdOk fs n cs ∧ H ra = some (.lst rvs) ∧ Al (RuT K H) rvs rls ∧ (∀ r ∈ rls, r.length = 2 ∨ r.length = 3) ∧ rls.length ≤ 3 ∧ Sh K H nv N0 ∧
  ∀ H', Same H H' → Q (.bl (lawGood fs rls cs N0)) H'
section
variable {P : Program} {w : World} {K : PySem.W.Frag} {mg : Str → Option Value} {base : Heap}
theorem ok_lgood {f : Addr} {fd : FuncData} (F : DefX K mg "_law_is_good" s_l_is_good ["_law_p", "_law_rules_here", "_law_names"] f fd) (T : Txt K mg) (c_good_start : Cal P w K mg base CX0 1 "_law_good_start" (spGStart K)) (c_good_step : Cal P w K mg base CX0 2 "_law_good_step" (spGStep K)) (c_row_of : Cal P w K mg base CX0 1 "_law_row_of" (spRowOf K)) : Cal P w K mg base CX0 3 "_law_is_good" (spLGood K) := by
  refine cal_mk F sc_l_is_good (fun vs H Q E h => ?_) (fun cdv A outer sh H vs Q E hr h => ?_)
  · obtain ⟨pq, nv, ra, _, _, _, _, _, _, rfl, _⟩ := h
    rfl
  · obtain ⟨pq, nv, ra, rvs, fs, n, cs, rls, N0, rfl, pF, pC, ok, hra, al, rl23, lr, sn, q⟩ := h
    refine ⟨_, (pss_cons (ps_if (pt_not (pt_val (pe_callB call_isiT (by rfl) T.isinstance (by decide +kernel) (pa_cons (pv 2) (pa_cons (pe_tup (pa_cons (pe_tyv (n := "list") (by rfl) T.list (by decide +kernel)) (pa_cons (pe_tyv (n := "tuple") (by rfl) T.tuple (by decide +kernel)) pa_nil))) pa_nil)))))
(pss_one (ps_ret pe_bl))
pss_nil)
(pss_cons (ps_par (i := 4) (j := 5) (by rfl) sc_l_is_good.nd rfl rfl (by decide) rfl rfl (pa_cons (pe_c c_good_start hr (by first | decide | assumption) rfl (pa_cons (pv 0) (pa_cons (pv 1) pa_nil))) (pa_cons (pe_lc (own := [("_law_x", 3)]) (g := (gName 3)) (tt := tYes) rfl sc_l_is_good.nd (pi_list (pe_dget (hu_of hr) (pv 0) pe_str (fun _ _ => rfl))) (blkOk_by (own := [("_law_x", 3)]) (N := ["_law_p", "_law_rules_here", "_law_names", "_law_x", "_law_state", "_law_known", "_law_name"]) (sc := defScope s_l_is_good) (by decide +kernel)) (fun _ _ _ _ _ => (pg_name (i := 3) sc_l_is_good.nd rfl (Or.inl rfl))) (fun _ _ _ _ _ => pts_nil) (fun _ _ _ _ _ => (pe_ix (ix_tupK (K := K) rfl) (pv 3) pe_int (fun _ _ => rfl)))) pa_nil)) (by rfl))
(pss_cons (ps_for PassesOwn.never rfl (pi_sqV (pv 2)) (pg_name (i := 6) sc_l_is_good.nd rfl (Or.inl rfl))
(pss_cons (ps_if (pt_cut (PW.pt (pw_or (pt_not (pt_val (pe_callB call_isi (by rfl) T.isinstance (by decide +kernel) (pa_cons (pv 6) (pa_cons (pe_tyv (n := "str") (by rfl) T.str (by decide +kernel)) pa_nil))))) (pw_or (pt_cmpR op_notIn_seq (pv 6) (pv 5) (by rfl)) (pw_or1 (pt_cmpR (op_inDTK (K := K) rfl rfl (room65 hr)) (pv 4) (pe_tup (pa_cons pe_non (pa_cons pe_str pa_nil))) (by rfl)))))))
(pss_one (ps_ret pe_bl))
pss_nil)
(pss_one (ps_set (i := 4) sc_l_is_good.nd rfl (Or.inl rfl) (pe_c c_good_step hr (by first | decide | assumption) rfl (pa_cons (pv 0) (pa_cons (pv 1) (pa_cons (pv 4) (pa_cons (pe_c c_row_of hr (by first | decide | assumption) rfl (pa_cons (pv 0) (pa_cons (pv 6) pa_nil))) pa_nil)))))))))
(pss_one (ps_ret (pe_cmpR (op_eqDK (K := K) rfl (room64 hr)) (pv 4) pe_str (nomark _))))))), ?_⟩
    obtain ⟨ty, ty1, -, -, -, kl, kt⟩ := sn.ty
    obtain ⟨p, l2, cvs, kvs, rfl, p1, p2, p3, p4⟩ := id pC
    have hpd : ∀ {H2 : Hp}, Same H H2 → DGet H2 p (.str "calls") (some (.ref l2)) := fun e => p2 ▸ DGet.k (k := .inr "calls") (e _ _ p1)
    have lcs : cvs.length = cs.length := p4.1
    have c6 := ok.cle
    refine ⟨_, rfl, by show 2 ≤ sizeLine; decide, fun p0 hp0 => ?_⟩
    have e1 := same_new (Same.refl H) hp0 (o := .tup [.ty "list", .ty "tuple"])
    refine ⟨_, p0, _, _, _, _, rfl, upd_same, .cons (.ty _) (.cons (.ty _) .nil), tyx_keep e1 ty1, any2 kl kt, _, rfl, ite2 (fun g => ?_) (fun g => ?_)⟩
    · have h0 : isSq N0 = false := by
        rw [Bool.not_eq_true'] at g
        exact g
      have hg : lawGood fs rls cs N0 = false := by
        unfold lawGood
        cases hq : sqD N0 with
        | none => rfl
        | some xs => rw [isSq_iff, hq] at h0; cases h0
      have := q _ e1
      rw [hg] at this
      exact this
    have h0 : isSq N0 = true := by
      rw [Bool.not_eq_true', Bool.not_eq_false] at g
      exact g
    rw [isSq_iff] at h0
    obtain ⟨xs, hq⟩ := Option.isSome_iff_exists.mp h0
    show tSeq _ _ _ _ (upd H p0 (.tup [.ty "list", .ty "tuple"]))
    generalize upd H p0 (.tup [.ty "list", .ty "tuple"]) = H1 at e1 ⊢
    have lf : fs.length ≤ 3 := ok.fields.le
    have lrv : rvs.length = rls.length := al.1
    refine ⟨_, rfl, _, rfl, .ref p, ra, rvs, fs, rfl, pF.keep e1, e1 _ _ hra, lf, by omega, fun H2 sv e2 nk => ?_⟩
    have e02 := e1.trans e2
    have nk : Nk K H2 (startK fs rls) sv := by
      unfold startK
      rw [show (rls.map fun _ => (0 : Int)) = rvs.map fun _ => 0 from by
        rw [List.map_const', List.map_const', lrv]]
      exact nk
    refine ⟨_, rfl, p, .ref l2, rfl, hpd e02, l2, rfl, ⟨_, SqL.of (e02 _ _ p3)⟩, fun D hD => ?_⟩
    refine lc_it (walk_list (K := K) (a := l2) (xs := cvs)) (fun i Hi => Same H2 Hi ∧ Hi D = some (.lst (((cs.take i).map (·.nm)).map V.str))) ⟨same_new (Same.refl H2) hD, upd_same⟩ (fun i Hi _ h => SqL.of (h.1 _ _ (e02 _ _ p3))) ?_ ?_
    · rintro i v H4 H3 hi ⟨e3, d3⟩ ⟨rfl, hv⟩
      obtain ⟨c', hc', m', d', s', ds', ⟨u, rfl, hu⟩, _⟩ := p4.get hv
      refine ⟨rfl, ?_⟩
      refine ⟨_, rfl, u, _, 0, .str c'.nm, rfl, rfl, same_t (e02.trans e3) hu, rfl, _, d3, ?_, fun b o hb => ?_, ?_⟩
      · rw [List.length_map, List.length_map, List.length_take]
        exact Nat.lt_of_le_of_lt (by show min i cs.length ≤ 6; omega) (by decide)
      · rw [upd_ne (ne_of_none hb hD)]
        exact e3 _ _ hb
      · rw [upd_same, List.take_succ, hc', List.map_append, List.map_append]
        rfl
    rintro H3 ⟨e3, d3⟩
    rw [lcs, List.take_length] at d3
    have e03 := e02.trans e3
    obtain ⟨vs, ⟨na, rfl, hv0⟩, hal, few⟩ := (sn.keep e03).sq hq
    refine ⟨_, _, rfl, _, rfl, na, vs, H3, rfl, hv0, Same.refl H3, fun J GG wk gk => ?_⟩
    refine for_it wk (fun i σ H6 => Same H3 H6 ∧ ∃ k v x3 x6, (xs.take i).foldlM (lawStep fs rls cs) (startK fs rls) = some k ∧ OkSt fs n rls k ∧ Nk K H6 k v ∧ σ = [some (.ref p), some (.ref ra), some (.ref na), x3, some v, some (.ref D), x6]) ⟨Same.refl H3, startK fs rls, sv, none, none, rfl, ?_, nk.keep e3, rfl⟩ (fun i σ H6 h => fun h => gk _ h.1) ?_ ?_
    · exact .inr (.inr ⟨0, _, _, rfl, ok.pos, List.length_map .., List.length_map ..⟩)
    · rintro i y σ H6 H7 hi ⟨e6, k, v, x3, x6, hf, hp, nk, rfl⟩ ⟨rfl, hy⟩
      obtain ⟨d, hd, sd⟩ := hal.get hy
      have e06 := e03.trans e6
      have bad : lawStep fs rls cs k d = none → lawGood fs rls cs N0 = false := fun h => by
        unfold lawGood
        rw [hq]
        show decide (xs.foldlM (lawStep fs rls cs) (startK fs rls) = some _) = false
        rw [foldL_none hf hd h]
        rfl
      obtain ⟨t0, ty0, k0, -⟩ := sd.ty
      refine ⟨fun b H8 => b = (lawStep fs rls cs k d).isNone ∧ Same H7 H8, ?_, ?_⟩
      · refine ⟨_, rfl, _, _, _, _, isStr d, rfl, .ty _, tyx_keep e6 ty0, kit_ty k0, _, rfl, ite2 (fun g => ?_) (fun g => ?_)⟩
        · rw [Bool.not_eq_true'] at g
          refine ⟨?_, Same.refl _⟩
          cases d <;> first | rfl | cases g
        rw [Bool.not_eq_true', Bool.not_eq_false] at g
        cases d <;> simp only [isStr] at g <;> try cases g
        rename_i z
        obtain ⟨rfl, -⟩ := sd.str'
        refine ⟨_, rfl, _, rfl, D, _, rfl, .inl (SqL.of (e6 _ _ d3)), rfl, flat_strs _, ?_⟩
        rw [inV_strs]
        refine ⟨_, rfl, ite2 (fun g => ?_) (fun g => ?_)⟩
        · have g : z ∉ cs.map (·.nm) := by simpa using g
          refine ⟨?_, Same.refl _⟩
          have hc : cs.find? (fun c => decide (c.nm = z)) = none := List.find?_eq_none.mpr fun c hc e => g (of_decide_eq_true e ▸ List.mem_map_of_mem hc)
          show true = (if k = .none ∨ k = .text ("made" : Str) then none else (cs.find? fun c => decide (c.nm = z)).map (goodOf fs rls k)).isNone
          rw [hc]
          split <;> rfl
        · have g : z ∈ cs.map (·.nm) := by simpa using g
          refine ⟨_, rfl, by show 2 ≤ sizeLine; decide, fun q1 hq1 => ?_⟩
          have e8 := same_new (o := .tup [.non, .str "made"]) (Same.refl H7) hq1
          obtain ⟨dd, d1, d2, d3', d4⟩ := st_dp hp.st (nk.keep e8)
          refine ⟨dd, [.none, .str "made"], d1, .tup (SqT.of upd_same) (.cons .non (.cons (.str _) .nil)), d2, by decide +kernel, _, rfl, ?_, e8⟩
          obtain ⟨c, hc, ec⟩ := List.mem_map.mp g
          have hs : (cs.find? (fun c => decide (c.nm = z))).isSome = true := List.find?_isSome.mpr ⟨c, hc, decide_eq_true ec⟩
          rw [d4]
          show _ = (if k = .none ∨ k = .text ("made" : Str) then none else (cs.find? fun c => decide (c.nm = z)).map (goodOf fs rls k)).isNone
          by_cases n : k = .none ∨ k = .text ("made" : Str)
          · rw [if_pos n]
            rcases n with n | n
            · rw [decide_eq_true n]
              rfl
            · rw [decide_eq_true n, Bool.or_true]
              rfl
          · rw [if_neg n]
            rw [decide_eq_false (fun e => n (.inl e)), decide_eq_false (fun e => n (.inr e))]
            cases hf : cs.find? (fun c => decide (c.nm = z)) with
            | none => rw [hf] at hs; cases hs
            | some c => rfl
      rintro b H8 ⟨rfl, e8⟩
      refine ite2 (fun g => ?_) (fun g => ?_)
      · have := q H8 (e06.trans e8)
        rw [bad (Option.isNone_iff_eq_none.mp g)] at this
        exact this
      · cases hl : lawStep fs rls cs k d with
        | none => exact absurd (by rw [hl]; rfl) g
        | some k' =>
        cases d <;> try cases hl
        rename_i z
        obtain ⟨rfl, -⟩ := sd.str'
        have hl' : (if k = .none ∨ k = .text ("made" : Str) then none else (cs.find? fun c => decide (c.nm = z)).map (goodOf fs rls k)) = some k' := hl
        by_cases n : k = .none ∨ k = .text ("made" : Str)
        · rw [if_pos n] at hl'
          cases hl'
        rw [if_neg n] at hl'
        obtain ⟨cd, hcd, hk⟩ := Option.map_eq_some_iff.mp hl'
        rcases hp with hp | hp | ⟨m, bits, come, rfl, hm, lb, lc⟩
        · exact absurd (.inl hp) n
        · exact absurd (.inr hp) n
        rw [goodOf_ls] at hk
        have mcd : cd ∈ cs := List.mem_of_find?_eq_some hcd
        have co := ok.calls cd mcd
        have e08 := e06.trans e8
        refine ⟨_, rfl, _, rfl, _, rfl, _, rfl, _, rfl, H, .ref p, z, cs, cd, rfl, e08, pC, ok.nd, ok.cle, hcd, fun H9 rv e9 hrv => ?_⟩
        have e09 := e08.trans e9
        refine ⟨.ref p, v, rv, ra, rvs, fs, rls, m, bits, come, cd, rfl, pF.keep e09, e09 _ _ hra, al.mono fun _ _ h => Tu.keep e09 h, rl23, lf, lr, nk.keep (e8.trans e9), by rw [co.len]; exact hm, lb, lc, CdL.keep e09 hrv, deeds5 co, fun H10 v' e10 nk' => ?_⟩
        rw [hk] at nk'
        refine ⟨e6.trans (e8.trans (e9.trans e10)), k', v', _, _, by rw [foldL_next hf hd]; exact hl, ?_, nk', rfl⟩
        rw [← hk]
        exact goodK_ok co hm lb lc
    · rintro σ H6 ⟨e6, k, v, x3, x6, hf, hp, nk, rfl⟩
      rw [hal.1, List.take_length] at hf
      obtain ⟨d, d1, d2, d3, d4⟩ := st_dp hp.st nk
      have hg : lawGood fs rls cs N0 = decide (k = .text ("made" : Str)) := by
        unfold lawGood
        rw [hq]
        show decide (xs.foldlM (lawStep fs rls cs) (startK fs rls) = some _) = _
        rw [hf]
        exact decide_eq_decide.mpr ⟨fun e => Option.some.inj e, fun e => by rw [e]⟩
      have kk := q H6 (e03.trans e6)
      rw [hg, ← d3] at kk
      exact ⟨_, rfl, d, .str "made", d1, .str _, d2, by decide +kernel, kk⟩
end
end MK
set_option Elab.async false
set_option linter.all false
set_option autoImplicit false
set_option maxRecDepth 100000
set_option maxHeartbeats 4000000
namespace MK
open PySem PySem.Spec PyProof.Rows L2
open C8 (Met pe_mt pe_mt0 Mak pe_mk)
local macro_rules | `(tactic| walk_at "x") => `(tactic| dsimp only [tSeq, tAsg, tRet, tDrop, tLst, tTup, tCons, tOp, tUn, tIfS])
theorem op_neDK {X : Cx} {K : PySem.W.Frag} (hk : X.K = K) (hu : X.A.units + 64 < cLine) : OpR X (compareOp .NotEq) (rNeD K) := by subst hk; exact op_neD hu
theorem callR_or {X : Cx} {f : Value} {r1 r2 : List V → Hp → VK → Prop} (h1 : CallR X f r1) (h2 : CallR X f r2) : CallR X f (fun xs H Q => r1 xs H Q ∨ r2 xs H Q) := fun pins s σ H xs us Q I v h => h.elim (h1 pins s σ H xs us Q I v) (h2 pins s σ H xs us Q I v)
theorem sc_good_states : FnScope ["_law_p", "_law_rules_here", "_law_found", "_law_waiting", "_law_start", "_law_k", "_law_state", "_law_row", "_law_x", "_law_hope", "_law_left"] ["_law_p", "_law_rules_here"] (defScope s_good_states) := ⟨rfl, rfl, rfl, by decide +kernel, rfl, by decide +kernel, by decide +kernel⟩
def kidsK (fs : List FD) (rls : List (List Str)) (cs : List CD) (k : NestedKey) : List NestedKey := cs.map (goodOf fs rls k)
def onK (ks : List NestedKey) : List NestedKey := ks.filter fun x => !decide (x = .none) && !decide (x = .text ("made" : Str))
structure GS where
  found : List (NestedKey × List NestedKey)
  wait : List NestedKey
def gsStep (fs : List FD) (rls : List (List Str)) (cs : List CD) (g : GS) (i : Nat) : GS :=
  if g.wait.getD i (startK fs rls) ∈ g.found.map (·.1) then g else ⟨g.found ++ [(g.wait.getD i (startK fs rls), kidsK fs rls cs (g.wait.getD i (startK fs rls)))], g.wait ++ onK (kidsK fs rls cs (g.wait.getD i (startK fs rls)))⟩
def gsAll (fs : List FD) (rls : List (List Str)) (cs : List CD) (n : Nat) : GS := (List.range n).foldl (gsStep fs rls cs) ⟨[], [startK fs rls]⟩
theorem gsAll_succ {fs : List FD} {rls : List (List Str)} {cs : List CD} {n : Nat} : gsAll fs rls cs (n + 1) = gsStep fs rls cs (gsAll fs rls cs n) n := by
  unfold gsAll
  rw [List.range_succ, List.foldl_append]
  rfl
def KsV (K : PySem.W.Frag) (G H : Hp) (v : V) (ks : List NestedKey) : Prop := ∃ l xs, v = .ref l ∧ G l = some (.lst xs) ∧ Al (fun v k => Nk K H k v) xs ks
theorem KsV.tk {K : PySem.W.Frag} {G G' H H' : Hp} (e : Same G G') (t : Tk H H') {v : V} {ks : List NestedKey} (h : KsV K G H v ks) : KsV K G' H' v ks :=
  let ⟨l, xs, a, b, c⟩ := h; ⟨l, xs, a, e _ _ b, c.mono fun _ _ h => h.tk t⟩
def FnI (P : Program) (w : World) (K : PySem.W.Frag) (G H : Hp) (d : Addr) (T : List (NestedKey × List NestedKey)) : Prop := ∃ kvs, DN P w K H d kvs ∧ Pr (KsV K G H) kvs T
theorem FnI.tk {P : Program} {w : World} {K : PySem.W.Frag} {G G' H H' : Hp} {d : Addr} {T : List (NestedKey × List NestedKey)} (e : Same G G') (t : Tk H H') (ed : H' d = H d) (h : FnI P w K G H d T) : FnI P w K G' H' d T := by
  obtain ⟨kvs, ⟨o, xs, g⟩, pr⟩ := h
  exact ⟨kvs, ⟨o, xs, ed.trans g.at_, g.len, fun i p x h1 h2 => let ⟨a, b, c, d⟩ := g.ent i p x h1 h2; ⟨a, b, c.tk t, d⟩⟩, pr.mono fun _ _ h => h.tk e t⟩
/-- a state, no end and not None -/
def IsS (fs : List FD) (n : Nat) (rls : List (List Str)) (k : NestedKey) : Prop := ∃ (m : Nat) (bits come : List Int), k = lsK m bits come ∧ m < n ∧ bits.length = fs.length ∧ come.length = rls.length
theorem IsS.pl {fs : List FD} {n : Nat} {rls : List (List Str)} {k : NestedKey} (h : IsS fs n rls k) : IsPl k := by
  obtain ⟨m, bits, come, rfl, _⟩ := h
  refine ⟨⟨_, rfl⟩, ?_⟩
  have h1 := depth_allN (f := NestedKey.num) (n := 0) (xs := bits) fun _ _ => Nat.le_refl _
  have h2 := depth_allN (f := NestedKey.num) (n := 0) (xs := come) fun _ _ => Nat.le_refl _
  unfold lsK
  simp only [NestedKey.depth, NestedKey.depthAll]
  omega
theorem OkSt.dep {fs : List FD} {n : Nat} {rls : List (List Str)} {k : NestedKey} (h : OkSt fs n rls k) : k.depth ≤ 8 := by
  rcases h with rfl | rfl | h
  · decide
  · exact Nat.zero_le _
  · exact Nat.le_trans (IsS.pl h).2 (by decide)
theorem kids_ok {fs : List FD} {n : Nat} {cs : List CD} {rls : List (List Str)} {k : NestedKey} (ok : KdOk fs n cs) (h : IsS fs n rls k) : ∀ x ∈ kidsK fs rls cs k, OkSt fs n rls x := fun x hx => by
  obtain ⟨m, bits, come, rfl, hm, lb, lc⟩ := h
  unfold kidsK at hx
  obtain ⟨cd, hcd, rfl⟩ := List.mem_map.mp hx
  rw [goodOf_ls]
  exact goodK_ok (ok.calls cd hcd) hm lb lc
theorem kids_len {fs : List FD} {cs : List CD} {rls : List (List Str)} {k : NestedKey} : (kidsK fs rls cs k).length = cs.length := List.length_map ..
theorem gsAll_kids {fs : List FD} {rls : List (List Str)} {cs : List CD} : ∀ (n : Nat) q, q ∈ (gsAll fs rls cs n).found → q.2 = kidsK fs rls cs q.1
  | 0, q, h => (List.not_mem_nil h).elim
  | n + 1, q, h => by
    have ih := gsAll_kids (fs := fs) (rls := rls) (cs := cs) n
    rw [gsAll_succ] at h
    unfold gsStep at h
    split at h
    · exact ih q h
    · rcases List.mem_append.mp h with h | h
      · exact ih q h
      · rw [List.mem_singleton.mp h]
def GsI (P : Program) (w : World) (K : PySem.W.Frag) (p ra : Addr) (sv : V) (fs : List FD) (n : Nat) (cs : List CD) (rls : List (List Str)) (H0 : Hp) (tb wl : Addr) (i : Nat) (σ : L2.St) (H : Hp) : Prop := ∃ ws,
  Same H0 H ∧ H0 tb = none ∧ H0 wl = none ∧ tb ≠ wl ∧ H wl = some (.lst ws) ∧ Al (fun v k => Nk K H k v) ws (gsAll fs rls cs i).wait ∧ FnI P w K (Wt [tb, wl] H) H tb (gsAll fs rls cs i).found ∧
  (∀ k ∈ (gsAll fs rls cs i).wait, IsS fs n rls k) ∧ (∀ q ∈ (gsAll fs rls cs i).found, IsS fs n rls q.1) ∧ (gsAll fs rls cs i).found.length ≤ i ∧ (gsAll fs rls cs i).wait.length ≤ 1 + 6 * i ∧ Nk K H (startK fs rls) sv ∧
  ∃ x5 x6 x7 x8 x9 x10, σ = [some (.ref p), some (.ref ra), some (.ref tb), some (.ref wl), some sv, x5, x6, x7, x8, x9, x10]
theorem FnI.walk {P : Program} {w : World} {K : PySem.W.Frag} {G H : Hp} {d : Addr} {T : List (NestedKey × List NestedKey)} (h : FnI P w K G H d T) : ∃ o xs kvs, DNo P w K H d o xs kvs ∧ Pr (KsV K G H) kvs T ∧ xs.length = T.length ∧ kvs.length = T.length ∧
    ∀ (i : Nat) z, xs[i]? = some z → ∃ q, T[i]? = some q ∧ Nk K H q.1 (.ref z.2.1) ∧ q.1.depth ≤ 8 := by
  obtain ⟨kvs, ⟨o, xs, g⟩, pr⟩ := h
  have l1 := pr.1
  have l2 := g.len
  refine ⟨o, xs, kvs, g, pr, by omega, l1, fun i z hz => ?_⟩
  have lt := (List.getElem?_eq_some_iff.mp hz).1
  have hp : kvs[i]? = some (kvs[i]'(by omega)) := List.getElem?_eq_getElem _
  have hq : T[i]? = some (T[i]'(by omega)) := List.getElem?_eq_getElem _
  obtain ⟨a, b, c, _⟩ := g.ent i _ z hp hz
  obtain ⟨e, _⟩ := pr.2 i _ _ hp hq
  exact ⟨_, hq, by rw [← e]; exact c, by rw [← e]; exact b⟩
theorem gsAll_nodup {fs : List FD} {rls : List (List Str)} {cs : List CD} : ∀ n, ((gsAll fs rls cs n).found.map (·.1)).Nodup
  | 0 => List.nodup_nil
  | n + 1 => by
    have ih := gsAll_nodup (fs := fs) (rls := rls) (cs := cs) n
    rw [gsAll_succ]
    unfold gsStep
    split
    · exact ih
    · rename_i h
      show (List.map _ (_ ++ [_])).Nodup
      rw [List.map_append]
      refine List.nodup_append.mpr ⟨ih, List.nodup_cons.mpr ⟨List.not_mem_nil, List.nodup_nil⟩, fun a ha b hb e => h ?_⟩
      rw [List.map_cons, List.map_nil, List.mem_singleton] at hb
      have := e.trans hb
      rw [this] at ha
      exact ha
/-- from which an end can be come to -/
def hopeStep (h : List NestedKey) (q : NestedKey × List NestedKey) : List NestedKey := if q.2.any (fun x => decide (x ∈ h)) then (if q.1 ∈ h then h else h ++ [q.1]) else h
def hopeAll (T : List (NestedKey × List NestedKey)) (n : Nat) : List NestedKey := (List.range n).foldl (fun h _ => T.foldl hopeStep h) [.text ("made" : Str)]
def hopeV (h : List NestedKey) : List (NestedKey × V) := h.map fun k => (k, V.bl true)
theorem valN_hope {h : List NestedKey} {k : NestedKey} : (valN (hopeV h) k).isSome = decide (k ∈ h) := by
  rw [valN_getA, getA_isSome]
  unfold hopeV
  rw [List.map_map]
  exact decide_eq_decide.mpr ⟨fun m => by simpa using m, fun m => by simpa using m⟩
theorem putN_hope {h : List NestedKey} {k : NestedKey} : putN (hopeV h) k (.bl true) = hopeV (if k ∈ h then h else h ++ [k]) := by
  unfold putN
  rw [valN_hope]
  by_cases m : k ∈ h
  · rw [if_pos (decide_eq_true m), if_pos m]
    unfold hopeV
    rw [List.map_map]
    refine List.map_congr_left fun x _ => ?_
    show (if x = k then (x, V.bl true) else (x, V.bl true)) = _
    split <;> rfl
  · rw [if_neg (by rw [decide_eq_false m]; simp), if_neg m]
    unfold hopeV
    rw [List.map_append]
    rfl
theorem hope_len : ∀ (T : List (NestedKey × List NestedKey)) (h : List NestedKey), (T.foldl hopeStep h).length ≤ h.length + T.length
  | [], h => Nat.le_refl _
  | q :: T, h => by
    have ih := hope_len T (hopeStep h q)
    have : (hopeStep h q).length ≤ h.length + 1 := by
      unfold hopeStep
      split
      · split
        · omega
        · rw [List.length_append, List.length_singleton]
          omega
      · omega
    rw [List.foldl_cons, List.length_cons]
    omega
theorem hopeAll_succ {T : List (NestedKey × List NestedKey)} {n : Nat} : hopeAll T (n + 1) = T.foldl hopeStep (hopeAll T n) := by
  unfold hopeAll
  rw [List.range_succ, List.foldl_append]
  rfl
theorem hopeAll_len {T : List (NestedKey × List NestedKey)} : ∀ n, (hopeAll T n).length ≤ 1 + n * T.length
  | 0 => by rw [Nat.zero_mul]; exact Nat.le_refl _
  | n + 1 => by
    have ih := hopeAll_len (T := T) n
    have := hope_len T (hopeAll T n)
    rw [hopeAll_succ, Nat.add_mul, Nat.one_mul]
    omega
theorem Mx.keep {P : Program} {w : World} {K : PySem.W.Frag} {H H' : Hp} {d : Addr} {kvs : List (NestedKey × V)} (e : Same H H') (h : Mx P w K H d kvs) : Mx P w K H' d kvs := by
  rcases h with ⟨o, xs, g⟩ | ⟨kz, g, q⟩ | g
  · exact .inl ⟨o, xs, e _ _ g.at_, g.len, fun i p x h1 h2 => let ⟨a, b, ⟨v, c, r⟩, d⟩ := g.ent i p x h1 h2; ⟨a, b, ⟨v, c.keep e, r⟩, d⟩⟩
  · exact .inr (.inl ⟨kz, e _ _ g, q⟩)
  · exact .inr (.inr (g.keep e))
/-- what is new -/
def Nu (H H' : Hp) : Hp := fun a => if H a = none then H' a else none
theorem nu_get {H H' : Hp} {a : Addr} (h : H a = none) : Nu H H' a = H' a := if_pos h
theorem nu_some {H H' : Hp} {a : Addr} {o : HO} (h : Nu H H' a = some o) : H a = none ∧ H' a = some o := by
  unfold Nu at h
  split at h
  · exact ⟨by assumption, h⟩
  · cases h
theorem nu_keep {H H' H'' : Hp} (e : Same H' H'') : Same (Nu H H') (Nu H H'') := fun a o h => by
  obtain ⟨n, h⟩ := nu_some h
  rw [nu_get n]
  exact e _ _ h
/-- the states from which an end can be come to, with what is left -/
def leftOf (T : List (NestedKey × List NestedKey)) (h : List NestedKey) : List (NestedKey × List NestedKey) := (T.filter fun q => decide (q.1 ∈ h)).map fun q => (q.1, q.2.map fun x => if x ∈ h then x else .none)
theorem leftOf_snoc {T : List (NestedKey × List NestedKey)} {h : List NestedKey} {j : Nat} {q : NestedKey × List NestedKey} (hq : T[j]? = some q) : leftOf (T.take (j + 1)) h = leftOf (T.take j) h ++ (if q.1 ∈ h then [(q.1, q.2.map fun x => if x ∈ h then x else .none)] else []) := by
  unfold leftOf
  rw [List.take_succ, hq, List.filter_append, List.map_append]
  congr 1
  by_cases m : q.1 ∈ h
  · rw [if_pos m]
    simp [m]
  · rw [if_neg m]
    simp [m]
theorem leftOf_new {T : List (NestedKey × List NestedKey)} {h : List NestedKey} {j : Nat} {q : NestedKey × List NestedKey} (hq : T[j]? = some q) (nd : (T.map (·.1)).Nodup) : q.1 ∉ (leftOf (T.take j) h).map (·.1) := fun m => by
  obtain ⟨r, hr, e⟩ := List.mem_map.mp m
  unfold leftOf at hr
  obtain ⟨t, ht, rfl⟩ := List.mem_map.mp hr
  have ht := (List.mem_filter.mp ht).1
  have e : t.1 = q.1 := e
  obtain ⟨i, hi⟩ := List.mem_iff_getElem?.mp ht
  rw [List.getElem?_take] at hi
  split at hi
  · rename_i lt
    have h1 : (T.map (·.1))[i]? = some q.1 := by rw [List.getElem?_map, hi]; exact congrArg some e
    have h2 : (T.map (·.1))[j]? = some q.1 := by rw [List.getElem?_map, hq]; rfl
    have lj : j < (T.map (·.1)).length := (List.getElem?_eq_some_iff.mp h2).1
    have := (List.getElem?_inj (Nat.lt_trans lt lj) nd).mp (h1.trans h2.symm)
    omega
  · cases hi
theorem leftOf_len {T : List (NestedKey × List NestedKey)} {h : List NestedKey} : (leftOf T h).length ≤ T.length := by
  unfold leftOf
  rw [List.length_map]
  exact List.length_filter_le _ _
def gsT (fs : List FD) (rls : List (List Str)) (cs : List CD) : List (NestedKey × List NestedKey) := (gsAll fs rls cs (Int.toNat 3000)).found
theorem Mx.not_none {P : Program} {w : World} {K : PySem.W.Frag} {H : Hp} {d : Addr} {kvs : List (NestedKey × V)} (h : Mx P w K H d kvs) (n : H d = none) : False := by
  rcases h with ⟨o, xs, g⟩ | ⟨kz, g, q⟩ | ⟨o, xs, g⟩
  · rw [g.at_] at n; cases n
  · rw [g] at n; cases n
  · rw [g.at_] at n; cases n
def spGStates (P : Program) (w : World) (K : PySem.W.Frag) : Sp := fun vs H Q _ => ∃ (pq : V) (ra : Addr) (rvs : List V) (fs : List FD) (n : Nat) (cs : List CD) (rls : List (List Str)), vs = [pq, .ref ra] ∧ LpFg K H pq fs ∧ LpC K H pq cs ∧ KdOk fs n cs ∧ H ra = some (.lst rvs) ∧ Al (RuT K H) rvs rls ∧ (∀ r ∈ rls, r.length = 2 ∨ r.length = 3) ∧ rls.length ≤ 3 ∧
  ∀ (D : Addr) (H' : Hp), Same H H' → FnI P w K (Nu H H') H' D (leftOf (gsT fs rls cs) (hopeAll (gsT fs rls cs) (gsT fs rls cs).length)) → Q (.ref D) H'
section
variable {P : Program} {w : World} {K : PySem.W.Frag} {mg : Str → Option Value} {base : Heap}
theorem ok_gstates {f : Addr} {fd : FuncData} (F : DefX K mg "_law_good_states" s_good_states ["_law_p", "_law_rules_here"] f fd) (T : Txt K mg) (c_good_start : Cal P w K mg base CX0 1 "_law_good_start" (spGStart K)) (c_good_step : Cal P w K mg base CX0 2 "_law_good_step" (spGStep K)) : Cal P w K mg base CX0 3 "_law_good_states" (spGStates P w K) := by
  refine cal_mk F sc_good_states (fun vs H Q E h => ?_) (fun cdv A outer sh H vs Q E hr h => ?_)
  · obtain ⟨pq, ra, _, _, _, _, _, rfl, _⟩ := h
    rfl
  · obtain ⟨pq, ra, rvs, fs, n, cs, rls, rfl, pF, pC, ok, hra, al, rl23, lr, q⟩ := h
    refine ⟨_, (pss_cons (ps_par3 (i := 2) (j := 3) (k := 4) (by rfl) sc_good_states.nd rfl rfl rfl rfl rfl rfl (pa_cons pe_dnewN (pa_cons (pe_lst (pa_cons (pe_c c_good_start hr (by first | decide | assumption) rfl (pa_cons (pv 0) (pa_cons (pv 1) pa_nil))) pa_nil)) (pa_cons (pe_c c_good_start hr (by first | decide | assumption) rfl (pa_cons (pv 0) (pa_cons (pv 1) pa_nil))) pa_nil))) (by rfl))
(pss_cons (ps_for PassesOwn.never rfl (pi_range1 (by rfl) T.range (pa_cons pe_int pa_nil)) (pg_name (i := 5) sc_good_states.nd rfl (Or.inl rfl))
(pss_cons (ps_set (i := 6) sc_good_states.nd rfl (Or.inr rfl) (pe_cut (pe_ifExp (pt_cmpR op_lt (pv 5) (pe_callB (callR_or call_len_seq (call_lenN (P := P) (w := w) (K := K) rfl rfl rfl)) (by rfl) T.len (by decide +kernel) (pa_cons (pv 3) pa_nil)) (nomark _)) (pe_ix ix_list (pv 3) (pv 5) (fun _ _ => rfl)) (pv 4))))
(pss_one (ps_if (pt_cmpR (op_notInNK (P := P) (w := w) (K := K) rfl rfl rfl (u9 hr)) (pv 6) (pv 2) (by rfl))
(pss_cons (ps_asg (pe_lc (own := [("_law_row", 7)]) (g := (gName 7)) (tt := tYes) rfl sc_good_states.nd (pi_list (pe_dget (hu_of hr) (pv 0) pe_str (fun _ _ => rfl))) (blkOk_by (own := [("_law_row", 7)]) (N := ["_law_p", "_law_rules_here", "_law_found", "_law_waiting", "_law_start", "_law_k", "_law_state", "_law_row", "_law_x", "_law_hope", "_law_left"]) (sc := defScope s_good_states) (by decide +kernel)) (fun _ _ _ _ _ => (pg_name (i := 7) sc_good_states.nd rfl (Or.inl rfl))) (fun _ _ _ _ _ => pts_nil) (fun _ _ _ _ _ => (pe_c c_good_step hr (by first | decide | assumption) rfl (pa_cons (pv 0) (pa_cons (pv 1) (pa_cons (pv 6) (pa_cons (pv 7) pa_nil))))))) (pg_sub (pv 2) (pv 6) (set_dn (u9 hr))))
(pss_one (ps_expr (pe_bm PySem.F.plainAttrs_list PySem.F.slot_list_extend PySem.F.type_list_extend mt_extend (pv 3) (pa_cons (pe_lc (own := [("_law_x", 8)]) (g := (gName 8)) rfl sc_good_states.nd (pi_list (pe_ixNK (P := P) (w := w) (K := K) rfl rfl rfl (u9 hr) (pv 2) (pv 6) (fun _ _ => rfl))) (blkOk_by (own := [("_law_x", 8)]) (N := ["_law_p", "_law_rules_here", "_law_found", "_law_waiting", "_law_start", "_law_k", "_law_state", "_law_row", "_law_x", "_law_hope", "_law_left"]) (sc := defScope s_good_states) (by decide +kernel)) (fun _ _ _ _ _ => (pg_name (i := 8) sc_good_states.nd rfl (Or.inl rfl))) (fun _ _ _ _ _ => (pts_one (pt_cut (PW.pt (pw_and (pt_cmpR op_notN (pv 8) pe_non (nomark _)) (pw_and1 (pt_cmpR (op_neDK (K := K) rfl (room64 hr)) (pv 8) pe_str (nomark _)))))))) (fun _ _ _ _ _ => (pv 8))) pa_nil)))))
pss_nil))))
(pss_cons (ps_set (i := 9) sc_good_states.nd rfl (Or.inr rfl) (pe_disp (pps_cons pe_str pe_bl pps_nil) (by rfl) (by rfl) (fun z => by cases z) (by decide)))
(pss_cons (ps_for PassesOwn.never rfl (pi_range1 (by rfl) T.range (pa_cons (pe_callB (callR_or call_len_seq (call_lenN (P := P) (w := w) (K := K) rfl rfl rfl)) (by rfl) T.len (by decide +kernel) (pa_cons (pv 2) pa_nil)) pa_nil)) (pg_name (i := 5) sc_good_states.nd rfl (Or.inl rfl))
(pss_one (ps_for PassesOwn.never rfl (pi_keysNK (P := P) (w := w) rfl rfl (pv 2)) (pg_name (i := 6) sc_good_states.nd rfl (Or.inr rfl))
(pss_one (ps_if (pt_val (pe_callB (cr_any rfl) (by rfl) T.any (by decide +kernel) (pa_cons (pe_lc (own := [("_law_x", 8)]) (g := (gName 8)) (tt := tYes) rfl sc_good_states.nd (pi_list (pe_ixNK (P := P) (w := w) (K := K) rfl rfl rfl (u9 hr) (pv 2) (pv 6) (fun _ _ => rfl))) (blkOk_by (own := [("_law_x", 8)]) (N := ["_law_p", "_law_rules_here", "_law_found", "_law_waiting", "_law_start", "_law_k", "_law_state", "_law_row", "_law_x", "_law_hope", "_law_left"]) (sc := defScope s_good_states) (by decide +kernel)) (fun _ _ _ _ _ => (pg_name (i := 8) sc_good_states.nd rfl (Or.inl rfl))) (fun _ _ _ _ _ => pts_nil) (fun _ _ _ _ _ => (pe_cmpR (op_inXK (P := P) (w := w) (K := K) rfl rfl rfl (u9 hr)) (pv 8) (pv 9) (by rfl)))) pa_nil)))
(pss_one (ps_asg pe_bl (pg_sub (pv 9) (pv 6) (set_mx (u9 hr)))))
pss_nil)))))
(pss_cons (ps_set (i := 10) sc_good_states.nd rfl (Or.inl rfl) pe_dnewN)
(pss_cons (ps_for PassesOwn.never rfl (pi_keysNK (P := P) (w := w) rfl rfl (pv 2)) (pg_name (i := 6) sc_good_states.nd rfl (Or.inr rfl))
(pss_one (ps_if (pt_cmpR (op_inXK (P := P) (w := w) (K := K) rfl rfl rfl (u9 hr)) (pv 6) (pv 9) (by rfl))
(pss_one (ps_asg (pe_lc (own := [("_law_x", 8)]) (g := (gName 8)) (tt := tYes) rfl sc_good_states.nd (pi_list (pe_ixNK (P := P) (w := w) (K := K) rfl rfl rfl (u9 hr) (pv 2) (pv 6) (fun _ _ => rfl))) (blkOk_by (own := [("_law_x", 8)]) (N := ["_law_p", "_law_rules_here", "_law_found", "_law_waiting", "_law_start", "_law_k", "_law_state", "_law_row", "_law_x", "_law_hope", "_law_left"]) (sc := defScope s_good_states) (by decide +kernel)) (fun _ _ _ _ _ => (pg_name (i := 8) sc_good_states.nd rfl (Or.inl rfl))) (fun _ _ _ _ _ => pts_nil) (fun _ _ _ _ _ => (pe_cut (pe_ifExp (pt_cmpR (op_inXK (P := P) (w := w) (K := K) rfl rfl rfl (u9 hr)) (pv 8) (pv 9) (by rfl)) (pv 8) pe_non)))) (pg_sub (pv 10) (pv 6) (set_dn (u9 hr)))))
pss_nil)))
(pss_one (ps_ret (pv 10))))))))), ?_⟩
    obtain ⟨p, l2, cvs, kvs, rfl, p1, p2, p3, p4⟩ := id pC
    have hpd : ∀ {H2 : Hp}, Same H H2 → DGet H2 p (.str "calls") (some (.ref l2)) := fun e => p2 ▸ DGet.k (k := .inr "calls") (e _ _ p1)
    have lcs : cvs.length = cs.length := p4.1
    have c6 := ok.cle
    have lf : fs.length ≤ 3 := ok.fields.le
    have lrv : rvs.length = rls.length := al.1
    have hst : (rls.map fun _ => (0 : Int)) = rvs.map fun _ => 0 := by rw [List.map_const', List.map_const', lrv]
    refine fun tb o0 htb g0 => ?_
    have e1 : Same H (upd H tb (DnO P w tb o0 [])) := same_new (Same.refl H) htb
    have tb1 : DN P w K (upd H tb (DnO P w tb o0 [])) tb [] := ⟨o0, [], upd_same, rfl, fun i p x h => by simp at h⟩
    refine ⟨_, rfl, _, rfl, .ref p, ra, rvs, fs, rfl, pF.keep e1, e1 _ _ hra, lf, by omega, fun H2 v1 e2 nk1 => ?_⟩
    have nk1 : Nk K H2 (startK fs rls) v1 := by unfold startK; rw [hst]; exact nk1
    refine ⟨by show 1 ≤ sizeLine; decide, fun wl hwl => ?_⟩
    have hwl1 := none_of e2 hwl
    obtain ⟨wt, hwl0⟩ := upd_none hwl1
    have e12 : Same H H2 := e1.trans e2
    have e3 := same_new (o := .lst [v1]) e12 hwl
    have e3' := same_new (o := .lst [v1]) (Same.refl H2) hwl
    have w3 : upd H2 wl (.lst [v1]) wl = some (.lst [v1]) := upd_same
    have tb3 := (tb1.keep e2).keep e3'
    have nk3 := nk1.keep e3'
    generalize upd H2 wl (.lst [v1]) = H3 at e3 e3' w3 tb3 nk3 ⊢
    refine ⟨_, rfl, _, rfl, .ref p, ra, rvs, fs, rfl, pF.keep e3, e3 _ _ hra, lf, by omega, fun H4 sv e4 nk4 => ?_⟩
    have nk4 : Nk K H4 (startK fs rls) sv := by unfold startK; rw [hst]; exact nk4
    refine ⟨_, _, _, rfl, ?_⟩
    refine ⟨_, rfl, ?_⟩
    refine ⟨by decide, by decide, ?_⟩
    have e04 := e3.trans e4
    have hS0 : IsS fs n rls (startK fs rls) := ⟨0, _, _, rfl, ok.pos, List.length_map .., List.length_map ..⟩
    refine for_it walk_range (fun i σ H5 => GsI P w K p ra sv fs n cs rls H tb wl i σ H5) ?_ (fun _ _ _ _ _ => True.intro) ?_ ?_
    · refine ⟨[v1], e04, htb, hwl0, wt.symm, e4 _ _ w3, ⟨rfl, fun j x k h1 h2 => ?_⟩, ⟨[], tb3.keep e4, Pr.nil⟩, fun k hk => ?_, nofun, Nat.le_refl _, by show 1 ≤ 1 + 6 * 0; omega, nk4, none, none, none, none, none, none, rfl⟩
      · cases j with
        | zero =>
          cases h1
          cases h2
          exact nk3.keep e4
        | succ j => cases h1
      · obtain rfl := List.mem_singleton.mp hk
        exact hS0
    · rintro i x σ H5 H6 hi ⟨ws, e0, _, _, tw, hw, aw, fi, kw, kf, lfo, lwa, nst, x5, x6, x7, x8, x9, x10, rfl⟩ ⟨rfl, rfl⟩
      have gs := gsAll_succ (fs := fs) (rls := rls) (cs := cs) (n := i)
      show gName 5 (V.int (0 + (i : Int))) _ _ _
      rw [Int.zero_add]
      have lws : ws.length = (gsAll fs rls cs i).wait.length := aw.1
      have kst : IsS fs n rls ((gsAll fs rls cs i).wait.getD i (startK fs rls)) := by
        rw [List.getD_eq_getElem?_getD]
        cases hk : (gsAll fs rls cs i).wait[i]? with
        | none => exact hS0
        | some k => exact kw k (List.mem_of_getElem? hk)
      refine ⟨fun v H' => H' = H6 ∧ Nk K H6 ((gsAll fs rls cs i).wait.getD i (startK fs rls)) v, ?_, ?_⟩
      · refine ⟨_, rfl, _, rfl, .inl ⟨wl, ws, rfl, .inl (SqL.of hw), _, _, rfl, rfl, _, rfl, ite2 (fun g1 => ?_) (fun g1 => ?_)⟩⟩
        · have li : i < ws.length := by
            have := of_decide_eq_true g1
            omega
          have hy : ws[i]? = some (ws[i]'li) := List.getElem?_eq_getElem _
          obtain ⟨k, hk, nk⟩ := aw.get hy
          refine ⟨_, rfl, _, rfl, wl, ws, (i : Int), _, rfl, rfl, SqL.of hw, atI_nat hy, rfl, ?_⟩
          rw [List.getD_eq_getElem?_getD, hk]
          exact nk
        · have li : ¬ i < ws.length := fun z => g1 (decide_eq_true (by omega))
          refine ⟨_, rfl, rfl, ?_⟩
          rw [List.getD_eq_getElem?_getD, List.getElem?_eq_none (by omega)]
          exact nst
      rintro v H5 ⟨rfl, nk⟩
      unfold gsStep at gs
      generalize (gsAll fs rls cs i).wait.getD i (startK fs rls) = k at gs nk kst
      obtain ⟨kvs', dn5, pr5⟩ := id fi
      obtain ⟨b, bx, rfl, hb0⟩ := nk.ref kst.pl
      have dep : k.depth ≤ 8 := Nat.le_trans kst.pl.2 (by decide)
      have hsome : (valN kvs' k).isSome = decide (k ∈ (gsAll fs rls cs i).found.map (·.1)) := by rw [valN_getA, pr5.isSome, getA_isSome]
      refine ⟨_, rfl, _, rfl, tb, b, kvs', k, rfl, rfl, dn5, nk, dep, ?_⟩
      rw [hsome]
      refine ⟨_, rfl, ite2 (fun g2 => ?_) (fun g2 => ?_)⟩
      · have nin : k ∉ (gsAll fs rls cs i).found.map (·.1) := by simpa using g2
        rw [if_neg nin] at gs
        obtain ⟨m, bits, come, hkl, hm, lb, lc⟩ := kst
        refine ⟨_, rfl, p, .ref l2, rfl, hpd e0, l2, rfl, ⟨_, SqL.of (e0 _ _ p3)⟩, fun D hD => ?_⟩
        refine lc_it (walk_list (K := K) (a := l2) (xs := cvs)) (fun j H6 => Same H5 H6 ∧ ∃ zs, H6 D = some (.lst zs) ∧ Al (fun v k => Nk K H6 k v) zs ((kidsK fs rls cs k).take j)) ⟨same_new (Same.refl _) hD, [], upd_same, rfl, fun i x y h => by simp at h⟩ (fun j H6 _ h => SqL.of ((e0.trans h.1) _ _ p3)) ?_ ?_
        · rintro j v H6 H7 hj ⟨e6, zs, d6, a6⟩ ⟨rfl, hv⟩
          obtain ⟨cd, hcd, hcl⟩ := p4.get hv
          have mcd := List.mem_of_getElem? hcd
          have co := ok.calls cd mcd
          have e06 := e0.trans e6
          refine ⟨rfl, ?_⟩
          refine ⟨_, rfl, _, rfl, _, rfl, _, rfl, .ref p, .ref b, v, ra, rvs, fs, rls, m, bits, come, cd, rfl, pF.keep e06, e06 _ _ hra, al.mono fun _ _ h => Tu.keep e06 h, rl23, lf, lr, hkl ▸ nk.keep e6, by rw [co.len]; exact hm, lb, lc, CdL.keep e06 hcl, deeds5 co, fun H8 v' e8 nk' => ?_⟩
          have hz : (kidsK fs rls cs k)[j]? = some (goodK fs rls m bits come cd) := by
            unfold kidsK
            rw [List.getElem?_map, hcd, hkl]
            show some (goodOf fs rls _ cd) = _
            rw [goodOf_ls]
          have e68 := e6.trans e8
          have eD : Same H5 (upd H8 D (.lst (zs ++ [v']))) := fun c o hc => (upd_ne (fun z => by rw [z, hD] at hc; cases hc)).trans (e68 _ _ hc)
          have tkD : Tk H8 (upd H8 D (.lst (zs ++ [v']))) := Tk.upd (NoT.lst (e8 _ _ d6))
          refine ⟨zs, e8 _ _ d6, ?_, eD, zs ++ [v'], upd_same, ?_⟩
          · have h1 := a6.1
            rw [List.length_take] at h1
            show _ < 2 ^ 24
            have : (kidsK fs rls cs k).length ≤ 6 := by unfold kidsK; rw [List.length_map]; exact c6
            omega
          · rw [List.take_succ, hz]
            exact ((a6.mono fun _ _ h => (h.keep e8).tk tkD).snoc (nk'.tk tkD))
        · rintro H6 ⟨e6, zs, d6, a6⟩
          have lkk : cvs.length = (kidsK fs rls cs k).length := by unfold kidsK; rw [List.length_map, lcs]
          rw [lkk, List.take_length] at a6
          have dn6 := dn5.keep e6
          have lk : kvs'.length ≤ 3000 := by
            have h1 := pr5.1
            omega
          refine ⟨_, rfl, _, rfl, tb, b, kvs', k, rfl, rfl, dn6, nk.keep e6, dep, by show _ < 2 ^ 24; omega, fun φ dn7 => ?_⟩
          obtain ⟨oo, xx, dd⟩ := id dn6
          have tk7 : Tk H6 (upd H6 tb (.ext φ)) := Tk.upd (NoT.ext dd.at_)
          have Dtb : D ≠ tb := fun z => by rw [z] at hD; obtain ⟨_, _, q⟩ := id dn5; rw [q.at_] at hD; cases hD
          have Dwl : D ≠ wl := fun z => by rw [z, hw] at hD; cases hD
          have d7 : upd H6 tb (.ext φ) D = some (.lst zs) := (upd_ne Dtb).trans d6
          have w7 : upd H6 tb (.ext φ) wl = some (.lst ws) := (upd_ne tw.symm).trans (e6 _ _ hw)
          have tk57 : Tk H5 (upd H6 tb (.ext φ)) := (Tk.of e6).trans tk7
          have a7 := a6.mono fun _ _ h => h.tk tk7
          have s7 : Same (Wt [tb, wl] H5) (Wt [tb, wl] (upd H6 tb (.ext φ))) := by rw [wt_upd (by simp)]; exact wt_keep e6
          have e7 : Same H (upd H6 tb (.ext φ)) := fun c o hc => (upd_ne (fun z => by rw [z, htb] at hc; cases hc)).trans (e6 _ _ (e0 c o hc))
          have nk7 := nk.tk tk57
          have fi7 : FnI P w K (Wt [tb, wl] (upd H6 tb (.ext φ))) (upd H6 tb (.ext φ)) tb ((gsAll fs rls cs i).found ++ [(k, kidsK fs rls cs k)]) := by
            refine ⟨_, dn7, ?_⟩
            have ep : putA (gsAll fs rls cs i).found k (kidsK fs rls cs k) = (gsAll fs rls cs i).found ++ [(k, kidsK fs rls cs k)] := by
              have : (getA (gsAll fs rls cs i).found k).isSome = false := by rw [getA_isSome, decide_eq_false nin]
              unfold putA
              rw [this]
              rfl
            rw [putN_putA, ← ep]
            exact (pr5.mono fun _ _ h => h.tk s7 tk57).put ⟨D, zs, rfl, (wt_get (by simp [Dtb, Dwl])).trans d7, a7⟩
          have aw7 := aw.mono fun _ _ h => h.tk tk57
          have g7 : valN (putN kvs' k (.ref D)) k = some (.ref D) := by
            rw [valN_getA, putN_putA, getA_put]
          have nst7 := nst.tk tk57
          generalize upd H6 tb (.ext φ) = H7 at dn7 d7 w7 a7 e7 nk7 fi7 aw7 nst7 ⊢
          refine ⟨_, rfl, .inl ⟨rfl, _, SqL.of w7⟩, ?_⟩
          refine ⟨_, rfl, _, rfl, tb, b, _, k, .ref D, rfl, rfl, dn7, nk7, dep, g7, D, rfl, ⟨zs, SqL.of d7⟩, fun D2 hD2 => ?_⟩
          have okk : ∀ x ∈ kidsK fs rls cs k, OkSt fs n rls x := fun x hx => by
            unfold kidsK at hx
            obtain ⟨cd, hcd, rfl⟩ := List.mem_map.mp hx
            rw [hkl, goodOf_ls]
            exact goodK_ok (ok.calls cd hcd) hm lb lc
          refine lc_it (walk_list (K := K) (a := D) (xs := zs)) (fun j H2 => Same H7 H2 ∧ ∃ us, H2 D2 = some (.lst us) ∧ Al (fun v k => Nk K H2 k v) us (onK ((kidsK fs rls cs k).take j))) ⟨same_new (Same.refl _) hD2, [], upd_same, rfl, fun i x y h => by simp at h⟩ (fun j H2 _ h => .inl (.inl (h.1 _ _ d7))) ?_ ?_
          · rintro j x H8 H9 hj ⟨e8, us, u8, a8⟩ ⟨rfl, hx⟩
            obtain ⟨kk, hkk, nk2⟩ := a7.get hx
            have nk3 := nk2.keep e8
            have oks := (okk kk (List.mem_of_getElem? hkk)).st
            obtain ⟨d, d1, d2, d3, -⟩ := st_dp oks nk3
            have tk9 : ∀ y, Tk H9 (upd H9 D2 (.lst y)) := fun y => Tk.upd (NoT.lst u8)
            refine ⟨rfl, fun bb H10 => bb = (!decide (kk = .none) && !decide (kk = .text ("made" : Str))) ∧ H10 = H9, ?_, ?_⟩
            · have en : decide (x = V.non) = decide (kk = .none) := by
                refine decide_eq_decide.mpr ⟨fun e => ?_, fun e => ?_⟩
                · subst e
                  cases nk3
                  rfl
                · subst e
                  cases nk3
                  rfl
              refine ⟨_, rfl, rfl, _, rfl, ite2 (fun g => ?_) (fun g => ?_)⟩
              · have g : (!decide (x = V.non)) = true := g
                rw [en] at g
                rw [g, Bool.true_and, ← d3]
                exact ⟨_, rfl, d, .str "made", d1, .str _, d2, by decide +kernel, _, rfl, rfl, rfl⟩
              · have g : ¬ (!decide (x = V.non)) = true := g
                rw [en, Bool.not_eq_true] at g
                rw [g]
                exact ⟨rfl, rfl⟩
            rintro bb H9 ⟨rfl, rfl⟩
            refine ite2 (fun g => ?_) (fun g => ?_)
            · have eD2 : Same H7 (upd H9 D2 (.lst (us ++ [x]))) := fun c o hc => (upd_ne (fun z => by rw [z, hD2] at hc; cases hc)).trans (e8 _ _ hc)
              refine ⟨_, rfl, us, u8, ?_, eD2, us ++ [x], upd_same, ?_⟩
              · have h1 := a8.1
                have h2 : (onK ((kidsK fs rls cs k).take j)).length ≤ ((kidsK fs rls cs k).take j).length := List.length_filter_le _ _
                rw [List.length_take] at h2
                have : (kidsK fs rls cs k).length ≤ 6 := by unfold kidsK; rw [List.length_map]; exact c6
                show _ < 2 ^ 24
                omega
              · have : onK ((kidsK fs rls cs k).take (j + 1)) = onK ((kidsK fs rls cs k).take j) ++ [kk] := by
                  unfold onK
                  rw [List.take_succ, hkk, List.filter_append]
                  congr 1
                  show List.filter _ [kk] = [kk]
                  rw [List.filter_cons_of_pos (by exact g)]
                  rfl
                rw [this]
                exact (a8.mono fun _ _ h => h.tk (tk9 _)).snoc (nk3.tk (tk9 _))
            · refine ⟨e8, us, u8, ?_⟩
              have : onK ((kidsK fs rls cs k).take (j + 1)) = onK ((kidsK fs rls cs k).take j) := by
                unfold onK
                rw [List.take_succ, hkk, List.filter_append]
                show _ ++ List.filter _ [kk] = _
                rw [List.filter_cons_of_neg (by exact g)]
                exact List.append_nil _
              rw [this]
              exact a8
          · rintro H8 ⟨e8, us, u8, a8⟩
            have lzs : zs.length = (kidsK fs rls cs k).length := a7.1
            rw [lzs, List.take_length] at a8
            have lus := a8.1
            have lon : (onK (kidsK fs rls cs k)).length ≤ (kidsK fs rls cs k).length := List.length_filter_le _ _
            have l6 : (kidsK fs rls cs k).length ≤ 6 := by unfold kidsK; rw [List.length_map]; exact c6
            refine ⟨wl, D2, _, _, rfl, rfl, e8 _ _ w7, u8, ?_, ?_⟩
            · show _ ≤ 2 ^ 24
              omega
            · have tk8 : Tk H8 (upd H8 wl (.lst (ws ++ us))) := Tk.upd (NoT.lst (e8 _ _ w7))
              refine ⟨ws ++ us, fun c o hc => (upd_ne (fun z => by rw [z, hwl0] at hc; cases hc)).trans (e8 _ _ (e7 _ _ hc)), htb, hwl0, tw, upd_same, ?_, ?_, ?_, ?_, ?_, ?_, (nst7.keep e8).tk tk8, _, _, _, _, _, _, rfl⟩
              · rw [gs]
                exact al_append (aw7.mono fun _ _ h => (h.keep e8).tk tk8) (a8.mono fun _ _ h => h.tk tk8)
              · rw [gs]
                refine (fi7.tk (wt_keep e8) (Tk.of e8) ?_).tk (by rw [wt_upd (by simp)]; exact Same.refl _) tk8 (upd_ne tw)
                obtain ⟨_, ⟨_, _, q⟩, _⟩ := id fi7
                rw [q.at_]
                exact e8 _ _ q.at_
              · rw [gs]
                intro x hx
                rcases List.mem_append.mp hx with hx | hx
                · exact kw x hx
                · obtain ⟨hx, g⟩ := List.mem_filter.mp hx
                  rw [Bool.and_eq_true, Bool.not_eq_true', Bool.not_eq_true'] at g
                  rcases okk x hx with h | h | h
                  · exact absurd h (of_decide_eq_false g.1)
                  · exact absurd h (of_decide_eq_false g.2)
                  · exact h
              · rw [gs]
                intro x hx
                rcases List.mem_append.mp hx with hx | hx
                · exact kf x hx
                · rw [List.mem_singleton.mp hx]
                  exact ⟨m, bits, come, hkl, hm, lb, lc⟩
              · rw [gs]
                show ((gsAll fs rls cs i).found ++ _).length ≤ _
                rw [List.length_append, List.length_singleton]
                omega
              · rw [gs]
                show ((gsAll fs rls cs i).wait ++ _).length ≤ _
                rw [List.length_append]
                omega
      · have nin : k ∈ (gsAll fs rls cs i).found.map (·.1) := by simpa using g2
        rw [if_pos nin] at gs
        refine ⟨ws, e0, htb, hwl0, tw, hw, ?_, ?_, ?_, ?_, ?_, ?_, nst, _, _, _, _, _, _, rfl⟩
        · rw [gs]; exact aw
        · rw [gs]; exact fi
        · rw [gs]; exact kw
        · rw [gs]; exact kf
        · rw [gs]; omega
        · rw [gs]; omega
    · rintro σ H5 ⟨ws, e0, _, _, tw, hw, aw, fi, kw, kf, lfo, lwa, nst, x5, x6, x7, x8, x9, x10, rfl⟩
      have hnd := gsAll_nodup (fs := fs) (rls := rls) (cs := cs) (Int.toNat 3000)
      have lfo : (gsAll fs rls cs (Int.toNat 3000)).found.length ≤ 3000 := Nat.le_trans lfo (by decide)
      have q : ∀ (D : Addr) (H' : Hp), Same H H' → FnI P w K (Nu H H') H' D (leftOf (gsAll fs rls cs (Int.toNat 3000)).found (hopeAll (gsAll fs rls cs (Int.toNat 3000)).found (gsAll fs rls cs (Int.toNat 3000)).found.length)) → Q (.ref D) H' := q
      have kid := fun q => gsAll_kids (fs := fs) (rls := rls) (cs := cs) (Int.toNat 3000) q
      generalize hT : (gsAll fs rls cs (Int.toNat 3000)).found = T at fi kf lfo hnd q kid
      intro hd hhd
      refine ⟨upd_same, [(.inr "made", .bl true)], rfl, by decide, ?_⟩
      obtain ⟨oF, xsF, kvF, gF, prF, lx, lkv, key⟩ := fi.walk
      have e6 : Same H5 (upd (upd H5 hd (.dK [])) hd (.dK (mergeK [] [((.inr "made" : L2.Key), V.bl true)]))) := fun a o ha => by
        have n : a ≠ hd := ne_of_none ha hhd
        rw [upd_ne n, upd_ne n]
        exact ha
      have m6 : Mx P w K (upd (upd H5 hd (.dK [])) hd (.dK (mergeK [] [((.inr "made" : L2.Key), V.bl true)]))) hd (hopeV (hopeAll T 0)) := .inr (.inl ⟨[("made", .bl true)], upd_same, rfl⟩)
      generalize upd (upd H5 hd (.dK [])) hd (.dK (mergeK [] [((.inr "made" : L2.Key), V.bl true)])) = H6 at e6 m6 ⊢
      refine ⟨_, rfl, .inr ⟨tb, kvF, rfl, ⟨oF, xsF, gF.keep e6⟩, ?_⟩⟩
      rw [lkv]
      refine ⟨_, rfl, Int.le_trans (by decide) (Int.natCast_nonneg _), Int.lt_of_le_of_lt (b := 3000) (by omega) (by decide), ?_⟩
      refine for_it walk_range (fun i σ H7 => Same H5 H7 ∧ Mx P w K H7 hd (hopeV (hopeAll T i)) ∧ ∃ x5 x6 x7 x8 x10, σ = [some (.ref p), some (.ref ra), some (.ref tb), some (.ref wl), some sv, x5, x6, x7, x8, some (.ref hd), x10]) ⟨e6, m6, _, _, _, _, _, rfl⟩ (fun _ _ _ _ _ => True.intro) ?_ ?_
      · rintro i x σ H7 H8 hi ⟨e7, m7, x5, x6, x7, x8, x10, rfl⟩ ⟨rfl, rfl⟩
        refine ⟨_, rfl, tb, oF, xsF, rfl, e7 _ _ gF.at_, ?_⟩
        have hli : (hopeAll T i).length ≤ 9000001 := by
          have h1 := hopeAll_len (T := T) i
          have hT3 : T.length ≤ 3000 := by omega
          have hi3 : i ≤ 3000 := by rw [Int.toNat_natCast] at hi; omega
          have h2 : i * T.length ≤ 3000 * 3000 := Nat.mul_le_mul hi3 hT3
          generalize i * T.length = y at h1 h2
          omega
        refine for_it walk_keysN (fun j σ H8 => Same H5 H8 ∧ Mx P w K H8 hd (hopeV ((T.take j).foldl hopeStep (hopeAll T i))) ∧ ∃ x6 x7 x8, σ = [some (.ref p), some (.ref ra), some (.ref tb), some (.ref wl), some sv, some (.int (0 + (i : Int))), x6, x7, x8, some (.ref hd), x10]) ⟨e7, by rw [List.take_zero]; exact m7, x6, x7, x8, rfl⟩ (fun j σ H8 _ h => h.1 _ _ gF.at_) ?_ ?_
        · rintro j x σ H8 H9 hj ⟨e8, m8, x6, x7, x8, rfl⟩ ⟨rfl, z, hz, rfl⟩
          obtain ⟨qk, hq, nk, dep⟩ := key j z hz
          have mq := List.mem_of_getElem? hq
          have hgA : getA T qk.1 = some qk.2 := getA_of hnd (show (qk.1, qk.2) ∈ T from mq)
          obtain ⟨v, hv, hkv⟩ := prF.some hgA
          obtain ⟨l, ys, rfl, gl, alK⟩ := hkv
          have hl : H5 l = some (.lst ys) := by
            obtain ⟨_, hc⟩ := wt_some gl
            exact hc
          have hs : (T.take (j + 1)).foldl hopeStep (hopeAll T i) = hopeStep ((T.take j).foldl hopeStep (hopeAll T i)) qk := by
            rw [List.take_succ, hq, List.foldl_append]
            rfl
          have hlj : ((T.take j).foldl hopeStep (hopeAll T i)).length ≤ 9003001 := by
            have h1 := hope_len (T.take j) (hopeAll T i)
            rw [List.length_take] at h1
            omega
          rw [hs]
          generalize (T.take j).foldl hopeStep (hopeAll T i) = h at m8 hlj
          have dn8 : DN P w K H9 tb kvF := ⟨oF, xsF, gF.keep e8⟩
          have l8 := e8 _ _ hl
          have hok : ∀ x ∈ qk.2, x.depth ≤ 8 := fun x hx => (kids_ok ok (kf qk mq) x (by rw [← kid qk mq]; exact hx)).dep
          have lk6 : qk.2.length ≤ 6 := by rw [kid qk mq, kids_len]; exact c6
          refine ⟨_, rfl, _, rfl, tb, _, kvF, qk.1, .ref l, rfl, rfl, dn8, nk.keep e8, dep, hv, l, rfl, ⟨ys, SqL.of l8⟩, fun D hD => ?_⟩
          refine lc_it (walk_list (K := K) (a := l) (xs := ys)) (fun jj H10 => Same H9 H10 ∧ H10 D = some (.lst ((qk.2.take jj).map fun x => V.bl (decide (x ∈ h))))) ⟨same_new (Same.refl _) hD, upd_same⟩ (fun jj H10 _ h => .inl (.inl (h.1 _ _ l8))) ?_ ?_
          · rintro jj x H10 H11 hjj ⟨e10, d10⟩ ⟨rfl, hx⟩
            obtain ⟨kk, hkk, nkk⟩ := alK.get hx
            refine ⟨rfl, ?_⟩
            refine ⟨_, rfl, _, rfl, hd, hopeV h, kk, rfl, m8.keep e10, nkk.keep (e8.trans e10), hok kk (List.mem_of_getElem? hkk), _, d10, ?_, fun c o hc => (upd_ne (fun z => by rw [z, hD] at hc; cases hc)).trans (e10 _ _ hc), ?_⟩
            · rw [List.length_map, List.length_take]
              show _ < 2 ^ 24
              omega
            · rw [upd_same, List.take_succ, hkk, List.map_append, valN_hope]
              rfl
          · rintro H10 ⟨e10, d10⟩
            have lys : ys.length = qk.2.length := alK.1
            rw [lys, List.take_length] at d10
            have ga : (qk.2.map fun x => decide (x ∈ h)).any id = qk.2.any fun x => decide (x ∈ h) := by rw [List.any_map]; rfl
            refine ⟨D, qk.2.map fun x => decide (x ∈ h), rfl, SqL.of (by rw [d10, List.map_map]; rfl), _, rfl, ite2 (fun g => ?_) (fun g => ?_)⟩
            · rw [ga] at g
              refine ⟨_, rfl, _, rfl, hd, hopeV h, qk.1, rfl, m8.keep e10, (nk.keep e8).keep e10, dep, by unfold hopeV; rw [List.length_map]; show _ < 2 ^ 24; omega, fun φ m9 => ?_⟩
              refine ⟨fun c o hc => (upd_ne (fun z => by rw [z, hhd] at hc; cases hc)).trans (e10 _ _ (e8 _ _ hc)), ?_, _, _, _, rfl⟩
              rw [putN_hope] at m9
              unfold hopeStep
              rw [if_pos g]
              exact m9
            · rw [ga] at g
              refine ⟨e8.trans e10, ?_, _, _, _, rfl⟩
              unfold hopeStep
              rw [if_neg g]
              exact m8.keep e10
        · rintro σ H8 ⟨e8, m8, x6, x7, x8, rfl⟩
          have lT : xsF.length = T.length := lx
          rw [lT, List.take_length, ← hopeAll_succ] at m8
          exact ⟨e8, m8, _, _, _, _, _, rfl⟩
      · rintro σ H7 ⟨e7, m7, x5, x6, x7, x8, x10, rfl⟩
        rw [Int.toNat_natCast] at m7
        have hli : (hopeAll T T.length).length ≤ 9000001 := by
          have h1 := hopeAll_len (T := T) T.length
          have h2 : T.length * T.length ≤ 3000 * 3000 := Nat.mul_le_mul lfo lfo
          generalize T.length * T.length = y at h1 h2
          omega
        generalize hopeAll T T.length = hh at m7 hli q
        refine fun ld o1 hld g1 => ?_
        have h5ld := none_of e7 hld
        have ne_hd : hd ≠ ld := fun z => by
          rw [z] at m7
          exact m7.not_none hld
        have eN : Same H5 (upd H7 ld (DnO P w ld o1 [])) := same_new e7 hld
        have fN : FnI P w K (Nu H (Wt [ld] (upd H7 ld (DnO P w ld o1 [])))) (upd H7 ld (DnO P w ld o1 [])) ld (leftOf (T.take 0) hh) := ⟨[], ⟨o1, [], upd_same, rfl, fun i p x h => by simp at h⟩, Pr.nil⟩
        have mN : Mx P w K (Wt [ld] (upd H7 ld (DnO P w ld o1 []))) hd (hopeV hh) := by
          rw [wt_upd (by simp)]
          exact m7.keep fun c o hc => (wt_get (by simp; exact fun z => by rw [z, hld] at hc; cases hc)).trans hc
        refine ⟨_, rfl, tb, oF, xsF, rfl, eN _ _ gF.at_, ?_⟩
        refine for_it walk_keysN (fun j σ H8 => Same H5 H8 ∧ Mx P w K (Wt [ld] H8) hd (hopeV hh) ∧ FnI P w K (Nu H (Wt [ld] H8)) H8 ld (leftOf (T.take j) hh) ∧ ∃ x5 x6 x7 x8, σ = [some (.ref p), some (.ref ra), some (.ref tb), some (.ref wl), some sv, x5, x6, x7, x8, some (.ref hd), some (.ref ld)]) ⟨eN, mN, fN, _, _, _, _, rfl⟩ (fun j σ H8 _ h => h.1 _ _ gF.at_) ?_ ?_
        · rintro j x σ H8 H9 hj ⟨e8, m8, f8, x5, x6, x7, x8, rfl⟩ ⟨rfl, z, hz, rfl⟩
          obtain ⟨qk, hq, nk, dep⟩ := key j z hz
          have mq := List.mem_of_getElem? hq
          have hgA : getA T qk.1 = some qk.2 := getA_of hnd (show (qk.1, qk.2) ∈ T from mq)
          obtain ⟨v, hv, hkv⟩ := prF.some hgA
          obtain ⟨l, ys, rfl, gl, alK⟩ := hkv
          have hl : H5 l = some (.lst ys) := (wt_some gl).2
          have hsn := leftOf_snoc (h := hh) hq
          have hnw := leftOf_new (h := hh) hq hnd
          refine ⟨_, rfl, _, rfl, hd, hopeV hh, qk.1, rfl, m8.keep wt_same, nk.keep e8, dep, ?_⟩
          rw [valN_hope]
          refine ⟨_, rfl, ite2 (fun g2 => ?_) (fun g2 => ?_)⟩
          · have g3 : qk.1 ∈ hh := of_decide_eq_true g2
            rw [if_pos g3] at hsn
            have dn8 : DN P w K H9 tb kvF := ⟨oF, xsF, gF.keep e8⟩
            have l8 := e8 _ _ hl
            have hok : ∀ x ∈ qk.2, x.depth ≤ 8 := fun x hx => (kids_ok ok (kf qk mq) x (by rw [← kid qk mq]; exact hx)).dep
            have lk6 : qk.2.length ≤ 6 := by rw [kid qk mq, kids_len]; exact c6
            refine ⟨_, rfl, _, rfl, tb, _, kvF, qk.1, .ref l, rfl, rfl, dn8, nk.keep e8, dep, hv, l, rfl, ⟨ys, SqL.of l8⟩, fun D hD => ?_⟩
            refine lc_it (walk_list (K := K) (a := l) (xs := ys)) (fun jj H10 => Same H9 H10 ∧ ∃ us, H10 D = some (.lst us) ∧ Al (fun v k => Nk K H10 k v) us ((qk.2.take jj).map fun x => if x ∈ hh then x else .none)) ⟨same_new (Same.refl _) hD, [], upd_same, rfl, fun i x y h => by simp at h⟩ (fun jj H10 _ h => .inl (.inl (h.1 _ _ l8))) ?_ ?_
            · rintro jj x H10 H11 hjj ⟨e10, us, d10, a10⟩ ⟨rfl, hx⟩
              obtain ⟨kk, hkk, nkk⟩ := alK.get hx
              have nk11 := nkk.keep (e8.trans e10)
              refine ⟨rfl, ?_⟩
              refine ⟨fun v H' => H' = H11 ∧ Nk K H11 (if kk ∈ hh then kk else .none) v, ?_, ?_⟩
              · refine ⟨_, rfl, _, rfl, hd, hopeV hh, kk, rfl, (m8.keep wt_same).keep e10, nk11, hok kk (List.mem_of_getElem? hkk), ?_⟩
                rw [valN_hope]
                refine ⟨_, rfl, ite2 (fun g => ?_) (fun g => ?_)⟩
                · rw [if_pos (of_decide_eq_true g)]
                  exact ⟨_, rfl, rfl, nk11⟩
                · rw [if_neg (fun z => g (decide_eq_true z))]
                  exact ⟨rfl, .non⟩
              rintro v H12 ⟨rfl, nkv⟩
              have tk9 : ∀ y, Tk H12 (upd H12 D (.lst y)) := fun y => Tk.upd (NoT.lst d10)
              refine ⟨us, d10, ?_, fun c o hc => (upd_ne (fun z => by rw [z, hD] at hc; cases hc)).trans (e10 _ _ hc), us ++ [v], upd_same, ?_⟩
              · have h1 := a10.1
                rw [List.length_map, List.length_take] at h1
                show _ < 2 ^ 24
                omega
              · rw [List.take_succ, hkk, List.map_append]
                exact ((a10.mono fun _ _ h => h.tk (tk9 _)).snoc (nkv.tk (tk9 _)))
            · rintro H10 ⟨e10, us, d10, a10⟩
              have lys : ys.length = qk.2.length := alK.1
              rw [lys, List.take_length] at a10
              have f10 := f8.tk (nu_keep (wt_keep e10)) (Tk.of e10) (by
                obtain ⟨_, ⟨_, _, q⟩, _⟩ := id f8
                rw [q.at_]
                exact e10 _ _ q.at_)
              obtain ⟨kvs', dn6, pr6⟩ := id f10
              obtain ⟨oo, xx, dd⟩ := id dn6
              have l6 : kvs'.length ≤ 3000 := by
                have h1 := pr6.1
                have h2 := leftOf_len (T := T.take j) (h := hh)
                rw [List.length_take] at h2
                omega
              refine ⟨_, rfl, _, rfl, ld, _, kvs', qk.1, rfl, rfl, dn6, (nk.keep e8).keep e10, dep, by show _ < 2 ^ 24; omega, fun φ dn7 => ?_⟩
              have Dld : D ≠ ld := fun z => by
                rw [z] at hD
                obtain ⟨_, ⟨_, _, q⟩, _⟩ := id f8
                rw [q.at_] at hD
                cases hD
              have tk7 : Tk H10 (upd H10 ld (.ext φ)) := Tk.upd (NoT.ext dd.at_)
              have s7 : Same (Wt [ld] H10) (Wt [ld] (upd H10 ld (.ext φ))) := by rw [wt_upd (by simp)]; exact Same.refl _
              refine ⟨fun c o hc => (upd_ne (fun z => by rw [z, h5ld] at hc; cases hc)).trans (e10 _ _ (e8 _ _ hc)), ?_, ?_, _, _, _, _, rfl⟩
              · exact (m8.keep (wt_keep e10)).keep s7
              · refine ⟨_, dn7, ?_⟩
                have ep : putA (leftOf (T.take j) hh) qk.1 (qk.2.map fun x => if x ∈ hh then x else .none) = leftOf (T.take (j + 1)) hh := by
                  have : (getA (leftOf (T.take j) hh) qk.1).isSome = false := by rw [getA_isSome, decide_eq_false hnw]
                  unfold putA
                  rw [this, hsn]
                  rfl
                rw [putN_putA, ← ep]
                exact (pr6.mono fun _ _ h => h.tk (nu_keep s7) tk7).put ⟨D, us, rfl, (nu_get (none_of (e0.trans e8) hD)).trans <| (wt_get (by simpa using Dld)).trans ((upd_ne Dld).trans d10), a10.mono fun _ _ h => h.tk tk7⟩
          · have g3 : qk.1 ∉ hh := fun z => g2 (decide_eq_true z)
            rw [if_neg g3, List.append_nil] at hsn
            refine ⟨e8, m8, ?_, _, _, _, _, rfl⟩
            rw [hsn]
            exact f8
        · rintro σ H8 ⟨e8, m8, f8, x5, x6, x7, x8, rfl⟩
          rw [show xsF.length = T.length from lx, List.take_length] at f8
          exact ⟨.ref ld, rfl, q ld H8 (e0.trans e8) (f8.tk (nu_keep wt_same) (Tk.refl _) rfl)⟩
end
end MK
set_option Elab.async false
set_option linter.all false
set_option autoImplicit false
set_option maxRecDepth 100000
set_option maxHeartbeats 4000000
namespace MK
open PySem PySem.Spec PyProof.Rows L2
open C8 (Met pe_mt pe_mt0 Mak pe_mk)
local macro_rules | `(tactic| walk_at "x") => `(tactic| dsimp only [tSeq, tAsg, tRet, tDrop, tLst, tTup, tCons, tOp, tUn, tIfS])
theorem ix_mxK {X : Cx} {P : Program} {w : World} {K : PySem.W.Frag} (h1 : X.prog = P) (h2 : X.w = w) (h3 : X.K = K) (hu : X.A.units + 9 < cLine) : IxR X (rIxX P w K) := by subst h1 h2 h3; exact ix_mx hu
theorem ix_listK {X : Cx} {K : PySem.W.Frag} (h : X.K = K) : IxR X (rIxL K) := by subst h; exact ix_list
theorem sc_led_row : FnScope ["_law_state", "_law_p", "_law_rules_here", "_law_states", "_law_found", "_law_at", "_law_k", "_law_j", "_law_x", "_law_some", "_law_ends"] ["_law_state", "_law_p", "_law_rules_here"] (defScope s_led_row) := ⟨rfl, rfl, rfl, by decide +kernel, rfl, by decide +kernel, by decide +kernel⟩
/-- the numbers below n that have it -/
def ixs (p : Nat → Bool) (n : Nat) : List Nat := (List.range n).filter p
theorem ixs_succ (p : Nat → Bool) (n : Nat) : ixs p (n + 1) = ixs p n ++ if p n then [n] else [] := by
  unfold ixs
  rw [List.range_succ, List.filter_append]
  congr 1
  by_cases h : p n = true
  · rw [if_pos h]; simp [h]
  · rw [if_neg h]; simp [h]
theorem ixs_len (p : Nat → Bool) (n : Nat) : (ixs p n).length ≤ n := by
  unfold ixs
  have := List.length_filter_le p (List.range n)
  rwa [List.length_range] at this
theorem ixs_mem {p : Nat → Bool} {n j : Nat} : j ∈ ixs p n ↔ j < n ∧ p j = true := by
  unfold ixs
  rw [List.mem_filter, List.mem_range]
def hasK (ks : List NestedKey) (j : Nat) : Bool := match ks[j]? with
  | some x => !decide (x = .none)
  | none => false
def isMadeK (ks : List NestedKey) (j : Nat) : Bool := match ks[j]? with
  | some x => decide (x = .text ("made" : Str))
  | none => false
theorem ints_shaped (zs : List Int) : SeqAt.shaped (.list (zs.map PyData.int)) = true := by
  have d1 := ints_depth zs
  rw [SeqAt.shaped.eq_1, Bool.and_eq_true]
  refine ⟨?_, decide_eq_true ?_⟩
  · simp only [PyData.canLay0, ints_lay]
  · simp only [PyData.depth]
    omega
theorem gsAll_st {fs : List FD} {n : Nat} {rls : List (List Str)} {cs : List CD} (ok : KdOk fs n cs) : ∀ i, (∀ k ∈ (gsAll fs rls cs i).wait, IsS fs n rls k) ∧ ∀ q ∈ (gsAll fs rls cs i).found, IsS fs n rls q.1 := by
  have hS0 : IsS fs n rls (startK fs rls) := ⟨0, _, _, rfl, ok.pos, List.length_map .., List.length_map ..⟩
  intro i
  induction i with
  | zero =>
    refine ⟨fun k hk => ?_, fun q hq => (List.not_mem_nil hq).elim⟩
    rw [List.mem_singleton.mp hk]
    exact hS0
  | succ i ih =>
    have kst : IsS fs n rls ((gsAll fs rls cs i).wait.getD i (startK fs rls)) := by
      rw [List.getD_eq_getElem?_getD]
      cases hk : (gsAll fs rls cs i).wait[i]? with
      | none => exact hS0
      | some k => exact ih.1 k (List.mem_of_getElem? hk)
    rw [gsAll_succ]
    unfold gsStep
    split
    · exact ih
    · refine ⟨fun x hx => ?_, fun q hq => ?_⟩
      · rcases List.mem_append.mp hx with hx | hx
        · exact ih.1 x hx
        · obtain ⟨hx, g⟩ := List.mem_filter.mp hx
          rw [Bool.and_eq_true, Bool.not_eq_true', Bool.not_eq_true'] at g
          rcases kids_ok ok kst x hx with h | h | h
          · exact absurd h (of_decide_eq_false g.1)
          · exact absurd h (of_decide_eq_false g.2)
          · exact h
      · rcases List.mem_append.mp hq with hq | hq
        · exact ih.2 q hq
        · rw [List.mem_singleton.mp hq]
          exact kst
/-- where nothing leads to an end, nothing is kept -/
theorem hope_some {T : List (NestedKey × List NestedKey)} : ∀ n, ∀ k ∈ hopeAll T n, k = .text ("made" : Str) ∨ ∃ q ∈ T, q.1 = k ∧ ∃ x ∈ q.2, x ∈ hopeAll T n := by
  have step : ∀ (S : List (NestedKey × List NestedKey)) (h : List NestedKey), (∀ q ∈ S, q ∈ T) → (∀ k ∈ h, k = .text ("made" : Str) ∨ ∃ q ∈ T, q.1 = k ∧ ∃ x ∈ q.2, x ∈ h) → ∀ k ∈ S.foldl hopeStep h, k = .text ("made" : Str) ∨ ∃ q ∈ T, q.1 = k ∧ ∃ x ∈ q.2, x ∈ S.foldl hopeStep h := by
    intro S
    induction S with
    | nil => exact fun h _ i => i
    | cons q S ih =>
      intro h hS i
      refine ih (hopeStep h q) (fun r hr => hS r (List.mem_cons_of_mem _ hr)) ?_
      have sub : ∀ x ∈ h, x ∈ hopeStep h q := fun x hx => by
        unfold hopeStep
        split
        · split
          · exact hx
          · exact List.mem_append_left _ hx
        · exact hx
      intro k hk
      by_cases m : k ∈ h
      · rcases i k m with e | ⟨r, hr, e, x, hx, hxh⟩
        · exact .inl e
        · exact .inr ⟨r, hr, e, x, hx, sub x hxh⟩
      · unfold hopeStep at hk
        split at hk
        · rename_i ha
          split at hk
          · exact absurd hk m
          · rcases List.mem_append.mp hk with hk | hk
            · exact absurd hk m
            · obtain ⟨x, hx, hh⟩ := List.any_eq_true.mp ha
              exact .inr ⟨q, hS q List.mem_cons_self, (List.mem_singleton.mp hk).symm, x, hx, sub x (of_decide_eq_true hh)⟩
        · exact absurd hk m
  intro n
  induction n with
  | zero => exact fun k hk => .inl (List.mem_singleton.mp hk)
  | succ n ih =>
    rw [hopeAll_succ]
    exact step T _ (fun q h => h) ih
theorem left_mem {T : List (NestedKey × List NestedKey)} {h : List NestedKey} {q : NestedKey × List NestedKey} (m : q ∈ leftOf T h) : ∃ t ∈ T, t.1 = q.1 ∧ t.1 ∈ h ∧ q.2 = t.2.map fun x => if x ∈ h then x else .none := by
  unfold leftOf at m
  obtain ⟨t, ht, rfl⟩ := List.mem_map.mp m
  obtain ⟨h1, h2⟩ := List.mem_filter.mp ht
  exact ⟨t, h1, rfl, of_decide_eq_true h2, rfl⟩
/-- what is known of a state that is left -/
structure LeftQ (fs : List FD) (n : Nat) (cs : List CD) (rls : List (List Str)) (q : NestedKey × List NestedKey) : Prop where
  st : IsS fs n rls q.1
  len : q.2.length = cs.length
  any_ : ∃ j : Nat, j < cs.length ∧ hasK q.2 j = true
  at_ : ∀ (j : Nat) x, q.2[j]? = some x → x ≠ .none → ∃ cd, cs[j]? = some cd ∧ x = goodOf fs rls q.1 cd ∧ OkSt fs n rls x
theorem leftQ {fs : List FD} {n : Nat} {cs : List CD} {rls : List (List Str)} (ok : KdOk fs n cs) {q : NestedKey × List NestedKey} (m : q ∈ leftOf (gsT fs rls cs) (hopeAll (gsT fs rls cs) (gsT fs rls cs).length)) : LeftQ fs n cs rls q := by
  have hst : ∀ q ∈ gsT fs rls cs, IsS fs n rls q.1 := (gsAll_st ok _).2
  obtain ⟨t, ht, e, hh, eq2⟩ := left_mem m
  have nd : ((gsT fs rls cs).map (·.1)).Nodup := gsAll_nodup _
  have kid : t.2 = kidsK fs rls cs t.1 := gsAll_kids _ t ht
  have it := hst t ht
  have lt : t.2.length = cs.length := by rw [kid]; exact kids_len
  refine ⟨e ▸ it, by rw [eq2, List.length_map]; exact lt, ?_, fun j x hj hx => ?_⟩
  · rcases hope_some _ _ hh with e1 | ⟨r, hr, e1, x, hx, hxh⟩
    · exfalso
      obtain ⟨m, b, c, e2, _⟩ := it
      rw [e2] at e1
      cases e1
    · have : r = t := by
        have h1 := getA_of nd (show (r.1, r.2) ∈ _ from hr)
        have h2 := getA_of nd (show (t.1, t.2) ∈ _ from ht)
        rw [e1, h2] at h1
        exact Prod.ext e1 (Option.some.inj h1).symm
      subst this
      obtain ⟨j, hj⟩ := List.mem_iff_getElem?.mp hx
      have okx := kids_ok ok it x (by rw [← kid]; exact hx)
      refine ⟨j, by rw [← lt]; exact (List.getElem?_eq_some_iff.mp hj).1, ?_⟩
      unfold hasK
      rw [eq2, List.getElem?_map, hj]
      show (!decide ((if x ∈ _ then x else NestedKey.none) = .none)) = true
      rw [if_pos hxh]
      have : x ≠ .none := fun z => by
        rcases hope_some _ _ hxh with e1 | ⟨r', hr', e1, _⟩
        · rw [z] at e1; cases e1
        · have := hst r' hr'
          rw [e1, z] at this
          obtain ⟨_, _, _, e2, _⟩ := this
          cases e2
      rw [decide_eq_false this]
      rfl
  · rw [eq2, List.getElem?_map] at hj
    obtain ⟨y, hy, rfl⟩ := Option.map_eq_some_iff.mp hj
    split at hx
    · rename_i g
      rw [if_pos g]
      have hy2 := hy
      rw [kid] at hy
      unfold kidsK at hy
      rw [List.getElem?_map] at hy
      obtain ⟨cd, hcd, rfl⟩ := Option.map_eq_some_iff.mp hy
      exact ⟨cd, hcd, by rw [e], kids_ok ok it _ (by rw [← kid]; exact List.mem_of_getElem? hy2)⟩
    · exact absurd rfl hx
theorem FnI.keepG {P : Program} {w : World} {K : PySem.W.Frag} {X X' : Hp} {d : Addr} {T : List (NestedKey × List NestedKey)} (e : Same X X') (h : FnI P w K X X d T) : FnI P w K X' X' d T := h.tk e (Tk.of e) (by
  obtain ⟨_, ⟨_, _, q⟩, _⟩ := id h
  rw [q.at_]
  exact e _ _ q.at_)
theorem tk_wt {M : List Addr} {H : Hp} (h : ∀ a ∈ M, NoT H a) : Tk H (Wt M H) := fun a xs r => by
  have n : a ∉ M := fun m => h a m xs r
  rcases r with r | ⟨o, r⟩
  · exact .inl ((wt_get n).trans r)
  · exact .inr ⟨o, (wt_get n).trans r⟩
theorem law_go {fs : List FD} {n : Nat} {cs : List CD} {rls : List (List Str)} {k : NestedKey} {j : Nat} {cd : CD} (st : IsS fs n rls k) (h : cs[j]? = some cd) (nd : (cs.map (·.nm)).Nodup) : lawStep fs rls cs k (.str cd.nm) = some (goodOf fs rls k cd) := by
  obtain ⟨m, b, c, e, _⟩ := st
  show (if k = .none ∨ k = .text ("made" : Str) then none else (cs.find? fun c => decide (c.nm = cd.nm)).map (goodOf fs rls k)) = _
  rw [if_neg (fun z => by rcases z with z | z <;> rw [e] at z <;> cases z)]
  have : cs.find? (fun c => decide (c.nm = cd.nm)) = some cd := by
    have mc := List.mem_of_getElem? h
    clear h e
    induction cs with
    | nil => cases mc
    | cons x cs ih =>
      rw [List.map_cons, List.nodup_cons] at nd
      rcases List.mem_cons.mp mc with rfl | mc
      · rw [List.find?_cons_of_pos (by simp)]
      · rw [List.find?_cons_of_neg (by
          intro z
          exact nd.1 (by rw [of_decide_eq_true z]; exact List.mem_map_of_mem mc))]
        exact ih nd.2 mc
  rw [this]
  rfl
def spLed (K : PySem.W.Frag) : Sp := fun vs H Q _ => ∃ (s c : Addr) (ns : List Int) (pq : V) (ra : Addr) (rvs : List V) (fs : List FD) (n : Nat) (cs : List CD) (rls : List (List Str)), vs = [.ref s, pq, .ref ra] ∧ StA H s c ns ∧ ns.length ≤ 63 ∧ LpFg K (Off s H) pq fs ∧ LpC K (Off s H) pq cs ∧ KdOk fs n cs ∧ Off s H ra = some (.lst rvs) ∧ Al (RuT K (Off s H)) rvs rls ∧ (∀ r ∈ rls, r.length = 2 ∨ r.length = 3) ∧ rls.length ≤ 3 ∧
  ∀ v H', SameX s H H' → StA H' s c ns → (v = .non ∨ ∃ (l : Addr) (zs : List Str), v = .ref l ∧ H l = none ∧ l ≠ s ∧ H' l = some (.lst (zs.map V.str)) ∧ zs.length ≤ 12 ∧ 0 < zs.length ∧ (∀ z ∈ zs, z ∈ cs.map (·.nm)) ∧ (zs.map Dt.str).foldlM (lawStep fs rls cs) (startK fs rls) = some (.text ("made" : Str))) → Q v H'
section
variable {P : Program} {w : World} {K : PySem.W.Frag} {mg : Str → Option Value} {base : Heap}
theorem ok_led {f : Addr} {fd : FuncData} (F : DefX K mg "_law_led_row" s_led_row ["_law_state", "_law_p", "_law_rules_here"] f fd) (T : Txt K mg) (c_good_start : Cal P w K mg base CX0 1 "_law_good_start" (spGStart K)) (c_good_states : Cal P w K mg base CX0 3 "_law_good_states" (spGStates P w K)) (c_one : Cal P w K mg base CX0 3 "_law_one" (spOne K)) : Cal P w K mg base CX0 4 "_law_led_row" (spLed K) := by
  refine cal_mk F sc_led_row (fun vs H Q E h => ?_) (fun cdv A outer sh H vs Q E hr h => ?_)
  · obtain ⟨s, c, ns, pq, ra, _, _, _, _, _, rfl, _⟩ := h
    rfl
  · obtain ⟨s, c, ns, pq, ra, rvs, fs, n, cs, rls, rfl, h0, hl, pF, pC, ok, hra, al, rl23, lr, q⟩ := h
    refine ⟨_, (pss_cons (ps_asg (pe_tup (pa_cons (pe_c c_good_states hr (by first | decide | assumption) rfl (pa_cons (pv 1) (pa_cons (pv 2) pa_nil))) (pa_cons (pe_lst pa_nil) pa_nil))) (pg_tup (by rfl) (pgs_cons (pg_name (i := 3) sc_led_row.nd rfl (Or.inr rfl)) (pgs_cons (pg_name (i := 4) sc_led_row.nd rfl (Or.inl rfl)) pgs_nil))))
(pss_cons (ps_set (i := 5) sc_led_row.nd rfl (Or.inr rfl) (pe_c c_good_start hr (by first | decide | assumption) rfl (pa_cons (pv 1) (pa_cons (pv 2) pa_nil))))
(pss_cons (ps_for PassesOwn.never rfl (pi_range1 (by rfl) T.range (pa_cons pe_int pa_nil)) (pg_name (i := 6) sc_led_row.nd rfl (Or.inl rfl))
(pss_one (ps_if (pt_cmpR (op_inXK (P := P) (w := w) (K := K) rfl rfl rfl (u9 hr)) (pv 5) (pv 3) (by rfl))
(pss_cons (ps_setLc (i := 9) (own := [("_law_j", 7), ("_law_x", 8)]) (g := (gTup K 2 (gCons (gName 7) (gCons (gName 8) gNil)))) rfl sc_led_row.nd rfl rfl (sw_true rfl rfl rfl (by decide +kernel)) (pi_enum (by rfl) T.enumerate (pa_cons (pe_ix (ix_mxK (P := P) (w := w) (K := K) rfl rfl rfl (u9 hr)) (pv 3) (pv 5) (fun _ _ => rfl)) pa_nil)) (blkOk_by (own := [("_law_j", 7), ("_law_x", 8)]) (N := ["_law_state", "_law_p", "_law_rules_here", "_law_states", "_law_found", "_law_at", "_law_k", "_law_j", "_law_x", "_law_some", "_law_ends"]) (sc := defScope s_led_row) (by decide +kernel)) (fun _ _ _ _ _ => (pg_tup (by rfl) (pgs_cons (pg_name (i := 7) sc_led_row.nd rfl (Or.inl rfl)) (pgs_cons (pg_name (i := 8) sc_led_row.nd rfl (Or.inl rfl)) pgs_nil)))) (fun _ _ _ _ _ => (pts_one (pt_cmpR op_notN (pv 8) pe_non (nomark _)))) (fun _ _ _ _ _ => (pv 7)))
(pss_cons (ps_setLc (i := 10) (own := [("_law_j", 7)]) (g := (gName 7)) rfl sc_led_row.nd rfl rfl (sw_true rfl rfl rfl (by decide +kernel)) (pi_list (pv 9)) (blkOk_by (own := [("_law_j", 7)]) (N := ["_law_state", "_law_p", "_law_rules_here", "_law_states", "_law_found", "_law_at", "_law_k", "_law_j", "_law_x", "_law_some", "_law_ends"]) (sc := defScope s_led_row) (by decide +kernel)) (fun _ _ _ _ _ => (pg_name (i := 7) sc_led_row.nd rfl (Or.inl rfl))) (fun _ _ _ _ _ => (pts_one (pt_cmpR (op_eqDK (K := K) rfl (room64 hr)) (pe_ix (ix_listK (K := K) rfl) (pe_ix (ix_mxK (P := P) (w := w) (K := K) rfl rfl rfl (u9 hr)) (pv 3) (pv 5) (fun _ _ => rfl)) (pv 7) (fun _ _ => rfl)) pe_str (nomark _)))) (fun _ _ _ _ _ => (pv 7)))
(pss_cons (ps_set (i := 7) sc_led_row.nd rfl (Or.inl rfl) (pe_c c_one hr (by first | decide | assumption) rfl (pa_cons (pv 0) (pa_cons (pe_cut (pe_ifExp (pt_cut (PW.pt (pw_and (pt_cmpR (op_neDK (K := K) rfl (room64 hr)) (pv 10) (pe_lst pa_nil) (nomark _)) (pw_and1 (pt_cmpR op_gt (pv 6) pe_int (nomark _)))))) (pv 10) (pv 9))) pa_nil))))
(pss_cons (ps_expr (pe_bm PySem.F.plainAttrs_list PySem.F.slot_list_append PySem.F.type_list_append mt_append (pv 4) (pa_cons (pe_ix ix_tup (pe_ix ix_list (pe_dget (hu_of hr) (pv 1) pe_str (fun _ _ => rfl)) (pv 7) (fun _ _ => rfl)) pe_int (fun _ _ => rfl)) pa_nil)))
(pss_one (ps_set (i := 5) sc_led_row.nd rfl (Or.inr rfl) (pe_ix ix_list (pe_ix (ix_mxK (P := P) (w := w) (K := K) rfl rfl rfl (u9 hr)) (pv 3) (pv 5) (fun _ _ => rfl)) (pv 7) (fun _ _ => rfl))))))))
pss_nil)))
(pss_one (ps_ret (pe_cut (pe_ifExp (pt_cmpR (op_eqDK (K := K) rfl (room64 hr)) (pv 5) pe_str (nomark _)) (pv 4) pe_non))))))), ?_⟩
    obtain ⟨p, l2, cvs, kvs, rfl, p1, p2, p3, p4⟩ := id pC
    have lcs : cvs.length = cs.length := p4.1
    have c6 := ok.cle
    have lf : fs.length ≤ 3 := ok.fields.le
    have lrv : rvs.length = rls.length := al.1
    have hst : (rls.map fun _ => (0 : Int)) = rvs.map fun _ => 0 := by rw [List.map_const', List.map_const', lrv]
    have hs0 : ∀ {H' : Hp}, StA H' s c ns → ∃ xs, H' s = some (.lst xs) := fun h => by
      obtain ⟨_, _, _, _, _, e⟩ := h
      exact ⟨_, e⟩
    refine ⟨_, rfl, _, rfl, .ref p, ra, rvs, fs, n, cs, rls, rfl, LpFg.keep off_same pF, LpC.keep off_same pC, ok, off_same _ _ hra, al.mono fun _ _ h => Tu.keep off_same h, rl23, lr, fun D H1 e1 fD => ?_⟩
    have Dc : ∃ o xs, H1 D = some (DnO P w D o xs) := by
      obtain ⟨_, ⟨o, xs, q⟩, _⟩ := id fD
      exact ⟨o, xs, q.at_⟩
    have hS : H s ≠ none := fun z => by
      obtain ⟨xs, e⟩ := hs0 h0
      rw [z] at e
      cases e
    have sD : D ≠ s := fun z => by
      obtain ⟨o, xs, e⟩ := Dc
      obtain ⟨ys, e'⟩ := hs0 (h0.keep e1)
      rw [z, e'] at e
      cases e
    refine ⟨by show 0 ≤ sizeLine; decide, fun l hll => ?_⟩
    have hl0 : H l = none := none_of e1 hll
    have ls : l ≠ s := fun z => hS (z ▸ hl0)
    have lD : D ≠ l := fun z => by
      obtain ⟨o, xs, e⟩ := Dc
      rw [z, hll] at e
      cases e
    refine ⟨by show 2 ≤ sizeLine; decide, fun t ht => ?_⟩
    obtain ⟨tl_, ht1⟩ := upd_none ht
    have e12 : Same H1 (upd (upd H1 l (.lst [])) t (.tup [.ref D, .ref l])) := same_new (same_new (Same.refl H1) hll) ht
    have l2_ : upd (upd H1 l (.lst [])) t (.tup [.ref D, .ref l]) l = some (.lst []) := (upd_ne (Ne.symm tl_)).trans upd_same
    refine ⟨t, _, rfl, SqT.of upd_same, rfl, _, _, rfl, _, _, rfl, rfl, ?_⟩
    generalize upd (upd H1 l (.lst [])) t (.tup [.ref D, .ref l]) = H2 at e12 l2_ ⊢
    have f2 : FnI P w K (Wt [s, l] H2) (Wt [s, l] H2) D (leftOf (gsT fs rls cs) (hopeAll (gsT fs rls cs) (gsT fs rls cs).length)) := by
      have mv : ∀ {a : Addr} {o : HO}, H1 a = some o → a ≠ s → Wt [s, l] H2 a = some o := fun {a o} h n => by
        have nl : a ≠ l := fun z => by rw [z, hll] at h; cases h
        rw [wt_get (by simp [n, nl])]
        exact e12 _ _ h
      refine fD.tk (fun a o h => ?_) (fun a xs h => ?_) ?_
      · obtain ⟨n, h⟩ := nu_some h
        exact mv h fun z => hS (z ▸ n)
      · refine (tk_wt fun b hb => ?_) a xs (Tk.of e12 a xs h)
        rcases List.mem_cons.mp hb with rfl | hb
        · exact NoT.lst (hs0 (h0.keep (e1.trans e12))).choose_spec
        · rw [List.mem_singleton.mp hb]
          exact NoT.lst l2_
      · obtain ⟨o, xs, e⟩ := Dc
        rw [e]
        exact mv e sD
    have hL : ∀ q ∈ leftOf (gsT fs rls cs) (hopeAll (gsT fs rls cs) (gsT fs rls cs).length), LeftQ fs n cs rls q := fun q m => leftQ ok m
    generalize leftOf (gsT fs rls cs) (hopeAll (gsT fs rls cs) (gsT fs rls cs).length) = L at f2 hL
    have g2 : Same (Off s H) H2 := off_same.trans (e1.trans e12)
    refine ⟨_, rfl, _, rfl, .ref p, ra, rvs, fs, rfl, LpFg.keep g2 pF, g2 _ _ hra, lf, by omega, fun H3 av e3 nk3 => ?_⟩
    have nk3 : Nk K H3 (startK fs rls) av := by unfold startK; rw [hst]; exact nk3
    have h3 := h0.keep ((e1.trans e12).trans e3)
    have nkW : Nk K (Wt [s, l] H3) (startK fs rls) av := nk3.tk (tk_wt fun b hb => by
      rcases List.mem_cons.mp hb with rfl | hb
      · exact NoT.lst (hs0 h3).choose_spec
      · rw [List.mem_singleton.mp hb]
        exact NoT.lst (e3 _ _ l2_))
    refine ⟨_, rfl, by decide, by decide, ?_⟩
    refine for_it walk_range (fun i σ H5 => SameX s H H5 ∧ StA H5 s c ns ∧ FnI P w K (Wt [s, l] H5) (Wt [s, l] H5) D L ∧ ∃ (zs : List Str) (k : NestedKey) (av : V) (x6 x7 x8 x9 x10 : Option V), σ = [some (.ref s), some (.ref p), some (.ref ra), some (.ref D), some (.ref l), some av, x6, x7, x8, x9, x10] ∧ H5 l = some (.lst (zs.map V.str)) ∧ Nk K (Wt [s, l] H5) k av ∧ OkSt fs n rls k ∧ zs.length ≤ i ∧ (∀ z ∈ zs, z ∈ cs.map (·.nm)) ∧ (zs.map Dt.str).foldlM (lawStep fs rls cs) (startK fs rls) = some k)
      ⟨same_sx ((e1.trans e12).trans e3), h3, f2.keepG (wt_keep e3), [], startK fs rls, av, _, _, _, _, _, rfl, e3 _ _ l2_, nkW, .inr (.inr ⟨0, _, _, rfl, ok.pos, List.length_map .., List.length_map ..⟩), Nat.le_refl _, nofun, rfl⟩ (fun _ _ _ _ _ => trivial) ?_ ?_
    · rintro i x σ H4 H5 hi ⟨e5, h5, f5, zs, k, av, x6, x7, x8, x9, x10, rfl, l5, nk5, okk, lz, mz, fz⟩ ⟨rfl, rfl⟩
      have hi12 : i < 12 := hi
      obtain ⟨kvs5, dn5, pr5⟩ := id (f5.keepG wt_same)
      have nkR := nk5.keep wt_same
      have dpk := okk.dep
      have hsome : (valN kvs5 k).isSome = decide (k ∈ L.map (·.1)) := by rw [valN_getA, pr5.isSome, getA_isSome]
      refine ⟨_, rfl, _, rfl, D, kvs5, k, rfl, .inr (.inr dn5), nkR, dpk, ?_⟩
      rw [hsome]
      refine ⟨_, rfl, ite2 (fun g => ?_) (fun g => ?_)⟩
      · have mk : k ∈ L.map (·.1) := of_decide_eq_true g
        obtain ⟨b, hgL⟩ : ∃ b, getA L k = some b := Option.isSome_iff_exists.mp (by rw [getA_isSome]; exact g)
        have LQ := hL _ (getA_some hgL)
        obtain ⟨v, hv, hkv⟩ := pr5.some hgL
        obtain ⟨kl, ys, rfl, hl5, alK⟩ := hkv
        have lys : ys.length = b.length := alK.1
        have lb6 : b.length = cs.length := LQ.len
        refine ⟨_, rfl, _, rfl, D, kvs5, k, .ref kl, rfl, .inr (.inr dn5), nkR, dpk, hv, kl, ys, rfl, SqL.of hl5, fun N hN => ?_⟩
        refine lc_it (walk_enum (K := K) (a := kl) (xs := ys)) (fun j Hi => Same H5 Hi ∧ Hi N = some (.lst ((ixs (hasK b) j).map fun k => V.int (k : Nat)))) ⟨same_new (Same.refl H5) hN, upd_same⟩ (fun j Hi _ h => SqL.of (h.1 _ _ hl5)) ?_ ?_
        · rintro j v H6 H7 hj ⟨e6, d6⟩ ⟨U, y1, y2, rfl, hU, rfl, h1, hv2⟩
          obtain rfl := Option.some.inj h1
          obtain ⟨kk, hkk, nkk⟩ := alK.get hv2
          have e7 := same_new (Same.refl H6) hU (o := .tup [.int (j : Nat), y2])
          have e67 := e6.trans e7
          have d7 := e7 _ _ d6
          have nl := ixs_len (hasK b) j
          have hk : hasK b j = !decide (kk = .none) := by unfold hasK; rw [hkk]
          have en : decide (y2 = V.non) = decide (kk = .none) := by
            refine decide_eq_decide.mpr ⟨fun e => ?_, fun e => ?_⟩
            · subst e
              cases nkk
              rfl
            · subst e
              cases nkk
              rfl
          refine ⟨U, _, rfl, SqT.of upd_same, rfl, _, _, rfl, _, _, rfl, rfl, rfl, ?_⟩
          generalize upd H6 U (.tup [.int (j : Nat), y2]) = H8 at e67 d7
          refine ⟨_, rfl, rfl, _, rfl, ite2 (fun g => ?_) (fun g => ?_)⟩
          · have g : (!decide (y2 = V.non)) = true := g
            rw [en, ← hk] at g
            refine ⟨_, rfl, _, d7, ?_, fun c o hc => ?_, ?_⟩
            · rw [List.length_map]
              show _ < 2 ^ 24
              omega
            · rw [upd_ne (ne_of_none hc hN)]
              exact e67 _ _ hc
            · rw [upd_same, ixs_succ, if_pos g, List.map_append]
              rfl
          · have g : ¬ (!decide (y2 = V.non)) = true := g
            rw [en, ← hk] at g
            refine ⟨e67, ?_⟩
            rw [ixs_succ, if_neg g, List.append_nil]
            exact d7
        · rintro H6 ⟨e6, d6⟩
          rw [lys] at d6
          have dn6 := dn5.keep e6
          have nk6 := nkR.keep e6
          have hl6 := e6 _ _ hl5
          refine ⟨_, rfl, N, rfl, ⟨_, SqL.of d6⟩, fun N2 hN2 => ?_⟩
          refine lc_it (walk_list (K := K) (a := N) (xs := (ixs (hasK b) b.length).map fun k => V.int (k : Nat))) (fun j Hi => Same H6 Hi ∧ Hi N2 = some (.lst ((((ixs (hasK b) b.length).take j).filter (isMadeK b)).map fun k => V.int (k : Nat)))) ⟨same_new (Same.refl H6) hN2, upd_same⟩ (fun j Hi _ h => .inl (.inl (h.1 _ _ d6))) ?_ ?_
          · rintro j v H7 H8 hj ⟨e7, d7⟩ ⟨rfl, hv2⟩
            rw [List.getElem?_map] at hv2
            obtain ⟨jj, hjj, rfl⟩ := Option.map_eq_some_iff.mp hv2
            obtain ⟨ljj, pjj⟩ := ixs_mem.mp (List.mem_of_getElem? hjj)
            have hy : ys[jj]? = some (ys[jj]'(by omega)) := List.getElem?_eq_getElem _
            obtain ⟨kk, hkk, nky⟩ := alK.get hy
            have okk2 : OkSt fs n rls kk := by
              by_cases z : kk = .none
              · exact .inl z
              · obtain ⟨_, _, _, o⟩ := LQ.at_ jj kk hkk z
                exact o
            obtain ⟨d, q1, q2, q3, -⟩ := st_dp okk2.st (nky.keep (e6.trans e7))
            have im : isMadeK b jj = decide (kk = .text ("made" : Str)) := by unfold isMadeK; rw [hkk]
            have lt6 : (((ixs (hasK b) b.length).take j).filter (isMadeK b)).length ≤ 6 := by
              have a1 := List.length_filter_le (isMadeK b) ((ixs (hasK b) b.length).take j)
              rw [List.length_take] at a1
              have a2 := ixs_len (hasK b) b.length
              omega
            refine ⟨rfl, ?_⟩
            refine ⟨_, rfl, _, rfl, D, kvs5, k, .ref kl, rfl, .inr (.inr (dn6.keep e7)), nk6.keep e7, dpk, hv, _, rfl, kl, ys, (jj : Int), _, rfl, rfl, SqL.of (e7 _ _ hl6), atI_nat hy, d, .str "made", q1, .str _, q2, by decide +kernel, _, rfl, ?_⟩
            rw [q3, ← im]
            refine ite2 (fun g => ?_) (fun g => ?_)
            · refine ⟨_, rfl, _, d7, ?_, fun c o hc => ?_, ?_⟩
              · rw [List.length_map]
                show _ < 2 ^ 24
                omega
              · rw [upd_ne (ne_of_none hc hN2)]
                exact e7 _ _ hc
              · rw [upd_same, List.take_succ, hjj, List.filter_append, List.map_append]
                simp [g]
            · refine ⟨e7, ?_⟩
              rw [List.take_succ, hjj, List.filter_append]
              have : List.filter (isMadeK b) (some jj).toList = [] := by simp [g]
              rw [this, List.append_nil]
              exact d7
          · rintro H7 ⟨e7, d7⟩
            rw [List.length_map, List.take_length] at d7
            have e57 := e6.trans e7
            have d67 := e7 _ _ d6
            have a2 := ixs_len (hasK b) b.length
            have a1 := List.length_filter_le (isMadeK b) (ixs (hasK b) b.length)
            obtain ⟨j0, lj0, pj0⟩ := LQ.any_
            have posI : 0 < (ixs (hasK b) b.length).length := List.length_pos_of_mem (ixs_mem.mpr ⟨lb6 ▸ lj0, pj0⟩)
            have mI : ∀ j ∈ ixs (hasK b) b.length, j < b.length ∧ hasK b j = true := fun j h => ixs_mem.mp h
            have mE : ∀ j ∈ (ixs (hasK b) b.length).filter (isMadeK b), j < b.length ∧ hasK b j = true := fun j h => mI j (List.mem_filter.mp h).1
            generalize (ixs (hasK b) b.length).filter (isMadeK b) = Es at d7 a1 mE
            generalize ixs (hasK b) b.length = Is at d67 a2 a1 posI mI
            have h7 := h5.keep e57
            have sN : N ≠ s := fun z => by
              obtain ⟨ys, e'⟩ := hs0 h5
              rw [← z, hN] at e'
              cases e'
            have sN2 : N2 ≠ s := fun z => by
              obtain ⟨ys, e'⟩ := hs0 (h5.keep e6)
              rw [← z, hN2] at e'
              cases e'
            refine ⟨_, rfl, fun v H' => Same H7 H' ∧ ∃ (a : Addr) (js : List Nat), v = .ref a ∧ H' a = some (.lst (js.map fun k => V.int (k : Nat))) ∧ 0 < js.length ∧ js.length ≤ 6 ∧ a ≠ s ∧ ∀ j ∈ js, j < b.length ∧ hasK b j = true, ?_, ?_⟩
            · refine ⟨fun bb H' => Same H7 H' ∧ (bb = true → Es ≠ []), ?_, ?_⟩
              · refine ⟨_, rfl, by show 0 ≤ sizeLine; decide, fun p0 hp0 => ?_⟩
                have e8 := same_new (Same.refl H7) hp0 (o := .lst [])
                have cv : (Es.map fun k => V.int (k : Nat)) = (Es.map fun k : Nat => (k : Int)).map V.int := by rw [List.map_map]; rfl
                refine ⟨_, _, .lst (SqL.of (e8 _ _ d7)) (cv ▸ dp_ints _), .lst (SqL.of upd_same) .nil, ints_shaped _, ints_shaped [], _, rfl, ite2 (fun g => ?_) (fun g => ?_)⟩
                · have hE : Es ≠ [] := fun z => by
                    subst z
                    simp [PyData.eqv, PyData.eqvAll] at g
                  exact ⟨_, rfl, _, _, rfl, rfl, _, rfl, e8, fun _ => hE⟩
                · exact ⟨e8, nofun⟩
              · rintro bb H8 ⟨e8, hb⟩
                refine ite2 (fun g => ?_) (fun g => ?_)
                · exact ⟨_, rfl, e8, N2, Es, rfl, e8 _ _ d7, List.length_pos_iff.mpr (hb g), by omega, sN2, mE⟩
                · exact ⟨_, rfl, e8, N, Is, rfl, e8 _ _ d67, posI, by omega, sN, mI⟩
            · rintro v H8 ⟨e8, a, js, rfl, ja, jp, jl, sa, jm⟩
              have h8 := h7.keep e8
              refine ⟨s, c, a, ns, _, rfl, h8, hl, sa, .inl (SqL.of ja), by rw [List.length_map]; exact jp, by rw [List.length_map]; omega, fun d v2 H9 hd e9 h9 => ?_⟩
              rw [List.getElem?_map] at hd
              obtain ⟨j, hj, rfl⟩ := Option.map_eq_some_iff.mp hd
              obtain ⟨lj, pj⟩ := jm j (List.mem_of_getElem? hj)
              have e59 : SameX s H5 H9 := (same_sx (e57.trans e8)).trans e9
              have e09 := e5.trans e59
              have l9 : H9 l = some (.lst (zs.map V.str)) := e59 _ _ l5 ls
              have lcj : j < cvs.length := by omega
              have hcv : cvs[j]? = some (cvs[j]'lcj) := List.getElem?_eq_getElem _
              generalize cvs[j]'lcj = cv at hcv
              obtain ⟨cd, hcd, mv, dv, sv, ds, ⟨ca, rfl, c1⟩, _⟩ := p4.get hcv
              have g9 : Same (Off s H) H9 := e09.off.trans off_same
              have hpd : DGet H9 p (.str "calls") (some (.ref l2)) := p2 ▸ DGet.k (k := .inr "calls") (g9 _ _ p1)
              refine ⟨_, rfl, .inl ⟨rfl, _, SqL.of l9⟩, ?_⟩
              refine ⟨_, rfl, p, .ref l2, rfl, hpd, _, rfl, l2, cvs, (j : Int), _, rfl, rfl, SqL.of (g9 _ _ p3), atI_nat hcv, ca, _, 0, .str cd.nm, rfl, rfl, same_t g9 c1, rfl, ?_⟩
              refine ⟨l, _, _, rfl, rfl, l9, by rw [List.length_map]; show _ < 2 ^ 24; omega, ?_⟩
              have w10 : Same (Wt [s, l] H5) (Wt [s, l] (upd H9 l (.lst (zs.map V.str ++ [.str cd.nm])))) := by
                rw [wt_upd (by simp)]
                intro b o h
                obtain ⟨n, h⟩ := wt_some h
                exact (wt_get n).trans (e59 _ _ h fun z => n (by simp [z]))
              have l10 : upd H9 l (.lst (zs.map V.str ++ [.str cd.nm])) l = some (.lst ((zs ++ [cd.nm]).map V.str)) := by
                rw [upd_same, List.map_append]
                rfl
              have e10 := e09.putN (o := .lst (zs.map V.str ++ [.str cd.nm])) hl0
              have h10 := h9.put (o := .lst (zs.map V.str ++ [.str cd.nm])) ls (h0.ne hl0).2
              generalize upd H9 l (.lst (zs.map V.str ++ [.str cd.nm])) = H10 at w10 l10 e10 h10 ⊢
              have f10 := f5.keepG w10
              obtain ⟨kvs9, dn9, pr9⟩ := id f10
              obtain ⟨v9, hv9, kl9, ys9, rfl, hl9, alK9⟩ := pr9.some hgL
              have lys9 : ys9.length = b.length := alK9.1
              have hy : ys9[j]? = some (ys9[j]'(by omega)) := List.getElem?_eq_getElem _
              obtain ⟨kk, hkk, nky⟩ := alK9.get hy
              have nz : kk ≠ .none := fun z => by
                unfold hasK at pj
                rw [hkk, z] at pj
                cases pj
              obtain ⟨cd', hcd', ek, ok9⟩ := LQ.at_ j kk hkk nz
              obtain rfl : cd' = cd := Option.some.inj (hcd'.symm.trans hcd)
              refine ⟨_, rfl, _, rfl, D, kvs9, k, .ref kl9, rfl, .inr (.inr (dn9.keep wt_same)), (nk5.keep w10).keep wt_same, dpk, hv9, _, rfl, kl9, ys9, (j : Int), _, rfl, rfl, SqL.of (wt_some hl9).2, atI_nat hy, ?_⟩
              refine ⟨e10, h10, f10, zs ++ [cd'.nm], kk, _, _, _, _, _, _, rfl, l10, nky, ok9, by rw [List.length_append]; exact Nat.succ_le_succ lz, fun z hz => ?_, ?_⟩
              · rcases List.mem_append.mp hz with hz | hz
                · exact mz z hz
                · rw [List.mem_singleton.mp hz]
                  exact List.mem_map_of_mem (List.mem_of_getElem? hcd')
              · rw [List.map_append, List.foldlM_append, fz, ek]
                show (lawStep fs rls cs k (.str cd'.nm)).bind (fun q => some q) = _
                rw [law_go LQ.st hcd' ok.nd]
                rfl
      · exact ⟨e5, h5, f5, zs, k, av, _, _, _, _, _, rfl, l5, nk5, okk, Nat.le_succ_of_le lz, mz, fz⟩
    · rintro σ H5 ⟨e5, h5, f5, zs, k, av, x6, x7, x8, x9, x10, rfl, l5, nk5, okk, lz, mz, fz⟩
      obtain ⟨d, d1, d2, d3, -⟩ := st_dp okk.st (nk5.keep wt_same)
      refine ⟨fun v H' => H' = H5 ∧ ((k = .text ("made" : Str) ∧ v = .ref l) ∨ v = .non), ?_, ?_⟩
      · refine ⟨_, rfl, d, .str "made", d1, .str _, d2, by decide +kernel, _, rfl, ?_⟩
        rw [d3]
        refine ite2 (fun g => ?_) (fun g => ?_)
        · exact ⟨_, rfl, rfl, .inl ⟨of_decide_eq_true g, rfl⟩⟩
        · exact ⟨rfl, .inr rfl⟩
      · rintro v H6 ⟨rfl, h⟩
        refine q v H6 e5 h5 ?_
        rcases h with ⟨e, rfl⟩ | rfl
        · refine .inr ⟨l, zs, rfl, hl0, ls, l5, lz, ?_, mz, e ▸ fz⟩
          cases zs with
          | nil => rw [e] at fz; cases fz
          | cons z zs => exact Nat.succ_pos _
        · exact .inl rfl
end
end MK
set_option Elab.async false
set_option linter.all false
set_option autoImplicit false
set_option maxRecDepth 100000
set_option maxHeartbeats 4000000
namespace MK
open PySem PySem.Spec PyProof.Rows L2
open C8 (Met pe_mt pe_mt0 Mak pe_mk)
local macro_rules | `(tactic| walk_at "x") => `(tactic| dsimp only [tSeq, tAsg, tRet, tDrop, tLst, tTup, tCons, tOp, tUn, tIfS])
theorem sc_mark_of : FnScope ["deed", "word"] ["deed", "word"] (defScope s_mark_of) := ⟨rfl, rfl, rfl, by decide +kernel, rfl, by decide +kernel, by decide +kernel⟩
theorem sc_marks_of : FnScope ["deeds", "field", "word", "very", "held", "is_very", "deed", "name", "mark"] ["deeds", "field", "word"] (defScope s_marks_of) := ⟨rfl, rfl, rfl, by decide +kernel, rfl, by decide +kernel, by decide +kernel⟩
theorem sc_marked : FnScope ["content", "mark"] ["content", "mark"] (defScope s_marked) := ⟨rfl, rfl, rfl, by decide +kernel, rfl, by decide +kernel, by decide +kernel⟩
def spMark : Sp := fun vs H Q _ => ∃ (deed : Str) (word : Int), vs = [.str deed, .int word] ∧ Q (oV (markOf deed word)) H
def spMarks (K : PySem.W.Frag) : Sp := fun vs H Q _ => ∃ (dv : V) (ds : List V) (deeds : List (Str × Str)) (field : Str) (word : Int), vs = [dv, .str field, .int word] ∧ Tu K H dv ds ∧ Al (DeT K H) ds deeds ∧
  ∀ T, H T = none → Q (.ref T) (upd H T (.tup [oV (marksOf deeds field word).very, oV (marksOf deeds field word).held]))
def spMarked : Sp := fun vs H Q _ => ∃ (c : Int) (m : Option Int), vs = [.int c, oV m] ∧ Q (.int (markedI c m)) H
section
variable {P : Program} {w : World} {K : PySem.W.Frag} {mg : Str → Option Value} {base : Heap}
theorem ok_mark {f : Addr} {fd : FuncData} (F : DefX K mg "mark_of" s_mark_of ["deed", "word"] f fd) (T : Txt K mg) (Cs : MCst mg) : Cal P w K mg base CX0 1 "mark_of" spMark := by
  refine cal_mk F sc_mark_of (fun vs H Q E h => ?_) (fun cdv A outer s H vs Q E hr h => ?_)
  · obtain ⟨d, w, rfl, _⟩ := h
    rfl
  · obtain ⟨d, w, rfl, q⟩ := h
    refine ⟨_, (pss_cons (ps_if (pt_cmpR op_eq (pv 0) pe_str (nomark _))
(pss_one (ps_ret pe_int))
pss_nil)
(pss_cons (ps_if (pt_cmpR op_eq (pv 0) pe_str (nomark _))
(pss_one (ps_ret (pv 1)))
pss_nil)
(pss_cons (ps_if (pt_cut (PW.pt (pw_and (pt_cmpR op_eq (pv 0) pe_str (nomark _)) (pw_and1 (pt_cmpR op_eq (pv 1) (pe_cst rfl Cs.THE_WORD) (nomark _))))))
(pss_one (ps_ret pe_int))
pss_nil)
(pss_cons (ps_if (pt_cut (PW.pt (pw_and (pt_cmpR op_eq (pv 0) pe_str (nomark _)) (pw_and1 (pt_cmpR op_eq (pv 1) (pe_cst rfl Cs.THE_WORD) (nomark _))))))
(pss_one (ps_ret pe_int))
pss_nil)
(pss_one (ps_ret pe_non)))))), ?_⟩
    unfold markOf at q
    refine ⟨_, rfl, rfl, _, rfl, ite2 (fun g => ?_) (fun g => ?_)⟩
    · rw [if_pos (by simpa using g)] at q
      exact q
    rw [if_neg (by simpa using g)] at q
    refine ⟨_, rfl, rfl, _, rfl, ite2 (fun g => ?_) (fun g => ?_)⟩
    · rw [if_pos (by simpa using g)] at q
      exact ⟨_, rfl, q⟩
    rw [if_neg (by simpa using g)] at q
    refine ⟨fun b H' => b = decide (d = "add" ∧ w = 1) ∧ H' = H, ?_, ?_⟩
    · refine ⟨_, rfl, rfl, _, rfl, ite2 (fun g => ?_) (fun g => ?_)⟩
      · have g' : d = "add" := by simpa using g
        refine ⟨_, rfl, rfl, _, rfl, ?_, rfl⟩
        simp [g']
      · have g' : d ≠ "add" := by simpa using g
        exact ⟨by simp [g'], rfl⟩
    rintro _ H ⟨rfl, rfl⟩
    refine ite2 (fun g => ?_) (fun g => ?_)
    · rw [if_pos (of_decide_eq_true g)] at q
      exact q
    rw [if_neg (fun z => g (decide_eq_true z))] at q
    refine ⟨fun b H' => b = decide (d = "strike" ∧ w = 1) ∧ H' = H, ?_, ?_⟩
    · refine ⟨_, rfl, rfl, _, rfl, ite2 (fun g => ?_) (fun g => ?_)⟩
      · have g' : d = "strike" := by simpa using g
        refine ⟨_, rfl, rfl, _, rfl, ?_, rfl⟩
        simp [g']
      · have g' : d ≠ "strike" := by simpa using g
        exact ⟨by simp [g'], rfl⟩
    rintro _ H ⟨rfl, rfl⟩
    refine ite2 (fun g => ?_) (fun g => ?_)
    · rw [if_pos (of_decide_eq_true g)] at q
      exact q
    rw [if_neg (fun z => g (decide_eq_true z))] at q
    exact q
theorem ok_marked {f : Addr} {fd : FuncData} (F : DefX K mg "marked" s_marked ["content", "mark"] f fd) (T : Txt K mg) : Cal P w K mg base CX0 1 "marked" spMarked := by
  refine cal_mk F sc_marked (fun vs H Q E h => ?_) (fun cdv A outer s H vs Q E hr h => ?_)
  · obtain ⟨d, w, rfl, _⟩ := h
    rfl
  · obtain ⟨d, m, rfl, q⟩ := h
    refine ⟨_, (pss_one (ps_ret (pe_cut (pe_ifExp (pt_cmpR op_isN (pv 1) pe_non (nomark _)) (pv 0) (pv 1))))), ?_⟩
    refine ⟨fun v H' => v = .int (markedI d m) ∧ H' = H, ?_, fun v H' e => by rw [e.1, e.2]; exact q⟩
    cases m with
    | none => exact ⟨_, rfl, rfl, _, rfl, ite2 (fun _ => ⟨_, rfl, rfl, rfl⟩) (fun g => absurd (decide_eq_true rfl) g)⟩
    | some i => exact ⟨_, rfl, rfl, _, rfl, ite2 (fun g => absurd (of_decide_eq_true g) nofun) (fun _ => ⟨_, rfl, rfl, rfl⟩)⟩
theorem ok_marks {f : Addr} {fd : FuncData} (F : DefX K mg "marks_of" s_marks_of ["deeds", "field", "word"] f fd) (T : Txt K mg) (c_mark_of : Cal P w K mg base CX0 1 "mark_of" spMark) : Cal P w K mg base CX0 2 "marks_of" (spMarks K) := by
  refine cal_mk F sc_marks_of (fun vs H Q E h => ?_) (fun cdv A outer s H vs Q E hr h => ?_)
  · obtain ⟨dv, ds, deeds, field, word, rfl, _⟩ := h
    rfl
  · obtain ⟨dv, ds, deeds, field, word, rfl, ⟨da, rfl, hd⟩, al, q⟩ := h
    refine ⟨_, (pss_cons (ps_asg2 pe_non (pg_name (i := 3) sc_marks_of.nd rfl (Or.inl rfl)) (pg_name (i := 4) sc_marks_of.nd rfl (Or.inl rfl)))
(pss_cons (ps_set (i := 5) sc_marks_of.nd rfl (Or.inl rfl) pe_bl)
(pss_cons (ps_for PassesOwn.never rfl (pi_tup (pv 0)) (pg_tup (by rfl) (pgs_cons (pg_name (i := 6) sc_marks_of.nd rfl (Or.inl rfl)) (pgs_cons (pg_name (i := 7) sc_marks_of.nd rfl (Or.inl rfl)) pgs_nil)))
(pss_cons (ps_if (pt_cmpR op_ne (pv 7) (pv 1) (nomark _))
(pss_one ps_continue)
pss_nil)
(pss_cut (ps_if (pt_cmpR op_eq (pv 6) pe_str (nomark _))
(pss_one (ps_set (i := 5) sc_marks_of.nd rfl (Or.inl rfl) pe_bl))
pss_nil)
(pss_cons (ps_set (i := 8) sc_marks_of.nd rfl (Or.inl rfl) (pe_c c_mark_of hr (by first | decide | assumption) rfl (pa_cons (pv 6) (pa_cons (pv 2) pa_nil))))
(pss_one (ps_if (pt_cmpR op_notN (pv 8) pe_non (nomark _))
(pss_cons (ps_set (i := 4) sc_marks_of.nd rfl (Or.inl rfl) (pv 8))
(pss_one (ps_set (i := 3) sc_marks_of.nd rfl (Or.inl rfl) (pe_cut (pe_ifExp (pt_val (pv 5)) (pv 8) (pv 3))))))
pss_nil))))))
(pss_one (ps_ret (pe_tup (pa_cons (pv 3) (pa_cons (pv 4) pa_nil)))))))), ?_⟩
    refine ⟨_, rfl, da, rfl, ⟨ds, hd⟩, ?_⟩
    refine for_it (walk_tup (K := K) (a := da) (xs := ds)) (fun j σ H2 => H2 = H ∧ ∃ x6 x7 x8, σ = [some (.ref da), some (.str field), some (.int word), some (oV ((deeds.take j).foldl (mkStep field word) ⟨none, none, true⟩).very), some (oV ((deeds.take j).foldl (mkStep field word) ⟨none, none, true⟩).held), some (.bl ((deeds.take j).foldl (mkStep field word) ⟨none, none, true⟩).isv), x6, x7, x8])
      ⟨rfl, none, none, none, rfl⟩ (fun j σ H2 _ h => by rw [h.1]; exact hd) ?_ ?_
    · rintro j x σ H2 H3 hj ⟨rfl, x6, x7, x8, rfl⟩ ⟨rfl, hx⟩
      obtain ⟨⟨deed, name⟩, hp, tt, rfl, hT⟩ := al.get hx
      have ef : (deeds.take (j + 1)).foldl (mkStep field word) ⟨none, none, true⟩ = mkStep field word ((deeds.take j).foldl (mkStep field word) ⟨none, none, true⟩) (deed, name) := by
        rw [List.take_succ, hp, List.foldl_append]
        rfl
      rw [ef]
      generalize (deeds.take j).foldl (mkStep field word) ⟨none, none, true⟩ = m
      refine ⟨tt, _, rfl, hT, rfl, _, _, rfl, _, _, rfl, rfl, ?_⟩
      refine ⟨_, rfl, _, rfl, rfl, _, rfl, ite2 (fun g => ?_) (fun g => ?_)⟩
      · have ne : name ≠ field := by simpa using g
        have e : mkStep field word m (deed, name) = m := if_pos ne
        rw [e]
        exact ⟨rfl, _, _, _, rfl⟩
      · have ne : ¬ name ≠ field := by simpa using g
        have e : mkStep field word m (deed, name) = (match markOf deed word with | none => ⟨m.very, m.held, if deed = "fresh" then false else m.isv⟩ | some x => ⟨if (if deed = "fresh" then false else m.isv) then some x else m.very, some x, if deed = "fresh" then false else m.isv⟩) := if_neg ne
        rw [e]
        refine ⟨fun σ' H' => H' = H3 ∧ σ' = [some (.ref da), some (.str field), some (.int word), some (oV m.very), some (oV m.held), some (.bl (if deed = "fresh" then false else m.isv)), some (.str deed), some (.str name), x8], ?_, ?_⟩
        · refine ⟨_, rfl, rfl, _, rfl, ite2 (fun g => ?_) (fun g => ?_)⟩
          · rw [if_pos (by simpa using g)]
            exact ⟨rfl, rfl⟩
          · rw [if_neg (by simpa using g)]
            exact ⟨rfl, rfl⟩
        · rintro _ H6 ⟨rfl, rfl⟩
          generalize (if deed = "fresh" then false else m.isv) = v
          refine ⟨_, rfl, _, rfl, deed, word, rfl, _, rfl, rfl, _, rfl, ?_⟩
          cases hm : markOf deed word with
          | none => exact ite2 (fun g => by simp [oV] at g) (fun _ => ⟨rfl, _, _, _, rfl⟩)
          | some y =>
            refine ite2 (fun _ => ?_) (fun g => absurd (by simp [oV]) g)
            refine ⟨_, rfl, fun u H' => u = oV (if v then some y else m.very) ∧ H' = H6, ?_, ?_⟩
            · refine ⟨_, rfl, v, rfl, ?_⟩
              cases v with
              | true => exact ⟨_, rfl, rfl, rfl⟩
              | false => exact ⟨_, rfl, rfl, rfl⟩
            · rintro _ _ ⟨rfl, rfl⟩
              exact ⟨rfl, _, _, _, rfl⟩
    · rintro σ H2 ⟨rfl, x6, x7, x8, rfl⟩
      rw [al.1, List.take_length]
      exact ⟨_, rfl, _, rfl, by show 2 ≤ sizeLine; decide, fun T hT => q T hT⟩
end
end MK
set_option Elab.async false
set_option linter.all false
set_option autoImplicit false
set_option maxRecDepth 100000
set_option maxHeartbeats 4000000
namespace MK
open PySem PySem.Spec PyProof.Rows L2
open C8 (Met pe_mt pe_mt0 Mak pe_mk)
local macro_rules | `(tactic| walk_at "x") => `(tactic| dsimp only [tSeq, tAsg, tRet, tDrop, tLst, tTup, tCons, tOp, tUn, tIfS])
theorem sc_Orders_keeps_rules : FnScope ["self", "name", "seen", "other"] ["self", "name", "seen"] (defScope s_Orders_keeps_rules) := ⟨rfl, rfl, rfl, by decide +kernel, rfl, by decide +kernel, by decide +kernel⟩
theorem sc_Orders_start : FnScope ["self", "need"] ["self"] (defScope s_Orders_start) := ⟨rfl, rfl, rfl, by decide +kernel, rfl, by decide +kernel, by decide +kernel⟩
theorem sc_Orders_contents_behind : FnScope ["self", "call", "contents", "behind", "content", "field", "sort", "need", "very", "held"] ["self", "call", "contents"] (defScope s_Orders_contents_behind) := ⟨rfl, rfl, rfl, by decide +kernel, rfl, by decide +kernel, by decide +kernel⟩
structure OCls (K : PySem.W.Frag) (OC : Addr) : Prop where
  cls : Cls K OC
  kind : NoAttr K OC "kind"
  needed : NoAttr K OC "needed"
  wanted : NoAttr K OC "wanted"
  barred : NoAttr K OC "barred"
  counted : NoAttr K OC "counted"
/-- what stays, though a dict is locked -/
def Km (H H' : Hp) : Prop := (∀ x u, L2.Rd H x u → L2.Rd H' x u) ∧ ∀ x C dx fs, H x = some (.ins C dx fs) → H' x = some (.ins C dx fs)
theorem Km.of {H H' : Hp} (e : Same H H') : Km H H' := ⟨fun x u h => h.elim (fun h => .inl (e _ _ h)) fun ⟨o, h⟩ => .inr ⟨o, e _ _ h⟩, fun _ _ _ _ h => e _ _ h⟩
theorem Km.lock {H : Hp} {d : Addr} {o : Obj} {kvs : List (L2.Key × V)} (h : H d = some (.dK kvs)) : Km H (upd H d (.frz o (.dK kvs))) := by
  refine ⟨fun x u r => ?_, fun x C dx fs r => ?_⟩
  · by_cases e : x = d
    · subst e
      rcases r with r | ⟨o', r⟩
      · rw [h] at r
        cases r
        exact .inr ⟨o, upd_same⟩
      · rw [h] at r
        cases r
    · rcases r with r | ⟨o', r⟩
      · exact .inl ((upd_ne e).trans r)
      · exact .inr ⟨o', (upd_ne e).trans r⟩
  · exact (upd_ne fun e => by rw [e, h] at r; cases r).trans r
section
variable {K : PySem.W.Frag} {H H' : Hp}
theorem Km.sqt (m : Km H H') {a : Addr} {xs : List V} (h : SqT K H a xs) : SqT K H' a xs := h.imp (m.1 _ _) id
theorem Km.sql (m : Km H H') {a : Addr} {xs : List V} (h : SqL K H a xs) : SqL K H' a xs := h.imp (m.1 _ _) id
theorem Km.tu (m : Km H H') {v : V} {xs : List V} (h : Tu K H v xs) : Tu K H' v xs := let ⟨a, e, h⟩ := h; ⟨a, e, m.sqt h⟩
theorem Km.cdt (m : Km H H') {v : V} {c : CD} (h : CdT K H v c) : CdT K H' v c := let ⟨a, d, s, ds, h1, h2, h3, h4, h5⟩ := h; ⟨a, d, s, ds, m.tu h1, m.tu h2, m.tu h3, h4.mono fun _ _ h => m.tu h, m.tu h5⟩
end
theorem DGet.rk {H : Hp} {a : Addr} {kvs : List (L2.Key × V)} {k : L2.Key} (e : L2.Rd H a (.dK kvs)) : DGet H a (kV k) (valV kvs k) := .inl ⟨kvs, k, e, rfl, rfl⟩
/-- a kind that is read, its table locked or not -/
def KdR (K : PySem.W.Frag) (KC : Addr) (H : Hp) (kv : V) (tb : Addr) (fs : List FD) (cs : List CD) : Prop := ∃ (x dx : Addr) (fl : List (Str × V)) (t : V) (tv sv : List V), kv = .ref x ∧ H x = some (.ins KC dx fl) ∧ fl.lookup (Str.ofString "triples") = some t ∧ fl.lookup (Str.ofString "table") = some (.ref tb) ∧ Tu K H t tv ∧ Al (FdT K H) tv fs ∧ Al (CdT K H) sv cs ∧ L2.Rd H tb (.dK (tableV cs sv))
/-- lists under names -/
def LsI (H : Hp) (d : Addr) (zs : List Str) (f : Str → List Str) : Prop := ∃ kvs, L2.Rd H d (.dK kvs) ∧ ∀ z ∈ zs, ∃ l, valV kvs (.inr z) = some (.ref l) ∧ L2.Rd H l (.lst ((f z).map V.str))
def OrR (K : PySem.W.Frag) (OC KC : Addr) (H : Hp) (a : Addr) (kv : V) (tb : Addr) (D : OD) : Prop := ∃ (dx nd wa ba co : Addr), H a = some (.ins OC dx [("kind", kv), ("needed", .ref nd), ("wanted", .ref wa), ("barred", .ref ba), ("counted", .ref co)]) ∧ KdR K KC H kv tb D.fs D.cs ∧ L2.Rd H nd (.lst (D.fs.map fun f => .bl f.need)) ∧
  LsI H wa (D.cs.map (·.nm)) (wantL D.rs) ∧ LsI H ba (D.cs.map (·.nm)) (barL D.rs) ∧ L2.Rd H co (.lst ((countL D.cs D.rs).map V.str))
theorem OrR.km {K : PySem.W.Frag} {OC KC : Addr} {H H' : Hp} {a : Addr} {kv : V} {tb : Addr} {D : OD} (m : Km H H') (h : OrR K OC KC H a kv tb D) : OrR K OC KC H' a kv tb D := by
  obtain ⟨dx, nd, wa, ba, co, h1, ⟨x, kx, fl, t, tv, sv, k1, k2, k3, k4, k5, k6, k7, k8⟩, h3, ⟨wk, w1, w2⟩, ⟨bk, b1, b2⟩, h6⟩ := h
  exact ⟨dx, nd, wa, ba, co, m.2 _ _ _ _ h1, ⟨x, kx, fl, t, tv, sv, k1, m.2 _ _ _ _ k2, k3, k4, m.tu k5, k6.mono fun _ _ h => m.tu h, k7.mono fun _ _ h => m.cdt h, m.1 _ _ k8⟩, m.1 _ _ h3,
    ⟨wk, m.1 _ _ w1, fun z hz => let ⟨l, q1, q2⟩ := w2 z hz; ⟨l, q1, m.1 _ _ q2⟩⟩, ⟨bk, m.1 _ _ b1, fun z hz => let ⟨l, q1, q2⟩ := b2 z hz; ⟨l, q1, m.1 _ _ q2⟩⟩, m.1 _ _ h6⟩
def spKeeps (K : PySem.W.Frag) (OC KC : Addr) : Sp := fun vs H Q _ => ∃ (a tb sa : Addr) (kv : V) (D : OD) (z : Str) (seen : List Str), vs = [.ref a, .str z, .ref sa] ∧ OrR K OC KC H a kv tb D ∧ D.rs.length ≤ 10 ∧ z ∈ D.cs.map (·.nm) ∧ SqT K H sa (seen.map V.str) ∧ ∀ H', Same H H' → Q (.bl (keepsB D.rs z seen)) H'
def spStartO (K : PySem.W.Frag) (OC KC : Addr) : Sp := fun vs H Q _ => ∃ (a tb : Addr) (kv : V) (D : OD), vs = [.ref a] ∧ OrR K OC KC H a kv tb D ∧ D.fs.length ≤ 3 ∧ ∀ H' b, Same H H' → Nk K H' (startO D) (.ref b) → Q (.ref b) H'
def spCont32 (K : PySem.W.Frag) (OC KC : Addr) : Sp := fun vs H Q _ => ∃ (a tb ca : Addr) (kv cv : V) (D : OD) (cd : CD) (cts : List Int), vs = [.ref a, cv, .ref ca] ∧ OrR K OC KC H a kv tb D ∧ D.fs.length ≤ 3 ∧ CdT K H cv cd ∧ SqT K H ca (cts.map V.int) ∧ cts.length = D.fs.length ∧
  ∀ H' r, Same H H' → SqT K H' r ((contB D.fs cd cts).map V.int) → Q (.ref r) H'
theorem want_le (rs : List RU) (z : Str) : (wantL rs z).length ≤ rs.length := by
  unfold wantL
  rw [List.length_map]
  exact List.length_filter_le _ _
theorem bar_le (rs : List RU) (z : Str) : (barL rs z).length ≤ rs.length := by
  unfold barL
  rw [List.length_map]
  exact List.length_filter_le _ _
section
variable {P : Program} {w : World} {K : PySem.W.Frag} {mg : Str → Option Value} {base : Heap} {OC KC : Addr}
theorem ok_keeps {f : Addr} {fd : FuncData} (F : Fun K "keeps_rules" "Orders.keeps_rules" s_Orders_keeps_rules f fd) (T : Txt K mg) (Z : OCls K OC) : FnOk P w K mg base CX0 1 f fd ["self", "name", "seen"] (spKeeps K OC KC) := by
  refine F.ok sc_Orders_keeps_rules (fun vs H Q E h => ?_) (fun cdv A outer sh H vs Q E hr h => ?_)
  · obtain ⟨a, tb, sa, kv, D, z, seen, rfl, _⟩ := h
    rfl
  · obtain ⟨a, tb, sa, kv, D, z, seen, rfl, ⟨dx, nd, wa, ba, co, h1, h2, h3, ⟨wk, w1, w2⟩, ⟨bk, b1, b2⟩, h6⟩, lr, hz, hs, k⟩ := h
    refine ⟨_, (pss_cons (ps_if (pt_not (pt_val (pe_callB (cr_all rfl) (by rfl) T.all (by decide +kernel) (pa_cons (pe_lc (own := [("other", 3)]) (g := (gName 3)) (tt := tYes) rfl sc_Orders_keeps_rules.nd (pi_list (pe_dget (hu_of hr) (pe_fld (pv 0) rfl) (pv 1) (fun _ _ => rfl))) (blkOk_by (own := [("other", 3)]) (N := ["self", "name", "seen", "other"]) (sc := defScope s_Orders_keeps_rules) (by decide +kernel)) (fun _ _ _ _ _ => (pg_name (i := 3) sc_Orders_keeps_rules.nd rfl (Or.inl rfl))) (fun _ _ _ _ _ => pts_nil) (fun _ _ _ _ _ => (pe_cmpR (op_in_seqK (K := K) rfl) (pv 3) (pv 2) (by rfl)))) pa_nil))))
(pss_one (ps_ret pe_bl))
pss_nil)
(pss_one (ps_ret (pe_not (pe_callB (cr_any rfl) (by rfl) T.any (by decide +kernel) (pa_cons (pe_lc (own := [("other", 3)]) (g := (gName 3)) (tt := tYes) rfl sc_Orders_keeps_rules.nd (pi_list (pe_dget (hu_of hr) (pe_fld (pv 0) rfl) (pv 1) (fun _ _ => rfl))) (blkOk_by (own := [("other", 3)]) (N := ["self", "name", "seen", "other"]) (sc := defScope s_Orders_keeps_rules) (by decide +kernel)) (fun _ _ _ _ _ => (pg_name (i := 3) sc_Orders_keeps_rules.nd rfl (Or.inl rfl))) (fun _ _ _ _ _ => pts_nil) (fun _ _ _ _ _ => (pe_cmpR (op_in_seqK (K := K) rfl) (pv 3) (pv 2) (by rfl)))) pa_nil)))))), ?_⟩
    obtain ⟨wl, q1, q2⟩ := w2 z hz
    obtain ⟨bl, q3, q4⟩ := b2 z hz
    have lw := want_le D.rs z
    have lb := bar_le D.rs z
    refine ⟨_, rfl, a, OC, dx, _, .ref wa, rfl, h1, Z.cls, Z.wanted, rfl, _, rfl, wa, .ref wl, rfl, q1 ▸ DGet.rk (k := .inr z) w1, wl, rfl, ⟨_, .inl q2⟩, fun L hL => ?_⟩
    refine lc_it (walk_list (K := K) (a := wl) (xs := (wantL D.rs z).map V.str)) (fun i H2 => Same H H2 ∧ H2 L = some (.lst (((wantL D.rs z).take i).map fun x => V.bl (decide (x ∈ seen))))) ⟨same_new (Same.refl H) hL, upd_same⟩ (fun i H2 _ h => .inl ((Km.of h.1).1 _ _ q2)) ?_ ?_
    · rintro i x H2 H3 hi ⟨e2, l2⟩ ⟨rfl, hx⟩
      rw [List.getElem?_map] at hx
      obtain ⟨y, hy, rfl⟩ := Option.map_eq_some_iff.mp hx
      refine ⟨rfl, _, rfl, _, rfl, sa, _, rfl, .inr (same_t e2 hs), rfl, flat_strs seen, ?_⟩
      refine ⟨_, l2, ?_, fun c o hc => (upd_ne (fun z => by rw [z, hL] at hc; cases hc)).trans (e2 _ _ hc), ?_⟩
      · rw [List.length_map, List.length_take]
        show _ < 2 ^ 24
        omega
      · rw [upd_same, List.take_succ, hy, List.map_append]
        show some (HO.lst (_ ++ [V.bl (inV (.str y) (seen.map V.str))])) = _
        rw [inV_strs]
        rfl
    · rintro H2 ⟨e2, l2⟩
      rw [List.length_map, List.take_length] at l2
      refine ⟨L, (wantL D.rs z).map fun x => decide (x ∈ seen), rfl, SqL.of (by rw [List.map_map]; exact l2), _, rfl, ?_⟩
      rw [List.all_map]
      refine ite2 (fun g => ?_) (fun g => ?_)
      · have e : keepsB D.rs z seen = false := by
          unfold keepsB
          rw [show (wantL D.rs z).all (fun x => decide (x ∈ seen)) = false by simpa using g]
          rfl
        rw [← e]
        exact k _ e2
      · have e : keepsB D.rs z seen = !(barL D.rs z).any (fun x => decide (x ∈ seen)) := by
          unfold keepsB
          rw [show (wantL D.rs z).all (fun x => decide (x ∈ seen)) = true by simpa using g]
          rfl
        have m2 := Km.of e2
        refine ⟨_, rfl, a, OC, dx, _, .ref ba, rfl, e2 _ _ h1, Z.cls, Z.barred, rfl, _, rfl, ba, .ref bl, rfl, q3 ▸ DGet.rk (k := .inr z) (m2.1 _ _ b1), bl, rfl, ⟨_, .inl (m2.1 _ _ q4)⟩, fun L2 hL2 => ?_⟩
        refine lc_it (walk_list (K := K) (a := bl) (xs := (barL D.rs z).map V.str)) (fun i H3 => Same H2 H3 ∧ H3 L2 = some (.lst (((barL D.rs z).take i).map fun x => V.bl (decide (x ∈ seen))))) ⟨same_new (Same.refl H2) hL2, upd_same⟩ (fun i H3 _ h => .inl ((Km.of (e2.trans h.1)).1 _ _ q4)) ?_ ?_
        · rintro i x H3 H4 hi ⟨e3, l3⟩ ⟨rfl, hx⟩
          rw [List.getElem?_map] at hx
          obtain ⟨y, hy, rfl⟩ := Option.map_eq_some_iff.mp hx
          refine ⟨rfl, _, rfl, _, rfl, sa, _, rfl, .inr (same_t (e2.trans e3) hs), rfl, flat_strs seen, ?_⟩
          refine ⟨_, l3, ?_, fun c o hc => (upd_ne (fun z => by rw [z, hL2] at hc; cases hc)).trans (e3 _ _ hc), ?_⟩
          · rw [List.length_map, List.length_take]
            show _ < 2 ^ 24
            omega
          · rw [upd_same, List.take_succ, hy, List.map_append]
            show some (HO.lst (_ ++ [V.bl (inV (.str y) (seen.map V.str))])) = _
            rw [inV_strs]
            rfl
        · rintro H3 ⟨e3, l3⟩
          rw [List.length_map, List.take_length] at l3
          refine ⟨L2, (barL D.rs z).map fun x => decide (x ∈ seen), rfl, SqL.of (by rw [List.map_map]; exact l3), ?_⟩
          rw [List.any_map]
          have := k H3 (e2.trans e3)
          rw [e] at this
          exact ⟨_, rfl, this⟩
theorem ok_start {f : Addr} {fd : FuncData} (F : Fun K "start" "Orders.start" s_Orders_start f fd) (T : Txt K mg) (Z : OCls K OC) : FnOk P w K mg base CX0 1 f fd ["self"] (spStartO K OC KC) := by
  refine F.ok sc_Orders_start (fun vs H Q E h => ?_) (fun cdv A outer sh H vs Q E hr h => ?_)
  · obtain ⟨a, tb, kv, D, rfl, _⟩ := h
    rfl
  · obtain ⟨a, tb, kv, D, rfl, ⟨dx, nd, wa, ba, co, h1, h2, h3, h4, h5, h6⟩, lf, k⟩ := h
    refine ⟨_, (pss_one (ps_ret (pe_tup (pa_cons pe_int (pa_cons (pe_callTy call_tuple_of (by rfl) T.tuple (by decide +kernel) (pa_cons (pe_lc (own := [("need", 1)]) (g := (gName 1)) (tt := tYes) rfl sc_Orders_start.nd (pi_list (pe_fld (pv 0) rfl)) (blkOk_by (own := [("need", 1)]) (N := ["self", "need"]) (sc := defScope s_Orders_start) (by decide +kernel)) (fun _ _ _ _ _ => (pg_name (i := 1) sc_Orders_start.nd rfl (Or.inl rfl))) (fun _ _ _ _ _ => pts_nil) (fun _ _ _ _ _ => pe_int)) pa_nil)) (pa_cons (pe_tup pa_nil) pa_nil)))))), ?_⟩
    refine ⟨_, rfl, a, OC, dx, _, .ref nd, rfl, h1, Z.cls, Z.needed, rfl, nd, rfl, ⟨_, .inl h3⟩, fun L hL => ?_⟩
    refine lc_it (walk_list (K := K) (a := nd) (xs := D.fs.map fun f => V.bl f.need)) (fun i H2 => Same H H2 ∧ H2 L = some (.lst ((D.fs.take i).map fun _ => V.int 0))) ⟨same_new (Same.refl H) hL, upd_same⟩ (fun i H2 _ h => .inl ((Km.of h.1).1 _ _ h3)) ?_ ?_
    · rintro i x H2 H3 hi ⟨e2, l2⟩ ⟨rfl, hx⟩
      rw [List.length_map] at hi
      refine ⟨rfl, _, l2, ?_, fun c o hc => (upd_ne (fun z => by rw [z, hL] at hc; cases hc)).trans (e2 _ _ hc), ?_⟩
      · rw [List.length_map, List.length_take]
        show _ < 2 ^ 24
        omega
      · rw [upd_same, List.take_succ, List.getElem?_eq_getElem hi, List.map_append]
        rfl
    · rintro H2 ⟨e2, l2⟩
      rw [List.length_map, List.take_length] at l2
      refine ⟨L, _, rfl, .inl ⟨SqL.of l2, fun r hr => ?_⟩⟩
      have e3 := same_new (o := .tup (D.fs.map fun _ => V.int 0)) e2 hr
      refine ⟨by show 0 ≤ sizeLine; decide, fun q hq => ⟨by show 3 ≤ sizeLine; decide, fun T hT => ?_⟩⟩
      have e4 := same_new (o := .tup []) e3 hq
      have e5 := same_new (o := .tup [.int 0, .ref r, .ref q]) e4 hT
      obtain ⟨qr, hq0⟩ := upd_none hq
      refine k _ T e5 (pl_nk (p := r) (q := q) (SqT.of upd_same) ?_ ?_)
      · have : upd H2 r (.tup (D.fs.map fun _ => V.int 0)) r = some (.tup (D.fs.map fun _ => V.int 0)) := upd_same
        rw [List.map_map]
        exact SqT.of ((same_new (same_new (Same.refl _) hq) hT) _ _ this)
      · have : upd (upd H2 r (.tup (D.fs.map fun _ => V.int 0))) q (.tup []) q = some (.tup []) := upd_same
        exact SqT.of ((same_new (Same.refl _) hT) _ _ this)
theorem ok_cont32 {f : Addr} {fd : FuncData} (F : Fun K "contents_behind" "Orders.contents_behind" s_Orders_contents_behind f fd) (T : Txt K mg) (Cs : MCst mg) (Z : OCls K OC) (ZK : KCls K KC) (c_marks_of : Cal P w K mg base CX0 2 "marks_of" (spMarks K)) (c_marked : Cal P w K mg base CX0 1 "marked" spMarked) : FnOk P w K mg base CX0 3 f fd ["self", "call", "contents"] (spCont32 K OC KC) := by
  refine F.ok sc_Orders_contents_behind (fun vs H Q E h => ?_) (fun cdv A outer sh H vs Q E hr h => ?_)
  · obtain ⟨a, tb, ca, kv, cv, D, cd, cts, rfl, _⟩ := h
    rfl
  · obtain ⟨a, tb, ca, kv, cv, D, cd, cts, rfl, ⟨dx, nd, wa, ba, co, h1, ⟨x, kx, fl, t, tv, sv, rfl, k2, k3, k4, ⟨ta, rfl, k5⟩, k6, k7, k8⟩, h3, h4, h5, h6⟩, lf, hc, hca, lc, k⟩ := h
    refine ⟨_, (pss_cons (ps_set (i := 3) sc_Orders_contents_behind.nd rfl (Or.inl rfl) (pe_lst pa_nil))
(pss_cons (ps_for PassesOwn.never rfl (RZ.pi_zipA (by rfl) T.zip (pa_cons (pv 2) (pa_cons (pe_fld (pe_fld (pv 0) rfl) rfl) pa_nil))) (pg_tup (by rfl) (pgs_cons (pg_name (i := 4) sc_Orders_contents_behind.nd rfl (Or.inl rfl)) (pgs_cons (pg_tup (by rfl) (pgs_cons (pg_name (i := 5) sc_Orders_contents_behind.nd rfl (Or.inl rfl)) (pgs_cons (pg_name (i := 6) sc_Orders_contents_behind.nd rfl (Or.inl rfl)) (pgs_cons (pg_name (i := 7) sc_Orders_contents_behind.nd rfl (Or.inl rfl)) pgs_nil)))) pgs_nil)))
(pss_cons (ps_asg (pe_c c_marks_of hr (by first | decide | assumption) rfl (pa_cons (pe_ix ix_tup (pv 1) pe_int (fun _ _ => rfl)) (pa_cons (pv 5) (pa_cons (pe_cst rfl Cs.THE_WORD) pa_nil)))) (pg_tup (by rfl) (pgs_cons (pg_name (i := 8) sc_Orders_contents_behind.nd rfl (Or.inl rfl)) (pgs_cons (pg_name (i := 9) sc_Orders_contents_behind.nd rfl (Or.inl rfl)) pgs_nil))))
(pss_one (ps_expr (pe_bm PySem.F.plainAttrs_list PySem.F.slot_list_append PySem.F.type_list_append mt_append (pv 3) (pa_cons (pe_cut (pe_ifExp (pt_val (pv 7)) (pe_c c_marked hr (by first | decide | assumption) rfl (pa_cons (pv 4) (pa_cons (pv 9) pa_nil))) pe_int)) pa_nil))))))
(pss_one (ps_ret (pe_callTy call_tuple_of (by rfl) T.tuple (by decide +kernel) (pa_cons (pv 3) pa_nil)))))), ?_⟩
    refine ⟨by show 0 ≤ sizeLine; decide, fun bl hbl => ?_⟩
    have e1 := same_new (o := .lst []) (Same.refl H) hbl
    have lt2 := k6.1
    have lcb := contB_len (cd := cd) lc
    refine ⟨_, rfl, _, rfl, a, OC, dx, _, .ref x, rfl, e1 _ _ h1, Z.cls, Z.kind, rfl, x, KC, kx, fl, .ref ta, rfl, e1 _ _ k2, ZK.cls, ZK.triples, k3, ca, ta, _, _, rfl, .inr ⟨same_t e1 hca, same_t e1 k5, ?_⟩⟩
    refine for_it (walk_zipT (K := K) (a := ca) (b := ta) (xs := cts.map V.int) (ys := tv) (n := D.fs.length) (by rw [List.length_map]; omega)) (fun j σ H2 => Same H H2 ∧ H2 bl = some (.lst (((contB D.fs cd cts).take j).map V.int)) ∧ ∃ x4 x5 x6 x7 x8 x9, σ = [some (.ref a), some cv, some (.ref ca), some (.ref bl), x4, x5, x6, x7, x8, x9]) ⟨e1, upd_same, none, none, none, none, none, none, rfl⟩ (fun j σ H2 _ h => ⟨same_t h.1 hca, same_t h.1 k5⟩) ?_ ?_
    · rintro j _ σ H2 _ hj ⟨e2, b2, x4, x5, x6, x7, x8, x9, rfl⟩ ⟨T, u, v, rfl, hT, rfl, hu, hv⟩
      obtain ⟨fd0, hfd, ft, rfl, hft⟩ := k6.get hv
      have hu : (cts.map V.int)[j]? = some u := hu
      rw [List.getElem?_map] at hu
      obtain ⟨c, hc0, rfl⟩ := Option.map_eq_some_iff.mp hu
      have e3 := same_new (o := .tup [.int c, .ref ft]) e2 hT
      have b3 : upd H2 T (.tup [.int c, .ref ft]) bl = some (.lst (((contB D.fs cd cts).take j).map V.int)) := (same_new (Same.refl H2) hT) _ _ b2
      have t3 : SqT K (upd H2 T (.tup [.int c, .ref ft])) T [.int c, .ref ft] := SqT.of upd_same
      have hcb : (contB D.fs cd cts)[j]? = some (if fd0.need then markedI c (marksOf cd.deeds fd0.nm 1).held else 0) := by
        unfold contB
        rw [List.getElem?_map, List.getElem?_zip_eq_some.mpr (show cts[j]? = some (c, fd0).1 ∧ D.fs[j]? = some (c, fd0).2 from ⟨hc0, hfd⟩)]
        rfl
      generalize upd H2 T (.tup [.int c, .ref ft]) = H3 at e3 b3 t3 ⊢
      obtain ⟨mv, dv, sv5, ds, ⟨t5, rfl, c1⟩, c2, c3, c4, c5⟩ := hc
      refine ⟨T, _, rfl, t3, rfl, _, _, rfl, _, _, rfl, ft, _, rfl, same_t e3 hft, rfl, _, _, rfl, _, _, rfl, _, _, rfl, rfl, rfl, ?_⟩
      refine ⟨_, rfl, t5, _, 3, dv, rfl, rfl, same_t e3 c1, rfl, _, rfl, dv, ds, cd.deeds, fd0.nm, 1, rfl, c3.keep e3, c4.mono fun _ _ h => DeT.keep e3 h, fun T2 hT2 => ?_⟩
      have e4 := same_new (o := .tup [oV (marksOf cd.deeds fd0.nm 1).very, oV (marksOf cd.deeds fd0.nm 1).held]) e3 hT2
      have b4 : upd H3 T2 (.tup [oV (marksOf cd.deeds fd0.nm 1).very, oV (marksOf cd.deeds fd0.nm 1).held]) bl = some (.lst (((contB D.fs cd cts).take j).map V.int)) := (same_new (Same.refl H3) hT2) _ _ b3
      have t4 : SqT K (upd H3 T2 (.tup [oV (marksOf cd.deeds fd0.nm 1).very, oV (marksOf cd.deeds fd0.nm 1).held])) T2 [oV (marksOf cd.deeds fd0.nm 1).very, oV (marksOf cd.deeds fd0.nm 1).held] := SqT.of upd_same
      generalize upd H3 T2 (.tup [oV (marksOf cd.deeds fd0.nm 1).very, oV (marksOf cd.deeds fd0.nm 1).held]) = H4 at e4 b4 t4 ⊢
      refine ⟨T2, _, rfl, t4, rfl, _, _, rfl, _, _, rfl, rfl, ?_⟩
      refine ⟨_, rfl, .inl ⟨rfl, _, SqL.of b4⟩, fun v H' => v = .int (if fd0.need then markedI c (marksOf cd.deeds fd0.nm 1).held else 0) ∧ H' = H4, ?_, ?_⟩
      · refine ⟨_, rfl, fd0.need, rfl, ?_⟩
        cases fd0.need with
        | true => exact ⟨_, rfl, _, rfl, c, _, rfl, rfl, rfl⟩
        | false => exact ⟨rfl, rfl⟩
      · rintro _ _ ⟨rfl, rfl⟩
        refine ⟨bl, _, _, rfl, rfl, b4, ?_, fun c o hc => (upd_ne (fun z => by rw [z, hbl] at hc; cases hc)).trans (e4 _ _ hc), ?_, _, _, _, _, _, _, rfl⟩
        · rw [List.length_map, List.length_take]
          show _ < 2 ^ 24
          omega
        · rw [upd_same, List.take_succ, hcb, List.map_append]
          rfl
    · rintro σ H2 ⟨e2, b2, x4, x5, x6, x7, x8, x9, rfl⟩
      rw [← lcb, List.take_length] at b2
      exact ⟨_, rfl, bl, _, rfl, .inl ⟨SqL.of b2, fun r hr => k _ r (same_new e2 hr) (SqT.of upd_same)⟩⟩
end
end MK
set_option Elab.async false
set_option linter.all false
set_option autoImplicit false
set_option maxRecDepth 100000
set_option maxHeartbeats 4000000
namespace MK
open PySem PySem.Spec PyProof.Rows L2
open C8 (Met pe_mt pe_mt0 Mak pe_mk)
local macro_rules | `(tactic| walk_at "x") => `(tactic| dsimp only [tSeq, tAsg, tRet, tDrop, tLst, tTup, tCons, tOp, tUn, tIfS])
theorem sc_Orders_place_behind : FnScope ["self", "place", "name", "mode", "contents", "seen", "call", "content", "need", "lacks", "other"] ["self", "place", "name"] (defScope s_Orders_place_behind) := ⟨rfl, rfl, rfl, by decide +kernel, rfl, by decide +kernel, by decide +kernel⟩
theorem table_valO {fs : List FD} {n : Nat} {cs : List CD} {sv : List V} (ok : KdOk fs n cs) {R : V → CD → Prop} (al : Al R sv cs) {i : Nat} {cd : CD} {c : V} (hi : cs[i]? = some cd) (hc : sv[i]? = some c) : valV (tableV cs sv) (.inr cd.nm) = some c := by
  have keys : (tableV cs sv).map (·.1) = (cs.map (·.nm)).map (Sum.inr : Str → L2.Key) := by
    unfold tableV
    rw [zip_keys2 _ (fun c => Sum.inr c.nm) (fun _ _ => rfl) _ _ al.1.symm, List.map_map]
    rfl
  exact val_nodup (by rw [keys]; exact List.Pairwise.map Sum.inr (fun _ _ h1 h2 => h1 (Sum.inr.inj h2)) ok.nd) (Sum.inr cd.nm, c) (List.mem_of_getElem? (table_at hi hc))
/-- a place, an end, or None -/
def PbV (K : PySem.W.Frag) (H : Hp) (r : Option Pl) (v : V) : Prop := match r with
  | none => v = .non
  | some p => Nk K H p v
def spPlB (K : PySem.W.Frag) (OC KC : Addr) : Sp := fun vs H Q _ => ∃ (a tb b : Addr) (kv : V) (D : OD) (m : Nat) (cts : List Int) (seen : List Str) (i : Nat) (cd : CD), vs = [.ref a, .ref b, .str cd.nm] ∧ OrR K OC KC H a kv tb D ∧ ODOk D ∧ m < D.n ∧ cts.length = D.fs.length ∧ seen.length ≤ 6 ∧ Nk K H (plK m cts seen) (.ref b) ∧ D.cs[i]? = some cd ∧
  ∀ H' v, Same H H' → PbV K H' (placeB D m cts seen cd) v → Q v H'
section
variable {P : Program} {w : World} {K : PySem.W.Frag} {mg : Str → Option Value} {base : Heap} {OC KC : Addr}
theorem ok_plb {f : Addr} {fd : FuncData} (F : Fun K "place_behind" "Orders.place_behind" s_Orders_place_behind f fd) (T : Txt K mg) (Cs : MCst mg) (Z : OCls K OC) (ZK : KCls K KC) (m_keeps_rules : Met P w K mg base 1 OC "keeps_rules" (spKeeps K OC KC) []) (m_contents_behind : Met P w K mg base 3 OC "contents_behind" (spCont32 K OC KC) []) : FnOk P w K mg base CX0 4 f fd ["self", "place", "name"] (spPlB K OC KC) := by
  refine F.ok sc_Orders_place_behind (fun vs H Q E h => ?_) (fun cdv A outer sh H vs Q E hr h => ?_)
  · obtain ⟨a, tb, b, kv, D, m, cts, seen, i, cd, rfl, _⟩ := h
    rfl
  · obtain ⟨a, tb, b, kv, D, m, cts, seen, i, cd, rfl, R, ok, hm, lc, ls, nk, hcd, k⟩ := h
    refine ⟨_, (pss_cons (ps_asg (pv 1) (pg_tup (by rfl) (pgs_cons (pg_name (i := 3) sc_Orders_place_behind.nd rfl (Or.inl rfl)) (pgs_cons (pg_name (i := 4) sc_Orders_place_behind.nd rfl (Or.inl rfl)) (pgs_cons (pg_name (i := 5) sc_Orders_place_behind.nd rfl (Or.inr rfl)) pgs_nil)))))
(pss_cons (ps_set (i := 6) sc_Orders_place_behind.nd rfl (Or.inl rfl) (pe_dget (hu_of hr) (pe_fld (pe_fld (pv 0) rfl) rfl) (pv 2) (fun _ _ => rfl)))
(pss_cons (ps_set (i := 3) sc_Orders_place_behind.nd rfl (Or.inl rfl) (pe_ix ix_tup (pe_ix ix_tup (pv 6) pe_int (fun _ _ => rfl)) (pv 3) (fun _ _ => rfl)))
(pss_cons (ps_if (pt_cut (PW.pt (pw_or (pt_cmpR op_eq (pv 3) (pe_un un_neg pe_int) (nomark _)) (pw_or1 (pt_not (pt_val (pe_mt m_keeps_rules hr (by decide) (pv 0) (pa_cons (pv 2) (pa_cons (pv 5) pa_nil)))))))))
(pss_one (ps_ret pe_non))
pss_nil)
(pss_cons (ps_set (i := 4) sc_Orders_place_behind.nd rfl (Or.inl rfl) (pe_mt m_contents_behind hr (by decide) (pv 0) (pa_cons (pv 6) (pa_cons (pv 4) pa_nil))))
(pss_cons (ps_if (pt_cmpR op_eq (pe_ix ix_tup (pv 6) pe_int (fun _ _ => rfl)) pe_str (nomark _))
(pss_cons (ps_set (i := 9) sc_Orders_place_behind.nd rfl (Or.inl rfl) (pe_callB (cr_any rfl) (by rfl) T.any (by decide +kernel) (pa_cons (pe_lc (own := [("content", 7), ("need", 8)]) (g := (gTup K 2 (gCons (gName 7) (gCons (gName 8) gNil)))) (tt := tYes) rfl sc_Orders_place_behind.nd (pi_zipTL (by rfl) T.zip (pa_cons (pv 4) (pa_cons (pe_fld (pv 0) rfl) pa_nil))) (blkOk_by (own := [("content", 7), ("need", 8)]) (N := ["self", "place", "name", "mode", "contents", "seen", "call", "content", "need", "lacks", "other"]) (sc := defScope s_Orders_place_behind) (by decide +kernel)) (fun _ _ _ _ _ => (pg_tup (by rfl) (pgs_cons (pg_name (i := 7) sc_Orders_place_behind.nd rfl (Or.inl rfl)) (pgs_cons (pg_name (i := 8) sc_Orders_place_behind.nd rfl (Or.inl rfl)) pgs_nil)))) (fun _ _ _ _ _ => pts_nil) (fun _ _ _ _ _ => (pe_cut (pe_and (pv 8) (pe_one (pe_cmpR op_eq (pv 7) pe_int (nomark _))))))) pa_nil)))
(pss_one (ps_ret (pe_cut (pe_ifExp (pt_val (pv 9)) pe_non (pe_cst rfl Cs.DONE))))))
pss_nil)
(pss_one (ps_ret (pe_tup (pa_cons (pv 3) (pa_cons (pv 4) (pa_cons (pe_callTy call_tuple_of (by rfl) T.tuple (by decide +kernel) (pa_cons (pe_lc (own := [("other", 10)]) (g := (gName 10)) rfl sc_Orders_place_behind.nd (pi_list (pe_fld (pv 0) rfl)) (blkOk_by (own := [("other", 10)]) (N := ["self", "place", "name", "mode", "contents", "seen", "call", "content", "need", "lacks", "other"]) (sc := defScope s_Orders_place_behind) (by decide +kernel)) (fun _ _ _ _ _ => (pg_name (i := 10) sc_Orders_place_behind.nd rfl (Or.inl rfl))) (fun _ _ _ _ _ => (pts_one (pt_cut (PW.pt (pw_or (pt_cmpR op_eq (pv 10) (pv 2) (nomark _)) (pw_or1 (pt_cmpR (op_in_seqK (K := K) rfl) (pv 10) (pv 5) (by rfl)))))))) (fun _ _ _ _ _ => (pv 10))) pa_nil)) pa_nil)))))))))))), ?_⟩
    obtain ⟨b', p, q, eb, t1, t2, t3⟩ := nk_pl nk
    cases eb
    obtain ⟨dx, nd, wa, ba, co, h1, ⟨x, kx, fl, t, tv, sv, rfl, k2, k3, k4, k5, k6, k7, k8⟩, h3, h4, h5, h6⟩ := id R
    obtain ⟨cv, hcv, hcT⟩ := k7.get' hcd
    obtain ⟨mv, dv, sv5, ds, ⟨t5, rfl, c1⟩, ⟨tm, rfl, c2⟩, c3, c4, c5⟩ := id hcT
    have mcd := List.mem_of_getElem? hcd
    have co1 := ok.kd.calls cd mcd
    have lm : m < cd.moves.length := by rw [co1.len]; exact hm
    have em : cd.moves.getD m (-1) = cd.moves[m] := by rw [List.getD_eq_getElem?_getD, List.getElem?_eq_getElem lm]; rfl
    have hat : atI (cd.moves.map V.int) ((m : Nat) : Int) = some (.int (cd.moves.getD m (-1))) := atI_nat (by rw [List.getElem?_map, List.getElem?_eq_getElem lm, em]; rfl)
    have fl3 : D.fs.length ≤ 3 := ok.kd.fields.le
    refine ⟨_, rfl, b, _, rfl, t1, rfl, _, _, rfl, _, _, rfl, _, _, rfl, rfl, ?_⟩
    refine ⟨_, rfl, a, OC, dx, _, .ref x, rfl, h1, Z.cls, Z.kind, rfl, x, KC, kx, fl, .ref tb, rfl, k2, ZK.cls, ZK.table, k4, _, rfl, tb, .ref t5, rfl, table_valO ok.kd k7 hcd hcv ▸ DGet.rk (k := .inr cd.nm) k8, ?_⟩
    refine ⟨_, rfl, t5, _, 2, .ref tm, rfl, rfl, c1, rfl, _, rfl, tm, _, (m : Int), .int (cd.moves.getD m (-1)), rfl, rfl, c2, hat, ?_⟩
    generalize hM : cd.moves.getD m (-1) = M
    refine ⟨fun bb H' => bb = (decide (M = -1) || !keepsB D.rs cd.nm seen) ∧ Same H H', ?_, ?_⟩
    · refine ⟨_, rfl, 1, rfl, rfl, _, rfl, ite2 (fun g => ?_) (fun g => ?_)⟩
      · have : M = -1 := by simpa using g
        exact ⟨by rw [decide_eq_true this]; rfl, Same.refl H⟩
      · have : M ≠ -1 := by simpa using g
        rw [decide_eq_false this, Bool.false_or]
        exact ⟨_, rfl, a, dx, _, rfl, h1, rfl, _, rfl, _, rfl, a, tb, q, .ref x, D, cd.nm, seen, rfl, R, ok.rs, List.mem_map_of_mem mcd, t3, fun H2 e2 => ⟨_, rfl, rfl, e2⟩⟩
    rintro _ H2 ⟨rfl, e2⟩
    have R2 := R.km (Km.of e2)
    have m2 := Km.of e2
    refine ite2 (fun g => ?_) (fun g => ?_)
    · have e : placeB D m cts seen cd = none := by
        unfold placeB
        rw [if_pos]
        rw [hM]
        rw [Bool.or_eq_true, decide_eq_true_iff] at g
        exact g.imp id fun z => by simpa using z
      refine k H2 .non e2 ?_
      rw [e]
      exact rfl
    · have ng : ¬ (cd.moves.getD m (-1) = -1 ∨ keepsB D.rs cd.nm seen = false) := fun z => g (by
        rw [hM] at z
        rcases z with z | z
        · rw [decide_eq_true z]
          rfl
        · rw [z, Bool.or_eq_true]
          exact .inr rfl)
      refine ⟨_, rfl, a, dx, _, rfl, m2.2 _ _ _ _ h1, rfl, _, rfl, _, rfl, a, tb, p, .ref x, .ref t5, D, cd, cts, rfl, R2, fl3, hcT.keep e2, same_t e2 t2, lc, fun H3 r e3 hr3 => ?_⟩
      have e03 := e2.trans e3
      have m3 := Km.of e03
      have lcb := contB_len (cd := cd) lc
      refine ⟨_, rfl, t5, _, 1, .str cd.hand, rfl, rfl, same_t e03 c1, rfl, rfl, _, rfl, ite2 (fun g2 => ?_) (fun g2 => ?_)⟩
      · have hl : cd.hand = Str.ofString "last" := by simpa using g2
        have lz : ((contB D.fs cd cts).map V.int).length = D.fs.length := by rw [List.length_map]; exact lcb
        refine ⟨_, rfl, _, rfl, a, OC, dx, _, .ref nd, rfl, m3.2 _ _ _ _ h1, Z.cls, Z.needed, rfl, r, nd, _, _, rfl, hr3, .inl (m3.1 _ _ h3), fun L hL => ?_⟩
        refine lc_it (walk_zipTL (K := K) (a := r) (b := nd) (n := D.fs.length) lz (List.length_map ..)) (fun j H4 => Same H3 H4 ∧ H4 L = some (.lst ((((contB D.fs cd cts).zip (D.fs.map (·.need))).take j).map fun p => V.bl (p.2 && decide (p.1 = 0))))) ⟨same_new (Same.refl H3) hL, upd_same⟩ (fun j H4 _ h => ⟨same_t h.1 hr3, .inl ((Km.of (e03.trans h.1)).1 _ _ h3)⟩) ?_ ?_
        · rintro j _ H4 _ hj ⟨e4, l4⟩ ⟨T, u, v, rfl, hT, rfl, hu, hv⟩
          have hu : ((contB D.fs cd cts).map V.int)[j]? = some u := hu
          have hv : (D.fs.map fun f => V.bl f.need)[j]? = some v := hv
          rw [List.getElem?_map] at hu hv
          obtain ⟨c, hc0, rfl⟩ := Option.map_eq_some_iff.mp hu
          obtain ⟨fd0, hf0, rfl⟩ := Option.map_eq_some_iff.mp hv
          have eT := same_new (o := .tup [.int c, .bl fd0.need]) (Same.refl H4) hT
          have l5 := eT _ _ l4
          have tT : SqT K (upd H4 T (.tup [.int c, .bl fd0.need])) T [.int c, .bl fd0.need] := SqT.of upd_same
          generalize upd H4 T (.tup [.int c, .bl fd0.need]) = H5 at eT l5 tT ⊢
          refine ⟨T, _, rfl, tT, rfl, _, _, rfl, _, _, rfl, rfl, rfl, ?_⟩
          refine ⟨fun v H' => v = .bl (fd0.need && decide (c = 0)) ∧ H' = H5, ?_, ?_⟩
          · refine ⟨_, rfl, fd0.need, rfl, ?_⟩
            cases fd0.need with
            | true => exact ⟨_, rfl, rfl, by rw [Bool.true_and]; exact congrArg V.bl (decide_eq_decide.mpr ⟨fun e => V.int.inj e, fun e => by rw [e]⟩), rfl⟩
            | false => exact ⟨rfl, rfl⟩
          · rintro _ _ ⟨rfl, rfl⟩
            refine ⟨_, l5, ?_, fun c o hc => (upd_ne (fun z => by rw [z, hL] at hc; cases hc)).trans (eT _ _ (e4 _ _ hc)), ?_⟩
            · rw [List.length_map, List.length_take, List.length_zip, List.length_map]
              show _ < 2 ^ 24
              omega
            · rw [upd_same, List.take_succ, List.getElem?_zip_eq_some.mpr (show (contB D.fs cd cts)[j]? = some (c, fd0.need).1 ∧ (D.fs.map (·.need))[j]? = some (c, fd0.need).2 from ⟨hc0, by rw [List.getElem?_map, hf0]; rfl⟩), List.map_append]
              rfl
        · rintro H4 ⟨e4, l4⟩
          have lzz : D.fs.length = ((contB D.fs cd cts).zip (D.fs.map (·.need))).length := by rw [List.length_zip, List.length_map, lcb, Nat.min_self]
          rw [lzz, List.take_length] at l4
          refine ⟨L, ((contB D.fs cd cts).zip (D.fs.map (·.need))).map fun p => p.2 && decide (p.1 = 0), rfl, SqL.of (by rw [List.map_map]; exact l4), ?_⟩
          rw [List.any_map]
          have ep : placeB D m cts seen cd = if lacksC D.fs (contB D.fs cd cts) then none else some dn := by
            unfold placeB
            rw [if_neg ng, if_pos hl]
          refine ⟨fun v H' => PbV K H4 (placeB D m cts seen cd) v ∧ H' = H4, ?_, fun v H' e => by rw [e.2]; exact k _ v (e03.trans e4) e.1⟩
          have hlk : (((contB D.fs cd cts).zip (D.fs.map (·.need))).any (id ∘ fun p => p.2 && decide (p.1 = 0))) = lacksC D.fs (contB D.fs cd cts) := rfl
          rw [ep]
          refine ⟨_, rfl, lacksC D.fs (contB D.fs cd cts), rfl, ?_⟩
          cases lacksC D.fs (contB D.fs cd cts) with
          | true => exact ⟨rfl, rfl⟩
          | false => exact ⟨.int _, rfl⟩
      · have hl : cd.hand ≠ Str.ofString "last" := by simpa using g2
        refine ⟨_, rfl, _, rfl, _, rfl, a, OC, dx, _, .ref co, rfl, m3.2 _ _ _ _ h1, Z.cls, Z.counted, rfl, co, rfl, ⟨_, .inl (m3.1 _ _ h6)⟩, fun L hL => ?_⟩
        have lco : (countL D.cs D.rs).length ≤ 6 := by
          have h1 := List.length_filter_le (fun z => decide (z ∈ D.rs.map (·.a))) (D.cs.map (·.nm))
          rw [List.length_map] at h1
          exact Nat.le_trans h1 ok.kd.cle
        refine lc_it (walk_list (K := K) (a := co) (xs := (countL D.cs D.rs).map V.str)) (fun j H4 => Same H3 H4 ∧ H4 L = some (.lst ((((countL D.cs D.rs).take j).filter fun o => decide (o = cd.nm) || decide (o ∈ seen)).map V.str))) ⟨same_new (Same.refl H3) hL, upd_same⟩ (fun j H4 _ h => .inl ((Km.of (e03.trans h.1)).1 _ _ h6)) ?_ ?_
        · rintro j x H5 H4 hj ⟨e4, l4⟩ ⟨rfl, hx⟩
          rw [List.getElem?_map] at hx
          obtain ⟨y, hy, rfl⟩ := Option.map_eq_some_iff.mp hx
          have fe := filter_next (f := fun o => decide (o = cd.nm) || decide (o ∈ seen)) hy
          refine ⟨rfl, fun bb H' => bb = (decide (y = cd.nm) || decide (y ∈ seen)) ∧ H' = H4, ?_, ?_⟩
          · refine ⟨_, rfl, _, rfl, rfl, _, rfl, ite2 (fun g => ?_) (fun g => ?_)⟩
            · have : y = cd.nm := by simpa using g
              exact ⟨by rw [decide_eq_true this]; rfl, rfl⟩
            · have : y ≠ cd.nm := by simpa using g
              rw [decide_eq_false this, Bool.false_or]
              refine ⟨_, rfl, _, rfl, q, _, rfl, .inr (same_t (e03.trans e4) t3), rfl, flat_strs seen, ?_⟩
              rw [inV_strs]
              exact ⟨_, rfl, rfl, rfl⟩
          · rintro _ H4 ⟨rfl, rfl⟩
            refine ite2 (fun g => ?_) (fun g => ?_)
            · refine ⟨_, rfl, _, l4, ?_, fun c o hc => (upd_ne (fun z => by rw [z, hL] at hc; cases hc)).trans (e4 _ _ hc), ?_⟩
              · have h2 := List.length_filter_le (fun o => decide (o = cd.nm) || decide (o ∈ seen)) ((countL D.cs D.rs).take j)
                rw [List.length_take] at h2
                rw [List.length_map]
                show _ < 2 ^ 24
                omega
              · rw [upd_same, fe, if_pos g, List.map_append]
                rfl
            · refine ⟨e4, ?_⟩
              rw [fe, if_neg g, List.append_nil]
              exact l4
        · rintro H4 ⟨e4, l4⟩
          rw [List.length_map, List.take_length] at l4
          refine ⟨L, _, rfl, .inl ⟨SqL.of l4, fun r2 hr2 => ⟨by show 3 ≤ sizeLine; decide, fun T hT => ?_⟩⟩⟩
          have e5 := same_new (o := .tup (((countL D.cs D.rs).filter fun o => decide (o = cd.nm) || decide (o ∈ seen)).map V.str)) e4 hr2
          have q5 : SqT K (upd H4 r2 (.tup (((countL D.cs D.rs).filter fun o => decide (o = cd.nm) || decide (o ∈ seen)).map V.str))) r2 (((countL D.cs D.rs).filter fun o => decide (o = cd.nm) || decide (o ∈ seen)).map V.str) := SqT.of upd_same
          generalize upd H4 r2 (.tup (((countL D.cs D.rs).filter fun o => decide (o = cd.nm) || decide (o ∈ seen)).map V.str)) = H5 at e5 q5 hT ⊢
          have e6 := same_new (o := .tup [.int M, .ref r, .ref r2]) (Same.refl H5) hT
          refine k _ (.ref T) ((e03.trans e5).trans e6) ?_
          have ep : placeB D m cts seen cd = some (plK M (contB D.fs cd cts) ((countL D.cs D.rs).filter fun o => decide (o = cd.nm) || decide (o ∈ seen))) := by
            unfold placeB
            rw [if_neg ng, if_neg hl, hM]
          rw [ep]
          exact pl_nk (p := r) (q := r2) (SqT.of upd_same) (same_t (e5.trans e6) hr3) (same_t e6 q5)
end
end MK
set_option Elab.async false
set_option linter.all false
set_option autoImplicit false
set_option maxRecDepth 100000
set_option maxHeartbeats 4000000
namespace MK
open PySem PySem.Spec PyProof.Rows L2
open C8 (Met pe_mt pe_mt0 Mak pe_mk)
local macro_rules | `(tactic| walk_at "x") => `(tactic| dsimp only [tSeq, tAsg, tRet, tDrop, tLst, tTup, tCons, tOp, tUn, tIfS])
def ordT (K : PySem.W.Frag) (OC KC : Addr) : WalkT where
  D := OD
  I := fun D H a => ∃ kv tb, OrR K OC KC H a kv tb D ∧ ODOk D ∧ ∃ kvs, H tb = some (.dK kvs)
  W := waysO
  st := startO
  U := allO
theorem PbV.tk {K : PySem.W.Frag} {H H' : Hp} {r : Option Pl} {v : V} (t : Tk H H') (h : PbV K H r v) : PbV K H' r v := by
  cases r with
  | none => exact h
  | some p => exact Nk.tk t h
section
variable {P : Program} {w : World} {K : PySem.W.Frag} {mg : Str → Option Value} {base : Heap} {OC KC fi : Addr} {fdi : FuncData}
theorem ok_startT {f : Addr} {fd : FuncData} (F : Fun K "start" "Orders.start" s_Orders_start f fd) (T : Txt K mg) (Z : OCls K OC) : FnOk P w K mg base CX0 1 f fd ["self"] (spStart K (ordT K OC KC)) := by
  have h := ok_start (P := P) (w := w) (base := base) (KC := KC) F T Z
  have imp : ∀ vs H Q E, spStart K (ordT K OC KC) vs H Q E → spStartO K OC KC vs H Q E := fun vs H Q E ⟨D, a, e, ⟨kv, tb, R, ok, _⟩, k⟩ => ⟨a, tb, kv, D, e, R, ok.kd.fields.le, k⟩
  exact h.imp imp
end
end MK
set_option Elab.async false
set_option linter.all false
set_option autoImplicit false
set_option maxRecDepth 100000
set_option maxHeartbeats 4000000
namespace MK
open PySem PySem.Spec PyProof.Rows L2
local macro_rules | `(tactic| walk_at "x") => `(tactic| dsimp only [tSeq, tAsg, tRet, tDrop, tLst, tTup, tCons, tOp, tUn, tIfS])
theorem sc_Kind_contains : FnScope ["self", "x"] ["self", "x"] (defScope s_Kind_contains) := ⟨rfl, rfl, rfl, by decide +kernel, rfl, by decide +kernel, by decide +kernel⟩
theorem table_has {cs : List CD} {sv : List V} (l : sv.length = cs.length) (z : Str) : (valV (tableV cs sv) (.inr z)).isSome = decide (z ∈ cs.map (·.nm)) := by
  rw [← valV_any, Bool.eq_iff_iff, decide_eq_true_iff, List.any_eq_true]
  have keys : (tableV cs sv).map (·.1) = (cs.map (·.nm)).map (Sum.inr : Str → Key) := by
    unfold tableV
    rw [zip_keys2 _ (fun c => Sum.inr c.nm) (fun _ _ => rfl) _ _ l.symm, List.map_map]
    rfl
  constructor
  · rintro ⟨p, hp, e⟩
    have m : p.1 ∈ (tableV cs sv).map (·.1) := List.mem_map_of_mem hp
    rw [keys, of_decide_eq_true e] at m
    obtain ⟨y, hy, e⟩ := List.mem_map.mp m
    exact Sum.inr.inj e ▸ hy
  · intro m
    have m2 : (Sum.inr z : Key) ∈ (tableV cs sv).map (·.1) := by
      rw [keys]
      exact List.mem_map_of_mem m
    obtain ⟨p, hp, e⟩ := List.mem_map.mp m2
    exact ⟨p, hp, decide_eq_true e⟩
def spHas (K : PySem.W.Frag) (KC : Addr) : Sp := fun vs H Q _ => ∃ (v x : V) (fs : List FD) (n : Nat) (cs : List CD), vs = [v, x] ∧ KdA K KC H v fs n cs ∧ ((∃ z, x = .str z ∧ Q (.bl (decide (z ∈ cs.map (·.nm)))) H) ∨ (NoStr K H x ∧ Q (.bl false) H))
section
variable {P : Program} {w : World} {K : PySem.W.Frag} {mg : Str → Option Value} {base : Heap} {C : Cst} {KC : Addr}
theorem run_has (T : Txt K mg) (Z : KCls K KC) {f : Addr} {cdv : Value} {A : Around} {outer : List Env} {sh : Shared} {H : Hp} {vs : List V} {Q : VK} {E : XK} (hr : Room 0 (A.deeper (envOfC "Kind.__contains__" (defScope s_Kind_contains) sh.heap.objs.size f cdv))) (h : spHas K KC vs H Q E) :
    ∃ t, PSs (cxOf CX0 P w K mg base ["self", "x"] "Kind.__contains__" (defScope s_Kind_contains) f cdv A outer sh H E).nox (defBody s_Kind_contains) t ∧ t { nx := fun _ H' => Q .non H', rt := Q } (start ["self", "x"] vs) H := by
  obtain ⟨v, x, fs, n, cs, rfl, ⟨a, dx, so, sp, tb, t, st, tv, sv, rfl, h1, h2, h3, h4, h5, h6, h7, h8⟩, h⟩ := h
  refine ⟨_, (pss_one (ps_ret (pe_cut (pe_and (pe_callB call_isi (by rfl) T.isinstance (by decide +kernel) (pa_cons (pv 1) (pa_cons (pe_tyv (n := "str") (by rfl) T.str (by decide +kernel)) pa_nil))) (pe_one (pe_cmp (pc_din (hu_of hr) (pv 1) (pe_fld (pv 0) rfl)) rfl)))))), ?_⟩
  rcases h with ⟨z, rfl, q⟩ | ⟨⟨t, ty, kt⟩, q⟩
  · refine ⟨fun v H2 => v = .bl (decide (z ∈ cs.map (·.nm))) ∧ H2 = H, ?_, fun v H2 e => by rw [e.1, e.2]; exact q⟩
    refine ⟨_, rfl, _, _, _, _, true, rfl, .ty _, .base (.str z), kit_ty (by decide +kernel), true, rfl, iteT ?_⟩
    refine ⟨_, rfl, _, rfl, a, KC, dx, _, .ref tb, rfl, h1, Z.cls, Z.table, rfl, tb, _, rfl, DGet.k (k := .inr z) h8, ?_, rfl⟩
    rw [table_has h7.1]
  · refine ⟨fun v H2 => v = .bl false ∧ H2 = H, ?_, fun v H2 e => by rw [e.1, e.2]; exact q⟩
    exact ⟨_, rfl, _, _, _, _, false, rfl, .ty _, ty, kit_ty kt, false, rfl, iteF ⟨rfl, rfl⟩⟩
end
end MK
set_option Elab.async false
set_option linter.all false
set_option autoImplicit false
set_option maxRecDepth 100000
set_option maxHeartbeats 4000000
namespace MK
open PySem PySem.Spec PyProof.Rows L2
open C8 (Met pe_mt pe_mt0 Mak pe_mk)
local macro_rules | `(tactic| walk_at "x") => `(tactic| dsimp only [tSeq, tAsg, tRet, tDrop, tLst, tTup, tCons, tOp, tUn, tIfS])
theorem sc_is_rule : FnScope ["kind", "rule", "name"] ["kind", "rule"] (defScope s_is_rule) := ⟨rfl, rfl, rfl, by decide +kernel, rfl, by decide +kernel, by decide +kernel⟩
def nameD (cs : List CD) : Dt → Bool
  | .str z => decide (z ∈ cs.map (·.nm))
  | _ => false
def isS (z : Str) : Dt → Bool
  | .str y => decide (y = z)
  | _ => false
def txtD : Dt → Str
  | .str z => z
  | _ => Str.empty
/-- a rule for a kind of these calls -/
def ruleD (cs : List CD) (d : Dt) : Bool := match sqD d with
  | none => false
  | some xs => decide (2 ≤ xs.length) && (xs.drop 1).all (nameD cs) && (match xs with
    | x :: rest => if isS (Str.ofString "once") x then decide (rest.length = 1) else (isS (Str.ofString "ahead") x || isS (Str.ofString "bar") x) && decide (rest.length = 2) && (match rest with
      | [y, z] => !decide (txtD y = txtD z)
      | _ => false)
    | [] => false)
def FlatHd (d : Dt) : Prop := ∀ xs x, sqD d = some (x :: xs) → (∃ z, x = .str z) ∨ (∃ i, x = .int i) ∨ (∃ b, x = .bl b) ∨ x = .non
def spRuleX (K : PySem.W.Frag) (KC : Addr) : Sp := fun vs H Q _ => ∃ (kv rv : V) (fs : List FD) (n : Nat) (cs : List CD) (d : Dt), vs = [kv, rv] ∧ KdA K KC H kv fs n cs ∧ Sh K H rv d ∧ FlatHd d ∧ ∀ H', Same H H' → Q (.bl (ruleD cs d)) H'
theorem cut_one {vs : List V} (h : 2 ≤ vs.length) : cutV vs (some 1) none = vs.drop 1 := by
  have e : HT.sIx vs.length 0 (some 1) = min 1 vs.length := HT.sIx_nat _ _ 1
  unfold cutV
  rw [e, HT.sIx_none, Nat.min_eq_left (by omega)]
  exact List.take_of_length_le (by rw [List.length_drop]; omega)
theorem rd_slS {K : PySem.W.Frag} {H : Hp} {a : Addr} {xs : List V} {lo hi : Option Int} {Q : VK} (h : SqL K H a xs ∨ SqT K H a xs) (q : ∀ H' p, Same H H' → (SqL K H' p (cutV xs lo hi) ∨ SqT K H' p (cutV xs lo hi)) → Q (.ref p) H') : rSlL K (.ref a) lo hi H Q ∨ rSlA K (.ref a) lo hi H Q := by
  rcases h with h | h
  · exact .inl ⟨a, xs, rfl, h, fun p hp => q _ p (same_new (Same.refl H) hp) (.inl (SqL.of upd_same))⟩
  · refine .inr ⟨a, xs, rfl, h, fun hw => ?_, fun _ p hp => q _ p (same_new (Same.refl H) hp) (.inr (SqT.of upd_same))⟩
    have e : cutV xs lo hi = xs := by
      unfold cutV
      rw [hw.1, hw.2, List.drop_zero, Nat.sub_zero, List.take_length]
    exact q H a (Same.refl H) (.inr (by rw [e]; exact h))
theorem hdS {K : PySem.W.Frag} {H : Hp} {v : V} {x : Dt} (s : Sh K H v x) (f : (∃ z, x = .str z) ∨ (∃ i, x = .int i) ∨ (∃ b, x = .bl b) ∨ x = .non) (z : Str) : scal v (.str z) = true ∧ decide (v = .str z) = isS z x ∧ flatV v = true ∧ eqV (.str z) v = isS z x := by
  rcases f with ⟨y, rfl⟩ | ⟨y, rfl⟩ | ⟨y, rfl⟩ | rfl
  · obtain ⟨rfl, _⟩ := s.str'
    refine ⟨rfl, ?_, rfl, ?_⟩
    · exact decide_eq_decide.mpr ⟨fun e => V.str.inj e, fun e => by rw [e]⟩
    · show (z == y) = decide (y = z)
      rw [Bool.eq_iff_iff, decide_eq_true_iff, beq_iff_eq]
      exact ⟨Eq.symm, Eq.symm⟩
  · obtain rfl := s.int'
    exact ⟨rfl, decide_eq_false nofun, rfl, rfl⟩
  · obtain rfl := s.bl'
    exact ⟨rfl, decide_eq_false nofun, rfl, rfl⟩
  · cases s
    exact ⟨rfl, decide_eq_false nofun, rfl, rfl⟩
theorem rd_hasD {K : PySem.W.Frag} {KC : Addr} {H : Hp} {kv x : V} {fs : List FD} {n : Nat} {cs : List CD} {d : Dt} {Q : VK} {E : XK} (kd : KdA K KC H kv fs n cs) (s : Sh K H x d) (q : Q (.bl (nameD cs d)) H) : spHas K KC [kv, x] H Q E := by
  refine ⟨kv, x, fs, n, cs, rfl, kd, ?_⟩
  cases d with
  | str z =>
    obtain ⟨rfl, _⟩ := s.str'
    exact .inl ⟨z, rfl, q⟩
  | non => exact .inr ⟨let ⟨t, a, b, _⟩ := s.ty; ⟨t, a, b⟩, q⟩
  | bl b => exact .inr ⟨let ⟨t, a, b, _⟩ := s.ty; ⟨t, a, b⟩, q⟩
  | int i => exact .inr ⟨let ⟨t, a, b, _⟩ := s.ty; ⟨t, a, b⟩, q⟩
  | lst l => exact .inr ⟨let ⟨t, a, b, _⟩ := s.ty; ⟨t, a, b⟩, q⟩
  | tup l => exact .inr ⟨let ⟨t, a, b, _⟩ := s.ty; ⟨t, a, b⟩, q⟩
  | dic => exact .inr ⟨let ⟨t, a, b, _⟩ := s.ty; ⟨t, a, b⟩, q⟩
section
variable {P : Program} {w : World} {K : PySem.W.Frag} {mg : Str → Option Value} {base : Heap} {C : Cst} {KC fh : Addr} {fdh : FuncData}
theorem ok_ruleX {f : Addr} {fd : FuncData} (F : DefX K mg "is_rule" s_is_rule ["kind", "rule"] f fd) (T : Txt K mg) (Z : KCls K KC) (c_is_list : Cal P w K mg base CX0 1 "is_list" (spListX K))
    (H_has : FnOk P w K mg base CX0 1 fh fdh ["self", "x"] (spHas K KC) ∧ PySem.W.findIn K (.ref KC) "__contains__" = some (some (.ref fh)) ∧ PySem.W.isFn K (.ref fh) = true ∧ Binds K fdh ["self", "x"] []) : Cal P w K mg base CX0 3 "is_rule" (spRuleX K KC) := by
  refine cal_mk F sc_is_rule (fun vs H Q E h => ?_) (fun cdv A outer sh H vs Q E hr h => ?_)
  · obtain ⟨kv, rv, _, _, _, _, rfl, _⟩ := h
    rfl
  · obtain ⟨kv, rv, fs, n, cs, d, rfl, kd, s, fh, q⟩ := h
    refine ⟨_, (pss_cons (ps_if (pt_cut (PW.pt (pw_or (pt_not (pt_val (pe_c c_is_list hr (by first | decide | assumption) rfl (pa_cons (pv 1) pa_nil)))) (pw_or (pt_cmpR op_lt (pe_callB call_len_seq (by rfl) T.len (by decide +kernel) (pa_cons (pv 1) pa_nil)) pe_int (nomark _)) (pw_or1 (pt_not (pt_val (pe_callB (cr_all rfl) (by rfl) T.all (by decide +kernel) (pa_cons (pe_lc (own := [("name", 2)]) (g := (gName 2)) (tt := tYes) rfl sc_is_rule.nd (pi_sqG (pe_slice (sl_sqA (K := K) rfl) (pv 1) (po_some pe_int) po_none)) (blkOk_by (own := [("name", 2)]) (N := ["kind", "rule", "name"]) (sc := defScope s_is_rule) (by decide +kernel)) (fun _ _ _ _ _ => (pg_name (i := 2) sc_is_rule.nd rfl (Or.inl rfl))) (fun _ _ _ _ _ => pts_nil) (fun _ _ _ _ _ => (pe_cmpR (op_inOwn H_has.1 H_has.2.1 H_has.2.2.1 H_has.2.2.2 (hr.mono (by decide))) (pv 2) (pv 0) (by rfl)))) pa_nil)))))))))
(pss_one (ps_ret pe_bl))
pss_nil)
(pss_cons (ps_if (pt_cmpR op_eq (pe_ix ix_seq (pv 1) pe_int (fun _ _ => rfl)) pe_str (nomark _))
(pss_one (ps_ret (pe_cmpR op_eq (pe_callB call_len_seq (by rfl) T.len (by decide +kernel) (pa_cons (pv 1) pa_nil)) pe_int (nomark _))))
pss_nil)
(pss_one (ps_ret (pe_cut (pe_and (pe_cmpR op_in_seq (pe_ix ix_seq (pv 1) pe_int (fun _ _ => rfl)) (pe_tup (pa_cons pe_str (pa_cons pe_str pa_nil))) (by rfl)) (pe_and (pe_cmpR op_eq (pe_callB call_len_seq (by rfl) T.len (by decide +kernel) (pa_cons (pv 1) pa_nil)) pe_int (nomark _)) (pe_one (pe_cmpR op_ne (pe_ix ix_seq (pv 1) pe_int (fun _ _ => rfl)) (pe_ix ix_seq (pv 1) pe_int (fun _ _ => rfl)) (nomark _)))))))))), ?_⟩
    cases hq : sqD d with
    | none =>
      have h0 : isSq d = false := by rw [isSq_iff, hq]; rfl
      have hf : ruleD cs d = false := by unfold ruleD; rw [hq]
      refine ⟨fun t H' => t = true ∧ Same H H', ⟨_, rfl, rv, d, rfl, s, fun H1 e1 => ⟨false, congrArg V.bl h0, iteT ⟨rfl, e1⟩⟩⟩, ?_⟩
      rintro _ H1 ⟨rfl, e1⟩
      refine iteT ?_
      rw [← hf]
      exact q _ e1
    | some xs =>
      have h0 : isSq d = true := by rw [isSq_iff, hq]; rfl
      obtain ⟨vs, ⟨ra, rfl, hs⟩, al, few⟩ := s.sq hq
      have lv := al.1
      refine ⟨fun t H' => t = !(decide (2 ≤ xs.length) && (xs.drop 1).all (nameD cs)) ∧ Same H H', ⟨_, rfl, .ref ra, d, rfl, s, fun H1 e1 => ⟨true, congrArg V.bl h0, iteF ?_⟩⟩, ?_⟩
      · refine ⟨_, rfl, ra, _, rfl, sq_at e1 hs, _, _, rfl, rfl, _, rfl, ite2 (fun g => ?_) (fun g => ?_)⟩
        · have : ¬ 2 ≤ xs.length := by
            have := of_decide_eq_true g
            omega
          exact ⟨by rw [decide_eq_false this]; rfl, e1⟩
        · have l2 : 2 ≤ xs.length := by
            have : ¬ ((vs.length : Nat) : Int) < 2 := fun h => g (decide_eq_true h)
            omega
          rw [decide_eq_true l2, Bool.true_and]
          obtain ⟨ka, kdx, so, sp, tb, kt, kst, ktv, ksv, rfl, k1, krest⟩ := id kd
          refine ⟨_, rfl, _, rfl, rd_slS (sq_at e1 hs) fun H2 p e2 hp => ?_⟩
          rw [cut_one (by omega)] at hp
          have e02 := e1.trans e2
          refine ⟨p, vs.drop 1, H2, rfl, hp, Same.refl H2, fun J GG wk gk L hL => ?_⟩
          refine lc_it wk (fun i H3 => Same H2 H3 ∧ H3 L = some (.lst (((xs.drop 1).take i).map fun x => V.bl (nameD cs x)))) ⟨same_new (Same.refl H2) hL, upd_same⟩ (fun i H3 _ h => gk _ h.1) ?_ ?_
          · rintro i x H3 H4 hi ⟨e3, l3⟩ ⟨rfl, hx⟩
            rw [List.length_drop] at hi
            rw [List.getElem?_drop] at hx
            obtain ⟨y, hy, sy⟩ := al.get hx
            have hy' : (xs.drop 1)[i]? = some y := by rw [List.getElem?_drop]; exact hy
            have e03 := e02.trans e3
            refine ⟨rfl, _, rfl, _, rfl, ka, kdx, _, rfl, e03 _ _ k1, rd_hasD (kd.keep e03) (sy.keep e03) ⟨_, rfl, _, l3, ?_, fun c o hc => (upd_ne (fun z => by rw [z, hL] at hc; cases hc)).trans (e3 _ _ hc), ?_⟩⟩
            · rw [List.length_map, List.length_take, List.length_drop]
              show _ < 2 ^ 24
              omega
            · rw [upd_same, List.take_succ, hy', List.map_append]
              rfl
          · rintro H3 ⟨e3, l3⟩
            rw [List.length_drop, lv, ← List.length_drop, List.take_length] at l3
            refine ⟨L, (xs.drop 1).map (nameD cs), rfl, SqL.of (by rw [List.map_map]; exact l3), _, rfl, ?_⟩
            rw [List.all_map]
            exact ⟨rfl, e02.trans e3⟩
      · rintro _ H1 ⟨rfl, e1⟩
        refine ite2 (fun g => ?_) (fun g => ?_)
        · have hf : ruleD cs d = false := by
            unfold ruleD
            rw [hq]
            show (decide (2 ≤ xs.length) && (xs.drop 1).all (nameD cs) && _) = false
            cases z : (decide (2 ≤ xs.length) && (xs.drop 1).all (nameD cs)) with
            | false => rfl
            | true =>
              rw [z] at g
              cases g
          have := q H1 e1
          rw [hf] at this
          exact this
        · have gt : (decide (2 ≤ xs.length) && (xs.drop 1).all (nameD cs)) = true := by
            cases z : (decide (2 ≤ xs.length) && (xs.drop 1).all (nameD cs)) with
            | true => rfl
            | false =>
              rw [z] at g
              exact absurd rfl g
          rw [Bool.and_eq_true, decide_eq_true_iff] at gt
          match xs, hq, al, lv, gt with
          | x :: y :: rest, hq, al, lv, gt =>
          have hx := fh _ _ hq
          have v0 : vs[0]? = some (vs[0]'(by rw [lv]; exact Nat.succ_pos _)) := List.getElem?_eq_getElem _
          have s0 := (al.2 0 _ x v0 rfl).keep e1
          generalize vs[0]'(by rw [lv]; exact Nat.succ_pos _) = u0 at v0 s0
          obtain ⟨c1, c2, c3, _⟩ := hdS s0 hx (Str.ofString "once")
          have hs1 := sq_at e1 hs
          refine ⟨_, rfl, ix_of (i := 0) hs1 v0 ⟨c1, _, rfl, ?_⟩⟩
          rw [c2]
          have lr : vs.length = rest.length + 2 := by rw [lv]; rfl
          have qq := q H1 e1
          refine ite2 (fun g1 => ?_) (fun g1 => ?_)
          · have hf : ruleD cs d = decide ((y :: rest).length = 1) := by
              unfold ruleD
              rw [hq]
              show (decide (2 ≤ (x :: y :: rest).length) && ((x :: y :: rest).drop 1).all (nameD cs) && (if isS (Str.ofString "once") x then decide ((y :: rest).length = 1) else _)) = _
              rw [decide_eq_true gt.1, gt.2, if_pos g1]
              rfl
            refine ⟨_, rfl, ra, _, rfl, hs1, rfl, ?_⟩
            rw [hf] at qq
            have ed : decide (V.int ((vs.length : Nat) : Int) = V.int 2) = decide ((y :: rest).length = 1) := decide_eq_decide.mpr ⟨fun e => by
              have := V.int.inj e
              rw [List.length_cons]
              omega, fun e => by
              rw [List.length_cons] at e
              congr 1
              omega⟩
            rw [ed]
            exact qq
          · obtain ⟨_, _, _, a4⟩ := hdS s0 hx (Str.ofString "ahead")
            obtain ⟨_, _, _, b4⟩ := hdS s0 hx (Str.ofString "bar")
            have hin : inV u0 [.str (Str.ofString "ahead"), .str (Str.ofString "bar")] = (isS (Str.ofString "ahead") x || isS (Str.ofString "bar") x) := by
              show (eqV (.str (Str.ofString "ahead")) u0 || (eqV (.str (Str.ofString "bar")) u0 || false)) = _
              rw [a4, b4, Bool.or_false]
            have hf : ruleD cs d = ((isS (Str.ofString "ahead") x || isS (Str.ofString "bar") x) && decide ((y :: rest).length = 2) && (match y :: rest with
              | [y, z] => !decide (txtD y = txtD z)
              | _ => false)) := by
              unfold ruleD
              rw [hq]
              show (decide (2 ≤ (x :: y :: rest).length) && ((x :: y :: rest).drop 1).all (nameD cs) && (if isS (Str.ofString "once") x then _ else _)) = _
              rw [decide_eq_true gt.1, gt.2, if_neg g1]
              rfl
            refine ⟨fun v H' => v = .bl (ruleD cs d) ∧ Same H1 H', ?_, fun v H' e => by rw [e.1]; exact q _ (e1.trans e.2)⟩
            rw [hf]
            refine ⟨_, rfl, ix_of (i := 0) hs1 v0 ⟨by show 2 ≤ sizeLine; decide, fun T hT => ⟨T, _, rfl, .inr (SqT.of upd_same), c3, rfl, _, rfl, ?_⟩⟩⟩
            have e2 := same_new (o := .tup [.str (Str.ofString "ahead"), .str (Str.ofString "bar")]) (Same.refl H1) hT
            have hs2 := sq_at e2 hs1
            generalize upd H1 T (.tup [.str (Str.ofString "ahead"), .str (Str.ofString "bar")]) = H2 at e2 hs2 ⊢
            show (if inV u0 [.str (Str.ofString "ahead"), .str (Str.ofString "bar")] = true then _ else _)
            rw [hin]
            refine ite2 (fun g2 => ?_) (fun g2 => ?_)
            · rw [g2, Bool.true_and]
              refine ⟨_, rfl, ra, _, rfl, hs2, rfl, _, rfl, ite2 (fun g3 => ?_) (fun g3 => ?_)⟩
              · have l3 : vs.length = 3 := by
                  have := V.int.inj (of_decide_eq_true g3)
                  omega
                match rest, hq, al, gt with
                | [z], hq, al, gt =>
                have v1 : vs[1]? = some (vs[1]'(by omega)) := List.getElem?_eq_getElem _
                have v2 : vs[2]? = some (vs[2]'(by omega)) := List.getElem?_eq_getElem _
                have s1 := al.2 1 _ y v1 rfl
                have s2 := al.2 2 _ z v2 rfl
                generalize vs[1]'(by omega) = u1 at v1 s1
                generalize vs[2]'(by omega) = u2 at v2 s2
                have ny : ∀ t : Dt, nameD cs t = true → ∃ q, t = .str q := fun t h => by
                  cases t with
                  | str q => exact ⟨q, rfl⟩
                  | _ => cases h
                have ga : (nameD cs y && (nameD cs z && true)) = true := gt.2
                rw [Bool.and_eq_true, Bool.and_eq_true] at ga
                obtain ⟨yy, rfl⟩ := ny y ga.1
                obtain ⟨zz, rfl⟩ := ny z ga.2.1
                obtain ⟨rfl, _⟩ := s1.str'
                obtain ⟨rfl, _⟩ := s2.str'
                refine ⟨_, rfl, ix_of (i := 1) hs2 v1 ⟨_, rfl, ix_of (i := 2) hs2 v2 ⟨rfl, congrArg V.bl ?_, e2⟩⟩⟩
                show (!decide (V.str yy = V.str zz)) = (decide ([Dt.str yy, Dt.str zz].length = 2) && !decide (yy = zz))
                rw [decide_eq_true (show [Dt.str yy, Dt.str zz].length = 2 from rfl), Bool.true_and]
                congr 1
                exact decide_eq_decide.mpr ⟨fun e => V.str.inj e, fun e => by rw [e]⟩
                | [], hq, al, gt => simp at lr; omega
                | _ :: _ :: _, hq, al, gt => simp at lr; omega
              · have : decide ((y :: rest).length = 2) = false := decide_eq_false fun e => g3 (decide_eq_true (by
                  rw [List.length_cons] at e
                  congr 1
                  omega))
                rw [this]
                exact ⟨rfl, e2⟩
            · have : (isS (Str.ofString "ahead") x || isS (Str.ofString "bar") x) = false := by
                cases z : (isS (Str.ofString "ahead") x || isS (Str.ofString "bar") x) with
                | false => rfl
                | true => exact absurd z g2
              rw [this]
              exact ⟨rfl, e2⟩
end
end MK
set_option Elab.async false
set_option linter.all false
set_option autoImplicit false
set_option maxRecDepth 100000
set_option maxHeartbeats 4000000
namespace MK
open PySem PySem.Spec PyProof.Rows L2
open C8 (Met pe_mt pe_mt0 Mak pe_mk)
local macro_rules | `(tactic| walk_at "x") => `(tactic| dsimp only [tSeq, tAsg, tRet, tDrop, tLst, tTup, tCons, tOp, tUn, tIfS])
theorem ruleD_2 {cs : List CD} {d : Dt} {x y : Str} (e : sqD d = some [.str x, .str y]) : ruleD cs d = (decide (y ∈ cs.map (·.nm)) && decide (x = ("once" : Str))) := by
  unfold ruleD
  rw [e]
  show (true && (decide (y ∈ cs.map (·.nm)) && true) && (if decide (x = Str.ofString "once") = true then true else (decide (x = Str.ofString "ahead") || decide (x = Str.ofString "bar")) && false && _)) = _
  by_cases h : x = Str.ofString "once"
  · rw [decide_eq_true h]
    simp
  · rw [decide_eq_false h]
    simp
theorem ruleD_3 {cs : List CD} {d : Dt} {x y z : Str} (e : sqD d = some [.str x, .str y, .str z]) : ruleD cs d = (decide (y ∈ cs.map (·.nm)) && decide (z ∈ cs.map (·.nm)) && ((decide (x = ("ahead" : Str)) || decide (x = ("bar" : Str))) && !decide (y = z))) := by
  unfold ruleD
  rw [e]
  show (true && (decide (y ∈ cs.map (·.nm)) && (decide (z ∈ cs.map (·.nm)) && true)) && (if decide (x = Str.ofString "once") = true then false else (decide (x = Str.ofString "ahead") || decide (x = Str.ofString "bar")) && true && !decide (y = z))) = _
  by_cases h : x = Str.ofString "once"
  · rw [decide_eq_true h, h]
    have : (decide (Str.ofString "once" = ("ahead" : Str)) || decide (Str.ofString "once" = ("bar" : Str))) = false := by decide +kernel
    rw [this]
    simp
  · rw [decide_eq_false h]
    simp
theorem rule_dt {K : PySem.W.Frag} {H : Hp} {v : V} {zs : List Str} (h : RuT K H v zs) (l : zs.length < 1000) (sz : ∀ z ∈ zs, z.length ≤ sizeLine) : Sh K H v (.tup (zs.map Dt.str)) := by
  obtain ⟨a, rfl, h⟩ := h
  refine .tup h (by rw [List.length_map]; exact l) (by rw [List.length_map, List.length_map]) fun i x y h1 h2 => ?_
  rw [List.getElem?_map] at h1 h2
  obtain ⟨z, hz, rfl⟩ := Option.map_eq_some_iff.mp h1
  rw [hz] at h2
  cases h2
  exact .str _ (sz z (List.mem_of_getElem? hz))
theorem RlOk.sz {fs : List FD} {n : Nat} {cs : List CD} {zs : List Str} (ok : KdOk fs n cs) (h : RlOk cs zs) : zs.length < 1000 ∧ (∀ z ∈ zs, z.length ≤ sizeLine) ∧ ∃ z zs', zs = z :: zs' := by
  have nm : ∀ a ∈ cs.map (·.nm), a.length ≤ sizeLine := fun a ha => by
    obtain ⟨c, hc, rfl⟩ := List.mem_map.mp ha
    exact word_sz (ok.calls c hc).word
  rcases h with ⟨a, ha, rfl⟩ | ⟨t, a, b, ht, ha, hb, _, rfl⟩
  · refine ⟨by show 2 < 1000; decide, fun z hz => ?_, _, _, rfl⟩
    simp only [List.mem_cons, List.not_mem_nil, or_false] at hz
    rcases hz with rfl | rfl
    · decide
    · exact nm _ ha
  · refine ⟨by show 3 < 1000; decide, fun z hz => ?_, _, _, rfl⟩
    simp only [List.mem_cons, List.not_mem_nil, or_false] at hz
    rcases hz with rfl | rfl | rfl
    · rcases ht with rfl | rfl <;> decide
    · exact nm _ ha
    · exact nm _ hb
theorem flat_hd {x : Dt} {xs : List Dt} {d : Dt} (e : sqD d = some (x :: xs)) (h : (∃ z, x = .str z) ∨ (∃ i, x = .int i) ∨ (∃ b, x = .bl b) ∨ x = .non) : FlatHd d := fun ys y hy => by
  rw [e] at hy
  cases hy
  exact h
theorem rlok_rule {cs : List CD} {zs : List Str} (h : RlOk cs zs) : ruleD cs (.tup (zs.map Dt.str)) = true ∧ FlatHd (.tup (zs.map Dt.str)) := by
  rcases h with ⟨a, ha, rfl⟩ | ⟨t, a, b, ht, ha, hb, ne, rfl⟩
  · refine ⟨?_, flat_hd rfl (.inl ⟨_, rfl⟩)⟩
    rw [ruleD_2 (x := "once") (y := a) rfl, decide_eq_true ha]
    rfl
  · refine ⟨?_, flat_hd rfl (.inl ⟨_, rfl⟩)⟩
    rw [ruleD_3 (x := t) (y := a) (z := b) rfl, decide_eq_true ha, decide_eq_true hb, decide_eq_false ne]
    rcases ht with rfl | rfl <;> decide +kernel
end MK
set_option Elab.async false
set_option linter.all false
set_option autoImplicit false
set_option maxRecDepth 100000
set_option maxHeartbeats 4000000
namespace MK
open PySem PySem.Spec PyProof.Rows L2
open C8 (Met pe_mt pe_mt0 Mak pe_mk)
local macro_rules | `(tactic| walk_at "x") => `(tactic| dsimp only [tSeq, tAsg, tRet, tDrop, tLst, tTup, tCons, tOp, tUn, tIfS])
theorem sc_Orders_init : FnScope ["self", "kind", "rules", "index", "rule", "name", "sort", "need", "table"] ["self", "kind", "rules"] (defScope s_Orders_init) := ⟨rfl, rfl, rfl, by decide +kernel, rfl, by decide +kernel, by decide +kernel⟩
/-- at d, under each text, its own list, at L -/
structure SrcT (H : Hp) (d : Addr) (L : List Addr) (zs : List Str) (S : Str → List Str) : Prop where
  dk : H d = some (.dK ((zs.map Sum.inr).zip (L.map V.ref)))
  len : L.length = zs.length
  nd : L.Nodup
  off : d ∉ L
  at_ : ∀ (i : Nat) z l, zs[i]? = some z → L[i]? = some l → H l = some (.lst ((S z).map V.str))
theorem zipT_put {zs : List Str} {L : List Addr} {z : Str} {p : Addr} (h : z ∉ zs) (l : L.length = zs.length) : putK ((zs.map (Sum.inr : Str → L2.Key)).zip (L.map V.ref)) (.inr z) (.ref p) = (((zs ++ [z]).map (Sum.inr : Str → L2.Key)).zip ((L ++ [p]).map V.ref)) := by
  unfold putK
  rw [if_neg]
  · rw [List.map_append, List.map_append, List.zip_append (by rw [List.length_map, List.length_map, l])]
    rfl
  · rw [List.any_eq_true]
    rintro ⟨⟨a, b⟩, m, e⟩
    have e' : a = Sum.inr z := of_decide_eq_true e
    obtain ⟨y, hy, q⟩ := List.mem_map.mp (List.of_mem_zip m).1
    rw [e'] at q
    exact h (Sum.inr.inj q ▸ hy)
theorem SrcT.keep {H H' : Hp} {d : Addr} {L : List Addr} {zs : List Str} {S : Str → List Str} (e : Same H H') (h : SrcT H d L zs S) : SrcT H' d L zs S := ⟨e _ _ h.dk, h.len, h.nd, h.off, fun i z l a b => e _ _ (h.at_ i z l a b)⟩
theorem SrcT.lsts {H : Hp} {d : Addr} {L : List Addr} {zs : List Str} {S : Str → List Str} (h : SrcT H d L zs S) {l : Addr} (m : l ∈ L) : ∃ ys, H l = some (.lst ys) := by
  obtain ⟨j, hj⟩ := List.mem_iff_getElem?.mp m
  have lt : j < zs.length := by rw [← h.len]; exact (List.getElem?_eq_some_iff.mp hj).1
  exact ⟨_, h.at_ j _ l (List.getElem?_eq_getElem lt) hj⟩
theorem SrcT.put {H : Hp} {d q : Addr} {o : HO} {L : List Addr} {zs : List Str} {S : Str → List Str} (h : SrcT H d L zs S) (n1 : q ∉ L) (n2 : q ≠ d) : SrcT (upd H q o) d L zs S := ⟨(upd_ne n2.symm).trans h.dk, h.len, h.nd, h.off, fun i z l a b => (upd_ne fun e => n1 (by rw [← e]; exact List.mem_of_getElem? b)).trans (h.at_ i z l a b)⟩
theorem SrcT.get {H : Hp} {d : Addr} {L : List Addr} {zs : List Str} {S : Str → List Str} (h : SrcT H d L zs S) (nd : zs.Nodup) {z : Str} (m : z ∈ zs) : ∃ (i : Nat) (l : Addr), zs[i]? = some z ∧ L[i]? = some l ∧ valV ((zs.map (Sum.inr : Str → L2.Key)).zip (L.map V.ref)) (.inr z) = some (.ref l) ∧ H l = some (.lst ((S z).map V.str)) := by
  obtain ⟨i, hi⟩ := List.mem_iff_getElem?.mp m
  have lt := (List.getElem?_eq_some_iff.mp hi).1
  have hl : L[i]? = some (L[i]'(by rw [h.len]; exact lt)) := List.getElem?_eq_getElem _
  refine ⟨i, _, hi, hl, ?_, h.at_ i z _ hi hl⟩
  refine val_nodup (κ := L2.Key) ?_ ((Sum.inr z : L2.Key), V.ref _) (List.mem_of_getElem? (i := i) ?_)
  · rw [zip_fst (by rw [List.length_map, List.length_map, h.len])]
    exact List.Pairwise.map Sum.inr (fun _ _ h1 h2 => h1 (Sum.inr.inj h2)) nd
  · rw [List.getElem?_zip_eq_some]
    exact ⟨by rw [List.getElem?_map, hi]; rfl, by rw [List.getElem?_map, hl]; rfl⟩
theorem SrcT.app {H : Hp} {d : Addr} {L : List Addr} {zs : List Str} {S : Str → List Str} (h : SrcT H d L zs S) (nd : zs.Nodup) {i : Nat} {z y : Str} {l : Addr} (hi : zs[i]? = some z) (hl : L[i]? = some l) : SrcT (upd H l (.lst ((S z).map V.str ++ [.str y]))) d L zs fun u => if z = u then S u ++ [y] else S u := by
  have ml := List.mem_of_getElem? hl
  refine ⟨(upd_ne fun e => h.off (by rw [e]; exact ml)).trans h.dk, h.len, h.nd, h.off, fun j u k h1 h2 => ?_⟩
  by_cases e : j = i
  · subst e
    rw [hi] at h1
    rw [hl] at h2
    cases h1
    cases h2
    rw [upd_same, if_pos rfl, List.map_append]
    rfl
  · have ne : ¬ z = u := fun q => e (by
      subst q
      exact (List.getElem?_inj (List.getElem?_eq_some_iff.mp h1).1 nd).mp (h1.trans hi.symm))
    have nk : k ≠ l := fun q => e (by
      subst q
      exact (List.getElem?_inj (List.getElem?_eq_some_iff.mp h2).1 h.nd).mp (h2.trans hl.symm))
    rw [if_neg ne]
    exact (upd_ne nk).trans (h.at_ j u k h1 h2)
theorem SrcT.congr {H : Hp} {d : Addr} {L : List Addr} {zs : List Str} {S S' : Str → List Str} (h : SrcT H d L zs S) (e : ∀ z, S' z = S z) : SrcT H d L zs S' := ⟨h.dk, h.len, h.nd, h.off, fun i z l a b => by rw [e z]; exact h.at_ i z l a b⟩
theorem want_snoc (rs : List RU) (r : RU) (z : Str) : wantL (rs ++ [r]) z = if r.tag = Str.ofString "ahead" then (if r.b = z then wantL rs z ++ [r.a] else wantL rs z) else wantL rs z := by
  unfold wantL
  rw [List.filter_append]
  by_cases h : r.tag = Str.ofString "ahead"
  · by_cases g : r.b = z
    · rw [if_pos h, if_pos g, List.filter_cons_of_pos (by simp [h, g]), List.map_append]
      rfl
    · rw [if_pos h, if_neg g, List.filter_cons_of_neg (by simp [g]), List.filter_nil, List.append_nil]
  · rw [if_neg h, List.filter_cons_of_neg (by simp [h]), List.filter_nil, List.append_nil]
theorem bar_snoc (rs : List RU) (r : RU) (z : Str) : barL (rs ++ [r]) z = if r.tag = Str.ofString "ahead" then barL rs z else (if r.b = z then barL rs z ++ [r.a] else barL rs z) := by
  unfold barL
  rw [List.filter_append]
  by_cases h : r.tag = Str.ofString "ahead"
  · rw [if_pos h, List.filter_cons_of_neg (by simp [h]), List.filter_nil, List.append_nil]
  · by_cases g : r.b = z
    · rw [if_neg h, if_pos g, List.filter_cons_of_pos (by simp [h, g]), List.map_append]
      rfl
    · rw [if_neg h, if_neg g, List.filter_cons_of_neg (by simp [g]), List.filter_nil, List.append_nil]
theorem rd_names {K : PySem.W.Frag} {KC : Addr} {x0 kv x2 x3 x4 x5 x6 x7 x8 : Option V} {H : Hp} {Q : VK} {fs : List FD} {n : Nat} {cs : List CD} {kvv : V} (ek : kv = some kvv) (kd : KdA K KC H kvv fs n cs) (c6 : cs.length ≤ 6) (nd : (cs.map (·.nm)).Nodup)
    (q : ∀ H' D L, Same H H' → H D = none → (∀ l ∈ L, H l = none) → SrcT H' D L (cs.map (·.nm)) (fun _ => []) → Q (.ref D) H') :
    tLockE (tDc (iOwn KC "table" (tVar 1)) (gName 5) tYes (tVar 5) (tLst tNil) [5]) [x0, kv, x2, x3, x4, x5, x6, x7, x8] H Q := by
  subst ek
  obtain ⟨x, dx, so, sp, tb, t, st, tv, sv, rfl, h1, h2, h3, h4, h5, h6, h7, h8⟩ := kd
  refine ⟨tb, _, h8, trivial, fun od => ?_⟩
  have hL : upd H tb (.frz od (.dK (tableV cs sv))) tb = some (.frz od (.dK (tableV cs sv))) := upd_same
  have oL : ∀ {c : Addr}, c ≠ tb → upd H tb (.frz od (.dK (tableV cs sv))) c = H c := fun n => upd_ne n
  have xt : x ≠ tb := fun e => by rw [e, h8] at h1; cases h1
  have lkv : (tableV cs sv).length = cs.length := by
    unfold tableV
    rw [List.length_zipWith, h7.1, Nat.min_self]
  generalize upd H tb (.frz od (.dK (tableV cs sv))) = HL at hL oL ⊢
  refine ⟨_, rfl, x, dx, tb, _, od, _, rfl, (oL xt).trans h1, rfl, hL, fun D hD => ?_⟩
  have Dt : D ≠ tb := fun e => by rw [e, hL] at hD; cases hD
  refine dc_it (walk_keys (d := tb) (o := od) (kvs := tableV cs sv)) (fun i H2 => Same HL H2 ∧ ∃ L, (∀ l ∈ L, HL l = none) ∧ SrcT H2 D L ((cs.take i).map (·.nm)) (fun _ => [])) ⟨same_new (Same.refl HL) hD, [], nofun, upd_same, rfl, List.nodup_nil, nofun, fun i z l h => by simp at h⟩ (fun i H2 _ h => h.1 _ _ hL) ?_ ?_
  · rintro i _ H2 H3 hi ⟨e2, L, fr, si⟩ ⟨rfl, ky, v0, hkv, rfl⟩
    rw [lkv] at hi
    have hcd : cs[i]? = some cs[i] := List.getElem?_eq_getElem hi
    generalize cs[i] = cd at hcd
    obtain ⟨cv, hcv, _⟩ := h7.get' hcd
    rw [table_at hcd hcv] at hkv
    cases hkv
    have lL := si.len
    rw [List.length_map, List.length_take] at lL
    have nin : cd.nm ∉ (cs.take i).map (·.nm) := by
      rw [List.map_take]
      intro m
      obtain ⟨j, hj⟩ := List.mem_iff_getElem?.mp m
      rw [List.getElem?_take] at hj
      split at hj
      · rename_i lt
        have hc2 : (cs.map (·.nm))[i]? = some cd.nm := by rw [List.getElem?_map, hcd]; rfl
        exact Nat.lt_irrefl i ((List.getElem?_inj (List.getElem?_eq_some_iff.mp hj).1 nd).mp (hj.trans hc2.symm) ▸ lt)
      · cases hj
    refine ⟨rfl, _, rfl, by show 0 ≤ sizeLine; decide, fun p hp => ?_⟩
    have e3 := same_new (o := .lst []) (Same.refl H3) hp
    have s3 := si.keep e3
    have pD : p ≠ D := fun e => by rw [e, si.dk] at hp; cases hp
    have pL : p ∉ L := fun m => by
      obtain ⟨ys, e⟩ := si.lsts m
      rw [e] at hp
      cases hp
    refine ⟨_, .inr cd.nm, rfl, s3.dk, ?_, fun c o hc => (upd_ne (fun z => by rw [z, hD] at hc; cases hc)).trans (e3 _ _ (e2 _ _ hc)), L ++ [p], fun l m => (List.mem_append.mp m).elim (fr l) fun z => ?_, ?_⟩
    · rw [List.length_zip, List.length_map, List.length_map, List.length_map, List.length_take]
      show _ < 2 ^ 24
      omega
    · rw [List.mem_singleton.mp z]
      exact none_of e2 hp
    · rw [zipT_put nin si.len, show (cs.take (i + 1)).map (·.nm) = (cs.take i).map (·.nm) ++ [cd.nm] by rw [take_next' hcd, List.map_append]; rfl]
      refine ⟨upd_same, by rw [List.length_append, List.length_append, si.len]; rfl, ?_, ?_, fun j z l h1 h2 => ?_⟩
      · rw [List.nodup_append]
        exact ⟨si.nd, List.nodup_cons.mpr ⟨List.not_mem_nil, List.nodup_nil⟩, fun a ha b hb e => pL ((List.mem_singleton.mp hb) ▸ e ▸ ha)⟩
      · rw [List.mem_append, List.mem_singleton]
        exact fun h => h.elim si.off fun e => pD e.symm
      · by_cases q : j < L.length
        · rw [List.getElem?_append_left q] at h2
          rw [List.getElem?_append_left (by rw [← si.len]; exact q)] at h1
          exact (upd_ne fun e => si.off (by rw [← e]; exact List.mem_of_getElem? h2)).trans (s3.at_ j z l h1 h2)
        · rw [List.getElem?_append_right (by omega)] at h2
          have z0 : j - L.length = 0 := by
            have := (List.getElem?_eq_some_iff.mp h2).1
            rw [List.length_singleton] at this
            omega
          rw [z0] at h2
          cases h2
          exact (upd_ne pD).trans upd_same
  · rintro H2 ⟨e2, L, fr, si⟩
    rw [lkv, List.take_length] at si
    refine ⟨e2 _ _ hL, ?_⟩
    have Ltb : ∀ l ∈ L, l ≠ tb := fun l m e => by
      have := fr l m
      rw [e, hL] at this
      cases this
    refine q _ D L (fun c o hc => ?_) (by rw [← oL Dt]; exact hD) (fun l m => by rw [← oL (Ltb l m)]; exact fr l m) ⟨(upd_ne Dt).trans si.dk, si.len, si.nd, si.off, fun i z l a b => (upd_ne (Ltb l (List.mem_of_getElem? b))).trans (si.at_ i z l a b)⟩
    by_cases e : c = tb
    · subst e
      rw [upd_same, ← hc, h8]
    · exact (upd_ne e).trans (e2 _ _ ((oL e).trans hc))
theorem pi_sqVK {X : Cx} {K : PySem.W.Frag} {tg e : Expr} {i : Nat} (hK : X.K = K) (h : PE X e (tVar i)) : PI X tg e (iSqS K (tVar i)) := by
  subst hK
  exact pi_sqV h
def ruOf (d : Dt) : RU := match sqD d with
  | some [x, y] => ⟨txtD x, txtD y, txtD y⟩
  | some [x, y, z] => ⟨txtD x, txtD y, txtD z⟩
  | _ => ⟨Str.empty, Str.empty, Str.empty⟩
theorem isS_str {z : Str} {x : Dt} (h : isS z x = true) : x = .str z := by
  cases x with
  | str y => rw [show y = z from of_decide_eq_true h]
  | _ => cases h
theorem nameD_str {cs : List CD} {x : Dt} (h : nameD cs x = true) : ∃ z, x = .str z ∧ z ∈ cs.map (·.nm) := by
  cases x with
  | str y => exact ⟨y, rfl, of_decide_eq_true h⟩
  | _ => cases h
theorem rule_at {K : PySem.W.Frag} {H : Hp} {v : V} {cs : List CD} {d : Dt} (s : Sh K H v d) (h : ruleD cs d = true) : ∃ (p : Addr) (vs : List V) (m : Nat), v = .ref p ∧ (SqL K H p vs ∨ SqT K H p vs) ∧ vs[0]? = some (.str (ruOf d).tag) ∧ vs[1]? = some (.str (ruOf d).a) ∧ vs.length = m + 1 ∧ vs[m]? = some (.str (ruOf d).b) ∧ (ruOf d).a ∈ cs.map (·.nm) ∧ (ruOf d).b ∈ cs.map (·.nm) := by
  unfold ruleD at h
  cases hq : sqD d with
  | none => rw [hq] at h; cases h
  | some xs =>
    rw [hq] at h
    obtain ⟨vs, ⟨p, rfl, sq⟩, al, _⟩ := s.sq hq
    match xs, hq, al, h with
    | [], hq, al, h => cases h
    | [x], hq, al, h => cases h
    | [x, y], hq, al, h =>
      have h : ((nameD cs y && true) && (if isS (Str.ofString "once") x then decide (1 = 1) else (isS (Str.ofString "ahead") x || isS (Str.ofString "bar") x) && decide (1 = 2) && false)) = true := h
      rw [Bool.and_eq_true, Bool.and_eq_true] at h
      obtain ⟨b, rfl, hb⟩ := nameD_str h.1.1
      have hx : isS (Str.ofString "once") x = true := by
        cases q : isS (Str.ofString "once") x with
        | true => rfl
        | false =>
          have := h.2
          rw [q] at this
          simp at this
      obtain rfl := isS_str hx
      have e : ruOf d = ⟨Str.ofString "once", b, b⟩ := by unfold ruOf; rw [hq]; rfl
      rw [e]
      obtain ⟨v1, v2, rfl⟩ := len2 al.1
      obtain ⟨rfl, _⟩ := (al.2 0 v1 _ rfl rfl).str'
      obtain ⟨rfl, _⟩ := (al.2 1 v2 _ rfl rfl).str'
      exact ⟨p, _, 1, rfl, sq, rfl, rfl, rfl, rfl, hb, hb⟩
    | [x, y, z], hq, al, h =>
      have h : ((nameD cs y && (nameD cs z && true)) && (if isS (Str.ofString "once") x then decide (2 = 1) else (isS (Str.ofString "ahead") x || isS (Str.ofString "bar") x) && decide (2 = 2) && !decide (txtD y = txtD z))) = true := h
      rw [Bool.and_eq_true, Bool.and_eq_true, Bool.and_eq_true] at h
      obtain ⟨b, rfl, hb⟩ := nameD_str h.1.1
      obtain ⟨c, rfl, hc⟩ := nameD_str h.1.2.1
      have hx : ∃ t, x = .str t := by
        cases q : isS (Str.ofString "once") x with
        | true => exact ⟨_, isS_str q⟩
        | false =>
          have := h.2
          rw [q] at this
          cases q1 : isS (Str.ofString "ahead") x with
          | true => exact ⟨_, isS_str q1⟩
          | false =>
            cases q2 : isS (Str.ofString "bar") x with
            | true => exact ⟨_, isS_str q2⟩
            | false =>
              rw [q1, q2] at this
              simp at this
      obtain ⟨t, rfl⟩ := hx
      have e : ruOf d = ⟨t, b, c⟩ := by unfold ruOf; rw [hq]; rfl
      rw [e]
      obtain ⟨v1, v2, v3, rfl⟩ := len3 al.1
      obtain ⟨rfl, _⟩ := (al.2 0 v1 _ rfl rfl).str'
      obtain ⟨rfl, _⟩ := (al.2 1 v2 _ rfl rfl).str'
      obtain ⟨rfl, _⟩ := (al.2 2 v3 _ rfl rfl).str'
      exact ⟨p, _, 2, rfl, sq, rfl, rfl, rfl, rfl, hb, hc⟩
    | x :: y :: z :: u :: rest, hq, al, h =>
      have h : ((nameD cs y && (nameD cs z && (nameD cs u && rest.all (nameD cs)))) && (if isS (Str.ofString "once") x then decide ((y :: z :: u :: rest).length = 1) else (isS (Str.ofString "ahead") x || isS (Str.ofString "bar") x) && decide ((y :: z :: u :: rest).length = 2) && false)) = true := by
        have e : decide (2 ≤ (x :: y :: z :: u :: rest).length) = true := decide_eq_true (by simp)
        have h' : (decide (2 ≤ (x :: y :: z :: u :: rest).length) && (nameD cs y && (nameD cs z && (nameD cs u && rest.all (nameD cs)))) && (if isS (Str.ofString "once") x then decide ((y :: z :: u :: rest).length = 1) else (isS (Str.ofString "ahead") x || isS (Str.ofString "bar") x) && decide ((y :: z :: u :: rest).length = 2) && false)) = true := h
        rw [e, Bool.true_and] at h'
        exact h'
      rw [Bool.and_eq_true] at h
      have h2 := h.2
      split at h2
      · simp at h2
      · simp at h2
def spOInit (K : PySem.W.Frag) (OC KC : Addr) : Sp := fun vs H Q _ => ∃ (a dx : Addr) (kv rv : V) (fs : List FD) (n : Nat) (cs : List CD) (D0 : Dt) (ds : List Dt), vs = [.ref a, kv, rv] ∧ H a = some (.ins OC dx []) ∧ KdA K KC (Off a H) kv fs n cs ∧ KdOk fs n cs ∧ Sh K (Off a H) rv D0 ∧ sqD D0 = some ds ∧ ds.length ≤ 10 ∧ (∀ d ∈ ds, ruleD cs d = true ∧ FlatHd d) ∧
  ∀ H', Same (Off a H) H' → (∃ tb, OrR K OC KC H' a kv tb ⟨fs, n, cs, ds.map ruOf⟩ ∧ ∃ kvs, H' tb = some (.dK kvs)) → Q .non H'
section
variable {P : Program} {w : World} {K : PySem.W.Frag} {mg : Str → Option Value} {base : Heap} {OC KC fi : Addr} {fdi : FuncData}
theorem ok_oinit {f : Addr} {fd : FuncData} (F : FunU K "__init__" "Orders.__init__" s_Orders_init f fd) (T : Txt K mg) (Z : OCls K OC) (ZK : KCls K KC) (c_is_list : Cal P w K mg base CX0 1 "is_list" (spListX K)) (c_is_rule : Cal P w K mg base CX0 3 "is_rule" (spRuleX K KC))
    (H_iter : FnS P w K mg base 1 fi fdi ["self"] (spIter KC "table") ∧ PySem.W.findIn K (.ref KC) "__iter__" = some (some (.ref fi)) ∧ PySem.W.isFn K (.ref fi) = true ∧ Binds K fdi ["self"] []) : FnOk P w K mg base CX0 4 f fd ["self", "kind", "rules"] (spOInit K OC KC) := by
  refine F.ok sc_Orders_init (fun vs H Q E h => ?_) (fun cdv A outer sh H vs Q E hr h => ?_)
  · obtain ⟨a, dx, kv, rv, _, _, _, _, _, rfl, _⟩ := h
    rfl
  · obtain ⟨a, dx, kv, rv, fs, n, cs, D0, ds, rfl, ha, kd, ok, sh, hds, l10, all, q⟩ := h
    refine ⟨_, (pss_cons (ps_if (pt_not (pt_val (pe_c c_is_list hr (by first | decide | assumption) rfl (pa_cons (pv 2) pa_nil))))
(pss_one (ps_never))
pss_nil)
(pss_cons (ps_for PassesOwn.never rfl (pi_enV (by rfl) T.enumerate (pa_cons (pv 2) pa_nil)) (pg_tup (by rfl) (pgs_cons (pg_name (i := 3) sc_Orders_init.nd rfl (Or.inl rfl)) (pgs_cons (pg_name (i := 4) sc_Orders_init.nd rfl (Or.inl rfl)) pgs_nil)))
(pss_one (ps_if (pt_not (pt_val (pe_c c_is_rule hr (by first | decide | assumption) rfl (pa_cons (pv 1) (pa_cons (pv 4) pa_nil)))))
(pss_one (ps_never))
pss_nil)))
(pss_cons (ps_fld (pv 0) (pv 1) rfl)
(pss_cons (ps_fld (pv 0) (pe_lc (own := [("name", 5), ("sort", 6), ("need", 7)]) (g := (gTup K 3 (gCons (gName 5) (gCons (gName 6) (gCons (gName 7) gNil))))) (tt := tYes) rfl sc_Orders_init.nd (pi_tup (pe_fld (pv 1) rfl)) (blkOk_by (own := [("name", 5), ("sort", 6), ("need", 7)]) (N := ["self", "kind", "rules", "index", "rule", "name", "sort", "need", "table"]) (sc := defScope s_Orders_init) (by decide +kernel)) (fun _ _ _ _ _ => (pg_tup (by rfl) (pgs_cons (pg_name (i := 5) sc_Orders_init.nd rfl (Or.inl rfl)) (pgs_cons (pg_name (i := 6) sc_Orders_init.nd rfl (Or.inl rfl)) (pgs_cons (pg_name (i := 7) sc_Orders_init.nd rfl (Or.inl rfl)) pgs_nil))))) (fun _ _ _ _ _ => pts_nil) (fun _ _ _ _ _ => (pv 7))) rfl)
(pss_cons (ps_fld (pv 0) (pe_lock (pe_dc (own := [("name", 5)]) (g := (gName 5)) (tt := tYes) rfl sc_Orders_init.nd (pi_own (pv 1) H_iter.1 H_iter.2.1 H_iter.2.2.1 H_iter.2.2.2 (hr.mono (by decide))) (blkOk_by (own := [("name", 5)]) (N := ["self", "kind", "rules", "index", "rule", "name", "sort", "need", "table"]) (sc := defScope s_Orders_init) (by decide +kernel)) (fun _ _ _ _ _ => (pg_name (i := 5) sc_Orders_init.nd rfl (Or.inl rfl))) (fun _ _ _ _ _ => pts_nil) (fun _ _ _ _ _ => (pv 5)) (fun _ _ _ _ _ => (pe_lst pa_nil)))) rfl)
(pss_cons (ps_fld (pv 0) (pe_lock (pe_dc (own := [("name", 5)]) (g := (gName 5)) (tt := tYes) rfl sc_Orders_init.nd (pi_own (pv 1) H_iter.1 H_iter.2.1 H_iter.2.2.1 H_iter.2.2.2 (hr.mono (by decide))) (blkOk_by (own := [("name", 5)]) (N := ["self", "kind", "rules", "index", "rule", "name", "sort", "need", "table"]) (sc := defScope s_Orders_init) (by decide +kernel)) (fun _ _ _ _ _ => (pg_name (i := 5) sc_Orders_init.nd rfl (Or.inl rfl))) (fun _ _ _ _ _ => pts_nil) (fun _ _ _ _ _ => (pv 5)) (fun _ _ _ _ _ => (pe_lst pa_nil)))) rfl)
(pss_cons (ps_for PassesOwn.never rfl (pi_sqV (pv 2)) (pg_name (i := 4) sc_Orders_init.nd rfl (Or.inl rfl))
(pss_cons (ps_set (i := 8) sc_Orders_init.nd rfl (Or.inl rfl) (pe_cut (pe_ifExp (pt_cmpR op_eq (pe_ix ix_seq (pv 4) pe_int (fun _ _ => rfl)) pe_str (nomark _)) (pe_fld (pv 0) rfl) (pe_fld (pv 0) rfl))))
(pss_one (ps_expr (pe_bm PySem.F.plainAttrs_list PySem.F.slot_list_append PySem.F.type_list_append mt_append (pe_dget (hu_of hr) (pv 8) (pe_ix ix_seq (pv 4) (pe_un un_neg pe_int) (fun _ _ => rfl)) (fun _ _ => rfl)) (pa_cons (pe_ix ix_seq (pv 4) pe_int (fun _ _ => rfl)) pa_nil))))))
(pss_one (ps_fld (pv 0) (pe_lock (pe_lc (own := [("name", 5)]) (g := (gName 5)) rfl sc_Orders_init.nd (pi_own (pv 1) H_iter.1 H_iter.2.1 H_iter.2.2.1 H_iter.2.2.2 (hr.mono (by decide))) (blkOk_by (own := [("name", 5)]) (N := ["self", "kind", "rules", "index", "rule", "name", "sort", "need", "table"]) (sc := defScope s_Orders_init) (by decide +kernel)) (fun _ _ _ _ _ => (pg_name (i := 5) sc_Orders_init.nd rfl (Or.inl rfl))) (fun _ _ _ _ _ => (pts_one (pt_cmpR (op_in_seqK (K := K) rfl) (pv 5) (pe_lc (own := [("rule", 4)]) (g := (gName 4)) (tt := tYes) rfl sc_Orders_init.nd (pi_sqVK (K := K) rfl (pv 2)) (blkOk_by (own := [("rule", 4)]) (N := ["self", "kind", "rules", "index", "rule", "name", "sort", "need", "table"]) (sc := { kind := .function, names := [(".0", .local), ("name", .local), ("rules", .cell)], isGenerator := false, isCoroutine := false }) (by decide +kernel)) (fun _ _ _ _ _ => (pg_name (i := 4) sc_Orders_init.nd rfl (Or.inl rfl))) (fun _ _ _ _ _ => pts_nil) (fun _ _ _ _ _ => (pe_ix (ix_seqK (K := K) rfl) (pv 4) pe_int (fun _ _ => rfl)))) (by rfl)))) (fun _ _ _ _ _ => (pv 5)))) rfl))))))))), ?_⟩
    have kdH := kd.keep off_same
    have shH := sh.keep off_same
    have h0 : isSq D0 = true := by rw [isSq_iff, hds]; rfl
    refine ⟨_, rfl, rv, D0, rfl, shH, fun H1 e1 => ⟨true, congrArg V.bl h0, iteF ?_⟩⟩
    obtain ⟨vs, ⟨ra, rfl, hs⟩, al, few⟩ := (shH.keep e1).sq hds
    refine ⟨_, rfl, ra, vs, H1, rfl, hs, Same.refl H1, fun J GG wk gk => ?_⟩
    refine for_it wk (fun i σ H2 => Same H1 H2 ∧ ∃ x3 x4, σ = [some (.ref a), some kv, some (.ref ra), x3, x4, none, none, none, none]) ⟨Same.refl H1, none, none, rfl⟩ (fun i σ H2 _ h => gk _ h.1) ?_ ?_
    · rintro i _ σ H2 _ hi ⟨e2, x3, x4, rfl⟩ ⟨T, u, v, rfl, hT, rfl, hu, hv⟩
      have hu : some (V.int (i : Nat)) = some u := hu
      obtain rfl := Option.some.inj hu
      obtain ⟨d, hd, sd⟩ := al.get hv
      obtain ⟨hr1, hf1⟩ := all d (List.mem_of_getElem? hd)
      have e3 := same_new (o := .tup [.int (i : Nat), v]) e2 hT
      have t3 : SqT K (upd H2 T (.tup [.int (i : Nat), v])) T [.int (i : Nat), v] := SqT.of upd_same
      generalize upd H2 T (.tup [.int (i : Nat), v]) = H3 at e3 t3 ⊢
      refine ⟨T, _, rfl, t3, rfl, _, _, rfl, _, _, rfl, rfl, ?_⟩
      exact ⟨_, rfl, _, rfl, kv, v, fs, n, cs, d, rfl, kdH.keep (e1.trans e3), sd.keep e3, hf1, fun H4 e4 => ⟨true, congrArg V.bl hr1, iteF ⟨e3.trans e4, _, _, rfl⟩⟩⟩
    · rintro σ H2 ⟨e2, x3, x4, rfl⟩
      have e02 := e1.trans e2
      have offs : ∀ {G : Hp} {o : HO}, Same (Off a H) (Off a G) → Same (Off a H) (Off a (upd G a o)) := fun h => by rw [off_put]; exact h
      have s02 : Same (Off a H) (Off a H2) := same_off e02
      have a2 := e02 _ _ ha
      obtain ⟨x, kx, so, sp, tb, t, st, tv, sv, rfl, h1, ⟨ta, rfl, h2⟩, h3, h4, h5, h6, h7, h8⟩ := id kd
      refine ⟨_, rfl, _, rfl, a, OC, dx, _, rfl, a2, Z.cls, Z.kind, Nat.le_of_ble_eq_true rfl, ?_⟩
      have sA := offs (o := .ins OC dx (putF "kind" (.ref x) [])) s02
      have aA : upd H2 a (.ins OC dx (putF "kind" (.ref x) [])) a = some (.ins OC dx [("kind", .ref x)]) := upd_same
      generalize upd H2 a (.ins OC dx (putF "kind" (.ref x) [])) = HA at sA aA ⊢
      have kA : KdA K KC (Off a HA) (.ref x) fs n cs := kd.keep sA
      have up : ∀ {G : Hp}, Same (Off a H) (Off a G) → Same (Off a H) G := fun h => h.trans off_same
      have few3 := ok.fields.le
      refine ⟨_, rfl, x, KC, kx, _, .ref ta, rfl, up sA _ _ h1, ZK.cls, ZK.triples, rfl, ta, rfl, ⟨tv, same_t (up sA) h2⟩, fun L hL => ?_⟩
      refine lc_it (walk_tup (K := K) (a := ta) (xs := tv)) (fun i H3 => Same HA H3 ∧ H3 L = some (.lst ((fs.take i).map fun f => V.bl f.need))) ⟨same_new (Same.refl HA) hL, upd_same⟩ (fun i H3 _ h => same_t ((up sA).trans h.1) h2) ?_ ?_
      · rintro i y H4 H3 hi ⟨e3, l3⟩ ⟨rfl, hy⟩
        obtain ⟨f0, hf0, ft, rfl, hft⟩ := h3.get hy
        have lfs := h3.1
        refine ⟨ft, _, rfl, same_t ((up sA).trans e3) hft, rfl, _, _, rfl, _, _, rfl, _, _, rfl, rfl, rfl, ?_⟩
        refine ⟨_, rfl, _, l3, ?_, fun c o hc => (upd_ne (fun z => by rw [z, hL] at hc; cases hc)).trans (e3 _ _ hc), ?_⟩
        · rw [List.length_map, List.length_take]
          show _ < 2 ^ 24
          omega
        · rw [upd_same, List.take_succ, hf0, List.map_append]
          rfl
      rintro H3 ⟨e3, l3⟩
      rw [h3.1, List.take_length] at l3
      have a3 := e3 _ _ aA
      have s3 : Same (Off a H) (Off a H3) := sA.trans (same_off e3)
      refine ⟨_, rfl, a, OC, dx, _, rfl, a3, Z.cls, Z.needed, Nat.le_of_ble_eq_true rfl, ?_⟩
      have La : L ≠ a := fun e => by rw [e, aA] at hL; cases hL
      have sB := offs (o := .ins OC dx (putF "needed" (.ref L) [("kind", .ref x)])) s3
      have aB : upd H3 a (.ins OC dx (putF "needed" (.ref L) [("kind", .ref x)])) a = some (.ins OC dx [("kind", .ref x), ("needed", .ref L)]) := upd_same
      have lB : upd H3 a (.ins OC dx (putF "needed" (.ref L) [("kind", .ref x)])) L = some (.lst (fs.map fun f => V.bl f.need)) := (upd_ne La).trans l3
      generalize upd H3 a (.ins OC dx (putF "needed" (.ref L) [("kind", .ref x)])) = HB at sB aB lB ⊢
      have kB := (kd.keep sB).keep off_same
      dsimp only [tSeq, sFld]
      refine rd_names rfl kB ok.cle ok.nd fun HC wa LW eC wan LWn sw => ?_
      have wa0 : wa ≠ a := fun e => by rw [e, aB] at wan; cases wan
      have LWa : ∀ l ∈ LW, l ≠ a := fun l m e => by
        have := LWn l m
        rw [e, aB] at this
        cases this
      have aC := eC _ _ aB
      have lC := eC _ _ lB
      have sC : Same (Off a H) (Off a HC) := sB.trans (same_off eC)
      refine ⟨_, rfl, a, OC, dx, _, rfl, aC, Z.cls, Z.wanted, Nat.le_of_ble_eq_true rfl, ?_⟩
      have sD := offs (o := .ins OC dx (putF "wanted" (.ref wa) [("kind", .ref x), ("needed", .ref L)])) sC
      have aD : upd HC a (.ins OC dx (putF "wanted" (.ref wa) [("kind", .ref x), ("needed", .ref L)])) a = some (.ins OC dx [("kind", .ref x), ("needed", .ref L), ("wanted", .ref wa)]) := upd_same
      have lD : upd HC a (.ins OC dx (putF "wanted" (.ref wa) [("kind", .ref x), ("needed", .ref L)])) L = some (.lst (fs.map fun f => V.bl f.need)) := (upd_ne La).trans lC
      have swD := sw.put (o := .ins OC dx (putF "wanted" (.ref wa) [("kind", .ref x), ("needed", .ref L)])) (fun m => LWa a m rfl) wa0.symm
      generalize upd HC a (.ins OC dx (putF "wanted" (.ref wa) [("kind", .ref x), ("needed", .ref L)])) = HD at sD aD lD swD ⊢
      have kD := (kd.keep sD).keep off_same
      refine rd_names rfl kD ok.cle ok.nd fun HE ba LB eE ban LBn sb => ?_
      have ba0 : ba ≠ a := fun e => by rw [e, aD] at ban; cases ban
      have LBa : ∀ l ∈ LB, l ≠ a := fun l m e => by
        have := LBn l m
        rw [e, aD] at this
        cases this
      have wb : wa ≠ ba := fun e => by rw [← e, swD.dk] at ban; cases ban
      have LBw : ∀ l ∈ LB, l ≠ wa ∧ l ∉ LW := fun l m => by
        have n0 := LBn l m
        refine ⟨fun e => ?_, fun m2 => ?_⟩
        · rw [e, swD.dk] at n0
          cases n0
        · obtain ⟨ys, e⟩ := swD.lsts m2
          rw [e] at n0
          cases n0
      have LWb : ∀ l ∈ LW, l ≠ ba ∧ l ∉ LB := fun l m => by
        refine ⟨fun e => ?_, fun m2 => (LBw l m2).2 m⟩
        obtain ⟨ys, e2⟩ := swD.lsts m
        rw [e, ban] at e2
        cases e2
      have aE := eE _ _ aD
      have lE := eE _ _ lD
      have swE := swD.keep eE
      have sE : Same (Off a H) (Off a HE) := sD.trans (same_off eE)
      refine ⟨_, rfl, a, OC, dx, _, rfl, aE, Z.cls, Z.barred, Nat.le_of_ble_eq_true rfl, ?_⟩
      have sF := offs (o := .ins OC dx (putF "barred" (.ref ba) [("kind", .ref x), ("needed", .ref L), ("wanted", .ref wa)])) sE
      have aF : upd HE a (.ins OC dx (putF "barred" (.ref ba) [("kind", .ref x), ("needed", .ref L), ("wanted", .ref wa)])) a = some (.ins OC dx [("kind", .ref x), ("needed", .ref L), ("wanted", .ref wa), ("barred", .ref ba)]) := upd_same
      have lF : upd HE a (.ins OC dx (putF "barred" (.ref ba) [("kind", .ref x), ("needed", .ref L), ("wanted", .ref wa)])) L = some (.lst (fs.map fun f => V.bl f.need)) := (upd_ne La).trans lE
      have swF := swE.put (o := .ins OC dx (putF "barred" (.ref ba) [("kind", .ref x), ("needed", .ref L), ("wanted", .ref wa)])) (fun m => LWa a m rfl) wa0.symm
      have sbF := sb.put (o := .ins OC dx (putF "barred" (.ref ba) [("kind", .ref x), ("needed", .ref L), ("wanted", .ref wa)])) (fun m => LBa a m rfl) ba0.symm
      generalize upd HE a (.ins OC dx (putF "barred" (.ref ba) [("kind", .ref x), ("needed", .ref L), ("wanted", .ref wa)])) = HF at sF aF lF swF sbF ⊢
      obtain ⟨vs2, ⟨ra2, era, hs2⟩, al2, _⟩ := sh.sq hds
      cases era
      have lds := al2.1
      refine ⟨_, rfl, ra, vs2, Off a H, rfl, hs2, up sF, fun J GG wk gk => ?_⟩
      refine for_it wk (fun i σ G => Same (Off a H) (Off a G) ∧ G a = some (.ins OC dx [("kind", .ref x), ("needed", .ref L), ("wanted", .ref wa), ("barred", .ref ba)]) ∧ G L = some (.lst (fs.map fun f => V.bl f.need)) ∧ SrcT G wa LW (cs.map (·.nm)) (wantL ((ds.take i).map ruOf)) ∧ SrcT G ba LB (cs.map (·.nm)) (barL ((ds.take i).map ruOf)) ∧ ∃ x3 x4 x8, σ = [some (.ref a), some (.ref x), some (.ref ra), x3, x4, none, none, none, x8]) ⟨sF, aF, lF, swF, sbF, _, _, _, rfl⟩ (fun i σ G _ h => gk _ (up h.1)) ?_ ?_
      · rintro i v σ G G' hi ⟨sG, aG, lG, swG, sbG, x3, x4, x8, rfl⟩ ⟨rfl, hv⟩
        obtain ⟨d, hd, sd⟩ := al2.get hv
        obtain ⟨hr1, hf1⟩ := all d (List.mem_of_getElem? hd)
        obtain ⟨p, ws, m, rfl, hp, w0, w1, wm, wl, na, nb⟩ := rule_at (sd.keep (up sG)) hr1
        have er : (ds.take (i + 1)).map ruOf = (ds.take i).map ruOf ++ [ruOf d] := by rw [take_next' hd, List.map_append]; rfl
        rw [er]
        generalize ruOf d = r at w0 w1 wl na nb
        have ni : ((ds.take i).map ruOf).length ≤ 10 := by rw [List.length_map, List.length_take]; omega
        generalize (ds.take i).map ruOf = rs at swG sbG ni
        have wsp := last_split (xs := ws) (x := V.str r.b) (by rw [wm]; exact wl)
        have wlast : atI ws (-1) = some (.str r.b) := by rw [wsp]; exact L2.atI_last _ _
        have rxl : ∀ {Q : VK}, Q (.str r.b) G' → rIx K (.ref p) (.int (-1)) G' Q := fun {Q} h => hp.elim (fun h' => .inl ⟨_, _, _, _, rfl, rfl, h', wlast, h⟩) (fun h' => .inr (.inl ⟨_, _, _, _, rfl, rfl, h', wlast, h⟩))
        refine ⟨fun u H' => u = .ref (if r.tag = Str.ofString "ahead" then wa else ba) ∧ H' = G', ?_, ?_⟩
        · refine ⟨_, rfl, ix_of (i := 0) hp w0 ⟨rfl, _, rfl, ite2 (fun g => ?_) (fun g => ?_)⟩⟩
          · have : r.tag = Str.ofString "ahead" := by simpa using g
            rw [if_pos this]
            exact ⟨_, rfl, a, OC, dx, _, .ref wa, rfl, aG, Z.cls, Z.wanted, rfl, rfl, rfl⟩
          · have : ¬ r.tag = Str.ofString "ahead" := by simpa using g
            rw [if_neg this]
            exact ⟨_, rfl, a, OC, dx, _, .ref ba, rfl, aG, Z.cls, Z.barred, rfl, rfl, rfl⟩
        · rintro _ G2 ⟨rfl, rfl⟩
          by_cases tg : r.tag = Str.ofString "ahead"
          · rw [if_pos tg]
            obtain ⟨j, l, hj, hl, vl, ll⟩ := swG.get ok.nd nb
            have ml := List.mem_of_getElem? hl
            have lz := want_le rs r.b
            refine ⟨_, rfl, _, rfl, 1, rfl, rxl ⟨wa, .ref l, rfl, vl ▸ DGet.k (k := .inr r.b) swG.dk, .inl ⟨rfl, _, SqL.of ll⟩, _, rfl, ix_of (i := 1) hp w1 ⟨l, _, _, rfl, rfl, ll, ?_, ?_⟩⟩⟩
            · rw [List.length_map]
              show _ < 2 ^ 24
              omega
            · refine ⟨fun c o hc => ?_, (upd_ne (LWa l ml).symm).trans aG, (upd_ne fun e => ?_).trans lG, (swG.app ok.nd hj hl).congr fun z => ?_, (sbG.put (LWb l ml).2 (LWb l ml).1).congr fun z => ?_, _, _, _, rfl⟩
              · have nl : Off a H l = none := none_of (up sB) (LWn l ml)
                have ca : c ≠ a := fun e => by rw [e, off_s] at hc; cases hc
                exact (off_ne ca).trans ((upd_ne (fun z => by rw [z, nl] at hc; cases hc)).trans ((off_ne ca).symm.trans (sG _ _ hc)))
              · have n0 := LWn l ml
                rw [← e, lB] at n0
                cases n0
              · rw [want_snoc, if_pos tg]
              · rw [bar_snoc, if_pos tg]
          · rw [if_neg tg]
            obtain ⟨j, l, hj, hl, vl, ll⟩ := sbG.get ok.nd nb
            have ml := List.mem_of_getElem? hl
            have lz := bar_le rs r.b
            refine ⟨_, rfl, _, rfl, 1, rfl, rxl ⟨ba, .ref l, rfl, vl ▸ DGet.k (k := .inr r.b) sbG.dk, .inl ⟨rfl, _, SqL.of ll⟩, _, rfl, ix_of (i := 1) hp w1 ⟨l, _, _, rfl, rfl, ll, ?_, ?_⟩⟩⟩
            · rw [List.length_map]
              show _ < 2 ^ 24
              omega
            · refine ⟨fun c o hc => ?_, (upd_ne (LBa l ml).symm).trans aG, (upd_ne fun e => ?_).trans lG, (swG.put (LBw l ml).2 (LBw l ml).1).congr fun z => ?_, (sbG.app ok.nd hj hl).congr fun z => ?_, _, _, _, rfl⟩
              · have nl : Off a H l = none := none_of (up sD) (LBn l ml)
                have ca : c ≠ a := fun e => by rw [e, off_s] at hc; cases hc
                exact (off_ne ca).trans ((upd_ne (fun z => by rw [z, nl] at hc; cases hc)).trans ((off_ne ca).symm.trans (sG _ _ hc)))
              · have n0 := LBn l ml
                rw [← e, lD] at n0
                cases n0
              · rw [want_snoc, if_neg tg]
              · rw [bar_snoc, if_neg tg]
      · rintro σ G ⟨sG, aG, lG, swG, sbG, x3, x4, x8, rfl⟩
        rw [lds, List.take_length] at swG sbG
        have rsG : SqL K G ra vs2 ∨ SqT K G ra vs2 := sq_at (up sG) hs2
        have itG : ∀ (j : Nat) v, vs2[j]? = some v → ∃ d p ws, ds[j]? = some d ∧ v = .ref p ∧ (SqL K G p ws ∨ SqT K G p ws) ∧ ws[1]? = some (.str (ruOf d).a) := fun j v hv => by
          obtain ⟨d, hd, sd⟩ := al2.get hv
          obtain ⟨p, ws, m, e, hp, _, w1, _⟩ := rule_at (sd.keep (up sG)) (all d (List.mem_of_getElem? hd)).1
          exact ⟨d, p, ws, hd, e, hp, w1⟩
        have tbG := up sG _ _ h8
        have xG := up sG _ _ h1
        refine ⟨tb, _, tbG, trivial, fun od => ?_⟩
        have mL : Km G (upd G tb (.frz od (.dK (tableV cs sv)))) := Km.lock tbG
        have hL : upd G tb (.frz od (.dK (tableV cs sv))) tb = some (.frz od (.dK (tableV cs sv))) := upd_same
        have oL : ∀ {c : Addr}, c ≠ tb → upd G tb (.frz od (.dK (tableV cs sv))) c = G c := fun n => upd_ne n
        generalize upd G tb (.frz od (.dK (tableV cs sv))) = HL at mL hL oL ⊢
        have lkv : (tableV cs sv).length = cs.length := by
          unfold tableV
          rw [List.length_zipWith, h7.1, Nat.min_self]
        have c6 := ok.cle
        refine ⟨_, rfl, x, kx, tb, _, od, _, rfl, mL.2 _ _ _ _ xG, rfl, hL, fun L2 hL2 => ?_⟩
        have L2tb : L2 ≠ tb := fun e => by rw [e, hL] at hL2; cases hL2
        refine lc_it (walk_keys (d := tb) (o := od) (kvs := tableV cs sv)) (fun i H2 => Same HL H2 ∧ H2 L2 = some (.lst ((((cs.map (·.nm)).take i).filter fun z => decide (z ∈ (ds.map ruOf).map (·.a))).map V.str))) ⟨same_new (Same.refl HL) hL2, by rw [List.take_zero]; exact upd_same⟩ (fun i H2 _ h => h.1 _ _ hL) ?_ ?_
        · rintro i _ H2 H3 hi ⟨e2, l2⟩ ⟨rfl, ky, v0, hkv, rfl⟩
          rw [lkv] at hi
          have hcd : cs[i]? = some cs[i] := List.getElem?_eq_getElem hi
          generalize cs[i] = cd at hcd
          obtain ⟨cv, hcv, _⟩ := h7.get' hcd
          rw [table_at hcd hcv] at hkv
          cases hkv
          have hnm : (cs.map (·.nm))[i]? = some cd.nm := by rw [List.getElem?_map, hcd]; rfl
          have fe := filter_next (f := fun z => decide (z ∈ (ds.map ruOf).map (·.a))) hnm
          have m2 : ∀ {p : Addr} {ws : List V}, (SqL K G p ws ∨ SqT K G p ws) → (SqL K H3 p ws ∨ SqT K H3 p ws) := fun h => h.imp (fun h => e2.seq (mL.sql h)) fun h => same_t e2 (mL.sqt h)
          refine ⟨rfl, _, rfl, ?_⟩
          refine ⟨_, rfl, ra, vs2, H3, rfl, m2 rsG, Same.refl H3, fun J GG wk gk L3 hL3 => ?_⟩
          refine lc_it wk (fun j H4 => Same H3 H4 ∧ H4 L3 = some (.lst ((ds.take j).map fun d => V.str (ruOf d).a))) ⟨same_new (Same.refl H3) hL3, upd_same⟩ (fun j H4 _ h => gk _ h.1) ?_ ?_
          · rintro j y H5 H4 hj ⟨e4, l4⟩ ⟨rfl, hy⟩
            obtain ⟨d, p, ws, hd, rfl, hp, w1⟩ := itG j y hy
            refine ⟨rfl, _, rfl, ix_of (i := 1) (sq_at e4 (m2 hp)) w1 ⟨_, l4, ?_, fun c o hc => (upd_ne (fun z => by rw [z, hL3] at hc; cases hc)).trans (e4 _ _ hc), ?_⟩⟩
            · rw [List.length_map, List.length_take]
              show _ < 2 ^ 24
              omega
            · rw [upd_same, List.take_succ, hd, List.map_append]
              rfl
          · rintro H4 ⟨e4, l4⟩
            rw [lds, List.take_length] at l4
            have el : (ds.map fun d => V.str (ruOf d).a) = ((ds.map ruOf).map (·.a)).map V.str := by rw [List.map_map, List.map_map]; rfl
            rw [el] at l4
            refine ⟨L3, _, rfl, .inl (SqL.of l4), rfl, flat_strs _, ?_⟩
            show ∃ k, V.bl (inV (.str cd.nm) (((ds.map ruOf).map (·.a)).map V.str)) = V.bl k ∧ _
            rw [inV_strs]
            have l24 := e4 _ _ l2
            refine ⟨_, rfl, ite2 (fun g => ?_) (fun g => ?_)⟩
            · refine ⟨_, rfl, _, l24, ?_, fun c o hc => (upd_ne (fun z => by rw [z, hL2] at hc; cases hc)).trans (e4 _ _ (e2 _ _ hc)), ?_⟩
              · have h2 := List.length_filter_le (fun z => decide (z ∈ (ds.map ruOf).map (·.a))) ((cs.map (·.nm)).take i)
                rw [List.length_take, List.length_map] at h2
                rw [List.length_map]
                show _ < 2 ^ 24
                omega
              · rw [upd_same, fe, if_pos g, List.map_append]
                rfl
            · refine ⟨e2.trans e4, ?_⟩
              rw [fe, if_neg g, List.append_nil]
              exact l24
        · rintro H2 ⟨e2, l2⟩
          rw [lkv, ← List.length_map (as := cs) (f := (·.nm)), List.take_length] at l2
          refine ⟨e2 _ _ hL, ?_⟩
          have eU : Same G (upd H2 tb (.dK (tableV cs sv))) := fun c o hc => by
            by_cases e : c = tb
            · subst e
              rw [upd_same, ← hc, tbG]
            · exact (upd_ne e).trans (e2 _ _ ((oL e).trans hc))
          have l2U : upd H2 tb (.dK (tableV cs sv)) L2 = some (.lst ((((cs.map (·.nm))).filter fun z => decide (z ∈ (ds.map ruOf).map (·.a))).map V.str)) := (upd_ne L2tb).trans l2
          generalize upd H2 tb (.dK (tableV cs sv)) = HU at eU l2U ⊢
          have L2G : G L2 = none := by rw [← oL L2tb]; exact hL2
          have L2a : L2 ≠ a := fun e => by rw [e, aG] at L2G; cases L2G
          have aU := eU _ _ aG
          refine ⟨_, rfl, a, OC, dx, _, rfl, aU, Z.cls, Z.counted, Nat.le_of_ble_eq_true rfl, ?_⟩
          have sU : Same (Off a H) (Off a HU) := sG.trans (same_off eU)
          have sZ := offs (o := .ins OC dx (putF "counted" (.ref L2) [("kind", .ref x), ("needed", .ref L), ("wanted", .ref wa), ("barred", .ref ba)])) sU
          have oZ : ∀ {c : Addr}, c ≠ a → upd HU a (.ins OC dx (putF "counted" (.ref L2) [("kind", .ref x), ("needed", .ref L), ("wanted", .ref wa), ("barred", .ref ba)])) c = HU c := fun n => upd_ne n
          have aZ : upd HU a (.ins OC dx (putF "counted" (.ref L2) [("kind", .ref x), ("needed", .ref L), ("wanted", .ref wa), ("barred", .ref ba)])) a = some (.ins OC dx [("kind", .ref x), ("needed", .ref L), ("wanted", .ref wa), ("barred", .ref ba), ("counted", .ref L2)]) := upd_same
          have swZ := (swG.keep eU).put (o := .ins OC dx (putF "counted" (.ref L2) [("kind", .ref x), ("needed", .ref L), ("wanted", .ref wa), ("barred", .ref ba)])) (fun m => LWa a m rfl) wa0.symm
          have sbZ := (sbG.keep eU).put (o := .ins OC dx (putF "counted" (.ref L2) [("kind", .ref x), ("needed", .ref L), ("wanted", .ref wa), ("barred", .ref ba)])) (fun m => LBa a m rfl) ba0.symm
          have lZ := (oZ La).trans (eU _ _ lG)
          have l2Z := (oZ L2a).trans l2U
          show Q .non _
          generalize upd HU a (.ins OC dx (putF "counted" (.ref L2) [("kind", .ref x), ("needed", .ref L), ("wanted", .ref wa), ("barred", .ref ba)])) = HZ at sZ aZ swZ sbZ lZ l2Z ⊢
          have zz := up sZ
          refine q HZ zz ⟨tb, ⟨dx, L, wa, ba, L2, aZ, ⟨x, kx, _, .ref ta, tv, sv, rfl, zz _ _ h1, rfl, rfl, ⟨ta, rfl, same_t zz h2⟩, h3.mono fun _ _ h => FdT.keep zz h, h7.mono fun _ _ h => CdT.keep zz h, .inl (zz _ _ h8)⟩, .inl lZ, ⟨_, .inl swZ.dk, fun z hz => ?_⟩, ⟨_, .inl sbZ.dk, fun z hz => ?_⟩, .inl l2Z⟩, _, zz _ _ h8⟩
          · obtain ⟨_, l, _, _, v, ll⟩ := swZ.get ok.nd hz
            exact ⟨l, v, .inl ll⟩
          · obtain ⟨_, l, _, _, v, ll⟩ := sbZ.get ok.nd hz
            exact ⟨l, v, .inl ll⟩
end
end MK
set_option Elab.async false
set_option linter.all false
set_option autoImplicit false
set_option maxRecDepth 100000
set_option maxHeartbeats 4000000
namespace MK
open PySem PySem.Spec PyProof.Rows L2
open C8 (Met pe_mt pe_mt0 Mak pe_mk)
local macro_rules | `(tactic| walk_at "x") => `(tactic| dsimp only [tSeq, tAsg, tRet, tDrop, tLst, tTup, tCons, tOp, tUn, tIfS])
theorem sc_is_good : FnScope ["kind", "rules", "names", "orders", "place", "name"] ["kind", "rules", "names"] (defScope s_is_good) := ⟨rfl, rfl, rfl, by decide +kernel, rfl, by decide +kernel, by decide +kernel⟩
def placeO (D : OD) (cd : CD) : Pl → Option Pl
  | .tup [.num m, .tup cts, .tup seen] => placeB D m.toNat (cts.map intN) (seen.map textN) cd
  | _ => none
theorem placeO_pl (D : OD) (m : Nat) (cts : List Int) (seen : List Str) (cd : CD) : placeO D cd (plK m cts seen) = placeB D m cts seen cd := by
  have e1 : (cts.map NestedKey.num).map intN = cts := by
    rw [List.map_map]
    exact List.map_id cts
  have e2 : (seen.map NestedKey.text).map textN = seen := by
    rw [List.map_map]
    exact List.map_id seen
  show placeB D (m : Int).toNat ((cts.map NestedKey.num).map intN) ((seen.map NestedKey.text).map textN) cd = _
  rw [e1, e2, Int.toNat_natCast]
/-- one name on -/
def stepO (D : OD) (p : Pl) (x : Dt) : Option Pl := if p = dn then none else match x with
  | .str z => (D.cs.find? fun c => decide (c.nm = z)).bind fun cd => placeO D cd p
  | _ => none
def goodB (D : OD) (d : Dt) : Bool := match sqD d with
  | none => false
  | some xs => decide (xs.foldlM (stepO D) (startO D) = some dn)
theorem foldO_next {D : OD} {xs : List Dt} {i : Nat} {x : Dt} {p : Pl} (h : (xs.take i).foldlM (stepO D) (startO D) = some p) (hx : xs[i]? = some x) : (xs.take (i + 1)).foldlM (stepO D) (startO D) = stepO D p x := by
  rw [take_next' hx, List.foldlM_append, h]
  show (stepO D p x).bind (fun q => some q) = _
  cases stepO D p x <;> rfl
theorem foldO_none {D : OD} {xs : List Dt} {i : Nat} {x : Dt} {p : Pl} (h : (xs.take i).foldlM (stepO D) (startO D) = some p) (hx : xs[i]? = some x) (hn : stepO D p x = none) : xs.foldlM (stepO D) (startO D) = none := by
  have e := foldO_next h hx
  rw [hn] at e
  rw [← List.take_append_drop (i + 1) xs, List.foldlM_append, e]
  rfl
theorem findO {cs : List CD} {z : Str} : (z ∉ cs.map (·.nm) ∧ cs.find? (fun c => decide (c.nm = z)) = none) ∨ ∃ (cd : CD) (i : Nat), cs.find? (fun c => decide (c.nm = z)) = some cd ∧ cs[i]? = some cd ∧ cd.nm = z := by
  cases h : cs.find? (fun c => decide (c.nm = z)) with
  | none =>
    refine .inl ⟨fun m => ?_, rfl⟩
    obtain ⟨c, hc, e⟩ := List.mem_map.mp m
    have := List.find?_eq_none.mp h c hc
    exact this (decide_eq_true e)
  | some cd =>
    obtain ⟨i, hi⟩ := List.mem_iff_getElem?.mp (List.mem_of_find?_eq_some h)
    exact .inr ⟨cd, i, rfl, hi, by simpa using List.find?_some h⟩
theorem stepO_bad {D : OD} {p : Pl} {d : Dt} (h : (decide (p = dn) || !nameD D.cs d) = true) : stepO D p d = none := by
  unfold stepO
  by_cases e : p = dn
  · rw [if_pos e]
  · rw [if_neg e]
    rw [decide_eq_false e, Bool.false_or] at h
    cases d with
    | str z =>
      rcases findO (cs := D.cs) (z := z) with ⟨_, q⟩ | ⟨cd, i, _, hi, e2⟩
      · show Option.bind (D.cs.find? fun c => decide (c.nm = z)) _ = none
        rw [q]
        rfl
      · have : nameD D.cs (.str z) = true := decide_eq_true (e2 ▸ List.mem_map_of_mem (f := (·.nm)) (List.mem_of_getElem? hi))
        rw [this] at h
        cases h
    | _ => rfl
def spGood (K : PySem.W.Frag) (KC : Addr) : Sp := fun vs H Q _ => ∃ (kv rv nv : V) (fs : List FD) (n : Nat) (cs : List CD) (D0 N0 : Dt) (ds : List Dt), vs = [kv, rv, nv] ∧ KdA K KC H kv fs n cs ∧ ODOk ⟨fs, n, cs, ds.map ruOf⟩ ∧ Sh K H rv D0 ∧ sqD D0 = some ds ∧ ds.length ≤ 10 ∧ (∀ d ∈ ds, ruleD cs d = true ∧ FlatHd d) ∧ Sh K H nv N0 ∧
  ∀ H', Same H H' → Q (.bl (goodB ⟨fs, n, cs, ds.map ruOf⟩ N0)) H'
section
variable {P : Program} {w : World} {K : PySem.W.Frag} {mg : Str → Option Value} {base : Heap} {OC KC fh : Addr} {fdh : FuncData}
theorem ok_good {f : Addr} {fd : FuncData} (F : DefX K mg "is_good" s_is_good ["kind", "rules", "names"] f fd) (T : Txt K mg) (Cs : MCst mg) (mk_Orders : Mak P w K mg base 4 "Orders" OC (spOInit K OC KC) []) (c_is_list : Cal P w K mg base CX0 1 "is_list" (spListX K)) (m_start : Met P w K mg base 1 OC "start" (spStart K (ordT K OC KC)) []) (m_place_behind : Met P w K mg base 4 OC "place_behind" (spPlB K OC KC) [])
    (H_has : FnOk P w K mg base CX0 1 fh fdh ["self", "x"] (spHas K KC) ∧ PySem.W.findIn K (.ref KC) "__contains__" = some (some (.ref fh)) ∧ PySem.W.isFn K (.ref fh) = true ∧ Binds K fdh ["self", "x"] []) : FnOk P w K mg base CX0 6 f fd ["kind", "rules", "names"] (spGood K KC) := by
  refine F.fn.ok sc_is_good (fun vs H Q E h => ?_) (fun cdv A outer sh H vs Q E hr h => ?_)
  · obtain ⟨kv, rv, nv, _, _, _, _, _, _, rfl, _⟩ := h
    rfl
  · obtain ⟨kv, rv, nv, fs, n, cs, D0, N0, ds, rfl, kd, od, s, hds, l10, all, sn, k⟩ := h
    refine ⟨_, (pss_cons (ps_set (i := 3) sc_is_good.nd rfl (Or.inl rfl) (pe_mk mk_Orders hr (by decide) rfl (pa_cons (pv 0) (pa_cons (pv 1) pa_nil))))
(pss_cons (ps_if (pt_not (pt_val (pe_c c_is_list hr (by first | decide | assumption) rfl (pa_cons (pv 2) pa_nil))))
(pss_one (ps_ret pe_bl))
pss_nil)
(pss_cons (ps_set (i := 4) sc_is_good.nd rfl (Or.inl rfl) (pe_mt0 m_start hr (by decide) (pv 3)))
(pss_cons (ps_for PassesOwn.never rfl (pi_sqV (pv 2)) (pg_name (i := 5) sc_is_good.nd rfl (Or.inl rfl))
(pss_cons (ps_if (pt_cut (PW.pt (pw_or (pt_cmpR (op_eqI (K := K) rfl hr.units0) (pv 4) (pe_cst rfl Cs.DONE) (nomark _)) (pw_or1 (pt_cmpR (op_notInOwn H_has.1 H_has.2.1 H_has.2.2.1 H_has.2.2.2 (hr.mono (by decide))) (pv 5) (pv 0) (by rfl))))))
(pss_one (ps_ret pe_bl))
pss_nil)
(pss_cons (ps_set (i := 4) sc_is_good.nd rfl (Or.inl rfl) (pe_mt m_place_behind hr (by decide) (pv 3) (pa_cons (pv 4) (pa_cons (pv 5) pa_nil))))
(pss_one (ps_if (pt_cmpR op_isN (pv 4) pe_non (nomark _))
(pss_one (ps_ret pe_bl))
pss_nil)))))
(pss_one (ps_ret (pe_cmpR (op_eqI (K := K) rfl hr.units0) (pv 4) (pe_cst rfl Cs.DONE) (nomark _)))))))), ?_⟩
    refine ⟨_, rfl, _, rfl, fun x dx hx hdx nd => ?_⟩
    have S2 : Same H (Off x (upd (upd H dx (.own x)) x (.ins OC dx []))) := fun b o hb => by
      have n1 : b ≠ x := fun e => by rw [e, hx] at hb; cases hb
      have n2 : b ≠ dx := fun e => by rw [e, hdx] at hb; cases hb
      rw [off_ne n1, upd_ne n1, upd_ne n2]
      exact hb
    refine ⟨x, dx, kv, rv, fs, n, cs, D0, ds, rfl, upd_same, kd.keep S2, od.kd, s.keep S2, hds, l10, all, fun H3 e3 ⟨tb, R, hk⟩ => ⟨rfl, ?_⟩⟩
    have e03 := S2.trans e3
    have sn3 := sn.keep e03
    generalize hD : (⟨fs, n, cs, ds.map ruOf⟩ : OD) = D at R od k
    have hcs : D.cs = cs := by rw [← hD]
    cases hq : sqD N0 with
    | none =>
      have h0 : isSq N0 = false := by rw [isSq_iff, hq]; rfl
      have hg : goodB D N0 = false := by unfold goodB; rw [hq]
      refine ⟨_, rfl, nv, N0, rfl, sn3, fun H4 e4 => ⟨false, congrArg V.bl h0, iteT ?_⟩⟩
      have := k H4 (e03.trans e4)
      rw [hg] at this
      exact this
    | some xs =>
      have h0 : isSq N0 = true := by rw [isSq_iff, hq]; rfl
      refine ⟨_, rfl, nv, N0, rfl, sn3, fun H4 e4 => ⟨true, congrArg V.bl h0, iteF ?_⟩⟩
      obtain ⟨ox, nd', wa, ba, co, hox, _⟩ := id R
      have WI : ∀ {G : Hp}, Same H3 G → (ordT K OC KC).I D G x := fun e => ⟨kv, tb, R.km (Km.of e), od, _, e _ _ hk.choose_spec⟩
      refine ⟨_, rfl, x, ox, _, rfl, e4 _ _ hox, rfl, D, x, rfl, WI e4, fun H5 b e5 hb => ?_⟩
      have e35 := e4.trans e5
      obtain ⟨vs, ⟨na, rfl, hv0⟩, hal, few⟩ := (sn3.keep e35).sq hq
      refine ⟨_, rfl, na, vs, H5, rfl, hv0, Same.refl H5, fun J GG wk gk => ?_⟩
      refine for_it wk (fun i σ H6 => Same H5 H6 ∧ ∃ p v x5, (xs.take i).foldlM (stepO D) (startO D) = some p ∧ (p = dn ∨ p ∈ allO D) ∧ Nk K H6 p v ∧ σ = [some kv, some rv, some (.ref na), some (.ref x), some v, x5]) ⟨Same.refl H5, startO D, .ref b, none, rfl, .inr (walkO od).st, hb, rfl⟩ (fun i σ H6 h => fun h => gk _ h.1) ?_ ?_
      · rintro i y σ H6 H7 hi ⟨e6, p, v, x5, hf, hp, nk, rfl⟩ ⟨rfl, hy⟩
        obtain ⟨d, hd, sd⟩ := hal.get hy
        have e37 := e35.trans e6
        have bad : stepO D p d = none → goodB D N0 = false := fun h => by
          unfold goodB
          rw [hq]
          show decide (xs.foldlM (stepO D) (startO D) = some dn) = false
          rw [foldO_none hf hd h]
          rfl
        refine ⟨fun bb H' => bb = (decide (p = dn) || !nameD D.cs d) ∧ H' = H7, ?_, ?_⟩
        · by_cases en : p = dn
          · rw [decide_eq_true en]
            rw [en] at nk
            obtain rfl := nk.dn
            exact ⟨_, rfl, -1, rfl, .inl ⟨-1, rfl, _, rfl, ite2 (fun _ => ⟨rfl, rfl⟩) (fun z => absurd z (by decide))⟩⟩
          · obtain ⟨b', bs, rfl, hb'⟩ := nk.ref ((walkO od).pl p (hp.resolve_left en))
            rw [decide_eq_false en, Bool.false_or]
            have kd7 := kd.keep (e03.trans e37)
            obtain ⟨ka, kdx, so, sp, tb', kt, kst, ktv, ksv, rfl, k1, krest⟩ := id kd7
            refine ⟨_, rfl, -1, rfl, .inr ⟨b', bs, rfl, hb', _, rfl, iteF ?_⟩⟩
            rw [hcs]
            exact ⟨_, rfl, _, rfl, ka, kdx, _, rfl, k1, rd_hasD kd7 (sd.keep e6) ⟨_, rfl, _, rfl, rfl, rfl⟩⟩
        rintro _ H8 ⟨rfl, rfl⟩
        refine ite2 (fun g => ?_) (fun g => ?_)
        · have := k H8 (e03.trans e37)
          rw [bad (stepO_bad g)] at this
          exact this
        · have g' : (decide (p = dn) || !nameD D.cs d) = false := by
            cases z : (decide (p = dn) || !nameD D.cs d) with
            | false => rfl
            | true => exact absurd z g
          rw [Bool.or_eq_false_iff] at g'
          have en : p ≠ dn := of_decide_eq_false g'.1
          obtain ⟨z, rfl, hz⟩ := nameD_str (show nameD D.cs d = true by simpa using g'.2)
          obtain ⟨rfl, _⟩ := sd.str'
          rcases findO (cs := D.cs) (z := z) with ⟨nz, _⟩ | ⟨cd, ii, hfd, hcd, rfl⟩
          · exact absurd hz nz
          obtain ⟨m, cts, seen, hm, hc, hs, rfl⟩ := mem_allO.mp (hp.resolve_left en)
          obtain ⟨b', _, rfl, _⟩ := nk.ref (plK_ok m cts seen)
          obtain ⟨lc, _⟩ := bits_of hc
          have lco : (countL D.cs D.rs).length ≤ 6 := by
            have h1 := List.length_filter_le (fun z => decide (z ∈ D.rs.map (·.a))) (D.cs.map (·.nm))
            rw [List.length_map] at h1
            exact Nat.le_trans h1 od.kd.cle
          have st : stepO D (plK m cts seen) (.str cd.nm) = placeB D m cts seen cd := by
            unfold stepO
            rw [if_neg en]
            show Option.bind (D.cs.find? fun c => decide (c.nm = cd.nm)) _ = _
            rw [hfd]
            exact placeO_pl D m cts seen cd
          refine ⟨_, rfl, x, ox, _, rfl, e37 _ _ hox, rfl, _, rfl, _, rfl, x, tb, b', kv, D, m, cts, seen, ii, cd, rfl, R.km (Km.of e37), od, hm, lc, Nat.le_trans (subs_le hs) lco, nk, hcd, fun H9 v9 e9 pv => ?_⟩
          cases hpb : placeB D m cts seen cd with
          | none =>
            rw [hpb] at pv
            obtain rfl : v9 = .non := pv
            refine ⟨_, rfl, rfl, _, rfl, ite2 (fun _ => ?_) (fun g => absurd (decide_eq_true rfl) g)⟩
            have := k H9 (e03.trans (e37.trans e9))
            rw [bad (by rw [st, hpb])] at this
            exact this
          | some q =>
            rw [hpb] at pv
            have pv : Nk K H9 q v9 := pv
            have hq2 := place_in od hm hc (List.mem_of_getElem? hcd) hpb
            have nv : v9 ≠ .non := fun e => by
              rcases hq2 with rfl | hq2
              · rw [pv.dn] at e
                cases e
              · obtain ⟨b2, _, e', _⟩ := pv.ref ((walkO od).pl q hq2)
                rw [e'] at e
                cases e
            refine ⟨_, rfl, rfl, _, rfl, ite2 (fun g => absurd (of_decide_eq_true g) nv) (fun _ => ?_)⟩
            exact ⟨e6.trans e9, q, v9, _, by rw [foldO_next hf hd, st, hpb], hq2, pv, rfl⟩
      · rintro σ H6 ⟨e6, p, v, x5, hf, hp, nk, rfl⟩
        rw [hal.1, List.take_length] at hf
        have hg : goodB D N0 = decide (p = dn) := by
          unfold goodB
          rw [hq]
          show decide (xs.foldlM (stepO D) (startO D) = some dn) = _
          rw [hf]
          exact decide_eq_decide.mpr ⟨fun e => Option.some.inj e, fun e => by rw [e]⟩
        have kk := k H6 (e03.trans (e35.trans e6))
        rw [hg] at kk
        by_cases en : p = dn
        · rw [decide_eq_true en] at kk
          rw [en] at nk
          obtain rfl := nk.dn
          exact ⟨_, rfl, -1, rfl, .inl ⟨-1, rfl, kk⟩⟩
        · rw [decide_eq_false en] at kk
          obtain ⟨b', bs, rfl, hb'⟩ := nk.ref ((walkO od).pl p (hp.resolve_left en))
          exact ⟨_, rfl, -1, rfl, .inr ⟨b', bs, rfl, hb', kk⟩⟩
end
end MK
set_option Elab.async false
set_option linter.all false
set_option autoImplicit false
set_option maxRecDepth 100000
set_option maxHeartbeats 4000000
namespace MK
open PySem PySem.Spec PyProof.Rows L2
open C8 (Met pe_mt pe_mt0 Mak pe_mk)
local macro_rules | `(tactic| walk_at "x") => `(tactic| dsimp only [tSeq, tAsg, tRet, tDrop, tLst, tTup, tCons, tOp, tUn, tIfS])
def ruZ : List Str → RU
  | [x, y] => ⟨x, y, y⟩
  | [x, y, z] => ⟨x, y, z⟩
  | _ => ⟨Str.empty, Str.empty, Str.empty⟩
theorem ruZ_eq {zs : List Str} (h : zs.length = 2 ∨ zs.length = 3) : zs.head? = some (ruZ zs).tag ∧ zs[1]? = some (ruZ zs).a ∧ zs.getLast? = some (ruZ zs).b := by
  match zs, h with
  | [a, b], _ => exact ⟨rfl, rfl, rfl⟩
  | [a, b, c], _ => exact ⟨rfl, rfl, rfl⟩
theorem mem_zip_of {α β : Type} {xs : List α} {ys : List β} (l : ys.length = xs.length) {x : α} (h : x ∈ xs) : ∃ y, (x, y) ∈ xs.zip ys := by
  obtain ⟨i, hi⟩ := List.mem_iff_getElem?.mp h
  have li := (List.getElem?_eq_some_iff.mp hi).1
  exact ⟨ys[i], List.mem_of_getElem? (i := i) (List.getElem?_zip_eq_some.mpr ⟨hi, List.getElem?_eq_getElem (by omega)⟩)⟩
theorem ruleNo_eq {zs : List Str} {c : Int} {nm : Str} (h : zs.length = 2 ∨ zs.length = 3) : ruleNo nm (zs, c) = (decide ((ruZ zs).b = nm) && (decide ((ruZ zs).tag = ("ahead" : Str)) != decide (c = 1))) := by
  obtain ⟨e1, e2, e3⟩ := ruZ_eq h
  unfold ruleNo
  rw [e1, e3]
  simp only [Option.some.injEq]
theorem keeps_iff {rs : List RU} {nm : Str} {seen : List Str} : keepsB rs nm seen = true ↔ ∀ r ∈ rs, r.b = nm → (r.tag = ("ahead" : Str) ↔ r.a ∈ seen) := by
  unfold keepsB
  rw [Bool.and_eq_true, List.all_eq_true, Bool.not_eq_true', List.any_eq_false]
  constructor
  · rintro ⟨h1, h2⟩ r hr eb
    by_cases t : r.tag = Str.ofString "ahead"
    · refine ⟨fun _ => ?_, fun _ => t⟩
      exact of_decide_eq_true (h1 r.a (List.mem_map_of_mem (List.mem_filter.mpr ⟨hr, by rw [decide_eq_true t, decide_eq_true eb]; rfl⟩)))
    · refine ⟨fun e => absurd e t, fun m => ?_⟩
      exact absurd (decide_eq_true m) (h2 r.a (List.mem_map_of_mem (List.mem_filter.mpr ⟨hr, by rw [decide_eq_false t, decide_eq_true eb]; rfl⟩)))
  · intro h
    refine ⟨fun x hx => ?_, fun x hx => ?_⟩
    · obtain ⟨r, hr, rfl⟩ := List.mem_map.mp hx
      obtain ⟨hr, p⟩ := List.mem_filter.mp hr
      rw [Bool.and_eq_true] at p
      exact decide_eq_true ((h r hr (of_decide_eq_true p.2)).mp (of_decide_eq_true p.1))
    · obtain ⟨r, hr, rfl⟩ := List.mem_map.mp hx
      obtain ⟨hr, p⟩ := List.mem_filter.mp hr
      rw [Bool.and_eq_true, Bool.not_eq_true'] at p
      intro m
      exact of_decide_eq_false p.1 ((h r hr (of_decide_eq_true p.2)).mpr (of_decide_eq_true m))
theorem keeps_no {rls : List (List Str)} {come : List Int} {nm : Str} {seen : List Str} (h23 : ∀ r ∈ rls, r.length = 2 ∨ r.length = 3) (lc : come.length = rls.length) (hs : ∀ p ∈ rls.zip come, (p.2 = 1 ↔ (ruZ p.1).a ∈ seen)) :
    keepsB (rls.map ruZ) nm seen = !((rls.zip come).any (ruleNo nm)) := by
  rw [Bool.eq_iff_iff, keeps_iff, Bool.not_eq_true', List.any_eq_false]
  constructor
  · rintro h ⟨zs, c⟩ hp
    have mz := (List.of_mem_zip hp).1
    have h1 := h _ (List.mem_map_of_mem (f := ruZ) mz)
    have h2 := hs _ hp
    rw [ruleNo_eq (h23 zs mz)]
    by_cases eb : (ruZ zs).b = nm
    · have h1 := h1 eb
      dsimp only at h2
      rw [← h2] at h1
      have : decide ((ruZ zs).tag = ("ahead" : Str)) = decide (c = 1) := decide_eq_decide.mpr h1
      rw [this]
      simp
    · rw [decide_eq_false eb]
      simp
  · intro h r hr eb
    obtain ⟨zs, hz, rfl⟩ := List.mem_map.mp hr
    obtain ⟨c, hp⟩ := mem_zip_of lc hz
    have h1 := h _ hp
    have h2 := hs _ hp
    dsimp only at h2
    rw [ruleNo_eq (h23 zs hz), decide_eq_true eb, Bool.true_and, Bool.not_eq_true] at h1
    rw [← h2]
    have h1 : decide ((ruZ zs).tag = ("ahead" : Str)) = decide (c = 1) := by simpa using h1
    exact decide_eq_decide.mp h1
def ctsOf (fs : List FD) (bits : List Int) : List Int := (fs.zip bits).map fun p => if p.1.need then p.2 else 0
theorem cont_bits (cd : CD) : ∀ (fs : List FD) (bits : List Int), contB fs cd (ctsOf fs bits) = ctsOf fs (bitsB fs cd bits)
  | [], _ => rfl
  | _ :: _, [] => rfl
  | f :: fs, b :: bits => by
    have ih := cont_bits cd fs bits
    unfold contB ctsOf bitsB at ih ⊢
    simp only [List.zip_cons_cons, List.map_cons]
    rw [ih]
    congr 1
    cases f.need with
    | true => rfl
    | false => rfl
theorem lack_bits : ∀ (fs : List FD) (bits : List Int), lacksC fs (ctsOf fs bits) = lackB fs bits
  | [], _ => rfl
  | _ :: _, [] => rfl
  | f :: fs, b :: bits => by
    have ih := lack_bits fs bits
    unfold lacksC ctsOf lackB at ih ⊢
    simp only [List.zip_cons_cons, List.map_cons, List.any_cons]
    rw [ih]
    cases f.need with
    | true => rfl
    | false => rfl
/-- the same place of both -/
def SamePl (D : OD) (rls : List (List Str)) (k : NestedKey) (p : Pl) : Prop := (k = .text ("made" : Str) ∧ p = dn) ∨
  ∃ (m : Nat) (bits come : List Int) (seen : List Str), k = lsK m bits come ∧ p = plK m (ctsOf D.fs bits) seen ∧ m < D.n ∧ bits.length = D.fs.length ∧ come.length = rls.length ∧ ∀ q ∈ rls.zip come, (q.2 = 1 ↔ (ruZ q.1).a ∈ seen)
theorem same_step {D : OD} {rls : List (List Str)} (hD : D.rs = rls.map ruZ) (h23 : ∀ r ∈ rls, r.length = 2 ∨ r.length = 3) (hn : ∀ r ∈ rls, (ruZ r).a ∈ D.cs.map (·.nm)) {cd : CD} (co : CdOk D.fs D.n cd)
    {m : Nat} {bits come : List Int} {seen : List Str} (hm : m < D.n) (lb : bits.length = D.fs.length) (lc : come.length = rls.length) (hs : ∀ q ∈ rls.zip come, (q.2 = 1 ↔ (ruZ q.1).a ∈ seen)) :
    (goodK D.fs rls m bits come cd = .none ∧ placeB D m (ctsOf D.fs bits) seen cd = none) ∨ ∃ p, placeB D m (ctsOf D.fs bits) seen cd = some p ∧ SamePl D rls (goodK D.fs rls m bits come cd) p := by
  have hk := keeps_no (nm := cd.nm) h23 lc hs
  rw [← hD] at hk
  unfold goodK placeB
  rw [cont_bits, lack_bits, hk]
  by_cases h1 : cd.moves.getD m (-1) = -1
  · rw [if_pos h1, if_pos (.inl h1)]
    exact .inl ⟨rfl, rfl⟩
  rw [if_neg h1]
  by_cases h2 : (rls.zip come).any (ruleNo cd.nm) = true
  · rw [if_pos h2, if_pos (.inr (by rw [h2]; rfl))]
    exact .inl ⟨rfl, rfl⟩
  have ng : ¬ (cd.moves.getD m (-1) = -1 ∨ (!(rls.zip come).any (ruleNo cd.nm)) = false) := fun z => z.elim h1 fun z => h2 (by simpa using z)
  rw [if_neg h2, if_neg ng]
  by_cases h3 : cd.hand = ("last" : Str)
  · rw [if_pos h3, if_pos h3]
    by_cases h4 : lackB D.fs (bitsB D.fs cd bits) = true
    · rw [if_pos h4, if_pos h4]
      exact .inl ⟨rfl, rfl⟩
    · rw [if_neg h4, if_neg h4]
      exact .inr ⟨dn, rfl, .inl ⟨rfl, rfl⟩⟩
  rw [if_neg h3, if_neg h3]
  have hl : m < cd.moves.length := by rw [co.len]; exact hm
  have e : cd.moves.getD m (-1) = cd.moves[m] := by rw [List.getD_eq_getElem?_getD, List.getElem?_eq_getElem hl]; rfl
  have b := co.move _ (List.getElem_mem hl)
  rw [← e] at b
  generalize cd.moves.getD m (-1) = M at h1 b
  have n0 : 0 ≤ M := by omega
  refine .inr ⟨_, rfl, .inr ⟨M.toNat, _, _, _, by rw [Int.toNat_of_nonneg n0], by rw [Int.toNat_of_nonneg n0], by omega, ?_, ?_, ?_⟩⟩
  · unfold bitsB
    rw [List.length_map, List.length_zip, lb, Nat.min_self]
  · rw [List.length_map, List.length_zip, lc, Nat.min_self]
  · rintro ⟨zs, c'⟩ hq
    obtain ⟨j, hj⟩ := List.mem_iff_getElem?.mp hq
    obtain ⟨hz, hc⟩ := List.getElem?_zip_eq_some.mp hj
    rw [List.getElem?_map] at hc
    obtain ⟨⟨zs', c⟩, hp, ec⟩ := Option.map_eq_some_iff.mp hc
    obtain ⟨hz', hc'⟩ := List.getElem?_zip_eq_some.mp hp
    dsimp only at hz hz'
    rw [hz] at hz'
    cases hz'
    have mz := List.mem_of_getElem? hz
    have h := hs _ (List.mem_of_getElem? hp)
    dsimp only at h ec ⊢
    rw [← ec]
    have e2 := (ruZ_eq (h23 zs mz)).2.1
    have cnt : (ruZ zs).a ∈ countL D.cs D.rs := by
      unfold countL
      refine List.mem_filter.mpr ⟨hn zs mz, decide_eq_true ?_⟩
      rw [hD, List.map_map]
      exact List.mem_map.mpr ⟨zs, mz, rfl⟩
    have ms : (ruZ zs).a ∈ (countL D.cs D.rs).filter (fun o => decide (o = cd.nm) || decide (o ∈ seen)) ↔ (c = 1 ∨ (ruZ zs).a = cd.nm) := by
      rw [List.mem_filter, Bool.or_eq_true, decide_eq_true_iff, decide_eq_true_iff, ← h]
      exact ⟨fun z => z.2.symm, fun z => ⟨cnt, z.symm⟩⟩
    rw [ms]
    unfold comeB
    rw [e2]
    dsimp only
    simp only [Option.some.injEq]
    split
    · rename_i q
      exact ⟨fun _ => q, fun _ => rfl⟩
    · rename_i q
      exact ⟨fun z => absurd z (by decide), fun z => absurd z q⟩
theorem same_start {D : OD} {rls : List (List Str)} (hp : 1 ≤ D.n) : SamePl D rls (startK D.fs rls) (startO D) := by
  refine .inr ⟨0, D.fs.map fun _ => 0, rls.map fun _ => 0, [], rfl, ?_, hp, List.length_map .., List.length_map .., ?_⟩
  · unfold startO
    congr 1
    unfold ctsOf
    generalize D.fs = fs
    induction fs with
    | nil => rfl
    | cons f fs ih =>
      simp only [List.map_cons, List.zip_cons_cons]
      rw [← ih]
      congr 1
      split <;> rfl
  · rintro ⟨zs, c⟩ hq
    obtain ⟨j, hj⟩ := List.mem_iff_getElem?.mp hq
    obtain ⟨_, hc⟩ := List.getElem?_zip_eq_some.mp hj
    rw [List.getElem?_map] at hc
    obtain ⟨_, _, ec⟩ := Option.map_eq_some_iff.mp hc
    dsimp only at ec ⊢
    rw [← ec]
    exact ⟨fun z => absurd z (by decide), fun z => absurd z List.not_mem_nil⟩
theorem same_end {D : OD} {rls : List (List Str)} {k : NestedKey} {p : Pl} (h : SamePl D rls k p) : (k = .text ("made" : Str) ↔ p = dn) ∧ k ≠ .none := by
  rcases h with ⟨rfl, rfl⟩ | ⟨m, bits, come, seen, rfl, rfl, _⟩
  · exact ⟨⟨fun _ => rfl, fun _ => rfl⟩, fun e => NestedKey.noConfusion e⟩
  · exact ⟨⟨fun e => NestedKey.noConfusion e, fun e => NestedKey.noConfusion e⟩, fun e => NestedKey.noConfusion e⟩
theorem same_fold {D : OD} {rls : List (List Str)} (hD : D.rs = rls.map ruZ) (h23 : ∀ r ∈ rls, r.length = 2 ∨ r.length = 3) (hn : ∀ r ∈ rls, (ruZ r).a ∈ D.cs.map (·.nm)) (ok : KdOk D.fs D.n D.cs) : ∀ (xs : List Dt) (k : NestedKey) (p : Pl), SamePl D rls k p →
    (xs.foldlM (lawStep D.fs rls D.cs) k = some (.text ("made" : Str)) ↔ xs.foldlM (stepO D) p = some dn)
  | [], k, p, h => by
    have := (same_end h).1
    show some k = some _ ↔ some p = some dn
    rw [Option.some.injEq, Option.some.injEq]
    exact this
  | d :: xs, k, p, h => by
    rw [List.foldlM_cons, List.foldlM_cons]
    obtain ⟨h1, h2⟩ := same_end h
    have both : ∀ {a : Option NestedKey} {b : Option Pl}, a = none → b = none → ((a >>= fun k => xs.foldlM (lawStep D.fs rls D.cs) k) = some (.text ("made" : Str)) ↔ (b >>= fun p => xs.foldlM (stepO D) p) = some dn) := by
      rintro _ _ rfl rfl
      exact ⟨fun e => absurd (Eq.symm e) (Option.some_ne_none _), fun e => absurd (Eq.symm e) (Option.some_ne_none _)⟩
    cases d with
    | str z =>
      by_cases en : p = dn
      · refine both ?_ ?_
        · show (if k = .none ∨ k = .text ("made" : Str) then none else _) = none
          rw [if_pos (.inr (h1.mpr en))]
        · unfold stepO
          rw [if_pos en]
      · have nk : ¬ (k = .none ∨ k = .text ("made" : Str)) := fun z => z.elim h2 fun z => en (h1.mp z)
        have el : lawStep D.fs rls D.cs k (.str z) = (D.cs.find? fun c => decide (c.nm = z)).map (goodOf D.fs rls k) := if_neg nk
        have ep : stepO D p (.str z) = (D.cs.find? fun c => decide (c.nm = z)).bind fun cd => placeO D cd p := if_neg en
        rw [el, ep]
        cases hf : D.cs.find? (fun c => decide (c.nm = z)) with
        | none => exact both rfl rfl
        | some cd =>
          rcases h with ⟨e1, e2⟩ | ⟨m, bits, come, seen, rfl, rfl, hm, lb, lc, hs⟩
          · exact absurd e2 en
          simp only [Option.map_some, Option.bind_some, Option.bind_eq_bind]
          rw [goodOf_ls, placeO_pl]
          rcases same_step hD h23 hn (ok.calls cd (List.mem_of_find?_eq_some hf)) hm lb lc hs with ⟨g1, g2⟩ | ⟨p', g1, g2⟩
          · rw [g1, g2]
            refine ⟨fun e => ?_, fun e => absurd (Eq.symm e) (Option.some_ne_none _)⟩
            cases xs with
            | nil => exact NestedKey.noConfusion (Option.some.inj e)
            | cons y ys =>
              rw [List.foldlM_cons] at e
              have : lawStep D.fs rls D.cs .none y = none := by
                cases y <;> rfl
              rw [this] at e
              exact absurd (Eq.symm e) (Option.some_ne_none _)
          · rw [g1]
            exact same_fold hD h23 hn ok xs _ p' g2
    | _ => exact both rfl (by unfold stepO; split <;> rfl)
theorem law_good {D : OD} {rls : List (List Str)} (hD : D.rs = rls.map ruZ) (h23 : ∀ r ∈ rls, r.length = 2 ∨ r.length = 3) (hn : ∀ r ∈ rls, (ruZ r).a ∈ D.cs.map (·.nm)) (ok : KdOk D.fs D.n D.cs) (N0 : Dt) : lawGood D.fs rls D.cs N0 = goodB D N0 := by
  unfold lawGood goodB
  cases sqD N0 with
  | none => rfl
  | some xs => exact decide_eq_decide.mpr (same_fold hD h23 hn ok xs _ _ (same_start ok.pos))
end MK
set_option Elab.async false
set_option linter.all false
set_option autoImplicit false
set_option maxRecDepth 100000
set_option maxHeartbeats 4000000
namespace MK
open PySem PySem.Spec PyProof.Rows L2
open C8 (Met pe_mt pe_mt0 Mak pe_mk)
local macro_rules | `(tactic| walk_at "x") => `(tactic| dsimp only [tSeq, tAsg, tRet, tDrop, tLst, tTup, tCons, tOp, tUn, tIfS])
theorem sc_Kind_iter : FnScope ["self"] ["self"] (defScope s_Kind_iter) := ⟨rfl, rfl, rfl, by decide +kernel, rfl, by decide +kernel, by decide +kernel⟩
section
variable {P : Program} {w : World} {K : PySem.W.Frag} {mg : Str → Option Value} {base : Heap} {C : Cst} {KC : Addr}
theorem ok_kiter {f : Addr} {fd : FuncData} (F : Fun K "__iter__" "Kind.__iter__" s_Kind_iter f fd) (T : Txt K mg) (hiter : mg "iter" = none) (Z : KCls K KC) : FnS P w K mg base 1 f fd ["self"] (spIter KC "table") := by
  refine fnS_of F sc_Kind_iter (fun n vs H Q h => ?_) (fun cdv A outer sh H vs Q hr h => ?_)
  · obtain ⟨a, dx, d, fs, o, kvs, rfl, _⟩ := h
    rfl
  · obtain ⟨a, dx, d, fs, o, kvs, rfl, ha, hl, hd, k⟩ := h
    refine ⟨_, (pss_one (ps_ret (pe_callB call_iterK (by rfl) hiter (by decide +kernel) (pa_cons (pe_fld (pv 0) rfl) pa_nil)))), ?_⟩
    exact ⟨_, rfl, a, KC, dx, fs, .ref d, rfl, ha, Z.cls, Z.table, hl, d, o, kvs, rfl, hd, k⟩
end
section
variable {P : Program} {w : World} {K : PySem.W.Frag} {mg : Str → Option Value} {base : Heap} {C : Cst} {KC : Addr}
theorem ok_has0 {f : Addr} {fd : FuncData} (F : Fun K "__contains__" "Kind.__contains__" s_Kind_contains f fd) (T : Txt K mg) (Z : KCls K KC) : FnOk P w K mg base CX0 1 f fd ["self", "x"] (spHas K KC) := by
  refine F.ok sc_Kind_contains (fun vs H Q E h => ?_) (fun cdv A outer sh H vs Q E hr h => ?_)
  · obtain ⟨v, x, fs, n, cs, rfl, _⟩ := h
    rfl
  · exact run_has T Z hr h
end
end MK
set_option linter.all false
set_option autoImplicit false
namespace PL
open PySem
inductive D where
  | non | bl (b : Bool) | int (i : Int) | str (z : Str) | ty (n : String)
  | tup (xs : List D) | lst (xs : List D)
  | dic (ks vs : List D)
  | obj (c : String) (ns : List Str) (vs : List D)
  deriving Inhabited
instance : Coe String Str := ⟨Str.ofString⟩
mutual
def D.eqv : D → D → Bool
  | .non, .non => true
  | .bl a, .bl b => a == b
  | .bl a, .int j => (if a then 1 else 0) == j
  | .int i, .bl b => i == (if b then 1 else 0)
  | .int i, .int j => i == j
  | .str x, .str y => x == y
  | .tup xs, .tup ys => D.eqvs xs ys
  | .lst xs, .lst ys => D.eqvs xs ys
  | _, _ => false
def D.eqvs : List D → List D → Bool
  | [], [] => true
  | x :: xs, y :: ys => D.eqv x y && D.eqvs xs ys
  | _, _ => false
end
mutual
/-- plain data of at most this depth: no dict, no object -/
def D.ok : Nat → D → Bool
  | _, .non => true
  | _, .bl _ => true
  | _, .int _ => true
  | _, .str _ => true
  | n + 1, .tup xs => D.oks n xs
  | n + 1, .lst xs => D.oks n xs
  | _, _ => false
def D.oks : Nat → List D → Bool
  | _, [] => true
  | n, x :: xs => D.ok n x && D.oks n xs
end
mutual
/-- what can be a key of a dict: None, integers, texts, tuples of such, of at most this depth -/
def D.key : Nat → D → Bool
  | _, .non => true
  | _, .int _ => true
  | _, .str z => PyData.strOk z
  | n + 1, .tup xs => D.keys n xs
  | _, _ => false
def D.keys : Nat → List D → Bool
  | _, [] => true
  | n, x :: xs => D.key n x && D.keys n xs
end
abbrev KEY := 7
abbrev SZ := 16777216
inductive Slot where
  | un | fz (d : D) | ow (d : D)
  deriving Inhabited
abbrev S := List Slot
inductive R where
  | sl (i : Nat) | fz (d : D) | ow (d : D)
  deriving Inhabited
def Slot.val : Slot → Option D
  | .fz d => some d
  | .ow d => some d
  | .un => none
def at? (s : S) (i : Nat) : Slot := s.getD i .un
/-- what a result is, looked at -/
def rd (r : R) (s : S) : Option D := match r with
  | .sl i => (at? s i).val
  | .fz d => some d
  | .ow d => some d
/-- what a result is, given away -/
def frz (r : R) (s : S) : Option (D × S) := match r with
  | .sl i => match at? s i with
    | .fz d => some (d, s)
    | .ow d => some (d, s.set i (.fz d))
    | .un => none
  | .fz d => some (d, s)
  | .ow d => some (d, s)
abbrev EM := S → Option (R × S)
abbrev DM := S → Option (D × S)
abbrev LM := S → Option (List D × S)
abbrev TM := S → Option (Bool × S)
/-- an expression's value, given away -/
def fr (f : EM) : DM := fun s => (f s).bind fun p => frz p.1 p.2
/-- a fresh result that is kept while something else is done: looked at only -/
def nw : R → R
  | .ow d => .fz d
  | r => r
def eName (i : Nat) : EM := fun s => match at? s i with
  | .un => none
  | _ => some (.sl i, s)
def one (fa : EM) (k : D → S → Option (R × S)) : EM := fun s => (fa s).bind fun p => (rd p.1 p.2).bind fun a => k a p.2
/-- several expressions from the left, given away; a star splices -/
inductive Arg where
  | one (f : EM) | star (f : EM)
def seqOf : D → Option (List D)
  | .tup xs => some xs
  | .lst xs => some xs
  | _ => none
def args : List Arg → LM
  | [], s => some ([], s)
  | .one f :: r, s => (fr f s).bind fun p => (args r p.2).bind fun q => some (p.1 :: q.1, q.2)
  | .star f :: r, s => (f s).bind fun p => (rd p.1 p.2).bind fun d => (seqOf d).bind fun xs => (args r p.2).bind fun q => some (xs ++ q.1, q.2)
def eTup (as : List Arg) : EM := fun s => (args as s).bind fun p => if p.1.length ≤ SZ then some (.fz (.tup p.1), p.2) else none
def eLst (as : List Arg) : EM := fun s => (args as s).bind fun p => if p.1.length ≤ SZ then some (.ow (.lst p.1), p.2) else none
def big (i : Int) : Bool := decide (-(2 ^ 64) < i) && decide (i < 2 ^ 64)
def truth : D → Option Bool
  | .non => some false
  | .bl b => some b
  | .int i => some (i != 0)
  | .str z => if z.length ≤ SZ then some ((z.length : Int) != 0) else none
  | .tup xs => some (!xs.isEmpty)
  | .lst xs => some (!xs.isEmpty)
  | _ => none
def tOr (t u : TM) : TM := fun s => (t s).bind fun p => if p.1 = true then some (true, p.2) else u p.2
def eOr (fa fb : EM) : EM := fun s => (fa s).bind fun p => (rd p.1 p.2).bind fun a => (truth a).bind fun b => if b = true then some (nw p.1, p.2) else fb p.2
def look : List Str → List D → Str → Option D
  | n :: ns, v :: vs, x => if n = x then some v else look ns vs x
  | _, _, _ => none
def sIx (n d : Nat) : Option Int → Nat
  | none => d
  | some v => if v < 0 then (v + (n : Int)).toNat else min v.toNat n
/-- a def: from its arguments to what it hands back (true: a new thing that nobody else has) -/
abbrev Fn := List D → Option (D × Bool)
inductive Out where
  | nx | rt (d : D) (own : Bool) | bk | ct
abbrev SM := S → Option (Out × S)
/-- a def of so many slots -/
def fn (n : Nat) (ps : Nat) (b : SM) : Fn := fun ds => if ds.length = ps then (b (ds.map .fz ++ List.replicate (n - ps) .un)).bind fun p => match p.1 with
    | .nx => some (.non, false)
    | .rt d o => some (d, o)
    | _ => none
  else none
def init (c : String) (n : Nat) (ps : Nat) (b : SM) : List D → Option D := fun ds => if ds.length + 1 = ps then (b (.ow (.obj c [] []) :: (ds.map .fz ++ List.replicate (n - ps) .un))).bind fun p => match p.1, at? p.2 0 with
    | .nx, .ow (.obj c' ns vs) => if c' = c then some (.obj c' ns vs) else none
    | _, _ => none
  else none
end PL
set_option Elab.async false
set_option linter.all false
set_option autoImplicit false
set_option maxRecDepth 100000
set_option maxHeartbeats 2000000
namespace PL
open PySem PySem.Spec PyProof.Rows L2 MK
/-- program, world, frag, and where each class stands -/
structure Cn where
  P : Program
  w : World
  K : PySem.W.Frag
  CM : String → Addr
mutual
def D.nk : D → NestedKey
  | .int i => .num i
  | .str z => .text z
  | .tup xs => .tup (D.nks xs)
  | _ => .none
def D.nks : List D → List NestedKey
  | [] => []
  | x :: xs => D.nk x :: D.nks xs
end
mutual
inductive Rp (C : Cn) (G : Hp) : V → D → Prop
  | non : Rp C G .non .non
  | bl (b : Bool) : Rp C G (.bl b) (.bl b)
  | int (i : Int) : Rp C G (.int i) (.int i)
  | str (z : Str) : PyData.strOk z = true → Rp C G (.str z) (.str z)
  | ty (n : String) : Rp C G (.ty n) (.ty n)
  | tup {a : Addr} {vs : List V} {ds : List D} : SqT C.K G a vs → Rps C G vs ds → Rp C G (.ref a) (.tup ds)
  | lst {a : Addr} {vs : List V} {ds : List D} : G a = some (.lst vs) → Rps C G vs ds → Rp C G (.ref a) (.lst ds)
  | dic {a : Addr} {kvs : List (NestedKey × V)} {ks ds : List D} : Mx C.P C.w C.K G a kvs → kvs.map (·.1) = ks.map D.nk → D.keys KEY ks = true → Rps C G (kvs.map (·.2)) ds → Rp C G (.ref a) (.dic ks ds)
  | obj {a dx : Addr} {fs : List (Str × V)} {c : String} {ns : List Str} {ds : List D} : G a = some (.ins (C.CM c) dx fs) → fs.map (·.1) = ns → Rps C G (fs.map (·.2)) ds → Rp C G (.ref a) (.obj c ns ds)
inductive Rps (C : Cn) (G : Hp) : List V → List D → Prop
  | nil : Rps C G [] []
  | cons {v : V} {vs : List V} {d : D} {ds : List D} : Rp C G v d → Rps C G vs ds → Rps C G (v :: vs) (d :: ds)
end
section
variable {C : Cn} {G G' H H' : Hp}
theorem Rp.keep_ (e : Same G G') : ∀ {d : D} {v : V}, Rp C G v d → Rp C G' v d := by
  intro d v h
  refine Rp.rec (motive_1 := fun v d _ => Rp C G' v d) (motive_2 := fun vs ds _ => Rps C G' vs ds) ?_ ?_ ?_ ?_ ?_ ?_ ?_ ?_ ?_ ?_ ?_ h
  · exact .non
  · exact .bl
  · exact .int
  · exact fun z h => .str z h
  · exact .ty
  · exact fun h _ ih => .tup (same_t e h) ih
  · exact fun h _ ih => .lst (e _ _ h) ih
  · exact fun h a b _ ih => .dic (Mx.keep e h) a b ih
  · exact fun h a _ ih => .obj (e _ _ h) a ih
  · exact .nil
  · exact fun _ _ h1 h2 => .cons h1 h2
theorem Rp.keep (e : Same G G') {d : D} {v : V} (h : Rp C G v d) : Rp C G' v d := h.keep_ e
theorem Rps.keep (e : Same G G') : ∀ {vs : List V} {ds : List D}, Rps C G vs ds → Rps C G' vs ds
  | _, _, .nil => .nil
  | _, _, .cons h t => .cons (h.keep e) (t.keep e)
theorem Rps.len : ∀ {vs : List V} {ds : List D}, Rps C G vs ds → vs.length = ds.length
  | _, _, .nil => rfl
  | _, _, .cons _ t => congrArg Nat.succ t.len
theorem Rps.get : ∀ {vs : List V} {ds : List D} {i : Nat} {d : D}, Rps C G vs ds → ds[i]? = some d → ∃ v, vs[i]? = some v ∧ Rp C G v d
  | _, _, _, _, .nil, h => by simp at h
  | _, _, 0, _, .cons r _, h => by cases h; exact ⟨_, rfl, r⟩
  | _, _, i + 1, _, .cons _ t, h => Rps.get (i := i) t (by simpa using h)
theorem Rps.get' : ∀ {vs : List V} {ds : List D} {i : Nat} {v : V}, Rps C G vs ds → vs[i]? = some v → ∃ d, ds[i]? = some d ∧ Rp C G v d
  | _, _, _, _, .nil, h => by simp at h
  | _, _, 0, _, .cons r _, h => by cases h; exact ⟨_, rfl, r⟩
  | _, _, i + 1, _, .cons _ t, h => Rps.get' (i := i) t (by simpa using h)
theorem Rps.app : ∀ {vs us : List V} {ds es : List D}, Rps C G vs ds → Rps C G us es → Rps C G (vs ++ us) (ds ++ es)
  | _, _, _, _, .nil, h => h
  | _, _, _, _, .cons r t, h => .cons r (t.app h)
theorem Rps.one {v : V} {d : D} (h : Rp C G v d) : Rps C G [v] [d] := .cons h .nil
theorem Rps.drop : ∀ {vs : List V} {ds : List D} (n : Nat), Rps C G vs ds → Rps C G (vs.drop n) (ds.drop n)
  | _, _, 0, h => h
  | _, _, _ + 1, .nil => .nil
  | _, _, n + 1, .cons _ t => t.drop n
theorem Rps.take : ∀ {vs : List V} {ds : List D} (n : Nat), Rps C G vs ds → Rps C G (vs.take n) (ds.take n)
  | _, _, 0, _ => .nil
  | _, _, _ + 1, .nil => .nil
  | _, _, n + 1, .cons r t => .cons r (t.take n)
theorem Rps.set {v : V} {d : D} (r : Rp C G v d) : ∀ {vs : List V} {ds : List D} (i : Nat), Rps C G vs ds → Rps C G (vs.set i v) (ds.set i d)
  | _, _, _, .nil => .nil
  | _, _, 0, .cons _ t => .cons r t
  | _, _, i + 1, .cons q t => .cons q (Rps.set r i t)
theorem Rps.rev : ∀ {vs : List V} {ds : List D}, Rps C G vs ds → Rps C G vs.reverse ds.reverse
  | _, _, .nil => .nil
  | _, _, .cons r t => by rw [List.reverse_cons, List.reverse_cons]; exact t.rev.app (.one r)
theorem Rps.of : ∀ {vs : List V} {ds : List D}, vs.length = ds.length → (∀ (i : Nat) v d, vs[i]? = some v → ds[i]? = some d → Rp C G v d) → Rps C G vs ds
  | [], [], _, _ => .nil
  | v :: vs, d :: ds, l, f => .cons (f 0 v d rfl rfl) (Rps.of (Nat.succ.inj l) fun i v d h1 h2 => f (i + 1) v d h1 h2)
  | [], _ :: _, l, _ => by cases l
  | _ :: _, [], l, _ => by cases l
end
def Exc (O : Addr → Bool) (H : Hp) : Hp := fun b => if O b = true then none else H b
theorem exc_out {O : Addr → Bool} {H : Hp} {b : Addr} (h : O b = false) : Exc O H b = H b := if_neg (by rw [h]; decide)
theorem exc_le {O : Addr → Bool} {H : Hp} : Same (Exc O H) H := fun b o e => by
  unfold Exc at e
  split at e
  · cases e
  · exact e
theorem exc_same {O : Addr → Bool} {H H' : Hp} (e : Same H H') : Same (Exc O H) (Exc O H') := fun b o h => by
  unfold Exc at h ⊢
  split at h
  · cases h
  · rename_i n
    rw [if_neg n]
    exact e _ _ h
theorem exc_less {O O' : Addr → Bool} {H : Hp} (h : ∀ b, O' b = true → O b = true) : Same (Exc O H) (Exc O' H) := fun b o e => by
  unfold Exc at e ⊢
  split at e
  · cases e
  · rename_i n
    rw [if_neg (fun z => n (h b z))]
    exact e
theorem exc_new {O : Addr → Bool} {H : Hp} {a : Addr} {o : HO} (h : O a = false) : Exc O (upd H a o) = upd (Exc O H) a o := by
  funext b
  unfold Exc
  by_cases e : b = a
  · subst e; rw [if_neg (by rw [h]; decide), upd_same, upd_same]
  · rw [upd_ne e, upd_ne e]
/-- nothing that is excluded is a tuple -/
def ExcOk (O : Addr → Bool) (H : Hp) : Prop := ∀ a, O a = true → ∃ o, H a = some o ∧ Mut (some o)
theorem mut_tup {o : HO} (h : Mut (some o)) : (∀ xs, o ≠ .tup xs) ∧ ∀ b u, o ≠ .frz b u := by
  constructor
  · intro xs e; subst e; exact h
  · intro b u e; subst e; exact h
theorem ExcOk.sqt {O : Addr → Bool} {H : Hp} (x : ExcOk O H) {K : PySem.W.Frag} {a : Addr} {xs : List V} (h : SqT K H a xs) : SqT K (Exc O H) a xs := by
  have k : ∀ o, H a = some o → (∀ xs, ¬ o = .tup xs) ∧ (∀ b u, ¬ o = .frz b u) ∨ Exc O H a = some o := fun o e => by
    cases q : O a with
    | false => exact .inr ((exc_out q).trans e)
    | true =>
      obtain ⟨o', e', m⟩ := x a q
      rw [e] at e'
      cases e'
      exact .inl (mut_tup m)
  rcases h with (h | ⟨o, h⟩) | h
  · rcases k _ h with ⟨n, _⟩ | e
    · exact absurd rfl (n _)
    · exact .inl (.inl e)
  · rcases k _ h with ⟨_, n⟩ | e
    · exact absurd rfl (n _ _)
    · exact .inl (.inr ⟨o, e⟩)
  · exact .inr h
theorem ExcOk.nk {O : Addr → Bool} {H : Hp} (x : ExcOk O H) {K : PySem.W.Frag} {k : NestedKey} {v : V} (h : Nk K H k v) : Nk K (Exc O H) k v := by
  induction h with
  | non => exact .non
  | int i => exact .int i
  | str z => exact .str z
  | tup ha hl _ ih => exact .tup (x.sqt ha) hl ih
/-- a dict that is not excluded -/
theorem ExcOk.mx {O : Addr → Bool} {H : Hp} (x : ExcOk O H) {P : Program} {w : World} {K : PySem.W.Frag} {a : Addr} {kvs : List (NestedKey × V)} (n : O a = false) (h : Mx P w K H a kvs) : Mx P w K (Exc O H) a kvs := by
  rcases h with ⟨o, xs, g⟩ | ⟨kz, g, q⟩ | ⟨o, xs, g⟩
  · exact .inl ⟨o, xs, (exc_out n).trans g.at_, g.len, fun i p z h1 h2 => let ⟨a, b, ⟨v, c, r⟩, d⟩ := g.ent i p z h1 h2; ⟨a, b, ⟨v, x.nk c, r⟩, d⟩⟩
  · exact .inr (.inl ⟨kz, (exc_out n).trans g, q⟩)
  · exact .inr (.inr ⟨o, xs, (exc_out n).trans g.at_, g.len, fun i p z h1 h2 => let ⟨a, b, c, d⟩ := g.ent i p z h1 h2; ⟨a, b, x.nk c, d⟩⟩)
/-- a dict stays while its object and all tuples do -/
theorem mx_tk {P : Program} {w : World} {K : PySem.W.Frag} {H H' : Hp} {a : Addr} {kvs : List (NestedKey × V)} (t : Tk H H') (e : H' a = H a) (h : Mx P w K H a kvs) : Mx P w K H' a kvs := by
  rcases h with ⟨o, xs, g⟩ | ⟨kz, g, q⟩ | g
  · exact .inl ⟨o, xs, e.trans g.at_, g.len, fun i p z h1 h2 => let ⟨a, b, ⟨v, c, r⟩, d⟩ := g.ent i p z h1 h2; ⟨a, b, ⟨v, c.tk t, r⟩, d⟩⟩
  · exact .inr (.inl ⟨kz, e.trans g, q⟩)
  · exact .inr (.inr (g.tk t e))
/-- the entry: what the callers own, the heap -/
structure Fm where
  O : Addr → Bool
  H : Hp
  me : Option Addr := none
def Ob (F : Fm) (L : List Addr) : Addr → Bool := fun b => F.O b || L.contains b
def gOf (F : Fm) (L : List Addr) (H : Hp) : Hp := Exc (Ob F L) H
/-- what is owned: its own object at a, all in it shared -/
def OwC (C : Cn) (me : Option Addr) (G H : Hp) (a : Addr) : D → Prop
  | .lst ds => ∃ vs, H a = some (.lst vs) ∧ Rps C G vs ds
  | .dic ks ds => ∃ kvs, Mx C.P C.w C.K H a kvs ∧ kvs.map (·.1) = ks.map D.nk ∧ D.keys KEY ks = true ∧ Rps C G (kvs.map (·.2)) ds
  | .obj c ns ds => me = some a ∧ ∃ dx fs, H a = some (.ins (C.CM c) dx fs) ∧ fs.map (·.1) = ns ∧ Rps C G (fs.map (·.2)) ds
  | _ => False
theorem mx_mut {P : Program} {w : World} {K : PySem.W.Frag} {H : Hp} {a : Addr} {kvs : List (NestedKey × V)} (h : Mx P w K H a kvs) : ∃ o, H a = some o ∧ Mut (some o) := by
  have m := h.noT.1
  cases e : H a with
  | none => rw [e] at m; exact m.elim
  | some o => exact ⟨o, rfl, e ▸ m⟩
theorem OwC.mut {me : Option Addr} {C : Cn} {G H : Hp} {a : Addr} {d : D} (h : OwC C me G H a d) : ∃ o, H a = some o ∧ Mut (some o) := by
  cases d with
  | lst ds => obtain ⟨vs, e, _⟩ := h; exact ⟨_, e, trivial⟩
  | dic ks ds => obtain ⟨kvs, e, _⟩ := h; exact mx_mut e
  | obj c ns ds => obtain ⟨_, dx, fs, e, _⟩ := h; exact ⟨_, e, trivial⟩
  | _ => exact False.elim h
theorem OwC.keep {me : Option Addr} {C : Cn} {G G' H H' : Hp} {a : Addr} {d : D} (e : Same G G') (t : Tk H H') (ha : H' a = H a) (h : OwC C me G H a d) : OwC C me G' H' a d := by
  cases d with
  | lst ds => obtain ⟨vs, q, r⟩ := h; exact ⟨vs, ha.trans q, r.keep e⟩
  | dic ks ds => obtain ⟨kvs, q, r1, r2, r3⟩ := h; exact ⟨kvs, mx_tk t ha q, r1, r2, r3.keep e⟩
  | obj c ns ds => obtain ⟨m, dx, fs, q, r1, r2⟩ := h; exact ⟨m, dx, fs, ha.trans q, r1, r2.keep e⟩
  | _ => exact False.elim h
theorem OwC.any {me : Option Addr} {C : Cn} {G H : Hp} {a : Addr} {d : D} (h : OwC C none G H a d) : OwC C me G H a d := by
  cases d with
  | obj c ns ds => cases h.1
  | lst ds => exact h
  | dic ks ds => exact h
  | _ => exact False.elim h
/-- given away -/
theorem OwC.rp {me : Option Addr} {C : Cn} {O : Addr → Bool} {G H : Hp} {a : Addr} {d : D} (e : Same G (Exc O H)) (x : ExcOk O H) (n : O a = false) (h : OwC C me G H a d) : Rp C (Exc O H) (.ref a) d := by
  cases d with
  | lst ds => obtain ⟨vs, q, r⟩ := h; exact .lst ((exc_out n).trans q) (r.keep e)
  | dic ks ds => obtain ⟨kvs, q, r1, r2, r3⟩ := h; exact .dic (x.mx n q) r1 r2 (r3.keep e)
  | obj c ns ds => obtain ⟨_, dx, fs, q, r1, r2⟩ := h; exact .obj ((exc_out n).trans q) r1 (r2.keep e)
  | _ => exact False.elim h
/-- the state of a frame: slots s held by σ, fresh things θ that are no slot's yet -/
structure ER (C : Cn) (F : Fm) (L : List Addr) (H : Hp) (σ : L2.St) (s : S) (θ : List (Addr × D)) : Prop where
  same : Same F.H H
  out : ∀ a, F.O a = true → ∃ o, F.H a = some o ∧ Mut (some o)
  own : ∀ a ∈ L, F.H a = none ∧ ∃ o, H a = some o ∧ Mut (some o)
  len : σ.length = s.length
  fz : ∀ (i : Nat) d, s[i]? = some (.fz d) → ∃ v, σ[i]? = some (some v) ∧ Rp C (gOf F L H) v d
  ow : ∀ (i : Nat) d, s[i]? = some (.ow d) → ∃ a, σ[i]? = some (some (.ref a)) ∧ a ∈ L ∧ OwC C F.me (gOf F L H) H a d
  inj : ∀ (i j : Nat) a d e, s[i]? = some (.ow d) → s[j]? = some (.ow e) → σ[i]? = some (some (.ref a)) → σ[j]? = some (some (.ref a)) → i = j
  tm : ∀ p ∈ θ, p.1 ∈ L ∧ OwC C F.me (gOf F L H) H p.1 p.2
  tn : (θ.map (·.1)).Nodup
  ts : ∀ (i : Nat) a d, s[i]? = some (.ow d) → σ[i]? = some (some (.ref a)) → a ∉ θ.map (·.1)
section
variable {C : Cn} {F : Fm} {L : List Addr} {H H' : Hp} {σ : L2.St} {s : S} {θ : List (Addr × D)} {a p : Addr} {d d' : D} {v : V} {i : Nat} {o : HO}
theorem ER.excOk (h : ER C F L H σ s θ) : ExcOk (Ob F L) H := fun a e => by
  unfold Ob at e
  rw [Bool.or_eq_true] at e
  rcases e with e | e
  · obtain ⟨o, q, m⟩ := h.out a e
    exact ⟨o, h.same _ _ q, m⟩
  · exact (h.own a (by simpa using e)).2
theorem ER.nob (h : ER C F L H σ s θ) (n : H p = none) : Ob F L p = false := by
  cases e : Ob F L p with
  | false => rfl
  | true => obtain ⟨o, q, _⟩ := h.excOk p e; rw [n] at q; cases q
theorem ER.outO (h : ER C F L H σ s θ) (n : F.H p = none) : F.O p = false := by
  cases e : F.O p with
  | false => rfl
  | true => obtain ⟨o, q, _⟩ := h.out p e; rw [n] at q; cases q
/-- the heap has grown; what is owned is as it was -/
theorem ER.grow (h : ER C F L H σ s θ) (e : Same H H') : ER C F L H' σ s θ := by
  have g : Same (gOf F L H) (gOf F L H') := exc_same e
  have k : ∀ {a d}, OwC C F.me (gOf F L H) H a d → OwC C F.me (gOf F L H') H' a d := fun {a d} q => by
    obtain ⟨o, q1, _⟩ := q.mut
    exact q.keep g (Tk.of e) ((e _ _ q1).trans q1.symm)
  exact ⟨h.same.trans e, h.out, fun a m => ⟨(h.own a m).1, let ⟨o, q, r⟩ := (h.own a m).2; ⟨o, e _ _ q, r⟩⟩, h.len, fun i d q => let ⟨v, r1, r2⟩ := h.fz i d q; ⟨v, r1, r2.keep g⟩,
    fun i d q => let ⟨a, r1, r2, r3⟩ := h.ow i d q; ⟨a, r1, r2, k r3⟩, h.inj, fun p m => ⟨(h.tm p m).1, k (h.tm p m).2⟩, h.tn, h.ts⟩
theorem ER.gsame (h : ER C F L H σ s θ) (e : Same H H') : Same (gOf F L H) (gOf F L H') := exc_same e
/-- a new shared object -/
theorem ER.gnew (h : ER C F L H σ s θ) (n : H p = none) : gOf F L (upd H p o) = upd (gOf F L H) p o := exc_new (h.nob n)
/-- a new owned object -/
theorem ER.newOwn (h : ER C F L H σ s θ) (n : H p = none) (m : Mut (some o)) (k : ∀ G, Same (gOf F L H) G → OwC C F.me G (upd H p o) p d) : Same (gOf F L H) (gOf F (p :: L) (upd H p o)) ∧ ER C F (p :: L) (upd H p o) σ s ((p, d) :: θ) := by
  have e : Same H (upd H p o) := same_new (Same.refl H) n
  have nm : ∀ a ∈ L, a ≠ p := fun a ma z => by
    obtain ⟨o, q, _⟩ := (h.own a ma).2
    rw [z, n] at q
    cases q
  have g : Same (gOf F L H) (gOf F (p :: L) (upd H p o)) := fun b u hb => by
    have hb1 : H b = some u := exc_le _ _ hb
    have n1 : b ≠ p := fun z => by rw [z, n] at hb1; cases hb1
    unfold gOf Exc at hb ⊢
    have : Ob F (p :: L) b = Ob F L b := by
      unfold Ob
      rw [List.contains_cons, beq_eq_false_iff_ne.mpr n1, Bool.false_or]
    rw [this, upd_ne n1]
    exact hb
  have q : ∀ {a d}, a ∈ L → OwC C F.me (gOf F L H) H a d → OwC C F.me (gOf F (p :: L) (upd H p o)) (upd H p o) a d := fun {a d} ma q => q.keep g (Tk.of e) (upd_ne (nm a ma))
  have np : F.H p = none := by
    cases z : F.H p with
    | none => rfl
    | some u => rw [h.same _ _ z] at n; cases n
  refine ⟨g, h.same.trans e, h.out, fun a ma => ?_, h.len, fun i d q => let ⟨v, r1, r2⟩ := h.fz i d q; ⟨v, r1, r2.keep g⟩, fun i d r => let ⟨a, r1, r2, r3⟩ := h.ow i d r; ⟨a, r1, List.mem_cons_of_mem _ r2, q r2 r3⟩, h.inj, fun z mz => ?_, ?_, fun i a d r1 r2 mz => ?_⟩
  · rcases List.mem_cons.mp ma with rfl | ma
    · exact ⟨np, o, upd_same, m⟩
    · obtain ⟨r1, u, r2, r3⟩ := h.own a ma
      exact ⟨r1, u, e _ _ r2, r3⟩
  · rcases List.mem_cons.mp mz with rfl | mz
    · exact ⟨List.mem_cons_self, k _ g⟩
    · exact ⟨List.mem_cons_of_mem _ (h.tm z mz).1, q (h.tm z mz).1 (h.tm z mz).2⟩
  · rw [List.map_cons, List.nodup_cons]
    refine ⟨fun mz => ?_, h.tn⟩
    obtain ⟨z, mz, ez⟩ := List.mem_map.mp mz
    exact nm _ (h.tm z mz).1 ez
  · rw [List.map_cons, List.mem_cons] at mz
    rcases mz with rfl | mz
    · obtain ⟨b, r3, r4, _⟩ := h.ow i d r1
      rw [r2] at r3
      cases r3
      exact nm _ r4 rfl
    · exact h.ts i a d r1 r2 mz
/-- something fresh is given away -/
theorem gfree (h : ER C F L H σ s θ) (m : a ∈ L) : Same (gOf F L H) (gOf F (L.filter (· != a)) H) ∧ Ob F (L.filter (· != a)) a = false ∧ ExcOk (Ob F (L.filter (· != a))) H := by
  have le : ∀ b, Ob F (L.filter (· != a)) b = true → Ob F L b = true := fun b q => by
    unfold Ob at q ⊢
    rw [Bool.or_eq_true] at q ⊢
    refine q.imp id fun q => ?_
    have : b ∈ L.filter (· != a) := by simpa using q
    have := (List.mem_filter.mp this).1
    simpa using this
  refine ⟨exc_less le, ?_, fun b q => h.excOk b (le b q)⟩
  unfold Ob
  rw [h.outO (h.own a m).1, Bool.false_or]
  cases q : (L.filter (· != a)).contains a with
  | false => rfl
  | true =>
    have : a ∈ L.filter (· != a) := by simpa using q
    have := (List.mem_filter.mp this).2
    simp at this
theorem ER.less (h : ER C F L H σ s θ) (m : a ∈ L) (hs : ∀ (i : Nat) d, s[i]? = some (.ow d) → σ[i]? ≠ some (some (.ref a))) (ht : a ∉ θ.map (·.1)) : ER C F (L.filter (· != a)) H σ s θ := by
  obtain ⟨g, _, _⟩ := gfree h m
  have mem : ∀ {b}, b ∈ L → b ≠ a → b ∈ L.filter (· != a) := fun mb nb => List.mem_filter.mpr ⟨mb, by simpa using nb⟩
  refine ⟨h.same, h.out, fun b mb => h.own b (List.mem_filter.mp mb).1, h.len, fun i d q => let ⟨v, r1, r2⟩ := h.fz i d q; ⟨v, r1, r2.keep g⟩, fun i d r => ?_, h.inj, fun p mp => ?_, h.tn, h.ts⟩
  · obtain ⟨b, r1, r2, r3⟩ := h.ow i d r
    exact ⟨b, r1, mem r2 fun z => hs i d r (z ▸ r1), r3.keep g (Tk.refl H) rfl⟩
  · obtain ⟨r1, r2⟩ := h.tm p mp
    exact ⟨mem r1 fun z => ht (List.mem_map.mpr ⟨p, mp, z⟩), r2.keep g (Tk.refl H) rfl⟩
theorem ER.drop (h : ER C F L H σ s ((a, d) :: θ)) : ER C F L H σ s θ :=
  ⟨h.same, h.out, h.own, h.len, h.fz, h.ow, h.inj, fun p m => h.tm p (List.mem_cons_of_mem _ m), (List.nodup_cons.mp h.tn).2, fun i a d r1 r2 m => h.ts i a d r1 r2 (List.mem_cons_of_mem _ m)⟩
theorem ER.giveTmp (h : ER C F L H σ s ((a, d) :: θ)) : ∃ L', Same (gOf F L H) (gOf F L' H) ∧ Rp C (gOf F L' H) (.ref a) d ∧ ER C F L' H σ s θ := by
  obtain ⟨m, q⟩ := h.tm (a, d) List.mem_cons_self
  obtain ⟨g, n, x⟩ := gfree h m
  refine ⟨_, g, q.rp g x n, h.drop.less m (fun i d r1 r2 => h.ts i a d r1 r2 List.mem_cons_self) ?_⟩
  exact (List.nodup_cons.mp h.tn).1
/-- slots are set -/
theorem ER.set (h : ER C F L H σ s θ) (i : Nat) (r : Rp C (gOf F L H) v d) : ER C F L H (σ.set i (some v)) (s.set i (.fz d)) θ := by
  have ne : ∀ {j : Nat} {x : Slot}, (∀ d, x ≠ .fz d) → (s.set i (.fz d))[j]? = some x → j ≠ i ∧ s[j]? = some x := fun {j x} nx q => by
    by_cases e : i = j
    · subst e
      rw [List.getElem?_set] at q
      rw [if_pos rfl] at q
      split at q
      · exact absurd (Option.some.inj q).symm (nx _)
      · cases q
    · rw [List.getElem?_set_ne e] at q
      exact ⟨fun z => e z.symm, q⟩
  have sg : ∀ {j : Nat}, j ≠ i → (σ.set i (some v))[j]? = σ[j]? := fun n => List.getElem?_set_ne n.symm
  refine ⟨h.same, h.out, h.own, by rw [List.length_set, List.length_set, h.len], fun j e q => ?_, fun j e q => ?_, fun j k b e e' q1 q2 r1 r2 => ?_, h.tm, h.tn, fun j b e q r => ?_⟩
  · by_cases z : i = j
    · subst z
      rw [List.getElem?_set, if_pos rfl] at q
      split at q
      · rename_i hl
        cases q
        refine ⟨v, ?_, r⟩
        rw [List.getElem?_set, if_pos rfl, if_pos (h.len ▸ hl)]
      · cases q
    · rw [List.getElem?_set_ne z] at q
      rw [List.getElem?_set_ne z]
      exact h.fz j e q
  · obtain ⟨n, q⟩ := ne (by intro _ z; cases z) q
    rw [sg n]
    exact h.ow j e q
  · obtain ⟨n1, q1⟩ := ne (by intro _ z; cases z) q1
    obtain ⟨n2, q2⟩ := ne (by intro _ z; cases z) q2
    rw [sg n1] at r1
    rw [sg n2] at r2
    exact h.inj j k b e e' q1 q2 r1 r2
  · obtain ⟨n, q⟩ := ne (by intro _ z; cases z) q
    rw [sg n] at r
    exact h.ts j b e q r
theorem ER.unset (h : ER C F L H σ s θ) (i : Nat) (x : Option V) : ER C F L H (σ.set i x) (s.set i .un) θ := by
  have ne : ∀ {j : Nat} {x : Slot}, x ≠ .un → (s.set i .un)[j]? = some x → j ≠ i ∧ s[j]? = some x := fun {j x} nx q => by
    by_cases e : i = j
    · subst e
      rw [List.getElem?_set] at q
      rw [if_pos rfl] at q
      split at q
      · exact absurd (Option.some.inj q).symm nx
      · cases q
    · rw [List.getElem?_set_ne e] at q
      exact ⟨fun z => e z.symm, q⟩
  have sg : ∀ {j : Nat}, j ≠ i → (σ.set i x)[j]? = σ[j]? := fun n => List.getElem?_set_ne n.symm
  refine ⟨h.same, h.out, h.own, by rw [List.length_set, List.length_set, h.len], fun j e q => ?_, fun j e q => ?_, fun j k b e e' q1 q2 r1 r2 => ?_, h.tm, h.tn, fun j b e q r => ?_⟩
  · obtain ⟨n, q⟩ := ne (fun z => by cases z) q
    rw [sg n]
    exact h.fz j e q
  · obtain ⟨n, q⟩ := ne (fun z => by cases z) q
    rw [sg n]
    exact h.ow j e q
  · obtain ⟨n1, q1⟩ := ne (fun z => by cases z) q1
    obtain ⟨n2, q2⟩ := ne (fun z => by cases z) q2
    rw [sg n1] at r1
    rw [sg n2] at r2
    exact h.inj j k b e e' q1 q2 r1 r2
  · obtain ⟨n, q⟩ := ne (fun z => by cases z) q
    rw [sg n] at r
    exact h.ts j b e q r
/-- a slot's own thing is taken out of it -/
theorem ER.takeOwn (h : ER C F L H σ s θ) (q : s[i]? = some (.ow d)) : ∃ a, σ[i]? = some (some (.ref a)) ∧ ER C F L H σ (s.set i .un) ((a, d) :: θ) := by
  obtain ⟨a, r1, r2, r3⟩ := h.ow i d q
  have h1 := h.unset i (some (.ref a))
  have es : σ.set i (some (V.ref a)) = σ := by
    apply List.ext_getElem?
    intro j
    rw [List.getElem?_set]
    split
    · rename_i e
      subst e
      rw [r1]
      split
      · rfl
      · rename_i nl
        rw [List.getElem?_eq_none (Nat.le_of_not_lt nl)] at r1
        cases r1
    · rfl
  rw [es] at h1
  have ne : ∀ {j : Nat} {x : Slot}, x ≠ .un → (s.set i .un)[j]? = some x → j ≠ i ∧ s[j]? = some x := fun {j x} nx q => by
    by_cases e : i = j
    · subst e
      rw [List.getElem?_set] at q
      rw [if_pos rfl] at q
      split at q
      · exact absurd (Option.some.inj q).symm nx
      · cases q
    · rw [List.getElem?_set_ne e] at q
      exact ⟨fun z => e z.symm, q⟩
  refine ⟨a, r1, h1.same, h1.out, h1.own, h1.len, h1.fz, h1.ow, h1.inj, fun p mp => ?_, ?_, fun j b e q1 q2 mz => ?_⟩
  · rcases List.mem_cons.mp mp with rfl | mp
    · exact ⟨r2, r3⟩
    · exact h1.tm p mp
  · rw [List.map_cons, List.nodup_cons]
    exact ⟨h.ts i a d q r1, h.tn⟩
  · rw [List.map_cons, List.mem_cons] at mz
    obtain ⟨n, q1'⟩ := ne (fun z => by cases z) q1
    rcases mz with rfl | mz
    · exact n (h.inj j i _ e d q1' q q2 r1)
    · exact h.ts j b e q1' q2 mz
/-- .. and given away -/
theorem ER.giveSlot (h : ER C F L H σ s θ) (q : s[i]? = some (.ow d)) : ∃ v L', σ[i]? = some (some v) ∧ Same (gOf F L H) (gOf F L' H) ∧ Rp C (gOf F L' H) v d ∧ ER C F L' H σ (s.set i (.fz d)) θ := by
  obtain ⟨a, r1, h1⟩ := h.takeOwn q
  obtain ⟨L', g, r, h2⟩ := h1.giveTmp
  refine ⟨.ref a, L', r1, g, r, ?_⟩
  have h3 := h2.set i r
  have es : σ.set i (some (V.ref a)) = σ := by
    apply List.ext_getElem?
    intro j
    rw [List.getElem?_set]
    split
    · rename_i e
      subst e
      rw [r1]
      split
      · rfl
      · rename_i nl
        rw [List.getElem?_eq_none (Nat.le_of_not_lt nl)] at r1
        cases r1
    · rfl
  rw [es, List.set_set] at h3
  exact h3
end
/-- the value is d, its top in H, all in it in G -/
def Bv (C : Cn) (G H : Hp) (v : V) : D → Prop
  | .tup ds => ∃ a vs, v = .ref a ∧ SqT C.K H a vs ∧ Rps C G vs ds
  | .lst ds => ∃ a vs, v = .ref a ∧ H a = some (.lst vs) ∧ Rps C G vs ds
  | .dic ks ds => ∃ a kvs, v = .ref a ∧ Mx C.P C.w C.K H a kvs ∧ kvs.map (·.1) = ks.map D.nk ∧ D.keys KEY ks = true ∧ Rps C G (kvs.map (·.2)) ds
  | .obj c ns ds => ∃ a dx fs, v = .ref a ∧ H a = some (.ins (C.CM c) dx fs) ∧ fs.map (·.1) = ns ∧ Rps C G (fs.map (·.2)) ds
  | .non => v = .non
  | .bl b => v = .bl b
  | .int i => v = .int i
  | .str z => v = .str z ∧ PyData.strOk z = true
  | .ty n => v = .ty n
theorem Rp.bv {C : Cn} {G H : Hp} {v : V} {d : D} (e : Same G H) (h : Rp C G v d) : Bv C G H v d := by
  cases h with
  | non => rfl
  | bl => rfl
  | int => rfl
  | str z h => exact ⟨rfl, h⟩
  | ty => rfl
  | tup a b => exact ⟨_, _, rfl, same_t e a, b⟩
  | lst a b => exact ⟨_, _, rfl, e _ _ a, b⟩
  | dic a b c d => exact ⟨_, _, rfl, Mx.keep e a, b, c, d⟩
  | obj a b c => exact ⟨_, _, _, rfl, e _ _ a, b, c⟩
theorem OwC.bv {me : Option Addr} {C : Cn} {G H : Hp} {a : Addr} {d : D} (h : OwC C me G H a d) : Bv C G H (.ref a) d := by
  cases d with
  | lst ds => obtain ⟨vs, e, r⟩ := h; exact ⟨a, vs, rfl, e, r⟩
  | dic ks ds => obtain ⟨kvs, e, r1, r2, r3⟩ := h; exact ⟨a, kvs, rfl, e, r1, r2, r3⟩
  | obj c ns ds => obtain ⟨_, dx, fs, e, r1, r2⟩ := h; exact ⟨a, dx, fs, rfl, e, r1, r2⟩
  | _ => exact False.elim h
/-- what a result is worth, while it is kept -/
def Held (C : Cn) (G : Hp) (σ : L2.St) (v : V) : R → Prop
  | .sl i => σ[i]? = some (some v)
  | .fz d => Rp C G v d
  | .ow _ => False
theorem Held.keep {C : Cn} {G G' : Hp} {σ : L2.St} {v : V} {r : R} (e : Same G G') (h : Held C G σ v r) : Held C G' σ v r := by
  cases r with
  | sl i => exact h
  | fz d => exact Rp.keep e h
  | ow d => exact h
theorem at_fz {s : S} {i : Nat} {d : D} (h : at? s i = .fz d) : s[i]? = some (.fz d) := by
  unfold at? at h
  rw [List.getD_eq_getElem?_getD] at h
  cases e : s[i]? with
  | none => rw [e] at h; cases h
  | some x => rw [e] at h; exact congrArg _ h
theorem at_ow {s : S} {i : Nat} {d : D} (h : at? s i = .ow d) : s[i]? = some (.ow d) := by
  unfold at? at h
  rw [List.getD_eq_getElem?_getD] at h
  cases e : s[i]? with
  | none => rw [e] at h; cases h
  | some x => rw [e] at h; exact congrArg _ h
theorem ER.look {C : Cn} {F : Fm} {L : List Addr} {H : Hp} {σ : L2.St} {s : S} {θ : List (Addr × D)} {r : R} {v : V} {d : D} (h : ER C F L H σ s θ) (hv : Held C (gOf F L H) σ v r) (e : rd r s = some d) : Bv C (gOf F L H) H v d := by
  cases r with
  | sl i =>
    have e : (at? s i).val = some d := e
    have hv : σ[i]? = some (some v) := hv
    cases q : at? s i with
    | un => rw [q] at e; cases e
    | fz d' =>
      rw [q] at e
      cases e
      obtain ⟨v', r1, r2⟩ := h.fz i _ (at_fz q)
      rw [hv] at r1
      cases r1
      exact r2.bv exc_le
    | ow d' =>
      rw [q] at e
      cases e
      obtain ⟨a, r1, r2, r3⟩ := h.ow i _ (at_ow q)
      rw [hv] at r1
      cases r1
      exact r3.bv
  | fz d' =>
    cases e
    exact Rp.bv exc_le hv
  | ow d' => exact False.elim hv
end PL
set_option Elab.async false
set_option linter.all false
set_option autoImplicit false
set_option maxRecDepth 100000
set_option maxHeartbeats 2000000
namespace PL
open PySem PySem.Spec PyProof.Rows L2 MK
/-- where a value is, by its result -/
def Post (C : Cn) (F : Fm) (L : List Addr) (H : Hp) (σ : L2.St) (s : S) (θ : List (Addr × D)) (v : V) : R → Prop
  | .sl i => σ[i]? = some (some v) ∧ ER C F L H σ s θ
  | .fz d => Rp C (gOf F L H) v d ∧ ER C F L H σ s θ
  | .ow d => ∃ a, v = .ref a ∧ ER C F L H σ s ((a, d) :: θ)
def SE (C : Cn) (t : TE) (f : EM) : Prop := ∀ F L H σ s θ r s', ER C F L H σ s θ → f s = some (r, s') → ∀ Q : VK, (∀ v L' H', Same (gOf F L H) (gOf F L' H') → Post C F L' H' σ s' θ v r → Q v H') → t σ H Q
def ST (C : Cn) (t : TT) (f : TM) : Prop := ∀ F L H σ s θ b s', ER C F L H σ s θ → f s = some (b, s') → ∀ Q : Bool → Hp → Prop, (∀ L' H', Same (gOf F L H) (gOf F L' H') → ER C F L' H' σ s' θ → Q b H') → t σ H Q
def SA (C : Cn) (t : TA) (f : LM) : Prop := ∀ F L H σ s θ ds s', ER C F L H σ s θ → f s = some (ds, s') → ∀ Q : List V → Hp → Prop, (∀ vs L' H', Same (gOf F L H) (gOf F L' H') → Rps C (gOf F L' H') vs ds → ER C F L' H' σ s' θ → Q vs H') → t σ H Q
structure QT (X : Cx) (C : Cn) (e : Expr) (t : TT) (f : TM) : Prop where
  pe : PT X e t
  se : ST C t f
structure QW (X : Cx) (C : Cn) (e : Expr) (t : TT) (f : TM) : Prop where
  pe : PW X e t
  se : ST C t f
section
variable {C : Cn} {F : Fm} {L : List Addr} {H : Hp} {σ : L2.St} {s s' : S} {θ : List (Addr × D)} {v : V} {r : R}
theorem Post.held (h : Post C F L H σ s θ v r) : ∃ L', Same (gOf F L H) (gOf F L' H) ∧ Held C (gOf F L' H) σ v (nw r) ∧ ER C F L' H σ s θ := by
  cases r with
  | sl i => exact ⟨L, Same.refl _, h.1, h.2⟩
  | fz d => exact ⟨L, Same.refl _, h.1, h.2⟩
  | ow d =>
    obtain ⟨a, rfl, h⟩ := h
    obtain ⟨L', g, r, e⟩ := h.giveTmp
    exact ⟨L', g, r, e⟩
theorem rd_nw (r : R) (s : S) : rd (nw r) s = rd r s := by cases r <;> rfl
/-- given away -/
theorem Post.gone {d : D} (h : Post C F L H σ s θ v r) (e : frz r s = some (d, s')) : ∃ L', Same (gOf F L H) (gOf F L' H) ∧ Rp C (gOf F L' H) v d ∧ ER C F L' H σ s' θ := by
  cases r with
  | sl i =>
    obtain ⟨h1, h2⟩ := h
    have e : (match at? s i with
      | .fz d => some (d, s)
      | .ow d => some (d, s.set i (.fz d))
      | .un => none) = some (d, s') := e
    cases q : at? s i with
    | un => rw [q] at e; cases e
    | fz d' =>
      rw [q] at e
      cases e
      obtain ⟨u, r1, r2⟩ := h2.fz i _ (at_fz q)
      rw [h1] at r1
      cases r1
      exact ⟨L, Same.refl _, r2, h2⟩
    | ow d' =>
      rw [q] at e
      cases e
      obtain ⟨u, L', r1, g, r2, r3⟩ := h2.giveSlot (at_ow q)
      rw [h1] at r1
      cases r1
      exact ⟨L', g, r2, r3⟩
  | fz d' =>
    cases e
    exact ⟨L, Same.refl _, h.1, h.2⟩
  | ow d' =>
    cases e
    obtain ⟨a, rfl, h⟩ := h
    obtain ⟨L', g, r, e⟩ := h.giveTmp
    exact ⟨L', g, r, e⟩
end
theorem bind_some {α β : Type} {x : Option α} {f : α → Option β} {b : β} (h : x.bind f = some b) : ∃ a, x = some a ∧ f a = some b := by
  cases x with
  | none => cases h
  | some a => exact ⟨a, rfl, h⟩
theorem if_some {α : Type} {c : Prop} [Decidable c] {x : Option α} {b : α} (h : (if c then x else none) = some b) : c ∧ x = some b := by
  split at h
  · exact ⟨by assumption, h⟩
  · cases h
/-- an expression's value, kept -/
theorem SE.held {C : Cn} {t : TE} {f : EM} (h : SE C t f) {F : Fm} {L : List Addr} {H : Hp} {σ : L2.St} {s : S} {θ : List (Addr × D)} {r : R} {s' : S} (er : ER C F L H σ s θ) (e : f s = some (r, s')) {Q : VK}
    (k : ∀ v L' H', Same (gOf F L H) (gOf F L' H') → Held C (gOf F L' H') σ v (nw r) → ER C F L' H' σ s' θ → Q v H') : t σ H Q := by
  refine h F L H σ s θ r s' er e Q fun v L' H' g p => ?_
  obtain ⟨L2, g2, h2, e2⟩ := p.held
  exact k v L2 H' (g.trans g2) h2 e2
/-- .. given away -/
theorem SE.gone {C : Cn} {t : TE} {f : EM} (h : SE C t f) {F : Fm} {L : List Addr} {H : Hp} {σ : L2.St} {s : S} {θ : List (Addr × D)} {d : D} {s' : S} (er : ER C F L H σ s θ) (e : fr f s = some (d, s')) {Q : VK}
    (k : ∀ v L' H', Same (gOf F L H) (gOf F L' H') → Rp C (gOf F L' H') v d → ER C F L' H' σ s' θ → Q v H') : t σ H Q := by
  obtain ⟨⟨r, s1⟩, e1, e2⟩ := bind_some e
  refine h F L H σ s θ r s1 er e1 Q fun v L' H' g p => ?_
  obtain ⟨L2, g2, h2, e2⟩ := p.gone e2
  exact k v L2 H' (g.trans g2) h2 e2
theorem SE.name {C : Cn} (i : Nat) : SE C (tVar i) (eName i) := by
  intro F L H σ s θ r s' er e Q k
  unfold eName at e
  cases q : at? s i with
  | un => rw [q] at e; cases e
  | fz d =>
    rw [q] at e
    cases e
    obtain ⟨v, r1, r2⟩ := er.fz i _ (at_fz q)
    exact ⟨v, r1, k v L H (Same.refl _) ⟨r1, er⟩⟩
  | ow d =>
    rw [q] at e
    cases e
    obtain ⟨a, r1, r2⟩ := er.ow i _ (at_ow q)
    exact ⟨_, r1, k _ L H (Same.refl _) ⟨r1, er⟩⟩
section
variable {X : Cx} {C : Cn} {pos : Pos}
theorem QW.pt {e : Expr} {t : TT} {f : TM} (h : QW X C e t f) : QT X C e t f := ⟨h.pe.pt, h.se⟩
end
def UnS (C : Cn) (r1 : V → Hp → VK → Prop) (k : D → S → Option (R × S)) : Prop := ∀ F L H σ s θ x a r s', ER C F L H σ s θ → Bv C (gOf F L H) H x a → k a s = some (r, s') → ∀ Q : VK, (∀ v L' H', Same (gOf F L H) (gOf F L' H') → Post C F L' H' σ s' θ v r → Q v H') → r1 x H Q
theorem SE.one {C : Cn} {ta : TE} {fa : EM} {r1 : V → Hp → VK → Prop} {k : D → S → Option (R × S)} (ha : SE C ta fa) (hk : UnS C r1 k) : SE C (fun σ H Q => ta σ H fun x H1 => r1 x H1 Q) (one fa k) := by
  intro F L H σ s θ r s' er e Q q
  obtain ⟨⟨ra, s1⟩, e1, e⟩ := bind_some e
  obtain ⟨a, e3, e⟩ := bind_some e
  refine ha.held er e1 fun x L1 H1 g1 h1 er1 => ?_
  exact hk F L1 H1 σ s1 θ x a r s' er1 (er1.look h1 (by rw [rd_nw]; exact e3)) e Q fun v L' H' g p => q v L' H' (g1.trans g) p
theorem SA.nil {C : Cn} : SA C tNil (args []) := by
  intro F L H σ s θ ds s' er e Q k
  cases e
  exact k [] L H (Same.refl _) .nil er
theorem SA.cons {C : Cn} {ta : TE} {t : TA} {f : EM} {as : List Arg} (h : SE C ta f) (h2 : SA C t (args as)) : SA C (tCons ta t) (args (.one f :: as)) := by
  intro F L H σ s θ ds s' er e Q k
  obtain ⟨⟨d, s1⟩, e1, e⟩ := bind_some e
  obtain ⟨⟨ds', s2⟩, e2, e⟩ := bind_some e
  cases e
  refine h.gone er e1 fun v L1 H1 g1 r1 er1 => ?_
  exact h2 F L1 H1 σ s1 θ ds' s2 er1 e2 _ fun vs L2 H2 g2 r2 er2 => k _ L2 H2 (g1.trans g2) (.cons (r1.keep g2) r2) er2
theorem bv_seq {C : Cn} {G H : Hp} {v : V} {d : D} {xs : List D} (b : Bv C G H v d) (h : seqOf d = some xs) : ∃ a vs, v = .ref a ∧ (SqT C.K H a vs ∨ SqL C.K H a vs) ∧ Rps C G vs xs := by
  cases d with
  | tup ds => cases h; obtain ⟨a, vs, e, r1, r2⟩ := b; exact ⟨a, vs, e, .inl r1, r2⟩
  | lst ds => cases h; obtain ⟨a, vs, e, r1, r2⟩ := b; exact ⟨a, vs, e, .inr (SqL.of r1), r2⟩
  | _ => cases h
theorem SA.star {C : Cn} {ta : TE} {t : TA} {f : EM} {as : List Arg} (h : SE C ta f) (h2 : SA C t (args as)) : SA C (StX.tStar C.K ta t) (args (.star f :: as)) := by
  intro F L H σ s θ ds s' er e Q k
  obtain ⟨⟨r, s1⟩, e1, e⟩ := bind_some e
  obtain ⟨d, e2, e⟩ := bind_some e
  obtain ⟨xs, e3, e⟩ := bind_some e
  obtain ⟨⟨ds', s2⟩, e4, e⟩ := bind_some e
  cases e
  refine h.held er e1 fun v L1 H1 g1 r1 er1 => ?_
  obtain ⟨a, vs, rfl, q1, q2⟩ := bv_seq (er1.look r1 (by rw [rd_nw]; exact e2)) e3
  refine ⟨a, vs, rfl, q1, ?_⟩
  exact h2 F L1 H1 σ s1 θ ds' s2 er1 e4 _ fun vs' L2 H2 g2 r2 er2 => k _ L2 H2 (g1.trans g2) ((q2.keep g2).app r2) er2
/-- a new tuple -/
theorem ER.tup {C : Cn} {F : Fm} {L : List Addr} {H : Hp} {σ : L2.St} {s : S} {θ : List (Addr × D)} {p : Addr} {vs : List V} {ds : List D} (h : ER C F L H σ s θ) (r : Rps C (gOf F L H) vs ds) (n : H p = none) : Same (gOf F L H) (gOf F L (upd H p (.tup vs))) ∧ Post C F L (upd H p (.tup vs)) σ s θ (.ref p) (.fz (.tup ds)) := by
  have e : Same H (upd H p (.tup vs)) := same_new (Same.refl H) n
  have g := h.gsame e
  refine ⟨g, .tup (SqT.of ?_) (r.keep g), h.grow e⟩
  rw [h.gnew n, upd_same]
/-- a new list -/
theorem ER.lst {C : Cn} {F : Fm} {L : List Addr} {H : Hp} {σ : L2.St} {s : S} {θ : List (Addr × D)} {p : Addr} {vs : List V} {ds : List D} (h : ER C F L H σ s θ) (r : Rps C (gOf F L H) vs ds) (n : H p = none) : Same (gOf F L H) (gOf F (p :: L) (upd H p (.lst vs))) ∧ Post C F (p :: L) (upd H p (.lst vs)) σ s θ (.ref p) (.ow (.lst ds)) := by
  obtain ⟨g, e⟩ := h.newOwn (o := .lst vs) (d := .lst ds) n trivial fun G q => ⟨vs, upd_same, r.keep q⟩
  exact ⟨g, p, rfl, e⟩
theorem SE.tup {C : Cn} {t : TA} {as : List Arg} (h : SA C t (args as)) : SE C (tTup t) (eTup as) := by
  intro F L H σ s θ r s' er e Q k
  obtain ⟨⟨ds, s1⟩, e1, e⟩ := bind_some e
  obtain ⟨hz, e⟩ := if_some e
  cases e
  refine h F L H σ s θ ds s1 er e1 _ fun vs L1 H1 g1 r1 er1 => ⟨?_, fun p hp => ?_⟩
  · rw [r1.len]; exact hz
  · obtain ⟨g, q⟩ := er1.tup r1 hp
    exact k _ _ _ (g1.trans g) q
theorem SE.lst {C : Cn} {t : TA} {as : List Arg} (h : SA C t (args as)) : SE C (tLst t) (eLst as) := by
  intro F L H σ s θ r s' er e Q k
  obtain ⟨⟨ds, s1⟩, e1, e⟩ := bind_some e
  obtain ⟨hz, e⟩ := if_some e
  cases e
  refine h F L H σ s θ ds s1 er e1 _ fun vs L1 H1 g1 r1 er1 => ⟨?_, fun p hp => ?_⟩
  · rw [r1.len]; exact hz
  · obtain ⟨g, q⟩ := er1.lst r1 hp
    exact k _ _ _ (g1.trans g) q
end PL
set_option Elab.async false
set_option linter.all false
set_option autoImplicit false
set_option maxRecDepth 100000
set_option maxHeartbeats 2000000
namespace PL
open PySem PySem.Spec PyProof.Rows L2 MK
section
variable {X : Cx} {C : Cn} {pos : Pos} {a b c : Expr} {ta tb tc : TE} {fa fb fc : EM}
theorem bv_tru {G H : Hp} {x : V} {a : D} {k : Bool} (h : Bv C G H x a) (e : truth a = some k) : TruV C.K x H k := by
  cases a with
  | non => obtain rfl : x = .non := h; cases e; rfl
  | bl b => obtain rfl : x = .bl b := h; cases e; rfl
  | int i => obtain rfl : x = .int i := h; cases e; rfl
  | str z =>
    obtain ⟨rfl, _⟩ := h
    obtain ⟨hz, e⟩ := if_some e
    cases e
    exact ⟨hz, rfl⟩
  | tup ds =>
    obtain ⟨p, vs, rfl, r1, r2⟩ := h
    cases e
    refine .inr (.inl ⟨vs, r1, ?_⟩)
    cases r2 <;> rfl
  | lst ds =>
    obtain ⟨p, vs, rfl, r1, r2⟩ := h
    cases e
    refine .inl ⟨vs, SqL.of r1, ?_⟩
    cases r2 <;> rfl
  | _ => cases e
theorem ST.or {t u : TT} {f g : TM} (h : ST C t f) (h2 : ST C u g) : ST C (L2.tOr t u) (tOr f g) := by
  intro F L H σ s θ b s' er e Q k
  obtain ⟨⟨b', s1⟩, e1, e⟩ := bind_some e
  refine h F L H σ s θ b' s1 er e1 _ fun L1 H1 g1 er1 => ?_
  cases b' with
  | false => exact h2 F L1 H1 σ s1 θ b s' er1 e _ fun L2 H2 g2 er2 => k L2 H2 (g1.trans g2) er2
  | true => cases e; exact k L1 H1 g1 er1
theorem held_post {F : Fm} {L : List Addr} {H : Hp} {σ : L2.St} {s : S} {θ : List (Addr × D)} {v : V} {r : R} (h : Held C (gOf F L H) σ v (nw r)) (er : ER C F L H σ s θ) : Post C F L H σ s θ v (nw r) := by
  cases r with
  | sl i => exact ⟨h, er⟩
  | fz d => exact ⟨h, er⟩
  | ow d => exact ⟨h, er⟩
theorem SE.or (ha : SE C ta fa) (hb : SE C tb fb) : SE C (tOrT C.K ta tb) (eOr fa fb) := by
  intro F L H σ s θ r s' er e Q k
  obtain ⟨⟨r1, s1⟩, e1, e⟩ := bind_some e
  obtain ⟨d, e2, e⟩ := bind_some e
  obtain ⟨b', e3, e⟩ := bind_some e
  refine ha.held er e1 fun v L1 H1 g1 h1 er1 => ⟨_, bv_tru (er1.look h1 (by rw [rd_nw]; exact e2)) e3, ?_⟩
  cases b' with
  | false => exact hb F L1 H1 σ s1 θ r s' er1 e _ fun v L2 H2 g2 er2 => k v L2 H2 (g1.trans g2) er2
  | true => cases e; exact k v L1 H1 g1 (held_post h1 er1)
end
end PL
set_option Elab.async false
set_option linter.all false
set_option autoImplicit false
set_option maxRecDepth 100000
set_option maxHeartbeats 2000000
namespace PL
open PySem PySem.Spec PyProof.Rows L2 MK
section
variable {X : Cx} {C : Cn} {pos : Pos} {a b c : Expr} {ta tb tc : TE} {fa fb fc : EM}
def tRev (ta : TE) : TE := fun σ H Q => ta σ H fun x H1 => ∃ p xs, x = .ref p ∧ H1 p = some (.lst xs) ∧ ∀ t, H1 t = none → Q (.ref t) (upd H1 t (.lst xs.reverse))
theorem pe_rev {p2 p3 p4 : Pos} {j} (ha : PE X a ta) (hl : ∀ o r, letTemporaryGo a o r = pure () := by intro _ _; rfl) : PE X (.Subscript a (.Slice none none (some (.UnaryOp .USub (.Constant (.int 1) j p3) p4)) p2) pos) (tRev ta) := by
  refine ⟨fun pins s σ H Q I h => ?_⟩
  refine wpAny_Subscript_Slice_step slot_list_getitem.lookup (thn (ha.run pins s σ H _ I h) fun v s1 ⟨x, H1, I1, r1, p, xs, ex, hp, q⟩ => ?_) hl
  subst ex
  cases r1
  refine wpAny_Slice ?_
  rw [evalPart_none]
  refine wpAny_pure ?_
  refine wpAny_pure ?_
  rw [evalPart_some]
  refine thn ((pe_un un_neg (pe_int (X := X))).run pins s1 σ H1 (fun v H' => v = .int (-1) ∧ H' = H1) I1 ⟨1, rfl, rfl, rfl⟩) fun vk s2 ⟨y, H2, I2, r2, ey, eh⟩ => ?_
  subst ey eh
  obtain ⟨tk, rfl⟩ := r2
  have I3 : Inv X pins σ H2 { s2 with heap := s2.heap.push { cls := .type "slice", data := .fields #[.none, .none, .int (-1) tk] } } := I2.kept (t' := s2.toks) fun b ob q => Heap.get?_push_of_some _ q
  obtain ⟨its, r, ht, hz⟩ := I3.list (SqL.of hp)
  have hlen := r.length
  refine ⟨ht.isList.typeIs, ?_⟩
  refine wpAny_getItem_list_slice ht.isList ⟨_, Heap.get?_push_size _ rfl, rfl, rfl⟩ .none .none (.int _ _) (by simp) ?_ (by rw [List.size_toArray] <;> omega)
  rw [PySem.W.krv_pick]
  refine ⟨.ref _, _, I3.laid (t' := s2.toks) (o := .lst xs.reverse) (fun b ob q => Heap.get?_push_of_some _ q) (Nat.le_refl _) ?_, rfl, q _ (I3.hok.fresh (Nat.le_refl _))⟩
  refine ⟨by rw [List.length_reverse]; exact hz, its.reverse, 0, ?_, Heap.get?_push_size _ rfl⟩
  clear hlen hz ht q hp
  exact Vals.reverse r
end
end PL
set_option Elab.async false
set_option linter.all false
set_option autoImplicit false
set_option maxRecDepth 100000
set_option maxHeartbeats 4000000
namespace MK
open PySem PySem.Spec PyProof.Rows L2
open C8 (Met pe_mt pe_mt0 Mak pe_mk)
local macro_rules | `(tactic| walk_at "x") => `(tactic| dsimp only [tSeq, tAsg, tRet, tDrop, tLst, tTup, tCons, tOp, tUn, tIfS])
theorem sc_law : FnScope ["_law_script", "_law_state", "_law_turn", "_law_p", "_law_x", "_law_rules_here", "_law_names", "_law_row", "_law_some", "_law_k", "_law_j", "_law_at"] ["_law_script"] (defScope s_law) := ⟨rfl, rfl, rfl, by decide +kernel, rfl, by decide +kernel, by decide +kernel⟩
def spLaw (K : PySem.W.Frag) : Sp := fun vs H Q _ => ∃ (a : Addr) (ns : List Int), vs = [.ref a] ∧ SqL K H a (ns.map V.int) ∧ ns.length ≤ 63 ∧ ∀ H', Q (.bl true) H'
theorem plan_parts3 {K : PySem.W.Frag} {KC : Addr} {H : Hp} {v : V} {fs : List FD} {n : Nat} {cs : List CD} (h : PlanA K KC H v fs n cs) : LpC K H v cs ∧ LpFg K H v fs ∧ ∃ p kv, v = .ref p ∧ (∀ {H2 : Hp}, Same H H2 → DGet H2 p (.str "known") (some kv)) ∧ KdA K KC H kv fs n cs := by
  obtain ⟨p, l1, l2, kv, fvs, cvs, rfl, q1, q2, q3, q4, q5, q6⟩ := h
  exact ⟨⟨p, l2, cvs, _, rfl, q1, rfl, q4, q5⟩, ⟨p, l1, fvs, _, rfl, q1, rfl, q2, q3⟩, p, kv, rfl, fun e => DGet.k (k := .inr "known") (e _ _ q1), q6⟩
/-- any thing with a shape -/
def Shx (K : PySem.W.Frag) (H : Hp) (v : V) : Prop := ∃ d, Sh K H v d
theorem Shx.keep {K : PySem.W.Frag} {H H' : Hp} {v : V} (e : Same H H') (h : Shx K H v) : Shx K H' v := let ⟨d, h⟩ := h; ⟨d, h.keep e⟩
theorem shx_list {K : PySem.W.Frag} {H : Hp} : ∀ {vs : List V}, (∀ v ∈ vs, Shx K H v) → ∃ ds : List Dt, vs.length = ds.length ∧ ∀ (i : Nat) x y, vs[i]? = some x → ds[i]? = some y → Sh K H x y
  | [], _ => ⟨[], rfl, fun i x y h => by simp at h⟩
  | v :: vs, h => by
    obtain ⟨ds, l, f⟩ := shx_list fun u hu => h u (List.mem_cons_of_mem _ hu)
    obtain ⟨d, hd⟩ := h v List.mem_cons_self
    refine ⟨d :: ds, congrArg Nat.succ l, fun i x y h1 h2 => ?_⟩
    cases i with
    | zero =>
      cases h1
      cases h2
      exact hd
    | succ i => exact f i x y h1 h2
theorem shx_lst {K : PySem.W.Frag} {H : Hp} {a : Addr} {vs : List V} (ha : H a = some (.lst vs)) (few : vs.length < 1000) (h : ∀ v ∈ vs, Shx K H v) : Shx K H (.ref a) := by
  obtain ⟨ds, l, f⟩ := shx_list h
  exact ⟨.lst ds, .lst ha few l f⟩
/-- texts, none too long -/
def TxL (vs : List V) : Prop := ∀ v ∈ vs, ∃ z : Str, v = .str z ∧ z.length ≤ sizeLine
theorem TxL.sh {K : PySem.W.Frag} {H : Hp} {vs : List V} (h : TxL vs) : ∀ v ∈ vs, Shx K H v := fun v hv => by
  obtain ⟨z, rfl, l⟩ := h v hv
  exact ⟨_, .str z l⟩
theorem TxL.app {xs ys : List V} (h : TxL xs) (g : TxL ys) : TxL (xs ++ ys) := fun v hv => (List.mem_append.mp hv).elim (h v) (g v)
theorem TxL.cut {xs : List V} (h : TxL xs) (a b : Option Int) : TxL (cutV xs a b) := fun v hv => h v (List.mem_of_mem_drop (List.mem_of_mem_take hv))
theorem TxL.rev {xs : List V} (h : TxL xs) : TxL xs.reverse := fun v hv => h v (List.mem_reverse.mp hv)
theorem TxL.one {z : Str} (h : z.length ≤ sizeLine) : TxL [.str z] := fun v hv => ⟨z, List.mem_singleton.mp hv, h⟩
/-- what the law's things stand on -/
structure Fr (s S c : Addr) (ns : List Int) (B H : Hp) : Prop where
  st : StA H s c ns
  sm : Same B (Wt [s, S] H)
theorem sx_wt {s S : Addr} {H H' : Hp} (e : SameX s H H') : Same (Wt [s, S] H) (Wt [s, S] H') := fun b o h => by
  obtain ⟨n, h⟩ := wt_some h
  exact (wt_get n).trans (e _ _ h fun z => n (by simp [z]))
theorem Fr.sx {s S c : Addr} {ns : List Int} {B H H' : Hp} (f : Fr s S c ns B H) (e : SameX s H H') (h : StA H' s c ns) : Fr s S c ns B H' := ⟨h, f.sm.trans (sx_wt e)⟩
theorem Fr.keep {s S c : Addr} {ns : List Int} {B H H' : Hp} (f : Fr s S c ns B H) (e : Same H H') : Fr s S c ns B H' := f.sx (same_sx e) (f.st.keep e)
theorem ruZ_a {zs : List Str} {cs : List CD} (h : RlOk cs zs) : (ruZ zs).a ∈ cs.map (·.nm) ∧ (zs.length = 2 ∨ zs.length = 3) ∧ ruOf (.tup (zs.map Dt.str)) = ruZ zs := by
  rcases h with ⟨a, ha, rfl⟩ | ⟨t, a, b, ht, ha, hb, _, rfl⟩
  · exact ⟨ha, .inl rfl, rfl⟩
  · exact ⟨ha, .inr rfl, rfl⟩
section
variable {P : Program} {w : World} {K : PySem.W.Frag} {mg : Str → Option Value} {base : Heap} {KC : Addr}
theorem run_law {f : Addr} {fd : FuncData} (F : DefX K mg "law" s_law ["_law_script"] f fd) (T : Txt K mg) (c_fresh : Cal P w K mg base CX0 1 "_law_fresh" (spFresh K)) (c_kind : Cal P w K mg base CX0 9 "_law_kind" (spLawKind K KC)) (c_one : Cal P w K mg base CX0 3 "_law_one" (spOne K)) (c_take : Cal P w K mg base CX0 2 "_law_take" spTake) (c_same : Cal P w K mg base CX0 2 "_law_same" (spSame K 1))
    (c_rules : Cal P w K mg base CX0 4 "_law_rules" (spLRules K)) (c_is_good : Cal P w K mg base CX0 6 "is_good" (spGood K KC)) (c_led_row : Cal P w K mg base CX0 4 "_law_led_row" (spLed K)) (c_l_is_good : Cal P w K mg base CX0 3 "_law_is_good" (spLGood K)) :
    FnOk P w K mg base CX0 10 f fd ["_law_script"] (spLaw K) := by
  refine F.fn.ok sc_law (fun vs H Q E h => by obtain ⟨a, ns, rfl, _⟩ := h; rfl) fun cdv A outer sh H vs Q E hr h => ?_
  obtain ⟨a, ns, rfl, hS, hn, k⟩ := h
  refine ⟨_, (pss_cons (ps_set (i := 1) sc_law.nd rfl (Or.inr rfl) (pe_c c_fresh hr (by first | decide | assumption) rfl (pa_cons (pv 0) pa_nil)))
(pss_cons (ps_for PassesOwn.never rfl (pi_range1 (by rfl) T.range (pa_cons pe_int pa_nil)) (pg_name (i := 2) sc_law.nd rfl (Or.inl rfl))
(pss_cons (ps_set (i := 3) sc_law.nd rfl (Or.inl rfl) (pe_c c_kind hr (by first | decide | assumption) rfl (pa_cons (pv 1) (pa_cons pe_int (pa_cons pe_int (pa_cons pe_int pa_nil))))))
(pss_cons (ps_asg (pe_tup (pa_cons (pe_c c_rules hr (by first | decide | assumption) rfl (pa_cons (pv 1) (pa_cons (pv 3) pa_nil))) (pa_cons (pe_lc (own := [("_law_x", 4)]) (g := (gName 4)) (tt := tYes) rfl sc_law.nd (pi_list (pe_dget (hu_of hr) (pv 3) pe_str (fun _ _ => rfl))) (blkOk_by (own := [("_law_x", 4)]) (N := ["_law_script", "_law_state", "_law_turn", "_law_p", "_law_x", "_law_rules_here", "_law_names", "_law_row", "_law_some", "_law_k", "_law_j", "_law_at"]) (sc := defScope s_law) (by decide +kernel)) (fun _ _ _ _ _ => (pg_name (i := 4) sc_law.nd rfl (Or.inl rfl))) (fun _ _ _ _ _ => pts_nil) (fun _ _ _ _ _ => (pe_ix (ix_seqK (K := K) rfl) (pv 4) pe_int (fun _ _ => rfl)))) pa_nil))) (pg_tup (by rfl) (pgs_cons (pg_name (i := 5) sc_law.nd rfl (Or.inl rfl)) (pgs_cons (pg_name (i := 6) sc_law.nd rfl (Or.inr rfl)) pgs_nil))))
(pss_cons (ps_set (i := 7) sc_law.nd rfl (Or.inl rfl) (pe_c c_led_row hr (by first | decide | assumption) rfl (pa_cons (pv 1) (pa_cons (pv 3) (pa_cons (pv 5) pa_nil)))))
(pss_cut (ps_set (i := 8) sc_law.nd rfl (Or.inl rfl) (pe_lst (pa_cons (pe_lst pa_nil) (pa_cons (pv 6) (pa_cons (PL.pe_rev (pv 6)) (pa_cons (pe_lst (pa_cons pe_str pa_nil)) (pa_cons pe_non (pa_cons pe_int (pa_cons pe_str (pa_cons pe_dnewK (pa_cons (pe_lst (pa_cons pe_non pa_nil)) (pa_cons (pe_lst (pa_cons (pe_lst (pa_cons pe_str pa_nil)) pa_nil)) (pa_cons (pe_op op_cat (pv 6) (pv 6)) pa_nil)))))))))))))
(pss_cons (ps_for PassesOwn.never rfl (pi_range1 (by rfl) T.range (pa_cons pe_int pa_nil)) (pg_name (i := 9) sc_law.nd rfl (Or.inl rfl))
(pss_one (ps_expr (pe_bm PySem.F.plainAttrs_list PySem.F.slot_list_append PySem.F.type_list_append mt_append (pv 8) (pa_cons (pe_op op_cat (pe_lc (own := [("_law_j", 10)]) (g := (gName 10)) (tt := tYes) rfl sc_law.nd (pi_range1 (by rfl) T.range (pa_cons (pe_c c_take hr (by first | decide | assumption) rfl (pa_cons (pv 1) (pa_cons pe_int pa_nil))) pa_nil)) (blkOk_by (own := [("_law_j", 10)]) (N := ["_law_script", "_law_state", "_law_turn", "_law_p", "_law_x", "_law_rules_here", "_law_names", "_law_row", "_law_some", "_law_k", "_law_j", "_law_at"]) (sc := defScope s_law) (by decide +kernel)) (fun _ _ _ _ _ => (pg_name (i := 10) sc_law.nd rfl (Or.inl rfl))) (fun _ _ _ _ _ => pts_nil) (fun _ _ _ _ _ => (pe_c c_one hr (by first | decide | assumption) rfl (pa_cons (pv 1) (pa_cons (pv 6) pa_nil))))) (pe_lst (pa_cons pe_str pa_nil))) pa_nil)))))
(pss_cut (ps_if (pt_cmpR op_notN (pv 7) pe_non (nomark _))
(pss_cons (ps_set (i := 11) sc_law.nd rfl (Or.inl rfl) (pe_c c_take hr (by first | decide | assumption) rfl (pa_cons (pv 1) (pa_cons (pe_callB call_len_seq (by rfl) T.len (by decide +kernel) (pa_cons (pv 7) pa_nil)) pa_nil))))
(pss_cons (ps_set (i := 8) sc_law.nd rfl (Or.inl rfl) (pe_op op_cat (pv 8) (pe_lst (pa_cons (pv 7) (pa_cons (pe_slice sl_list (pv 7) po_none (po_some (pe_un un_neg pe_int))) (pa_cons (pe_op op_cat (pv 7) (pe_lst (pa_cons pe_str pa_nil))) (pa_cons (pe_op op_cat (pe_slice sl_list (pv 7) po_none (po_some (pv 11))) (pe_slice sl_list (pv 7) (po_some (pe_op op_add (pv 11) pe_int)) po_none)) (pa_cons (pe_op op_cat (pe_op op_cat (pe_slice sl_list (pv 7) po_none (po_some (pv 11))) (pe_lst (pa_cons (pe_ix ix_list (pv 6) pe_int (fun _ _ => rfl)) pa_nil))) (pe_slice sl_list (pv 7) (po_some (pv 11)) po_none)) pa_nil))))))))
(pss_one (ps_if (pt_not (pt_val (pe_c c_is_good hr (by first | decide | assumption) rfl (pa_cons (pe_dget (hu_of hr) (pv 3) pe_str (fun _ _ => rfl)) (pa_cons (pv 5) (pa_cons (pv 7) pa_nil))))))
(pss_one (ps_ret pe_bl))
pss_nil))))
pss_nil)
(pss_one (ps_for PassesOwn.never rfl (pi_list (pv 8)) (pg_name (i := 4) sc_law.nd rfl (Or.inl rfl))
(pss_one (ps_if (pt_not (pt_val (pe_c c_same hr (by first | decide | assumption) rfl (pa_cons (pe_c c_is_good hr (by first | decide | assumption) rfl (pa_cons (pe_dget (hu_of hr) (pv 3) pe_str (fun _ _ => rfl)) (pa_cons (pv 5) (pa_cons (pv 4) pa_nil)))) (pa_cons (pe_c c_l_is_good hr (by first | decide | assumption) rfl (pa_cons (pv 3) (pa_cons (pv 5) (pa_cons (pv 4) pa_nil)))) pa_nil)))))
(pss_one (ps_ret pe_bl))
pss_nil)))))))))))
(pss_one (ps_ret pe_bl)))), ?_⟩
  refine ⟨_, rfl, a, ns, rfl, hS, hn, fun s c H0 e0 hs0 hc0 hS0 => ?_⟩
  refine ⟨4, rfl, by decide, by decide, for_range (n := 4) (fun i σ H2 => StA H2 s c ns ∧ ∃ x2 x3 x4 x5 x6 x7 x8 x9 x10 x11, σ = [some (.ref a), some (.ref s), x2, x3, x4, x5, x6, x7, x8, x9, x10, x11]) ⟨hS0, _, _, _, _, _, _, _, _, _, _, rfl⟩ ?_ ?_⟩
  · rintro i σ H2 hi ⟨h1, x2, x3, x4, x5, x6, x7, x8, x9, x10, x11, rfl⟩
    refine ⟨_, rfl, s, c, ns, 2, 5, 3, rfl, h1, hn, by decide, by decide, by decide, by decide, by decide, by decide, fun pq H3 fs n cs e3 h3 ok hfl hfn hnf hnm hlast pl => ?_⟩
    obtain ⟨pC, pF, p, kv, rfl, dg, kd⟩ := plan_parts3 pl
    have c0 := ok.cpos
    have c6 := ok.cle
    obtain ⟨p', l2, cvs, kvs, ep, p1, p2, p3, p4⟩ := id pC
    cases ep
    have lcs : cvs.length = cs.length := p4.1
    refine ⟨_, rfl, _, rfl, s, c, ns, .ref p, fs, n, cs, rfl, h3, hn, pC, ok, fun H4 ra rvs rs e4 h4 ra0 hra al rok rl => ?_⟩
    have lrv : rvs.length = rs.length := al.1
    generalize hds : (rs.map fun zs => Dt.tup (zs.map Dt.str)) = ds
    have lds : ds.length ≤ 3 := by rw [← hds, List.length_map]; exact rl
    have good : ∀ d ∈ ds, ruleD cs d = true ∧ FlatHd d := fun d hd => by
      rw [← hds] at hd
      obtain ⟨zs, hz, rfl⟩ := List.mem_map.mp hd
      exact rlok_rule (rok zs hz)
    have ald : Al (Sh K (Off s H4)) rvs ds := ⟨by rw [← hds, List.length_map, lrv], fun i x y h1 h2 => by
      rw [← hds, List.getElem?_map] at h2
      obtain ⟨zs, hz, rfl⟩ := Option.map_eq_some_iff.mp h2
      obtain ⟨l1, sz, _⟩ := (rok zs (List.mem_of_getElem? hz)).sz ok
      exact rule_dt (al.2 i x zs h1 hz) l1 sz⟩
    have sR : Sh K (Off s H4) (.ref ra) (.lst ds) := .lst hra (by omega) ald.1 ald.2
    have hdr : ds.map ruOf = rs.map ruZ := by
      rw [← hds, List.map_map]
      exact List.map_congr_left fun zs hz => (ruZ_a (rok zs hz)).2.2
    have h23 : ∀ r ∈ rs, r.length = 2 ∨ r.length = 3 := fun r hr => (ruZ_a (rok r hr)).2.1
    have hna : ∀ r ∈ rs, (ruZ r).a ∈ cs.map (·.nm) := fun r hr => (ruZ_a (rok r hr)).1
    have od : ODOk ⟨fs, n, cs, ds.map ruOf⟩ := by
      refine ⟨ok, ?_, by show (ds.map ruOf).length ≤ 10; rw [List.length_map]; omega⟩
      have lc : (countL cs (ds.map ruOf)).length ≤ 3 := by
        have := nodup_le (xs := countL cs (ds.map ruOf)) (ys := (ds.map ruOf).map (·.a)) (ok.nd.filter _) fun x hx => of_decide_eq_true (List.mem_filter.mp hx).2
        rw [List.length_map, List.length_map] at this
        omega
      have p1 : 2 ^ fs.length ≤ 2 ^ 2 := Nat.pow_le_pow_right (by decide) hfl
      have p2 : 2 ^ (countL cs (ds.map ruOf)).length ≤ 2 ^ 3 := Nat.pow_le_pow_right (by decide) lc
      exact Nat.le_trans (Nat.mul_le_mul hnf (Nat.mul_le_mul p1 p2)) (by decide)
    have N34 : Same (Off s H3) (Off s H4) := e4.off
    have g4 : Same (Off s H3) H4 := N34.trans off_same
    have hpd : DGet H4 p (.str "calls") (some (.ref l2)) := p2 ▸ DGet.k (k := .inr "calls") (g4 _ _ p1)
    refine ⟨_, rfl, p, .ref l2, rfl, hpd, l2, rfl, ⟨cvs, SqL.of (g4 _ _ p3)⟩, fun la hla => ?_⟩
    refine lc_valS (walk_list (K := K) (a := l2) (xs := cvs)) (ys := cs.map fun c => V.str c.nm) (by rw [List.length_map, lcs]) (by omega) hla (fun H' e => SqL.of (e _ _ (g4 _ _ p3))) (fun i x y H2 H3' R hi hy e hY k => ?_) fun H5 e5 la5 => ?_
    · obtain ⟨rfl, hx⟩ := hY
      obtain ⟨c, hc, mv, dv, sv, ds, ⟨ca, rfl, c1⟩, _⟩ := p4.get hx
      rw [List.getElem?_map, hc] at hy
      cases hy
      exact ⟨rfl, _, rfl, .inr (.inl ⟨ca, _, 0, .str c.nm, rfl, rfl, same_t (g4.trans e) c1, rfl, k _ (Same.refl _)⟩)⟩
    have las := (h4.ne hla).1
    have h5 := h4.keep e5
    refine ⟨by show 2 ≤ sizeLine; decide, fun t5 ht5 => ?_⟩
    have e56 := same_new (Same.refl H5) ht5 (o := .tup [.ref ra, .ref la])
    refine ⟨t5, _, rfl, SqT.of upd_same, rfl, _, _, rfl, _, _, rfl, rfl, ?_⟩
    have h6 := h5.keep e56
    have la6 := e56 _ _ la5
    generalize upd H5 t5 (.tup [.ref ra, .ref la]) = H6 at e56 h6 la6
    have N46 : Same (Off s H4) (Off s H6) := same_off (e5.trans e56)
    have N36 := N34.trans N46
    refine ⟨_, rfl, _, rfl, _, rfl, s, c, ns, .ref p, ra, rvs, fs, n, cs, rs, rfl, h6, hn, pF.keep N36, pC.keep N36, ok, N46 _ _ hra, al.mono fun _ _ h => Tu.keep N46 h, h23, rl, fun rv H7 e7 h7 hrow => ?_⟩
    have N47 := N46.trans e7.off
    have N37 := N34.trans N47
    have la7 : H7 la = some (.lst (cs.map fun c => V.str c.nm)) := e7 _ _ la6 las
    have TN : TxL (cs.map fun c => V.str c.nm) := fun v hv => by
      obtain ⟨c, hc, rfl⟩ := List.mem_map.mp hv
      exact ⟨_, rfl, word_sz (ok.calls c hc).word⟩
    have lN : (cs.map fun c => V.str c.nm).length = cs.length := List.length_map ..
    have bz : ("build" : Str).length ≤ sizeLine := by decide
    generalize hNm : (cs.map fun c => V.str c.nm) = Nm at la7 TN lN
    refine ⟨fun σ' H' => ∃ (S : Addr) (vs : List V) (x4' x9' x10' x11' : Option V), σ' = [some (.ref a), some (.ref s), some (.int (0 + (i : Int))), some (.ref p), x4', some (.ref ra), some (.ref la), some rv, some (.ref S), x9', x10', x11'] ∧ H7 S = none ∧ StA H' s c ns ∧ Same (Off s H7) (Wt [s, S] H') ∧ H' S = some (.lst vs) ∧ vs.length ≤ 11 ∧ ∀ v ∈ vs, Shx K (Wt [s, S] H') v, ?_, ?_⟩
    · skip
      have g0 := h7
      have E0 : Same H7 H7 := Same.refl H7
      refine ⟨by show 0 ≤ sizeLine; decide, fun q1 hq1 => ?_⟩
      have nq1 : q1 ≠ s := (g0.ne hq1).1
      have fq1 := same_new (Same.refl H7) hq1 (o := .lst [])
      have uq1 : Shx K (Off s (upd H7 q1 (.lst []))) (.ref q1) := shx_lst ((off_ne nq1).trans upd_same) (by decide) nofun
      have g1 := g0.keep fq1
      have E1 := E0.trans fq1
      generalize upd H7 q1 (.lst []) = B1 at fq1 g1 E1 uq1 ⊢
      refine ⟨_, rfl, _, rfl, la, _, rfl, E1 _ _ la7, fun q3 hq3 => ?_⟩
      have nq3 : q3 ≠ s := (g1.ne hq3).1
      have fq3 := same_new (Same.refl B1) hq3 (o := .lst Nm.reverse)
      have uq1 := Shx.keep (same_off fq3) uq1
      have uq3 : Shx K (Off s (upd B1 q3 (.lst Nm.reverse))) (.ref q3) := shx_lst ((off_ne nq3).trans upd_same) (by rw [List.length_reverse, lN]; omega) TN.rev.sh
      have g2 := g1.keep fq3
      have E2 := E1.trans fq3
      generalize upd B1 q3 (.lst Nm.reverse) = B2 at fq3 g2 E2 uq1 uq3 ⊢
      refine ⟨by show 1 ≤ sizeLine; decide, fun q4 hq4 => ?_⟩
      have nq4 : q4 ≠ s := (g2.ne hq4).1
      have fq4 := same_new (Same.refl B2) hq4 (o := .lst [.str "build"])
      have uq1 := Shx.keep (same_off fq4) uq1
      have uq3 := Shx.keep (same_off fq4) uq3
      have uq4 : Shx K (Off s (upd B2 q4 (.lst [.str "build"]))) (.ref q4) := shx_lst ((off_ne nq4).trans upd_same) (by decide) (TxL.one bz).sh
      have g3 := g2.keep fq4
      have E3 := E2.trans fq4
      generalize upd B2 q4 (.lst [.str "build"]) = B3 at fq4 g3 E3 uq1 uq3 uq4 ⊢
      refine fun q8 hq8 => ?_
      have nq8 : q8 ≠ s := (g3.ne hq8).1
      have fq8 := same_new (Same.refl B3) hq8 (o := .dK [])
      have uq1 := Shx.keep (same_off fq8) uq1
      have uq3 := Shx.keep (same_off fq8) uq3
      have uq4 := Shx.keep (same_off fq8) uq4
      have uq8 : Shx K (Off s (upd B3 q8 (.dK []))) (.ref q8) := ⟨_, .dic ((off_ne nq8).trans upd_same)⟩
      have g4 := g3.keep fq8
      have E4 := E3.trans fq8
      generalize upd B3 q8 (.dK []) = B4 at fq8 g4 E4 uq1 uq3 uq4 uq8 ⊢
      refine ⟨by show 1 ≤ sizeLine; decide, fun q9 hq9 => ?_⟩
      have nq9 : q9 ≠ s := (g4.ne hq9).1
      have fq9 := same_new (Same.refl B4) hq9 (o := .lst [.non])
      have uq1 := Shx.keep (same_off fq9) uq1
      have uq3 := Shx.keep (same_off fq9) uq3
      have uq4 := Shx.keep (same_off fq9) uq4
      have uq8 := Shx.keep (same_off fq9) uq8
      have uq9 : Shx K (Off s (upd B4 q9 (.lst [.non]))) (.ref q9) := shx_lst ((off_ne nq9).trans upd_same) (by decide) fun v hv => by rw [List.mem_singleton.mp hv]; exact ⟨_, .non⟩
      have g5 := g4.keep fq9
      have E5 := E4.trans fq9
      generalize upd B4 q9 (.lst [.non]) = B5 at fq9 g5 E5 uq1 uq3 uq4 uq8 uq9 ⊢
      refine ⟨by show 1 ≤ sizeLine; decide, fun q10 hq10 => ?_⟩
      have nq10 : q10 ≠ s := (g5.ne hq10).1
      have fq10 := same_new (Same.refl B5) hq10 (o := .lst [.str "build"])
      have uq1 := Shx.keep (same_off fq10) uq1
      have uq3 := Shx.keep (same_off fq10) uq3
      have uq4 := Shx.keep (same_off fq10) uq4
      have uq8 := Shx.keep (same_off fq10) uq8
      have uq9 := Shx.keep (same_off fq10) uq9
      have uq10 : Shx K (Off s (upd B5 q10 (.lst [.str "build"]))) (.ref q10) := shx_lst ((off_ne nq10).trans upd_same) (by decide) (TxL.one bz).sh
      have g6 := g5.keep fq10
      have E6 := E5.trans fq10
      generalize upd B5 q10 (.lst [.str "build"]) = B6 at fq10 g6 E6 uq1 uq3 uq4 uq8 uq9 uq10 ⊢
      refine ⟨by show 1 ≤ sizeLine; decide, fun q11 hq11 => ?_⟩
      have nq11 : q11 ≠ s := (g6.ne hq11).1
      have fq11 := same_new (Same.refl B6) hq11 (o := .lst [.ref q10])
      have uq1 := Shx.keep (same_off fq11) uq1
      have uq3 := Shx.keep (same_off fq11) uq3
      have uq4 := Shx.keep (same_off fq11) uq4
      have uq8 := Shx.keep (same_off fq11) uq8
      have uq9 := Shx.keep (same_off fq11) uq9
      have uq10 := Shx.keep (same_off fq11) uq10
      have uq11 : Shx K (Off s (upd B6 q11 (.lst [.ref q10]))) (.ref q11) := shx_lst ((off_ne nq11).trans upd_same) (by show 1 < 1000; decide) fun v hv => by rw [List.mem_singleton.mp hv]; exact uq10
      have g7 := g6.keep fq11
      have E7 := E6.trans fq11
      generalize upd B6 q11 (.lst [.ref q10]) = B7 at fq11 g7 E7 uq1 uq3 uq4 uq8 uq9 uq10 uq11 ⊢
      refine ⟨_, rfl, _, rfl, la, la, Nm, Nm, rfl, rfl, E7 _ _ la7, E7 _ _ la7, by rw [sizeLine_eq]; omega, fun q12 hq12 => ?_⟩
      have nq12 : q12 ≠ s := (g7.ne hq12).1
      have fq12 := same_new (Same.refl B7) hq12 (o := .lst (Nm ++ Nm))
      have uq1 := Shx.keep (same_off fq12) uq1
      have uq3 := Shx.keep (same_off fq12) uq3
      have uq4 := Shx.keep (same_off fq12) uq4
      have uq8 := Shx.keep (same_off fq12) uq8
      have uq9 := Shx.keep (same_off fq12) uq9
      have uq10 := Shx.keep (same_off fq12) uq10
      have uq11 := Shx.keep (same_off fq12) uq11
      have uq12 : Shx K (Off s (upd B7 q12 (.lst (Nm ++ Nm)))) (.ref q12) := shx_lst ((off_ne nq12).trans upd_same) (by rw [List.length_append]; omega) (TN.app TN).sh
      have g8 := g7.keep fq12
      have E8 := E7.trans fq12
      generalize upd B7 q12 (.lst (Nm ++ Nm)) = B8 at fq12 g8 E8 uq1 uq3 uq4 uq8 uq9 uq10 uq11 uq12 ⊢
      have ula : Shx K (Off s B8) (.ref la) := shx_lst ((off_ne las).trans (E8 _ _ la7)) (by omega) TN.sh
      refine ⟨by show 11 ≤ sizeLine; decide, fun S hS => ?_⟩
      have hS7 : H7 S = none := none_of E8 hS
      have Ss := (g8.ne hS).1
      have W : Same (Off s B8) (Wt [s, S] (upd B8 S (.lst [.ref q1, .ref la, .ref q3, .ref q4, .non, .int 5, .str "build", .ref q8, .ref q9, .ref q11, .ref q12]))) := by
        rw [wt_upd (by simp)]
        intro b o h
        have n1 : b ≠ s := fun z => by rw [z, off_s] at h; cases h
        have h := off_same _ _ h
        have n2 : b ≠ S := fun z => by rw [z, hS] at h; cases h
        rw [wt_get (by simp [n1, n2])]
        exact h
      refine ⟨S, _, _, _, _, _, rfl, hS7, g8.keep (same_new (Same.refl B8) hS), (same_off E8).trans W, upd_same, by show 11 ≤ 11; decide, fun v hv => ?_⟩
      have Z : ∀ v ∈ [V.ref q1, .ref la, .ref q3, .ref q4, .non, .int 5, .str "build", .ref q8, .ref q9, .ref q11, .ref q12], Shx K (Off s B8) v := by
        intro v hv
        simp only [List.mem_cons, List.not_mem_nil, or_false] at hv
        rcases hv with rfl | rfl | rfl | rfl | rfl | rfl | rfl | rfl | rfl | rfl | rfl
        · exact uq1
        · exact ula
        · exact uq3
        · exact uq4
        · exact ⟨_, .non⟩
        · exact ⟨_, .int 5⟩
        · exact ⟨_, .str _ bz⟩
        · exact uq8
        · exact uq9
        · exact uq11
        · exact uq12
      exact (Z v hv).keep W
    rintro σ' H8 ⟨S, vs, x4', x9', x10', x11', rfl, S7, h8, W8, S8, lvs, Z8⟩
    have lA7 : Off s H7 la = some (.lst Nm) := (off_ne las).trans la7
    refine ⟨_, rfl, by decide, by decide, ?_⟩
    refine for_it walk_range (fun j σ H9 => StA H9 s c ns ∧ Same (Off s H7) (Wt [s, S] H9) ∧ ∃ (vs : List V) (x9 x10 : Option V), σ = [some (.ref a), some (.ref s), some (.int (0 + (i : Int))), some (.ref p), x4', some (.ref ra), some (.ref la), some rv, some (.ref S), x9, x10, x11'] ∧ H9 S = some (.lst vs) ∧ vs.length ≤ 11 + j ∧ ∀ v ∈ vs, Shx K (Wt [s, S] H9) v) ⟨h8, W8, vs, _, _, rfl, S8, lvs, Z8⟩ (fun _ _ _ _ _ => trivial) ?_ ?_
    · rintro j x σ H9' H9 hj ⟨h9, W9, vs, x9, x10, rfl, S9, lvs, Z9⟩ ⟨rfl, rfl⟩
      have hj3 : j < 3 := hj
      have la9 : H9 la = some (.lst Nm) := wt_same _ _ (W9 _ _ lA7)
      have nSs : S ≠ s := fun z => by
        rw [z] at S7
        obtain ⟨_, _, _, _, _, e⟩ := h7
        rw [S7] at e
        cases e
      refine ⟨_, rfl, .inl ⟨rfl, _, SqL.of S9⟩, ?_⟩
      refine ⟨_, rfl, s, c, ns, 4, rfl, h9, hn, by decide, by decide, fun d H10 hd e10 h10 => ?_⟩
      refine ⟨(d : Int), rfl, by omega, by omega, fun D hD => ?_⟩
      have nD := h10.ne hD
      have S10 := e10 _ _ S9 nSs
      have DS : D ≠ S := fun z => by rw [z, S10] at hD; cases hD
      refine lc_it walk_range (fun jj Hi => SameX s H10 Hi ∧ StA Hi s c ns ∧ ∃ acc, Hi D = some (.lst acc) ∧ TxL acc ∧ acc.length ≤ jj) ⟨same_sx (same_new (Same.refl H10) hD), h10.keep (same_new (Same.refl H10) hD), [], upd_same, nofun, Nat.le_refl _⟩ (fun _ _ _ _ => trivial) ?_ ?_
      · rintro jj x H11' H11 hjj ⟨e11, h11, acc, D11, ta, lac⟩ ⟨rfl, rfl⟩
        have hjd : jj < d := by simpa using hjj
        refine ⟨rfl, _, rfl, _, rfl, s, c, la, ns, Nm, rfl, h11, hn, las, .inl (SqL.of ((e10.trans e11) _ _ la9 las)), by omega, by omega, fun d2 v H12 hd2 e12 h12 => ?_⟩
        refine ⟨acc, e12 _ _ D11 nD.1, by show _ < 2 ^ 24; omega, ?_, h12.put nD.1 nD.2, acc ++ [v], upd_same, ta.app fun u hu => ?_, by rw [List.length_append]; exact Nat.succ_le_succ lac⟩
        · exact (e11.trans e12).putN hD
        · rw [List.mem_singleton.mp hu]
          exact TN v (List.mem_of_getElem? hd2)
      · rintro H11 ⟨e11, h11, acc, D11, ta, lac⟩
        have lac : acc.length ≤ d := by simpa using lac
        refine ⟨by show 1 ≤ sizeLine; decide, fun q hq => ?_⟩
        have e12 := same_new (Same.refl H11) hq (o := .lst [.str "build"])
        have h12 := h11.keep e12
        refine ⟨D, q, acc, _, rfl, rfl, e12 _ _ D11, upd_same, by rw [sizeLine_eq]; show acc.length + 1 ≤ _; omega, fun r hr => ?_⟩
        have e13 := same_new e12 hr (o := .lst (acc ++ [.str "build"]))
        have h13 := h11.keep e13
        have nr := h12.ne hr
        have e9 : SameX s H9 (upd (upd H11 q (.lst [.str "build"])) r (.lst (acc ++ [.str "build"]))) := (e10.trans e11).trans (same_sx e13)
        have S13 := e9 _ _ S9 nSs
        have rS : r ≠ S := fun z => by
          have := ((e10.trans e11).trans (same_sx e12)) _ _ S9 nSs
          rw [z, this] at hr
          cases hr
        have r13 : Wt [s, S] (upd (upd H11 q (.lst [.str "build"])) r (.lst (acc ++ [.str "build"]))) r = some (.lst (acc ++ [.str "build"])) := (wt_get (by simp [nr.1, rS])).trans upd_same
        generalize upd (upd H11 q (.lst [.str "build"])) r (.lst (acc ++ [.str "build"])) = H13 at e13 h13 e9 S13 r13
        refine ⟨S, vs, _, rfl, rfl, S13, by show _ < 2 ^ 24; omega, ?_⟩
        have w13 : Same (Wt [s, S] H9) (Wt [s, S] (upd H13 S (.lst (vs ++ [.ref r])))) := by
          rw [wt_upd (by simp)]
          exact sx_wt e9
        have r14 : Wt [s, S] (upd H13 S (.lst (vs ++ [.ref r]))) r = some (.lst (acc ++ [.str "build"])) := by
          rw [wt_upd (by simp)]
          exact r13
        have Sc : S ≠ c := fun z => by
          obtain ⟨_, e, _⟩ := h7
          rw [← z, S7] at e
          cases e
        refine ⟨h13.put nSs Sc, W9.trans w13, vs ++ [.ref r], _, _, rfl, upd_same, by rw [List.length_append]; exact Nat.succ_le_succ lvs, fun v hv => ?_⟩
        rcases List.mem_append.mp hv with hv | hv
        · exact (Z9 v hv).keep w13
        · rw [List.mem_singleton.mp hv]
          exact shx_lst r14 (by rw [List.length_append]; show acc.length + 1 < 1000; omega) (ta.app (TxL.one bz)).sh
    rintro σ H9 ⟨h9, W9, vs, x9, x10, rfl, S9, lvs, Z9⟩
    refine ⟨fun σ' H' => ∃ (L8 : Addr) (vs : List V) (x9 x10 x11 : Option V), σ' = [some (.ref a), some (.ref s), some (.int (0 + (i : Int))), some (.ref p), x4', some (.ref ra), some (.ref la), some rv, some (.ref L8), x9, x10, x11] ∧ StA H' s c ns ∧ Same (Off s H7) (Wt [s, S] H') ∧ H' L8 = some (.lst vs) ∧ vs.length ≤ 30 ∧ ∀ v ∈ vs, Shx K (Wt [s, S] H') v, ?_, ?_⟩
    · refine ⟨_, rfl, rfl, _, rfl, ite2 (fun g => ?_) (fun g => ?_)⟩
      · rcases hrow with rfl | ⟨l, zs, rfl, l6, nls, l7, lz12, lz0, mz, fz⟩
        · cases g
        have TZ : TxL (zs.map V.str) := fun v hv => by
          obtain ⟨z, hz, rfl⟩ := List.mem_map.mp hv
          obtain ⟨c, hc, rfl⟩ := List.mem_map.mp (mz z hz)
          exact ⟨_, rfl, word_sz (ok.calls c hc).word⟩
        have lZs : (zs.map V.str).length = zs.length := List.length_map ..
        have sZ : ∀ {H : Hp}, H l = some (.lst (zs.map V.str)) → Sh K H (.ref l) (.lst (zs.map Dt.str)) := fun h => .lst h (by omega) (by rw [lZs, List.length_map]) fun i x y h1 h2 => by
          rw [List.getElem?_map] at h1 h2
          obtain ⟨z, hz, rfl⟩ := Option.map_eq_some_iff.mp h1
          rw [hz] at h2
          cases h2
          obtain ⟨z', e, l⟩ := TZ _ (List.mem_map_of_mem (List.mem_of_getElem? hz))
          cases e
          exact .str _ l
        have l70 : Off s H7 l = some (.lst (zs.map V.str)) := (off_ne nls).trans l7
        generalize hZs : zs.map V.str = Zs at l70 TZ lZs sZ
        have l9 : H9 l = some (.lst Zs) := wt_same _ _ (W9 _ _ l70)
        have nSs : S ≠ s := fun z => by
          rw [z] at S7
          obtain ⟨_, _, _, _, _, e⟩ := h7
          rw [S7] at e
          cases e
        refine ⟨_, rfl, _, rfl, l, _, rfl, .inl (SqL.of l9), s, c, ns, _, rfl, h9, hn, by omega, by omega, fun d H10 hd e10 h10 => ?_⟩
        have W0 := W9.trans (sx_wt e10)
        have ol0 : H10 l = some (.lst Zs) := wt_same _ _ (W0 _ _ l70)
        have oa0 : H10 la = some (.lst Nm) := wt_same _ _ (W0 _ _ lA7)
        have S0 := e10 _ _ S9 nSs
        have g0 := h10
        have Z0 : ∀ v ∈ vs, Shx K (Wt [s, S] H10) v := fun v hv => (Z9 v hv).keep (sx_wt e10)
        have E0 : Same H10 H10 := Same.refl H10
        have lcut : ∀ a b, (cutV Zs a b).length ≤ 12 := fun a b => by
          have := cutV_length Zs a b
          omega
        have lN6 : Nm.length ≤ 6 := by omega
        have x0 : Nm[0]? = some (Nm[0]'(by omega)) := List.getElem?_eq_getElem _
        generalize Nm[0]'(by omega) = nm0 at x0
        have T0 : TxL [nm0] := fun v hv => by
          rw [List.mem_singleton.mp hv]
          exact TN _ (List.mem_of_getElem? x0)
        refine ⟨_, rfl, _, rfl, _, rfl, _, rfl, _, rfl, l, Zs, rfl, SqL.of ol0, fun p2 hp2 => ?_⟩
        have fp2 := same_new (Same.refl H10) hp2 (o := .lst (cutV Zs none (some (-1))))
        have op2 : upd H10 p2 (.lst (cutV Zs none (some (-1)))) p2 = some (.lst (cutV Zs none (some (-1)))) := upd_same
        have np2 : p2 ≠ s ∧ p2 ≠ S := ⟨(g0.ne hp2).1, fun z => by rw [z, S0] at hp2; cases hp2⟩
        have tp2 : TxL (cutV Zs none (some (-1))) := TZ.cut _ _
        have ol1 := fp2 _ _ ol0
        have oa1 := fp2 _ _ oa0
        have g1 := g0.keep fp2
        have E1 := E0.trans fp2
        have S1 := fp2 _ _ S0
        generalize upd H10 p2 (.lst (cutV Zs none (some (-1)))) = B1 at fp2 ol1 oa1 g1 E1 S1 op2 ⊢
        refine ⟨_, rfl, by show 1 ≤ sizeLine; decide, fun p3 hp3 => ?_⟩
        have fp3 := same_new (Same.refl B1) hp3 (o := .lst ([.str "build"]))
        have op2 := fp3 _ _ op2
        have op3 : upd B1 p3 (.lst ([.str "build"])) p3 = some (.lst ([.str "build"])) := upd_same
        have np3 : p3 ≠ s ∧ p3 ≠ S := ⟨(g1.ne hp3).1, fun z => by rw [z, S1] at hp3; cases hp3⟩
        have tp3 : TxL ([.str "build"]) := TxL.one bz
        have ol2 := fp3 _ _ ol1
        have oa2 := fp3 _ _ oa1
        have g2 := g1.keep fp3
        have E2 := E1.trans fp3
        have S2 := fp3 _ _ S1
        generalize upd B1 p3 (.lst ([.str "build"])) = B2 at fp3 ol2 oa2 g2 E2 S2 op2 op3 ⊢
        refine ⟨l, p3, Zs, _, rfl, rfl, ol2, op3, by rw [sizeLine_eq]; show Zs.length + 1 ≤ _; omega, fun p4 hp4 => ?_⟩
        have fp4 := same_new (Same.refl B2) hp4 (o := .lst (Zs ++ [.str "build"]))
        have op2 := fp4 _ _ op2
        have op3 := fp4 _ _ op3
        have op4 : upd B2 p4 (.lst (Zs ++ [.str "build"])) p4 = some (.lst (Zs ++ [.str "build"])) := upd_same
        have np4 : p4 ≠ s ∧ p4 ≠ S := ⟨(g2.ne hp4).1, fun z => by rw [z, S2] at hp4; cases hp4⟩
        have tp4 : TxL (Zs ++ [.str "build"]) := TZ.app tp3
        have ol3 := fp4 _ _ ol2
        have oa3 := fp4 _ _ oa2
        have g3 := g2.keep fp4
        have E3 := E2.trans fp4
        have S3 := fp4 _ _ S2
        generalize upd B2 p4 (.lst (Zs ++ [.str "build"])) = B3 at fp4 ol3 oa3 g3 E3 S3 op2 op3 op4 ⊢
        refine ⟨_, rfl, _, rfl, _, rfl, l, Zs, rfl, SqL.of ol3, fun p5 hp5 => ?_⟩
        have fp5 := same_new (Same.refl B3) hp5 (o := .lst (cutV Zs none (some (d : Nat))))
        have op2 := fp5 _ _ op2
        have op3 := fp5 _ _ op3
        have op4 := fp5 _ _ op4
        have op5 : upd B3 p5 (.lst (cutV Zs none (some (d : Nat)))) p5 = some (.lst (cutV Zs none (some (d : Nat)))) := upd_same
        have np5 : p5 ≠ s ∧ p5 ≠ S := ⟨(g3.ne hp5).1, fun z => by rw [z, S3] at hp5; cases hp5⟩
        have tp5 : TxL (cutV Zs none (some (d : Nat))) := TZ.cut _ _
        have ol4 := fp5 _ _ ol3
        have oa4 := fp5 _ _ oa3
        have g4 := g3.keep fp5
        have E4 := E3.trans fp5
        have S4 := fp5 _ _ S3
        generalize upd B3 p5 (.lst (cutV Zs none (some (d : Nat)))) = B4 at fp5 ol4 oa4 g4 E4 S4 op2 op3 op4 op5 ⊢
        refine ⟨_, rfl, _, rfl, _, _, rfl, rfl, _, rfl, l, Zs, rfl, SqL.of ol4, fun p6 hp6 => ?_⟩
        have fp6 := same_new (Same.refl B4) hp6 (o := .lst (cutV Zs (some ((d : Nat) + 1)) none))
        have op2 := fp6 _ _ op2
        have op3 := fp6 _ _ op3
        have op4 := fp6 _ _ op4
        have op5 := fp6 _ _ op5
        have op6 : upd B4 p6 (.lst (cutV Zs (some ((d : Nat) + 1)) none)) p6 = some (.lst (cutV Zs (some ((d : Nat) + 1)) none)) := upd_same
        have np6 : p6 ≠ s ∧ p6 ≠ S := ⟨(g4.ne hp6).1, fun z => by rw [z, S4] at hp6; cases hp6⟩
        have tp6 : TxL (cutV Zs (some ((d : Nat) + 1)) none) := TZ.cut _ _
        have ol5 := fp6 _ _ ol4
        have oa5 := fp6 _ _ oa4
        have g5 := g4.keep fp6
        have E5 := E4.trans fp6
        have S5 := fp6 _ _ S4
        generalize upd B4 p6 (.lst (cutV Zs (some ((d : Nat) + 1)) none)) = B5 at fp6 ol5 oa5 g5 E5 S5 op2 op3 op4 op5 op6 ⊢
        refine ⟨p5, p6, _, _, rfl, rfl, op5, op6, by have h1 := lcut none (some (d : Nat)); have h2 := lcut (some ((d : Nat) + 1)) none; rw [sizeLine_eq]; omega, fun p7 hp7 => ?_⟩
        have fp7 := same_new (Same.refl B5) hp7 (o := .lst (cutV Zs none (some (d : Nat)) ++ cutV Zs (some ((d : Nat) + 1)) none))
        have op2 := fp7 _ _ op2
        have op3 := fp7 _ _ op3
        have op4 := fp7 _ _ op4
        have op5 := fp7 _ _ op5
        have op6 := fp7 _ _ op6
        have op7 : upd B5 p7 (.lst (cutV Zs none (some (d : Nat)) ++ cutV Zs (some ((d : Nat) + 1)) none)) p7 = some (.lst (cutV Zs none (some (d : Nat)) ++ cutV Zs (some ((d : Nat) + 1)) none)) := upd_same
        have np7 : p7 ≠ s ∧ p7 ≠ S := ⟨(g5.ne hp7).1, fun z => by rw [z, S5] at hp7; cases hp7⟩
        have tp7 : TxL (cutV Zs none (some (d : Nat)) ++ cutV Zs (some ((d : Nat) + 1)) none) := tp5.app tp6
        have ol6 := fp7 _ _ ol5
        have oa6 := fp7 _ _ oa5
        have g6 := g5.keep fp7
        have E6 := E5.trans fp7
        have S6 := fp7 _ _ S5
        generalize upd B5 p7 (.lst (cutV Zs none (some (d : Nat)) ++ cutV Zs (some ((d : Nat) + 1)) none)) = B6 at fp7 ol6 oa6 g6 E6 S6 op2 op3 op4 op5 op6 op7 ⊢
        refine ⟨_, rfl, _, rfl, _, rfl, l, Zs, rfl, SqL.of ol6, fun p8 hp8 => ?_⟩
        have fp8 := same_new (Same.refl B6) hp8 (o := .lst (cutV Zs none (some (d : Nat))))
        have op2 := fp8 _ _ op2
        have op3 := fp8 _ _ op3
        have op4 := fp8 _ _ op4
        have op5 := fp8 _ _ op5
        have op6 := fp8 _ _ op6
        have op7 := fp8 _ _ op7
        have op8 : upd B6 p8 (.lst (cutV Zs none (some (d : Nat)))) p8 = some (.lst (cutV Zs none (some (d : Nat)))) := upd_same
        have np8 : p8 ≠ s ∧ p8 ≠ S := ⟨(g6.ne hp8).1, fun z => by rw [z, S6] at hp8; cases hp8⟩
        have tp8 : TxL (cutV Zs none (some (d : Nat))) := TZ.cut _ _
        have ol7 := fp8 _ _ ol6
        have oa7 := fp8 _ _ oa6
        have g7 := g6.keep fp8
        have E7 := E6.trans fp8
        have S7 := fp8 _ _ S6
        generalize upd B6 p8 (.lst (cutV Zs none (some (d : Nat)))) = B7 at fp8 ol7 oa7 g7 E7 S7 op2 op3 op4 op5 op6 op7 op8 ⊢
        refine ⟨_, rfl, la, Nm, 0, nm0, rfl, rfl, SqL.of oa7, atI_nat x0, by show 1 ≤ sizeLine; decide, fun p9 hp9 => ?_⟩
        have fp9 := same_new (Same.refl B7) hp9 (o := .lst ([nm0]))
        have op2 := fp9 _ _ op2
        have op3 := fp9 _ _ op3
        have op4 := fp9 _ _ op4
        have op5 := fp9 _ _ op5
        have op6 := fp9 _ _ op6
        have op7 := fp9 _ _ op7
        have op8 := fp9 _ _ op8
        have op9 : upd B7 p9 (.lst ([nm0])) p9 = some (.lst ([nm0])) := upd_same
        have np9 : p9 ≠ s ∧ p9 ≠ S := ⟨(g7.ne hp9).1, fun z => by rw [z, S7] at hp9; cases hp9⟩
        have tp9 : TxL ([nm0]) := T0
        have ol8 := fp9 _ _ ol7
        have oa8 := fp9 _ _ oa7
        have g8 := g7.keep fp9
        have E8 := E7.trans fp9
        have S8 := fp9 _ _ S7
        generalize upd B7 p9 (.lst ([nm0])) = B8 at fp9 ol8 oa8 g8 E8 S8 op2 op3 op4 op5 op6 op7 op8 op9 ⊢
        refine ⟨p8, p9, _, _, rfl, rfl, op8, op9, by have h1 := lcut none (some (d : Nat)); rw [sizeLine_eq]; show _ + 1 ≤ _; omega, fun p10 hp10 => ?_⟩
        have fp10 := same_new (Same.refl B8) hp10 (o := .lst (cutV Zs none (some (d : Nat)) ++ [nm0]))
        have op2 := fp10 _ _ op2
        have op3 := fp10 _ _ op3
        have op4 := fp10 _ _ op4
        have op5 := fp10 _ _ op5
        have op6 := fp10 _ _ op6
        have op7 := fp10 _ _ op7
        have op8 := fp10 _ _ op8
        have op9 := fp10 _ _ op9
        have op10 : upd B8 p10 (.lst (cutV Zs none (some (d : Nat)) ++ [nm0])) p10 = some (.lst (cutV Zs none (some (d : Nat)) ++ [nm0])) := upd_same
        have np10 : p10 ≠ s ∧ p10 ≠ S := ⟨(g8.ne hp10).1, fun z => by rw [z, S8] at hp10; cases hp10⟩
        have tp10 : TxL (cutV Zs none (some (d : Nat)) ++ [nm0]) := tp8.app tp9
        have ol9 := fp10 _ _ ol8
        have oa9 := fp10 _ _ oa8
        have g9 := g8.keep fp10
        have E9 := E8.trans fp10
        have S9 := fp10 _ _ S8
        generalize upd B8 p10 (.lst (cutV Zs none (some (d : Nat)) ++ [nm0])) = B9 at fp10 ol9 oa9 g9 E9 S9 op2 op3 op4 op5 op6 op7 op8 op9 op10 ⊢
        refine ⟨_, rfl, _, rfl, _, rfl, l, Zs, rfl, SqL.of ol9, fun p11 hp11 => ?_⟩
        have fp11 := same_new (Same.refl B9) hp11 (o := .lst (cutV Zs (some (d : Nat)) none))
        have op2 := fp11 _ _ op2
        have op3 := fp11 _ _ op3
        have op4 := fp11 _ _ op4
        have op5 := fp11 _ _ op5
        have op6 := fp11 _ _ op6
        have op7 := fp11 _ _ op7
        have op8 := fp11 _ _ op8
        have op9 := fp11 _ _ op9
        have op10 := fp11 _ _ op10
        have op11 : upd B9 p11 (.lst (cutV Zs (some (d : Nat)) none)) p11 = some (.lst (cutV Zs (some (d : Nat)) none)) := upd_same
        have np11 : p11 ≠ s ∧ p11 ≠ S := ⟨(g9.ne hp11).1, fun z => by rw [z, S9] at hp11; cases hp11⟩
        have tp11 : TxL (cutV Zs (some (d : Nat)) none) := TZ.cut _ _
        have ol10 := fp11 _ _ ol9
        have oa10 := fp11 _ _ oa9
        have g10 := g9.keep fp11
        have E10 := E9.trans fp11
        have S10 := fp11 _ _ S9
        generalize upd B9 p11 (.lst (cutV Zs (some (d : Nat)) none)) = B10 at fp11 ol10 oa10 g10 E10 S10 op2 op3 op4 op5 op6 op7 op8 op9 op10 op11 ⊢
        refine ⟨p10, p11, _, _, rfl, rfl, op10, op11, by have h1 := lcut none (some (d : Nat)); have h2 := lcut (some (d : Nat)) none; rw [sizeLine_eq, List.length_append]; show _ + 1 + _ ≤ _; omega, fun p12 hp12 => ?_⟩
        have fp12 := same_new (Same.refl B10) hp12 (o := .lst ((cutV Zs none (some (d : Nat)) ++ [nm0]) ++ cutV Zs (some (d : Nat)) none))
        have op2 := fp12 _ _ op2
        have op3 := fp12 _ _ op3
        have op4 := fp12 _ _ op4
        have op5 := fp12 _ _ op5
        have op6 := fp12 _ _ op6
        have op7 := fp12 _ _ op7
        have op8 := fp12 _ _ op8
        have op9 := fp12 _ _ op9
        have op10 := fp12 _ _ op10
        have op11 := fp12 _ _ op11
        have op12 : upd B10 p12 (.lst ((cutV Zs none (some (d : Nat)) ++ [nm0]) ++ cutV Zs (some (d : Nat)) none)) p12 = some (.lst ((cutV Zs none (some (d : Nat)) ++ [nm0]) ++ cutV Zs (some (d : Nat)) none)) := upd_same
        have np12 : p12 ≠ s ∧ p12 ≠ S := ⟨(g10.ne hp12).1, fun z => by rw [z, S10] at hp12; cases hp12⟩
        have tp12 : TxL ((cutV Zs none (some (d : Nat)) ++ [nm0]) ++ cutV Zs (some (d : Nat)) none) := tp10.app tp11
        have ol11 := fp12 _ _ ol10
        have oa11 := fp12 _ _ oa10
        have g11 := g10.keep fp12
        have E11 := E10.trans fp12
        have S11 := fp12 _ _ S10
        generalize upd B10 p12 (.lst ((cutV Zs none (some (d : Nat)) ++ [nm0]) ++ cutV Zs (some (d : Nat)) none)) = B11 at fp12 ol11 oa11 g11 E11 S11 op2 op3 op4 op5 op6 op7 op8 op9 op10 op11 op12 ⊢
        refine ⟨by show 5 ≤ sizeLine; decide, fun q5 hq5 => ?_⟩
        have fq5 := same_new (Same.refl B11) hq5 (o := .lst [.ref l, .ref p2, .ref p4, .ref p7, .ref p12])
        have g12 := g11.keep fq5
        refine ⟨S, q5, vs, _, rfl, rfl, fq5 _ _ S11, upd_same, by rw [sizeLine_eq]; show vs.length + 5 ≤ _; omega, fun L8 hL8 => ?_⟩
        have f8 := same_new fq5 hL8 (o := .lst (vs ++ [.ref l, .ref p2, .ref p4, .ref p7, .ref p12]))
        have E13 := E11.trans f8
        have g13 := g11.keep f8
        have W13 := W0.trans (wt_keep E13)
        have L8_ : upd (upd B11 q5 (.lst [.ref l, .ref p2, .ref p4, .ref p7, .ref p12])) L8 (.lst (vs ++ [.ref l, .ref p2, .ref p4, .ref p7, .ref p12])) L8 = some (.lst (vs ++ [.ref l, .ref p2, .ref p4, .ref p7, .ref p12])) := upd_same
        have Z11 : ∀ v ∈ vs ++ [.ref l, .ref p2, .ref p4, .ref p7, .ref p12], Shx K (Wt [s, S] B11) v := fun v hv => by
          have E := W0.trans (wt_keep E11)
          have at_ : ∀ {q : Addr} {xs : List V}, q ≠ s ∧ q ≠ S → B11 q = some (.lst xs) → Wt [s, S] B11 q = some (.lst xs) := fun {q xs} n h => (wt_get (by simp [n.1, n.2])).trans h
          rcases List.mem_append.mp hv with hv | hv
          · exact (Z0 v hv).keep (wt_keep E11)
          · simp only [List.mem_cons, List.not_mem_nil, or_false] at hv
            rcases hv with rfl | rfl | rfl | rfl | rfl
            · exact ⟨_, sZ (E _ _ l70)⟩
            · exact shx_lst (at_ np2 op2) (Nat.lt_of_le_of_lt (lcut _ _) (by decide)) tp2.sh
            · exact shx_lst (at_ np4 op4) (by rw [List.length_append]; show Zs.length + 1 < _; omega) tp4.sh
            · exact shx_lst (at_ np7 op7) (by have h1 := lcut none (some (d : Nat)); have h2 := lcut (some ((d : Nat) + 1)) none; rw [List.length_append]; omega) tp7.sh
            · exact shx_lst (at_ np12 op12) (by have h1 := lcut none (some (d : Nat)); have h2 := lcut (some (d : Nat)) none; rw [List.length_append, List.length_append]; show _ + 1 + _ < _; omega) tp12.sh
        have Z13 : ∀ v ∈ vs ++ [.ref l, .ref p2, .ref p4, .ref p7, .ref p12], Shx K (Wt [s, S] (upd (upd B11 q5 (.lst [.ref l, .ref p2, .ref p4, .ref p7, .ref p12])) L8 (.lst (vs ++ [.ref l, .ref p2, .ref p4, .ref p7, .ref p12])))) v := fun v hv => (Z11 v hv).keep (wt_keep f8)
        generalize upd (upd B11 q5 (.lst [.ref l, .ref p2, .ref p4, .ref p7, .ref p12])) L8 (.lst (vs ++ [.ref l, .ref p2, .ref p4, .ref p7, .ref p12])) = H13 at f8 E13 g13 W13 L8_ Z13 ⊢
        have X13 : Same (Off s H7) H13 := W13.trans wt_same
        refine ⟨_, rfl, p, kv, rfl, dg (N37.trans X13), _, rfl, _, rfl, kv, .ref ra, .ref l, fs, n, cs, .lst ds, .lst (zs.map Dt.str), ds, rfl, kd.keep (N37.trans X13), od, sR.keep (N47.trans X13), rfl, by omega, good, sZ (X13 _ _ l70), fun H14 e14 => ?_⟩
        have gd : goodB ⟨fs, n, cs, ds.map ruOf⟩ (.lst (zs.map Dt.str)) = true := by
          rw [← law_good (D := ⟨fs, n, cs, ds.map ruOf⟩) hdr h23 hna ok]
          exact decide_eq_true fz
        rw [gd]
        refine ⟨_, rfl, ite2 (fun g => by cases g) (fun _ => ?_)⟩
        exact ⟨L8, _, _, _, _, rfl, g13.keep e14, W13.trans (wt_keep e14), e14 _ _ L8_, by rw [List.length_append]; show vs.length + 5 ≤ 30; omega, fun v hv => (Z13 v hv).keep (wt_keep e14)⟩
      · exact ⟨S, vs, _, _, _, rfl, h9, W9, S9, by omega, Z9⟩
    rintro σ' H10 ⟨L8, vs, x9, x10, x11, rfl, h10, W10, L8_, lvs, Z10⟩
    refine ⟨_, rfl, L8, rfl, ⟨vs, SqL.of L8_⟩, ?_⟩
    refine for_it (walk_list (K := K) (a := L8) (xs := vs)) (fun j σ H' => Same H10 H' ∧ ∃ x4', σ = [some (.ref a), some (.ref s), some (.int (0 + (i : Int))), some (.ref p), x4', some (.ref ra), some (.ref la), some rv, some (.ref L8), x9, x10, x11]) ⟨Same.refl H10, _, rfl⟩ (fun j σ H' _ h => .inl (.inl (h.1 _ _ L8_))) ?_ ?_
    · rintro j v σ H11 H12 hj ⟨e11, x4', rfl⟩ ⟨rfl, hv⟩
      obtain ⟨N0, sv⟩ := Z10 v (List.mem_of_getElem? hv)
      have X12 : Same (Off s H7) H12 := (W10.trans wt_same).trans e11
      have sv12 := (sv.keep wt_same).keep e11
      refine ⟨_, rfl, p, kv, rfl, dg (N37.trans X12), _, rfl, _, rfl, kv, .ref ra, v, fs, n, cs, .lst ds, N0, ds, rfl, kd.keep (N37.trans X12), od, sR.keep (N47.trans X12), rfl, by omega, good, sv12, fun H13 e13 => ?_⟩
      have X13 := X12.trans e13
      refine ⟨_, rfl, _, rfl, _, rfl, .ref p, v, ra, rvs, fs, n, cs, rs, N0, rfl, pF.keep (N37.trans X13), pC.keep (N37.trans X13), ok, (N47.trans X13) _ _ hra, al.mono fun _ _ h => Tu.keep (N47.trans X13) h, h23, rl, sv12.keep e13, fun H14 e14 => ?_⟩
      rw [show lawGood fs rs cs N0 = goodB ⟨fs, n, cs, ds.map ruOf⟩ N0 from law_good (D := ⟨fs, n, cs, ds.map ruOf⟩) hdr h23 hna ok N0]
      refine ⟨_, _, rfl, .inl ?_, fun H15 e15 => ?_⟩
      · exact .inl ⟨rfl, .inr (.inl ⟨_, rfl⟩)⟩
      · exact ⟨_, rfl, ite2 (fun g => by cases g) (fun _ => ⟨e11.trans (e13.trans (e14.trans e15)), _, rfl⟩)⟩
    · rintro σ H11 ⟨e11, x4', rfl⟩
      exact ⟨h10.keep e11, _, _, _, _, _, _, _, _, _, _, rfl⟩
  · rintro σ H2 ⟨h2, _⟩
    exact k _
end
end MK
set_option Elab.async false
set_option linter.all false
set_option autoImplicit false
set_option maxRecDepth 100000
set_option maxHeartbeats 4000000
namespace MK
open PySem PySem.Spec PyProof.Rows L2 TL ClX
local macro_rules | `(tactic| walk_at "x") => `(tactic| dsimp only [tSeq, tAsg, tRet, tDrop, tLst, tTup, tCons, tOp, tUn, tIfS])
theorem sod_all {K : PySem.W.Frag} {w : World} {a : Addr} (h : He.dicW K a = some (He.keysIn w.params ["set", "add", "strike", "fresh", "clear"])) (h1 : ∃ b, PySem.W.nsIn K a "set" = some (some (.ref b)) ∧ ∀ H, SqT K H b ((["one"] : List Str).map V.str)) (h2 : ∃ b, PySem.W.nsIn K a "add" = some (some (.ref b)) ∧ ∀ H, SqT K H b ((["many"] : List Str).map V.str))
    (h3 : ∃ b, PySem.W.nsIn K a "strike" = some (some (.ref b)) ∧ ∀ H, SqT K H b ((["many"] : List Str).map V.str)) (h4 : ∃ b, PySem.W.nsIn K a "fresh" = some (some (.ref b)) ∧ ∀ H, SqT K H b ((["many"] : List Str).map V.str)) (h5 : ∃ b, PySem.W.nsIn K a "clear" = some (some (.ref b)) ∧ ∀ H, SqT K H b ((["one", "many"] : List Str).map V.str)) :
    ∀ z : Str, (PySem.W.nsIn K a z = some none ∧ sodOf z = none) ∨ ∃ b l, PySem.W.nsIn K a z = some (some (.ref b)) ∧ sodOf z = some l ∧ ∀ H, SqT K H b (l.map V.str) := fun z => by
  by_cases e1 : z = ("set" : Str)
  · obtain ⟨b, x, y⟩ := h1
    exact .inr ⟨b, _, e1 ▸ x, by rw [e1]; decide +kernel, y⟩
  by_cases e2 : z = ("add" : Str)
  · obtain ⟨b, x, y⟩ := h2
    exact .inr ⟨b, _, e2 ▸ x, by rw [e2]; decide +kernel, y⟩
  by_cases e3 : z = ("strike" : Str)
  · obtain ⟨b, x, y⟩ := h3
    exact .inr ⟨b, _, e3 ▸ x, by rw [e3]; decide +kernel, y⟩
  by_cases e4 : z = ("fresh" : Str)
  · obtain ⟨b, x, y⟩ := h4
    exact .inr ⟨b, _, e4 ▸ x, by rw [e4]; decide +kernel, y⟩
  by_cases e5 : z = ("clear" : Str)
  · obtain ⟨b, x, y⟩ := h5
    exact .inr ⟨b, _, e5 ▸ x, by rw [e5]; decide +kernel, y⟩
  refine .inl ⟨ns_none h fun m => ?_, ?_⟩
  · simp only [List.mem_cons, List.not_mem_nil, or_false] at m
    rcases m with m | m | m | m | m
    · exact e1 m
    · exact e2 m
    · exact e3 m
    · exact e4 m
    · exact e5 m
  · unfold sodOf
    rw [if_neg e1, if_neg e2, if_neg e3, if_neg e4, if_neg e5]
theorem all_mk {l : PySem.W.OpenLaw} {w : World} {K : PySem.W.Frag} {h : Heap} {mg : Str → Option Value} {fa : Addr} (X : K.In h) (G : h.Ns mainGlobals mg) (hfa : mg "law" = some (.ref fa))
    {f_fresh : Addr} {fd_fresh : FuncData}
    {f_fill : Addr} {fd_fill : FuncData}
    {f_take : Addr} {fd_take : FuncData}
    {f_one : Addr} {fd_one : FuncData}
    {f_mix : Addr} {fd_mix : FuncData}
    {f_same : Addr} {fd_same : FuncData}
    {f_plan : Addr} {fd_plan : FuncData}
    {f_row_of : Addr} {fd_row_of : FuncData}
    {f_deeds : Addr} {fd_deeds : FuncData}
    {f_call : Addr} {fd_call : FuncData}
    {f_kind : Addr} {fd_kind : FuncData}
    {f_alone : Addr} {fd_alone : FuncData}
    {f_rules : Addr} {fd_rules : FuncData}
    {f_good_start : Addr} {fd_good_start : FuncData}
    {f_good_step : Addr} {fd_good_step : FuncData}
    {f_good_states : Addr} {fd_good_states : FuncData}
    {f_l_is_good : Addr} {fd_l_is_good : FuncData}
    {f_led_row : Addr} {fd_led_row : FuncData}
    {f_is_word : Addr} {fd_is_word : FuncData}
    {f_is_integer : Addr} {fd_is_integer : FuncData}
    {f_is_list : Addr} {fd_is_list : FuncData}
    {f_is_modes : Addr} {fd_is_modes : FuncData}
    {f_is_field : Addr} {fd_is_field : FuncData}
    {f_kept_fields : Addr} {fd_kept_fields : FuncData}
    {f_is_many : Addr} {fd_is_many : FuncData}
    {f_is_deed : Addr} {fd_is_deed : FuncData}
    {f_are_moves : Addr} {fd_are_moves : FuncData}
    {f_has_call_form : Addr} {fd_has_call_form : FuncData}
    {f_are_deeds : Addr} {fd_are_deeds : FuncData}
    {f_is_same : Addr} {fd_is_same : FuncData}
    {f_kept_call : Addr} {fd_kept_call : FuncData}
    {f_wrong_part : Addr} {fd_wrong_part : FuncData}
    {f_kept_calls : Addr} {fd_kept_calls : FuncData}
    {f_mark_of : Addr} {fd_mark_of : FuncData}
    {f_marks_of : Addr} {fd_marks_of : FuncData}
    {f_marked : Addr} {fd_marked : FuncData}
    {f_is_rule : Addr} {fd_is_rule : FuncData}
    {f_is_good : Addr} {fd_is_good : FuncData}
    {f_law : Addr} {fd_law : FuncData}
    {C_Kind : Addr}
    {C_Orders : Addr}
    {f_kinit : Addr} {fd_kinit : FuncData}
    {f_khas : Addr} {fd_khas : FuncData}
    {f_kiter : Addr} {fd_kiter : FuncData}
    {f_oinit : Addr} {fd_oinit : FuncData}
    {f_o_start : Addr} {fd_o_start : FuncData}
    {f_o_place_behind : Addr} {fd_o_place_behind : FuncData}
    {f_o_contents_behind : Addr} {fd_o_contents_behind : FuncData}
    {f_o_keeps_rules : Addr} {fd_o_keeps_rules : FuncData}
    {tk_MOST_LETTERS : Tok}
    {tk_MOST_FIELDS : Tok}
    {tk_MOST_MODES : Tok}
    {tk_MOST_CALLS : Tok}
    {tk_MOST_DEEDS : Tok}
    {tk_DONE : Tok}
    {tk_THE_WORD : Tok}
    {A_sorts : Addr}
    {A_hands : Addr}
    {A_lwd : Addr}
    {A_sod : Addr}
    {A_sod_set : Addr}
    {A_sod_add : Addr}
    {A_sod_strike : Addr}
    {A_sod_fresh : Addr}
    {A_sod_clear : Addr}
    (a_fresh : PySem.W.nsIn K mainGlobals "_law_fresh" = some (some (.ref f_fresh)))
    (D_fresh : FunD K "_law_fresh" "_law_fresh" (defArgs s_fresh) (defBody s_fresh) (defScope s_fresh) [] [] f_fresh fd_fresh)
    (a_fill : PySem.W.nsIn K mainGlobals "_law_fill" = some (some (.ref f_fill)))
    (D_fill : FunD K "_law_fill" "_law_fill" (defArgs s_fill) (defBody s_fill) (defScope s_fill) [] [] f_fill fd_fill)
    (a_take : PySem.W.nsIn K mainGlobals "_law_take" = some (some (.ref f_take)))
    (D_take : FunD K "_law_take" "_law_take" (defArgs s_take) (defBody s_take) (defScope s_take) [] [] f_take fd_take)
    (a_one : PySem.W.nsIn K mainGlobals "_law_one" = some (some (.ref f_one)))
    (D_one : FunD K "_law_one" "_law_one" (defArgs s_one) (defBody s_one) (defScope s_one) [] [] f_one fd_one)
    (a_mix : PySem.W.nsIn K mainGlobals "_law_mix" = some (some (.ref f_mix)))
    (D_mix : FunD K "_law_mix" "_law_mix" (defArgs s_mix) (defBody s_mix) (defScope s_mix) [] [] f_mix fd_mix)
    (a_same : PySem.W.nsIn K mainGlobals "_law_same" = some (some (.ref f_same)))
    (D_same : FunD K "_law_same" "_law_same" (defArgs s_same) (defBody s_same) (defScope s_same) [] [] f_same fd_same)
    (a_plan : PySem.W.nsIn K mainGlobals "_law_plan" = some (some (.ref f_plan)))
    (D_plan : FunD K "_law_plan" "_law_plan" (defArgs s_plan) (defBody s_plan) (defScope s_plan) [] [] f_plan fd_plan)
    (a_row_of : PySem.W.nsIn K mainGlobals "_law_row_of" = some (some (.ref f_row_of)))
    (D_row_of : FunD K "_law_row_of" "_law_row_of" (defArgs s_row_of) (defBody s_row_of) (defScope s_row_of) [] [] f_row_of fd_row_of)
    (a_deeds : PySem.W.nsIn K mainGlobals "_law_deeds" = some (some (.ref f_deeds)))
    (D_deeds : FunD K "_law_deeds" "_law_deeds" (defArgs s_deeds) (defBody s_deeds) (defScope s_deeds) [] [] f_deeds fd_deeds)
    (a_call : PySem.W.nsIn K mainGlobals "_law_call" = some (some (.ref f_call)))
    (D_call : FunD K "_law_call" "_law_call" (defArgs s_call) (defBody s_call) (defScope s_call) [] [] f_call fd_call)
    (a_kind : PySem.W.nsIn K mainGlobals "_law_kind" = some (some (.ref f_kind)))
    (D_kind : FunD K "_law_kind" "_law_kind" (defArgs s_kind) (defBody s_kind) (defScope s_kind) [] [] f_kind fd_kind)
    (a_alone : PySem.W.nsIn K mainGlobals "_law_alone" = some (some (.ref f_alone)))
    (D_alone : FunD K "_law_alone" "_law_alone" (defArgs s_alone) (defBody s_alone) (defScope s_alone) [] [] f_alone fd_alone)
    (a_rules : PySem.W.nsIn K mainGlobals "_law_rules" = some (some (.ref f_rules)))
    (D_rules : FunD K "_law_rules" "_law_rules" (defArgs s_rules) (defBody s_rules) (defScope s_rules) [] [] f_rules fd_rules)
    (a_good_start : PySem.W.nsIn K mainGlobals "_law_good_start" = some (some (.ref f_good_start)))
    (D_good_start : FunD K "_law_good_start" "_law_good_start" (defArgs s_good_start) (defBody s_good_start) (defScope s_good_start) [] [] f_good_start fd_good_start)
    (a_good_step : PySem.W.nsIn K mainGlobals "_law_good_step" = some (some (.ref f_good_step)))
    (D_good_step : FunD K "_law_good_step" "_law_good_step" (defArgs s_good_step) (defBody s_good_step) (defScope s_good_step) [] [] f_good_step fd_good_step)
    (a_good_states : PySem.W.nsIn K mainGlobals "_law_good_states" = some (some (.ref f_good_states)))
    (D_good_states : FunD K "_law_good_states" "_law_good_states" (defArgs s_good_states) (defBody s_good_states) (defScope s_good_states) [] [] f_good_states fd_good_states)
    (a_l_is_good : PySem.W.nsIn K mainGlobals "_law_is_good" = some (some (.ref f_l_is_good)))
    (D_l_is_good : FunD K "_law_is_good" "_law_is_good" (defArgs s_l_is_good) (defBody s_l_is_good) (defScope s_l_is_good) [] [] f_l_is_good fd_l_is_good)
    (a_led_row : PySem.W.nsIn K mainGlobals "_law_led_row" = some (some (.ref f_led_row)))
    (D_led_row : FunD K "_law_led_row" "_law_led_row" (defArgs s_led_row) (defBody s_led_row) (defScope s_led_row) [] [] f_led_row fd_led_row)
    (a_is_word : PySem.W.nsIn K mainGlobals "is_word" = some (some (.ref f_is_word)))
    (D_is_word : FunD K "is_word" "is_word" (defArgs s_is_word) (defBody s_is_word) (defScope s_is_word) [] [] f_is_word fd_is_word)
    (a_is_integer : PySem.W.nsIn K mainGlobals "is_integer" = some (some (.ref f_is_integer)))
    (D_is_integer : FunD K "is_integer" "is_integer" (defArgs s_is_integer) (defBody s_is_integer) (defScope s_is_integer) [] [] f_is_integer fd_is_integer)
    (a_is_list : PySem.W.nsIn K mainGlobals "is_list" = some (some (.ref f_is_list)))
    (D_is_list : FunD K "is_list" "is_list" (defArgs s_is_list) (defBody s_is_list) (defScope s_is_list) [] [] f_is_list fd_is_list)
    (a_is_modes : PySem.W.nsIn K mainGlobals "is_modes" = some (some (.ref f_is_modes)))
    (D_is_modes : FunD K "is_modes" "is_modes" (defArgs s_is_modes) (defBody s_is_modes) (defScope s_is_modes) [] [] f_is_modes fd_is_modes)
    (a_is_field : PySem.W.nsIn K mainGlobals "is_field" = some (some (.ref f_is_field)))
    (D_is_field : FunD K "is_field" "is_field" (defArgs s_is_field) (defBody s_is_field) (defScope s_is_field) [] [] f_is_field fd_is_field)
    (a_kept_fields : PySem.W.nsIn K mainGlobals "kept_fields" = some (some (.ref f_kept_fields)))
    (D_kept_fields : FunD K "kept_fields" "kept_fields" (defArgs s_kept_fields) (defBody s_kept_fields) (defScope s_kept_fields) [] [] f_kept_fields fd_kept_fields)
    (a_is_many : PySem.W.nsIn K mainGlobals "is_many" = some (some (.ref f_is_many)))
    (D_is_many : FunD K "is_many" "is_many" (defArgs s_is_many) (defBody s_is_many) (defScope s_is_many) [] [] f_is_many fd_is_many)
    (a_is_deed : PySem.W.nsIn K mainGlobals "is_deed" = some (some (.ref f_is_deed)))
    (D_is_deed : FunD K "is_deed" "is_deed" (defArgs s_is_deed) (defBody s_is_deed) (defScope s_is_deed) [] [] f_is_deed fd_is_deed)
    (a_are_moves : PySem.W.nsIn K mainGlobals "are_moves" = some (some (.ref f_are_moves)))
    (D_are_moves : FunD K "are_moves" "are_moves" (defArgs s_are_moves) (defBody s_are_moves) (defScope s_are_moves) [] [] f_are_moves fd_are_moves)
    (a_has_call_form : PySem.W.nsIn K mainGlobals "has_call_form" = some (some (.ref f_has_call_form)))
    (D_has_call_form : FunD K "has_call_form" "has_call_form" (defArgs s_has_call_form) (defBody s_has_call_form) (defScope s_has_call_form) [] [] f_has_call_form fd_has_call_form)
    (a_are_deeds : PySem.W.nsIn K mainGlobals "are_deeds" = some (some (.ref f_are_deeds)))
    (D_are_deeds : FunD K "are_deeds" "are_deeds" (defArgs s_are_deeds) (defBody s_are_deeds) (defScope s_are_deeds) [] [] f_are_deeds fd_are_deeds)
    (a_is_same : PySem.W.nsIn K mainGlobals "is_same" = some (some (.ref f_is_same)))
    (D_is_same : FunD K "is_same" "is_same" (defArgs s_is_same) (defBody s_is_same) (defScope s_is_same) [] [] f_is_same fd_is_same)
    (a_kept_call : PySem.W.nsIn K mainGlobals "kept_call" = some (some (.ref f_kept_call)))
    (D_kept_call : FunD K "kept_call" "kept_call" (defArgs s_kept_call) (defBody s_kept_call) (defScope s_kept_call) [] [] f_kept_call fd_kept_call)
    (a_wrong_part : PySem.W.nsIn K mainGlobals "wrong_part" = some (some (.ref f_wrong_part)))
    (D_wrong_part : FunD K "wrong_part" "wrong_part" (defArgs s_wrong_part) (defBody s_wrong_part) (defScope s_wrong_part) [] [] f_wrong_part fd_wrong_part)
    (a_kept_calls : PySem.W.nsIn K mainGlobals "kept_calls" = some (some (.ref f_kept_calls)))
    (D_kept_calls : FunD K "kept_calls" "kept_calls" (defArgs s_kept_calls) (defBody s_kept_calls) (defScope s_kept_calls) [] [] f_kept_calls fd_kept_calls)
    (a_mark_of : PySem.W.nsIn K mainGlobals "mark_of" = some (some (.ref f_mark_of)))
    (D_mark_of : FunD K "mark_of" "mark_of" (defArgs s_mark_of) (defBody s_mark_of) (defScope s_mark_of) [] [] f_mark_of fd_mark_of)
    (a_marks_of : PySem.W.nsIn K mainGlobals "marks_of" = some (some (.ref f_marks_of)))
    (D_marks_of : FunD K "marks_of" "marks_of" (defArgs s_marks_of) (defBody s_marks_of) (defScope s_marks_of) [] [] f_marks_of fd_marks_of)
    (a_marked : PySem.W.nsIn K mainGlobals "marked" = some (some (.ref f_marked)))
    (D_marked : FunD K "marked" "marked" (defArgs s_marked) (defBody s_marked) (defScope s_marked) [] [] f_marked fd_marked)
    (a_is_rule : PySem.W.nsIn K mainGlobals "is_rule" = some (some (.ref f_is_rule)))
    (D_is_rule : FunD K "is_rule" "is_rule" (defArgs s_is_rule) (defBody s_is_rule) (defScope s_is_rule) [] [] f_is_rule fd_is_rule)
    (a_is_good : PySem.W.nsIn K mainGlobals "is_good" = some (some (.ref f_is_good)))
    (D_is_good : FunD K "is_good" "is_good" (defArgs s_is_good) (defBody s_is_good) (defScope s_is_good) [] [] f_is_good fd_is_good)
    (a_law : PySem.W.nsIn K mainGlobals "law" = some (some (.ref f_law)))
    (D_law : FunD K "law" "law" (defArgs s_law) (defBody s_law) (defScope s_law) [] [] f_law fd_law)
    (aC_Kind : PySem.W.nsIn K mainGlobals "Kind" = some (some (.ref C_Kind)))
    (aC_Orders : PySem.W.nsIn K mainGlobals "Orders" = some (some (.ref C_Orders)))
    (m_kinit : PySem.W.findIn K (.ref C_Kind) "__init__" = some (some (.ref f_kinit)))
    (D_kinit : FunD K "__init__" "Kind.__init__" (defArgs s_Kind_init) (defBody s_Kind_init) (defScope s_Kind_init) [] [] f_kinit fd_kinit)
    (fn_kinit : PySem.W.isFn K (.ref f_kinit) = true)
    (m_khas : PySem.W.findIn K (.ref C_Kind) "__contains__" = some (some (.ref f_khas)))
    (D_khas : FunD K "__contains__" "Kind.__contains__" (defArgs s_Kind_contains) (defBody s_Kind_contains) (defScope s_Kind_contains) [] [] f_khas fd_khas)
    (fn_khas : PySem.W.isFn K (.ref f_khas) = true)
    (m_kiter : PySem.W.findIn K (.ref C_Kind) "__iter__" = some (some (.ref f_kiter)))
    (D_kiter : FunD K "__iter__" "Kind.__iter__" (defArgs s_Kind_iter) (defBody s_Kind_iter) (defScope s_Kind_iter) [] [] f_kiter fd_kiter)
    (fn_kiter : PySem.W.isFn K (.ref f_kiter) = true)
    (z_iter : PySem.W.nsIn K mainGlobals "iter" = some none)
    (m_oinit : PySem.W.findIn K (.ref C_Orders) "__init__" = some (some (.ref f_oinit)))
    (D_oinit : FunD K "__init__" "Orders.__init__" (defArgs s_Orders_init) (defBody s_Orders_init) (defScope s_Orders_init) [] [] f_oinit fd_oinit)
    (fn_oinit : PySem.W.isFn K (.ref f_oinit) = true)
    (m_o_start : PySem.W.findIn K (.ref C_Orders) "start" = some (some (.ref f_o_start)))
    (D_o_start : FunD K "start" "Orders.start" (defArgs s_Orders_start) (defBody s_Orders_start) (defScope s_Orders_start) [] [] f_o_start fd_o_start)
    (fn_o_start : PySem.W.isFn K (.ref f_o_start) = true)
    (m_o_place_behind : PySem.W.findIn K (.ref C_Orders) "place_behind" = some (some (.ref f_o_place_behind)))
    (D_o_place_behind : FunD K "place_behind" "Orders.place_behind" (defArgs s_Orders_place_behind) (defBody s_Orders_place_behind) (defScope s_Orders_place_behind) [] [] f_o_place_behind fd_o_place_behind)
    (fn_o_place_behind : PySem.W.isFn K (.ref f_o_place_behind) = true)
    (m_o_contents_behind : PySem.W.findIn K (.ref C_Orders) "contents_behind" = some (some (.ref f_o_contents_behind)))
    (D_o_contents_behind : FunD K "contents_behind" "Orders.contents_behind" (defArgs s_Orders_contents_behind) (defBody s_Orders_contents_behind) (defScope s_Orders_contents_behind) [] [] f_o_contents_behind fd_o_contents_behind)
    (fn_o_contents_behind : PySem.W.isFn K (.ref f_o_contents_behind) = true)
    (m_o_keeps_rules : PySem.W.findIn K (.ref C_Orders) "keeps_rules" = some (some (.ref f_o_keeps_rules)))
    (D_o_keeps_rules : FunD K "keeps_rules" "Orders.keeps_rules" (defArgs s_Orders_keeps_rules) (defBody s_Orders_keeps_rules) (defScope s_Orders_keeps_rules) [] [] f_o_keeps_rules fd_o_keeps_rules)
    (fn_o_keeps_rules : PySem.W.isFn K (.ref f_o_keeps_rules) = true)
    (kc_mk : PySem.W.makesIn K C_Kind = true)
    (kc_kp : PySem.W.keepIn K (.ref C_Kind) = true)
    (kc_pg : PySem.W.plainGet K C_Kind Str.empty = true)
    (kc_hd : PySem.W.hasDictIn K C_Kind = true)
    (kc_po : PySem.W.plainOver K C_Kind = true)
    (kc_sa : PySem.W.findIn K (.ref C_Kind) "__setattr__" = some (some (.builtin "object.__setattr__")))
    (kc_n_triples : PySem.W.findIn K (.ref C_Kind) "triples" = some none)
    (kc_n_sorts : PySem.W.findIn K (.ref C_Kind) "sorts" = some none)
    (kc_n_spots : PySem.W.findIn K (.ref C_Kind) "spots" = some none)
    (kc_n_modes : PySem.W.findIn K (.ref C_Kind) "modes" = some none)
    (kc_n_steps : PySem.W.findIn K (.ref C_Kind) "steps" = some none)
    (kc_n_table : PySem.W.findIn K (.ref C_Kind) "table" = some none)
    (oc_mk : PySem.W.makesIn K C_Orders = true)
    (oc_kp : PySem.W.keepIn K (.ref C_Orders) = true)
    (oc_pg : PySem.W.plainGet K C_Orders Str.empty = true)
    (oc_hd : PySem.W.hasDictIn K C_Orders = true)
    (oc_po : PySem.W.plainOver K C_Orders = true)
    (oc_sa : PySem.W.findIn K (.ref C_Orders) "__setattr__" = some (some (.builtin "object.__setattr__")))
    (oc_n_kind : PySem.W.findIn K (.ref C_Orders) "kind" = some none)
    (oc_n_needed : PySem.W.findIn K (.ref C_Orders) "needed" = some none)
    (oc_n_wanted : PySem.W.findIn K (.ref C_Orders) "wanted" = some none)
    (oc_n_barred : PySem.W.findIn K (.ref C_Orders) "barred" = some none)
    (oc_n_counted : PySem.W.findIn K (.ref C_Orders) "counted" = some none)
    (z_len : PySem.W.nsIn K mainGlobals "len" = some none)
    (z_int : PySem.W.nsIn K mainGlobals "int" = some none)
    (z_enumerate : PySem.W.nsIn K mainGlobals "enumerate" = some none)
    (z_list : PySem.W.nsIn K mainGlobals "list" = some none)
    (z_tuple : PySem.W.nsIn K mainGlobals "tuple" = some none)
    (z_isinstance : PySem.W.nsIn K mainGlobals "isinstance" = some none)
    (z_range : PySem.W.nsIn K mainGlobals "range" = some none)
    (z_all : PySem.W.nsIn K mainGlobals "all" = some none)
    (z_zip : PySem.W.nsIn K mainGlobals "zip" = some none)
    (z_ValueError : PySem.W.nsIn K mainGlobals "ValueError" = some none)
    (z_bool : PySem.W.nsIn K mainGlobals "bool" = some none)
    (z_str : PySem.W.nsIn K mainGlobals "str" = some none)
    (z_set : PySem.W.nsIn K mainGlobals "set" = some none)
    (z_any : PySem.W.nsIn K mainGlobals "any" = some none)
    (v_MOST_LETTERS : PySem.W.nsIn K mainGlobals "MOST_LETTERS" = some (some (.int 8 tk_MOST_LETTERS)))
    (v_MOST_FIELDS : PySem.W.nsIn K mainGlobals "MOST_FIELDS" = some (some (.int 3 tk_MOST_FIELDS)))
    (v_MOST_MODES : PySem.W.nsIn K mainGlobals "MOST_MODES" = some (some (.int 4 tk_MOST_MODES)))
    (v_MOST_CALLS : PySem.W.nsIn K mainGlobals "MOST_CALLS" = some (some (.int 6 tk_MOST_CALLS)))
    (v_MOST_DEEDS : PySem.W.nsIn K mainGlobals "MOST_DEEDS" = some (some (.int 4 tk_MOST_DEEDS)))
    (v_DONE : PySem.W.nsIn K mainGlobals "DONE" = some (some (.int (-1) tk_DONE)))
    (v_THE_WORD : PySem.W.nsIn K mainGlobals "THE_WORD" = some (some (.int (1) tk_THE_WORD)))
    (v_SORTS : PySem.W.nsIn K mainGlobals "SORTS" = some (some (.ref A_sorts)))
    (tu_sorts : tupB K A_sorts ["one", "many"] = true)
    (v_HANDS : PySem.W.nsIn K mainGlobals "HANDS" = some (some (.ref A_hands)))
    (tu_hands : tupB K A_hands ["self", "new", "last"] = true)
    (v_LIST_WORD_DEEDS : PySem.W.nsIn K mainGlobals "LIST_WORD_DEEDS" = some (some (.ref A_lwd)))
    (tu_lwd : tupB K A_lwd ["add", "strike"] = true)
    (v_sod : PySem.W.nsIn K mainGlobals "SORTS_OF_DEEDS" = some (some (.ref A_sod)))
    (sd_set : PySem.W.nsIn K A_sod "set" = some (some (.ref A_sod_set)))
    (td_set : tupB K A_sod_set ["one"] = true)
    (sd_add : PySem.W.nsIn K A_sod "add" = some (some (.ref A_sod_add)))
    (td_add : tupB K A_sod_add ["many"] = true)
    (sd_strike : PySem.W.nsIn K A_sod "strike" = some (some (.ref A_sod_strike)))
    (td_strike : tupB K A_sod_strike ["many"] = true)
    (sd_fresh : PySem.W.nsIn K A_sod "fresh" = some (some (.ref A_sod_fresh)))
    (td_fresh : tupB K A_sod_fresh ["many"] = true)
    (sd_clear : PySem.W.nsIn K A_sod "clear" = some (some (.ref A_sod_clear)))
    (td_clear : tupB K A_sod_clear ["one", "many"] = true)
    (dsod : He.dicW K A_sod = some (He.keysIn w.params ["set", "add", "strike", "fresh", "clear"]))
    : ∃ (fd : FuncData) (sp : Sp), (∀ (s : Shared) (u : Value), BindsTo s fd ⟨[u], []⟩ [("_law_script", u)]) ∧
        (∀ (H : Hp) (a : Addr) (ns : List Int), ns.length ≤ 63 → SqL K H a (ns.map V.int) → sp [.ref a] H (fun v _ => v = .bl true) fun _ _ _ => False) ∧
        ∀ base : Heap, K.In base → base.Ns mainGlobals mg → FnOk l.prog w K mg base CX0 10 fa fd ["_law_script"] sp := by
  have e := hfa.symm.trans (PySem.W.mg_of X G a_law)
  cases e
  have T : Txt K mg := ⟨PySem.W.mg_none_of X G z_len, PySem.W.mg_none_of X G z_int, PySem.W.mg_none_of X G z_enumerate, PySem.W.mg_none_of X G z_list, PySem.W.mg_none_of X G z_tuple, PySem.W.mg_none_of X G z_isinstance, PySem.W.mg_none_of X G z_range, PySem.W.mg_none_of X G z_all, PySem.W.mg_none_of X G z_zip, PySem.W.mg_none_of X G z_ValueError, PySem.W.mg_none_of X G z_bool, PySem.W.mg_none_of X G z_str, PySem.W.mg_none_of X G z_set, PySem.W.mg_none_of X G z_any⟩
  have k_fresh := D_fresh.kp
  have F_fresh := def_mkE (st := s_fresh) (ps := ["_law_script"]) X G a_fresh D_fresh fun _ _ _ _ _ _ us hl => match us, hl with | [_], _ => rfl
  have k_fill := D_fill.kp
  have F_fill := def_mkE (st := s_fill) (ps := ["_law_state"]) X G a_fill D_fill fun _ _ _ _ _ _ us hl => match us, hl with | [_], _ => rfl
  have k_take := D_take.kp
  have F_take := def_mkE (st := s_take) (ps := ["_law_state", "_law_many"]) X G a_take D_take fun _ _ _ _ _ _ us hl => match us, hl with | [_, _], _ => rfl
  have k_one := D_one.kp
  have F_one := def_mkE (st := s_one) (ps := ["_law_state", "_law_things"]) X G a_one D_one fun _ _ _ _ _ _ us hl => match us, hl with | [_, _], _ => rfl
  have k_mix := D_mix.kp
  have F_mix := def_mkE (st := s_mix) (ps := ["_law_state", "_law_things"]) X G a_mix D_mix fun _ _ _ _ _ _ us hl => match us, hl with | [_, _], _ => rfl
  have k_same := D_same.kp
  have F_same := def_mkE (st := s_same) (ps := ["_law_found", "_law_due"]) X G a_same D_same fun _ _ _ _ _ _ us hl => match us, hl with | [_, _], _ => rfl
  have k_plan := D_plan.kp
  have F_plan := def_mkE (st := s_plan) (ps := ["_law_fields", "_law_calls", "_law_far"]) X G a_plan D_plan fun _ _ _ _ _ _ us hl => match us, hl with | [_, _, _], _ => rfl
  have k_row_of := D_row_of.kp
  have F_row_of := def_mkE (st := s_row_of) (ps := ["_law_p", "_law_name"]) X G a_row_of D_row_of fun _ _ _ _ _ _ us hl => match us, hl with | [_, _], _ => rfl
  have k_deeds := D_deeds.kp
  have F_deeds := def_mkE (st := s_deeds) (ps := ["_law_state", "_law_fields", "_law_many"]) X G a_deeds D_deeds fun _ _ _ _ _ _ us hl => match us, hl with | [_, _, _], _ => rfl
  have k_call := D_call.kp
  have F_call := def_mkE (st := s_call) (ps := ["_law_state", "_law_name", "_law_hand", "_law_fields", "_law_far"]) X G a_call D_call fun _ _ _ _ _ _ us hl => match us, hl with | [_, _, _, _, _], _ => rfl
  have k_kind := D_kind.kp
  have F_kind := def_mkE (st := s_kind) (ps := ["_law_state", "_law_wide", "_law_many", "_law_far"]) X G a_kind D_kind fun _ _ _ _ _ _ us hl => match us, hl with | [_, _, _, _], _ => rfl
  have k_alone := D_alone.kp
  have F_alone := def_mkE (st := s_alone) (ps := ["_law_row", "_law_name", "_law_content", "_law_word"]) X G a_alone D_alone fun _ _ _ _ _ _ us hl => match us, hl with | [_, _, _, _], _ => rfl
  have k_rules := D_rules.kp
  have F_rules := def_mkE (st := s_rules) (ps := ["_law_state", "_law_p"]) X G a_rules D_rules fun _ _ _ _ _ _ us hl => match us, hl with | [_, _], _ => rfl
  have k_good_start := D_good_start.kp
  have F_good_start := def_mkE (st := s_good_start) (ps := ["_law_p", "_law_rules_here"]) X G a_good_start D_good_start fun _ _ _ _ _ _ us hl => match us, hl with | [_, _], _ => rfl
  have k_good_step := D_good_step.kp
  have F_good_step := def_mkE (st := s_good_step) (ps := ["_law_p", "_law_rules_here", "_law_state", "_law_row"]) X G a_good_step D_good_step fun _ _ _ _ _ _ us hl => match us, hl with | [_, _, _, _], _ => rfl
  have k_good_states := D_good_states.kp
  have F_good_states := def_mkE (st := s_good_states) (ps := ["_law_p", "_law_rules_here"]) X G a_good_states D_good_states fun _ _ _ _ _ _ us hl => match us, hl with | [_, _], _ => rfl
  have k_l_is_good := D_l_is_good.kp
  have F_l_is_good := def_mkE (st := s_l_is_good) (ps := ["_law_p", "_law_rules_here", "_law_names"]) X G a_l_is_good D_l_is_good fun _ _ _ _ _ _ us hl => match us, hl with | [_, _, _], _ => rfl
  have k_led_row := D_led_row.kp
  have F_led_row := def_mkE (st := s_led_row) (ps := ["_law_state", "_law_p", "_law_rules_here"]) X G a_led_row D_led_row fun _ _ _ _ _ _ us hl => match us, hl with | [_, _, _], _ => rfl
  have k_is_word := D_is_word.kp
  have F_is_word := def_mkE (st := s_is_word) (ps := ["thing"]) X G a_is_word D_is_word fun _ _ _ _ _ _ us hl => match us, hl with | [_], _ => rfl
  have k_is_integer := D_is_integer.kp
  have F_is_integer := def_mkE (st := s_is_integer) (ps := ["thing"]) X G a_is_integer D_is_integer fun _ _ _ _ _ _ us hl => match us, hl with | [_], _ => rfl
  have k_is_list := D_is_list.kp
  have F_is_list := def_mkE (st := s_is_list) (ps := ["thing"]) X G a_is_list D_is_list fun _ _ _ _ _ _ us hl => match us, hl with | [_], _ => rfl
  have k_is_modes := D_is_modes.kp
  have F_is_modes := def_mkE (st := s_is_modes) (ps := ["modes"]) X G a_is_modes D_is_modes fun _ _ _ _ _ _ us hl => match us, hl with | [_], _ => rfl
  have k_is_field := D_is_field.kp
  have F_is_field := def_mkE (st := s_is_field) (ps := ["item", "earlier"]) X G a_is_field D_is_field fun _ _ _ _ _ _ us hl => match us, hl with | [_, _], _ => rfl
  have k_kept_fields := D_kept_fields.kp
  have F_kept_fields := def_mkE (st := s_kept_fields) (ps := ["fields"]) X G a_kept_fields D_kept_fields fun _ _ _ _ _ _ us hl => match us, hl with | [_], _ => rfl
  have k_is_many := D_is_many.kp
  have F_is_many := def_mkE (st := s_is_many) (ps := ["field", "sorts"]) X G a_is_many D_is_many fun _ _ _ _ _ _ us hl => match us, hl with | [_, _], _ => rfl
  have k_is_deed := D_is_deed.kp
  have F_is_deed := def_mkE (st := s_is_deed) (ps := ["pair", "sorts"]) X G a_is_deed D_is_deed fun _ _ _ _ _ _ us hl => match us, hl with | [_, _], _ => rfl
  have k_are_moves := D_are_moves.kp
  have F_are_moves := def_mkE (st := s_are_moves) (ps := ["moves", "modes"]) X G a_are_moves D_are_moves fun _ _ _ _ _ _ us hl => match us, hl with | [_, _], _ => rfl
  have k_has_call_form := D_has_call_form.kp
  have F_has_call_form := def_mkE (st := s_has_call_form) (ps := ["item"]) X G a_has_call_form D_has_call_form fun _ _ _ _ _ _ us hl => match us, hl with | [_], _ => rfl
  have k_are_deeds := D_are_deeds.kp
  have F_are_deeds := def_mkE (st := s_are_deeds) (ps := ["deeds", "sorts"]) X G a_are_deeds D_are_deeds fun _ _ _ _ _ _ us hl => match us, hl with | [_, _], _ => rfl
  have k_is_same := D_is_same.kp
  have F_is_same := def_mkE (st := s_is_same) (ps := ["same", "hand", "sorts"]) X G a_is_same D_is_same fun _ _ _ _ _ _ us hl => match us, hl with | [_, _, _], _ => rfl
  have k_kept_call := D_kept_call.kp
  have F_kept_call := def_mkE (st := s_kept_call) (ps := ["call"]) X G a_kept_call D_kept_call fun _ _ _ _ _ _ us hl => match us, hl with | [_], _ => rfl
  have k_wrong_part := D_wrong_part.kp
  have F_wrong_part := def_mkE (st := s_wrong_part) (ps := ["item", "earlier", "sorts", "modes"]) X G a_wrong_part D_wrong_part fun _ _ _ _ _ _ us hl => match us, hl with | [_, _, _, _], _ => rfl
  have k_kept_calls := D_kept_calls.kp
  have F_kept_calls := def_mkE (st := s_kept_calls) (ps := ["calls", "sorts", "modes"]) X G a_kept_calls D_kept_calls fun _ _ _ _ _ _ us hl => match us, hl with | [_, _, _], _ => rfl
  have k_mark_of := D_mark_of.kp
  have F_mark_of := def_mkE (st := s_mark_of) (ps := ["deed", "word"]) X G a_mark_of D_mark_of fun _ _ _ _ _ _ us hl => match us, hl with | [_, _], _ => rfl
  have k_marks_of := D_marks_of.kp
  have F_marks_of := def_mkE (st := s_marks_of) (ps := ["deeds", "field", "word"]) X G a_marks_of D_marks_of fun _ _ _ _ _ _ us hl => match us, hl with | [_, _, _], _ => rfl
  have k_marked := D_marked.kp
  have F_marked := def_mkE (st := s_marked) (ps := ["content", "mark"]) X G a_marked D_marked fun _ _ _ _ _ _ us hl => match us, hl with | [_, _], _ => rfl
  have k_is_rule := D_is_rule.kp
  have F_is_rule := def_mkE (st := s_is_rule) (ps := ["kind", "rule"]) X G a_is_rule D_is_rule fun _ _ _ _ _ _ us hl => match us, hl with | [_, _], _ => rfl
  have k_is_good := D_is_good.kp
  have F_is_good := def_mkE (st := s_is_good) (ps := ["kind", "rules", "names"]) X G a_is_good D_is_good fun _ _ _ _ _ _ us hl => match us, hl with | [_, _, _], _ => rfl
  have k_law := D_law.kp
  have k_kinit := D_kinit.kp
  have F_kinit := He5.fun_of (st := s_Kind_init) D_kinit
  obtain ⟨kV_kinit, dc_kinit, pm_kinit, an_kinit, cd_kinit, ct_kinit, e_kinit⟩ := fn_isD D_kinit
  subst e_kinit
  have k_khas := D_khas.kp
  have F_khas := He5.fun_of (st := s_Kind_contains) D_khas
  have B_khas : Binds K _ ["self", "x"] [] := F_khas.binds fun _ _ _ _ _ _ us hl => match us, hl with | [_, _], _ => rfl
  have k_kiter := D_kiter.kp
  have F_kiter := He5.fun_of (st := s_Kind_iter) D_kiter
  have B_kiter : Binds K _ ["self"] [] := F_kiter.binds fun _ _ _ _ _ _ us hl => match us, hl with | [_], _ => rfl
  have k_oinit := D_oinit.kp
  have F_oinit := He5.fun_of (st := s_Orders_init) D_oinit
  have B_oinit : Binds K _ ["self", "kind", "rules"] [] := F_oinit.binds fun _ _ _ _ _ _ us hl => match us, hl with | [_, _, _], _ => rfl
  have k_o_start := D_o_start.kp
  have F_o_start := He5.fun_of (st := s_Orders_start) D_o_start
  have B_o_start : Binds K _ ["self"] [] := F_o_start.binds fun _ _ _ _ _ _ us hl => match us, hl with | [_], _ => rfl
  have k_o_place_behind := D_o_place_behind.kp
  have F_o_place_behind := He5.fun_of (st := s_Orders_place_behind) D_o_place_behind
  have B_o_place_behind : Binds K _ ["self", "place", "name"] [] := F_o_place_behind.binds fun _ _ _ _ _ _ us hl => match us, hl with | [_, _, _], _ => rfl
  have k_o_contents_behind := D_o_contents_behind.kp
  have F_o_contents_behind := He5.fun_of (st := s_Orders_contents_behind) D_o_contents_behind
  have B_o_contents_behind : Binds K _ ["self", "call", "contents"] [] := F_o_contents_behind.binds fun _ _ _ _ _ _ us hl => match us, hl with | [_, _, _], _ => rfl
  have k_o_keeps_rules := D_o_keeps_rules.kp
  have F_o_keeps_rules := He5.fun_of (st := s_Orders_keeps_rules) D_o_keeps_rules
  have B_o_keeps_rules : Binds K _ ["self", "name", "seen"] [] := F_o_keeps_rules.binds fun _ _ _ _ _ _ us hl => match us, hl with | [_, _, _], _ => rfl
  have Z : KCls K C_Kind := ⟨⟨kc_pg, kc_hd, kc_po, kc_sa⟩, kc_n_triples, kc_n_sorts, kc_n_spots, kc_n_modes, kc_n_steps, kc_n_table⟩
  have ZO : OCls K C_Orders := ⟨⟨oc_pg, oc_hd, oc_po, oc_sa⟩, oc_n_kind, oc_n_needed, oc_n_wanted, oc_n_barred, oc_n_counted⟩
  have gK := PySem.W.mg_of X G aC_Kind
  have F_law := def_mkE (st := s_law) (ps := ["_law_script"]) X G a_law D_law fun _ _ _ _ _ _ us hl => match us, hl with | [_], _ => rfl
  have Cs : Csts K w mg ⟨A_sorts, A_hands, A_sod, 0, A_lwd⟩ :=
    { MOST_LETTERS := ⟨_, PySem.W.mg_of X G v_MOST_LETTERS, _, rfl⟩,
      MOST_FIELDS := ⟨_, PySem.W.mg_of X G v_MOST_FIELDS, _, rfl⟩,
      MOST_MODES := ⟨_, PySem.W.mg_of X G v_MOST_MODES, _, rfl⟩,
      MOST_CALLS := ⟨_, PySem.W.mg_of X G v_MOST_CALLS, _, rfl⟩,
      MOST_DEEDS := ⟨_, PySem.W.mg_of X G v_MOST_DEEDS, _, rfl⟩,
      SORTS := ⟨_, PySem.W.mg_of X G v_SORTS, rfl⟩,
      HANDS := ⟨_, PySem.W.mg_of X G v_HANDS, rfl⟩,
      SORTS_OF_DEEDS := ⟨_, PySem.W.mg_of X G v_sod, rfl⟩,
      LIST_WORD_DEEDS := ⟨_, PySem.W.mg_of X G v_LIST_WORD_DEEDS, rfl⟩,
      t_sorts := tupB_ok tu_sorts,
      t_hands := tupB_ok tu_hands,
      t_lwd := tupB_ok tu_lwd,
      sodD := He.dicW_ok dsod,
      sodN := sod_all dsod ⟨_, sd_set, tupB_ok td_set⟩ ⟨_, sd_add, tupB_ok td_add⟩ ⟨_, sd_strike, tupB_ok td_strike⟩ ⟨_, sd_fresh, tupB_ok td_fresh⟩ ⟨_, sd_clear, tupB_ok td_clear⟩ }
  obtain ⟨oc_law, od_law, dV_law, kV_law, dc_law, pm_law, an_law, cd_law, ct_law, sl_law, e_law, l_law, c_law, hd_law, _⟩ := D_law.ex
  have hd2_law : dV_law = .none := by
    rcases hd_law with ⟨_, e2⟩ | ⟨e2, _⟩
    · exact e2
    · exact absurd rfl e2
  subst hd2_law
  subst e_law
  refine ⟨PySem.W.fnOf "law" "law" (defArgs s_law) (defBody s_law) (defScope s_law) .none kV_law dc_law pm_law an_law cd_law ct_law, spLaw K, fun s v => .of_eq rfl, fun H a ns hl hS => ⟨a, ns, rfl, hS, hl, fun _ => rfl⟩, fun base _ _ => ?_⟩
  have c_fresh := ok_fresh (P := l.prog) (w := w) (base := base) F_fresh T
  have c_fill := ok_fill (P := l.prog) (w := w) (base := base) F_fill T
  have c_take := ok_take F_take T c_fill
  have c_one := ok_one F_one T c_take
  have c_mix := ok_mix F_mix T c_take
  have c_deeds := ok_deeds F_deeds T c_take c_one
  have c_call := ok_call F_call T c_take c_one c_deeds
  have c_same := ok_same (P := l.prog) (w := w) (base := base) F_same T 1
  have c_is_word := ok_word (P := l.prog) (w := w) (base := base) F_is_word T Cs
  have c_is_integer := ok_integer (P := l.prog) (w := w) (base := base) F_is_integer T
  have c_is_list := ok_list (P := l.prog) (w := w) (base := base) F_is_list T
  have c_is_modes := ok_modes F_is_modes T Cs c_is_integer
  have c_is_field := ok_field F_is_field T Cs c_is_list c_is_word
  have c_kept_fields := ok_fields F_kept_fields T Cs c_is_list c_is_field
  have c_is_many := ok_many (P := l.prog) (w := w) (base := base) F_is_many T
  have c_is_deed := ok_deed F_is_deed T Cs c_is_list
  have c_are_moves := ok_moves F_are_moves T c_is_integer
  have c_has_call_form := ok_callForm F_has_call_form T c_is_list
  have c_are_deeds := ok_deedsOk F_are_deeds T Cs c_is_deed
  have c_is_same := ok_sameOk F_is_same T c_is_many
  have c_kept_call := ok_keptCall (P := l.prog) (w := w) (base := base) F_kept_call T
  have c_wrong_part := ok_wrong F_wrong_part T Cs c_has_call_form c_is_word c_are_moves c_are_deeds c_is_same
  have c_kept_calls := ok_calls F_kept_calls T Cs c_is_list c_wrong_part c_kept_call
  have I_kinit : FnOk l.prog w K mg base CX0 6 f_kinit _ ["self", "fields", "calls", "modes"] (spKInit K C_Kind) := F_kinit.ok sc_Kind_init (fun vs H Q E h => by obtain ⟨_, _, _, _, _, _, _, _, _, _, rfl, _⟩ := h; rfl) fun cdv A outer s H vs Q E hr h => run_kinit T Z c_kept_fields c_is_modes c_kept_calls hr h
  have c_Kind : KMk l.prog w K mg base C_Kind := ⟨⟨f_kinit, _, ⟨kc_mk, m_kinit, fn_kinit, kc_kp⟩, I_kinit, ⟨fun s us ws _ h1 h2 => match us, ws, h1, h2 with | [_, _, _], [_], _, _ => .of_eq rfl, fun r r2 => r.append r2⟩⟩, gK⟩
  have c_plan := ok_plan F_plan T c_Kind
  have c_kind := ok_kind F_kind T c_take c_one c_mix c_call c_plan
  have I_khas := ok_has0 (P := l.prog) (w := w) (base := base) F_khas T Z
  have H_has := (⟨I_khas, m_khas, fn_khas, B_khas⟩ : _ ∧ _ ∧ _ ∧ _)
  have I_kiter := ok_kiter (P := l.prog) (w := w) (base := base) F_kiter T (PySem.W.mg_none_of X G z_iter) Z
  have H_iter := (⟨I_kiter, m_kiter, fn_kiter, B_kiter⟩ : _ ∧ _ ∧ _ ∧ _)
  have Cs3 : MCst mg := ⟨⟨_, PySem.W.mg_of X G v_DONE, _, rfl⟩, ⟨_, PySem.W.mg_of X G v_THE_WORD, _, rfl⟩⟩
  have c_is_listX := ok_listX (P := l.prog) (w := w) (base := base) F_is_list T
  have c_mark_of := ok_mark (P := l.prog) (w := w) (base := base) F_mark_of T Cs3
  have c_marked := ok_marked (P := l.prog) (w := w) (base := base) F_marked T
  have c_marks_of := ok_marks F_marks_of T c_mark_of
  have M_start : C8.Met l.prog w K mg base 1 C_Orders "start" (spStart K (ordT K C_Orders C_Kind)) [] := ⟨⟨f_o_start, _, ["self"], [], ZO.cls, ⟨m_o_start, fn_o_start, k_o_start⟩, ok_startT F_o_start T ZO, B_o_start, .nil⟩⟩
  have M_keeps_rules : C8.Met l.prog w K mg base 1 C_Orders "keeps_rules" (spKeeps K C_Orders C_Kind) [] := ⟨⟨f_o_keeps_rules, _, ["self", "name", "seen"], [], ZO.cls, ⟨m_o_keeps_rules, fn_o_keeps_rules, k_o_keeps_rules⟩, ok_keeps F_o_keeps_rules T ZO, B_o_keeps_rules, .nil⟩⟩
  have M_contents_behind : C8.Met l.prog w K mg base 3 C_Orders "contents_behind" (spCont32 K C_Orders C_Kind) [] := ⟨⟨f_o_contents_behind, _, ["self", "call", "contents"], [], ZO.cls, ⟨m_o_contents_behind, fn_o_contents_behind, k_o_contents_behind⟩, ok_cont32 F_o_contents_behind T Cs3 ZO Z c_marks_of c_marked, B_o_contents_behind, .nil⟩⟩
  have M_place_behind : C8.Met l.prog w K mg base 4 C_Orders "place_behind" (spPlB K C_Orders C_Kind) [] := ⟨⟨f_o_place_behind, _, ["self", "place", "name"], [], ZO.cls, ⟨m_o_place_behind, fn_o_place_behind, k_o_place_behind⟩, ok_plb F_o_place_behind T Cs3 ZO Z M_keeps_rules M_contents_behind, B_o_place_behind, .nil⟩⟩
  have c_is_ruleP := ok_ruleX F_is_rule T Z c_is_listX H_has
  have I_oinit := ok_oinit (FunU.of (st := s_Orders_init) D_oinit) T ZO Z c_is_listX c_is_ruleP H_iter
  have mk_Orders : C8.Mak l.prog w K mg base 4 "Orders" C_Orders (spOInit K C_Orders C_Kind) [] := mak_all ⟨oc_mk, m_oinit, fn_oinit, oc_kp⟩ I_oinit (PySem.W.mg_of X G aC_Orders) ⟨[], .nil, B_oinit⟩
  have c_good := (⟨⟨f_is_good, _, _, ok_good F_is_good T Cs3 mk_Orders c_is_listX M_start M_place_behind H_has, F_is_good.mgf, F_is_good.fn.kp, F_is_good.bi⟩⟩ : Cal l.prog w K mg base CX0 6 "is_good" _)
  have c_row_of := ok_rowof (P := l.prog) (w := w) (base := base) F_row_of T
  have c_rules := ok_lrules F_rules T c_take c_one
  have c_alone := ok_alone (P := l.prog) (w := w) (base := base) F_alone T
  have c_gstart := ok_gstart (P := l.prog) (w := w) (base := base) F_good_start T
  have c_gstep := ok_gstep F_good_step T c_alone
  have c_gstates := ok_gstates F_good_states T c_gstart c_gstep
  have c_lgood := ok_lgood F_l_is_good T c_gstart c_gstep c_row_of
  have c_led := ok_led F_led_row T c_gstart c_gstates c_one
  exact run_law F_law T c_fresh c_kind c_one c_take c_same c_rules c_good c_led c_lgood
theorem facts {l : PySem.W.OpenLaw} {w : World} {K : PySem.W.Frag} {h : Heap} {mg : Str → Option Value} {fa : Addr} (X : K.In h) (G : h.Ns mainGlobals mg) (hfa : mg "law" = some (.ref fa)) (c : SaysM fsAll dsAll tsAll w K) :
    ∃ (fd : FuncData) (sp : Sp), (∀ (s : Shared) (u : Value), BindsTo s fd ⟨[u], []⟩ [("_law_script", u)]) ∧
        (∀ (H : Hp) (a : Addr) (ns : List Int), ns.length ≤ 63 → SqL K H a (ns.map V.int) → sp [.ref a] H (fun v _ => v = .bl true) fun _ _ _ => False) ∧
        ∀ base : Heap, K.In base → base.Ns mainGlobals mg → FnOk l.prog w K mg base CX0 10 fa fd ["_law_script"] sp := by
  obtain ⟨fd_fresh, D_fresh⟩ : ∃ fd, FunD K "_law_fresh" "_law_fresh" (defArgs s_fresh) (defBody s_fresh) (defScope s_fresh) [] [] (He.ga K "_law_fresh") fd := c.d 0 0 (d := dA_fresh) rfl rfl
  obtain ⟨fd_fill, D_fill⟩ : ∃ fd, FunD K "_law_fill" "_law_fill" (defArgs s_fill) (defBody s_fill) (defScope s_fill) [] [] (He.ga K "_law_fill") fd := c.d 0 1 (d := dA_fill) rfl rfl
  obtain ⟨fd_take, D_take⟩ : ∃ fd, FunD K "_law_take" "_law_take" (defArgs s_take) (defBody s_take) (defScope s_take) [] [] (He.ga K "_law_take") fd := c.d 0 2 (d := dA_take) rfl rfl
  obtain ⟨fd_one, D_one⟩ : ∃ fd, FunD K "_law_one" "_law_one" (defArgs s_one) (defBody s_one) (defScope s_one) [] [] (He.ga K "_law_one") fd := c.d 0 3 (d := dA_one) rfl rfl
  obtain ⟨fd_mix, D_mix⟩ : ∃ fd, FunD K "_law_mix" "_law_mix" (defArgs s_mix) (defBody s_mix) (defScope s_mix) [] [] (He.ga K "_law_mix") fd := c.d 0 4 (d := dA_mix) rfl rfl
  obtain ⟨fd_same, D_same⟩ : ∃ fd, FunD K "_law_same" "_law_same" (defArgs s_same) (defBody s_same) (defScope s_same) [] [] (He.ga K "_law_same") fd := c.d 0 5 (d := dA_same) rfl rfl
  obtain ⟨fd_plan, D_plan⟩ : ∃ fd, FunD K "_law_plan" "_law_plan" (defArgs s_plan) (defBody s_plan) (defScope s_plan) [] [] (He.ga K "_law_plan") fd := c.d 0 6 (d := dA_plan) rfl rfl
  obtain ⟨fd_row_of, D_row_of⟩ : ∃ fd, FunD K "_law_row_of" "_law_row_of" (defArgs s_row_of) (defBody s_row_of) (defScope s_row_of) [] [] (He.ga K "_law_row_of") fd := c.d 0 7 (d := dA_row_of) rfl rfl
  obtain ⟨fd_deeds, D_deeds⟩ : ∃ fd, FunD K "_law_deeds" "_law_deeds" (defArgs s_deeds) (defBody s_deeds) (defScope s_deeds) [] [] (He.ga K "_law_deeds") fd := c.d 0 8 (d := dA_deeds) rfl rfl
  obtain ⟨fd_call, D_call⟩ : ∃ fd, FunD K "_law_call" "_law_call" (defArgs s_call) (defBody s_call) (defScope s_call) [] [] (He.ga K "_law_call") fd := c.d 0 9 (d := dA_call) rfl rfl
  obtain ⟨fd_kind, D_kind⟩ : ∃ fd, FunD K "_law_kind" "_law_kind" (defArgs s_kind) (defBody s_kind) (defScope s_kind) [] [] (He.ga K "_law_kind") fd := c.d 0 10 (d := dA_kind) rfl rfl
  obtain ⟨fd_alone, D_alone⟩ : ∃ fd, FunD K "_law_alone" "_law_alone" (defArgs s_alone) (defBody s_alone) (defScope s_alone) [] [] (He.ga K "_law_alone") fd := c.d 0 11 (d := dA_alone) rfl rfl
  obtain ⟨fd_rules, D_rules⟩ : ∃ fd, FunD K "_law_rules" "_law_rules" (defArgs s_rules) (defBody s_rules) (defScope s_rules) [] [] (He.ga K "_law_rules") fd := c.d 0 12 (d := dA_rules) rfl rfl
  obtain ⟨fd_good_start, D_good_start⟩ : ∃ fd, FunD K "_law_good_start" "_law_good_start" (defArgs s_good_start) (defBody s_good_start) (defScope s_good_start) [] [] (He.ga K "_law_good_start") fd := c.d 0 13 (d := dA_good_start) rfl rfl
  obtain ⟨fd_good_step, D_good_step⟩ : ∃ fd, FunD K "_law_good_step" "_law_good_step" (defArgs s_good_step) (defBody s_good_step) (defScope s_good_step) [] [] (He.ga K "_law_good_step") fd := c.d 0 14 (d := dA_good_step) rfl rfl
  obtain ⟨fd_good_states, D_good_states⟩ : ∃ fd, FunD K "_law_good_states" "_law_good_states" (defArgs s_good_states) (defBody s_good_states) (defScope s_good_states) [] [] (He.ga K "_law_good_states") fd := c.d 0 15 (d := dA_good_states) rfl rfl
  obtain ⟨fd_l_is_good, D_l_is_good⟩ : ∃ fd, FunD K "_law_is_good" "_law_is_good" (defArgs s_l_is_good) (defBody s_l_is_good) (defScope s_l_is_good) [] [] (He.ga K "_law_is_good") fd := c.d 0 16 (d := dA_l_is_good) rfl rfl
  obtain ⟨fd_led_row, D_led_row⟩ : ∃ fd, FunD K "_law_led_row" "_law_led_row" (defArgs s_led_row) (defBody s_led_row) (defScope s_led_row) [] [] (He.ga K "_law_led_row") fd := c.d 0 17 (d := dA_led_row) rfl rfl
  obtain ⟨fd_is_word, D_is_word⟩ : ∃ fd, FunD K "is_word" "is_word" (defArgs s_is_word) (defBody s_is_word) (defScope s_is_word) [] [] (He.ga K "is_word") fd := c.d 0 18 (d := dA_is_word) rfl rfl
  obtain ⟨fd_is_integer, D_is_integer⟩ : ∃ fd, FunD K "is_integer" "is_integer" (defArgs s_is_integer) (defBody s_is_integer) (defScope s_is_integer) [] [] (He.ga K "is_integer") fd := c.d 0 19 (d := dA_is_integer) rfl rfl
  obtain ⟨fd_is_list, D_is_list⟩ : ∃ fd, FunD K "is_list" "is_list" (defArgs s_is_list) (defBody s_is_list) (defScope s_is_list) [] [] (He.ga K "is_list") fd := c.d 1 0 (d := dA_is_list) rfl rfl
  obtain ⟨fd_is_modes, D_is_modes⟩ : ∃ fd, FunD K "is_modes" "is_modes" (defArgs s_is_modes) (defBody s_is_modes) (defScope s_is_modes) [] [] (He.ga K "is_modes") fd := c.d 1 1 (d := dA_is_modes) rfl rfl
  obtain ⟨fd_is_field, D_is_field⟩ : ∃ fd, FunD K "is_field" "is_field" (defArgs s_is_field) (defBody s_is_field) (defScope s_is_field) [] [] (He.ga K "is_field") fd := c.d 1 2 (d := dA_is_field) rfl rfl
  obtain ⟨fd_kept_fields, D_kept_fields⟩ : ∃ fd, FunD K "kept_fields" "kept_fields" (defArgs s_kept_fields) (defBody s_kept_fields) (defScope s_kept_fields) [] [] (He.ga K "kept_fields") fd := c.d 1 3 (d := dA_kept_fields) rfl rfl
  obtain ⟨fd_is_many, D_is_many⟩ : ∃ fd, FunD K "is_many" "is_many" (defArgs s_is_many) (defBody s_is_many) (defScope s_is_many) [] [] (He.ga K "is_many") fd := c.d 1 4 (d := dA_is_many) rfl rfl
  obtain ⟨fd_is_deed, D_is_deed⟩ : ∃ fd, FunD K "is_deed" "is_deed" (defArgs s_is_deed) (defBody s_is_deed) (defScope s_is_deed) [] [] (He.ga K "is_deed") fd := c.d 1 5 (d := dA_is_deed) rfl rfl
  obtain ⟨fd_are_moves, D_are_moves⟩ : ∃ fd, FunD K "are_moves" "are_moves" (defArgs s_are_moves) (defBody s_are_moves) (defScope s_are_moves) [] [] (He.ga K "are_moves") fd := c.d 1 6 (d := dA_are_moves) rfl rfl
  obtain ⟨fd_has_call_form, D_has_call_form⟩ : ∃ fd, FunD K "has_call_form" "has_call_form" (defArgs s_has_call_form) (defBody s_has_call_form) (defScope s_has_call_form) [] [] (He.ga K "has_call_form") fd := c.d 1 7 (d := dA_has_call_form) rfl rfl
  obtain ⟨fd_are_deeds, D_are_deeds⟩ : ∃ fd, FunD K "are_deeds" "are_deeds" (defArgs s_are_deeds) (defBody s_are_deeds) (defScope s_are_deeds) [] [] (He.ga K "are_deeds") fd := c.d 1 8 (d := dA_are_deeds) rfl rfl
  obtain ⟨fd_is_same, D_is_same⟩ : ∃ fd, FunD K "is_same" "is_same" (defArgs s_is_same) (defBody s_is_same) (defScope s_is_same) [] [] (He.ga K "is_same") fd := c.d 1 9 (d := dA_is_same) rfl rfl
  obtain ⟨fd_kept_call, D_kept_call⟩ : ∃ fd, FunD K "kept_call" "kept_call" (defArgs s_kept_call) (defBody s_kept_call) (defScope s_kept_call) [] [] (He.ga K "kept_call") fd := c.d 1 10 (d := dA_kept_call) rfl rfl
  obtain ⟨fd_wrong_part, D_wrong_part⟩ : ∃ fd, FunD K "wrong_part" "wrong_part" (defArgs s_wrong_part) (defBody s_wrong_part) (defScope s_wrong_part) [] [] (He.ga K "wrong_part") fd := c.d 1 11 (d := dA_wrong_part) rfl rfl
  obtain ⟨fd_kept_calls, D_kept_calls⟩ : ∃ fd, FunD K "kept_calls" "kept_calls" (defArgs s_kept_calls) (defBody s_kept_calls) (defScope s_kept_calls) [] [] (He.ga K "kept_calls") fd := c.d 1 12 (d := dA_kept_calls) rfl rfl
  obtain ⟨fd_mark_of, D_mark_of⟩ : ∃ fd, FunD K "mark_of" "mark_of" (defArgs s_mark_of) (defBody s_mark_of) (defScope s_mark_of) [] [] (He.ga K "mark_of") fd := c.d 1 13 (d := dA_mark_of) rfl rfl
  obtain ⟨fd_marks_of, D_marks_of⟩ : ∃ fd, FunD K "marks_of" "marks_of" (defArgs s_marks_of) (defBody s_marks_of) (defScope s_marks_of) [] [] (He.ga K "marks_of") fd := c.d 1 14 (d := dA_marks_of) rfl rfl
  obtain ⟨fd_marked, D_marked⟩ : ∃ fd, FunD K "marked" "marked" (defArgs s_marked) (defBody s_marked) (defScope s_marked) [] [] (He.ga K "marked") fd := c.d 1 15 (d := dA_marked) rfl rfl
  obtain ⟨fd_is_rule, D_is_rule⟩ : ∃ fd, FunD K "is_rule" "is_rule" (defArgs s_is_rule) (defBody s_is_rule) (defScope s_is_rule) [] [] (He.ga K "is_rule") fd := c.d 1 16 (d := dA_is_rule) rfl rfl
  obtain ⟨fd_is_good, D_is_good⟩ : ∃ fd, FunD K "is_good" "is_good" (defArgs s_is_good) (defBody s_is_good) (defScope s_is_good) [] [] (He.ga K "is_good") fd := c.d 1 17 (d := dA_is_good) rfl rfl
  obtain ⟨fd_law, D_law⟩ : ∃ fd, FunD K "law" "law" (defArgs s_law) (defBody s_law) (defScope s_law) [] [] (He.ga K "law") fd := c.d 1 18 (d := dA_law) rfl rfl
  obtain ⟨fd_kinit, D_kinit⟩ : ∃ fd, FunD K "__init__" "Kind.__init__" (defArgs s_Kind_init) (defBody s_Kind_init) (defScope s_Kind_init) [] [] (He.ma K (He.ga K "Kind") "__init__") fd := c.d 1 19 (d := dA_kinit) rfl rfl
  obtain ⟨fd_khas, D_khas⟩ : ∃ fd, FunD K "__contains__" "Kind.__contains__" (defArgs s_Kind_contains) (defBody s_Kind_contains) (defScope s_Kind_contains) [] [] (He.ma K (He.ga K "Kind") "__contains__") fd := c.d 2 0 (d := dA_khas) rfl rfl
  obtain ⟨fd_kiter, D_kiter⟩ : ∃ fd, FunD K "__iter__" "Kind.__iter__" (defArgs s_Kind_iter) (defBody s_Kind_iter) (defScope s_Kind_iter) [] [] (He.ma K (He.ga K "Kind") "__iter__") fd := c.d 2 1 (d := dA_kiter) rfl rfl
  obtain ⟨fd_oinit, D_oinit⟩ : ∃ fd, FunD K "__init__" "Orders.__init__" (defArgs s_Orders_init) (defBody s_Orders_init) (defScope s_Orders_init) [] [] (He.ma K (He.ga K "Orders") "__init__") fd := c.d 2 2 (d := dA_oinit) rfl rfl
  obtain ⟨fd_o_start, D_o_start⟩ : ∃ fd, FunD K "start" "Orders.start" (defArgs s_Orders_start) (defBody s_Orders_start) (defScope s_Orders_start) [] [] (He.ma K (He.ga K "Orders") "start") fd := c.d 2 3 (d := dA_o_start) rfl rfl
  obtain ⟨fd_o_place_behind, D_o_place_behind⟩ : ∃ fd, FunD K "place_behind" "Orders.place_behind" (defArgs s_Orders_place_behind) (defBody s_Orders_place_behind) (defScope s_Orders_place_behind) [] [] (He.ma K (He.ga K "Orders") "place_behind") fd := c.d 2 4 (d := dA_o_place_behind) rfl rfl
  obtain ⟨fd_o_contents_behind, D_o_contents_behind⟩ : ∃ fd, FunD K "contents_behind" "Orders.contents_behind" (defArgs s_Orders_contents_behind) (defBody s_Orders_contents_behind) (defScope s_Orders_contents_behind) [] [] (He.ma K (He.ga K "Orders") "contents_behind") fd := c.d 2 5 (d := dA_o_contents_behind) rfl rfl
  obtain ⟨fd_o_keeps_rules, D_o_keeps_rules⟩ : ∃ fd, FunD K "keeps_rules" "Orders.keeps_rules" (defArgs s_Orders_keeps_rules) (defBody s_Orders_keeps_rules) (defScope s_Orders_keeps_rules) [] [] (He.ma K (He.ga K "Orders") "keeps_rules") fd := c.d 2 6 (d := dA_o_keeps_rules) rfl rfl
  obtain ⟨tk_MOST_LETTERS, x_v_MOST_LETTERS⟩ := intB_ok (c.f 4 15 rfl rfl)
  obtain ⟨tk_MOST_FIELDS, x_v_MOST_FIELDS⟩ := intB_ok (c.f 4 16 rfl rfl)
  obtain ⟨tk_MOST_MODES, x_v_MOST_MODES⟩ := intB_ok (c.f 4 17 rfl rfl)
  obtain ⟨tk_MOST_CALLS, x_v_MOST_CALLS⟩ := intB_ok (c.f 4 18 rfl rfl)
  obtain ⟨tk_MOST_DEEDS, x_v_MOST_DEEDS⟩ := intB_ok (c.f 4 19 rfl rfl)
  obtain ⟨tk_DONE, x_v_DONE⟩ := intB_ok (c.f 5 0 rfl rfl)
  obtain ⟨tk_THE_WORD, x_v_THE_WORD⟩ := intB_ok (c.f 5 1 rfl rfl)
  exact all_mk X G hfa
    (of_decide_eq_true (c.f 0 0 rfl rfl))
    D_fresh
    (of_decide_eq_true (c.f 0 1 rfl rfl))
    D_fill
    (of_decide_eq_true (c.f 0 2 rfl rfl))
    D_take
    (of_decide_eq_true (c.f 0 3 rfl rfl))
    D_one
    (of_decide_eq_true (c.f 0 4 rfl rfl))
    D_mix
    (of_decide_eq_true (c.f 0 5 rfl rfl))
    D_same
    (of_decide_eq_true (c.f 0 6 rfl rfl))
    D_plan
    (of_decide_eq_true (c.f 0 7 rfl rfl))
    D_row_of
    (of_decide_eq_true (c.f 0 8 rfl rfl))
    D_deeds
    (of_decide_eq_true (c.f 0 9 rfl rfl))
    D_call
    (of_decide_eq_true (c.f 0 10 rfl rfl))
    D_kind
    (of_decide_eq_true (c.f 0 11 rfl rfl))
    D_alone
    (of_decide_eq_true (c.f 0 12 rfl rfl))
    D_rules
    (of_decide_eq_true (c.f 0 13 rfl rfl))
    D_good_start
    (of_decide_eq_true (c.f 0 14 rfl rfl))
    D_good_step
    (of_decide_eq_true (c.f 0 15 rfl rfl))
    D_good_states
    (of_decide_eq_true (c.f 0 16 rfl rfl))
    D_l_is_good
    (of_decide_eq_true (c.f 0 17 rfl rfl))
    D_led_row
    (of_decide_eq_true (c.f 0 18 rfl rfl))
    D_is_word
    (of_decide_eq_true (c.f 0 19 rfl rfl))
    D_is_integer
    (of_decide_eq_true (c.f 1 0 rfl rfl))
    D_is_list
    (of_decide_eq_true (c.f 1 1 rfl rfl))
    D_is_modes
    (of_decide_eq_true (c.f 1 2 rfl rfl))
    D_is_field
    (of_decide_eq_true (c.f 1 3 rfl rfl))
    D_kept_fields
    (of_decide_eq_true (c.f 1 4 rfl rfl))
    D_is_many
    (of_decide_eq_true (c.f 1 5 rfl rfl))
    D_is_deed
    (of_decide_eq_true (c.f 1 6 rfl rfl))
    D_are_moves
    (of_decide_eq_true (c.f 1 7 rfl rfl))
    D_has_call_form
    (of_decide_eq_true (c.f 1 8 rfl rfl))
    D_are_deeds
    (of_decide_eq_true (c.f 1 9 rfl rfl))
    D_is_same
    (of_decide_eq_true (c.f 1 10 rfl rfl))
    D_kept_call
    (of_decide_eq_true (c.f 1 11 rfl rfl))
    D_wrong_part
    (of_decide_eq_true (c.f 1 12 rfl rfl))
    D_kept_calls
    (of_decide_eq_true (c.f 1 13 rfl rfl))
    D_mark_of
    (of_decide_eq_true (c.f 1 14 rfl rfl))
    D_marks_of
    (of_decide_eq_true (c.f 1 15 rfl rfl))
    D_marked
    (of_decide_eq_true (c.f 1 16 rfl rfl))
    D_is_rule
    (of_decide_eq_true (c.f 1 17 rfl rfl))
    D_is_good
    (of_decide_eq_true (c.f 1 18 rfl rfl))
    D_law
    (of_decide_eq_true (c.f 1 19 rfl rfl))
    (of_decide_eq_true (c.f 2 0 rfl rfl))
    (of_decide_eq_true (c.f 2 1 rfl rfl))
    D_kinit
    (c.f 2 2 rfl rfl)
    (of_decide_eq_true (c.f 2 3 rfl rfl))
    D_khas
    (c.f 2 4 rfl rfl)
    (of_decide_eq_true (c.f 2 5 rfl rfl))
    D_kiter
    (c.f 2 6 rfl rfl)
    (of_decide_eq_true (c.f 2 7 rfl rfl))
    (of_decide_eq_true (c.f 2 8 rfl rfl))
    D_oinit
    (c.f 2 9 rfl rfl)
    (of_decide_eq_true (c.f 2 10 rfl rfl))
    D_o_start
    (c.f 2 11 rfl rfl)
    (of_decide_eq_true (c.f 2 12 rfl rfl))
    D_o_place_behind
    (c.f 2 13 rfl rfl)
    (of_decide_eq_true (c.f 2 14 rfl rfl))
    D_o_contents_behind
    (c.f 2 15 rfl rfl)
    (of_decide_eq_true (c.f 2 16 rfl rfl))
    D_o_keeps_rules
    (c.f 2 17 rfl rfl)
    (c.f 2 18 rfl rfl)
    (c.f 2 19 rfl rfl)
    (c.f 3 0 rfl rfl)
    (c.f 3 1 rfl rfl)
    (c.f 3 2 rfl rfl)
    (of_decide_eq_true (c.f 3 3 rfl rfl))
    (of_decide_eq_true (c.f 3 4 rfl rfl))
    (of_decide_eq_true (c.f 3 5 rfl rfl))
    (of_decide_eq_true (c.f 3 6 rfl rfl))
    (of_decide_eq_true (c.f 3 7 rfl rfl))
    (of_decide_eq_true (c.f 3 8 rfl rfl))
    (of_decide_eq_true (c.f 3 9 rfl rfl))
    (c.f 3 10 rfl rfl)
    (c.f 3 11 rfl rfl)
    (c.f 3 12 rfl rfl)
    (c.f 3 13 rfl rfl)
    (c.f 3 14 rfl rfl)
    (of_decide_eq_true (c.f 3 15 rfl rfl))
    (of_decide_eq_true (c.f 3 16 rfl rfl))
    (of_decide_eq_true (c.f 3 17 rfl rfl))
    (of_decide_eq_true (c.f 3 18 rfl rfl))
    (of_decide_eq_true (c.f 3 19 rfl rfl))
    (of_decide_eq_true (c.f 4 0 rfl rfl))
    (of_decide_eq_true (c.f 4 1 rfl rfl))
    (of_decide_eq_true (c.f 4 2 rfl rfl))
    (of_decide_eq_true (c.f 4 3 rfl rfl))
    (of_decide_eq_true (c.f 4 4 rfl rfl))
    (of_decide_eq_true (c.f 4 5 rfl rfl))
    (of_decide_eq_true (c.f 4 6 rfl rfl))
    (of_decide_eq_true (c.f 4 7 rfl rfl))
    (of_decide_eq_true (c.f 4 8 rfl rfl))
    (of_decide_eq_true (c.f 4 9 rfl rfl))
    (of_decide_eq_true (c.f 4 10 rfl rfl))
    (of_decide_eq_true (c.f 4 11 rfl rfl))
    (of_decide_eq_true (c.f 4 12 rfl rfl))
    (of_decide_eq_true (c.f 4 13 rfl rfl))
    (of_decide_eq_true (c.f 4 14 rfl rfl))
    x_v_MOST_LETTERS
    x_v_MOST_FIELDS
    x_v_MOST_MODES
    x_v_MOST_CALLS
    x_v_MOST_DEEDS
    x_v_DONE
    x_v_THE_WORD
    (of_decide_eq_true (c.f 5 2 rfl rfl))
    (c.f 5 3 rfl rfl)
    (of_decide_eq_true (c.f 5 4 rfl rfl))
    (c.f 5 5 rfl rfl)
    (of_decide_eq_true (c.f 5 6 rfl rfl))
    (c.f 5 7 rfl rfl)
    (of_decide_eq_true (c.f 5 8 rfl rfl))
    (of_decide_eq_true (c.f 5 9 rfl rfl))
    (c.f 5 10 rfl rfl)
    (of_decide_eq_true (c.f 5 11 rfl rfl))
    (c.f 5 12 rfl rfl)
    (of_decide_eq_true (c.f 5 13 rfl rfl))
    (c.f 5 14 rfl rfl)
    (of_decide_eq_true (c.f 5 15 rfl rfl))
    (c.f 5 16 rfl rfl)
    (of_decide_eq_true (c.f 5 17 rfl rfl))
    (c.f 5 18 rfl rfl)
    (c.t 0 rfl)
end MK
open PySem PySem.W PySem.Calls PyProof.Rows in
set_option maxRecDepth 100000 in
set_option maxHeartbeats 0 in
theorem PySem.Challenge.cw_makerlines_k31_good_rows_holds : PySem.Challenge.rw_makerlines_k31_good_rows.Holds := by
  w_on; o_law
  refine HandSHeadRun.head_any (r := OpenLaw.row PySem.Challenge.rw_makerlines_k31_good_rows) (q := view (OpenLaw.row PySem.Challenge.rw_makerlines_k31_good_rows).prog [66]) (H := MK.hk) (ob := MK.ob) (M := 15000) (loose := MK.names) (d := HandSHeadRun.topDef (OpenLaw.row PySem.Challenge.rw_makerlines_k31_good_rows).prog 66) (kwd := []) MK.ob_eq
    (by kernel_rfl) (fun s => by kernel_rfl) MK.run (by kernel_rfl) (by kernel_rfl) (by kernel_rfl) (by rfl) (by first | assumption | decide +kernel) (by decide +kernel) ⟨rfl, rfl, rfl, rfl, rfl, by decide +kernel⟩ ?hw ?hc
  case hw => w_witness2
  case hc =>
    refine MK.walk_plE (l := PySem.Challenge.rw_makerlines_k31_good_rows) (k := 10) (x := "_law_script") (by rfl) (by kernel_rfl) ⟨rfl, by decide, by decide⟩ (by kernel_rfl) ?F
    intro w mg fa h Y G hmg
    obtain ⟨K, KX, c⟩ := Y
    exact ⟨K, KX, MK.facts KX G hmg c⟩
#print axioms PySem.Challenge.cw_makerlines_k31_good_rows_holds
